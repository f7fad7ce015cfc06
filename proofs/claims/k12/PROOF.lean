import PyProof.Rows.All
import Wide.All
import OpenK.AllK
import Wide.FinOn
import Lean
import PyProof.EqAt
import PyProof.EqKinds
import PyProof.TupleCall
import PySem.Challenge.RW_tonguegate_k12_no_picture
section
variable{r:Prop}{α β γ δ ε η ι κ μ:Type}
section
variable{A B C D E F G H I J:Prop}
theorem Ξ02(h:A∧B)(k:A→B→r):r:=k h.1 h.2
theorem Ξ03(h:A∧B∧C)(k:A→B→C→r):r:=k h.1 h.2.1 h.2.2
theorem Ξ04(h:A∧B∧C∧D)(k:A→B→C→D→r):r:=k h.1 h.2.1 h.2.2.1 h.2.2.2
theorem Ξ05(h:A∧B∧C∧D∧E)(k:A→B→C→D→E→r):r:=k h.1 h.2.1 h.2.2.1 h.2.2.2.1 h.2.2.2.2
theorem Ξ06(h:A∧B∧C∧D∧E∧F)(k:A→B→C→D→E→F→r):r:=k h.1 h.2.1 h.2.2.1 h.2.2.2.1 h.2.2.2.2.1 h.2.2.2.2.2
theorem Ξ07(h:A∧B∧C∧D∧E∧F∧G)(k:A→B→C→D→E→F→G→r):r:=k h.1 h.2.1 h.2.2.1 h.2.2.2.1 h.2.2.2.2.1 h.2.2.2.2.2.1 h.2.2.2.2.2.2
theorem Ξ08(h:A∧B∧C∧D∧E∧F∧G∧H)(k:A→B→C→D→E→F→G→H→r):r:=k h.1 h.2.1 h.2.2.1 h.2.2.2.1 h.2.2.2.2.1 h.2.2.2.2.2.1 h.2.2.2.2.2.2.1 h.2.2.2.2.2.2.2
theorem Ξ09(h:A∧B∧C∧D∧E∧F∧G∧H∧I)(k:A→B→C→D→E→F→G→H→I→r):r:=k h.1 h.2.1 h.2.2.1 h.2.2.2.1 h.2.2.2.2.1 h.2.2.2.2.2.1 h.2.2.2.2.2.2.1 h.2.2.2.2.2.2.2.1 h.2.2.2.2.2.2.2.2
theorem Ξ010(h:A∧B∧C∧D∧E∧F∧G∧H∧I∧J)(k:A→B→C→D→E→F→G→H→I→J→r):r:=k h.1 h.2.1 h.2.2.1 h.2.2.2.1 h.2.2.2.2.1 h.2.2.2.2.2.1 h.2.2.2.2.2.2.1 h.2.2.2.2.2.2.2.1 h.2.2.2.2.2.2.2.2.1 h.2.2.2.2.2.2.2.2.2
end
section
variable{A B C D E:α→Prop}
theorem Ξ11(h:∃x,A x)(k:∀x,A x→r):r:=h.elim k
theorem Ξ12(h:∃x,A x∧B x)(k:∀x,A x→B x→r):r:=Ξ11 h λx h=>Ξ02 h (k x)
theorem Ξ13(h:∃x,A x∧B x∧C x)(k:∀x,A x→B x→C x→r):r:=Ξ11 h λx h=>Ξ03 h (k x)
theorem Ξ14(h:∃x,A x∧B x∧C x∧D x)(k:∀x,A x→B x→C x→D x→r):r:=Ξ11 h λx h=>Ξ04 h (k x)
theorem Ξ15(h:∃x,A x∧B x∧C x∧D x∧E x)(k:∀x,A x→B x→C x→D x→E x→r):r:=Ξ11 h λx h=>Ξ05 h (k x)
end
section
variable{A B C D E F:α→β→Prop}
theorem Ξ21(h:∃x y,A x y)(k:∀x y,A x y→r):r:=h.elim λx h=>Ξ11 h (k x)
theorem Ξ22(h:∃x y,A x y∧B x y)(k:∀x y,A x y→B x y→r):r:=Ξ21 h λx y h=>Ξ02 h (k x y)
theorem Ξ23(h:∃x y,A x y∧B x y∧C x y)(k:∀x y,A x y→B x y→C x y→r):r:=Ξ21 h λx y h=>Ξ03 h (k x y)
theorem Ξ24(h:∃x y,A x y∧B x y∧C x y∧D x y)(k:∀x y,A x y→B x y→C x y→D x y→r):r:=Ξ21 h λx y h=>Ξ04 h (k x y)
theorem Ξ25(h:∃x y,A x y∧B x y∧C x y∧D x y∧E x y)(k:∀x y,A x y→B x y→C x y→D x y→E x y→r):r:=Ξ21 h λx y h=>Ξ05 h (k x y)
theorem Ξ26(h:∃x y,A x y∧B x y∧C x y∧D x y∧E x y∧F x y)(k:∀x y,A x y→B x y→C x y→D x y→E x y→F x y→r):r:=Ξ21 h λx y h=>Ξ06 h (k x y)
end
section
variable{A B C D E F:α→β→γ→Prop}
theorem Ξ31(h:∃x y z,A x y z)(k:∀x y z,A x y z→r):r:=h.elim λx h=>Ξ21 h (k x)
theorem Ξ32(h:∃x y z,A x y z∧B x y z)(k:∀x y z,A x y z→B x y z→r):r:=Ξ31 h λx y z h=>Ξ02 h (k x y z)
theorem Ξ33(h:∃x y z,A x y z∧B x y z∧C x y z)(k:∀x y z,A x y z→B x y z→C x y z→r):r:=Ξ31 h λx y z h=>Ξ03 h (k x y z)
theorem Ξ34(h:∃x y z,A x y z∧B x y z∧C x y z∧D x y z)(k:∀x y z,A x y z→B x y z→C x y z→D x y z→r):r:=Ξ31 h λx y z h=>Ξ04 h (k x y z)
theorem Ξ35(h:∃x y z,A x y z∧B x y z∧C x y z∧D x y z∧E x y z)(k:∀x y z,A x y z→B x y z→C x y z→D x y z→E x y z→r):r:=Ξ31 h λx y z h=>Ξ05 h (k x y z)
theorem Ξ36(h:∃x y z,A x y z∧B x y z∧C x y z∧D x y z∧E x y z∧F x y z)(k:∀x y z,A x y z→B x y z→C x y z→D x y z→E x y z→F x y z→r):r:=Ξ31 h λx y z h=>Ξ06 h (k x y z)
end
section
variable{A B C D E:α→β→γ→δ→Prop}
theorem Ξ41(h:∃x y z w,A x y z w)(k:∀x y z w,A x y z w→r):r:=h.elim λx h=>Ξ31 h (k x)
theorem Ξ44(h:∃x y z w,A x y z w∧B x y z w∧C x y z w∧D x y z w)(k:∀x y z w,A x y z w→B x y z w→C x y z w→D x y z w→r):r:=Ξ41 h λx y z w h=>Ξ04 h (k x y z w)
theorem Ξ45(h:∃x y z w,A x y z w∧B x y z w∧C x y z w∧D x y z w∧E x y z w)(k:∀x y z w,A x y z w→B x y z w→C x y z w→D x y z w→E x y z w→r):r:=Ξ41 h λx y z w h=>Ξ05 h (k x y z w)
end
section
variable{A:α→β→γ→δ→ε→Prop}
theorem Ξ51(h:∃x y z w u,A x y z w u)(k:∀x y z w u,A x y z w u→r):r:=h.elim λx h=>Ξ41 h (k x)
end
section
variable{A:α→β→γ→δ→ε→η→Prop}
theorem Ξ61(h:∃x y z w u v,A x y z w u v)(k:∀x y z w u v,A x y z w u v→r):r:=h.elim λx h=>Ξ51 h (k x)
end
section
variable{A:α→β→γ→δ→ε→η→ι→Prop}
theorem Ξ71(h:∃x y z w u v s,A x y z w u v s)(k:∀x y z w u v s,A x y z w u v s→r):r:=h.elim λx h=>Ξ61 h (k x)
end
section
variable{A:α→β→γ→δ→ε→η→ι→κ→μ→Prop}
theorem Ξ91(h:∃x y z w u v s t p,A x y z w u v s t p)(k:∀x y z w u v s t p,A x y z w u v s t p→r):r:=h.elim λx h=>h.elim λy h=>h.elim λz h=>h.elim λw h=>h.elim λu h=>h.elim λv h=>h.elim λs h=>h.elim λt h=>h.elim λp h=>k x y z w u v s t p h
end
theorem Ψ2{P:α→β→Prop}(x:α)(y:β)(h:P x y):∃x y,P x y:=⟨x,y,h⟩
theorem Ψ3{P:α→β→γ→Prop}(x:α)(y:β)(z:γ)(h:P x y z):∃x y z,P x y z:=⟨x,y,z,h⟩
theorem Ψ4{P:α→β→γ→δ→Prop}(x:α)(y:β)(z:γ)(w:δ)(h:P x y z w):∃x y z w,P x y z w:=⟨x,y,z,w,h⟩
theorem Ψ5{P:α→β→γ→δ→ε→Prop}(x:α)(y:β)(z:γ)(w:δ)(u:ε)(h:P x y z w u):∃x y z w u,P x y z w u:=⟨x,y,z,w,u,h⟩
theorem Ψ6{P:α→β→γ→δ→ε→η→Prop}(x:α)(y:β)(z:γ)(w:δ)(u:ε)(v:η)(h:P x y z w u v):∃x y z w u v,P x y z w u v:=⟨x,y,z,w,u,v,h⟩
theorem Ψ7{P:α→β→γ→δ→ε→η→ι→Prop}(x:α)(y:β)(z:γ)(w:δ)(u:ε)(v:η)(s:ι)(h:P x y z w u v s):∃x y z w u v s,P x y z w u v s:=⟨x,y,z,w,u,v,s,h⟩
theorem Ψ9{P:α→β→γ→δ→ε→η→ι→κ→μ→Prop}(x:α)(y:β)(z:γ)(w:δ)(u:ε)(v:η)(s:ι)(t:κ)(p:μ)(h:P x y z w u v s t p):∃x y z w u v s t p,P x y z w u v s t p:=⟨x,y,z,w,u,v,s,t,p,h⟩
end
open Lean in
local macro_rules
|`(tactic|let ⟨$ps,*⟩:=$h)=>do
 let mut b:Array Term:=#[];let mut t←`(tactic|skip)
 for p in ps.getElems do
  if p.raw.isOfKind ``Parser.Term.anonymousCtor||p.raw.getId==`rfl then
   let z←withFreshMacroScope `(z);b:=b.push z
   if p.raw.isIdent then t←`(tactic|($t;subst $z:term))else t←`(tactic|($t;let $p:term:=$z))
  else b:=b.push p
 unless b.any (·.raw.getId==h.raw.getId)||!h.raw.isIdent do t←`(tactic|((try clear $(⟨h⟩));$t))
 let mut a←`(tactic|fail)
 let g(n m:Nat):=mkIdent (.mkSimple s!"Ξ{n}{m}")
 for i in [0:b.size]do
  let m:=b.size-i
  if m*i==0||m==1||[(1,2),(1,3),(1,4),(1,5),(2,2),(2,3),(2,4),(2,5),(2,6),(3,2),(3,3),(3,4),(3,5),(3,6),(4,4),(4,5)].contains (i,m)then a←`(tactic|first|refine $(g i m) $h fun $b* =>?_|$a:tactic)
  else a←`(tactic|first|(refine $(g i 1) $h fun $(b[:i])* z=>$(g 0 m) z fun $(b[i:])* =>?_;clear z)|$a:tactic)
 `(tactic|($a;$t))
|`(tactic|intro $ps*)=>do
 unless ps.any fun p=>p.raw.isOfKind ``Parser.Term.anonymousCtor||p.raw.getId==`rfl do Macro.throwUnsupported
 let mut t←`(tactic|skip)
 for p in ps do
  if p.raw.isOfKind ``Parser.Term.anonymousCtor then t←`(tactic|($t;intro z;let $p:term:=z))
  else if p.raw.getId==`rfl then t←`(tactic|($t;intro z;subst z))
  else t←`(tactic|($t;intro $p:term))
 return t
|`(tactic|show $e)=>`(tactic|first|refine $e|change $e)
|`(tactic|lia)=>`(tactic|omega)
|`($m:declModifiers def $i $b* :$t $v:declVal)=>do if m.raw.getArgs.any (·.getNumArgs != 0)then Macro.throwUnsupported else`($m:declModifiers theorem $i $b* :$t $v:declVal)
|`($_:declModifiers abbrev $i $b* :$t $v:declVal)=>`(noncomputable def $i $b* :$t $v:declVal)
|`(tactic|let $d:letDecl)=>`(tactic|have $d:letDecl)
noncomputable section
open PySem in abbrev xz:=Value→Shared→Prop
open PySem in abbrev ac:=Str→Option Value
open PySem in abbrev ad:=List (Addr×Obj)
def A5:=@PySem.wpAny_bind
def Al:=@PySem.Heap.get?_push_of_some
def Ac:=@List.length_map
def AG:=@PySem.wpAny_pure
def BZ:=@List.getElem?_eq_getElem
def Ao:=@List.map_append
def B9:=@List.length_append
def aah:=@List.mem_cons
def BN:=@Bool.false_ne_true
def Ar:=@List.map_cons
def BE:=@List.length_cons
def BI:=@List.not_mem_nil
def Aq:=@PySem.Heap.lt_size
def Ak:=@Nat.le_refl
def aao:=@List.getElem?_eq_some_iff
def Bg:=@List.size_toArray
def CQ:=@List.mem_of_getElem?
def B7:=@Nat.le_of_lt
def CM:=@PySem.Heap.get?_push_size
def aat:=@List.mem_singleton
def aau:=@List.mem_map
def Bz:=@List.append_nil
def AH:=@if_neg
def CZ:=@List.getElem?_map
def D6:=@Nat.lt_of_lt_of_le
def AI:=@if_pos
def Bp:=@Nat.ne_of_lt
def Cd:=@PySem.boot_len
def aaC:=@List.mem_append
def ED:=@Array.length_toList
def aaE:=@List.all_eq_true
def C3:=@PySem.wpAny_field
def ET:=@List.mem_cons_of_mem
def CT:=@List.map_map
def Eh:=@List.getElem?_eq_none
def DY:=@decide_eq_false
def Fi:=@List.getElem?_append_right
def D9:=@List.cons.inj
def CP:=@PySem.sizeLine_eq
def E9:=@List.flatten_cons
def G3:=@List.getElem?_append_left
def FJ:=@PySem.Heap.get?_update_other
def CV:=@Nat.zero_le
def Dp:=@decide_eq_true
def FL:=@List.mem_append_right
def HH:=@PySem.F.excBase_ValueError
def EC:=@Option.some.inj
def DN:=@Nat.le_trans
def Ec:=@of_decide_eq_true
def aaX:=@PyProof.Rows.slot_tuple_getitem
def Ej:=@PySem.wpAny_newObj_type
def EA:=@PySem.wpAny_seqItems
def Er:=@List.length_take
def Dx:=@PySem.wpAny_holding
def HM:=@PySem.wpAny_callSpecial?_slot
def EB:=@PySem.W.mg_of
def F4:=@List.length_drop
def FI:=@Bool.and_eq_true
def Fn:=@of_decide_eq_false
def HS:=@PySem.F.plainAttrs_list
def DC:=@PySem.wpAny_mono
def Gg:=@List.replicate_succ
def Eg:=@PySem.Heap.size_push
def Ii:=@PyProof.Rows.callWith_type1
def Gd:=@List.mem_cons_self
def F8:=@PySem.PassesOwn.never
def Ca:=@congrArg
def ID:=@List.take_of_length_le
def FZ:=@PySem.wpAny_call_entry
def abh:=@List.mem_filterMap
def GS:=@Bool.not_eq_true
def FT:=@Bool.false_and
def D7:=@or_false
def FH:=@Nat.lt_irrefl
def Cu:=@PyProof.Rows.wpS_bind
def GO:=@PySem.W.kia_one
def abo:=@List.nodup_cons
def EP:=@PySem.wpAny_of_eq
def LY:=@List.eq_nil_of_length_eq_zero
def F6:=@Nat.zero_add
def Iw:=@List.length_replicate
def GZ:=@PySem.F.slot_zip_next
def J4:=@PySem.Heap.get?_update_self
def abw:=@Array.perm_iff_toList_perm
def Ij:=@PySem.Around.under_plainId
def Ia:=@Nat.lt_succ_of_lt
def KG:=@PyProof.Rows.boot_all
def II:=@PySem.wpAny_truthy_bool
def L0:=@PySem.F.type_list_append
def LQ:=@PySem.F.slot_list_append
def Ig:=@List.cons_append
def KN:=@List.mem_of_mem_drop
def O0:=@PyProof.Rows.boot_isinstance
def HK:=@List.all_cons
def Hl:=@Nat.mul_le_mul
def GQ:=@List.map_nil
def HQ:=@List.drop_zero
def Gh:=@Int.pow_succ
def Hy:=@List.of_mem_zip
def IP:=@List.nil_append
def JN:=@List.getElem_of_mem
def IH:=@List.find?_cons
def Hv:=@Int.natCast_add
def HB:=@PySem.plainId_quiet
def Dv:=@PyProof.Rows.wpS_pure
def Fc:=@PySem.wpAny_letGo
def Ib:=@PySem.codeAny_builtin
def abU:=@List.mem_replicate
def Jy:=@Int.emod_lt_of_pos
def Js:=@PySem.Heap.SameBut.update
def Hk:=@Bool.true_and
def Lu:=@List.mem_of_mem_take
def Hm:=@PySem.wpAny_attempt
def JO:=@PySem.wpAny_Call_Name_kw
def Du:=@Ne.symm
def JK:=@List.forIn_cons
def Jx:=@List.ext_getElem?
def Jc:=@Int.toNat_natCast
def Hu:=@Nat.ne_of_gt
def L7:=@List.map_congr_left
def L6:=@PySem.wpAny_updateSeq_pair
def JF:=@PySem.wpAny_updateSeq
def J6:=@PySem.wpAny_specialOf
def Fz:=@PySem.wpAny_rule
def acb:=@List.mem_range
def Lz:=@List.zip_cons_cons
def LZ:=@PySem.F.plain_extend_loop
def Nm:=@PyProof.Rows.boot_max
def Hf:=@Nat.le_succ
def Md:=@List.eq_nil_or_concat
def OE:=@List.concat_eq_append
def JW:=@Int.natCast_mul
def JL:=@Int.emod_nonneg
def K3:=@PySem.F.plain_max_loop
def O1:=@Array.getElem?_toList
def JH:=@List.any_cons
def KJ:=@PySem.wpAny_passesOwn
def O2:=@PySem.builtinLookup_eq_fast
def Ju:=@List.forIn_nil
def Ji:=@List.drop_drop
def Im:=@PySem.wpAny_onRaise
def Mn:=@PySem.mem_of_lookup
def NU:=@Nat.mul_le_mul_left
def MV:=@List.filterMap_cons
def Lg:=@PySem.F.args_zip_next_1
def acz:=@Option.isSome_iff_exists
def Rk:=@PySem.F.slot_tuple_iterator_next
def O9:=@Nat.lt_of_le_of_lt
def LU:=@Bool.eq_iff_iff
def Li:=@PySem.Heap.size_update
def LO:=@PySem.F.entry_zip_next
def Iy:=@PySem.wpAny_typeOf
def QU:=@List.drop_of_length_le
def acH:=@List.not_lt
def ND:=@List.nodup_append
def O4:=@List.length_range
def Mw:=@PySem.wpAny_pyIter_tuple
def P4:=@List.getElem?_toArray
def TK:=@Int.mul_le_mul_of_nonneg_right
def NM:=@decide_eq_decide
def Mu:=@Nat.le_add_right
def dP:=@List.take_append_of_le_length
def acQ:=@List.mem_flatten
def Mc:=@List.getElem_mem
def S8:=@List.drop_append_of_le_length
def Ra:=@Nat.mul_le_mul_right
def P0:=@List.getElem?_of_mem
def OB:=@PySem.Heap.get?_push_ne
def Nx:=@Nat.min_eq_left
def Ql:=@Nat.add_le_add_left
def R2:=@Array.toList_append
def JR:=@PyProof.Rows.listUpdate_at
def ac0:=@Array.getElem?_eq_some_iff
def HV:=@if_false
def Lw:=@Nat.succ_mul
def M2:=@Nat.add_comm
def ac4:=@List.pairwise_cons
def Lm:=@Int.mul_comm
def Py:=@Bool.false_eq_true
def Qj:=@Array.append_assoc
def Gi:=@if_true
def ac9:=@List.pairwise_iff_getElem
def Td:=@Array.getElem?_eq_getElem
def Ni:=@PySem.typeLookup_type
def S1:=@decide_eq_true_eq
def adf:=@beq_iff_eq
def a8:=@PySem.F.args_tuple_add_2
def Qb:=@Nat.le_succ_of_le
def Qw:=@List.reverse_cons
def adj:=@List.pairwise_map
def Oj:=@List.append_assoc
def Ko:=@PyProof.Rows.wpS_forRange
def Y0:=@decide_eq_false_iff_not
def SU:=@PySem.F.entry_tuple_add
def LN:=@Nat.one_mul
def Tu:=@Nat.add_sub_cancel_left
def LB:=@Nat.add_mul
def Np:=@List.sum_cons
def RF:=@PySem.Obj.data_mapFields
def Rc:=@Nat.lt_succ_self
def Qh:=@Nat.le_max_right
def OR:=@List.zipIdx_cons
def PB:=@List.drop_length
def Ox:=@Array.toList_map
def O6:=@PySem.wpAny_tryCatch
def OF:=@PySem.wpAny_newTuple
def aM:=@PySem.W.cellsFrom_some
def UG:=@PySem.F.slot_tuple_add
def cS:=@PySem.F.plainAttrs_str
def Ts:=@List.getElem?_set_self
def ba:=@List.find?_cons_of_pos
def XF:=@List.find?_cons_of_neg
def bI:=@PySem.wpAny_comprehension_free
def KD:=@PySem.call_meets
def c8:=@PySem.F.type_str_join
def bg:=@PySem.F.slot_str_join
def SA:=@PyProof.Rows.boot_sum
def bo:=@PyProof.Rows.boot_min
def OA:=@Nat.sub_zero
def OD:=@Nat.sub_self
def RE:=@Nat.le_max_left
def Rg:=@List.zipIdx_nil
def UD:=@List.take_append_drop
def aB:=@List.length_singleton
def RD:=@List.foldl_cons
def TO:=@List.dropLast_eq_take
def cf:=@Int.emod_add_mul_ediv
def OQ:=@Array.Perm.refl
def L9:=@PySem.bm_if_false
def SO:=@List.mem_append_left
def bV:=@List.getElem?_set_ne
def OP:=@PySem.wpAny_isInstance
def LL:=@PyProof.Rows.listItems_at
def ad2:=@beq_eq_false_iff_ne
def X3:=@List.length_reverse
def ax:=@List.flatten_append
def ai:=@PySem.Calls.callWith_builtin
def OS:=@PySem.wpAny_execs_nil
def bq:=@decide_eq_true_iff
def O8:=@PySem.codeAny_mono
def TS:=@List.filterMap_map
def OL:=@PySem.F.bm_plain_loop
def Ye:=@Array.forIn_toList
def bK:=@PySem.Calls.evalArgs_plain
def PV:=@PySem.wpAny_setField
def Nn:=@PySem.wpAny_mkStr
def VW:=@List.take_length
def Ub:=@List.map_reverse
def XI:=@List.flatten_nil
def X2:=@List.append_inj'
def iV:=@Int.mul_le_mul_of_nonneg_left
def Zm:=@PySem.F.entry_extend_loop
def af:=@Array.toList_zip
def aem:=@Array.toList_inj
def P9:=@PySem.wpAny_standAt
def OX:=@PySem.wpAny_newList
def Rt:=@PySem.Paired.length
def Qx:=@Nat.pow_pos
def dO:=@Nat.not_lt_zero
def Vz:=@List.sum_append
def aet:=@List.mem_filter
def TP:=@List.length_nil
def T8:=@PySem.Calls.spliced_cons
def TN:=@Bool.or_eq_true
def lj:=@Array.getD_eq_getD_getElem?
def Rr:=@PyProof.Rows.get?_update_seq
def dJ:=@PySem.wpAny_sequenceKey
def ao:=@PySem.wpAny_pyIter_list
def OG:=@PySem.wpAny_call
def aeC:=@PySem.slot_list_getitem
def bX:=@List.take_zero
def eT:=@List.drop_eq_getElem_cons
def cL:=@PySem.Calls.spliced_nil
def TM:=@Array.size_map
def Pg:=@PySem.concat_meets
def lC:=@PySem.F.type_list_extend
def kY:=@PySem.F.slot_list_extend
def TH:=@PySem.wpAny_pyIter_zip
def S3:=@PyProof.Rows.slicePart_none
def VK:=@PySem.noFill_tuple_add
def kW:=@PySem.F.slot_list_index
def ft:=@List.getElem?_replicate
def fv:=@List.getElem?_cons_succ
def aeQ:=@PySem.F.slot_tuple_mul
def cK:=@PySem.F.entry_max_loop
def aF:=@Bool.and_true
set_option Elab.async false
set_option linter.all false
set_option maxRecDepth 100000
set_option maxHeartbeats 1000000
set_option maxHeartbeats 4000000
namespace L2
open PySem PySem.Spec PyProof.Rows
variable {xs vs:List V}{us:List Value}{x qual:Str}{u:Value}{H:A7}{a b it dx:Addr}{o:HO}{P:Program}{w:World}{h base:Heap}{g':Array GenState}{t' i j k n:Nat}{d':Drawn}{ch fp:List Addr}{e c tg l:Expr}{N ps:List Str}{M:Model}{A:Around}{E Q:xz}{v y:V}{s' s:Shared}{X: Cx}{t: CW}{pos p: Pos}{x0:ad}{σ:St}{K:W.Frag}{D:Ends}{f:Value→Value→Sem Value}{tc:Cp}{es: List Expr}{te tb ta: Am}{g:Int→Int→Int}{pos':Pos}{body:List Stmt}{H': A7}{tl:Am}{lo:Int}{r:Dm}{mA mg:ac}{CX:Gu}{fd:FuncData}{sp:Dn}{outer:List Env}{kindOf:Str→Option NameKind}{scope:Scope}{h': Heap}
abbrev Ap:=Sum Int Str
abbrev M3:Ap→Value→Bool
 |.inl k,v=>Value.isInt k v
 |.inr x,v=>Value.isStrOf x v
abbrev ud(w:World):Ap→Int
 |.inl k=>hashInt k
 |.inr x=>hashStr w x
def IF:∀{k:Ap} {v:Value},M3 k v=true→(∃i t,k=Sum.inl i∧v=Value.int i t)∨(∃x t,k=Sum.inr x∧v=Value.str x t)
 |.inl i,v,h=>by
  let⟨t,e⟩:=Value.isInt_shape (k:=i) (v:=v) h;show .inl ⟨i,t,rfl,e⟩
 |.inr x,v,h=>by
  let⟨t,e⟩:=Value.isStrOf_shape (x:=x) (v:=v) h;show .inr ⟨x,t,rfl,e⟩
def vY(i:Int)(t:Tok):M3 (.inl i) (.int i t)=true:=by simp[M3,Value.isInt]
def vA(x:Str)(t:Tok):M3 (.inr x) (.str x t)=true:=by simp[M3,Value.isStrOf]
def aeb(a b:Int):decide ((Sum.inl a:Ap)=Sum.inl b)=(a==b):=by
 by_cases e:a=b
 ·subst e;simp
 ·let h:¬(Sum.inl a:Ap)=Sum.inl b:=λq=>e (Sum.inl.inj q)
  rw[DY h];show(ad2.mpr e).symm
def sh(a b:Str):decide ((Sum.inr a:Ap)=Sum.inr b)=decide (a=b):=by
 by_cases e:a=b
 ·subst e;simp
 ·let h:¬(Sum.inr a:Ap)=Sum.inr b:=λq=>e (Sum.inr.inj q)
  rw[DY h,DY e]
def aan(a:Int)(b:Str):decide ((Sum.inl a:Ap)=Sum.inr b)=false:=DY (λq=>nomatch q)
def si(a:Str)(b:Int):decide ((Sum.inr a:Ap)=Sum.inl b)=false:=DY (λq=>nomatch q)
abbrev FW(prog:Program)(w:World):PySem.KeyKind prog w Ap where
 is:=M3
 hash:=ud w
 inj:=λv a b ha hb=>by
  rcases IF ha with⟨i,t,rfl,rfl⟩|⟨x,t,rfl,rfl⟩
  ·rcases IF hb with⟨j,u,rfl,e⟩|⟨y,u,rfl,e⟩
   ·injection e with e1 _;rw[e1]
   ·show nomatch e
  ·rcases IF hb with⟨j,u,rfl,e⟩|⟨y,u,rfl,e⟩
   ·show nomatch e
   ·injection e with e1 _;rw[e1]
 byValue:=λk v h=>by
  rcases IF h with⟨i,t,rfl,rfl⟩|⟨x,t,rfl,rfl⟩<;>rfl
 pyHash:=λhv h=>by
  rcases IF hv with⟨i,t,rfl,rfl⟩|⟨x,t,rfl,rfl⟩
  ·show wpAny_pyHash_int h
  ·show wpAny_pyHash_str h
 eqBool:=λhu hv h=>by
  rcases IF hu with⟨i,t,rfl,rfl⟩|⟨x,t,rfl,rfl⟩
  ·rcases IF hv with⟨j,u,rfl,rfl⟩|⟨y,u,rfl,rfl⟩
   ·rw[aeb]at h;show wpAny_eqBool_int h
   ·rw[aan]at h;show SeqAt.EqAt.int_str i t y u _ _ _ _ h
  ·rcases IF hv with⟨j,u,rfl,rfl⟩|⟨y,u,rfl,rfl⟩
   ·rw[si]at h;show SeqAt.EqAt.str_int x t j u _ _ _ _ h
   ·rw[sh]at h;show wpAny_eqBool_str h
 «strs»:=λk x t v h=>by
  rcases IF h with⟨i,u,rfl,e⟩|⟨y,u,rfl,e⟩
  ·show nomatch e
  ·injection e with e1 _
   subst e1;cases v<;>rfl
def tF(prog:Program)(w:World)(i:Int)(t:Tok):(FW prog w).is (.inl i) (.int i t)=true:=vY i t
def aej(prog:Program)(w:World)(x:Str)(t:Tok):(FW prog w).is (.inr x) (.str x t)=true:=vA x t
inductive V where
 |non|bl (b:Bool)|int (i:Int)|str (x:Str)|byt (b:Array UInt8)|flt (b:UInt64)|ref (a:Addr)|ty (n:String)
 deriving DecidableEq
abbrev RelV:V→Value→Prop
 |.non,u=>u=Value.none
 |.bl b,u=>u=Value.bool b
 |.int i,u=>∃t,u=Value.int i t
 |.str x,u=>∃t,u=Value.str x t
 |.byt b,u=>∃t,u=Value.bytes b t
 |.flt b,u=>∃t,u=Value.float b t
 |.ref a,u=>u=Value.ref a
 |.ty n,u=>u=Value.type n
@[reducible]def Vals:List V→List Value→Prop:=Paired RelV
def Vals.length(r:Vals xs us):xs.length=us.length:=Rt r
def Vals.get:∀{xs:List V} {us:List Value} {i:Nat} {x:V},Vals xs us→xs[i]?=some x→∃u,us[i]?=some u∧RelV x u
 |_,_,_,_,.nil,e=>by simp at e
 |_,_,0,_,.cons r _,e=>by simp at e;subst e;show⟨_,rfl,r⟩
 |_,_,i+1,x,.cons _ t,e=>by
  let⟨u,h1,h2⟩:=Vals.get (i:=i) (x:=x) t (by simpa using e);show⟨u,by simpa using h1,h2⟩
def Vals.set{x:V}(r:RelV x u):∀{xs:List V} {us:List Value} (i:Nat),Vals xs us→Vals (xs.set i x) (us.set i u)
 |_,_,_,.nil=>.nil
 |_,_,0,.cons _ t=>.cons r t
 |_,_,i+1,.cons q t=>.cons q (Vals.set r i t)
def Vals.append:∀{xs ys:List V} {us ws:List Value},Vals xs us→Vals ys ws→Vals (xs++ys) (us++ws)
 |_,_,_,_,.nil,s=>s
 |_,_,_,_,.cons r t,s=>.cons r (Vals.append t s)
def Vals.take:∀{xs:List V} {us:List Value} (n:Nat),Vals xs us→Vals (xs.take n) (us.take n)
 |_,_,0,_=>.nil
 |_,_,_+1,.nil=>.nil
 |_,_,n+1,.cons r t=>.cons r (Vals.take n t)
def Vals.drop:∀{xs:List V} {us:List Value} (n:Nat),Vals xs us→Vals (xs.drop n) (us.drop n)
 |_,_,0,r=>r
 |_,_,_+1,.nil=>.nil
 |_,_,n+1,.cons _ t=>Vals.drop n t
abbrev rN:Option V→Option Value→Prop
 |some v,some u=>RelV v u
 |none,none=>True
 |_,_=>False
abbrev KV{κ:Type}:List (κ×V)→List (κ×Value)→Prop:=Paired λ(p:κ×V) (q:κ×Value)=>p.1=q.1∧RelV p.2 q.2
abbrev Bt:Ap→V
 |.inl i=>.int i
 |.inr x=>.str x
inductive HO where
 /-- a list -/
 |lst (xs:List V)
 /-- a tuple (never changes) -/
 |tup (xs:List V)
 /-- a dict Oe keys are ints and texts;one Oe keys are tuples of ints and texts (Bh empty one is both) -/
 |dK (aQ:List (Ap×V))|dT (aQ:List (List Ap×V))
 /-- a set of ints: its members,its size -/
 |set (S:Int→Bool) (n:Nat)
 /-- an instance of Bh class at C,its dict at dx,its attributes -/
 |ins (C dx:Addr) (fs:List (Str×V))
 /-- Bh dict of Bh instance at x -/
 |own (x:Addr)
 /-- Bh dict of an exception -/
 |xd (fs:List (Str×V))
 /-- a bound method,f of x -/
 |met (f x:Addr)
 /-- a range object lo,lo+1,.. below hi -/
 |rng (lo hi:Int)
 /-- a Oq Ot is known to Bh object (Bh LS;a dict while a loop walks it): read,never written while it is so -/
 |frz (o:Obj) (u:HO)
 /-- a code Qg table -/
 |tbl (ps:Array Value)
 /-- any other Oq,by SS is true of its one object (a def of Wr own: SetO a S n:=HO.ext λh=>..) -/
 |ext (φ:Heap→Prop)
abbrev A7:=Addr→Option HO
abbrev upd(H:A7)(a:Addr)(o:HO):A7:=λb=>if b=a then some o else H b
def B0:upd H a o a=some o:=by unfold upd;rw[AI rfl]
def AW(h:b≠a):upd H a o b=H b:=by unfold upd;rw[AH h]
def JA{u:HO}(h:H a=some o)(h':H b=some u)(d:o≠u):a≠b:=by
 intro e;subst e;rw[h]at h';show d (EC h')
def Ba(h:H a=some o)(h':H b=none):a≠b:=by
 intro e;subst e;rw[h]at h';cases h'
section
variable (P: Program)(w: World)
abbrev bT(H:A7)(h:Heap)(a:Addr):HO→Prop
 |.lst xs=>xs.length≤sizeLine∧∃(its:List Value) (n:Nat),Vals xs its∧h.get? a=some {cls:=.type "list",data:=.seq its.toArray n}
 |.tup xs=>xs.length≤sizeLine∧∃its:List Value,Vals xs its∧IsTup h a its.toArray
 |.dK aQ=>aQ.length≤sizeLine∧(a==sysModules)=false∧∃vs,KV aQ vs∧h.DictOf (FW P w) a vs
 |.dT aQ=>aQ.length≤sizeLine∧(a==sysModules)=false∧∃xs:List (List Ap×Addr×Value),
   Paired (λ(p:List Ap×V) (q:List Ap×Addr×Value)=>p.1=q.1∧H q.2.1=some (.tup (p.1.map Bt))∧RelV p.2 q.2.2) aQ xs∧
   ∃o es ep,h.get? a=some o∧o.ExactDict∧o.data=.dict es ep∧es.toList=xs.map (entryOfKey (tupleKind (FW P w)))∧(xs.map (·.1)).Nodup
 |.set S n=>h.SetOf (intKind P w) a S n
 |.ins C dx fs=>H dx=some (.own a)∧fs.length≤1000∧dx≠a∧h.get? a=some (W.instObj C dx)∧
   ∃mA,h.Ns1 dx mA∧(∀f,rN (fs.lookup f) (mA f))∧PySem.Within mA (fs.map (·.1))
 |.own _=>∃o,h.get? a=some o
 |.xd fs=>∃mA,h.Ns1 a mA∧∀f,rN (fs.lookup f) (mA f)
 |.rng lo hi=>∃t u v,h.get? a=some {cls:=.type "range",data:=.fields #[.int lo t,.int hi u,.int 1 v]}
 |.frz o u=>h.get? a=some o∧bT H h a u
 |.tbl ps=>h.get? a=some {cls:=.none,data:=.fields ps}
 |.met f x=>h.get? a=some (W.methodObj (.ref f) (.ref x))
 |.ext φ=>φ h∧(∃o,h.get? a=some o)∧∀h1 h2:Heap,φ h1→(∀o,h1.get? a=some o→h2.get? a=some o)→φ h2
abbrev jt(H:A7)(h:Heap):Prop:=∀a o,H a=some o→bT P w H h a o
end
section
variable {P: Program}{w: World}{H: A7}{h: Heap}{a: Addr}{o: HO}
def bT.lt(x:bT P w H h a o):a<h.objs.size:=by
 cases o with
 |lst xs=>let⟨_,⟨_,_,_,e⟩⟩:=x;show Aq e
 |tup xs=>let⟨_,⟨_,_,p⟩⟩:=x;show p.lt
 |dK aQ=>let⟨_,_,⟨_,_,⟨o,_,_,e,_⟩⟩⟩:=x;show Aq e
 |dT aQ=>let⟨_,_,⟨_,_,⟨o,_,_,e,_⟩⟩⟩:=x;show Aq e
 |set S n=>let⟨o,_,_,_,e,_⟩:=x;show Aq e
 |ins C dx fs=>let⟨_,_,_,e,_⟩:=x;show Aq e
 |own y=>let⟨_,e⟩:=x;show Aq e
 |xd fs=>let⟨_,⟨_,_,_,e,_⟩,_⟩:=x;show Aq e
 |rng lo hi=>let⟨_,_,_,e⟩:=x;show Aq e
 |frz ob u=>let⟨e,_⟩:=x;show Aq e
 |tbl ps=>show Aq (show h.get? a=some _ from x)
 |met f y=>show Aq (show h.get? a=some _ from x)
 |ext φ=>let⟨_,⟨_,e⟩,_⟩:=x;show Aq e
def Paired.ME{α β:Type}{F G:α→β→Prop}:∀{l₁:List α} {l₂:List β},Paired F l₁ l₂→(∀a b,F a b→G a b)→Paired G l₁ l₂
 |_,_,.nil,_=>.nil
 |_,_,.cons r t,f=>.cons (f _ _ r) (Paired.ME t f)
def bT.iR(x:bT P w H h a o)(k:∀b u,(b=a∨H b=some (.own a))→h.get? b=some u→h'.get? b=some u)
  (ho:∀b,H b=some (.own a)→H' b=some (.own a)) (ht:∀b xs,H b=some (.tup xs)→H' b=some (.tup xs)):bT P w H' h' a o:=by
 induction o with
 |lst xs=>let⟨z,⟨its,n,r,e⟩⟩:=x;show⟨z,its,n,r,k _ _ (.inl rfl) e⟩
 |tup xs=>let⟨z,⟨its,r,⟨ob,e,c⟩⟩⟩:=x;show⟨z,its,r,ob,k _ _ (.inl rfl) e,c⟩
 |dK aQ=>let⟨z,y,⟨vs,r,⟨ob,es,ep,e,c⟩⟩⟩:=x;show⟨z,y,vs,r,ob,es,ep,k _ _ (.inl rfl) e,c⟩
 |dT aQ=>
  let⟨z,y,⟨xs,r,⟨ob,es,ep,e,c⟩⟩⟩:=x;show⟨z,y,xs,Paired.ME r λp q z=>⟨z.1,ht _ _ z.2.1,z.2.2⟩,ob,es,ep,k _ _ (.inl rfl) e,c⟩
 |set S n=>let⟨ob,es,ep,t,e,c⟩:=x;show Ψ4 ob es ep t ⟨k _ _ (.inl rfl) e,c⟩
 |ins C dx fs=>
  let⟨d,z,ne,e,⟨mA,⟨od,es,ep,e2,c⟩,r⟩⟩:=x;show⟨ho _ d,z,ne,k _ _ (.inl rfl) e,mA,Ψ3 od es ep ⟨k _ _ (.inr d) e2,c⟩,r⟩
 |own y=>let⟨ob,e⟩:=x;show⟨ob,k _ _ (.inl rfl) e⟩
 |xd fs=>let⟨mA,⟨od,es,ep,e,c⟩,r⟩:=x;show⟨mA,Ψ3 od es ep ⟨k _ _ (.inl rfl) e,c⟩,r⟩
 |rng lo hi=>let⟨t,u,v,e⟩:=x;show Ψ3 t u v (k _ _ (.inl rfl) e)
 |frz ob u ih=>let⟨e,q⟩:=x;show⟨k _ _ (.inl rfl) e,ih q⟩
 |tbl ps=>
  let e:h.get? a=some {cls:=.none,data:=.fields ps}:=x;show h'.get? a=some {cls:=.none,data:=.fields ps}
  show k a _ (.inl rfl) e
 |met f y=>
  let e:h.get? a=some (W.methodObj (.ref f) (.ref y)):=x;show h'.get? a=some (W.methodObj (.ref f) (.ref y))
  show k a _ (.inl rfl) e
 |ext φ=>let⟨p,⟨o,e⟩,st⟩:=x;show⟨st _ _ p λo q=>k _ _ (.inl rfl) q,⟨o,k _ _ (.inl rfl) e⟩,st⟩
def jt.lt(x:jt P w H h)(e:H a=some o):a<h.objs.size:=(x a o e).lt
def jt.fresh(x:jt P w H h)(e:h.objs.size≤a):H a=none:=by
 cases q:H a with
 |none=>rfl
 |some u=>show absurd (D6 (x.lt q) e) (FH _)
def jt.kept(x:jt P w H h)(k:∀b u,h.get? b=some u→h'.get? b=some u):jt P w H h':=λa o e=>
 (x a o e).iR (λb u _ q=>k b u q) (λ_ q=>q) λ_ _ q=>q
def jt.laid(x:jt P w H h)(k:∀b u,h.get? b=some u→h'.get? b=some u)(hp:h.objs.size≤a)(new:bT P w (upd H a o) h' a o):jt P w (upd H a o) h':=λb u e=>by
 let hn:=x.fresh hp;by_cases hb:b=a
 ·subst hb;rw[B0]at e;cases e;show new
 ·rw[AW hb]at e
  show(x b u e).iR (λc v _ q=>k c v q) (λc q=>by rw[AW (Ba q hn)];show q) λc xs q=>by rw[AW (Ba q hn)];show q
end
abbrev Rd(H:A7)(a:Addr)(u:HO):Prop:=H a=some u∨∃o,H a=some (.frz o u)
def Rd.ok{u:HO}(r:Rd H a u)(x:jt P w H h):bT P w H h a u:=by
 rcases r with r|⟨o,r⟩
 ·show x a u r
 ·let⟨_,q⟩:=x a _ r
  show q
abbrev NS:Option HO→Prop
 |some (.lst _)=>True
 |some (.dK _)=>True
 |some (.dT _)=>True
 |some (.set _ _)=>True
 |some (.ins _ _ _)=>True
 |some (.ext _)=>True
 |_=>False
section
variable {P: Program}{w: World}{H: A7}{h: Heap}{x e: Addr}{o': HO}
def jt.write(ok:jt P w H h)(mu:NS (H x))(he:e=x∨H e=some (.own x))(k:∀b u,b≠e→h.get? b=some u→h'.get? b=some u)(N0:∃u,h'.get? e=some u)
  (new:bT P w (upd H x o') h' x o'):jt P w (upd H x o') h':=λb u q=>by
 let Qi:∀c y,H c=some (.own y)→c≠x:=λc y r z=>by subst z;rw[r]at mu;show mu
 let Ul:∀c xs,H c=some (.tup xs)→c≠x:=λc xs r z=>by subst z;rw[r]at mu;show mu
 by_cases hb:b=x
 ·subst hb;rw[B0]at q;cases q;show new
 ·rw[AW hb]at q
  by_cases Nh:b=e
  ·let q':H b=some (.own x):=by
    rcases he with z|z
    ·show absurd (Nh.trans z) hb
    ·rw[Nh];show z
   rw[q]at q';cases q';let⟨v,hv⟩:=N0;show⟨v,by rw[Nh];show hv⟩
  ·show(ok b u q).iR (λc v hc r=>k c v ?_ r) (λc r=>by rw[AW (Qi c b r)];show r) λc xs r=>by rw[AW (Ul c xs r)];show r
   rcases hc with rfl|hc
   ·show Nh
   ·rintro rfl
    rcases he with z|z
    ·show Qi c b hc z
    ·rw[hc]at z;cases z;show hb rfl
end
structure Un(fs ex:List Addr)(H H':A7)(h h':Heap):Prop where
 keep:∀b o,h.get? b=some o→H b=none→b∉fs→b∉ex→h'.get? b=some o
 slot:∀b o,h.get? b=some o→H b=none→b∈fs→b∉ex→∃sl,h'.get? b=some {o with slots:=sl}
 free:∀b o,h.get? b=some o→H b=none→b∉ex→H' b=none
 there:∀b o,h.get? b=some o→b∉ex→∃o',h'.get? b=some o'
 gA:∀b xs,H b=some (.tup xs)→H' b=some (.tup xs)
 gi:∀b o u,H b=some (.frz o u)→H' b=some (.frz o u)
 fQ:∀b ps,H b=some (.tbl ps)→∃more,H' b=some (.tbl (ps++more))
section
variable {fs ex: List Addr}{H H1 H2: A7}{h h1 h2: Heap}{a x e: Addr}{o: HO}
def Un.any(u:Un fs ex H H1 h h1){ob:Obj}(q:h.get? b=some ob)(n:H b=none)(hx:b∉ex):∃sl,h1.get? b=some {ob with slots:=sl}:=by
 by_cases hb:b∈fs
 ·show u.slot b ob q n hb hx
 ·show⟨ob.slots,u.keep b ob q n hb hx⟩
def Un.trans(a:Un fs ex H H1 h h1)(b:Un fs ex H1 H2 h1 h2):Un fs ex H H2 h h2 where
 keep:=λc ob q n hc hx=>b.keep c ob (a.keep c ob q n hc hx) (a.free c ob q n hx) hc hx
 slot:=λc ob q n hc hx=>by
  let⟨sl,e1⟩:=a.slot c ob q n hc hx;let⟨Pk,e2⟩:=b.slot c _ e1 (a.free c ob q n hx) hc hx;show⟨Pk,e2⟩
 free:=λc ob q n hx=>by
  let⟨o',e1⟩:=a.there c ob q hx;show b.free c o' e1 (a.free c ob q n hx) hx
 there:=λc ob q hx=>by
  let⟨o',e1⟩:=a.there c ob q hx;show b.there c o' e1 hx
 gA:=λc xs q=>b.gA c xs (a.gA c xs q)
 gi:=λc ob xs q=>b.gi c ob xs (a.gi c ob xs q)
 fQ:=λc ps q=>by
  let⟨m1,e1⟩:=a.fQ c ps q;let⟨m2,e2⟩:=b.fQ c _ e1;show⟨m1++m2,by rw[e2,Qj]⟩
def Un.kept(k:∀b u,h.get? b=some u→h'.get? b=some u):Un fs ex H H h h':=
 ⟨λb ob q _ _ _=>k b ob q,λb ob q _ _ _=>⟨ob.slots,k b ob q⟩,λ_ _ _ n _=>n,λb ob q _=>⟨ob,k b ob q⟩,λ_ _ q=>q,λ_ _ _ q=>q,λ_ ps q=>⟨#[],by rw[q];simp⟩⟩
def Un.refl:Un fs ex H H h h:=Un.kept λ_ _ q=>q
def Un.laid(k:∀b u,h.get? b=some u→h'.get? b=some u)(hp:h.objs.size≤a)(hn:H a=none):Un fs ex H (upd H a o) h h' where
 keep:=λb u q _ _ _=>k b u q
 slot:=λb u q _ _ _=>⟨u.slots,k b u q⟩
 free:=λb u q n _=>by rw[AW (Bp (D6 (Aq q) hp))];show n
 there:=λb u q _=>⟨u,k b u q⟩
 gA:=λb xs q=>by rw[AW (Ba q hn)];show q
 gi:=λb u xs q=>by rw[AW (Ba q hn)];show q
 fQ:=λb ps q=>⟨#[],by rw[AW (Ba q hn),q];simp⟩
def Un.write(mu:NS (H x))(he:e=x∨H e=some (.own x))(k:∀b u,b≠e→h.get? b=some u→h'.get? b=some u)(N0:∃u,h'.get? e=some u):Un fs ex H (upd H x o) h h':=by
 let hx:∀b,H b=none→b≠x:=λb n z=>by subst z;rw[n]at mu;show mu
 let hb:∀b,H b=none→b≠e:=λb n z=>by
  subst z;rcases he with r|r
  ·show hx b n r
  ·rw[n]at r;cases r
 let hm:∀b u,H b=some u→¬NS (some u)→b≠x:=λb u q nm z=>by subst z;rw[q]at mu;show nm mu
 show⟨λb u q n _ _=>k b u (hb b n) q,λb u q n _ _=>⟨u.slots,k b u (hb b n) q⟩,λb u q n _=>by rw[AW (hx b n)];show n,λb u q _=>?_,
  λb xs q=>by rw[AW (hm b _ q λz=>z)];show q,λb u xs q=>by rw[AW (hm b _ q λz=>z)];show q,λb ps q=>⟨#[],by rw[AW (hm b _ q λz=>z),q];simp⟩⟩
 by_cases Nh:b=e
 ·subst Nh;show N0
 ·show⟨u,k b u Nh q⟩
end
abbrev Ru(h:Heap)(H:A7):List Addr:=(List.range h.objs.size).filter λa=>(H a).isSome
abbrev IL(h:Heap)(H:A7):Heap:=W.hideAll h (Ru h H)
def adx(h:Heap)(H:A7):(IL h H).objs.size=h.objs.size:=W.hideAll_size _ _
def Tv{o:Obj}(e:h.get? b=some o)(n:H b=none):(IL h H).get? b=some o:=
 W.hideAll_get _ e λhm=>by
  let q:(H b).isSome=true:=(aet.mp hm).2;rw[n]at q;simp at q
def PIp{o:Obj}(e:(IL h H).get? b=some o):h.get? b=some o∧H b=none:=by
 let e':h.get? b=some o:=W.of_hideAll (Ru h H) e;show⟨e',?_⟩;cases q:H b with
 |none=>rfl
 |some x=>
  let hm:b∈Ru h H:=aet.mpr ⟨acb.mpr (Aq e'),by simp[q]⟩;let z:(IL h H).get? b=none:=W.hideAll_none (Ru h H) hm;rw[z]at e;cases e
abbrev wG(g h:Heap)(L:Addr):ad:=(List.range h.objs.size).filterMap λa=>if a=L∨(g.get? a).isSome=true then none else(h.get? a).map λo=>(a,o)
abbrev rest(g h:Heap)(L d:Addr):ad:=(wG g h L).filter λp=>decide (p.1≠d)
structure Mod(K:W.Frag)(mg:ac)(base:Heap):Prop where
 Qp:K.In base
 glob:base.Ns mainGlobals mg
 blt:∃mb,base.Ns builtinsNs mb∧∀x:Str,x ≠ "__name__" → mb x=bootBuiltins x
 nolimit:base.NoLimit
structure Cx where
 prog:Program
 w:World
 K:W.Frag
 mg:ac
 base:Heap
 A:Around
 N:List Str
 s₀:Shared
 H₀:A7
 env:Env
 outer:List Env
 stack:List Env
 ex:List Addr
 fn:Str→Bool
 calm:Bool
 pn:ad
 xe:xz
abbrev Cn(l:List Env):List Addr:=l.filterMap (·.frame)
@[reducible]def Cx.fs(X:Cx):List Addr:=Cn X.outer
abbrev MH(sc:Scope)(x:Str):Prop:=sc.names.lookup x=some .local∨sc.names.lookup x=some .cell∨sc.names.lookup x=some .free
abbrev Gl(sc:Scope)(x:Str):Prop:=sc.names.lookup x=some .local∨sc.names.lookup x=some .cell
abbrev Look(env:Env)(h:Heap)(m:ac)(x:Str)(u:Value):Prop:=
 (env.kindOf x=some .local∧m x=some u)∨((env.kindOf x=some .cell∨env.kindOf x=some .free)∧∃c,env.cells.lookup x=some c∧h.IsCell c (some u))
structure Cx.Ok(X:Cx):Prop where
 mod:Mod X.K X.mg X.base
 kind:X.env.scope.kind=.function
 glob:X.env.globals=mainGlobals
 blt:X.env.builtins=builtinsNs
 above:X.s₀.heap.objs.size≤X.env.locals
 inj:∀x y c,X.env.cells.lookup x=some c→X.env.cells.lookup y=some c→x=y
 has:∀x,(X.env.kindOf x=some .cell∨X.env.kindOf x=some .free)→∃c,X.env.cells.lookup x=some c
 Jt:∀x c,X.fn x=true→X.env.cells.lookup x=some c→X.s₀.heap.objs.size≤c
 hd:X.calm=true→X.A.handled=none
 frames:X.A.frames=some X.stack
 JP:X.stack=X.outer∨(X.stack=X.env::X.outer∧X.env.frame=some X.env.locals)
 KA:∀b∈X.ex,b≠X.env.locals∧∀x c,X.env.cells.lookup x=some c→c≠b
 bs:∀b o,X.base.get? b=some o→X.s₀.heap.get? b=some o∧X.H₀ b=none
 CD:X.base.objs.size≤X.s₀.heap.objs.size
 uC:∀b o,X.base.get? b=some o→b∉X.ex
 sI:∀b∈X.ex,b∉X.fs
 jY:X.s₀.heap.FunFrames X.base X.outer
 FA:∀b∈X.fs,X.H₀ b=none
structure Inv(X:Cx)(x0:ad)(σ:List (Option V))(H:A7)(s:Shared):Prop where
 ok:X.Ok
 os:s.os=X.s₀.os
 bare:AllBare s.gens
 base:Un X.fs X.ex X.H₀ H X.s₀.heap s.heap
 loc:∃m,s.heap.Ns X.env.locals m∧∀(i:Nat) (x:Str) (v:V),X.N[i]?=some x→σ[i]?=some (some v)→MH X.env.scope x→∃u,RelV v u∧Look X.env s.heap m x u
 cell:∀x c,X.env.cells.lookup x=some c→∃v,s.heap.IsCell c v
 free:H X.env.locals=none
 ff:∀x c,X.env.cells.lookup x=some c→H c=none
 pin:∀p∈X.pn++x0,s.heap.get? p.1=some p.2∧H p.1=none∧p.1≠X.env.locals∧p.1∉X.fs∧∀v,p.2.data≠.cell v
 bA:jt X.prog X.w H s.heap
 len:σ.length=X.N.length
section
variable {x0: List (Addr×Obj)}{σ: List (Option V)}{H: A7}{s: Shared}
def Cx.Ok.Uo(ok:X.Ok){o:Obj}(e:X.base.get? b=some o):b∉X.fs:=λhb=>by
 have:=(ok.jY.mem hb).1;rw[e]at this;cases this
def Inv.bs(I:Inv X x0 σ H s):∀b o,X.base.get? b=some o→s.heap.get? b=some o∧H b=none:=λb o e=>
 ⟨I.base.keep b o (I.ok.bs b o e).1 (I.ok.bs b o e).2 (I.ok.Uo e) (I.ok.uC b o e),I.base.free b o (I.ok.bs b o e).1 (I.ok.bs b o e).2 (I.ok.uC b o e)⟩
def Inv.bk(I:Inv X x0 σ H s):∀b o,X.base.get? b=some o→s.heap.get? b=some o:=λb o e=>(I.bs b o e).1
def Inv.mod(I:Inv X x0 σ H s):Mod X.K X.mg X.base:=I.ok.mod
def Inv.qY(I:Inv X x0 σ H s):X.K.In s.heap:=I.ok.mod.Qp.keeps I.bk
def Inv.lt(I:Inv X x0 σ H s):X.env.locals<s.heap.objs.size:=let⟨_,hn,_⟩:=I.loc;hn.lt
def Inv.sz(I:Inv X x0 σ H s):X.s₀.heap.objs.size≤s.heap.objs.size:=DN I.ok.above (B7 I.lt)
def Inv.Um(I:Inv X x0 σ H s)(h:s.heap.objs.size≤a):a∉X.fs:=λhb=>by
 let⟨_,⟨o,ho,_⟩⟩:=I.ok.jY.mem hb;show absurd (D6 (Aq ho) (DN I.sz h)) (FH _)
def Inv.Jm(I:Inv X x0 σ H s):∀x c,X.env.cells.lookup x=some c→c≠X.env.locals:=λx c e z=>by
 let⟨v,o,ho,hd⟩:=I.cell x c e;let⟨m,⟨o',es,ep,mK,IZ,_⟩,_⟩:=I.loc;rw[z,mK]at ho;cases ho;rw[IZ]at hd;cases hd
def Inv.jY(I:Inv X x0 σ H s):s.heap.FunFrames X.base X.outer:=by
 let all:∀(l:List Env),(∀b∈Cn l,b∈X.fs)→X.s₀.heap.FunFrames X.base l→s.heap.FunFrames X.base l:=by
  intro l;induction l with
  |nil=>intro _ _;trivial
  |cons env r ih=>
   intro hs hl;let⟨hk,⟨L,o,hf,hn,ho,hd⟩,hr⟩:=hl;let hL:L∈X.fs:=hs L (by unfold Cn;rw[MV,hf];show Gd);let⟨sl,e⟩:=I.base.slot L o ho (I.ok.FA L hL) hL λz=>I.ok.sI L z hL;show⟨hk,Ψ2 L _ ⟨hf,hn,e,hd⟩,ih (λb hb=>hs b (by unfold Cn;rw[MV,hf];show ET _ hb)) hr⟩
 show all X.outer (λ_ hb=>hb) I.ok.jY
def Inv.stack(I:Inv X x0 σ H s):s.heap.FunFrames X.base X.stack:=by
 rcases I.ok.JP with e|⟨e,hf⟩
 ·rw[e];show I.jY
 ·rw[e]
  let⟨m,hn,_⟩:=I.loc;show .cons (by rw[I.ok.kind];decide) hf hn ?_ I.jY;show Heap.get?_none_of_le (DN I.ok.CD I.ok.above)
def Inv.tZ(I:Inv X x0 σ H s):∀b∈Cn X.stack,b∈X.env.locals::X.fs:=λb hb=>by
 rcases I.ok.JP with e|⟨e,hf⟩
 ·rw[e]at hb;show ET _ hb
 ·rw[e]at hb
  unfold Cn at hb;rw[MV,hf]at hb;show hb
def Inv.pE(I:Inv X x0 σ H s):∀b∈Cn X.stack,H b=none:=λb hb=>by
 rcases aah.mp (I.tZ b hb)with e|hb
 ·rw[e];show I.free
 ·let⟨_,⟨o,ho,_⟩⟩:=I.ok.jY.mem hb
  show I.base.free b o ho (I.ok.FA b hb) λz=>I.ok.sI b z hb
def Inv.step(I:Inv X x0 σ H s)
  (GA:∀b∈ch,(b∈X.ex∨X.s₀.heap.objs.size≤b)∧b≠X.env.locals∧(∀x c,X.env.cells.lookup x=some c→c≠b)∧∀p∈X.pn++x0,p.1≠b)
  (keep:∀b o,b≠X.env.locals→b∉X.fs→b∉ch→s.heap.get? b=some o→H b=none→h'.get? b=some o)
  (slot:∀b o,b≠X.env.locals→b∈X.fs→b∉ch→s.heap.get? b=some o→H b=none→∃sl,h'.get? b=some {o with slots:=sl}) (free:∀b o,b∉ch→s.heap.get? b=some o→H b=none→H' b=none)
  (there:∀b o,b∉ch→s.heap.get? b=some o→∃o',h'.get? b=some o')
  (gA:∀b xs,H b=some (.tup xs)→H' b=some (.tup xs)) (gi:∀b o u,H b=some (.frz o u)→H' b=some (.frz o u)) (fQ:∀b ps,H b=some (.tbl ps)→∃more,H' b=some (.tbl (ps++more)))
  (ns:∀m,s.heap.Ns X.env.locals m→h'.Ns X.env.locals m) (bA:jt X.prog X.w H' h') (hg:AllBare g') :
  Inv X x0 σ H' {s with heap:=h',gens:=g',drawn:=d',toks:=t'}:=by
 let WA:∀b o,X.s₀.heap.get? b=some o→b≠X.env.locals:=λb o e=>Bp (D6 (Aq e) I.ok.above);let RZ:∀b o,X.s₀.heap.get? b=some o→b∉X.ex→b∉ch:=λb o e hx hb=>by
  rcases(GA b hb).1 with z|z
  ·show hx z
  ·show absurd (D6 (Aq e) z) (FH _)
 let cellK:∀x c,X.env.cells.lookup x=some c→∀v,s.heap.IsCell c v→h'.IsCell c v:=λx c e v ξ=>Ξ12 ξ λo ho hd=>by
  let E6:c∉ch:=λz=>(GA c z).2.2.1 x c e rfl;by_cases hc:c∈X.fs
  ·let⟨sl,q⟩:=slot c o (I.Jm x c e) hc E6 ho (I.ff x c e)
   show⟨_,q,hd⟩
  ·show⟨o,keep c o (I.Jm x c e) hc E6 ho (I.ff x c e),hd⟩
 show⟨I.ok,I.os,hg,⟨λb o e n hb hx=>?_,λb o e n hb hx=>?_,λb o e n hx=>?_,λb o e hx=>?_,λb xs e=>gA b xs (I.base.gA b xs e),λb o xs e=>gi b o xs (I.base.gi b o xs e),λb ps e=>?_⟩,?_,λx c e=>?_,?_,λx c e=>?_,λp hp=>?_,bA,I.len⟩
 ·show keep b o (WA b o e) hb (RZ b o e hx) (I.base.keep b o e n hb hx) (I.base.free b o e n hx)
 ·let⟨sl,e1⟩:=I.base.slot b o e n hb hx
  let⟨Pk,e2⟩:=slot b _ (WA b o e) hb (RZ b o e hx) e1 (I.base.free b o e n hx);show⟨Pk,e2⟩
 ·let⟨o',e1⟩:=I.base.there b o e hx
  show free b o' (RZ b o e hx) e1 (I.base.free b o e n hx)
 ·let⟨o',e1⟩:=I.base.there b o e hx
  show there b o' (RZ b o e hx) e1
 ·let⟨m1,e1⟩:=I.base.fQ b ps e
  let⟨m2,e2⟩:=fQ b _ e1;show⟨m1++m2,by rw[e2,Qj]⟩
 ·let⟨m,hn,hl⟩:=I.loc
  show⟨m,ns m hn,λi x v e1 e2 e3=>?_⟩;let⟨u,r,l⟩:=hl i x v e1 e2 e3;show⟨u,r,?_⟩;rcases l with l|⟨k,c,e,z⟩
  ·show .inl l
  ·show .inr ⟨k,c,e,cellK x c e _ z⟩
 ·let⟨v,z⟩:=I.cell x c e
  show⟨v,cellK x c e v z⟩
 ·let⟨m,⟨o,_,_,ho,_⟩,_⟩:=I.loc
  show free _ o (λz=>(GA _ z).2.1 rfl) ho I.free
 ·let⟨v,o,ho,hd⟩:=I.cell x c e
  show free c o (λz=>(GA c z).2.2.1 x c e rfl) ho (I.ff x c e)
 ·let⟨e,n,ne,nf,d⟩:=I.pin p hp
  let E6:p.1∉ch:=λz=>(GA p.1 z).2.2.2 p hp rfl;show⟨keep p.1 p.2 ne nf E6 e n,free p.1 p.2 E6 e n,ne,nf,d⟩
def Inv.un(I:Inv X x0 σ H s)(u:Un X.fs [] H H' s.heap h')(bA:jt X.prog X.w H' h'):Inv X x0 σ H' {s with heap:=h',toks:=t'}:=by
 let⟨m,⟨o,es,ep,ho,r⟩,_⟩:=id I.loc;let⟨sl,hL⟩:=u.any ho I.free (by simp);show I.step (g':=s.gens) (d':=s.drawn) (ch:=[]) (λ_ z=>nomatch z) (λb o _ hb _ e n=>u.keep b o e n hb (by simp)) (λb o _ hb _ e n=>u.slot b o e n hb (by simp)) (λb o _ e n=>u.free b o e n (by simp)) (λb o _ e=>u.there b o e (by simp)) u.gA u.gi u.fQ (λm' hm=>by
  let⟨o',CC,VH,mK,r'⟩:=hm;rw[ho]at mK;cases mK;show Ψ3 _ CC VH ⟨hL,r'⟩) bA I.bare
def Inv.call(I:Inv X x0 σ H s)(u:Un (Cn X.stack) ch H H' s.heap h')(bA:jt X.prog X.w H' h')(hg:AllBare g')
  (GA:∀b∈ch,(b∈X.ex∨X.s₀.heap.objs.size≤b)∧b≠X.env.locals∧(∀x c,X.env.cells.lookup x=some c→c≠b)∧∀p∈X.pn++x0,p.1≠b) :
  Inv X x0 σ H' {s with heap:=h',gens:=g',drawn:=d',toks:=t'}:=by
 let⟨m,⟨o,es,ep,ho,r⟩,_⟩:=id I.loc;let⟨sl,hL⟩:=u.any ho I.free λz=>(GA _ z).2.1 rfl;show I.step (ch:=ch) GA (λb o hL hb hc e n=>u.keep b o e n (λz=>(aah.mp (I.tZ b z)).elim hL hb) hc) (λb o _ _ hc e n=>u.any e n hc) (λb o hc e n=>u.free b o e n hc) (λb o hc e=>u.there b o e hc) u.gA u.gi u.fQ (λm' hm=>by
  let⟨o',CC,VH,mK,r'⟩:=hm;rw[ho]at mK;cases mK;show Ψ3 _ CC VH ⟨hL,r'⟩) bA hg
def Inv.turned(I:Inv X x0 σ H s)(k:∀b o,b≠it→s.heap.get? b=some o→h'.get? b=some o)(hn:H it=none)(hL:it≠X.env.locals)
  (h1:it∈X.ex∨X.s₀.heap.objs.size≤it) (h2:∀x c,X.env.cells.lookup x=some c→c≠it) (h3:∀p∈X.pn++x0,p.1≠it):Inv X x0 σ H {s with heap:=h',toks:=t'}:=by
 let Wz:∀b u,H b=some u→b≠it:=λb u e z=>by rw[z,hn]at e;cases e
 show I.step (g':=s.gens) (d':=s.drawn) (ch:=[it]) (λb hb=>?_) (λb o _ _ hc e _=>k b o (λz=>hc (by simp[z])) e) (λb o _ _ hc e _=>⟨o.slots,k b o (λz=>hc (by simp[z])) e⟩) (λ_ _ _ _ n=>n)
  (λb o hc e=>⟨o,k b o (λz=>hc (by simp[z])) e⟩) (λ_ _ e=>e) (λ_ _ _ e=>e) (λb ps e=>⟨#[],by rw[e];simp⟩) (λm hm=>?_) (λb u e=>?_) I.bare
 ·let e:b=it:=by simpa using hb
  subst e;show⟨h1,hL,h2,h3⟩
 ·let⟨o,es,ep,ho,r⟩:=hm
  show Ψ3 o es ep ⟨k _ o (Du hL) ho,r⟩
 ·show(I.bA b u e).iR (λc v hc q=>k c v ?_ q) (λ_ q=>q) λ_ _ q=>q
  rcases hc with z|z
  ·rw[z];show Wz b u e
  ·show Wz c _ z
def Inv.tok(I:Inv X x0 σ H s)(t:Nat):Inv X x0 σ H {s with toks:=t}:=I.un (h':=s.heap) (t':=t) Un.refl I.bA
def Inv.kept(I:Inv X x0 σ H s)(k:∀b u,s.heap.get? b=some u→h'.get? b=some u):Inv X x0 σ H {s with heap:=h',toks:=t'}:=I.un (Un.kept k) (I.bA.kept k)
def Inv.laid(I:Inv X x0 σ H s)(k:∀b u,s.heap.get? b=some u→h'.get? b=some u)(hp:s.heap.objs.size≤a)(new:bT X.prog X.w (upd H a o) h' a o):
  Inv X x0 σ (upd H a o) {s with heap:=h',toks:=t'}:=I.un (Un.laid k hp (I.bA.fresh hp)) (I.bA.laid k hp new)
def Inv.write{x e:Addr}(I:Inv X x0 σ H s)(mu:NS (H x))(he:e=x∨H e=some (.own x))(k:∀b u,b≠e→s.heap.get? b=some u→h'.get? b=some u)(N0:∃u,h'.get? e=some u)
  (new:bT X.prog X.w (upd H x o) h' x o):Inv X x0 σ (upd H x o) {s with heap:=h',toks:=t'}:=I.un (Un.write mu he k N0) (I.bA.write mu he k N0 new)
def Inv.Ad{qA:ad}(I:Inv X x0 σ H s)(h:∀p∈qA,s.heap.get? p.1=some p.2∧H p.1=none∧p.1≠X.env.locals∧p.1∉X.fs∧∀v,p.2.data≠.cell v):Inv X qA σ H s:=
 ⟨I.ok,I.os,I.bare,I.base,I.loc,I.cell,I.free,I.ff,λp hp=>(aaC.mp hp).elim (λz=>I.pin p (SO _ z)) (h p),I.bA,I.len⟩
def Yo(hN:N.Nodup)(a:N[i]?=some x)(b:N[j]?=some x):i=j:=by
 obtain⟨h1,e1⟩:=aao.mp a;obtain⟨h2,e2⟩:=aao.mp b;show(List.getElem_inj hN).mp (e1.trans e2.symm)
@[reducible]def Fk(X:Cx)(x:Str):Prop:=X.fn x=true∨X.env.scope.names.lookup x=some .local
def iI{Q:Unit→Shared→Prop}(I:Inv X x0 σ H s)(hN:X.N.Nodup)(hi:X.N[i]?=some x)(hx:Gl X.env.scope x)(r:RelV v u)
  (h:∀s',Inv X x0 (σ.set i (some v)) H s'→(∃a,Heap.SameBut a s.heap s'.heap∧(a=X.env.locals∨X.env.cells.lookup x=some a))→Q () s') (hf:Fk X x:=by first|show .inl rfl|show .inr rfl|assumption):wpAny M A (storeName X.env x u) Q E s:=by
 let⟨m,hn,hl⟩:=id I.loc;have sH:(X.env.scope.kind == .class||(X.env.scope.kind == .module&&X.env.locals != X.env.globals))=false:=by rw[I.ok.kind];rfl
 let Xa:i<σ.length:=by rw[I.len];show(aao.mp hi).1
 let Jm:=I.Jm;let tracked:∀{a:Addr} {h':Heap},(∃o,s.heap.get? a=some o∧H a=none)→Heap.SameBut a s.heap h'→jt X.prog X.w H h':=λ{a h'} ha hs b ob e=>by
  let⟨_,_,Kr⟩:=ha;show(I.bA b ob e).iR (λc w' hc q=>(hs.2 c ?_).trans q) (λ_ q=>q) λ_ _ q=>q;rintro rfl;rcases hc with rfl|hc
  ·rw[Kr]at e;cases e
  ·rw[Kr]at hc;cases hc
 rcases hx with hk|hk
 ·show wpAny_storeName_local hk hn (λh' Sh hs=>?_) sH
  let⟨oL,_,_,QH,_⟩:=id hn;show h _ ⟨I.ok,I.os,I.bare,⟨λb o e n hb hx=>?_,λb o e n hb hx=>?_,I.base.free,λb o e hx=>?_,I.base.gA,I.base.gi,I.base.fQ⟩,⟨_,Sh,λj y v' e1 e2 e3=>?_⟩,λy c e=>?_,I.free,I.ff,λp hp=>?_,tracked ⟨oL,QH,I.free⟩ hs,by simpa using I.len⟩ ⟨_,hs,.inl rfl⟩
  ·show(hs.2 b (Bp (D6 (Aq e) I.ok.above))).trans (I.base.keep b o e n hb hx)
  ·let⟨sl,e1⟩:=I.base.slot b o e n hb hx
   show⟨sl,(hs.2 b (Bp (D6 (Aq e) I.ok.above))).trans e1⟩
  ·let⟨o',e1⟩:=I.base.there b o e hx
   show⟨o',(hs.2 b (Bp (D6 (Aq e) I.ok.above))).trans e1⟩
  ·by_cases hj:j=i
   ·subst hj
    rw[hi]at e1;cases e1;rw[Ts Xa]at e2;cases e2;show⟨u,r,.inl ⟨hk,by simp⟩⟩
   ·rw[bV (Du hj)]at e2
    let⟨u',r',q⟩:=hl j y v' e1 e2 e3;show⟨u',r',?_⟩;rcases q with⟨k,e⟩|⟨k,c,e,z⟩
    ·show .inl ⟨k,?_⟩
     have:y≠x:=λe=>hj (Yo hN e1 (e ▸ hi));simp[this,e]
    ·show .inr ⟨k,c,e,z.sameBut hs (Jm y c e)⟩
  ·let⟨w',z⟩:=I.cell y c e
   show⟨w',z.sameBut hs (Jm y c e)⟩
  ·let⟨e,n,ne,nf,d⟩:=I.pin p hp
   show⟨(hs.2 p.1 ne).trans e,n,ne,nf,d⟩
 ·let Vk:X.fn x=true:=by
   rcases hf with z|z
   ·show z
   ·rw[z]at hk;cases hk
  let⟨c,hc⟩:=I.ok.has x (.inl hk);let⟨w',z⟩:=I.cell x c hc;show wpAny_storeName_cell I.ok.kind hk hc z (λh' GB hs=>?_);let⟨oc,MY,U4⟩:=id z;show h {s with heap:=h'} ⟨I.ok,I.os,I.bare,⟨λb o e n hb hx=>?_,λb o e n hb hx=>?_,I.base.free,λb o e hx=>?_,I.base.gA,I.base.gi,I.base.fQ⟩,⟨m,hn.sameBut hs (Du (Jm x c hc)),λj y v' e1 e2 e3=>?_⟩,λy c' e=>?_,I.free,I.ff,λp hp=>?_,tracked ⟨oc,MY,I.ff x c hc⟩ hs,by simpa using I.len⟩ ⟨c,hs,.inr hc⟩
  ·show(hs.2 b (Bp (D6 (Aq e) (I.ok.Jt x c Vk hc)))).trans (I.base.keep b o e n hb hx)
  ·let⟨sl,e1⟩:=I.base.slot b o e n hb hx
   show⟨sl,(hs.2 b (Bp (D6 (Aq e) (I.ok.Jt x c Vk hc)))).trans e1⟩
  ·let⟨o',e1⟩:=I.base.there b o e hx
   show⟨o',(hs.2 b (Bp (D6 (Aq e) (I.ok.Jt x c Vk hc)))).trans e1⟩
  ·by_cases hj:j=i
   ·subst hj
    rw[hi]at e1;cases e1;rw[Ts Xa]at e2;cases e2;show⟨u,r,.inr ⟨.inl hk,c,hc,GB⟩⟩
   ·rw[bV (Du hj)]at e2
    let⟨u',r',q⟩:=hl j y v' e1 e2 e3;show⟨u',r',?_⟩;rcases q with q|⟨k,c',e,z'⟩
    ·show .inl q
    ·show .inr ⟨k,c',e,z'.sameBut hs ?_⟩
     rintro rfl;show hj (Yo hN e1 (I.ok.inj _ _ _ e hc ▸ hi))
  ·by_cases Xb:c'=c
   ·subst Xb;show⟨_,GB⟩
   ·let⟨w2,z2⟩:=I.cell y c' e
    show⟨w2,z2.sameBut hs Xb⟩
  ·let⟨e,n,ne,nf,d⟩:=I.pin p hp
   show⟨(hs.2 p.1 ?_).trans e,n,ne,nf,d⟩;intro q;rw[q,MY]at e;let q':oc=p.2:=EC e;show d w' (by rw[←q'];show U4)
def Rv{Q:Unit→Shared→Prop}(I:Inv X x0 σ H s)(hN:X.N.Nodup)(hi:X.N[i]?=some x)(hx:Gl X.env.scope x)(r:RelV v u)
  (h:∀s',Inv X x0 (σ.set i (some v)) H s'→Q () s') (hf:Fk X x:=by first|show .inl rfl|show .inr rfl|assumption):wpAny M A (storeName X.env x u) Q E s:=
 iI I hN hi hx r (λs' I' _=>h s' I') hf
def Inv.KP(I:Inv X x0 σ H s)(ho:s'.os=s.os)(u:Un (Cn X.stack) ch H H' s.heap s'.heap)(bA:jt X.prog X.w H' s'.heap)(hg:AllBare s'.gens)
  (GA:∀b∈ch,(b∈X.ex∨X.s₀.heap.objs.size≤b)∧b≠X.env.locals∧(∀x c,X.env.cells.lookup x=some c→c≠b)∧∀p∈X.pn++x0,p.1≠b):Inv X x0 σ H' s':=by
 obtain⟨h',g',d',t',o'⟩:=s';let e:o'=s.os:=ho;subst e;show I.call (g':=g') (t':=t') (d':=d') u bA hg GA
end
abbrev BF:=Value→Option Addr→A7→Prop
abbrev St:=List (Option V)
abbrev Au:=V→A7→Prop
abbrev Am:=St→A7→Au→Prop
abbrev Cp:=St→A7→(Bool→A7→Prop)→Prop
abbrev CW:=St→A7→(List V→A7→Prop)→Prop
structure Ends where
 nx:St→A7→Prop
 rt:Au
 bk:St→A7→Prop:=λ_ _=>False
 ct:St→A7→Prop:=λ_ _=>False
abbrev Bx:=Ends→St→A7→Prop
abbrev CR(X:Cx)(x0:ad)(σ:St)(Q:Au)(u:Value)(s':Shared):Prop:=∃v H',Inv X x0 σ H' s'∧RelV v u∧Q v H'
abbrev JX(X:Cx)(x0:ad)(σ:St)(Q:Bool→A7→Prop)(b:Bool)(s':Shared):Prop:=∃H',Inv X x0 σ H' s'∧Q b H'
abbrev OU(X:Cx)(x0:ad)(σ:St)(Q:List V→A7→Prop)(us:List Value)(s':Shared):Prop:=∃vs H',Inv X x0 σ H' s'∧Vals vs us∧Q vs H'
abbrev SP(X:Cx)(x0:ad)(D:Ends)(f:Flow)(s':Shared):Prop:=
 match f with
 |.next=>∃σ' H',Inv X x0 σ' H' s'∧D.nx σ' H'
 |.brk=>∃σ' H',Inv X x0 σ' H' s'∧D.bk σ' H'
 |.cont=>∃σ' H',Inv X x0 σ' H' s'∧D.ct σ' H'
 |.ret u=>∃v σ' H',Inv X x0 σ' H' s'∧RelV v u∧D.rt v H'
structure PE(X:Cx)(e:Expr)(t:Am):Prop where
 run:∀x0 s σ H (Q:Au),Inv X x0 σ H s→t σ H Q→wpAny (model X.prog X.w) X.A (eval e X.env) (CR X x0 σ Q) X.xe s
instance {X:Cx}{e:Expr}{t:Am}:CoeFun (PE X e t) λ_=>∀x0 s σ H (Q:Au),Inv X x0 σ H s→t σ H Q→wpAny (model X.prog X.w) X.A (eval e X.env) (CR X x0 σ Q) X.xe s:=⟨PE.run⟩
structure PT(X:Cx)(e:Expr)(t:Cp):Prop where
 run:∀x0 s σ H (Q:Bool→A7→Prop),Inv X x0 σ H s→t σ H Q→wpAny (model X.prog X.w) X.A (isTrue e X.env (eval e X.env)) (JX X x0 σ Q) X.xe s
instance {X:Cx}{e:Expr}{t:Cp}:CoeFun (PT X e t) λ_=>∀x0 s σ H (Q:Bool→A7→Prop),Inv X x0 σ H s→t σ H Q→wpAny (model X.prog X.w) X.A (isTrue e X.env (eval e X.env)) (JX X x0 σ Q) X.xe s:=⟨PT.run⟩
structure PW(X:Cx)(e:Expr)(t:Cp):Prop where
 run:∀(whole:Sem Value) x0 s σ H (Q:Bool→A7→Prop),Inv X x0 σ H s→t σ H Q→wpAny (model X.prog X.w) X.A (isTrue e X.env whole) (JX X x0 σ Q) X.xe s
instance {X:Cx}{e:Expr}{t:Cp}:CoeFun (PW X e t) λ_=>∀(whole:Sem Value) x0 s σ H (Q:Bool→A7→Prop),Inv X x0 σ H s→t σ H Q→wpAny (model X.prog X.w) X.A (isTrue e X.env whole) (JX X x0 σ Q) X.xe s:=⟨PW.run⟩
def PW.pt{X:Cx}{t:Cp}(h:PW X e t):PT X e t:=⟨h.run _⟩
structure PA(X:Cx)(es:List Expr)(t:CW):Prop where
 run:∀(pos:Pos) x0 s σ H (Q:List V→A7→Prop),Inv X x0 σ H s→t σ H Q→wpAny (model X.prog X.w) X.A (spliced (backTo pos (starEach es X.env))) (OU X x0 σ Q) X.xe s
instance {X:Cx}{es:List Expr}{t:CW}:CoeFun (PA X es t) λ_=>∀(pos:Pos) x0 s σ H (Q:List V→A7→Prop),Inv X x0 σ H s→t σ H Q→wpAny (model X.prog X.w) X.A (spliced (backTo pos (starEach es X.env))) (OU X x0 σ Q) X.xe s:=⟨PA.run⟩
structure PS(X:Cx)(st:Stmt)(t:Bx):Prop where
 run:∀x0 s σ H (D:Ends),Inv X x0 σ H s→t D σ H→wpAny (model X.prog X.w) X.A (exec st X.env) (SP X x0 D) X.xe s
instance {X:Cx}{st:Stmt}{t:Bx}:CoeFun (PS X st t) λ_=>∀x0 s σ H (D:Ends),Inv X x0 σ H s→t D σ H→wpAny (model X.prog X.w) X.A (exec st X.env) (SP X x0 D) X.xe s:=⟨PS.run⟩
structure kl(X:Cx)(st:List Stmt)(t:Bx):Prop where
 run:∀x0 s σ H (D:Ends),Inv X x0 σ H s→t D σ H→wpAny (model X.prog X.w) X.A (execs st X.env) (SP X x0 D) X.xe s
instance {X:Cx}{st:List Stmt}{t:Bx}:CoeFun (kl X st t) λ_=>∀x0 s σ H (D:Ends),Inv X x0 σ H s→t D σ H→wpAny (model X.prog X.w) X.A (execs st X.env) (SP X x0 D) X.xe s:=⟨kl.run⟩
def Ab{α:Type}{t:Sem α}{Q Q':α→Shared→Prop}(h:wpAny M A t Q E s)(hQ:∀a s,Q a s→Q' a s):wpAny M A t Q' E s:=DC h hQ λ_ _ x=>x
section
abbrev eJ(i:Nat):Am:=λσ H Q=>∃v,σ[i]?=some (some v)∧Q v H
abbrev J8(v:V):Am:=λ_ H Q=>Q v H
def Ta{pos:Pos}(hN:X.N[i]?=some x)(hv:MH X.env.scope x)(hd:(x ==("__debug__" : Str))=false:=by decide)(oX:(x ==("__classdict__" : Str))=false:=by decide):PE X (.Name x pos) (eJ i):=by
 show .mk ?_;intro x0 s σ H Q I h;obtain⟨v,e,h⟩:=h;let⟨m,hn,hl⟩:=I.loc;let⟨u,r,l⟩:=hl i x v hN e hv;let fin:CR X x0 σ Q u s:=Ψ2 v H ⟨I,r,h⟩;rcases l with⟨hk,hm⟩|⟨hk,c,hc,Ay⟩
 ·show wpAny_Name (wpAny_loadName_local I.ok.kind hk hn hm fin) hd
 ·rcases hk with hk|hk
  ·show wpAny_Name (wpAny_loadName_cell I.ok.kind hk hc Ay fin) hd
  ·show wpAny_Name (wpAny_loadName_free I.ok.kind hk hc Ay fin oX) hd
def BG{i j pos}:PE X (.Constant (.int i) j pos) (J8 (.int i)):=.mk λ_ _ _ H _ I h=>wpAny_Constant_int ⟨.int i,H,I.tok _,⟨_,rfl⟩,h⟩
def yw{b j pos}:PE X (.Constant (.bool b) j pos) (J8 (.bl b)):=.mk λ_ _ _ H _ I h=>Constant_bool ⟨.bl b,H,I,rfl,h⟩
def acV{j pos}:PE X (.Constant .none j pos) (J8 .non):=.mk λ_ _ _ H _ I h=>Constant_none ⟨.non,H,I,rfl,h⟩
def Hg{x j pos}:PE X (.Constant (.str x) j pos) (J8 (.str x)):=.mk λ_ _ _ H _ I h=>Calls.Constant_str ⟨.str x,H,I.tok _,⟨_,rfl⟩,h⟩
abbrev Bi(X:Cx)(x:Str):Prop:=X.env.kindOf x=some .globalImplicit
def Mh{pos:Pos}(I:Inv X x0 σ H s)(hg:Bi X x)(hm:X.mg x=some u)(h:Q u s)
  (hd:(x ==("__debug__" : Str))=false:=by decide):wpAny (model X.prog X.w) X.A (eval (.Name x pos) X.env) Q E s:=
 Calls.Name_function_global I.ok.kind hg (Calls.loadGlobal_global (by rw[I.ok.glob];show I.mod.glob.keeps I.bk) hm h) hd
def GJ{pos:Pos}(I:Inv X x0 σ H s)(hg:Bi X x)(hm:X.mg x=none)(hv:bootBuiltins x=some u)(h:Q u s)
  (hn:x ≠ "__name__" := by decide) (hd:(x ==("__debug__" : Str))=false:=by decide):wpAny (model X.prog X.w) X.A (eval (.Name x pos) X.env) Q E s:=by
 let⟨mb,h1,h2⟩:=I.mod.blt;show Calls.Name_function_global I.ok.kind hg (Calls.loadGlobal_builtin (by rw[I.ok.glob];show I.mod.glob.keeps I.bk) hm (by rw[I.ok.blt];show h1.keeps I.bk) ((h2 x hn).trans hv) h) hd
def aco{pos:Pos}(hg:Bi X x)(hm:X.mg x=some u)(r:RelV v u)(hd:(x ==("__debug__" : Str))=false:=by decide):PE X (.Name x pos) (J8 v):=
 .mk λ_ _ _ H _ I h=>Mh I hg hm ⟨v,H,I,r,h⟩ hd
def oR{pos:Pos}(hg:Bi X x)(hm:X.mg x=none)(hv:bootBuiltins x=some u)(r:RelV v u)(hn:x ≠ "__name__" := by decide)(hd:(x ==("__debug__" : Str))=false:=by decide):PE X (.Name x pos) (J8 v):=
 .mk λ_ _ _ H _ I h=>GJ I hg hm hv ⟨v,H,I,r,h⟩ hn hd
variable {a b: Expr}
structure PC(X:Cx)(op:CmpOp)(a b:Expr)(t:Am):Prop where
 run:∀x0 s σ H (Q:Au),Inv X x0 σ H s→t σ H Q→
  wpAny (model X.prog X.w) X.A (eval a X.env) (λv s₁=>wpAny (model X.prog X.w) X.A (eval b X.env) (λu s₂=>wpAny (model X.prog X.w) X.A (compareOp op v u) (CR X x0 σ Q) X.xe s₂) X.xe s₁) X.xe s
instance {X:Cx}{op:CmpOp}{a b:Expr}{t:Am}:CoeFun (PC X op a b t) λ_=>∀x0 s σ H (Q:Au),Inv X x0 σ H s→t σ H Q→wpAny (model X.prog X.w) X.A (eval a X.env) (λv s₁=>wpAny (model X.prog X.w) X.A (eval b X.env) (λu s₂=>wpAny (model X.prog X.w) X.A (compareOp op v u) (CR X x0 σ Q) X.xe s₂) X.xe s₁) X.xe s:=⟨PC.run⟩
abbrev Ll(t:Am):Cp:=λσ H Q=>t σ H λx H1=>∃c,x=.bl c∧Q c H1
def aa3{t:Am}(h:PE X e t)(he:∀whole,isTrue e X.env whole=(do let v ←whole;standAt e.pos;holding [v] (truthy v)):=by intro _;rfl):PT X e (Ll t):=by
 show .mk ?_;intro x0 s σ H Q I hw;show isTrue_plain (Ab (h x0 s σ H _ I hw) λv s1 ξ=>Ξ23 ξ λx H1 I1 r1 q1=>?_) (he _);let⟨d,rfl,q⟩:=q1;cases r1;show II ⟨H1,I1,q⟩
variable {tA RO: Cp}{rest: List Expr}
abbrev adI(t u:Cp):Cp:=λσ H Q=>t σ H λc H1=>if c=true then u σ H1 Q else Q false H1
abbrev uP(t u:Cp):Cp:=λσ H Q=>t σ H λc H1=>if c=true then Q true H1 else u σ H1 Q
abbrev uS(t:Cp):Cp:=λσ H Q=>t σ H λc H1=>Q (!c) H1
def kh(ha:PT X a tA):PW X (.BoolOp .And [a] pos) tA:=by
 show .mk ?_;intro wh x0 s σ H Q I h;show isTrue_and (Ab (ha x0 s σ H Q I h) λc s1 e=>?_);cases c with
 |true=>show isTrue_and_nil e
 |false=>show e
def aeN(ha:PT X a tA):PW X (.BoolOp .Or [a] pos) tA:=by
 show .mk ?_;intro wh x0 s σ H Q I h;show isTrue_or (Ab (ha x0 s σ H Q I h) λc s1 e=>?_);cases c with
 |false=>show isTrue_or_nil e
 |true=>show e
def eM(ha:PT X a tA)(hb:PW X (.BoolOp .And (b::rest) pos) RO):PW X (.BoolOp .And (a::b::rest) pos) (adI tA RO):=by
 show .mk ?_;intro wh x0 s σ H Q I h;show isTrue_and (Ab (ha x0 s σ H _ I h) λc s1 ξ=>Ξ12 ξ λH1 I1 q1=>?_);cases c with
 |true=>show hb wh x0 s1 σ H1 Q I1 q1
 |false=>show⟨H1,I1,q1⟩
def vx(ha:PT X a tA)(hb:PW X (.BoolOp .Or (b::rest) pos) RO):PW X (.BoolOp .Or (a::b::rest) pos) (uP tA RO):=by
 show .mk ?_;intro wh x0 s σ H Q I h;show isTrue_or (Ab (ha x0 s σ H _ I h) λc s1 ξ=>Ξ12 ξ λH1 I1 q1=>?_);cases c with
 |true=>show⟨H1,I1,q1⟩
 |false=>show hb wh x0 s1 σ H1 Q I1 q1
def aaB(ha:PT X a tA):PT X (.UnaryOp .Not a pos) (uS tA):=by
 show .mk ?_;intro x0 s σ H Q I h;show isTrue_not (ha x0 s σ H (λc H1=>Q (!c) H1) I h)
abbrev xQ(ta tb:Am):Am:=λσ H Q=>ta σ H λx H1=>∃c,x=.bl c∧if c=true then tb σ H1 Q else Q (.bl false) H1
abbrev ur(ta tb:Am):Am:=λσ H Q=>ta σ H λx H1=>∃c,x=.bl c∧if c=true then Q (.bl true) H1 else tb σ H1 Q
abbrev aae(ta:Am):Am:=λσ H Q=>ta σ H λx H1=>∃c,x=.bl c∧Q (.bl (!c)) H1
def ada{op}{t:Am}(h:PE X a t):PE X (.BoolOp op [a] pos) t:=.mk λx0 s σ H Q I hw=>BoolOp_one (h x0 s σ H Q I hw)
def adb(ha:PE X a ta)(hb:PE X (.BoolOp .And (b::rest) pos) tb):PE X (.BoolOp .And (a::b::rest) pos) (xQ ta tb):=by
 show .mk ?_;intro x0 s σ H Q I h;show BoolOp_and (Ab (ha x0 s σ H _ I h) λv s1 ξ=>Ξ23 ξ λx H1 I1 r1 q1=>?_);obtain⟨c,rfl,q1⟩:=q1;cases r1;show II ?_;cases c with
 |true=>show hb x0 s1 σ H1 Q I1 q1
 |false=>show Ψ2 (.bl false) H1 ⟨I1,rfl,q1⟩
def yd(ha:PE X a ta)(hb:PE X (.BoolOp .Or (b::rest) pos) tb):PE X (.BoolOp .Or (a::b::rest) pos) (ur ta tb):=by
 show .mk ?_;intro x0 s σ H Q I h;show BoolOp_or (Ab (ha x0 s σ H _ I h) λv s1 ξ=>Ξ23 ξ λx H1 I1 r1 q1=>?_);obtain⟨c,rfl,q1⟩:=q1;cases r1;show II ?_;cases c with
 |false=>show hb x0 s1 σ H1 Q I1 q1
 |true=>show Ψ2 (.bl true) H1 ⟨I1,rfl,q1⟩
def tu(ha:PE X a ta):PE X (.UnaryOp .Not a pos) (aae ta):=by
 show .mk ?_;intro x0 s σ H Q I h;show UnaryOp_ (Ab (ha x0 s σ H _ I h) λv s1 ξ=>Ξ23 ξ λx H1 I1 r1 q1=>?_);obtain⟨c,rfl,q1⟩:=q1;cases r1;show not_of (II ⟨.bl (!c),H1,I1,rfl,q1⟩)
abbrev abI(t:Cp)(ta tb:Am):Am:=λσ H Q=>t σ H λc H1=>if c=true then ta σ H1 Q else tb σ H1 Q
def zC(hc:PT X c tA)(ha:PE X a ta)(hb:PE X b tb):PE X (.IfExp c a b pos) (abI tA ta tb):=by
 show .mk ?_;intro x0 s σ H Q I h;show wpAny_IfExp (Ab (hc x0 s σ H _ I h) λd s1 ξ=>Ξ12 ξ λH1 I1 q1=>?_);cases d with
 |true=>show ha x0 s1 σ H1 Q I1 q1
 |false=>show hb x0 s1 σ H1 Q I1 q1
end
abbrev eB(K:W.Frag)(H:A7)(a:Addr)(xs:List V):Prop:=
 Rd H a (.lst xs) ∨
  ∃(o:Obj) (its:Array Value) (n:Nat),K.lookup a=some o∧o.cls=.type "list" ∧ o.dict=none∧o.data=.seq its n∧its.size≤sizeLine∧Vals xs its.toList
abbrev dD(K:W.Frag)(H:A7)(a:Addr)(xs:List V):Prop:=
 Rd H a (.tup xs) ∨
  ∃(o:Obj) (its:Array Value) (n:Nat),K.lookup a=some o∧o.cls=.type "tuple" ∧ o.data=.seq its n∧its.size≤sizeLine∧Vals xs its.toList
abbrev zS:Value→Option V
 |.none=>some .non
 |.bool b=>some (.bl b)
 |.int i _=>some (.int i)
 |.str x _=>some (.str x)
 |.bytes b _=>some (.byt b)
 |.float b _=>some (.flt b)
 |.ref a=>some (.ref a)
 |.type n=>some (.ty n)
 |_=>none
def RelV.abs{x:V}(r:RelV x u):zS u=some x:=by
 cases x with
 |non=>cases r;rfl
 |bl _=>cases r;rfl
 |int _=>let⟨t,rfl⟩:=r;rfl
 |str _=>let⟨t,rfl⟩:=r;rfl
 |byt _=>let⟨t,rfl⟩:=r;rfl
 |flt _=>let⟨t,rfl⟩:=r;rfl
 |ref _=>cases r;rfl
 |ty _=>cases r;rfl
def RelV.inj{x:V}(r:RelV x u)(q:RelV y u):x=y:=EC (r.abs.symm.trans q.abs)
def Vals.inj:∀{xs ys:List V} {us:List Value},Vals xs us→Vals ys us→xs=ys
 |_,_,_,.nil,.nil=>rfl
 |_,_,_,.cons r t,.cons r' t'=>by rw[r.inj r',Vals.inj t t']
section
variable {x0: List (Addr×Obj)}{σ: St}{H: A7}{s: Shared}{a: Addr}{xs ys: List V}
def eB.of(h:H a=some (.lst xs)):eB K H a xs:=.inl (.inl h)
def dD.of(h:H a=some (.tup xs)):dD K H a xs:=.inl (.inl h)
def Inv.list(I:Inv X x0 σ H s)(h:eB X.K H a xs):∃its:List Value,Vals xs its∧PlainL s.heap a its.toArray∧xs.length≤sizeLine:=by
 rcases h with h|⟨o,its,n,hk,hc,hd,hs,hz,r⟩
 ·let⟨z,⟨its,n,r,e⟩⟩:=h.ok I.bA
  show⟨its,r,Ψ2 _ n ⟨e,rfl,rfl,rfl⟩,z⟩
 ·show⟨its.toList,r,Ψ2 o n ⟨I.qY a o hk,hc,hd,by simpa using hs⟩,?_⟩
  let e:=r.length;simp only[ED]at e;lia
def Inv.tuple(I:Inv X x0 σ H s)(h:dD X.K H a xs):∃its:List Value,Vals xs its∧IsTup s.heap a its.toArray∧xs.length≤sizeLine:=by
 rcases h with h|⟨o,its,n,hk,hc,hs,hz,r⟩
 ·let⟨z,⟨its,r,p⟩⟩:=h.ok I.bA
  show⟨its,r,p,z⟩
 ·show⟨its.toList,r,⟨o,I.qY a o hk,hc,n,by simpa using hs⟩,?_⟩
  let e:=r.length;simp only[ED]at e;lia
def Inv.wz(I:Inv X x0 σ H s)(h:eB X.K H a xs)(h':eB X.K H a ys):xs=ys:=by
 let⟨its,r,⟨o,n,e,_,_,d⟩,_⟩:=I.list h;let⟨its',r',⟨o',n',e',_,_,d'⟩,_⟩:=I.list h';rw[e]at e';cases e';rw[d]at d';injection d' with d1 _
 have:its=its':=by simpa using Ca Array.toList d1
 subst this;show r.inj r'
def Inv.sW(I:Inv X x0 σ H s)(h:dD X.K H a xs)(h':dD X.K H a ys):xs=ys:=by
 let⟨its,r,⟨o,e,_,⟨n,d⟩⟩,_⟩:=I.tuple h;let⟨its',r',⟨o',e',_,⟨n',d'⟩⟩,_⟩:=I.tuple h';rw[e]at e';cases e';rw[d]at d';injection d' with d1 _
 have:its=its':=by simpa using Ca Array.toList d1
 subst this;show r.inj r'
end
@[reducible]def Cx.rV(X:Cx)(E:xz):Cx:={X with xe:=E}
@[reducible]def Cx.rQ(X:Cx):Cx:=X.rV λ_ _=>False
def Cx.Ok.rV{X:Cx}(ok:X.Ok)(E:xz):(X.rV E).Ok:=
 ⟨ok.mod,ok.kind,ok.glob,ok.blt,ok.above,ok.inj,ok.has,ok.Jt,ok.hd,ok.frames,ok.JP,ok.KA,ok.bs,ok.CD,ok.uC,ok.sI,ok.jY,ok.FA⟩
def Cx.Ok.jw{X:Cx}(ok:(X.rV E).Ok):X.Ok:=
 ⟨ok.mod,ok.kind,ok.glob,ok.blt,ok.above,ok.inj,ok.has,ok.Jt,ok.hd,ok.frames,ok.JP,ok.KA,ok.bs,ok.CD,ok.uC,ok.sI,ok.jY,ok.FA⟩
section
variable {x0: List (Addr×Obj)}{σ: St}{H: A7}{s: Shared}{E: Value→Shared→Prop}
def Inv.rV(I:Inv X x0 σ H s)(E:xz):Inv (X.rV E) x0 σ H s:=⟨I.ok.rV E,I.os,I.bare,I.base,I.loc,I.cell,I.free,I.ff,I.pin,I.bA,I.len⟩
def Inv.jw(I:Inv (X.rV E) x0 σ H s):Inv X x0 σ H s:=⟨I.ok.jw,I.os,I.bare,I.base,I.loc,I.cell,I.free,I.ff,I.pin,I.bA,I.len⟩
def SP.jw{f:Flow}(h:SP (X.rV E) x0 D f s'):SP X x0 D f s':=by
 cases f with
 |next=>let⟨σ',H',I,q⟩:=h;show Ψ2 σ' H' ⟨I.jw,q⟩
 |brk=>let⟨σ',H',I,q⟩:=h;show Ψ2 σ' H' ⟨I.jw,q⟩
 |cont=>let⟨σ',H',I,q⟩:=h;show Ψ2 σ' H' ⟨I.jw,q⟩
 |ret u=>let⟨v,σ',H',I,r,q⟩:=h;show Ψ3 v σ' H' ⟨I.jw,r,q⟩
def kl.rQ{st:List Stmt}{t:Bx}(h:kl X.rQ st t):kl X st t:=.mk λx0 s σ H D I hw=>
 DC (h x0 s σ H D (I.rV _) hw) (λ_ _ q=>q.jw) λ_ _ z=>False.elim z
end
section
variable {st: Stmt}{rest: List Stmt}{t u: Bx}{e: Expr}
abbrev tW:Bx:=λD σ H=>D.nx σ H
abbrev acE(t u:Bx):Bx:=λD σ H=>t {D with nx:=u D} σ H
def Ef:kl X [] tW:=.mk λ_ _ σ H _ I h=>OS ⟨σ,H,I,h⟩
def Cg(h1:PS X st t)(h2:kl X rest u):kl X (st::rest) (acE t u):=by
 show .mk ?_;intro x0 s σ H D I h;show wpAny_execs_cons (Ab (h1 x0 s σ H {D with nx:=u D} I h) λf s1 q=>?_);cases f with
 |next=>
  obtain⟨σ',H',I',q⟩:=q;show h2 x0 s1 σ' H' D I' q
 |ret v=>show q
 |brk=>show q
 |cont=>show q
def Inv.quiet(I:Inv X x0 σ H s):interactive X.env=false:=by simp[interactive,I.ok.kind]
abbrev acn(te:Am):Bx:=λD σ H=>te σ H λ_ H1=>D.nx σ H1
def aN(he:PE X e te)(hs:swapsWith e none pos.line X.env=pure false:=by rfl):PS X (.Expr e pos) (acn te):=by
 show .mk ?_;intro x0 s σ H D I h;show wpAny_Expr_any (Ab (he x0 s σ H _ I h) λv s1 ξ=>Ξ23 ξ λx H1 I1 r1 q1=>Ψ2 σ H1 ⟨I1,q1⟩) I.quiet hs
abbrev ade(te:Am):Bx:=λD σ H=>te σ H D.rt
def JJ(he:PE X e te):PS X (.Return (some e) pos) (ade te):=by
 show .mk ?_;intro x0 s σ H D I h;show wpAny_Return_some (Ab (he x0 s σ H _ I h) λv s1 ξ=>Ξ23 ξ λx H1 I1 r1 q1=>Ψ3 x σ H1 ⟨I1,r1,q1⟩)
abbrev UnC(c:Cp)(t u:Bx):Bx:=λD σ H=>c σ H λb H1=>if b=true then t D σ H1 else u D σ H1
def KO{a b:List Stmt}(hc:PT X c tc)(ha:kl X a t)(hb:kl X b u):PS X (.If c a b pos) (UnC tc t u):=by
 show .mk ?_;intro x0 s σ H D I h;show wpAny_If (Ab (hc x0 s σ H _ I h) λd s1 ξ=>Ξ12 ξ λH1 I1 q1=>?_);cases d with
 |true=>show ha x0 s1 σ H1 D I1 q1
 |false=>show hb x0 s1 σ H1 D I1 q1
end
abbrev EL:=V→St→A7→(St→A7→Prop)→Prop
abbrev Gw:=List V→St→A7→(St→A7→Prop)→Prop
structure PG(X:Cx)(target:Expr)(t:EL):Prop where
 run:∀x0 s σ H (v:V) (u:Value) (Q:St→A7→Prop),Inv X x0 σ H s→RelV v u→t v σ H Q→
  wpAny (model X.prog X.w) X.A (assign target X.env u) (λ_ s'=>∃σ' H',Inv X x0 σ' H' s'∧Q σ' H') X.xe s
instance {X:Cx}{target:Expr}{t:EL}:CoeFun (PG X target t) λ_=>∀x0 s σ H (v:V) (u:Value) (Q:St→A7→Prop),Inv X x0 σ H s→RelV v u→t v σ H Q→wpAny (model X.prog X.w) X.A (assign target X.env u) (λ_ s'=>∃σ' H',Inv X x0 σ' H' s'∧Q σ' H') X.xe s:=⟨PG.run⟩
structure A0(X:Cx)(ts:List Expr)(t:Gw):Prop where
 run:∀x0 s σ H (vs:List V) (us:List Value) (Q:St→A7→Prop),Inv X x0 σ H s→Vals vs us→t vs σ H Q→
  wpAny (model X.prog X.w) X.A (assignInOrder ((assignEach ts X.env).map (·.2)) us) (λ_ s'=>∃σ' H',Inv X x0 σ' H' s'∧Q σ' H') X.xe s
instance {X:Cx}{ts:List Expr}{t:Gw}:CoeFun (A0 X ts t) λ_=>∀x0 s σ H (vs:List V) (us:List Value) (Q:St→A7→Prop),Inv X x0 σ H s→Vals vs us→t vs σ H Q→wpAny (model X.prog X.w) X.A (assignInOrder ((assignEach ts X.env).map (·.2)) us) (λ_ s'=>∃σ' H',Inv X x0 σ' H' s'∧Q σ' H') X.xe s:=⟨A0.run⟩
abbrev ZO:=V→V→V→A7→(A7→Prop)→Prop
abbrev nM(X:Cx)(t:ZO):Prop:=
 ∀x0 s σ H (o i v:V) (ov iv u:Value) (Q:A7→Prop),Inv X x0 σ H s→RelV o ov→RelV i iv→RelV v u→t o i v H Q→
  wpAny (model X.prog X.w) X.A (setItem ov iv u) (λ_ s'=>∃H',Inv X x0 σ H' s'∧Q H') X.xe s
abbrev ah:=V→V→A7→Au→Prop
abbrev acT(X:Cx)(op:Operator)(t:ah):Prop:=
 ∀x0 s σ H (x y:V) (v u:Value) (Q:Au),Inv X x0 σ H s→RelV x v→RelV y u→t x y H Q→
  wpAny (model X.prog X.w) X.A (inplaceOp op v u) (CR X x0 σ Q) X.xe s
section
abbrev qr(i:Nat):EL:=λv σ H Q=>Q (σ.set i (some v)) H
def kB(hN:X.N.Nodup)(hi:X.N[i]?=some x)(hx:Gl X.env.scope x)(hf:Fk X x:=by first|show .inl rfl|show .inr rfl|assumption):PG X (.Name x pos) (qr i):=by
 show .mk ?_;intro x0 s σ H v u Q I r h;show wpAny_assign_Name (Rv I hN hi hx r (λs' I'=>Ψ2 _ H ⟨I',h⟩) hf)
abbrev aei:Gw:=λvs σ H Q=>vs=[]∧Q σ H
abbrev wQ(t:EL)(u:Gw):Gw:=λvs σ H Q=>∃v r,vs=v::r∧t v σ H λσ' H'=>u r σ' H' Q
def wm:A0 X [] aei:=by
 show .mk ?_;intro x0 s σ H vs us Q I r h;obtain⟨e,h⟩:=h;subst e;cases r;show assignInOrder_nil ⟨σ,H,I,h⟩
def zg{es:List Expr}{t:EL}{u:Gw}(h1:PG X e t)(h2:A0 X es u)
  (hs:(assignEach (e::es) X.env).map (·.2)=assign e X.env::(assignEach es X.env).map (·.2):=by rfl):A0 X (e::es) (wQ t u):=by
 show .mk ?_;intro x0 s σ H vs us Q I r h;obtain⟨v,vr,e1,h⟩:=h;subst e1;cases r with
 |cons r rr=>
  rw[hs];show assignInOrder_cons (Ab (h1 x0 s σ H _ _ _ I r h) λ_ s1 ξ=>Ξ22 ξ λσ1 H1 I1 q1=>?_);show h2 x0 s1 σ1 H1 _ _ Q I1 rr q1
abbrev adP(K:W.Frag)(n:Nat)(t:Gw):EL:=λv σ H Q=>∃a xs,v=.ref a∧dD K H a xs∧xs.length=n∧t xs σ H Q
def ua{es:List Expr}{t:Gw}(hc:X.calm=true)(h:A0 X es t)
  (hn:(assignEach es X.env).length=n:=by rfl) (lM:(assignEach es X.env).findIdx? (·.1)=none:=by rfl):PG X (.Tuple es k pos) (adP X.K n t):=by
 show .mk ?_;intro x0 s σ H v u Q I r hw;obtain⟨a,xs,e1,hq,hl,hw⟩:=hw;subst e1;cases r;let⟨its,rv,ht,hz⟩:=I.tuple hq;show assign_Tuple_tuple (I.ok.hd hc) ht (by simp[hn,←hl,rv.length]) lM λh' hx=>?_;let I1:Inv X x0 σ H {s with heap:=h'}:=I.kept (t':=s.toks) λb o e=>hx b o (Bp (Aq e)) e;show h x0 _ σ H xs _ Q I1 (by simpa using rv) hw
abbrev wa(to ti:Am)(t:ZO):EL:=λv σ H Q=>to σ H λo H1=>ti σ H1 λi H2=>t o i v H2 λH3=>Q σ H3
def NO{o i:Expr}{to ti:Am}{t:ZO}(ho:PE X o to)(hi:PE X i ti)(hs:nM X t)
  (ha:∀v,assign (.Subscript o i pos) X.env v=(do
   let ov ←holding [v] (eval o X.env)
   let iv ←holding [v,ov] (eval i X.env)
   standAt pos
   holding [v,ov,iv] (setItem ov iv v)
   release [v,ov,iv] []):=by intro _;rfl):PG X (.Subscript o i pos) (wa to ti t):=by
 show .mk ?_;intro x0 s σ H v u Q I r h;rw[ha];show A5 (Dx (Ab (ho x0 s σ H _ I h) λov s1 ξ=>Ξ23 ξ λx H1 I1 r1 q1=>?_));show A5 (Dx (Ab (hi x0 s1 σ H1 _ I1 q1) λiv s2 ξ=>Ξ23 ξ λy H2 I2 r2 q2=>?_));show A5 (P9 (A5 (Dx (Ab (hs x0 s2 σ H2 x y v ov iv u _ I2 r1 r2 r q2) λ_ s3 ξ=>Ξ12 ξ λH3 I3 q3=>?_))));show wpAny_release ⟨σ,H3,I3,q3⟩
abbrev T4(te:Am)(g:EL):Bx:=λD σ H=>te σ H λx H1=>g x σ H1 D.nx
def MN{te:Am}{g:EL}(he:PE X e te)(hg:PG X tg g)(hs:swapsWithSole [tg] e pos.line X.env=pure false:=by rfl)(hw:swappedStores [tg] e X.env=pure none:=by rfl)
  (h1:(assignEach [tg] X.env).map (·.2)=[assign tg X.env]:=by rfl):PS X (.Assign [tg] e pos) (T4 te g):=by
 show .mk ?_;intro x0 s σ H D I h;show wpAny_Assign_stores (Ab (he x0 s σ H _ I h) λv s1 ξ=>Ξ23 ξ λx H1 I1 r1 q1=>?_) hs hw;rw[h1];show Ab (hg x0 s1 σ H1 x v _ I1 r1 q1) λ_ s2 q=>q
def HG{te:Am}(hN:X.N.Nodup)(hi:X.N[i]?=some x)(hx:Gl X.env.scope x)(he:PE X e te)(hs:swapsWith e (some (.Name x pos')) pos.line X.env=pure false:=by rfl)(hf:Fk X x:=by first|show .inl rfl|show .inr rfl|assumption):
  PS X (.Assign [.Name x pos'] e pos) (T4 te (qr i)):=by
 show .mk ?_;intro x0 s σ H D I h;show wpAny_Assign_Name (Ab (he x0 s σ H _ I h) λv s1 ξ=>Ξ23 ξ λy H1 I1 r1 q1=>?_) hs;show Rv I1 hN hi hx r1 (λs2 I2=>Ψ2 _ H1 ⟨I2,q1⟩) hf
abbrev yq(i:Nat)(te:Am)(ti:ah):Bx:=λD σ H=>∃x,σ[i]?=some (some x)∧te σ H λy H1=>ti x y H1 λz H2=>D.nx (σ.set i (some z)) H2
def tB{te:Am}{op:Operator}{ti:ah}(hN:X.N.Nodup)(hi:X.N[i]?=some x)(hx:Gl X.env.scope x)(he:PE X e te)(ho:acT X op ti)(hf:Fk X x:=by first|show .inl rfl|show .inr rfl|assumption):
  PS X (.AugAssign (.Name x pos') op e pos) (yq i te ti):=by
 show .mk ?_;intro x0 s σ H D I h;obtain⟨v,e1,h⟩:=h;let⟨m,hn,hl⟩:=I.loc;have XZ:MH X.env.scope x:=by rcases hx with k|k;show .inl k;show .inr (.inl k)
 let⟨u,r,l⟩:=hl i x v hi e1 XZ;show wpAny_AugAssign_Name ?_;let go:wpAny (model X.prog X.w) X.A (eval e X.env) (λw s₂=>wpAny (model X.prog X.w) X.A (inplaceOp op u w) (λr s₃=>wpAny (model X.prog X.w) X.A (storeName X.env x r) (λ_=>SP X x0 D .next) X.xe s₃) X.xe s₂) X.xe s:=by
  show Ab (he x0 s σ H _ I h) λw s1 ξ=>Ξ23 ξ λy H1 I1 r1 q1=>?_;show Ab (ho x0 s1 σ H1 v y u w _ I1 r r1 q1) λz s2 ξ=>Ξ23 ξ λzv H2 I2 r2 q2=>?_;show Rv I2 hN hi hx r2 (λs3 I3=>Ψ2 _ H2 ⟨I3,q2⟩) hf
 rcases l with⟨hk,hm⟩|⟨hk,c,hc,Ay⟩
 ·show wpAny_loadName_local I.ok.kind hk hn hm go
 ·rcases hk with hk|hk
  ·show wpAny_loadName_cell I.ok.kind hk hc Ay go
  ·rcases hx with k|k
   ·have:X.env.scope.names.lookup x=some .free:=hk
    rw[k]at this;cases this
   ·have:X.env.scope.names.lookup x=some .free:=hk
    rw[k]at this;cases this
abbrev acy(c:Cp)(tb:Bx):Bx:=λD σ H=>∃W:Nat→St→A7→Prop,(∃m,W m σ H)∧∀m σ H,W m σ H→
 c σ H λb H1=>if b=true then ∃N:St→A7→Prop,(∀σ' H',N σ' H'→∃m',m' < m∧W m' σ' H')∧tb {D with nx:=N,ct:=N,bk:=D.nx} σ H1 else D.nx σ H1
def adw{tb:Bx}(hp:PassesOwn (model X.prog X.w) X.A X.env X.xe)(hc:PT X c tc)(hb:kl X body tb):PS X (.While c body [] pos) (acy tc tb):=by
 show .mk ?_;intro x0 s σ H D I h;let⟨W,⟨m0,w0⟩,turn⟩:=h;show wpAny_While (codeAny_whileLoop (λn s'=>∃σ' H',Inv X x0 σ' H' s'∧W n σ' H') ?_ m0 ⟨σ,H,I,w0⟩);intro n s1⟨σ1,H1,I1,w1⟩;show KJ hp (Ab (hc x0 s1 σ1 H1 _ I1 (turn n σ1 H1 w1)) λb s2 ξ=>Ξ12 ξ λH2 I2 q2=>?_);cases b with
 |true=>
  obtain⟨N,hN,q2⟩:=q2;rw[AI rfl];show KJ hp (Ab (hb x0 s2 σ1 H2 _ I2 q2) λf s3 q3=>?_);cases f with
  |next=>
   let⟨σ3,H3,I3,n3⟩:=q3;let⟨m',hm,w3⟩:=hN σ3 H3 n3;show⟨m',hm,σ3,H3,I3,w3⟩
  |cont=>
   let⟨σ3,H3,I3,n3⟩:=q3;let⟨m',hm,w3⟩:=hN σ3 H3 n3;show⟨m',hm,σ3,H3,I3,w3⟩
  |brk=>show q3
  |ret v=>show q3
 |false=>
  rw[AH BN];show OS ⟨σ1,H2,I2,q2⟩
end
structure It where
 go:Nat→A7→Prop
 vt:Nat→A7→V→A7→Prop
 stop:Nat→A7→Prop
abbrev fK(X:Cx)(x0:ad)(H:A7)(b:Addr):Prop:=
 H b=none∧b≠X.env.locals∧b∉X.fs∧(b∈X.ex∨X.s₀.heap.objs.size≤b)∧(∀x c,X.env.cells.lookup x=some c→c≠b)∧∀p∈X.pn++x0,p.1≠b
def Inv.yU{X:Cx}{H':A7}(I:Inv X x0 σ H s)(hb:s.heap.objs.size≤b)(hn:H' b=none):fK X x0 H' b:=by
 show⟨hn,Hu (D6 I.lt hb),I.Um hb,.inr (DN I.sz hb),λx c e z=>?_,λp hp z=>?_⟩
 ·let⟨v,q⟩:=I.cell x c e
  show absurd (D6 q.lt (by rw[z];show hb)) (FH _)
 ·show absurd (D6 (Aq (I.pin p hp).1) (by rw[z];show hb)) (FH _)
structure Turn(P:Program)(w:World)(K:W.Frag)(tg:Expr)(J:It)(fp:List Addr)(it:Addr)(tn:Nat→Heap→Prop):Prop where
 mem:it∈fp
 obj:∀i h,tn i h→∀b∈fp,∃o,h.get? b=some o∧∀v,o.data≠.cell v
 keep:∀i h h',tn i h→(∀b∈fp,∀o,h.get? b=some o→h'.get? b=some o)→tn i h'
 item:∀(X:Cx),X.prog=P→X.w=w→X.K=K→X.calm=true→∀(i:Nat) x0 s σ H (E:xz),Inv X x0 σ H s→(∀b∈fp,fK X x0 H b)→tn i s.heap→J.go i H→
  wpAny (model P w) X.A (pyNext (.ref it)) (λr s1=>∃u,r=some u∧
   wpAny (model P w) X.A (letOwnedTupleGo tg (.ref it) u) (λ_ s2=>∃x H',Inv X x0 σ H' s2∧RelV x u∧J.vt i H x H'∧tn (i+1) s2.heap∧∀b∈fp,H' b=none) E s1) E s
 done:∀(X:Cx),X.prog=P→X.w=w→X.K=K→X.calm=true→∀(i:Nat) x0 s σ H (E:xz),Inv X x0 σ H s→(∀b∈fp,fK X x0 H b)→tn i s.heap→J.stop i H→
  wpAny (model P w) X.A (pyNext (.ref it)) (λr s1=>r=none∧Inv X x0 σ H s1) E s
 self:∀(A:Around) (i:Nat) (s:Shared) (Q:xz) (E:xz),tn i s.heap→Q (.ref it) s→wpAny (model P w) A (pyIter (.ref it)) Q E s
abbrev F5:=St→A7→(It→A7→Prop)→Prop
abbrev QX(X:Cx)(x0:ad)(σ:St)(tg:Expr)(R:It→A7→Prop)(Qs:Value)(s2:Shared):Prop:=
 ∃(it:Addr) (fp:List Addr) (tn:Nat→Heap→Prop) (J:It) (H':A7),Qs=.ref it∧Inv X x0 σ H' s2∧Turn X.prog X.w X.K tg J fp it tn∧tn 0 s2.heap∧(∀b∈fp,fK X x0 H' b)∧R J H'
structure PI(X:Cx)(tg iter:Expr)(wi:F5):Prop where
 run:∀x0 s σ H (R:It→A7→Prop),Inv X x0 σ H s→wi σ H R→
  wpAny (model X.prog X.w) X.A (eval iter X.env) (λv s1=>wpAny (model X.prog X.w) X.A (pyIter v) (QX X x0 σ tg R) X.xe s1) X.xe s
instance {X:Cx}{tg iter:Expr}{wi:F5}:CoeFun (PI X tg iter wi) λ_=>∀x0 s σ H (R:It→A7→Prop),Inv X x0 σ H s→wi σ H R→wpAny (model X.prog X.w) X.A (eval iter X.env) (λv s1=>wpAny (model X.prog X.w) X.A (pyIter v) (QX X x0 σ tg R) X.xe s1) X.xe s:=⟨PI.run⟩
def Qm{o:Obj}{n:String}{vs:Array Value}{Q:Unit→Shared→Prop}(ho:s.heap.get? it=some o)(hc:o.cls=.type n)(hd:o.data=.fields vs)
    (hn:["enumerate","zip","dict_itemiterator","dict_reverseitemiterator","odict_iterator","itertools.zip_longest","itertools.pairwise"].contains n=false) (hQ:Q () s):wpAny M A (letOwnedTupleGo tg (.ref it) u) Q E s:=by
  unfold letOwnedTupleGo;cases tg<;>first
    |show AG hQ
    | (cases u<;>first
        |show AG hQ
        | (show A5 (wpAny_load ho ?_)
           rw[hc,hd];show wpAny M A (if(["enumerate","zip","dict_itemiterator","dict_reverseitemiterator","odict_iterator","itertools.zip_longest","itertools.pairwise"].contains n&&vs[0]? == some (rawInt _))=true then _ else _) Q E s
           rw[AH (by intro h;rw[hn,FT]at h;cases h)];show AG hQ))
abbrev cN(K:W.Frag)(a:Addr):It:=
 ⟨λi H=>∃xs x,eB K H a xs∧xs[i]?=some x,λi H x H'=>H'=H∧∀xs,eB K H a xs→xs[i]?=some x,λi H=>∃xs,eB K H a xs∧xs.length≤i⟩
abbrev dB(K:W.Frag)(a:Addr):It:=
 ⟨λi H=>∃xs x,dD K H a xs∧xs[i]?=some x,λi H x H'=>H'=H∧∀xs,dD K H a xs→xs[i]?=some x,λi H=>∃xs,dD K H a xs∧xs.length≤i⟩
abbrev Jq(lo:Int)(n:Nat):It:=⟨λi _=>i<n,λi H x H'=>H'=H∧x=.int (lo+i),λi _=>n≤i⟩
def tx(a it:Addr):Turn P w K tg (cN K a) [it] it (λi h=>h.IsListIter it a i) where
 mem:=by simp
 obj:=λi h st b hb=>by
  let e:b=it:=by simpa using hb
  subst e;let⟨o,e,c,d⟩:=st;show⟨o,e,λv z=>by rw[d]at z;cases z⟩
 keep:=λi h h' st k=>st.at λo e=>k it (by simp) o e
 item:=by
  intro X hP hw hK hc i x0 s σ H E I hf st hg;subst hP hw hK;let⟨xs,x,hq,hx⟩:=hg;let⟨its,rv,p,hz⟩:=I.list hq;let⟨u,hu,ru⟩:=rv.get hx;let⟨f0,f1,f2,f3,f4,f5⟩:=hf it (by simp);show wpAny_pyNext_list_item st p.isList (x:=u) (by simpa using hu) λh' dE sb=>?_;let I1:Inv X x0 σ H {s with heap:=h'}:=I.turned (t':=s.toks) (λb o hb e=>(sb.2 b hb).trans e) f0 f1 f3 f4 f5;let⟨o,e,c,d⟩:=id dE;show⟨u,rfl,Qm (s:={s with heap:=h'}) e c d (by decide) ⟨x,H,I1,ru,⟨rfl,λys hy=>by rw[I.wz hy hq];show hx⟩,dE,λb hb=>(hf b hb).1⟩⟩
 done:=by
  intro X hP hw hK hc i x0 s σ H E I hf st hg;subst hP hw hK;let⟨xs,hq,hx⟩:=hg;let⟨its,rv,p,hz⟩:=I.list hq;let⟨f0,f1,f2,f3,f4,f5⟩:=hf it (by simp);let hl:=rv.length;show wpAny_pyNext_list_end (I.ok.hd hc) st p.isList (by simp;lia) λh' eb=>⟨rfl,I.turned (t':=s.toks) (λb o hb e=>eb b o hb e) f0 f1 f3 f4 f5⟩
 self:=λ_ _ _ _ _ st h=>wpAny_pyIter_listiter st h
def zw(a it:Addr):Turn P w K tg (dB K a) [it] it (λi h=>h.IsTupleIter it a i) where
 mem:=by simp
 obj:=λi h st b hb=>by
  let e:b=it:=by simpa using hb
  subst e;let⟨o,e,c,d⟩:=st;show⟨o,e,λv z=>by rw[d]at z;cases z⟩
 keep:=λi h h' st k=>st.at λo e=>k it (by simp) o e
 item:=by
  intro X hP hw hK hc i x0 s σ H E I hf st hg;subst hP hw hK;let⟨xs,x,hq,hx⟩:=hg;let⟨its,rv,p,hz⟩:=I.tuple hq;let⟨u,hu,ru⟩:=rv.get hx;let⟨f0,f1,f2,f3,f4,f5⟩:=hf it (by simp);show wpAny_pyNext_tuple_item st (show s.heap.IsTuple a its.toArray from p) (x:=u) (by simpa using hu) λh' dE sb=>?_;let I1:Inv X x0 σ H {s with heap:=h'}:=I.turned (t':=s.toks) (λb o hb e=>(sb.2 b hb).trans e) f0 f1 f3 f4 f5;let⟨o,e,c,d⟩:=id dE;show⟨u,rfl,Qm (s:={s with heap:=h'}) e c d (by decide) ⟨x,H,I1,ru,⟨rfl,λys hy=>by rw[I.sW hy hq];show hx⟩,dE,λb hb=>(hf b hb).1⟩⟩
 done:=by
  intro X hP hw hK hc i x0 s σ H E I hf st hg;subst hP hw hK;let⟨xs,hq,hx⟩:=hg;let⟨its,rv,p,hz⟩:=I.tuple hq;let⟨f0,f1,f2,f3,f4,f5⟩:=hf it (by simp);let hl:=rv.length;show wpAny_pyNext_tuple_end (I.ok.hd hc) st (show s.heap.IsTuple a its.toArray from p) (by simp;lia) λh' eb=>⟨rfl,I.turned (t':=s.toks) (λb o hb e=>eb b o hb e) f0 f1 f3 f4 f5⟩
 self:=λ_ _ _ _ _ st h=>wpAny_pyIter_tupleiter st h
def aaA(it:Addr)(lo:Int)(n:Nat):Turn P w K tg (Jq lo n) [it] it (λi h=>IsRangeIter h it (lo+(i:Nat)*1) ((n:Int)-(i:Nat)) 1) where
 mem:=by simp
 obj:=λi h st b hb=>by
  let e:b=it:=by simpa using hb
  subst e;show⟨_,st,λv z=>by
   let z':Data.fields _=Data.cell v:=z;cases z'⟩
 keep:=λi h h' st k=>k it (by simp) _ st
 item:=by
  intro X hP hw hK hc i x0 s σ H E I hf st hg;subst hP hw hK;let⟨f0,f1,f2,f3,f4,f5⟩:=hf it (by simp);let W:=Walks.range (prog:=X.prog) (w:=X.w) (I.ok.hd hc) it lo 1 n;show W.item i s _ _ hg st λv h' tk hv dE kk=>?_;let⟨t,rfl⟩:=hv;let I1:Inv X x0 σ H {s with heap:=h',toks:=tk}:=I.turned (λb o hb e=>kk b o (by simpa using hb) e) f0 f1 f3 f4 f5;show⟨_,rfl,Qm (s:={s with heap:=h',toks:=tk}) (n := "range_iterator") dE rfl rfl (by decide) ⟨.int (lo+i),H,I1,⟨t,?_⟩,⟨rfl,rfl⟩,dE,λb hb=>(hf b hb).1⟩⟩;rw[Int.mul_one]
 done:=by
  intro X hP hw hK hc i x0 s σ H E I hf st hg;subst hP hw hK;let⟨f0,f1,f2,f3,f4,f5⟩:=hf it (by simp);show wpAny_pyNext_range_end (I.ok.hd hc) st (by have:n≤i:=hg;lia) λh' eb=>⟨rfl,I.turned (t':=s.toks) (λb o hb e=>eb b o hb e) f0 f1 f3 f4 f5⟩
 self:=λ_ _ _ _ _ st h=>wpAny_pyIter_rangeiter st h
section
variable {tg: Expr}
abbrev ad5(K:W.Frag)(tl:Am):F5:=λσ H R=>tl σ H λx H1=>∃a,x=.ref a∧(∃xs,eB K H1 a xs)∧R (cN K a) H1
abbrev wg(K:W.Frag)(tl:Am):F5:=λσ H R=>tl σ H λx H1=>∃a,x=.ref a∧(∃xs,dD K H1 a xs)∧R (dB K a) H1
def abY(hl:PE X l tl):PI X tg l (ad5 X.K tl):=by
 show .mk ?_;intro x0 s σ H R I h;show Ab (hl x0 s σ H _ I h) λv s1 ξ=>Ξ23 ξ λx H1 I1 r1 q1=>?_;let⟨a,e,⟨xs,hq⟩,q⟩:=q1;subst e;cases r1;let⟨its,rv,p,hz⟩:=I1.list hq;show ao p.isList ?_;show Ψ5 s1.heap.objs.size [s1.heap.objs.size] _ _ H1 ⟨rfl,I1.kept (t':=s1.toks) λb o e=>Al _ e,tx a _,⟨_,CM _ rfl,rfl,rfl⟩,λb hb=>?_,q⟩;let e:b=s1.heap.objs.size:=by simpa using hb
 subst e;show I1.yU (Ak _) (I1.bA.fresh (Ak _))
def acj(hl:PE X l tl):PI X tg l (wg X.K tl):=by
 show .mk ?_;intro x0 s σ H R I h;show Ab (hl x0 s σ H _ I h) λv s1 ξ=>Ξ23 ξ λx H1 I1 r1 q1=>?_;let⟨a,e,⟨xs,hq⟩,q⟩:=q1;subst e;cases r1;let⟨its,rv,p,hz⟩:=I1.tuple hq;show Mw (show s1.heap.IsTuple a its.toArray from p) ?_;show Ψ5 s1.heap.objs.size [s1.heap.objs.size] _ _ H1 ⟨rfl,I1.kept (t':=s1.toks) λb o e=>Al _ e,zw a _,⟨_,CM _ rfl,rfl,rfl⟩,λb hb=>?_,q⟩;let e:b=s1.heap.objs.size:=by simpa using hb
 subst e;show I1.yU (Ak _) (I1.bA.fresh (Ak _))
def yB{R:It→A7→Prop}{hi:Int}{t u v:Tok}{tk:Nat}(I:Inv X x0 σ H s)(h1:-(2^62)≤lo)(h2:lo<2^62)(h3:-(2^62)≤hi)(h4:hi<2^62)
  (q:R (Jq lo (hi-lo).toNat) H):wpAny (model X.prog X.w) X.A (pyIter (.ref s.heap.objs.size)) (QX X x0 σ tg R) E {s with heap:=s.heap.push {cls:=.type "range",data:=.fields #[.int lo t,.int hi u,.int 1 v]},toks:=tk}:=by
 show wpAny_pyIter_range (IsRange.new ..) (small_one h1 h2 h3 h4) ?_;let I1:Inv X x0 σ H {s with heap:=s.heap.push {cls:=.type "range",data:=.fields #[.int lo t,.int hi u,.int 1 v]},toks:=tk}:=I.kept λb o e=>Al _ e;show Ψ5 ((s.heap.push {cls:=.type "range",data:=.fields #[.int lo t,.int hi u,.int 1 v]}).objs.size) ([(s.heap.push {cls:=.type "range",data:=.fields #[.int lo t,.int hi u,.int 1 v]}).objs.size]) _ _ H ⟨rfl,
  I1.kept (t':=tk) λb o e=>Al _ e,aaA _ lo (hi-lo).toNat,?_,λb hb=>?_,q⟩
 ·let e1:lo+((0:Nat):Int)*1=lo:=by simp
  let e2:(((hi-lo).toNat:Nat):Int)-((0:Nat):Int)=Builtin.Range.rangeSize lo hi 1:=by rw[rangeSize_one];split<;>lia
  show IsRangeIter _ _ (lo+((0:Nat):Int)*1) ((((hi-lo).toNat:Nat):Int)-((0:Nat):Int)) 1
  rw[e1,e2];show CM _ rfl
 ·let e:b=(s.heap.push {cls:=.type "range",data:=.fields #[.int lo t,.int hi u,.int 1 v]}).objs.size:=by simpa using hb
  subst e;show I1.yU (Ak _) (I1.bA.fresh (Ak _))
abbrev uy(ta:CW):F5:=λσ H R=>ta σ H λvs H1=>∃j:Int,vs=[.int j]∧-(2^62)≤j∧j<2^62∧R (Jq 0 j.toNat) H1
def nJ{a:Expr}{ta:CW}{p pos:Pos}(hg:Bi X "range")(hm:X.mg "range" = none)(ha:PA X [a] ta)(hs:starEach [a] X.env=[(false,eval a X.env)]:=by rfl):PI X tg (.Call (.Name "range" p) [a] [] pos) (uy ta):=by
 show .mk ?_;intro x0 s σ H R I h;show Call_ (GJ I hg hm boot_range (Ii (Ab (ha pos x0 s σ H _ I h) λus s1 ξ=>Ξ23 ξ λvs H1 I1 r1 q1=>?_) hs rfl));obtain⟨j,e,q1,q2,q⟩:=q1;subst e;cases r1 with
 |cons r rr=>
  cases rr;let⟨t,rfl⟩:=r;show call_range_1 (yB I1 (by lia) (by lia) q1 q2 (by simpa using q))
abbrev sX(wi:F5)(g:EL)(tb:Bx):Bx:=λD σ H=>wi σ H λJ H1=>∃W:Nat→Nat→St→A7→Prop,(∃m,W 0 m σ H1)∧∀i m σ H,W i m σ H→
 (J.stop i H∧D.nx σ H)∨(J.go i H∧∃N:St→A7→Prop,(∀σ' H',N σ' H'→∃m',m' < m∧W (i+1) m' σ' H')∧∀x H',J.vt i H x H'→g x σ H' λσ2 H2=>tb {D with nx:=N,ct:=N,bk:=D.nx} σ2 H2)
abbrev Ln(fp:List Addr)(h:Heap):ad:=fp.filterMap λb=>(h.get? b).map λo=>(b,o)
def Lv{o:Obj}(hb:b∈fp)(e:h.get? b=some o):(b,o)∈Ln fp h:=abh.mpr ⟨b,hb,by rw[e];rfl⟩
def rU{p:Addr×Obj}(hp:p∈Ln fp h):p.1∈fp∧h.get? p.1=some p.2:=by
 let⟨b,hb,e⟩:=abh.mp hp;cases q:h.get? b with
 |none=>rw[q]at e;cases e
 |some o=>
  rw[q]at e;let e':(b,o)=p:=EC e;subst e';show⟨hb,q⟩
def Inv.pinned(I:Inv X x0 σ H s)(hf:∀b∈fp,fK X x0 H b)(ho:∀b∈fp,∃o,s.heap.get? b=some o∧∀v,o.data≠.cell v):Inv X (x0++Ln fp s.heap) σ H s:=
 I.Ad λp hp=>(aaC.mp hp).elim (λz=>I.pin p (FL _ z)) λz=>by
  let⟨hb,e⟩:=rU z;let⟨f0,f1,f2,_⟩:=hf p.1 hb;let⟨o,e',d⟩:=ho p.1 hb;rw[e]at e';cases e';show⟨e,f0,f1,f2,d⟩
def Inv.jx{pl:ad}(I:Inv X (x0++pl) σ H s):Inv X x0 σ H s:=I.Ad λp hp=>I.pin p (FL _ (SO _ hp))
def jM{iter:Expr}{wi:F5}{g:EL}{tb:Bx}{pos:Pos}(hp:PassesOwn (model X.prog X.w) X.A X.env X.xe)(hc:X.calm=true)(hi:PI X tg iter wi)(hg:PG X tg g)(hb:kl X body tb)
  (hs:∀x,foldedSetIterable iter X.env x=pure x:=by intro _;rfl):PS X (.For tg iter body [] pos) (sX wi g tb):=by
 show .mk ?_;intro x0 s σ H D I h;show wpAny_For (Ab (hi x0 s σ H _ I h) λv s1 h1=>Ab h1 λQs s2 h2=>?_) hs;let⟨it,fp,tn,J,H2,e,I2,T,jh,f2,⟨W,⟨m0,w0⟩,turn⟩⟩:=h2;subst e
 -- SS stays true of Bh MU objects through Bh loop
 let LF:∀{H':A7},(∀b∈fp,H' b=none)→∀b∈fp,fK X x0 H' b:=λhn b hb=>⟨hn b hb,(f2 b hb).2⟩;show codeAny_forLoop_any (λn s'=>∃i σ' H',Inv X x0 σ' H' s'∧tn i s'.heap∧(∀b∈fp,H' b=none)∧W i n σ' H') ?_ m0 ⟨0,σ,H2,I2,jh,λb hb=>(f2 b hb).1,w0⟩;intro n s3⟨i,σ3,H3,I3,vi,Ky,w3⟩;rcases turn i n σ3 H3 w3 with⟨stop,qn⟩|⟨go,N,hN,step⟩
 ·show KJ hp (Ab (T.done X rfl rfl rfl hc i x0 s3 σ3 H3 X.xe I3 (LF Ky) vi stop) λr s4 ξ=>Ξ02 ξ λhr I4=>?_)
  subst hr;show OS ⟨σ3,H3,I4,qn⟩
 ·show KJ hp (Ab (T.item X rfl rfl rfl hc i x0 s3 σ3 H3 X.xe I3 (LF Ky) vi go) λr s4 ξ=>Ξ12 ξ λu hr h4=>?_)
  subst hr;show KJ hp (Ab h4 λ_ s5 ξ=>Ξ25 ξ λx H5 I5 r5 y5 Bj Q8=>?_);let RB:=I5.pinned (LF Q8) (T.obj _ _ Bj);show KJ hp (Ab (hg _ s5 σ3 H5 x u _ RB r5 (step x H5 y5)) λ_ s6 ξ=>Ξ22 ξ λσ6 H6 I6 q6=>?_);show KJ hp (Ab (hb _ s6 σ6 H6 _ I6 q6) λf s7 q7=>?_);let again:∀{σ7:St} {H7:A7},Inv X (x0++Ln fp s5.heap) σ7 H7 s7→N σ7 H7→∃m,m<n∧∃i σ' H',Inv X x0 σ' H' s7∧tn i s7.heap∧(∀b∈fp,H' b=none)∧W i m σ' H':=λ{σ7 H7} I7 n7=>by
   let⟨m',hm,w7⟩:=hN σ7 H7 n7;show⟨m',hm,i+1,σ7,H7,I7.jx,T.keep _ _ _ Bj λb hb o e=>(I7.pin (b,o) (FL _ (FL _ (Lv hb e)))).1,λb hb=>?_,w7⟩;let⟨o,e,d⟩:=T.obj _ _ Bj b hb;show(I7.pin (b,o) (FL _ (FL _ (Lv hb e)))).2.1
  cases f with
  |next=>let⟨σ7,H7,I7,n7⟩:=q7;show again I7 n7
  |cont=>let⟨σ7,H7,I7,n7⟩:=q7;show again I7 n7
  |brk=>obtain⟨σ7,H7,I7,q7⟩:=q7;show Ψ2 σ7 H7 ⟨I7.jx,q7⟩
  |ret v=>obtain⟨x7,σ7,H7,I7,r7,q7⟩:=q7;show Ψ3 x7 σ7 H7 ⟨I7.jx,r7,q7⟩
end
def y7{g:EL}{tb:Bx}(Pv:Nat→St→A7→Prop)(h0:Pv 0 σ H)
  (hs:∀i σ H,i<n→Pv i σ H→g (.int (lo+i)) σ H λσ2 H2=>tb {D with nx:=Pv (i+1),ct:=Pv (i+1),bk:=D.nx} σ2 H2) (hd:∀σ H,Pv n σ H→D.nx σ H) :
  ∃W:Nat→Nat→St→A7→Prop,(∃m,W 0 m σ H)∧∀i m σ H,W i m σ H→
   ((Jq lo n).stop i H∧D.nx σ H)∨((Jq lo n).go i H∧∃N:St→A7→Prop,(∀σ' H',N σ' H'→∃m',m' < m∧W (i+1) m' σ' H')∧∀x H',(Jq lo n).vt i H x H'→g x σ H' λσ2 H2=>tb {D with nx:=N,ct:=N,bk:=D.nx} σ2 H2):=by
 show⟨λi m σ H=>m=n-i∧i≤n∧Pv i σ H,⟨n,by simp,CV _,h0⟩,?_⟩;intro i m σ H⟨rfl,hi,p⟩;by_cases fI:i<n
 ·show .inr ⟨fI,Pv (i+1),λσ' H' p'=>⟨n-(i+1),by lia,rfl,fI,p'⟩,λx H' y=>?_⟩
  obtain⟨e,y⟩:=y;subst e y;show hs i σ _ fI p
 ·let e:i=n:=by lia
  subst e;show .inl ⟨Ak _,hd σ H p⟩
abbrev Dm:=V→V→A7→Au→Prop
abbrev Bs(X:Cx)(f:Value→Value→Sem Value)(r:Dm):Prop:=
 ∀x0 s σ H (x y:V) (v u:Value) (Q:Au),Inv X x0 σ H s→RelV x v→RelV y u→r x y H Q→
  wpAny (model X.prog X.w) X.A (f v u) (CR X x0 σ Q) X.xe s
abbrev TR(X:Cx)(f:Value→Sem Value)(r:V→A7→Au→Prop):Prop:=
 ∀x0 s σ H (x:V) (v:Value) (Q:Au),Inv X x0 σ H s→RelV x v→r x H Q→
  wpAny (model X.prog X.w) X.A (f v) (CR X x0 σ Q) X.xe s
abbrev Eb(X:Cx)(f:Value)(r:List V→A7→Au→Prop):Prop:=
 ∀x0 s σ H (xs:List V) (us:List Value) (Q:Au),Inv X x0 σ H s→Vals xs us→r xs H Q→
  wpAny (model X.prog X.w) X.A (call f us) (CR X x0 σ Q) X.xe s
abbrev sP(X:Cx)(r:V→A7→(Bool→A7→Prop)→Prop):Prop:=
 ∀x0 s σ H (x:V) (v:Value) (Q:Bool→A7→Prop),Inv X x0 σ H s→RelV x v→r x H Q→
  wpAny (model X.prog X.w) X.A (truthy v) (JX X x0 σ Q) X.xe s
abbrev NQ(r:Dm)(ta tb:Am):Am:=λσ H Q=>ta σ H λx H1=>tb σ H1 λy H2=>r x y H2 Q
abbrev ue(r:V→A7→Au→Prop)(ta:Am):Am:=λσ H Q=>ta σ H λx H1=>r x H1 Q
abbrev Ir(C:Int→Int→Prop)(g:Int→Int→V):Dm:=λx y H Q=>∃i j,x=.int i∧y=.int j∧C i j∧Q (g i j) H
abbrev Ht(g:Int→Int→V):Dm:=λx y H Q=>∃i j,x=.int i∧y=.int j∧Q (g i j) H
abbrev lR(g:Int→V):V→A7→Au→Prop:=λx H Q=>∃i,x=.int i∧Q (g i) H
section
variable {a b: Expr}
def VS(ha:PE X a ta)(hb:PE X b tb){R:V→V→A7→Prop}(I:Inv X x0 σ H s)
  (h:ta σ H λx H1=>tb σ H1 λy H2=>R x y H2)  
  (hf:∀v u s2 x y H2,Inv X x0 σ H2 s2→RelV x v→RelV y u→R x y H2→wpAny (model X.prog X.w) X.A (f v u) Q X.xe s2) :
  wpAny (model X.prog X.w) X.A (eval a X.env) (λv s₁=>wpAny (model X.prog X.w) X.A (eval b X.env) (λu s₂=>wpAny (model X.prog X.w) X.A (f v u) Q X.xe s₂) X.xe s₁) X.xe s:=by
 show Ab (ha x0 s σ H _ I h) λv s1 ξ=>Ξ23 ξ λx H1 I1 r1 q1=>?_;show Ab (hb x0 s1 σ H1 _ I1 q1) λu s2 ξ=>Ξ23 ξ λy H2 I2 r2 q2=>?_;show hf v u s2 x y H2 I2 r1 r2 q2
def DB{op:Operator}(ho:Bs X (binaryOp op) r)(ha:PE X a ta)(hb:PE X b tb):PE X (.BinOp a op b pos) (NQ r ta tb):=by
 show .mk ?_;intro x0 s σ H Q I h;show wpAny_BinOp (VS ha hb I h λv u s2 x y H2 I2 rx ry q=>ho x0 s2 σ H2 x y v u Q I2 rx ry q)
def acu{op:UnaryOp}{r:V→A7→Au→Prop}(ho:TR X (unaryOp op) r)(ha:PE X a ta):PE X (.UnaryOp op a pos) (ue r ta):=by
 show .mk ?_;intro x0 s σ H Q I h;show UnaryOp_ (Ab (ha x0 s σ H _ I h) λv s1 ξ=>Ξ23 ξ λx H1 I1 r1 q1=>ho x0 s1 σ H1 x v Q I1 r1 q1)
def Kx{C:Int→Int→Prop}
  (rule:∀(i j:Int) (t u:Tok) (s:Shared) (Q:xz) (E:xz),C i j→Q (.int (g i j) s.toks) {s with toks:=s.toks+1}→wpAny (model X.prog X.w) X.A (f (.int i t) (.int j u)) Q E s) :
  Bs X f (Ir C λi j=>.int (g i j)):=by
 intro x0 s σ H x y v u Q I rx ry h;let⟨i,j,rfl,rfl,hc,q⟩:=h;let⟨t,rfl⟩:=rx;let⟨t',rfl⟩:=ry;show rule i j t t' s _ _ hc ⟨.int (g i j),H,I.tok _,⟨_,rfl⟩,q⟩
def bu
  (rule:∀(i j:Int) (t u:Tok) (s:Shared) (Q:xz) (E:xz),Q (.int (g i j) s.toks) {s with toks:=s.toks+1}→wpAny (model X.prog X.w) X.A (f (.int i t) (.int j u)) Q E s) :
  Bs X f (Ht λi j=>.int (g i j)):=by
 intro x0 s σ H x y v u Q I rx ry h;let⟨i,j,rfl,rfl,q⟩:=h;let⟨t,rfl⟩:=rx;let⟨t',rfl⟩:=ry;show rule i j t t' s _ _ ⟨.int (g i j),H,I.tok _,⟨_,rfl⟩,q⟩
def Rx{g:Int→Int→Bool}
  (rule:∀(i j:Int) (t u:Tok) (s:Shared) (Q:xz) (E:xz),Q (.bool (g i j)) s→wpAny (model X.prog X.w) X.A (f (.int i t) (.int j u)) Q E s) :
  Bs X f (Ht λi j=>.bl (g i j)):=by
 intro x0 s σ H x y v u Q I rx ry h;let⟨i,j,rfl,rfl,q⟩:=h;let⟨t,rfl⟩:=rx;let⟨t',rfl⟩:=ry;show rule i j t t' s _ _ ⟨.bl (g i j),H,I,rfl,q⟩
abbrev gM(i j:Int):Prop:=0≤j∧j≤1000000∧i.natAbs<2^64
abbrev vh(i j:Int):Prop:=(-(2^64)<i∧i<2^64)∨(-(2^64)<j∧j<2^64)
def vh.ok{i j:Int}(h:vh i j):IntMulOk i j:=by
 rcases h with⟨h1,h2⟩|⟨h1,h2⟩
 ·show .of_left (intBits_le_64 h1 h2)
 ·show .of_right (intBits_le_64 h1 h2)
def IE:Bs X (binaryOp .Add) (Ht λi j=>.int (i+j)):=bu λ_ _ _ _ _ _ _ q=>add_int q
def Lq:Bs X (binaryOp .Sub) (Ht λi j=>.int (i-j)):=bu λ_ _ _ _ _ _ _ q=>sub_int q
def Ov:Bs X (binaryOp .Mult) (Ir vh λi j=>.int (i*j)):=Kx λ_ _ _ _ _ _ _ hc q=>mul_int q hc.ok
def NB:Bs X (binaryOp .Mod) (Ir (λ_ j=>0<j) λi j=>.int (i%j)):=Kx λi j _ _ _ _ _ hc q=>by
 let h1:(0:Int)<j:=hc;show mod_int' (by lia) (by rw[Int.fmod_eq_emod_of_nonneg i (by lia)];show q)
def Qd:Bs X (binaryOp .Pow) (Ir gM λi j=>.int (i^j.toNat)):=Kx λ_ _ _ _ _ _ _ hc q=>pow_int_small hc.1 hc.2.1 hc.2.2 q
def rA:Bs X (inplaceOp .Add) (Ht λi j=>.int (i+j)):=bu λ_ _ _ _ _ _ _ q=>iadd_int q
def acv:Bs X (inplaceOp .Mult) (Ir vh λi j=>.int (i*j)):=Kx λ_ _ _ _ _ _ _ hc q=>imul_int q hc.ok
def yA{f:Value→Sem Value}{g:Int→Int}
  (rule:∀(i:Int) (t:Tok) (s:Shared) (Q:xz) (E:xz),Q (.int (g i) s.toks) {s with toks:=s.toks+1}→wpAny (model X.prog X.w) X.A (f (.int i t)) Q E s) :
  TR X f (lR λi=>.int (g i)):=by
 intro x0 s σ H x v Q I rx h;let⟨i,rfl,q⟩:=h;let⟨t,rfl⟩:=rx;show rule i t s _ _ ⟨.int (g i),H,I.tok _,⟨_,rfl⟩,q⟩
def tJ:TR X (unaryOp .USub) (lR λi=>.int (-i)):=yA λ_ _ _ _ _ q=>neg_int q
end
abbrev Rq:V→V→Bool
 |.non,.non=>true|.non,.int _=>true|.int _,.non=>true|.non,.bl _=>true|.bl _,.non=>true|.non,.str _=>true|.str _,.non=>true
 |.int _,.int _=>true|.bl _,.bl _=>true|.str _,.str _=>true|.byt _,.byt _=>true
 |.int _,.str _=>true|.str _,.int _=>true|.bl _,.str _=>true|.str _,.bl _=>true
 |_,_=>false
abbrev rT:Dm:=λx y H Q=>Rq x y=true∧Q (.bl (decide (x=y))) H
abbrev aez:Dm:=λx y H Q=>Rq x y=true∧Q (.bl (!decide (x=y))) H
def j4{i j:Int}:decide (V.int i=V.int j)=(i==j):=by
 rw[LU];simp
def eI{i j:Bool}:decide (V.bl i=V.bl j)=(i==j):=by
 rw[LU];simp
def l7{i j:Str}:decide (V.str i=V.str j)=(i==j):=by
 rw[LU];simp
def ji{i j:Array UInt8}:decide (V.byt i=V.byt j)=(i.toList==j.toList):=by
 rw[LU];cases i;cases j;simp
section
variable {a b c: Expr}{tc: Am}
def Ci{Q:Au}{k k':Bool}(I:Inv X x0 σ H s)(q:Q (.bl k) H)(e:k=k'):CR X x0 σ Q (.bool k') s:=by
 subst e;show Ψ2 (.bl k) H ⟨I,rfl,q⟩
def My:Bs X (compareOp .Eq) rT:=by
 intro x0 s σ H x y v u Q I rx ry h;let⟨hs,q⟩:=h;cases x with
 |non=>
  cases rx;cases y with
  |non=>cases ry;show PySem.EqNone.eq_none_none (Ci I q (by simp))
  |bl j=>cases ry;show PySem.EqNone.eq_none_bool (Ci I q (by simp))
  |int j=>let⟨t',rfl⟩:=ry;show PySem.EqNone.eq_none_int (Ci I q (by simp))
  |str j=>let⟨t',rfl⟩:=ry;show PySem.EqNone.eq_none_str (Ci I q (by simp))
  |_=>show absurd (show false=true from hs) BN
 |bl i=>
  cases rx;cases y with
  |non=>cases ry;show PySem.EqNone.eq_bool_none (Ci I q (by simp))
  |bl j=>cases ry;show eq_bool (Ci I q eI)
  |str j=>let⟨t',rfl⟩:=ry;show PySem.EqMixed.eq_bool_str (Ci I q (by simp))
  |_=>show absurd (show false=true from hs) BN
 |int i=>
  let⟨t,rfl⟩:=rx;cases y with
  |non=>cases ry;show PySem.EqNone.eq_int_none (Ci I q (by simp))
  |int j=>let⟨t',rfl⟩:=ry;show eq_int (Ci I q j4)
  |str j=>let⟨t',rfl⟩:=ry;show PySem.EqMixed.eq_int_str (Ci I q (by simp))
  |_=>show absurd (show false=true from hs) BN
 |str i=>
  let⟨t,rfl⟩:=rx;cases y with
  |non=>cases ry;show PySem.EqNone.eq_str_none (Ci I q (by simp))
  |bl j=>cases ry;show PySem.EqMixed.eq_str_bool (Ci I q (by simp))
  |int j=>let⟨t',rfl⟩:=ry;show PySem.EqMixed.eq_str_int (Ci I q (by simp))
  |str j=>let⟨t',rfl⟩:=ry;show eq_str (Ci I q l7)
  |_=>show absurd (show false=true from hs) BN
 |byt i=>
  let⟨t,rfl⟩:=rx;cases y with
  |byt j=>let⟨t',rfl⟩:=ry;show W.eq_bytes (Ci I q ji)
  |_=>show absurd (show false=true from hs) BN
 |_=>cases y<;>show absurd (show false=true from hs) BN
def xv:Bs X (compareOp .NotEq) aez:=by
 intro x0 s σ H x y v u Q I rx ry h;let⟨hs,q⟩:=h;cases x with
 |non=>
  cases rx;cases y with
  |non=>cases ry;show PySem.EqNone.ne_none_none (Ci I q (by simp))
  |bl j=>cases ry;show PySem.EqNone.ne_none_bool (Ci I q (by simp))
  |int j=>let⟨t',rfl⟩:=ry;show PySem.EqNone.ne_none_int (Ci I q (by simp))
  |str j=>let⟨t',rfl⟩:=ry;show PySem.EqNone.ne_none_str (Ci I q (by simp))
  |_=>show absurd (show false=true from hs) BN
 |bl i=>
  cases rx;cases y with
  |non=>cases ry;show PySem.EqNone.ne_bool_none (Ci I q (by simp))
  |bl j=>cases ry;show ne_bool (Ci I q (Ca not eI))
  |str j=>let⟨t',rfl⟩:=ry;show PySem.EqMixed.ne_bool_str (Ci I q (by simp))
  |_=>show absurd (show false=true from hs) BN
 |int i=>
  let⟨t,rfl⟩:=rx;cases y with
  |non=>cases ry;show PySem.EqNone.ne_int_none (Ci I q (by simp))
  |int j=>let⟨t',rfl⟩:=ry;show ne_int (Ci I q (Ca not j4))
  |str j=>let⟨t',rfl⟩:=ry;show PySem.EqMixed.ne_int_str (Ci I q (by simp))
  |_=>show absurd (show false=true from hs) BN
 |str i=>
  let⟨t,rfl⟩:=rx;cases y with
  |non=>cases ry;show PySem.EqNone.ne_str_none (Ci I q (by simp))
  |bl j=>cases ry;show PySem.EqMixed.ne_str_bool (Ci I q (by simp))
  |int j=>let⟨t',rfl⟩:=ry;show PySem.EqMixed.ne_str_int (Ci I q (by simp))
  |str j=>let⟨t',rfl⟩:=ry;show ne_str (Ci I q (Ca not l7))
  |_=>show absurd (show false=true from hs) BN
 |byt i=>
  let⟨t,rfl⟩:=rx;cases y with
  |byt j=>let⟨t',rfl⟩:=ry;show W.ne_bytes (Ci I q (Ca not ji))
  |_=>show absurd (show false=true from hs) BN
 |_=>cases y<;>show absurd (show false=true from hs) BN
def pG:Bs X (compareOp .Lt) (Ht λi j=>.bl (decide (i<j))):=Rx λ_ _ _ _ _ _ _ q=>lt_int q
def zE:Bs X (compareOp .LtE) (Ht λi j=>.bl (decide (i≤j))):=Rx λ_ _ _ _ _ _ _ q=>le_int q
def SW:Bs X (compareOp .Gt) (Ht λi j=>.bl (decide (j<i))):=Rx λ_ _ _ _ _ _ _ q=>gt_int q
def aax:Bs X (compareOp .GtE) (Ht λi j=>.bl (decide (j≤i))):=Rx λ_ _ _ _ _ _ _ q=>ge_int q
def ad1:Bs X (compareOp .Is) (λx y H Q=>y=.non∧Q (.bl (decide (x=.non))) H):=by
 intro x0 s σ H x y v u Q I rx ry h;let⟨rfl,q⟩:=h;cases ry;show is_none_gen (Ci I q ?_);cases x<;>first
  |(cases rx;rfl)
  |(let⟨t,rfl⟩:=rx;rfl)
def IA(b:Expr){op:CmpOp}(h:op≠.In:=by decide)(h2:op≠.NotIn:=by decide):behindInMarks op b=false:=by
 let e1:(op==CmpOp.In)=false:=by cases op<;>first|rfl|show absurd rfl h
 let e2:(op==CmpOp.NotIn)=false:=by cases op<;>first|rfl|show absurd rfl h2
 cases b<;>simp[behindInMarks,e1,e2]
def tL{op:CmpOp}(ho:Bs X (compareOp op) r)(ha:PE X a ta)(hb:PE X b tb)(hm:behindInMarks op b=false):PE X (.Compare a [op] [b] pos) (NQ r ta tb):=by
 show .mk ?_;intro x0 s σ H Q I h;show wpAny_Compare1 (VS ha hb I h λv u s2 x y H2 I2 rx ry q=>ho x0 s2 σ H2 x y v u Q I2 rx ry q) hm
abbrev qm(t:Am):Cp:=λσ H Q=>t σ H λx H'=>∃k,x=.bl k∧Q k H'
def JB{op:CmpOp}(ho:Bs X (compareOp op) r)(ha:PE X a ta)(hb:PE X b tb)(hm:behindInMarks op b=false):PT X (.Compare a [op] [b] pos) (qm (NQ r ta tb)):=by
 show .mk ?_;intro x0 s σ H Q I h;show wpAny_isTrue_Compare1 (Ab (ha x0 s σ H _ I h) λv s1 ξ=>Ξ23 ξ λx H1 I1 r1 q1=>Ab (hb x0 s1 σ H1 _ I1 q1) λu s2 ξ=>Ξ23 ξ λy H2 I2 r2 q2=>
  Ab (ho x0 s2 σ H2 x y v u _ I2 r1 r2 q2) λc s3⟨z,H3,I3,r3,k,e,q3⟩=>?_) hm
 subst e;cases r3;show II ⟨H3,I3,q3⟩
abbrev mH(r r':Dm)(ta tb tc:Am):Am:=λσ H Q=>ta σ H λx H1=>tb σ H1 λy H2=>r x y H2 λz H3=>∃k,z=.bl k∧
 (if k=true then tc σ H3 λw' H4=>r' y w' H4 Q else Q (.bl false) H3)
def abx{op Mv:CmpOp}{r':Dm}(ho:Bs X (compareOp op) r)(mK:Bs X (compareOp Mv) r')(ha:PE X a ta)(hb:PE X b tb)(hc:PE X c tc)
  (hm:lastMarks [op,Mv] [b,c]=false:=by with_unfolding_all rfl):PE X (.Compare a [op,Mv] [b,c] pos) (mH r r' ta tb tc):=by
 show .mk ?_;intro x0 s σ H Q I h;show Compare_chain (Ab (ha x0 s σ H _ I h) λv s1 ξ=>Ξ23 ξ λx H1 I1 r1 q1=>chain_link (Ab (hb x0 s1 σ H1 _ I1 q1) λu s2 ξ=>Ξ23 ξ λy H2 I2 r2 q2=>
  Ab (ho x0 s2 σ H2 x y v u _ I2 r1 r2 q2) λd s3⟨z,H3,I3,r3,k,e,q3⟩=>?_)) hm
 subst e;cases r3;show II ?_;cases k with
 |false=>show ite_ff ⟨.bl false,H3,I3,rfl,q3⟩
 |true=>show ite_tt (chain_last (Ab (hc x0 s3 σ H3 _ I3 q3) λw' s4 ξ=>Ξ23 ξ λz' H4 I4 r4 q4=>mK x0 s4 σ H4 y z' u w' Q I4 r2 r4 q4))
abbrev bw(K:W.Frag)(x:V)(H:A7)(k:Bool):Prop:=
 match x with
 |.non=>k=false
 |.bl b=>k=b
 |.int i=>k=(i != 0)
 |.str y=>y.length≤sizeLine∧k=((y.length:Int) != 0)
 |.byt y=>y.size≤sizeLine∧k=((y.size:Int) != 0)
 |.ref p=>(∃xs,eB K H p xs∧k=!xs.isEmpty)∨(∃xs,dD K H p xs∧k=!xs.isEmpty)∨∃aQ,H p=some (.dK aQ)∧k=!aQ.isEmpty
 |_=>False
def zL{κ:Type}{aQ:List (κ×V)}{vs:List (κ×Value)}(r:KV aQ vs):(!vs.isEmpty)=!aQ.isEmpty:=by
 cases r<;>rfl
def qg{its:List Value}(r:Vals xs its):(!its.toArray.isEmpty)=!xs.isEmpty:=by
 cases r<;>simp
def Jl:(sizeLine:Nat)<2^63:=by rw[CP];decide
def aeJ:sP X (λx H Q=>∃k,bw X.K x H k∧Q k H):=by
 intro x0 s σ H x v Q I rx h;let⟨k,e,q⟩:=h;let hl:=Jl;let hs:sizeLine=16777216:=CP;cases x with
 |non=>
  cases rx;let e':k=false:=e;subst e';show truthy_none ⟨H,I,q⟩
 |bl b=>
  cases rx;let e':k=b:=e;subst e';show II ⟨H,I,q⟩
 |int i=>
  let⟨t,rfl⟩:=rx;let e':k=(i != 0):=e;subst e';show PySem.P.truthy_int ⟨H,I,q⟩
 |str y=>
  let⟨t,rfl⟩:=rx;obtain⟨hy,e'⟩:y.length≤sizeLine∧k=((y.length:Int) != 0):=e;subst e';show PySem.P.truthy_str (by lia) ⟨H,I.tok _,q⟩
 |byt y=>
  let⟨t,rfl⟩:=rx;obtain⟨hy,e'⟩:y.size≤sizeLine∧k=((y.size:Int) != 0):=e;subst e';show W.truthy_bytes (by lia) ⟨H,I.tok _,q⟩
 |ref p=>
  cases rx;let e':(∃xs,eB X.K H p xs∧k=!xs.isEmpty)∨(∃xs,dD X.K H p xs∧k=!xs.isEmpty)∨∃aQ,H p=some (.dK aQ)∧k=!aQ.isEmpty:=e;rcases e' with⟨xs,hx,e'⟩|⟨xs,hx,e'⟩|⟨aQ,hx,e'⟩
  ·subst e'
   let⟨its,r,pl,hz⟩:=I.list hx;let hlen:=r.length;show wpAny_truthy_list pl.isList (by simp only[Bg];lia) ⟨H,I.tok _,by rw[qg r];show q⟩
  ·subst e'
   let⟨its,r,pl,hz⟩:=I.tuple hx;let hlen:=r.length;show truthy_tuple pl (by simp only[Bg];lia) ⟨H,I.tok _,by rw[qg r];show q⟩
  ·subst e'
   obtain⟨hz,hS,vs,r,m⟩:aQ.length≤sizeLine∧(p==sysModules)=false∧∃vs,KV aQ vs∧s.heap.DictOf (FW X.prog X.w) p vs:=I.bA p _ hx;let hlen:aQ.length=vs.length:=Rt r;show wpAny_truthy_dict hS m (by lia) ⟨H,I.tok _,by rw[zL r];show q⟩
 |_=>show(show False from e).elim
def sg(ha:PE X a ta)(he:∀whole,isTrue a X.env whole=(do let v ←whole;standAt a.pos;holding [v] (truthy v))):
  PT X a (λσ H Q=>ta σ H λx H'=>∃k,bw X.K x H' k∧Q k H'):=by
 show .mk ?_;intro x0 s σ H Q I h;show isTrue_plain (Ab (ha x0 s σ H _ I h) λv s1 ξ=>Ξ23 ξ λx H1 I1 r1 q1=>aeJ x0 s1 σ H1 x v Q I1 r1 q1) (he _)
def qz:Bs X (binaryOp .Add) (λx y H Q=>∃i j,x=.str i∧y=.str j∧i.length+j.length≤sizeLine∧Q (.str (i++j)) H):=by
 intro x0 s σ H x y v u Q I rx ry h;let⟨i,j,rfl,rfl,hz,q⟩:=h;let⟨t,rfl⟩:=rx;let⟨t',rfl⟩:=ry;show add_str (λt' tk=>Ψ2 (.str (i++j)) H ⟨I.tok _,⟨_,rfl⟩,q⟩) hz
def vals1{x:V}(r:Vals [x] us):∃u,us=[u]∧RelV x u:=by
 cases r with
 |cons r1 r2=>cases r2;show⟨_,rfl,r1⟩
def vals2{x:V}(r:Vals [x,y] us):∃u w',us=[u,w']∧RelV x u∧RelV y w':=by
 cases r with
 |cons r1 r2=>
  cases r2 with
  |cons r3 r4=>cases r4;show Ψ2 _ _ ⟨rfl,r1,r3⟩
def lE(hc:X.calm=true):Eb X (.builtin "max") (λxs H Q=>∃i j,xs=[.int i,.int j]∧Q (.int (if j>i then j else i)) H):=by
 intro x0 s σ H xs us Q I r h;let⟨i,j,rfl,q⟩:=h;let⟨u,w',rfl,⟨t,rfl⟩,⟨t',rfl⟩⟩:=vals2 r;show max_two_ints (I.ok.hd hc) λh' tk k=>Ψ2 _ H ⟨I.kept k,?_,q⟩;by_cases hj:j>i
 ·rw[AI hj,AI hj];show⟨_,rfl⟩
 ·rw[AH hj,AH hj];show⟨_,rfl⟩
def acx(hc:X.calm=true):Eb X (.builtin "min") (λxs H Q=>∃i j,xs=[.int i,.int j]∧Q (.int (if j<i then j else i)) H):=by
 intro x0 s σ H xs us Q I r h;let⟨i,j,rfl,q⟩:=h;let⟨u,w',rfl,⟨t,rfl⟩,⟨t',rfl⟩⟩:=vals2 r;show min_two_ints (I.ok.hd hc) λh' tk k=>Ψ2 _ H ⟨I.kept k,?_,q⟩;by_cases hj:j<i
 ·rw[AI hj,AI hj];show⟨_,rfl⟩
 ·rw[AH hj,AH hj];show⟨_,rfl⟩
def za:Eb X (.builtin "ord") (λxs H Q=>∃x,xs=[.str x]∧x.length=1∧Q (.int (x.cps.getD 0 0:Nat)) H):=by
 intro x0 s σ H xs us Q I r h;let⟨x,rfl,hz,q⟩:=h;let⟨u,rfl,⟨t,rfl⟩⟩:=vals1 r;show ord_of_one hz ⟨.int _,H,I.tok _,⟨_,rfl⟩,q⟩
end
structure NK(h:Heap)(x dx C:Addr)(mA:ac):Prop where
 obj:h.get? x=some (W.instObj C dx)
 ns:h.Ns1 dx mA
 ne:dx≠x
def acI(n:h.Ns1 dx mA):∃od,h.get? dx=some od∧∀name,W.lookIn name od=some (mA name):=by
 let⟨o,es,ep,ho,hd,hk,_,hm⟩:=n;show⟨o,ho,λname=>?_⟩;let e:=hm name;unfold nsFind findBy at e;rw[←Array.find?_toList]at e;unfold W.lookIn;rw[hd];dsimp only;split
 ·rename_i y q
  rw[q]at e;show Ca some e
 ·rename_i q
  rw[q]at e;let a:es.toList.any (·.refKey)=false:=by
   rw[List.any_eq_false];intro y hy;let⟨z,t,Ve⟩:=hk y (Array.mem_toList_iff.mp hy);simp[DictEntry.refKey,Ve]
  let a':¬es.toList.any (·.refKey)=true:=by rw[a];show BN
  rw[AH a'];show Ca some e
def NK.look{x C:Addr}(I:NK h x dx C mA):∃od,W.InstAt h x (W.instObj C dx) C (some od)∧∀name,W.lookIn name od=some (mA name):=
 let⟨od,ho,hl⟩:=acI I.ns
 ⟨od,⟨I.obj,rfl,rfl,ho⟩,hl⟩
def rN.some_of{o:Option Value}(r:rN (some v) o):∃u,o=some u∧RelV v u:=by
 cases o with
 |none=>show(show False from r).elim
 |some u=>show⟨u,rfl,r⟩
section
variable {P: Program}{w: World}{H: A7}{h: Heap}{a C dx: Addr}{fs: List (Str×V)}
def vE(bA:jt P w H h)(e:H a=some (.ins C dx fs)):∃mA,NK h a dx C mA∧(∀f,rN (fs.lookup f) (mA f))∧PySem.Within mA (fs.map (·.1))∧fs.length≤1000∧H dx=some (.own a):=by
 let⟨d,z,ne,ob,⟨mA,n,r,q⟩⟩:=(show bT P w H h a (.ins C dx fs)from bA a _ e);show⟨mA,⟨ob,n,ne⟩,r,q,z,d⟩
end
structure V3(K:W.Frag)(C:Addr):Prop where
 pg:W.plainGet K C Str.empty=true
 hd:W.hasDictIn K C=true
 po:W.plainOver K C=true
 sa:W.findIn K (.ref C) "__setattr__" = some (some (.builtin "object.__setattr__"))
def V3.get{C:Addr}(c:V3 K C)(f:Str):W.plainGet K C f=true:=c.pg
structure Meth(K:W.Frag)(C:Addr)(m:Str)(f:Addr):Prop where
 at_:W.findIn K (.ref C) m=some (some (.ref f))
 fn:W.isFn K (.ref f)=true
 kp:W.keepIn K (.ref f)=true
section
variable {x0: List (Addr×Obj)}{σ: St}{H: A7}{s: Shared}{A: Around}{E: Value→Shared→Prop}{Q: Value→Shared→Prop}{c: Value}{b: Bool}
inductive F9(K:W.Frag)(H:A7):V→Value→Prop where
 |non:F9 K H .non (.type "NoneType")
 |bl (x:Bool):F9 K H (.bl x) (.type "bool")
 |int (i:Int):F9 K H (.int i) (.type "int")
 |str (x:Str):F9 K H (.str x) (.type "str")
 |flt (x:UInt64):F9 K H (.flt x) (.type "float")
 |lst {a:Addr} {xs:List V} (e:H a=some (.lst xs)):F9 K H (.ref a) (.type "list")
 |frz {a:Addr} {o:Obj} {xs:List V} (e:H a=some (.frz o (.lst xs))):F9 K H (.ref a) (.type "list")
 |tup {a:Addr} {xs:List V} (e:H a=some (.tup xs)):F9 K H (.ref a) (.type "tuple")
 |dK {a:Addr} {aQ:List (Ap×V)} (e:H a=some (.dK aQ)):F9 K H (.ref a) (.type "dict")
 |dT {a:Addr} {aQ:List (List Ap×V)} (e:H a=some (.dT aQ)):F9 K H (.ref a) (.type "dict")
 |ins {a C dx:Addr} {fs:List (Str×V)} (e:H a=some (.ins C dx fs)) (cl:V3 K C) (ha:W.findIn K (.ref C) "__class__" = some (some (.builtin "object.__class__")))
   (hn:W.specialIn K (.builtin "object.__class__") "__get__" = some (some (.builtin "getset_descriptor.__get__"))) (W3:W.takesIn K (.builtin "object.__class__")=some true)
   (hm:W.mroIn K C (.type "object")=some true):F9 K H (.ref a) (.ref C)
def vO{x:V}{t:Value}(I:Inv X x0 σ H s)(rx:RelV x u)(ty:F9 X.K H x t)(e:W.kitOne X.K t c=some b)(h:∀tk,Q (.bool b) {s with toks:=tk}):
  wpAny (model X.prog X.w) A (call (.builtin "isinstance") [u,c]) Q E s:=by
 cases ty with
 |non=>cases(show u=Value.none from rx);show GO W.kitx_none I.qY True.intro e (λz=>nomatch z) h
 |bl y=>cases(show u=Value.bool y from rx);show GO W.kitx_bool I.qY True.intro e (λz=>nomatch z) h
 |int i=>let⟨t,q⟩:=(show ∃t,u=Value.int i t from rx);cases q;show GO W.kitx_int I.qY True.intro e (λz=>nomatch z) h
 |str y=>let⟨t,q⟩:=(show ∃t,u=Value.str y t from rx);cases q;show GO W.kitx_str I.qY True.intro e (λz=>nomatch z) h
 |flt y=>let⟨t,q⟩:=(show ∃t,u=Value.float y t from rx);cases q;show GO W.kitx_float I.qY True.intro e (λz=>nomatch z) h
 |@lst a xs ea=>
  cases(show u=Value.ref a from rx);let⟨_,⟨_,n,_,h1⟩⟩:=(show bT X.prog X.w H s.heap a (.lst xs)from I.bA a _ ea);show GO W.kitx_list I.qY ⟨_,h1,rfl⟩ e (λz=>nomatch z) h
 |@frz a ob xs ea=>
  cases(show u=Value.ref a from rx);let⟨_,_,⟨_,n,_,h1⟩⟩:=(show bT X.prog X.w H s.heap a (.frz ob (.lst xs))from I.bA a _ ea);show GO W.kitx_list I.qY ⟨_,h1,rfl⟩ e (λz=>nomatch z) h
 |@tup a xs ea=>
  cases(show u=Value.ref a from rx);let⟨_,⟨_,_,p⟩⟩:=(show bT X.prog X.w H s.heap a (.tup xs)from I.bA a _ ea);let⟨o,h1,h2,_⟩:=p;show GO W.kitx_tuple I.qY ⟨o,h1,h2⟩ e (λz=>nomatch z) h
 |@dK a aQ ea=>
  cases(show u=Value.ref a from rx);let⟨_,_,⟨vs,_,p⟩⟩:=(show bT X.prog X.w H s.heap a (.dK aQ)from I.bA a _ ea);let⟨o,es,ep,h1,h2,_⟩:=p;show GO W.kitx_dict I.qY ⟨o,h1,h2.1⟩ e (λz=>nomatch z) h
 |@dT a aQ ea=>
  cases(show u=Value.ref a from rx);let⟨_,_,⟨xs,_,⟨o,es,ep,h1,h2,_⟩⟩⟩:=(show bT X.prog X.w H s.heap a (.dT aQ)from I.bA a _ ea);show GO W.kitx_dict I.qY ⟨o,h1,h2.1⟩ e (λz=>nomatch z) h
 |@ins a C dx fs ea cl ha hn W3 hm=>
  cases(show u=Value.ref a from rx);let⟨mA,O,_⟩:=vE I.bA ea;let⟨od,J,_⟩:=O.look;show GO (W.kitx_own (cl.get _) cl.hd ha hn W3 hm) I.qY J e (λz=>nomatch z) h
end
structure dw(k:Nat)(A:Around):Prop where
 hd:A.handled=none
 dp:A.depth+3*k+5<recursionLimit
 un:A.units+16*k+200<cLine
def dw.mono(r:dw k A)(h:j≤k):dw j A:=⟨r.hd,by have:=r.dp;lia,by have:=r.un;lia⟩
def dw.deeper(r:dw (k+1) A)(env:Env):dw k (A.deeper env):=
 ⟨r.hd,by have:=r.dp;show A.depth+1+3*k+5<_;lia,by have:=r.un;show A.units+3+16*k+200<_;lia⟩
def dw.in1(r:dw (k+1) A):dw k A.in1:=
 ⟨r.hd,by have:=r.dp;show A.depth+3*k+5<_;lia,by have:=r.un;show A.units+1+16*k+200<_;lia⟩
def dw.depth(r:dw k A):A.depth<recursionLimit:=by have:=r.dp;lia
def dw.units(r:dw k A):A.units+64<cLine:=by have:=r.un;lia
def dw.kP(r:dw k A):A.units<cLine:=by have:=r.un;lia
abbrev OO:CW:=λ_ H Q=>Q [] H
abbrev Ny(ta:Am)(tr:CW):CW:=λσ H Q=>ta σ H λx H1=>tr σ H1 λxs H2=>Q (x::xs) H2
section
variable {e: Expr}
def Co:PA X [] OO:=.mk λ_ _ _ _ H Q I h=>cL ⟨[],H,I,.nil,h⟩
def BD(ha:PE X e te)(hr:PA X es t)(hs:starEach (e::es) X.env=(false,eval e X.env)::starEach es X.env:=by rfl):PA X (e::es) (Ny te t):=by
 show .mk ?_;intro pos x0 s σ H Q I h;rw[hs];show wpAny _ _ (spliced ((false,eval e X.env)::backTo pos (starEach es X.env))) _ _ s
 show T8 (Ab (ha x0 s σ H _ I h) λu s1 ξ=>Ξ23 ξ λx H1 I1 r1 q1=>?_);show Ab (hr pos x0 s1 σ H1 _ I1 q1) λus s2 ξ=>Ξ23 ξ λxs H2 I2 r2 q2=>Ψ2 (x::xs) H2 ⟨I2,.cons r1 r2,q2⟩
abbrev aav(t:CW):Am:=λσ H Q=>t σ H λxs H1=>xs.length≤sizeLine∧∀p,H1 p=none→Q (.ref p) (upd H1 p (.tup xs))
abbrev yy(t:CW):Am:=λσ H Q=>t σ H λxs H1=>xs.length≤sizeLine∧∀p,H1 p=none→Q (.ref p) (upd H1 p (.lst xs))
def Lc{x1}(h:PA X es t):PE X (.Tuple es x1 pos) (aav t):=by
 show .mk ?_;intro x0 s σ H Q I hq;show wpAny_Tuple_spliced (Ab (h pos x0 s σ H _ I hq) λus s1 ξ=>Ξ24 ξ λxs H1 I1 r z q=>⟨by rw[←r.length];show z,?_⟩);let hf:H1 s1.heap.objs.size=none:=I1.bA.fresh (Ak _);show Ψ2 (.ref s1.heap.objs.size) (upd H1 s1.heap.objs.size (.tup xs)) ⟨I1.laid (t':=s1.toks) (λb u e=>Al _ e) (Ak _) ?_,rfl,q _ hf⟩;show⟨z,us,r,⟨_,CM _ rfl,rfl,_,rfl⟩⟩
def Lf(h:PA X es t):PE X (.List es pos) (yy t):=by
 show .mk ?_;intro x0 s σ H Q I hq;show wpAny_List_spliced (Ab (h pos x0 s σ H _ I hq) λus s1 ξ=>Ξ24 ξ λxs H1 I1 r z q=>⟨by rw[←r.length];show z,?_⟩);let hf:H1 s1.heap.objs.size=none:=I1.bA.fresh (Ak _);show Ψ2 (.ref s1.heap.objs.size) (upd H1 s1.heap.objs.size (.lst xs)) ⟨I1.laid (t':=s1.toks) (λb u e=>Al _ e) (Ak _) ?_,rfl,q _ hf⟩;show⟨z,us,0,r,CM _ rfl⟩
end
abbrev Dn:=List V→A7→Au→BF→Prop
abbrev Gu:=List Env→A7→Shared→BF→xz
structure xy(P:Program)(w:World)(K:W.Frag)(mg:ac)(base:Heap)(A:Around)(outer:List Env)(s:Shared)(H:A7):Prop where
 frames:A.frames=some outer
 mod:Mod K mg base
 bs:∀b o,base.get? b=some o→s.heap.get? b=some o∧H b=none
 CD:base.objs.size≤s.heap.objs.size
 jY:s.heap.FunFrames base outer
 FA:∀b∈Cn outer,H b=none
 bA:jt P w H s.heap
 bare:AllBare s.gens
abbrev TE(outer:List Env)(P:Program)(w:World)(H:A7)(s:Shared)(Q:Au)(u:Value)(s':Shared):Prop:=
 ∃v H',s'.os=s.os∧AllBare s'.gens∧Un (Cn outer) [] H H' s.heap s'.heap∧jt P w H' s'.heap∧RelV v u∧Q v H'
abbrev qh(CX:Gu)(outer:List Env)(P:Program)(w:World)(H:A7)(s:Shared)(Q:Au)(E:BF)(r:Result)(s':Shared):Prop:=
 match r with
 |.ok (.ret u)=>TE outer P w H s Q u s'
 |.ok _=>False
 |.error e=>CX outer H s E e s'
structure bB(P:Program)(w:World)(K:W.Frag)(mg:ac)(base:Heap)(CX:Gu)(k:Nat)(f:Addr)(fd:FuncData)(ps:List Str)(sp:Dn):Prop where
 len:∀vs H Q E,sp vs H Q E→vs.length=ps.length
 run:∀(A:Around) (outer:List Env) (s:Shared) (H:A7) (args:Args) (us:List Value) (vs:List V) (Q:Au) (E:BF),dw k A→xy P w K mg base A outer s H→BindsTo s fd args (ps.zip us)→Vals vs us→sp vs H Q E→
  codeAny (model P w) A (.call (.ref f) args) (qh CX outer P w H s Q E) s
def bB.mono{f:Addr}(F:bB P w K mg base CX j f fd ps sp)(h:j≤k):
  bB P w K mg base CX k f fd ps sp:=⟨F.len,λA outer s H args us vs Q E hr=>F.run A outer s H args us vs Q E (hr.mono h)⟩
def bB.imp{f:Addr}{Ph:Dn}(F:bB P w K mg base CX k f fd ps sp)
  (h:∀vs H Q E,Ph vs H Q E→sp vs H Q E):bB P w K mg base CX k f fd ps Ph:=
 ⟨λvs H Q E q=>F.len vs H Q E (h _ _ _ _ q),λA outer s H args us vs Q E hr he hb hv hs=>F.run A outer s H args us vs Q E hr he hb hv (h _ _ _ _ hs)⟩
def xy.in1(e:xy P w K mg base A outer s H):
  xy P w K mg base A.in1 outer s H:=⟨e.frames,e.mod,e.bs,e.CD,e.jY,e.FA,e.bA,e.bare⟩
section
variable {x0: List (Addr×Obj)}{σ: St}{H: A7}{s s': Shared}
def Inv.Nq(I:Inv X x0 σ H s):xy X.prog X.w X.K X.mg X.base X.A X.stack s H:=
 ⟨I.ok.frames,I.ok.mod,I.bs,DN I.ok.CD I.sz,I.stack,I.pE,I.bA,I.bare⟩
def Inv.after{Q:Au}(I:Inv X x0 σ H s)(h:TE X.stack X.prog X.w H s Q u s'):CR X x0 σ Q u s':=by
 let⟨v,H',os,bare,un,bA,r,q⟩:=h;obtain⟨hh,g,d,t,Yw⟩:=s';obtain rfl:Yw=s.os:=os;show Ψ2 v H' ⟨I.call (h':=hh) (g':=g) (d':=d) (t':=t) (ch:=[]) un bA bare (λb z=>absurd z (by simp)),r,q⟩
end
abbrev qk(sp:Dn)(KI:List V)(E:BF)(t:CW):Am:=λσ H Q=>t σ H λvs H1=>sp (vs++KI) H1 Q E
abbrev Binds(K:W.Frag)(fd:FuncData)(ps:List Str)(ds:List Value):Prop:=
 ∀(s:Shared) (us:List Value),K.In s.heap→(us++ds).length=ps.length→BindsTo s fd ⟨us,[]⟩ (ps.zip (us++ds))
def Binds.all(h:∀us:List Value,us.length=ps.length→bindArgs fd ⟨us,[]⟩=pure (ps.zip us)):Binds K fd ps []:=λs us _ hl=>by
 rw[Bz]at hl ⊢;show .of_eq (h us hl)
abbrev Passes(CX:Gu)(X:Cx)(E:BF):Prop:=∀(x0:ad) (σ:St) (H:A7) (s:Shared) (e:Value) (s':Shared),Inv X x0 σ H s→CX X.stack H s E e s'→X.xe e s'
section
variable {CX: Gu}{k: Nat}{f: Addr}{fd: FuncData}{ps: List Str}{sp: Dn}{KI: List V}{ds: List Value}{E: BF}{x: Str}{e: Expr}
def vc{Q:Au}(F:bB X.prog X.w X.K X.mg X.base CX k f fd ps sp)(hr:dw k X.A)(hb:Binds X.K fd ps ds)(hd:Vals KI ds)(hx:Passes CX X E)
  (I:Inv X x0 σ H s) (r:Vals vs us) (h:sp (vs++KI) H Q E):wpAny (model X.prog X.w) X.A (call (.ref f) us) (CR X x0 σ Q) X.xe s:=by
 let r2:Vals (vs++KI) (us++ds):=r.append hd;let hl:(us++ds).length=ps.length:=by rw[←r2.length];show F.len _ _ _ _ h
 show OG (O8 (F.run X.A X.stack s H ⟨us,[]⟩ (us++ds) (vs++KI) Q E hr I.Nq (hb s us I.qY hl) r2 h) λr s' hq=>?_);cases r with
 |error e=>show hx x0 σ H s e s' I hq
 |ok fl=>
  cases fl with
  |ret u=>show I.after hq
  |next=>show False.elim hq
  |brk=>show False.elim hq
  |cont=>show False.elim hq
def acd(F:bB X.prog X.w X.K X.mg X.base CX k f fd ps sp)(hr:dw k X.A)(hg:Bi X x)(hm:X.mg x=some (.ref f))(hk:W.keepIn X.K (.ref f)=true)(hb:Binds X.K fd ps ds)(hd:Vals KI ds)(hx:Passes CX X E)
  (ha:PA X (e::es) t) (sG:(x ==("__debug__" : Str))=false:=by decide) (he:starEach (e::es) X.env=(false,eval e X.env)::starEach es X.env:=by rfl) (gc:(backTo pos (starEach es X.env)).any (·.1)=false:=by rfl) :
  PE X (.Call (.Name x p) (e::es) [] pos) (qk sp KI E t):=by
 show .mk ?_;intro x0 s σ H Q I h;show JO (Mh I hg hm ?_ sG);show PySem.W.callWith_K (h₀:=X.base) I.ok.mod.Qp hk (Ab (ha pos x0 s σ H _ I h) λus s1 ξ=>Ξ23 ξ λvs H1 I1 r q=>⟨I1.qY,?_⟩) he gc;show vc F hr hb hd hx I1 r q
end
structure PK(X:Cx)(Kh:List Keyword)(t:CW):Prop where
 run:∀(pos:Pos) x0 s σ H (Q:List V→A7→Prop),Inv X x0 σ H s→t σ H Q→wpAny (model X.prog X.w) X.A (evalAll ((backToKw pos (keywordEach Kh X.env)).map (·.2))) (OU X x0 σ Q) X.xe s
instance {X:Cx}{Kh:List Keyword}{t:CW}:CoeFun (PK X Kh t) λ_=>∀(pos:Pos) x0 s σ H (Q:List V→A7→Prop),Inv X x0 σ H s→t σ H Q→wpAny (model X.prog X.w) X.A (evalAll ((backToKw pos (keywordEach Kh X.env)).map (·.2))) (OU X x0 σ Q) X.xe s:=⟨PK.run⟩
section
variable {x: Str}{sD: Pos}{e: Expr}{Kh: List Keyword}{nm: Option Str}
def qf:PK X [] OO:=.mk λ_ _ _ _ H Q I h=>wpAny_evalAll_nil ⟨[],H,I,.nil,h⟩
def fF(ha:PE X e te)(hr:PK X Kh t):PK X (⟨nm,e,sD⟩::Kh) (Ny te t):=by
 show .mk ?_;intro pos x0 s σ H Q I h;show wpAny _ _ (evalAll ((do let v ←eval e X.env;standAt pos;pure v)::(backToKw pos (keywordEach Kh X.env)).map (·.2))) _ _ s
 show wpAny_evalAll_cons (A5 (Ab (ha x0 s σ H _ I h) λu s1 ξ=>Ξ23 ξ λx H1 I1 r1 q1=>A5 (P9 (AG ?_))));show Ab (hr pos x0 s1 σ H1 _ I1 q1) λus s2 ξ=>Ξ23 ξ λxs H2 I2 r2 q2=>Ψ2 (x::xs) H2 ⟨I2,.cons r1 r2,q2⟩
end
structure BA(N P:List Str)(sc:Scope):Prop where
 kind:sc.kind=.function
 co:sc.isCoroutine=false
 gen:sc.isGenerator=false
 nd:N.Nodup
 pre:N.take P.length=P
 par:∀x∈P,sc.names.lookup x=some .local∨sc.names.lookup x=some .cell
 MA:∀y∈sc.names,y.2≠.free
def fW{kindOf:Str→Option NameKind}{x:Str}:∀{binds:List (Str×Value)} {m:ac},(∀v,(x,v)∉binds)→bindL kindOf binds m x=m x
 |[],_,_=>rfl
 |(n,v)::r,m,h=>by
  unfold bindL;rw[fW λw hw=>h w (ET _ hw)];split
  ·have:x≠n:=by rintro rfl;show h v Gd
   simp[this]
  ·rfl
def mr{kindOf:Str→Option NameKind}{x:Str}:∀{binds:List (Str×Value)} {m:ac},(∀v,(x,v)∉binds)→bindC kindOf binds m x=m x
 |[],_,_=>rfl
 |(n,v)::r,m,h=>by
  unfold bindC;rw[mr λw hw=>h w (ET _ hw)];split
  ·rfl
  ·have:x≠n:=by rintro rfl;show h v Gd
   simp[this]
def oS{kindOf:Str→Option NameKind}{x:Str}{v:Value}:∀{P:List Str} {vs:List Value} {i:Nat} {m:ac},P.Nodup→P[i]?=some x→vs[i]?=some v→kindOf x=some .local→
  bindL kindOf (P.zip vs) m x=some v
 |[],_,_,_,_,h,_,_=>by simp at h
 |_::_,[],_,_,_,_,h,_=>by simp at h
 |p::P,w::vs,0,m,nd,h1,h2,hk=>by
  simp at h1 h2;subst h1;subst h2;show bindL kindOf ((p,w)::P.zip vs) m p=_
  unfold bindL;rw[fW λv hv=>(abo.mp nd).1 (Hy hv).1,AI hk];simp
 |p::P,w::vs,i+1,m,nd,h1,h2,hk=>by
  show bindL kindOf ((p,w)::P.zip vs) m x=_
  unfold bindL;show oS (i:=i) (abo.mp nd).2 (by simpa using h1) (by simpa using h2) hk
def iD{kindOf:Str→Option NameKind}{x:Str}{v:Value}:∀{P:List Str} {vs:List Value} {i:Nat} {m:ac},P.Nodup→P[i]?=some x→vs[i]?=some v→kindOf x≠some .local→
  bindC kindOf (P.zip vs) m x=some v
 |[],_,_,_,_,h,_,_=>by simp at h
 |_::_,[],_,_,_,_,h,_=>by simp at h
 |p::P,w::vs,0,m,nd,h1,h2,hk=>by
  simp at h1 h2;subst h1;subst h2;show bindC kindOf ((p,w)::P.zip vs) m p=_
  unfold bindC;rw[mr λv hv=>(abo.mp nd).1 (Hy hv).1,AH hk];simp
 |p::P,w::vs,i+1,m,nd,h1,h2,hk=>by
  show bindC kindOf ((p,w)::P.zip vs) m x=_
  unfold bindC;show iD (i:=i) (abo.mp nd).2 (by simpa using h1) (by simpa using h2) hk
abbrev start(N:List Str)(vs:List V):St:=vs.map some++List.replicate (N.length-vs.length) none
abbrev Hq(CX:Gu)(P:Program)(w:World)(K:W.Frag)(mg:ac)(base:Heap)(N:List Str)(qual:Str)(scope:Scope)(f:Addr)(cd:Value)(A:Around)(outer:List Env)(s:Shared)(H:A7)(E:BF):Cx where
 prog:=P
 w:=w
 K:=K
 mg:=mg
 base:=base
 A:=A.deeper (envOfC qual scope s.heap.objs.size f cd)
 N:=N
 s₀:=s
 H₀:=H
 env:=envOfC qual scope s.heap.objs.size f cd
 outer:=outer
 stack:=envOfC qual scope s.heap.objs.size f cd::outer
 ex:=[]
 calm:=true
 fn:=λ_=>true
 pn:=[]
 xe:=λe s'=>wpAny (model P w) (A.deeper (envOfC qual scope s.heap.objs.size f cd)) (leaving (envOfC qual scope s.heap.objs.size f cd) e) (λ_ m8=>CX outer H s E e m8) (λe' m8=>CX outer H s E e' m8) s'
def gh{sc:Scope}(h:sc.names.lookup x=some .cell):∃c,(cellsFrom n sc.names []).lookup x=some c:=by
 let q:=aM sc.names n [] (.inl h);show acz.mp q
def fL{f:Addr}{cd:Value}{s1:Shared}{E:BF}
  (S:BA N ps scope) (hd:A.handled=none) (e0:xy P w K mg base A outer s H) (hl:vs.length=ps.length) (r:Vals vs us)
  (x:InCallC s s.heap.objs.size (bindL (envOfC qual scope s.heap.objs.size f cd).kindOf (ps.zip us) λ_=>none) (cellsFrom (s.heap.objs.size+1) scope.names []) (bindC (envOfC qual scope s.heap.objs.size f cd).kindOf (ps.zip us) λ_=>none) s1) :
  Inv (Hq CX P w K mg base N qual scope f cd A outer s H E) [] (start N vs) H s1:=by
 let gc:ps.length≤N.length:=by have:=Ca List.length S.pre;rw[Er]at this;lia
 let⟨h1,tk,rfl,hk⟩:=x.done;let Us:∀b:Addr,b∉(Hq CX P w K mg base N qual scope f cd A outer s H E).ex:=λb z=>absurd (show b∈([]:List Addr)from z) (by simp);show⟨⟨e0.mod,S.kind,rfl,rfl,Ak _,λy z c h1 h2=>?_,λy hy=>?_,λy c _ h=>?_,λ_=>hd,Around.frames_deeper e0.frames,.inr ⟨rfl,rfl⟩,λb z=>absurd z (Us b),e0.bs,e0.CD,λb _ _=>Us b,λb z=>absurd z (Us b),e0.jY,e0.FA⟩,
  rfl,e0.bare,Un.kept hk,⟨_,x.toInCall.ns,λi y v h1 h2 h3=>?_⟩,λy c h=>⟨_,x.cell y c h⟩,e0.bA.fresh (Ak _),λy c h=>?_,λp hp=>absurd (show p∈([]:ad)from hp) (by simp),e0.bA.kept hk,?_⟩
 ·show name_of_addr x.apart (Mn h1) (Mn h2)
 ·let hy:scope.names.lookup y=some .cell∨scope.names.lookup y=some .free:=hy
  rcases hy with hy|hy
  ·show gh hy
  ·show absurd rfl (S.MA _ (Mn hy))
 ·show B7 (x.above y c (Mn h))
 ·let hi:i<vs.length:=by
   unfold start at h2;by_cases hi:i<vs.length
   ·show hi
   ·rw[Fi (by simpa using hi)]at h2
    rw[ft]at h2;split at h2<;>cases h2
  let ha:vs[i]?=some v:=by
   unfold start at h2;rw[G3 (by simpa using hi),CZ]at h2;cases e:vs[i]? with
   |none=>rw[e]at h2;cases h2
   |some a=>rw[e]at h2;cases h2;rfl
  let⟨u,hu,rv⟩:=r.get ha;let hp:ps[i]?=some y:=by
   rw[←S.pre,List.getElem?_take_of_lt (by lia)];show h1
  let WB:ps.Nodup:=by rw[←S.pre];show S.nd.sublist (List.take_sublist _ _)
  show⟨u,rv,?_⟩;rcases S.par y (CQ hp)with k|k
  ·show .inl ⟨k,oS WB hp hu k⟩
  ·let⟨c,e⟩:=gh (n:=s.heap.objs.size+1) k
   show .inr ⟨.inl k,c,e,?_⟩;let q:=x.cell y c e;rw[iD WB hp hu (by show scope.names.lookup y≠_;rw[k];decide)]at q;show q
 ·show e0.bA.fresh (B7 (x.above y c (Mn h)))
 ·unfold start
  show _=N.length
  rw[B9,Ac,Iw];lia
def SM{f:Addr}{name:Str}{params:Arguments}{dV Bt doc pm cA ct oc:Value}{an od:Option Addr}
  {yn:Array (Option Value)}   (lk:K.lookup f=some ⟨oc,od,.func (W.fnOf name qual params body scope dV Bt doc pm an cA ct),yn⟩) (oX:W.codeIn K cA qual=true) (S:BA N ps scope)
  (len:∀vs H Q E,sp vs H Q E→vs.length=ps.length)
  (iK:∀(A:Around) (outer:List Env) (s:Shared) (H:A7) (vs:List V) (Q:Au) (E:BF),dw k (A.deeper (envOfC qual scope s.heap.objs.size f cA))→sp vs H Q E→
   ∃t,kl (Hq CX P w K mg base N qual scope f cA A outer s H E) body t∧t {nx:=λ_ H'=>Q .non H',rt:=Q} (start N vs) H) :
  bB P w K mg base CX (k+1) f (W.fnOf name qual params body scope dV Bt doc pm an cA ct) ps sp:=by
 show⟨len,λA outer s H args us vs Q E hr e0 hb r uI=>?_⟩;let hl:=len _ _ _ _ uI;let KX:K.In s.heap:=e0.mod.Qp.keeps λb o e=>(e0.bs b o e).1;let lim:s.heap.NoLimit:=e0.mod.nolimit.keeps λb o e=>(e0.bs b o e).1;let QM:∀y∈ps.zip us,scope.names.lookup y.1=some .local∨(scope.names.lookup y.1=some .cell∧((cellsFrom (s.heap.objs.size+1) scope.names []).lookup y.1).isSome=true):=λ⟨n,v⟩ hy=>by
  rcases S.par n (Hy hy).1 with q|q
  ·show .inl q
  ·show .inr ⟨q,aM _ _ _ (.inl q)⟩
 show codeAny_call_function hr.depth (KX _ _ lk) rfl S.co S.gen rfl (W.codeRec_of KX oX) (hb _ _ _ _ ?_);show wpAny_newFunctionEnv_cells S.kind QM λenv he s1 x=>?_;subst he;show⟨lim.keeps x.toInCall.keep,codeAny_func ?_⟩;let⟨t,ht,hq⟩:=iK A outer s H vs Q E (hr.deeper _) uI;let I:Inv (Hq CX P w K mg base N qual scope f cA A outer s H E) [] (start N vs) H s1:=fL S hr.hd e0 hl r x;show DC (ht [] s1 (start N vs) H _ I hq) (λfl s' hs=>?_) λe s' hs=>hs;let fin:∀{σ':St} {H':A7} {v:V} {u:Value},Inv (Hq CX P w K mg base N qual scope f cA A outer s H E) [] σ' H' s'→RelV v u→Q v H'→TE outer P w H s Q u s':=
  λ{σ' H' v u} J rv q=>Ψ2 v H' ⟨J.os,J.bare,J.base,J.bA,rv,q⟩
 cases fl with
 |ret u=>
  let⟨v,σ',H',J,rv,q⟩:=hs;show fin J rv q
 |next=>
  let⟨σ',H',J,q⟩:=hs;show fin (v:=V.non) (u:=Value.none) J rfl q
 |brk=>
  let⟨_,_,_,q⟩:=hs;show False.elim q
 |cont=>
  let⟨_,_,_,q⟩:=hs;show False.elim q
section
variable {x: Str}{e: Expr}{id T: String}{r: List V→A7→Au→Prop}
abbrev cU(r:List V→A7→Au→Prop)(t:CW):Am:=λσ H Q=>t σ H λvs H1=>r vs H1 Q
def az(hc:Eb X (.builtin id) r)(hg:Bi X x)(hm:X.mg x=none)(hv:bootBuiltins x=some (.builtin id))(ha:PA X (e::es) t)(hn:x ≠ "__name__" := by decide)(sG:(x ==("__debug__" : Str))=false:=by decide)
  (he:starEach (e::es) X.env=(false,eval e X.env)::starEach es X.env:=by rfl) (gc:(backTo pos (starEach es X.env)).any (·.1)=false:=by rfl):PE X (.Call (.Name x p) (e::es) [] pos) (cU r t):=by
 show .mk ?_;intro x0 s σ H Q I h;show JO (GJ I hg hm hv ?_ hn sG);show PyProof.Rows.callWith_builtin1 (Ab (ha pos x0 s σ H _ I h) λus s1 ξ=>Ξ23 ξ λvs H1 I1 r1 q1=>hc x0 s1 σ H1 vs us Q I1 r1 q1) he gc
def kF(hc:Eb X (.type T) r)(hg:Bi X x)(hm:X.mg x=none)(hv:bootBuiltins x=some (.type T))(ha:PA X (e::es) t)(hn:x ≠ "__name__" := by decide)(sG:(x ==("__debug__" : Str))=false:=by decide)
  (he:starEach (e::es) X.env=(false,eval e X.env)::starEach es X.env:=by rfl) (gc:(backTo pos (starEach es X.env)).any (·.1)=false:=by rfl):PE X (.Call (.Name x p) (e::es) [] pos) (cU r t):=by
 show .mk ?_;intro x0 s σ H Q I h;show JO (GJ I hg hm hv ?_ hn sG);show Ii (Ab (ha pos x0 s σ H _ I h) λus s1 ξ=>Ξ23 ξ λvs H1 I1 r1 q1=>hc x0 s1 σ H1 vs us Q I1 r1 q1) he gc
end
end L2
namespace HT
open PySem PyProof.Rows
variable {t sl:Addr}{Q:xz}{vl vu:Value}{lo hi:Option Int}
section
open PySem.SeqAt
open PySem.AutoSeq1 (wpAny_loadPart')
open PySem.MeetsSeq PySem.MeetsSeq2 PySem.MeetsSeq3
end
section
variable {prog: Program}{w: World}{A: Around}{E: Value→Shared→Prop}{s: Shared}
def Jr{b:Addr}{vs ws:List Value}(ht:IsTup s.heap t vs.toArray)(hb:IsTup s.heap b ws.toArray)(hv:vs≠[])
  (h1:ws=[]→Q (.ref t) s) (h2:ws≠[]→Q (.ref s.heap.objs.size) {s with heap:=s.heap.push {cls:=.type "tuple",data:=.seq (vs++ws).toArray}})
  (hsz:vs.length+ws.length≤sizeLine):wpAny (model prog w) A (binaryOp .Add (.ref t) (.ref b)) Q E s:=by
 obtain⟨⟨cls,dd,data,sl⟩,ho,hc,n,hd⟩:=id ht;obtain⟨⟨Rn,Ob,data2,Ct⟩,Gx,Ku,n2,hd2⟩:=id hb;simp only at hc hd Ku hd2;subst hc hd Ku hd2;let e:vs.toArray++ws.toArray=(vs++ws).toArray:=by simp
 by_cases hw:ws=[]
 ·show Pg ⟨_,ho,rfl⟩ ⟨_,Gx,rfl⟩ VK seq_tuple_add UG SU (a8 _ _)
   (tuple_addW1 t b vs.toArray ws.toArray n n2 dd Ob sl Ct (by simpa using hv) (by simp[hw])) ⟨ho,Gx,h1 hw⟩
 ·show Pg ⟨_,ho,rfl⟩ ⟨_,Gx,rfl⟩ VK seq_tuple_add UG SU (a8 _ _)
   (tuple_addW2 t b vs.toArray ws.toArray n n2 dd Ob sl Ct (by simpa using hv) (by simpa using hw) (by rw[Bg,Bg];show hsz)) ⟨ho,Gx,?_⟩
  rw[e];show h2 hw
abbrev cE(n d:Nat):Option Int→Nat
 |none=>d
 |some v=>if v<0 then(v+(n:Int)).toNat else min v.toNat n
def mn(n d:Nat):cE n d none=d:=rfl
def ug(n d k:Nat):cE n d (some (k:Int))=min k n:=by
 show(if(k:Int)<0 then((k:Int)+(n:Int)).toNat else min (k:Int).toNat n)=min k n
 rw[AH (by lia),Jc]
def uh(n d:Nat)(hd:d≤n)(o:Option Int):cE n d o≤n:=by
 cases o with
 |none=>show hd
 |some v=>
  show(if v<0 then(v+(n:Int)).toNat else min v.toNat n)≤n
  by_cases hv:v<0
  ·rw[AI hv];lia
  ·rw[AH hv];show Nat.min_le_right _ _
def fg(v:Int)(n d:Nat):(if v<0 then max (v+(n:Int)) 0 else min v (n:Int))=((cE n d (some v):Nat):Int):=by
 show(if v<0 then max (v+(n:Int)) 0 else min v (n:Int))=(((if v<0 then(v+(n:Int)).toNat else min v.toNat n):Nat):Int)
 by_cases hv:v<0
 ·simp only[AI hv];lia
 ·simp only[AH hv];lia
def zP(lo hi:Option Int)(n:Nat):Builtin.Slice.sliceAdjust lo hi 1 (n:Int)=(((cE n 0 lo:Nat):Int),((cE n n hi:Nat):Int)):=by
 let h1:¬((1:Int)<0):=by lia
 unfold Builtin.Slice.sliceAdjust;simp only[h1,HV];show Prod.ext ?_ ?_
 ·cases lo with
  |none=>rfl
  |some v=>show fg v n 0
 ·cases hi with
  |none=>rfl
  |some v=>show fg v n n
def r9(i j:Nat):Builtin.Slice.slicePlaces (i:Int) (j:Int) 1=j-i:=by
 unfold Builtin.Slice.slicePlaces;let h1:(1:Int)>0:=by lia
 simp only[h1,Gi,Int.ediv_one];split<;>lia
def kQ{v:Value}{o:Option Int}{Q:Option Int→Shared→Prop}(p:IsPart v o)(h:Q o s):wpAny (model prog w) A (Builtin.Slice.slicePartIndex v) Q E s:=by
 cases p with
 |none=>show S3 h
 |int i t=>show slicePart_int h
def iE{n:Nat}{Q:Int×Int×Nat→Shared→Prop}(hs:s.heap.IsSliceOf sl vl vu .none)(pl:IsPart vl lo)(pu:IsPart vu hi)
  (h:Q (((cE n 0 lo:Nat):Int),1,cE n n hi-cE n 0 lo) s):wpAny (model prog w) A (Builtin.Slice.sliceApplied (.ref sl) (pure (n:Int))) Q E s:=by
 let⟨os,BU,Nd,BX⟩:=id hs;unfold Builtin.Slice.sliceApplied Builtin.Slice.sliceFields;show A5 (A5 (C3 BU BX (x:=vl) rfl (A5 (C3 BU BX (x:=vu) rfl (A5 (C3 BU BX (x:=.none) rfl (AG ?_)))))));show A5 (S3 ?_);show wpAny _ _ (if((1:Int)==0)=true then _ else _) _ _ s
 rw[AH (by decide)];show A5 (kQ pl (A5 (kQ pu (A5 (AG ?_)))));show wpAny _ _ (match Builtin.Slice.sliceAdjust lo hi 1 (n:Int)with|(lo,hi)=>pure (lo,(1:Int),Builtin.Slice.slicePlaces lo hi 1)) _ _ s
 rw[zP lo hi n];show wpAny _ _ (pure (((cE n 0 lo:Nat):Int),(1:Int),Builtin.Slice.slicePlaces ((cE n 0 lo:Nat):Int) ((cE n n hi:Nat):Int) 1)) _ _ s
 rw[r9];show AG h
def uQ(xs:Array Value)(i k:Nat):((List.range k).filterMap λ(m:Nat)=>xs[((i:Int)+(m:Int)*1).toNat]?).toArray=((xs.toList.drop i).take k).toArray:=by
 let e:(λ(m:Nat)=>xs[((i:Int)+(m:Int)*1).toNat]?)=λm=>xs[i+m]? := by
  funext m
  have:((i:Int)+(m:Int)*1).toNat=i+m:=by lia
  rw[this]
 rw[e];have:=pick_run xs i k;rw[TS]at this;let e2:((λx=>xs[x]?) ∘ λx=>i+x)=λm=>xs[i+m]? := rfl;rw[e2]at this;rw[this]
def mM{items:Array Value}(ht:IsTup s.heap t items)(hs:s.heap.IsSliceOf sl vl vu .none)(pl:IsPart vl lo)(pu:IsPart vu hi)
  (hw:¬(cE items.size 0 lo=0∧cE items.size items.size hi=items.size))
  (h:Q (.ref s.heap.objs.size) {s with heap:=s.heap.push {cls:=.type "tuple",data:=.seq ((items.toList.drop (cE items.size 0 lo)).take (cE items.size items.size hi-cE items.size 0 lo)).toArray}})
  (hsz:items.size≤sizeLine):wpAny (model prog w) A (getItem (.ref t) (.ref sl)) Q E s:=by
 let mJ:sizeOk (.seq ((items.toList.drop (cE items.size 0 lo)).take (cE items.size items.size hi-cE items.size 0 lo)).toArray):=by
  show((items.toList.drop (cE items.size 0 lo)).take (cE items.size items.size hi-cE items.size 0 lo)).toArray.size≤sizeLine
  rw[Bg,Er,F4,ED];lia
 let hj:cE items.size items.size hi≤items.size:=uh _ _ (Ak _) hi;let⟨os,BU,Nd,BX⟩:=id hs;let QV:s.TypeIs (.ref sl) "slice" :=⟨os,BU,Nd⟩;unfold getItem
 try with_reducible refine Dx ?_
 first|refine A5 (AG ?_)|skip
 show A5 (dJ ht.typeIs (by decide) ?_);show A5 (HM (name:=Str.ofString "__getitem__") ht.typeIs aaX
  (FZ aaX ht.typeIs entry_tuple_getitem ?_ (args_tuple_getitem _ _)))
 show wpAny _ _ (Builtin.Tuple.tupleItemsOf (.ref t) >>= _) _ _ s
 show A5 (tupleItemsOf_ ht ?_);show A5 (Iy QV ?_);rw[AI (by decide)];show A5 (iE hs pl pu ?_);let QI:¬((((cE items.size 0 lo:Nat):Int)==0&&(1:Int)==1&&(cE items.size items.size hi-cE items.size 0 lo)==items.size)=true):=by
  intro q;rw[FI,FI]at q;let q1:((cE items.size 0 lo:Nat):Int)=0:=eq_of_beq q.1.1;let q2:cE items.size items.size hi-cE items.size 0 lo=items.size:=eq_of_beq q.2;show hw ⟨by lia,by lia⟩
 show wpAny _ _ (if(((cE items.size 0 lo:Nat):Int)==0&&(1:Int)==1&&(cE items.size items.size hi-cE items.size 0 lo)==items.size)=true then _ else _) _ _ s
 rw[AH QI,uQ];first
  |show A5 (m:=Builtin.Tuple.tupleExact _) (Ej (AG ⟨_,rfl,AG h⟩) mJ)
  |show A5 (m:=Builtin.Tuple.tupleExact _) (Ej (A5 (AG (AG ⟨_,rfl,AG h⟩))) mJ)
  |show A5 (A5 (m:=Builtin.Tuple.tupleExact _) (Ej (AG (AG ⟨_,rfl,AG h⟩)) mJ))
  |show A5 (A5 (m:=Builtin.Tuple.tupleExact _) (Ej (AG ⟨_,rfl,AG h⟩) mJ))
end
end HT
namespace L2
open PySem PySem.Spec PyProof.Rows
variable {xs:List V}{us its its':List Value}{n j t':Nat}{i:Int}{x0:ad}{σ:St}{H:A7}{s:Shared}{p:Addr}{A:Around}{y x:V}{u v:Value}{X: Cx}{e: Expr}{pos: Pos}
abbrev IJ:=St→A7→(Option Int→A7→Prop)→Prop
structure PO(X:Cx)(e:Option Expr)(t:IJ):Prop where
 run:∀x0 s σ H (Q:Option Int→A7→Prop),Inv X x0 σ H s→t σ H Q→
  wpAny (model X.prog X.w) X.A (evalPart e X.env) (λu s'=>∃o H',Inv X x0 σ H' s'∧IsPart u o∧Q o H') X.xe s
instance {X:Cx}{e:Option Expr}{t:IJ}:CoeFun (PO X e t) λ_=>∀x0 s σ H (Q:Option Int→A7→Prop),Inv X x0 σ H s→t σ H Q→wpAny (model X.prog X.w) X.A (evalPart e X.env) (λu s'=>∃o H',Inv X x0 σ H' s'∧IsPart u o∧Q o H') X.xe s:=⟨PO.run⟩
abbrev xT:IJ:=λ_ H Q=>Q none H
abbrev aaM(t:Am):IJ:=λσ H Q=>t σ H λx H1=>∃i,x=.int i∧Q (some i) H1
def intsAre_of{ns:List Int}:∀{us:List Value},Vals (ns.map V.int) us→IntsAre us ns:=by
 induction ns with
 |nil=>intro us r;rw[GQ]at r;cases r;show .nil
 |cons n ns ih=>
  intro us r;rw[Ar]at r;cases r with
  |cons r1 r2=>
   let⟨t,e⟩:=r1;subst e;show .cons n t (ih r2)
section
variable {te: Am}{lo hi: Option Expr}{tl th: IJ}{p2: Pos}
def aaR:PO X none xT:=by
 show .mk ?_;intro x0 s σ H Q I h;rw[evalPart_none];show AG ⟨none,H,I,.none,h⟩
def tR(h:PE X e te):PO X (some e) (aaM te):=by
 show .mk ?_;intro x0 s σ H Q I hw;rw[evalPart_some];show Ab (h x0 s σ H _ I hw) λu s1 ξ=>Ξ23 ξ λx H1 I1 r1 q1=>?_;let⟨i,rfl,q⟩:=q1;let⟨t,rfl⟩:=r1;show Ψ2 (some i) H1 ⟨I1,.int i t,q⟩
abbrev JY(X:Cx)(r:V→Option Int→Option Int→A7→Au→Prop):Prop:=
 ∀x0 s σ H (x:V) (v vl vu:Value) (lo hi:Option Int) (sl:Addr) (Q:Au),Inv X x0 σ H s→RelV x v→s.heap.IsSliceOf sl vl vu .none→IsPart vl lo→IsPart vu hi→r x lo hi H Q→
  ∃T id,typeLookup (.type T) "__getitem__" = pure (some (.builtin id))∧s.TypeIs v T∧wpAny (model X.prog X.w) X.A (getItem v (.ref sl)) (CR X x0 σ Q) X.xe s
abbrev sr(r:V→Option Int→Option Int→A7→Au→Prop)(te:Am)(tl th:IJ):Am:=λσ H Q=>te σ H λx H1=>tl σ H1 λl H2=>th σ H2 λu H3=>r x l u H3 Q
def acX{r:V→Option Int→Option Int→A7→Au→Prop}(hr:JY X r)(he:PE X e te)(hl:PO X lo tl)(hu:PO X hi th):PE X (.Subscript e (.Slice lo hi none p2) pos) (sr r te tl th):=by
 show .mk ?_;intro x0 s σ H Q I h;show Subscript_ (Ab (he x0 s σ H _ I h) λv s1 ξ=>Ξ23 ξ λx H1 I1 r1 q1=>?_);show wpAny_Slice (Ab (hl x0 s1 σ H1 _ I1 q1) λvl s2 ξ=>Ξ23 ξ λl H2 I2 pl q2=>Ab (hu x0 s2 σ H2 _ I2 q2) λvu s3 ξ=>Ξ23 ξ λu H3 I3 pu q3=>?_);rw[evalPart_none];show AG ?_;let I4:Inv X x0 σ H3 {s3 with heap:=s3.heap.push {cls:=.type "slice",data:=.fields #[vl,vu,.none]}}:=I3.kept (t':=s3.toks) λb ob q=>Al _ q;let⟨T,id,hT,ht,hg⟩:=hr x0 {s3 with heap:=s3.heap.push {cls:=.type "slice",data:=.fields #[vl,vu,.none]}} σ H3 x v vl vu l u s3.heap.objs.size Q I4 r1 (Heap.IsSliceOf.new ..) pl pu q3;show wpAny (model X.prog X.w) X.A (subscriptTail e (.Slice lo hi none p2) v (.ref s3.heap.objs.size)) (CR X x0 σ Q) X.xe {s3 with heap:=s3.heap.push {cls:=.type "slice",data:=.fields #[vl,vu,.none]}}
 show tail_any (ops:=[.ref s3.heap.objs.size,v]) ht hT hg (by with_unfolding_all rfl)
abbrev GI(xs:List V)(lo hi:Option Int):List V:=(xs.drop (HT.cE xs.length 0 lo)).take (HT.cE xs.length xs.length hi-HT.cE xs.length 0 lo)
def ig(xs:List V)(lo hi:Option Int):(GI xs lo hi).length≤xs.length:=by
 unfold GI;rw[Er,F4];lia
abbrev wJ(K:W.Frag):V→Option Int→Option Int→A7→Au→Prop:=λx lo hi H Q=>∃a xs,x=.ref a∧dD K H a xs∧
 ¬(HT.cE xs.length 0 lo=0∧HT.cE xs.length xs.length hi=xs.length)∧∀p,H p=none→Q (.ref p) (upd H p (.tup (GI xs lo hi)))
def aeA:JY X (wJ X.K):=by
 intro x0 s σ H x v vl vu lo hi sl Q I rx hs pl pu h;let⟨a,xs,rfl,hx,hw,q⟩:=h;cases rx;let⟨its,r,ht,hz⟩:=I.tuple hx;let hlen:its.toArray.size=xs.length:=by rw[Bg];show r.length.symm
 show Ψ2 ("tuple") _ ⟨aaX.lookup,ht.typeIs,?_⟩;show HT.mM ht hs pl pu (by rw[hlen];show hw) ?_ (by rw[hlen];show hz);rw[hlen];show Ψ2 (.ref s.heap.objs.size) _ ⟨I.laid (t':=s.toks) (o:=.tup (GI xs lo hi)) (λb ob q=>Al _ q) (Ak _) ?_,rfl,q _ (I.bA.fresh (Ak _))⟩;show⟨DN (ig xs lo hi) hz,_,(r.drop (HT.cE xs.length 0 lo)).take (HT.cE xs.length xs.length hi-HT.cE xs.length 0 lo),IsTup.new _ _⟩
abbrev yt(K:W.Frag):Dm:=λx y H Q=>∃a b xs ys,x=.ref a∧y=.ref b∧dD K H a xs∧dD K H b ys∧xs≠[]∧xs.length+ys.length≤sizeLine∧
 (ys=[]→Q (.ref a) H)∧(ys≠[]→∀p,H p=none→Q (.ref p) (upd H p (.tup (xs++ys))))
def Vals.uD(r:Vals xs us):us=[]↔xs=[]:=by
 cases r with
 |nil=>simp
 |cons _ _=>simp
def adG:Bs X (binaryOp .Add) (yt X.K):=by
 intro x0 s σ H x y v u Q I rx ry h;let⟨a,b,xs,ys,rfl,rfl,ha,hb,hx,hz,q1,q2⟩:=h;cases rx;cases ry;let⟨its,r1,p1,_⟩:=I.tuple ha;let⟨fZ,r2,p2,_⟩:=I.tuple hb;show HT.Jr p1 p2 (λz=>hx (r1.uD.mp z)) (λz=>Ψ2 (.ref a) H ⟨I,rfl,q1 (r2.uD.mp z)⟩) (λz=>?_) (by rw[←r1.length,←r2.length];show hz);show Ψ2 (.ref s.heap.objs.size) _ ⟨I.laid (t':=s.toks) (o:=.tup (xs++ys)) (λb ob q=>Al _ q) (Ak _) ?_,rfl,q2 (λw=>z (r2.uD.mpr w)) _ (I.bA.fresh (Ak _))⟩;show⟨by rw[B9];show hz,_,r1.append r2,IsTup.new _ _⟩
end
abbrev FN(n:Nat)(i:Int):Option Nat:=if 0≤i then(if i<n then some i.toNat else none)else if -(n:Int)≤i then some (i+n).toNat else none
abbrev Bw{α:Type}(xs:List α)(i:Int):Option α:=(FN xs.length i).bind λj=>xs[j]?
def nD(h:FN n i=some j):seqIndex? i n=some j∧j<n∧-(n:Int)≤i∧i<n:=by
 unfold FN at h;by_cases h0:0≤i
 ·rw[AI h0]at h
  by_cases h1:i<n
  ·rw[AI h1]at h
   let e:i.toNat=j:=EC h;show⟨by rw[seqIndex_of h0 h1,e],by lia,by lia,h1⟩
  ·rw[AH h1]at h;cases h
 ·rw[AH h0]at h
  by_cases h1:-(n:Int)≤i
  ·rw[AI h1]at h
   let e:(i+n).toNat=j:=EC h;show⟨by rw[seqIndex_neg (by lia) h1,e],by lia,h1,by lia⟩
  ·rw[AH h1]at h;cases h
def bf{α:Type}{xs:List α}{v:α}(h:Bw xs i=some v):∃j,seqIndex? i xs.length=some j∧xs[j]?=some v∧j<xs.length∧-(xs.length:Int)≤i∧i<xs.length:=by
 unfold Bw at h;cases e:FN xs.length i with
 |none=>rw[e]at h;cases h
 |some j=>
  rw[e]at h;let⟨h1,h2,h3,h4⟩:=nD e;show⟨j,h1,h,h2,h3,h4⟩
def Es{α:Type}{xs:List α}{v:α}(h:xs[j]?=some v):Bw xs (j:Int)=some v:=by
 let hj:j<xs.length:=(aao.mp h).1;let e:FN xs.length (j:Int)=some j:=by
  unfold FN;rw[AI (by lia),AI (by lia)];simp
 unfold Bw;rw[e];show h
abbrev NC(b:Expr):Prop:=∀o i,subscripted b false o i=operate [o,i] (getItem o i)
abbrev JE(X:Cx)(r:Dm):Prop:=
 ∀(value slice:Expr) x0 s σ H (x y:V) (v u:Value) (Q:Au),Inv X x0 σ H s→RelV x v→RelV y u→r x y H Q→
  subscripted slice false v u=operate [v,u] (getItem v u)→wpAny (model X.prog X.w) X.A (subscriptTail value slice v u) (CR X x0 σ Q) X.xe s
abbrev Mi(X:Cx)(id:String)(r:V→List V→A7→Au→Prop):Prop:=
 ∀x0 s σ H (x:V) (xs:List V) (v:Value) (us:List Value) (Q:Au),Inv X x0 σ H s→RelV x v→Vals xs us→r x xs H Q→
  wpAny (model X.prog X.w) X.A (call (.builtin id) (v::us)) (CR X x0 σ Q) X.xe s
section
variable {a b: Expr}{ta tb: Am}
def JE.or{r r':Dm}(h:JE X r)(h':JE X r'):JE X (λx y H Q=>r x y H Q∨r' x y H Q):=by
 intro value slice x0 s σ H x y v u Q I rx ry q hs;rcases q with q|q
 ·show h value slice x0 s σ H x y v u Q I rx ry q hs
 ·show h' value slice x0 s σ H x y v u Q I rx ry q hs
def Eu{r:Dm}(hr:JE X r)(ha:PE X a ta)(hb:PE X b tb)(hs:NC b):PE X (.Subscript a b pos) (NQ r ta tb):=by
 show .mk ?_;intro x0 s σ H Q I h;show Subscript_ (VS ha hb I h λv u s2 x y H2 I2 rx ry q=>hr a b x0 s2 σ H2 x y v u Q I2 rx ry q (hs _ _))
abbrev ow(K:W.Frag):Dm:=λx y H Q=>∃p xs i v,x=.ref p∧y=.int i∧eB K H p xs∧Bw xs i=some v∧Q v H
abbrev nF(K:W.Frag):Dm:=λx y H Q=>∃p xs i v,x=.ref p∧y=.int i∧dD K H p xs∧Bw xs i=some v∧Q v H
abbrev ox:Dm:=λx y H Q=>∃z i c,x=.str z∧y=.int i∧z.length≤sizeLine∧Bw z.cps.toList i=some c∧Q (.str ⟨#[c]⟩) H
def dA:JE X (ow X.K):=by
 intro value slice x0 s σ H x y v u Q I rx ry h hs;let⟨p,xs,i,z,rfl,rfl,hq,he,q⟩:=h;cases rx;let⟨t,rfl⟩:=ry;let⟨its,r,pl,hz⟩:=I.list hq;let⟨j,h1,h2,h3,h4,h5⟩:=bf he;let⟨w,ew,qp⟩:=r.get h2;let hl:=r.length;let hn:=Jl;let fin:CR X x0 σ Q w s:=Ψ2 z H ⟨I,qp,q⟩;by_cases h0:0≤i
 ·let hj:i.toNat=j:=by
   rw[seqIndex_of h0 h5]at h1;show EC h1
  show item_listR pl.isList h0 (by lia) (by rw[hj];simpa using ew) fin hs
 ·let hj:(i+(its.toArray.size:Int)).toNat=j:=by
   rw[seqIndex_neg (by lia) h4]at h1;rw[Bg,←hl];show EC h1
  show subscriptTail_builtinR (x:=w) pl.isList.typeIs aeC.lookup
   (wpAny_getItem_list_neg (Q:=λr s'=>r=w∧CR X x0 σ Q r s') pl.isList (by lia) (by rw[Bg]<;>lia) (by lia) (by rw[hj];simpa using ew) ⟨rfl,fin⟩) hs
def Fh:JE X (nF X.K):=by
 intro value slice x0 s σ H x y v u Q I rx ry h hs;let⟨p,xs,i,z,rfl,rfl,hq,he,q⟩:=h;cases rx;let⟨t,rfl⟩:=ry;let⟨its,r,pl,hz⟩:=I.tuple hq;let⟨j,h1,h2,h3,h4,h5⟩:=bf he;let⟨w,ew,qp⟩:=r.get h2;let hl:=r.length;let hn:=Jl;let fin:CR X x0 σ Q w s:=Ψ2 z H ⟨I,qp,q⟩;show subscriptTail_builtinR (x:=w) pl.typeIs slot_tuple_getitem.lookup
  (getItem_tuple (j:=j) (Q:=λr s'=>r=w∧CR X x0 σ Q r s') pl (by lia) (by lia) (by rw[Bg,←hl];show h1) (by simpa using ew) ⟨rfl,fin⟩) hs
def O5:JE X ox:=by
 intro value slice x0 s σ H x y v u Q I rx ry h hs;let⟨z,i,c,rfl,rfl,hz,he,q⟩:=h;let⟨t,rfl⟩:=rx;let⟨t',rfl⟩:=ry;let⟨j,h1,h2,h3,h4,h5⟩:=bf he;let hl:z.cps.toList.length=z.length:=by simp[Str.length]
 rw[hl]at h1 h4 h5;let hn:=Jl;show tail_any (typeIs_str s z t) slot_str_getitem.lookup (getItem_str (c:=c) (by
  let e1:decide (i < -(2^63:Int))=false:=DY (by lia);let e2:decide (i ≥ 2^63)=false:=DY (by lia);rw[e1,e2,Bool.or_false]) (by rw[h1];simpa using h2) ⟨.str ⟨#[c]⟩,H,I.tok _,⟨_,rfl⟩,q⟩) hs
abbrev vF(K:W.Frag):Dm:=λx y H Q=>ow K x y H Q∨nF K x y H Q∨ox x y H Q
def rX:JE X (vF X.K):=dA.or (Fh.or O5)
def ab8(its:List Value)(n j:Nat)(u:Value):Obj.mapSeq (·.setIfInBounds j u) {cls:=.type "list",data:=.seq its.toArray n}={cls:=.type "list",data:=.seq (its.set j u).toArray n}:=by
 simp[Obj.mapSeq]
def Inv.lst(I:Inv X x0 σ H s)(h:H p=some (.lst xs)):
  ∃(its:List Value) (n:Nat),Vals xs its∧s.heap.get? p=some {cls:=.type "list",data:=.seq its.toArray n}∧xs.length≤sizeLine:=by
 let⟨z,⟨its,n,r,e⟩⟩:=I.bA p _ h;show Ψ2 its n ⟨r,e,z⟩
def Inv.MF{ys:List V}{n':Nat}{f:Obj→Obj}(I:Inv X x0 σ H s)(h:H p=some (.lst xs))
  (ho:s.heap.get? p=some {cls:=.type "list",data:=.seq its.toArray n}) (hf:f {cls:=.type "list",data:=.seq its.toArray n}={cls:=.type "list",data:=.seq its'.toArray n'}) (r:Vals ys its') (hz:ys.length≤sizeLine) (t:Nat) :
  Inv X x0 σ (upd H p (.lst ys)) {s with heap:=s.heap.update p f,toks:=t}:=by
 let e:(s.heap.update p f).get? p=some {cls:=.type "list",data:=.seq its'.toArray n'}:=by
  rw[J4 f ho (by rw[hf]<;>rfl),hf]
 show I.write (x:=p) (e:=p) (by rw[h];trivial) (.inl rfl) (λb u hb q=>(FJ _ _ (Du hb)).trans q) ⟨_,e⟩ ?_;show⟨hz,its',n',r,e⟩
abbrev aev:V→V→V→A7→(A7→Prop)→Prop:=λo i v H Q=>∃p xs k j,o=.ref p∧i=.int k∧H p=some (.lst xs)∧FN xs.length k=some j∧Q (upd H p (.lst (xs.set j v)))
def set_list:nM X aev:=by
 intro x0 s σ H o i v ov iv u Q I ro ri rv h;let⟨p,xs,k,j,rfl,rfl,hp,hj,q⟩:=h;cases ro;let⟨t,rfl⟩:=ri;let⟨its,n,r,ho,hz⟩:=I.lst hp;let⟨h1,h2,h3,h4⟩:=nD hj;let hl:=r.length;let hn:=Jl;let I':Inv X x0 σ (upd H p (.lst (xs.set j v))) {s with heap:=s.heap.update p (Obj.mapSeq (·.setIfInBounds j u))}:=
  I.MF hp ho (ab8 its n j u) (r.set rv j) (by rw[List.length_set];show hz) s.toks
 by_cases h0:0≤k
 ·let hk:k.toNat=j:=by
   rw[seqIndex_of h0 h4]at h1;show EC h1
  show W.ki_setAt ho h0 (by lia) (by rw[Bg,←hl];show h4) (by rw[hk];show⟨_,I',q⟩)
 ·let hk:(k+(its.toArray.size:Int)).toNat=j:=by
   rw[seqIndex_neg (by lia) h3]at h1;rw[Bg,←hl];show EC h1
  show W.ki_setBack ho (by lia) (by rw[Bg,←hl];show h3) (by lia) (by rw[hk];show⟨_,I',q⟩)
def ab5(lo hi:Option Int)(n:Nat):(sliceBounds lo hi none n).1=((HT.cE n 0 lo:Nat):Int)∧(sliceBounds lo hi none n).2.1=((HT.cE n n hi:Nat):Int)∧(sliceBounds lo hi none n).2.2=1:=by
 show⟨?_,?_,rfl⟩
 ·cases lo with
  |none=>simp[sliceBounds,HT.cE]
  |some i=>
   simp only[sliceBounds,HT.cE,Option.getD_none,show(1:Int)>0 by decide,Gi];by_cases h:i<0
   ·simp only[h,Gi]<;>lia
   ·simp only[h,HV]<;>lia
 ·cases hi with
  |none=>simp[sliceBounds,HT.cE]
  |some i=>
   simp only[sliceBounds,HT.cE,Option.getD_none,show(1:Int)>0 by decide,Gi];by_cases h:i<0
   ·simp only[h,Gi]<;>lia
   ·simp only[h,HV]<;>lia
def vM(its:List Value)(lo hi:Option Int):slicePick its.toArray lo hi none=((its.drop (HT.cE its.length 0 lo)).take (HT.cE its.length its.length hi-HT.cE its.length 0 lo)).toArray:=by
 let⟨h1,h2,h3⟩:=ab5 lo hi its.toArray.size;unfold slicePick;rw[h1,h2,h3];simp only[sliceRange_one,pick_run,Bg]<;>rfl
abbrev adl(K:W.Frag):V→Option Int→Option Int→A7→Au→Prop:=λx lo hi H Q=>∃a xs,x=.ref a∧eB K H a xs∧∀p,H p=none→Q (.ref p) (upd H p (.lst (GI xs lo hi)))
def abD:JY X (adl X.K):=by
 intro x0 s σ H x v vl vu lo hi sl Q I rx hs pl pu h;let⟨a,xs,rfl,hx,q⟩:=h;cases rx;let⟨its,r,ht,hz⟩:=I.list hx;let hlen:=r.length;show Ψ2 ("list") _ ⟨aeC.lookup,ht.isList.typeIs,?_⟩;show wpAny_getItem_list_slice ht.isList hs pl pu .none (by simp) ?_ (by rw[Bg]<;>lia)
 rw[vM,←hlen];show Ψ2 (.ref s.heap.objs.size) _ ⟨I.laid (t':=s.toks) (o:=.lst (GI xs lo hi)) (λb ob q=>Al _ q) (Ak _) ?_,rfl,q _ (I.bA.fresh (Ak _))⟩;show⟨DN (ig xs lo hi) hz,_,0,(r.drop (HT.cE xs.length 0 lo)).take (HT.cE xs.length xs.length hi-HT.cE xs.length 0 lo),CM _ rfl⟩
abbrev EN:V→Bool
 |.non=>true
 |.bl _=>true
 |.int _=>true
 |.str _=>true
 |_=>false
abbrev uM:V→V→Bool
 |.non,.non=>true
 |.bl a,.bl b=>a==b
 |.bl a,.int b=>(if a then 1 else 0)==b
 |.int a,.bl b=>a ==(if b then 1 else 0)
 |.int a,.int b=>a==b
 |.str a,.str b=>a==b
 |_,_=>false
def FG(ry:RelV y u)(rx:RelV x v)(fy:EN y=true)(fx:EN x=true):SeqAt.EqAt A s u v (uM y x):=by
 cases y with
 |non=>
  cases ry;cases x with
  |non=>cases rx;show SeqAt.EqAt.same _
  |bl b=>cases rx;show SeqAt.EqAt.none_bool b
  |int b=>let⟨t,rfl⟩:=rx;show SeqAt.EqAt.none_int b t
  |str b=>let⟨t,rfl⟩:=rx;show SeqAt.EqAt.none_str b t
  |_=>show absurd (show false=true from fx) BN
 |bl a=>
  cases ry;cases x with
  |non=>cases rx;show SeqAt.EqAt.bool_none a
  |bl b=>cases rx;show SeqAt.EqAt.bool_bool a b
  |int b=>let⟨t,rfl⟩:=rx;show SeqAt.EqAt.bool_int a b t
  |str b=>let⟨t,rfl⟩:=rx;show SeqAt.EqAt.bool_str a b t
  |_=>show absurd (show false=true from fx) BN
 |int a=>
  let⟨t',rfl⟩:=ry;cases x with
  |non=>cases rx;show SeqAt.EqAt.int_none a t'
  |bl b=>cases rx;show SeqAt.EqAt.int_bool a t' b
  |int b=>let⟨t,rfl⟩:=rx;show SeqAt.EqAt.int_int a t' b t
  |str b=>let⟨t,rfl⟩:=rx;show SeqAt.EqAt.int_str a t' b t
  |_=>show absurd (show false=true from fx) BN
 |str a=>
  let⟨t',rfl⟩:=ry;cases x with
  |non=>cases rx;show SeqAt.EqAt.str_none a t'
  |bl b=>cases rx;show SeqAt.EqAt.str_bool a t' b
  |int b=>let⟨t,rfl⟩:=rx;show SeqAt.EqAt.str_int a t' b t
  |str b=>let⟨t,rfl⟩:=rx;show SeqAt.EqAt.str_str a t' b t
  |_=>show absurd (show false=true from fx) BN
 |_=>show absurd (show false=true from fy) BN
abbrev EY(x:V)(u:Value):Bool:=match u with
 |.none=>uM .non x
 |.bool b=>uM (.bl b) x
 |.int i _=>uM (.int i) x
 |.str z _=>uM (.str z) x
 |_=>false
def VP(r:RelV y u)(f:EN y=true):EY x u=uM y x:=by
 cases y with
 |non=>cases r;rfl
 |bl b=>cases r;rfl
 |int i=>let⟨t,rfl⟩:=r;rfl
 |str z=>let⟨t,rfl⟩:=r;rfl
 |_=>show absurd (show false=true from f) BN
def Mg{x:V}:∀{xs:List V} {us:List Value},Vals xs us→xs.all EN=true→us.any (EY x)=xs.any λy=>uM y x
 |_,_,.nil,_=>rfl
 |y::xs,u::us,.cons r t,f=>by
  rw[HK,FI]at f;rw[JH,JH,VP r f.1,Mg t f.2]
def MI{A:Around}{s:Shared}{x:V}{v:Value}(rx:RelV x v)(fx:EN x=true):∀{xs:List V} {us:List Value},Vals xs us→xs.all EN=true→∀u∈us,SeqAt.EqAt A s u v (EY x u)
 |_,_,.nil,_=>λu hu=>by cases hu
 |y::xs,u::us,.cons r t,f=>λu' hu=>by
  rw[HK,FI]at f;rcases aah.mp hu with rfl|hu
  ·rw[VP r f.1];show FG r rx f.1 fx
  ·show MI rx fx t f.2 u' hu
abbrev Ie(x:V)(xs:List V):Bool:=xs.any λy=>uM y x
abbrev SI(K:W.Frag)(neg:Bool):Dm:=λx y H Q=>∃p xs,y=.ref p∧(eB K H p xs∨dD K H p xs)∧EN x=true∧xs.all EN=true∧Q (.bl (if neg then !Ie x xs else Ie x xs)) H
def yG:Bs X (compareOp .In) (SI X.K false):=by
 intro x0 s σ H x y v u Q I rx ry h;let⟨p,xs,rfl,hq,fx,fs,q⟩:=h;cases ry;rcases hq with hq|hq
 ·let⟨its,r,pl,hz⟩:=I.list hq
  show SeqAt.in_listAt (EY x) pl.isList (λw hw=>MI rx fx r fs w (by simpa using hw)) ⟨.bl _,H,I,rfl,?_⟩;rw[show its.toArray.any (EY x)=its.any (EY x)by simp,Mg r fs];show q
 ·let⟨its,r,pl,hz⟩:=I.tuple hq
  show SeqAt.in_tupleAt (EY x) pl (λw hw=>MI rx fx r fs w (by simpa using hw)) ⟨.bl _,H,I,rfl,?_⟩;rw[show its.toArray.any (EY x)=its.any (EY x)by simp,Mg r fs];show q
def sC:Bs X (compareOp .NotIn) (SI X.K true):=by
 intro x0 s σ H x y v u Q I rx ry h;let⟨p,xs,rfl,hq,fx,fs,q⟩:=h;cases ry;rcases hq with hq|hq
 ·let⟨its,r,pl,hz⟩:=I.list hq
  show SeqAt.notIn_listAt (EY x) pl.isList (λw hw=>MI rx fx r fs w (by simpa using hw)) ⟨.bl _,H,I,rfl,?_⟩;rw[show its.toArray.any (EY x)=its.any (EY x)by simp,Mg r fs];show q
 ·let⟨its,r,pl,hz⟩:=I.tuple hq
  show SeqAt.notIn_tupleAt (EY x) pl (λw hw=>MI rx fx r fs w (by simpa using hw)) ⟨.bl _,H,I,rfl,?_⟩;rw[show its.toArray.any (EY x)=its.any (EY x)by simp,Mg r fs];show q
def jD:Eb X (.builtin "len") (λxs H Q=>∃p ys,xs=[.ref p]∧(eB X.K H p ys∨dD X.K H p ys)∧Q (.int ys.length) H):=by
 intro x0 s σ H xs us Q I r h;let⟨p,ys,rfl,hq,q⟩:=h;let⟨u,rfl,rx⟩:=vals1 r;cases rx;let hn:=Jl;rcases hq with hq|hq
 ·let⟨its,r',pl,hz⟩:=I.list hq
  let hlen:=r'.length;show Calls.call_len_list pl.isList (by simp only[Bg]<;>lia) ⟨.int ys.length,H,I.tok _,⟨s.toks+1,by rw[Bg,hlen]⟩,q⟩
 ·let⟨its,r',pl,hz⟩:=I.tuple hq
  let hlen:=r'.length;show len_tuple pl (by simp only[Bg]<;>lia) ⟨.int ys.length,H,I.tok _,⟨s.toks+1,by rw[Bg,hlen]⟩,q⟩
def aeE:Eb X (.builtin "len") (λxs H Q=>∃z,xs=[.str z]∧z.length≤sizeLine∧Q (.int z.length) H):=by
 intro x0 s σ H xs us Q I r h;let⟨z,rfl,hz,q⟩:=h;let⟨u,rfl,⟨t,rfl⟩⟩:=vals1 r;let hn:=Jl;show len_str (by lia) ⟨.int z.length,H,I.tok _,⟨_,rfl⟩,q⟩
def acM:Eb X (.type "list") (λxs H Q=>∃p ys,xs=[.ref p]∧(eB X.K H p ys∨dD X.K H p ys)∧∀l,H l=none→Q (.ref l) (upd H l (.lst ys))):=by
 intro x0 s σ H xs us Q I r h;let⟨p,ys,rfl,hq,q⟩:=h;let⟨u,rfl,rx⟩:=vals1 r;cases rx;let fin:∀(its:List Value),Vals ys its→ys.length≤sizeLine→∀(h':Heap) (c':Nat),(∀b o',s.heap.get? b=some o'→h'.get? b=some o')→
   h'.get? s.heap.objs.size=some {cls:=.type "list",dict:=none,data:=.seq its.toArray c',slots:=#[]}→CR X x0 σ Q (.ref s.heap.objs.size) {s with heap:=h'}:=λits r' hz h' c' kp e=>
  ⟨.ref s.heap.objs.size,_,I.laid (t':=s.toks) kp (Ak _) (show bT X.prog X.w _ h' _ (.lst ys)from⟨hz,its,c',r',e⟩),rfl,q _ (I.bA.fresh (Ak _))⟩
 rcases hq with hq|hq
 ·let⟨its,r',pl,hz⟩:=I.list hq
  let hlen:=r'.length;let⟨o,ho,hc,⟨n,hd⟩⟩:=pl.isList;show call_list_seq p (.inl rfl) ho hc hd (λh' c' kp e=>fin its r' hz h' c' kp e) (by simp only[Bg]<;>lia)
 ·let⟨its,r',pl,hz⟩:=I.tuple hq
  let hlen:=r'.length;let⟨o,ho,hc,⟨n,hd⟩⟩:=pl;show call_list_seq p (.inr rfl) ho hc hd (λh' c' kp e=>fin its r' hz h' c' kp e) (by simp only[Bg]<;>lia)
def qU:Eb X (.type "tuple") (λxs H Q=>∃p ys,xs=[.ref p]∧((eB X.K H p ys∧∀l,H l=none→Q (.ref l) (upd H l (.tup ys)))∨(dD X.K H p ys∧Q (.ref p) H))):=by
 intro x0 s σ H xs us Q I r h;obtain⟨p,ys,rfl,h⟩:=h;let⟨u,rfl,rx⟩:=vals1 r;cases rx;rcases h with⟨hq,q⟩|⟨hq,q⟩
 ·let⟨its,r',pl,hz⟩:=I.list hq
  let hlen:=r'.length;show call_tuple_list pl.isList (λh' kp=>?_) (by simp only[Bg]<;>lia)
  let I1:Inv X x0 σ H {s with heap:=h'}:=I.kept (t':=s.toks) kp;let I2:Inv X x0 σ (upd H h'.objs.size (.tup ys)) {s with heap:=h'.push {cls:=.type "tuple",data:=.seq its.toArray}}:=
   I1.laid (t':=s.toks) (λb o e=>Al _ e) (Ak _) (show bT X.prog X.w _ _ _ (.tup ys)from⟨hz,its,r',IsTup.new _ _⟩)
  show Ψ2 (.ref h'.objs.size) _ ⟨I2,rfl,q _ (I1.bA.fresh (Ak _))⟩
 ·let⟨its,r',pl,hz⟩:=I.tuple hq
  show call_tuple_same pl ⟨.ref p,H,I,rfl,q⟩
abbrev RH(K:W.Frag)(T:String)(x:V)(H:A7):Prop:=match x with
 |.str _=>T = "str"
 |.int _=>T = "int"
 |.ref p=>(T = "list" ∧ ∃xs,eB K H p xs)∨(T = "tuple" ∧ ∃o,K.lookup p=some o∧o.cls=.type "tuple" ∧ o.dict=none) ∨
   (T = "dict" ∧((∃aQ,H p=some (.dK aQ))∨∃aQ,H p=some (.dT aQ)))∨(T = "set" ∧ ∃S n,H p=some (.set S n))
 |_=>False
def pP{T:String}(I:Inv X x0 σ H s)(r:RelV x v)(ty:RH X.K T x H):
  s.TypeIs v T∧∀a,v=.ref a→∃ob,s.heap.get? a=some ob∧ob.dict=none:=by
 cases x with
 |str z=>
  let⟨t,rfl⟩:=r;cases(show T = "str" from ty);show⟨typeIs_str s z t,λ_ e=>nomatch e⟩
 |int i=>
  let⟨t,rfl⟩:=r;cases(show T = "int" from ty);show⟨typeIs_int s i t,λ_ e=>nomatch e⟩
 |ref p=>
  cases r;rcases ty with⟨rfl,xs,hq⟩|⟨rfl,o,hk,hc,hd⟩|⟨rfl,hk⟩|⟨rfl,S,n,hk⟩
  ·let⟨its,_,pl,_⟩:=I.list hq
   show⟨pl.isList.typeIs,λa e=>?_⟩;cases e;let⟨o,n,e,c,hd,_⟩:=pl;show⟨o,e,hd⟩
  ·show⟨⟨o,I.qY p o hk,hc⟩,λa e=>?_⟩
   cases e;show⟨o,I.qY _ o hk,hd⟩
  ·let z:∃o,s.heap.get? p=some o∧o.ExactDict:=by
    rcases hk with⟨aQ,hk⟩|⟨aQ,hk⟩
    ·let⟨_,_,⟨_,_,⟨o,_,_,e,ex,_⟩⟩⟩:=I.bA p _ hk
     show⟨o,e,ex⟩
    ·let⟨_,_,⟨_,_,⟨o,_,_,e,ex,_⟩⟩⟩:=I.bA p _ hk
     show⟨o,e,ex⟩
   let⟨o,e,ex⟩:=z;show⟨⟨o,e,ex.1⟩,λa e2=>?_⟩;cases e2;show⟨o,e,ex.2.1⟩
  ·let⟨o,_,_,_,e,ex,_⟩:=I.bA p _ hk
   show⟨⟨o,e,ex.1⟩,λa e2=>?_⟩;cases e2;show⟨o,e,ex.2.1⟩
 |_=>show False.elim ty
abbrev sS(K:W.Frag)(T:String)(r:V→List V→A7→Au→Prop)(to:Am):Am:=λσ H Q=>to σ H λx H1=>RH K T x H1∧r x [] H1 Q
abbrev um(K:W.Frag)(T:String)(r:V→List V→A7→Au→Prop)(to:Am)(t:CW):Am:=λσ H Q=>to σ H λx H1=>RH K T x H1∧t σ H1 λxs H2=>r x xs H2 Q
variable {o: Expr}{es: List Expr}{to: Am}{t: CW}{name: Str}{apos dQ: Pos}{T id: String}{r: V→List V→A7→Au→Prop}
def yg(pa:PlainAttrs T)(slot:Slot T name id)(Av:typeOf (.builtin id)=pure (.type "method_descriptor"))(hm:Mi X id r)(ho:PE X o to)
  (jX:attributeBase o name X.env (eval o X.env)=eval o X.env:=by rfl) (jW:(apos.endLine==dQ.line)=true:=by rfl):PE X (.Call (.Attribute o name apos) [] [] dQ) (sS X.K T r to):=by
 show .mk ?_;intro x0 s σ H Q I h;show wpAny_Call_method0_late jX jW (Ab (ho x0 s σ H _ I h) λv s1 ξ=>Ξ24 ξ λx H1 I1 r1 ty q1=>?_);let⟨h1,h2⟩:=pP I1 r1 ty;show Ψ2 T id ⟨pa,slot,Av,h1,h2,ai rfl (PySem.evalArgs_none (hm x0 s1 σ H1 x [] v [] Q I1 r1 .nil q1))⟩
def aa(pa:PlainAttrs T)(slot:Slot T name id)(Av:typeOf (.builtin id)=pure (.type "method_descriptor"))(hm:Mi X id r)(ho:PE X o to)(ha:PA X (e::es) t)
  (jX:attributeBase o name X.env (eval o X.env)=eval o X.env:=by rfl)
  (yO:((backTo dQ (starEach (e::es) X.env)).all (λx=>!x.1)&&(backToKw dQ (keywordEach [] X.env)).all (λx=>x.1.isSome)
   && decide ((e::es).length+([]:List Keyword).length+(if([]:List Keyword).isEmpty then 0 else 1)<30))=true:=by rfl)
  (jW:(apos.endLine==dQ.line)=true:=by rfl) (hs:starEach (e::es) X.env=(false,eval e X.env)::starEach es X.env:=by rfl) (yM:(backTo dQ (starEach es X.env)).any (·.1)=false:=by rfl) :
  PE X (.Call (.Attribute o name apos) (e::es) [] dQ) (um X.K T r to t):=by
 show .mk ?_;intro x0 s σ H Q I h;show wpAny_Call_method_late jX yO jW rfl (Ab (ho x0 s σ H _ I h) λv s1 ξ=>Ξ24 ξ λx H1 I1 r1 ty q1=>?_);let⟨h1,h2⟩:=pP I1 r1 ty;show Ψ2 T id ⟨pa,slot,Av,h1,h2,?_⟩;let hA:=ha dQ x0 s1 σ H1 _ I1 q1;rw[hs]at hA ⊢;show ai (by show(false||(backTo dQ (starEach es X.env)).any (·.1))=false;rw[yM]<;>rfl) (bK ?_)
 show Ab hA λus s2 ξ=>Ξ23 ξ λvs H2 I2 r2 q2=>hm x0 s2 σ H2 x vs v us Q I2 r1 r2 q2
end
abbrev da(X:Cx)(id:String)(r:V→List V→A7→Au→Prop):Prop:=
 ∀x0 s σ H (x:V) (xs:List V) (v:Value) (us:List Value) (Q:Au),Inv X x0 σ H s→RelV x v→Vals xs us→r x xs H Q→
  wpAny (model X.prog X.w) X.A (call (.builtin id) (v::us)) (CR X x0 σ Q) X.xe s
def Vals.one:∀{x:V} {us:List Value},Vals [x] us→∃u,us=[u]∧RelV x u
 |_,_,.cons r .nil=>⟨_,rfl,r⟩
def Vals.zero:∀{us:List Value},Vals [] us→us=[]
 |_,.nil=>rfl
def Vals.dropLast(h:Vals xs us):Vals xs.dropLast us.dropLast:=by
 induction h with
 |nil=>show .nil
 |cons r t ih=>
  cases t with
  |nil=>show .nil
  |cons q t'=>show .cons r ih
def Vals.rep(h:Vals xs us):∀k:Nat,Vals (List.replicate k xs).flatten (List.replicate k us).flatten
 |0=>.nil
 |k+1=>by
  rw[Gg,Gg,E9,E9];show Vals.append h (Vals.rep h k)
def uU{α:Type}(l:List α):l.eraseIdx (l.length-1)=l.dropLast:=by
 induction l with
 |nil=>rfl
 |cons a r ih=>
  cases r with
  |nil=>rfl
  |cons b r=>
   let e:(a::b::r).length-1=((b::r).length-1)+1:=by
    let h1:(a::b::r).length=r.length+2:=rfl;let h2:(b::r).length=r.length+1:=rfl;lia
   rw[e,List.eraseIdx_cons_succ,ih]
   all_goals rfl
section
variable {x0: List (Addr×Obj)}{σ: St}{H: A7}{s: Shared}{l: Addr}{xs ys: List V}
def Inv.wy{f:Array Value→Array Value}(I:Inv X x0 σ H s)(hH:H l=some (.lst xs))
  (e:s.heap.get? l=some {cls:=.type "list",data:=.seq its.toArray n}) (hf:f its.toArray=its'.toArray) (hv:Vals ys its') (hz:ys.length≤sizeLine) :
  Inv X x0 σ (upd H l (.lst ys)) {s with heap:=s.heap.update l (Obj.mapSeq f),toks:=t'}:=by
 let q:=PySem.IsL.update e f;rw[hf]at q;show I.write (x:=l) (e:=l) (by rw[hH];show trivial) (.inl rfl) (λb' u hb hu=>(FJ s.heap (Obj.mapSeq f) (Du hb)).trans hu) ⟨_,q⟩ ?_;show⟨hz,its',_,hv,q⟩
def Inv.MG(I:Inv X x0 σ H s)(hv:Vals ys its)(hz:ys.length≤sizeLine):
  Inv X x0 σ (upd H s.heap.objs.size (.lst ys)) {s with heap:=s.heap.push {cls:=.type "list",data:=.seq its.toArray},toks:=t'}:=
 I.laid (λ_ _ q=>Al _ q) (Ak _) ⟨hz,its,0,hv,CM _ rfl⟩
def Inv.fresh(I:Inv X x0 σ H s):H s.heap.objs.size=none:=I.bA.fresh (Ak _)
def Inv.wx(I:Inv X x0 σ H s)(hH:H l=some (.lst xs)):xs.length≤sizeLine∧∃(its:List Value) (n:Nat),Vals xs its∧xs.length=its.length∧s.heap.get? l=some {cls:=.type "list",data:=.seq its.toArray n}:=by
 let⟨z,⟨its,n,r,e⟩⟩:=I.bA l _ hH;show⟨z,its,n,r,r.length,e⟩
def xH(h:n≤sizeLine):Builtin.List.listTooLong n=false:=by
 unfold Builtin.List.listTooLong;show DY (by lia)
end
section
abbrev aaV:V→List V→A7→Au→Prop:=λx vs H Q=>∃l xs y,x=.ref l∧vs=[y]∧H l=some (.lst xs)∧xs.length<sizeLine∧Q .non (upd H l (.lst (xs++[y])))
def O3:da X "list.append" aaV:=by
 intro x0 s σ H x vs v us Q I rx rv h;let⟨l,xs,y,rfl,rfl,hH,hz,q⟩:=h;cases rx;let⟨u,rfl,ru⟩:=rv.one;let⟨z,⟨its,n,r,hl,e⟩⟩:=I.wx hH;show KD F.slot_list_append ⟨_,e,rfl⟩ F.entry_list_append (F.args_list_append_2 _ _) (PySem.list_append l its.toArray n u (by rw[Bg];lia)) ⟨e,?_⟩;show Ψ2 (.non) _ ⟨I.wy (its':=its++[u]) hH e (by simp) (r.append (.cons ru .nil)) ?_,rfl,q⟩;rw[B9,aB];lia
abbrev adE:V→List V→A7→Au→Prop:=λx vs H Q=>∃l b xs zs,x=.ref l∧vs=[.ref b]∧H l=some (.lst xs)∧H b=some (.lst zs)∧xs.length+zs.length≤sizeLine∧Q .non (upd H l (.lst (xs++zs)))
def acB:da X "list.extend" adE:=by
 intro x0 s σ H x vs v us Q I rx rv h;let⟨l,b,xs,zs,rfl,rfl,hH,hB,hz,q⟩:=h;cases rx;let⟨u,rfl,ru⟩:=rv.one;cases ru;let⟨z,⟨its,n,r,hl,e⟩⟩:=I.wx hH;let⟨z2,⟨fZ,n2,r2,Si,e2⟩⟩:=I.wx hB;let hsz:its.toArray.size+fZ.toArray.size≤sizeLine:=by rw[Bg,Bg];lia
 let QL:¬(!its.toArray.isEmpty&&Builtin.List.listTooLong (its.toArray.size+fZ.toArray.size))=true:=by
  rw[xH hsz,Bool.and_false];show BN
 show KD F.slot_list_extend ⟨_,e,rfl⟩ F.entry_list_extend (F.args_list_extend_2 _ _)
  (AutoSeq1.list_extend_list_list_0 l its.toArray n b fZ.toArray n2 QL (by rw[Bg];lia) (by lia)) ⟨e,e2,?_⟩
 show Ψ2 (.non) _ ⟨I.wy (its':=its++fZ) hH e (by simp) (r.append r2) ?_,rfl,q⟩;rw[B9];lia
abbrev abH:V→List V→A7→Au→Prop:=λx vs H Q=>∃l xs y,x=.ref l∧vs=[]∧H l=some (.lst xs)∧xs[xs.length-1]?=some y∧Q y (upd H l (.lst xs.dropLast))
def ac2:da X "list.pop" abH:=by
 intro x0 s σ H x vs v us Q I rx rv h;let⟨l,xs,y,rfl,rfl,hH,hy,q⟩:=h;cases rx;let MW:=rv.zero;subst MW;let⟨z,⟨its,n,r,hl,e⟩⟩:=I.wx hH;let⟨u,hu,ru⟩:=r.get hy;let YZ:its.toArray[its.toArray.size-1]?=some u:=by
  show its.toArray[its.length-1]?=some u
  rw[←O1,←hl];show hu
 show KD F.slot_list_pop ⟨_,e,rfl⟩ F.entry_list_pop (F.args_list_pop_1 _) (MeetsSeq.list_pop_last l its.toArray n u YZ (by rw[Bg];lia)) ⟨e,?_⟩;show Ψ2 y _ ⟨I.wy (its':=its.dropLast) hH e ?_ r.dropLast ?_,ru,q⟩
 ·show its.toArray.eraseIdxIfInBounds (its.toArray.size-1)=its.dropLast.toArray
  rw[Bg,List.eraseIdxIfInBounds_toArray,uU]
 ·rw[List.length_dropLast]
  lia
abbrev wt:Dm:=λx y H Q=>∃l b xs zs,x=.ref l∧y=.ref b∧H l=some (.lst xs)∧H b=some (.lst zs)∧xs.length+zs.length≤sizeLine∧∀p,H p=none→Q (.ref p) (upd H p (.lst (xs++zs)))
def acR:Bs X (binaryOp .Add) wt:=by
 intro x0 s σ H x y v u Q I rx ry h;let⟨l,b,xs,zs,rfl,rfl,hH,hB,hz,q⟩:=h;cases rx;cases ry;let⟨z,⟨its,n,r,hl,e⟩⟩:=I.wx hH;let⟨z2,⟨fZ,n2,r2,Si,e2⟩⟩:=I.wx hB;show PySem.P.add_list e e2 ?_ (by rw[Bg,Bg];lia);let ea:its.toArray++fZ.toArray=(its++fZ).toArray:=by simp
 rw[ea];show Ψ2 (.ref _) _ ⟨I.MG (t':=s.toks) (r.append r2) (by rw[B9];lia),rfl,q _ I.fresh⟩
def len_rep{α:Type}(xs:List α)(k:Nat):(List.replicate k xs).flatten.length=k*xs.length:=by
 induction k with
 |zero=>simp
 |succ k ih=>rw[Gg,E9,B9,ih,Lw,M2]
end
section
set_option maxRecDepth 100000 in
end
end L2
namespace SR
open PySem PySem.W PySem.Calls PyProof.Rows
variable {P:Params}{h:Heap}{l:OpenLaw}{n:Nat}
def acq:∀(ns:List Int) (vs:List Value),WellAll P h vs (ns.map WData.int)→IntsAre vs ns:=by
 intro ns;induction ns with
 |nil=>
  intro vs w;rw[GQ]at w;cases w;show .nil
 |cons n ns ih=>
  intro vs w;rw[Ar]at w;cases w with
  |cons a b=>
   cases a;show .cons _ _ (ih _ b)
def xc(hn:l.most=some n){args:List WData}{vals:List Value}
  (IW:l.row.toRowW.claim.pre args=true) (UP:WellAll P h vals args) :
  ∃a vs ns,vals=[Value.ref a]∧args=[WData.list (ns.map WData.int)]∧h.get? a=some {cls:=.type "list",data:=.seq vs.toArray}∧IntsAre vs ns∧ns.length≤n:=by
 let Y9:WShape.hasAll [] args [.list .int]=true:=(pre_splitW IW).1;let hc:l.pre.holds [] {args:=args}=true:=(pre_splitW IW).2;let⟨d,r,rfl,h1,h2⟩:=hasAllW_cons Y9;obtain rfl:=hasAllW_nil h2;let⟨xs,rfl,h3⟩:=hasW_list h1;let⟨ns,rfl⟩:=items_int h3;let hlen:ns.length≤n:=by
  unfold OpenLaw.pre at hc;let h4:(WTm.not (.lt (.lit (.int (n:Int))) (.len (.arg 0)))).holds [] {args:=[.list (ns.map .int)]}=true:=by
   let h4:=(holds_andW hc).1;rw[hn]at h4;show h4
  let h5:=condW_of h4 (w_not (w_lt w_lit (w_len_list (w_arg rfl))));rw[Ac]at h5;show Nat.le_of_not_lt λq=>?_;let q':(n:Int)<((ns.length:Nat):Int):=by lia
  first
   |(rw[Dp q']at h5;show absurd h5 (by decide))
   |(simp at h5;lia)
 cases UP with
 |cons w1 w2=>
  cases w2;cases w1 with
  |list ho Fw=>show Ψ3 _ _ ns ⟨rfl,rfl,ho,acq ns _ Fw,hlen⟩
def ady(l:OpenLaw)(args:List WData):l.row.toRowW.claim.post args (.bool true) args=true:=
 postW_of (r:=l.row.toRowW) (X:=(true==true))
  (show WShape.has [] (.bool true) .bool=true by first|rfl|decide|simp[WShape.has,WShape.arms,WShape.armsAll])
  (show(WTm.eq .res (.lit (.bool true))).value [] {args:=args,res:=some (.bool true),after:=args}=some (.bool (true==true))from w_eq_bool (w_res rfl) w_lit) rfl
def xu{q:Program}{loose:List Str}{XP:(ac)→Heap→Prop}{YP:World→Heap→Prop}{d:DefRec}
  (hn:l.most=some n) (Kt:d.params.defaults=[])
  (call:∀(w:World) (s₀ s₁:Shared) (mg mb:ac) (fa:Addr) (o:Obj) (pm cd doc:Value) (a:Addr) (vs:List Value) (ns:List Int),
   Ground q loose [] XP w s₀ mg mb s₁.heap→YP w s₁.heap→
   s₁.heap.get? fa=some o→o.data=.func (docDef d.name d.params d.body d.scope pm cd doc)→s₁.heap.CodeRec cd d.name→mg d.name=some (.ref fa)→
   s₁.heap.get? a=some {cls:=.type "list",data:=.seq vs.toArray}→IntsAre vs ns→ns.length≤n→s₁.gens=#[]→
   codeAny (model l.prog w) callerA (.call (.ref fa) ⟨[.ref a],[]⟩) (λr s'=>r=.ok (.ret (.bool true))∧OldK s₁.heap s'.heap∧s'.os=s₁.os∧AllBare s'.gens) s₁) :
  WalkO q loose XP YP l.row.toRowW d [] (λf vs=>PySem.call f vs):=by
 intro w s₀ s₁ mg mb G Y fa o pm cd doc dV Bt ho hd oX hD QK hg args vals as IW Zi hrd UP hlo;obtain rfl:dV=.none:=Dflts.none hD Kt;obtain rfl:Bt=.none:=Dflts.noKw hD;let⟨a,vs,ns,rfl,rfl,MZ,hints,hlen⟩:=xc hn IW UP;show enter_call (O8 (call w s₀ s₁ mg mb fa o pm cd doc a vs ns G Y ho (fd_plain hd) oX QK MZ hints hlen hg) λr s' hq=>?_);let⟨rfl,h2,h3,h4⟩:=hq;show⟨.inl ⟨.bool true,.bool true,[],rfl,λ_=>rfl,.bool true,ady l _,λ_=>⟨List.Pairwise.nil,λ_ hm=>(nomatch hm)⟩⟩,h2,h3,h4⟩
end SR
namespace L2
open PySem PySem.Spec PyProof.Rows
variable {X: Cx}{x qual:Str}{st:Stmt}{f C:Addr}{fd:FuncData}{ps:List Str}{k n i:Nat}{sp:Dn}{pos p: Pos}{w:World}{s s2:Shared}{scope: Scope}{env:Env}{own: List Str}{cap: List (Nat×Str)}{H' H2 H H1:A7}{fp: List Addr}{l:List Addr}{P:Program}{mg:ac}{base:Heap}{cl: List (Str×Addr)}{te: Am}{e: Expr}
def kL:∀{vs:List Value} {ns:List Int},IntsAre vs ns→Vals (ns.map V.int) vs
 |_,_,.nil=>.nil
 |_,_,.cons n t h=>.cons ⟨t,rfl⟩ (kL h)
abbrev IS(s:Stmt):Arguments:=match s with
 |.FunctionDef _ a _ _ _ _ _ _ _ _=>a
 |_=>{posonlyargs:=[],args:=[],vararg:=none,kwonlyargs:=[],kw_defaults:=[],kwarg:=none,defaults:=[]}
abbrev FF(s:Stmt):List Stmt:=match s with
 |.FunctionDef _ _ b _ _ _ _ _ _ _=>b
 |_=>[]
abbrev B4(s:Stmt):Scope:=match s with
 |.FunctionDef _ _ _ _ _ _ sc _ _ _=>sc
 |_=>{kind:=.function,names:=[],isGenerator:=false,isCoroutine:=false}
@[reducible]def BJ:Gu:=λ_ _ _ _ _ _=>False
@[reducible]def Jv:BF:=λ_ _ _=>False
def xg{X:Cx}:Passes BJ X Jv:=λ_ _ _ _ _ _ _ h=>h.elim
structure dR(K:W.Frag)(x qual:Str)(st:Stmt)(f:Addr)(fd:FuncData):Prop where
 ex:∃(oc:Value) (od:Option Addr) (Bt doc pm:Value) (an:Option Addr) (cA ct:Value) (yn:Array (Option Value)),
  fd=W.fnOf x qual (IS st) (FF st) (B4 st) .none Bt doc pm an cA ct∧K.lookup f=some ⟨oc,od,.func fd,yn⟩∧W.codeIn K cA qual=true
 kp:W.keepIn K (.ref f)=true
section
variable {P: Program}{w: World}{K: W.Frag}{mg: Str→Option Value}{base: Heap}
def dR.ok{N:List Str}(F:dR K x qual st f fd)(S:BA N ps (B4 st))(len:∀vs H Q E,sp vs H Q E→vs.length=ps.length)
  (iK:∀(cA:Value) (A:Around) (outer:List Env) (s:Shared) (H:A7) (vs:List V) (Q:Au) (E:BF),dw k (A.deeper (envOfC qual (B4 st) s.heap.objs.size f cA))→sp vs H Q E→
   ∃t,kl (Hq BJ P w K mg base N qual (B4 st) f cA A outer s H E).rQ (FF st) t∧t {nx:=λ_ H'=>Q .non H',rt:=Q} (start N vs) H):bB P w K mg base BJ (k+1) f fd ps sp:=by
 let⟨oc,od,Bt,doc,pm,an,cA,ct,yn,rfl,lk,oX⟩:=F.ex;show SM lk oX S len λA outer s H vs Q E hr uI=>?_;let⟨t,h,q⟩:=iK cA A outer s H vs Q E hr uI;show⟨t,h.rQ,q⟩
def dR.binds(F:dR K x qual st f fd)
  (h:∀(Bt doc pm:Value) (an:Option Addr) (cA ct:Value) (us:List Value),us.length=ps.length→bindArgs (W.fnOf x qual (IS st) (FF st) (B4 st) .none Bt doc pm an cA ct) ⟨us,[]⟩=pure (ps.zip us)):Binds K fd ps []:=by
 let⟨oc,od,Bt,doc,pm,an,cA,ct,yn,rfl,lk,oX⟩:=F.ex;show .all (h Bt doc pm an cA ct)
def oV{oc:Value}{od an:Option Addr}{yn:Array (Option Value)}{Bt doc pm cA ct:Value}(l:K.lookup f=some ⟨oc,od,.func (W.fnOf x qual (IS st) (FF st) (B4 st) .none Bt doc pm an cA ct),yn⟩)
  (c:W.codeIn K cA qual=true) (k:W.keepIn K (.ref f)=true):dR K x qual st f (W.fnOf x qual (IS st) (FF st) (B4 st) .none Bt doc pm an cA ct):=⟨Ψ9 oc od Bt doc pm an cA ct yn ⟨rfl,l,c⟩,k⟩
end
def Bq(h:n≤1000):n<sizeLine:=O9 h (by decide)
section
def BM(i:Nat){pos:Pos}(hN:X.N[i]?=some x:=by rfl)(hv:MH X.env.scope x:=by first|show Or.inl rfl|show Or.inr (Or.inl rfl)|show Or.inr (Or.inr rfl))(hd:(x ==("__debug__" : Str))=false:=by decide)
  (oX:(x ==("__classdict__" : Str))=false:=by decide):PE X (.Name x pos) (eJ i):=Ta hN hv hd oX
end
def tI{A B:Prop}(h:B):if false=true then A else B:=by
 rw[AH BN];show h
def Jw{c A B:Prop}[Decidable c](h1:c→A)(h2:¬c→B):if c then A else B:=by
 by_cases h:c
 ·rw[AI h]
  show h1 h
 ·rw[AH h]
  show h2 h
abbrev adM(H H':A7):Prop:=∀b o,H b=some o→H' b=some o
def mj{prog:Program}{A:Around}{R:Result→Shared→Prop}{elt target iter:Expr}{ifs:List Expr}{scope:Scope}{pos:Pos}{it acc:Value}(I:Nat→Shared→Prop)
  (turn:∀n s,I n s→wpAny (model prog w) A (pyNext it) (λr s₁=>match r with
   |none=>R (.ok .next) s₁
   |some v=>wpAny (model prog w) A (letOwnedTupleGo target it v) (λ_ Wi=>wpAny (model prog w) A (assign target env v) (λ_ s₂=>
     wpAny (model prog w) A (forIn ifs true λc r=>if r=true then do let ok ←isTrue c env (eval c env);pure (ForInStep.yield ok)else pure (ForInStep.yield r)) (λok s₃=>
      if ok=true then wpAny (model prog w) A (eval elt env) (λx s₄=>
       wpAny (model prog w) A (call (.builtin "list.append") [acc,x]) (λ_ s₅=>∃m,m<n∧I m s₅) (notedBy (model prog w) A env λe s'=>R (.error e) s') s₄) (notedBy (model prog w) A env λe s'=>R (.error e) s') s₃
      else ∃m,m<n∧I m s₃) (notedBy (model prog w) A env λe s'=>R (.error e) s') s₂) (notedBy (model prog w) A env λe s'=>R (.error e) s') Wi) (notedBy (model prog w) A env λe s'=>R (.error e) s') s₁) (notedBy (model prog w) A env λe s'=>R (.error e) s') s)
  (n:Nat) (h:I n s) :
  codeAny (model prog w) A (.compLoop (.ListComp elt [⟨target,iter,ifs,0⟩] scope pos) 0 it acc env) R s:=by
 show codeAny_loop rfl I (λn s hI=>?_) n h;show wpAny _ A ((compTurn (.ListComp elt [⟨target,iter,ifs,0⟩] scope pos) 0 it acc env).onRaise (λx=>do noteFrame x env;theTreesLotGoes x)) _ _ s
 show wpAny_noted ?_;rw[compTurn_list];show A5 (P9 (A5 (DC (turn n s hI) (λr s₁ h₁=>?_) λ_ _ h'=>h')));cases r with
 |none=>show AG h₁
 |some v=>
  show A5 (DC h₁ (λ_ Wi YW=>?_) λ_ _ h'=>h');show A5 (DC YW (λ_ s₂ h₂=>A5 (DC h₂ (λok s₃ h₃=>?_) λ_ _ h'=>h')) λ_ _ h'=>h');cases ok with
  |false=>show AG ⟨rfl,h₃⟩
  |true=>
   show A5 (A5 (DC h₃ (λx s₄ h₄=>A5 (DC h₄ (λ_ s₅ h₅=>AG (AG ⟨rfl,h₅⟩)) λ_ _ h'=>h')) λ_ _ h'=>h'))
structure tS(X:Cx)(ifs:List Expr)(t:Cp):Prop where
 run:∀x0 s σ H (Q:Bool→A7→Prop),Inv X x0 σ H s→t σ H Q→
  wpAny (model X.prog X.w) X.A (forIn ifs true λc r=>if r=true then do let ok ←isTrue c X.env (eval c X.env);pure (ForInStep.yield ok)else pure (ForInStep.yield r)) (JX X x0 σ Q) X.xe s
instance {X:Cx}{ifs:List Expr}{t:Cp}:CoeFun (tS X ifs t) λ_=>∀x0 s σ H (Q:Bool→A7→Prop),Inv X x0 σ H s→t σ H Q→wpAny (model X.prog X.w) X.A (forIn ifs true λc r=>if r=true then do let ok ←isTrue c X.env (eval c X.env);pure (ForInStep.yield ok)else pure (ForInStep.yield r)) (JX X x0 σ Q) X.xe s:=⟨tS.run⟩
abbrev abR:Cp:=λ_ H Q=>Q true H
def acC{X:Cx}:tS X [] abR:=.mk λ_ _ _ H _ I h=>wpAny_tests_nil ⟨H,I,h⟩
def tQ{X:Cx}{c:Expr}{t:Cp}(h:PT X c t):tS X [c] t:=.mk λx0 s σ H Q I q=>wpAny_tests_one (h x0 s σ H Q I q)
abbrev CK(X:Cx)(Nc:List Str)(scope:Scope)(cl:List (Str×Addr))(C:Addr)(s:Shared)(H:A7)(fp:List Addr)(E:xz):Cx where
 prog:=X.prog
 w:=X.w
 K:=X.K
 mg:=X.mg
 base:=X.base
 A:=X.A
 N:=Nc
 s₀:=s
 H₀:=H
 env:=compEnvC scope cl C X.env
 outer:=X.stack
 stack:=X.stack
 ex:=fp
 calm:=X.calm
 fn:=λ_=>false
 pn:=[]
 xe:=E
abbrev Key(X:Cx)(scope:Scope)(cl:List (Str×Addr))(j:Nat)(x:Str):Prop:=
 X.N[j]?=some x∧MH X.env.scope x∧X.env.kindOf x≠some .local∧(relabel scope X.env).names.lookup x≠some .local∧((relabel scope X.env).names.lookup x=some .cell∨(relabel scope X.env).names.lookup x=some .free)
structure eQ(X:Cx)(scope:Scope)(cl:List (Str×Addr))(own:List Str)(cap:List (Nat×Str)):Prop where
 FY:closureFor scope X.env=pure cl
 cell:∀y∈scope.names,y.2≠.cell
 kind:scope.kind=.function
 names:∀y∈scope.names,y.2=.local→scope.names.lookup y.1=some .local
 sub:∀x c,cl.lookup x=some c→X.env.cells.lookup x=some c
 has:∀p∈(relabel scope X.env).names,p.2=.cell∨p.2=.free→(cl.lookup p.1).isSome=true
 Nz:∀p∈cap,Key X scope cl p.1 p.2
abbrev IK(own:List Str)(cap:List (Nat×Str))(σ:St):St:=List.replicate own.length none++cap.map λp=>(σ[p.1]?).getD none
def lookup_mem{α:Type}:∀{l:List (Str×α)} {n:Str} {c:α},l.lookup n=some c→(n,c)∈l:=λh=>mem_of_lookup h
section
variable {x0: List (Addr×Obj)}{σ: St}{H: A7}{s: Shared}{E: Value→Shared→Prop}
def eQ.QT(c:eQ X scope cl own cap)(x:Str)(h:(relabel scope X.env).names.lookup x=some .cell∨(relabel scope X.env).names.lookup x=some .free):∃a,cl.lookup x=some a:=by
 have:(cl.lookup x).isSome=true:=by
  rcases h with h|h
  ·show c.has (x,.cell) (lookup_mem h) (.inl rfl)
  ·show c.has (x,.free) (lookup_mem h) (.inr rfl)
 show acz.mp this
def Me(c:eQ X scope cl own cap)(I:Inv X x0 σ H s)(hf:∀b∈fp,fK X x0 H b)(fI:∀b∈fp,b<s.heap.objs.size)(hC:s.heap.objs.size≤C):
  (CK X (own++cap.map (·.2)) scope cl C s H fp E).Ok where
 mod:=I.ok.mod
 kind:=c.kind
 glob:=I.ok.glob
 blt:=I.ok.blt
 above:=hC
 inj:=λx y a h1 h2=>I.ok.inj x y a (c.sub x a h1) (c.sub y a h2)
 has:=λx h=>c.QT x h
 Jt:=λx a h=>absurd h (by intro z;show Bool.noConfusion z)
 hd:=I.ok.hd
 frames:=I.ok.frames
 JP:=.inl rfl
 KA:=λb hb=>⟨λz=>by
   have:=fI b hb;rw[z]at this;show absurd (D6 this hC) (FH _),λx a h=>(hf b hb).2.2.2.2.1 x a (c.sub x a h)⟩
 bs:=I.bs
 CD:=DN I.ok.CD I.sz
 uC:=λb o e hb=>by
  rcases(hf b hb).2.2.2.1 with z|z
  ·show I.ok.uC b o e z
  ·show absurd (D6 (Aq (I.ok.bs b o e).1) z) (FH _)
 sI:=λb hb hs=>by
  rcases aah.mp (I.tZ b hs)with z|z
  ·show(hf b hb).2.1 z
  ·show(hf b hb).2.2.1 z
 jY:=I.stack
 FA:=I.pE
def aci{own:List Str}{cap:List (Nat×Str)}{σ:St}{v:V}(h1:(own++cap.map (·.2))[i]?=some x)(h2:(IK own cap σ)[i]?=some (some v)):∃p∈cap,p.2=x∧σ[p.1]?=some (some v):=by
 unfold IK at h2;by_cases hi:i<own.length
 ·rw[G3 (by simpa using hi),ft]at h2
  split at h2<;>cases h2
 ·rw[Fi (by simpa using hi)]at h2 h1
  rw[Iw,CZ]at h2;rw[CZ]at h1;cases e:cap[i-own.length]? with
  |none=>rw[e]at h2;cases h2
  |some p=>
   rw[e]at h1 h2;show⟨p,CQ e,EC h1,?_⟩;let h3:(σ[p.1]?).getD none=some v:=EC h2;cases q:σ[p.1]? with
   |none=>rw[q]at h3;cases h3
   |some z=>rw[q]at h3;show Ca some h3
def iQ(c:eQ X scope cl own cap)(I:Inv X x0 σ H s)(hf:∀b∈fp,fK X x0 H b)(fI:∀b∈fp,b<s.heap.objs.size){h₁:Heap}{tk:Nat}{m:ac}
  (hk:∀b o,s.heap.get? b=some o→h₁.get? b=some o) (hD:h₁.get? s.heap.objs.size=some {cls:=.type "list",data:=.seq ([]:List Value).toArray}) (hn:h₁.Ns (s.heap.objs.size+1) m) :
  Inv (CK X (own++cap.map (·.2)) scope cl (s.heap.objs.size+1) s H fp E) [] (IK own cap σ) (upd H s.heap.objs.size (.lst [])) {s with heap:=h₁,toks:=tk}:=by
 let IY:H s.heap.objs.size=none:=I.fresh;let Vj:H (s.heap.objs.size+1)=none:=I.bA.fresh (Hf _);let U8:bT X.prog X.w (upd H s.heap.objs.size (.lst [])) h₁ s.heap.objs.size (.lst []):=⟨CV _,[],0,.nil,hD⟩;show⟨Me c I hf fI (Hf _),rfl,I.bare,Un.laid hk (Ak _) IY,⟨m,hn,λi x v e1 e2 _=>?_⟩,λx a e=>?_,?_,λx a e=>?_,λp hp=>absurd (show p∈([]:ad)from hp) (by simp),I.bA.laid hk (Ak _) U8,?_⟩
 ·let⟨p,hp,ex,es⟩:=aci e1 e2
  let⟨q1,q2,q3,q4,q5⟩:=c.Nz p hp;rw[ex]at q1 q2 q3 q4 q5;let⟨m',Sh,hl⟩:=I.loc;let⟨u,r,l⟩:=hl p.1 x v q1 es q2;show⟨u,r,?_⟩;rcases l with l|⟨k,a,e,z⟩
  ·show absurd l.1 q3
  ·let⟨a',e'⟩:=c.QT x q5
   let ea:=c.sub x a' e';rw[e]at ea;cases ea;show .inr ⟨q5,a,e',z.keeps hk⟩
 ·let⟨v,z⟩:=I.cell x a (c.sub x a e)
  show⟨v,z.keeps hk⟩
 ·show upd H s.heap.objs.size (.lst []) (s.heap.objs.size+1)=none
  rw[AW (Nat.succ_ne_self _)];show Vj
 ·let⟨v,z⟩:=I.cell x a (c.sub x a e)
  show upd H s.heap.objs.size (.lst []) a=none
  rw[AW (Bp z.lt)];show I.ff x a (c.sub x a e)
 ·show(IK own cap σ).length=(own++cap.map (·.2)).length
  simp[IK]
def aY{σ':St}{Nc:List Str}{qA:ad}(I:Inv X x0 σ H s)(hf:∀b∈fp,fK X x0 H b)(hC:s.heap.objs.size≤C)(J:Inv (CK X Nc scope cl C s H fp E) qA σ' H' s2):
  Inv X x0 σ H' s2∧fK X x0 H' C:=by
 let os:s2.os=s.os:=J.os;let un:Un (Cn X.stack) fp H H' s.heap s2.heap:=J.base;show⟨I.KP os un J.bA J.bare λb hb=>⟨(hf b hb).2.2.2.1,(hf b hb).2.1,(hf b hb).2.2.2.2.1,(hf b hb).2.2.2.2.2⟩,I.yU hC J.free⟩
end
abbrev Nr(wi:F5)(g:EL)(tc:Cp)(te:Am)(own:List Str)(cap:List (Nat×Str)):Am:=λσ H Q=>wi σ H λJ H1=>∀D,H1 D=none→
 ∃W:Nat→Nat→St→List V→A7→Prop,(∃m,W 0 m (IK own cap σ) [] (upd H1 D (.lst [])))∧∀i m σ' ys H',W i m σ' ys H'→H' D=some (.lst ys)∧
  ((J.stop i H'∧Q (.ref D) H')∨(J.go i H'∧ys.length<sizeLine∧∃N:St→List V→A7→Prop,(∀σ ys H,N σ ys H→∃m',m' < m∧W (i+1) m' σ ys H)∧∀x H2,J.vt i H' x H2→g x σ' H2 λσ3 H3=>tc σ3 H3 λb H4=>if b=true then te σ3 H4 λy H5=>H5 D=some (.lst ys)∧N σ3 (ys++[y]) (upd H5 D (.lst (ys++[y])))
   else N σ3 ys H4))
section
variable {tg iter elt: Expr}{ifs: List Expr}{wi: F5}{g: EL}{tc: Cp}
def kZ{x0:ad}{σ:St}{it:Addr}{fp:List Addr}{tn:Nat→Heap→Prop}{J:It}{Q:Au}{RR:Value→Addr→Result→Shared→Prop}{E':xz}
  (c:eQ X scope cl own cap) (hc:X.calm=true)
  (hg:∀C s H fp,PG (CK X (own++cap.map (·.2)) scope cl C s H fp λ_ _=>False) tg g) (ht:∀C s H fp,tS (CK X (own++cap.map (·.2)) scope cl C s H fp λ_ _=>False) ifs tc)
  (he:∀C s H fp,PE (CK X (own++cap.map (·.2)) scope cl C s H fp λ_ _=>False) elt te)
  (I2:Inv X x0 σ H2 s2) (T:Turn X.prog X.w X.K tg J fp it tn) (jh:tn 0 s2.heap) (f2:∀b∈fp,fK X x0 H2 b)
  (hw:∀D,H2 D=none→∃W:Nat→Nat→St→List V→A7→Prop,(∃m,W 0 m (IK own cap σ) [] (upd H2 D (.lst [])))∧∀i m σ' ys H',W i m σ' ys H'→H' D=some (.lst ys)∧
   ((J.stop i H'∧Q (.ref D) H')∨(J.go i H'∧ys.length<sizeLine∧∃N:St→List V→A7→Prop,(∀σ ys H,N σ ys H→∃m',m' < m∧W (i+1) m' σ ys H)∧∀x H2,J.vt i H' x H2→g x σ' H2 λσ3 H3=>tc σ3 H3 λb H4=>if b=true then te σ3 H4 λy H5=>H5 D=some (.lst ys)∧N σ3 (ys++[y]) (upd H5 D (.lst (ys++[y])))
    else N σ3 ys H4)))
  (ZG:∀D C s' H' m,Inv X x0 σ H' s'→fK X x0 H' C→s'.heap.Ns C m→Q (.ref D) H'→RR (.ref D) C (.ok .next) s') :
  wpAny (model X.prog X.w) X.A (newList []) (λacc s₃=>wpAny (model X.prog X.w) X.A (newFunctionEnv scope X.env.globals cl [] X.env.qual none .none (some X.env)) (λzi s₄=>
   codeAny (model X.prog X.w) X.A (.compStart (.ListComp elt [⟨tg,iter,ifs,0⟩] scope pos) 0 (.ref it) acc {zi with scope:=relabel scope X.env}) (RR acc zi.locals) s₄) E' s₃) E' s2:=by
 show Ej (wpAny_newFunctionEnv c.cell (by intro y hy;simp at hy) (λh₁ yN yL=>?_) c.kind);dsimp only at yN yL ⊢;let hsz:(s2.heap.push {cls:=.type "list",dict:=none,data:=.seq ([]:List Value).toArray}).objs.size=s2.heap.objs.size+1:=Eg _ _;let kk:∀b o,s2.heap.get? b=some o→h₁.get? b=some o:=λb o e=>yL.extBut b o (by rw[hsz];show Bp (Ia (Aq e))) (Al _ (Al _ e));let hD:h₁.get? s2.heap.objs.size=some {cls:=.type "list",data:=.seq ([]:List Value).toArray}:=
  yL.extBut _ _ (by rw[hsz];show Bp (Rc _)) (Al _ (CM _ rfl))
 rw[hsz]at yN ⊢;let fI:∀b∈fp,b<s2.heap.objs.size:=λb hb=>by
  let⟨o,e,_⟩:=T.obj _ _ jh b hb;show Aq e
 let⟨W,⟨m0,w0⟩,turn⟩:=hw s2.heap.objs.size I2.fresh;let J1:=iQ (E:=λ_ _=>False) c I2 f2 fI (tk:=s2.toks+([]:List (Str×Value)).length) kk hD yN;generalize pN:CK X (own++cap.map (·.2)) scope cl (s2.heap.objs.size+1) s2 H2 fp (λ_ _=>False)=X' at J1;let Vh:PG X' tg g:=pN ▸ hg _ _ _ _;let QA:tS X' ifs tc:=pN ▸ ht _ _ _ _;let Zw:PE X' elt te:=pN ▸ he _ _ _ _;let pX:X'.prog=X.prog:=by rw[←pN];rfl
 let wX:X'.w=X.w:=by rw[←pN];rfl
 let kX:X'.K=X.K:=by rw[←pN];rfl
 let aX:X'.A=X.A:=by rw[←pN];rfl
 let cX:X'.calm=true:=by rw[←pN];show hc
 let nX:X'.env=compEnvC scope cl (s2.heap.objs.size+1) X.env:=by rw[←pN];rfl
 let xX:X'.xe=λ_ _=>False:=by rw[←pN];rfl
 let fX:∀b∈fp,∀{H':A7},H' b=none→fK X' [] H' b:=λb hb {H'} hn=>by
  let o1:=(Me (E:=λ_ _=>False) c I2 f2 fI (C:=s2.heap.objs.size+1) (Hf _)).KA b hb;let o2:=(Me (E:=λ_ _=>False) c I2 f2 fI (C:=s2.heap.objs.size+1) (Hf _)).sI b hb;rw[←pN];show⟨hn,o1.1,o2,.inl hb,o1.2,λp hp=>absurd (show p∈([]:ad)from hp) (by simp)⟩
 let fin:∀{σ':St} {H':A7} {s':Shared},Inv X' [] σ' H' s'→Q (.ref s2.heap.objs.size) H'→RR (.ref s2.heap.objs.size) (s2.heap.objs.size+1) (.ok .next) s':=λ{σ' H' s'} J' q=>by
  rw[←pN]at J';let⟨A1,A2⟩:=aY I2 f2 (Hf _) J';let⟨m,hm,_⟩:=J'.loc;show ZG _ _ s' H' m A1 A2 hm q
 let loop:codeAny (model X.prog X.w) X.A (.compLoop (.ListComp elt [⟨tg,iter,ifs,0⟩] scope pos) 0 (.ref it) (.ref s2.heap.objs.size) (compEnvC scope cl (s2.heap.objs.size+1) X.env)) (RR (.ref s2.heap.objs.size) (s2.heap.objs.size+1))
   {s2 with heap:=h₁,toks:=s2.toks+([]:List (Str×Value)).length}:=by
  show mj (λn s'=>∃i σ' ys H',Inv X' [] σ' H' s'∧tn i s'.heap∧(∀b∈fp,H' b=none)∧W i n σ' ys H') ?_ m0
   ⟨0,_,[],_,J1,T.keep _ _ _ jh λb _ o e=>kk b o e,λb hb=>by rw[AW (Bp (fI b hb))];show(f2 b hb).1,w0⟩
  intro n s3⟨i,σ3,ys,H3,I3,vi,Ky,w3⟩;let⟨ZK,w4⟩:=turn i n σ3 ys H3 w3;rw[←nX,←aX,←pX,←wX];let rQ:∀{α:Type} {t:Sem α} {Q1:α→Shared→Prop} {E1:xz} {s:Shared},wpAny (model X'.prog X'.w) X'.A t Q1 X'.xe s→wpAny (model X'.prog X'.w) X'.A t Q1 E1 s:=λ{α t Q1 E1 s} h=>by
   rw[xX]at h;show DC h (λ_ _ q=>q) λ_ _ f=>f.elim
  rcases w4 with⟨stop,qn⟩|⟨go,uH,N,hN,step⟩
  ·let d:=T.done X' pX wX kX cX i [] s3 σ3 H3 X'.xe I3 (λb hb=>fX b hb (Ky b hb)) vi stop
   rw[←pX,←wX]at d;show rQ (Ab d λr s4 ξ=>Ξ02 ξ λhr I4=>?_);subst hr;show fin I4 qn
  ·let d:=T.item X' pX wX kX cX i [] s3 σ3 H3 X'.xe I3 (λb hb=>fX b hb (Ky b hb)) vi go
   rw[←pX,←wX]at d;show rQ (Ab d λr s4 ξ=>Ξ12 ξ λu hr h4=>?_);subst hr;show rQ (Ab h4 λ_ s5 ξ=>Ξ25 ξ λx H5 I5 r5 y5 Bj Q8=>?_);let RB:=I5.pinned (λb hb=>fX b hb (Q8 b hb)) (T.obj _ _ Bj);let again:∀{σ7:St} {H7:A7} {s7:Shared} {K7:List V},Inv X' ([]++Ln fp s5.heap) σ7 H7 s7→N σ7 K7 H7→
     ∃m,m<n∧∃i σ' ys H',Inv X' [] σ' H' s7∧tn i s7.heap∧(∀b∈fp,H' b=none)∧W i m σ' ys H':=λ{σ7 H7 s7 K7} I7 n7=>by
    let⟨m',hm,w7⟩:=hN _ _ _ n7;show⟨m',hm,i+1,σ7,K7,H7,I7.jx,T.keep _ _ _ Bj λb hb o e=>(I7.pin (b,o) (FL _ (FL _ (Lv hb e)))).1,λb hb=>?_,w7⟩;let⟨o,e,d⟩:=T.obj _ _ Bj b hb;show(I7.pin (b,o) (FL _ (FL _ (Lv hb e)))).2.1
   show rQ (Ab (Vh _ s5 σ3 H5 x u _ RB r5 (step x H5 y5)) λ_ s6 ξ=>Ξ22 ξ λσ6 H6 I6 q6=>?_);show rQ (Ab (QA _ s6 σ6 H6 _ I6 q6) λb s7 ξ=>Ξ12 ξ λH7 I7 q7=>?_);cases b with
   |false=>
    rw[AH BN]at q7 ⊢;show again I7 q7
   |true=>
    rw[AI rfl]at q7 ⊢;show rQ (Ab (Zw _ s7 σ6 H7 _ I7 q7) λu8 s8 ξ=>Ξ24 ξ λy8 H8 I8 r8 d8 q8=>?_);show rQ (Ab (O3 _ s8 σ6 H8 (.ref s2.heap.objs.size) [y8] (.ref s2.heap.objs.size) [u8] (λ_ H9=>N σ6 (ys++[y8]) H9) I8 rfl (.cons r8 .nil) ⟨_,ys,y8,rfl,rfl,d8,uH,q8⟩) λ_ s9 ξ=>Ξ23 ξ λ_ H9 I9 _ q9=>?_);show again I9 q9
 show codeAny_compStart_list loop (T.self X.A 0 _ _ _ (T.keep _ _ _ jh λb _ o e=>kk b o e) loop)
def zr(c:eQ X scope cl own cap)(hc:X.calm=true)(hi:PI X tg iter wi)
  (hg:∀C s H fp,PG (CK X (own++cap.map (·.2)) scope cl C s H fp λ_ _=>False) tg g) (ht:∀C s H fp,tS (CK X (own++cap.map (·.2)) scope cl C s H fp λ_ _=>False) ifs tc)
  (he:∀C s H fp,PE (CK X (own++cap.map (·.2)) scope cl C s H fp λ_ _=>False) elt te) (hs:∀x,foldedSetIterable iter X.env x=pure x:=by intro _;rfl) :
  PE X (.ListComp elt [⟨tg,iter,ifs,0⟩] scope pos) (Nr wi g tc te own cap):=by
 show .mk ?_;intro x0 s σ H Q I h;rw[eval_ListComp];show bI (use:=none) rfl hs c.FY c.kind c.names (Ab (hi x0 s σ H _ I h) λv s1 h1=>Ab h1 λQs s2 h2=>?_);let⟨it,fp,tn,J,H2,e,I2,T,jh,f2,hw⟩:=h2;subst e;show kZ (Q:=Q) (RR:=λacc C=>compPost (model X.prog X.w) X.A X.xe none (CR X x0 σ Q) acc C) c hc hg ht he I2 T jh f2 hw ?_;intro D C s' H' m I' hC hm q;show⟨m,hm,λh' QD=>Ψ2 (.ref D) H' ⟨?_,rfl,q⟩⟩;show I'.turned (t':=s'.toks) (λb o hb e=>(QD.2 b hb).trans e) hC.1 hC.2.1 hC.2.2.2.1 hC.2.2.2.2.1 hC.2.2.2.2.2
abbrev ad4(i:Nat)(t:Am):Bx:=λD σ H=>t σ H λx H1=>D.nx (σ.set i (some x)) H1
def aag{y:Str}{py DD:Pos}(c:eQ X scope cl own cap)(hc:X.calm=true)(hi:PI X tg iter wi)
  (hg:∀C s H fp,PG (CK X (own++cap.map (·.2)) scope cl C s H fp λ_ _=>False) tg g) (ht:∀C s H fp,tS (CK X (own++cap.map (·.2)) scope cl C s H fp λ_ _=>False) ifs tc)
  (he:∀C s H fp,PE (CK X (own++cap.map (·.2)) scope cl C s H fp λ_ _=>False) elt te)
  (hN:X.N.Nodup) (hy:X.N[i]?=some y) (hl:X.env.scope.names.lookup y=some .local)
  (UT:swapsWith (.ListComp elt [⟨tg,iter,ifs,0⟩] scope pos) (some (.Name y py)) DD.line X.env=pure true:=by rfl) (hs:∀x,foldedSetIterable iter X.env x=pure x:=by intro _;rfl) :
  PS X (.Assign [.Name y py] (.ListComp elt [⟨tg,iter,ifs,0⟩] scope pos) DD) (ad4 i (Nr wi g tc te own cap)):=by
 show .mk ?_;intro x0 s σ H D I h;rw[exec_Assign_Name_used _ _ _ _ UT];show A5 (P9 (A5 ?_));show wpAny _ X.A (do let _ ←comprehension (.ListComp elt [⟨tg,iter,ifs,0⟩] scope pos) scope X.env _ (newList []) false (eval iter X.env) (some (assign (.Name y py) X.env))) _ _ s
 show A5 (DC (bI (use:=some (assign (.Name y py) X.env)) (Q:=λ_ s'=>SP X x0 D .next s') rfl hs c.FY c.kind c.names (Ab (hi x0 s σ H _ I h) λv s1 h1=>Ab h1 λQs s2 h2=>?_)) (λ_ s' hq=>AG (AG hq)) λ_ _ e=>e);let⟨it,fp,tn,J,H2,e,I2,T,jh,f2,hw⟩:=h2;subst e;show kZ (Q:=λx H1=>D.nx (σ.set i (some x)) H1) (RR:=λacc C=>compPost (model X.prog X.w) X.A X.xe (some (assign (.Name y py) X.env)) (λ_ s'=>SP X x0 D .next s') acc C) c hc hg ht he I2 T jh f2 hw ?_;intro D' C s' H' m I' hC hm q;show wpAny _ X.A (assign (.Name y py) X.env (.ref D')) _ _ _
 show wpAny_assign_Name (iI (v:=.ref D') I' hN hy (.inl hl) rfl (λm8 I'' ch=>?_) (.inr hl));let⟨a,sb,ha⟩:=ch;let ZM:C≠a:=by
  rcases ha with ha|ha
  ·rw[ha];show hC.2.1
  ·exactλz=>hC.2.2.2.2.1 _ _ ha z.symm
 show⟨m,hm.sameBut sb ZM,λh' QD=>Ψ2 _ H' ⟨?_,q⟩⟩;show I''.turned (t':=m8.toks) (λb o hb e=>(QD.2 b hb).trans e) hC.1 hC.2.1 hC.2.2.2.1 hC.2.2.2.2.1 hC.2.2.2.2.2
end
section
def aaP:Bs X (binaryOp .Mult) (Ir (λi j=>i.natAbs<2^200∧j.natAbs<2^200) λi j=>.int (i*j)):=
 Kx λi j _ _ _ _ _ hc q=>mul_int q (.of_bits (DN (intBits_le hc.1) (by decide)) (DN (intBits_le hc.2) (by decide)))
def ac7(hc:X.calm=true):Eb X (.builtin "sum") (λxs H Q=>∃(p:Addr) (ns:List Int),xs=[.ref p]∧eB X.K H p (ns.map V.int)∧Q (.int ns.sum) H):=by
 intro x0 s σ H xs us Q I r h;let⟨p,ns,rfl,hq,q⟩:=h;let⟨u,rfl,ru⟩:=vals1 r;cases ru;let⟨its,rv,pl,hz⟩:=I.list hq;let hi:=intsAre_of rv;let Fw:AllInts its.toArray:=hi.allInts;let⟨zs,NW⟩:=Fw.items;let hn:numsOf its=ns:=hi.numsOf;let hl:s.heap.IsList p (intItems zs):=by rw[←NW];show pl.isList
 show sum_intListG (I.ok.hd hc) hl λh' tk t' k=>Ψ2 (.int ns.sum) H ⟨I.kept k,⟨t',?_⟩,q⟩;let e:numsOf (intItems zs).toList=ns:=by rw[←NW];show hn
 rw[nums_intItems]at e;rw[preSum_eq,ID (by simp),e]
end
section
variable {prog: Program}{w: World}{A: Around}{R: Result→Shared→Prop}{I: Addr}{wr: List Addr}{n: Nat}{P: Nat→Value→Prop}{St: Nat→Heap→Prop}
def zT{kw:List (Str×Value)}(W:Walks prog w A.in1 I fp wr n P St)(bt:Nat→Nat→Bool)(Vo:CmpOf prog w A.in1 .Gt P bt)(S:Addr)(N3:S∉fp):
  ∀(k j:Nat) (s:Shared) (vb:Value) (c:Nat),n-(j+1)=k→j+1≤n→St (j+1) s.heap→P (argBest bt j) vb→
  s.heap.get? S=some {cls:=.type "list",dict:=none,data:=.seq #[vb,vb] c,slots:=#[]}→
  (∀v h' tk,P (argBest bt (n-1)) v→(∀b o,b∉wr→b≠S→s.heap.get? b=some o→h'.get? b=some o)→R (.ok (.ret v)) {s with heap:=h',toks:=tk})→
  codeAny (model prog w) A (.builtin "max.loop" ⟨[.ref I,.none,.ref S],kw⟩) R s:=by
 let Sl:S∉wr:=λh=>N3 (W.sub _ h);let nm:(toString "max" ++ toString ".loop" : String) = "max.loop" := by decide
 intro k;induction k with
 |zero=>
  intro j s vb c hk hj lM Sn hS hR;let vm:j+1=n:=by lia
  show Ib cK ?_;rw[Ij K3 _];show wpAny _ A.in1 (seqItems? (.ref S) >>= _) _ _ s
  show A5 (EA hS rfl ?_);show wpAny _ A.in1 (tryCatch (pyNext (.ref I)) _ >>= _) _ _ s
  show A5 (O6 (W.done s _ _ (vm ▸ lM) λh' tk Fq=>?_));let AA:=Fq S _ Sl hS;show wpAny _ A.in1 (updateSeq S (λ_=>#[]) >>= _) _ _ _
  show A5 (JF AA rfl (A5 (Fc (AG ?_))));show hR vb _ tk (by rw[←vm];show Sn) λb o Nf Ja e=>(FJ _ _ (Du Ja)).trans (Fq b o Nf e)
 |succ k ih=>
  intro j s vb c hk hj lM Sn hS hR;let fI:j+1<n:=by lia
  show Ib cK ?_;rw[Ij K3 _];show wpAny _ A.in1 (seqItems? (.ref S) >>= _) _ _ s
  show A5 (EA hS rfl ?_);show wpAny _ A.in1 (tryCatch (pyNext (.ref I)) _ >>= _) _ _ s
  show A5 (O6 (W.item (j+1) s _ _ fI lM λv h' tk hP IU Fq=>?_));let AA:=Fq S _ Sl hS;show wpAny _ A.in1 (tryCatch (holding [v,v] (richCompare .Gt v vb >>= _)) _ >>= _) _ _ _
  show A5 (O6 (Dx (A5 (Vo (j+1) (argBest bt j) v vb _ _ _ hP Sn ?_))));show A5 (Dx (II ?_));show A5 (Fc (AG ?_));by_cases hb:bt (j+1) (argBest bt j)=true
  ·rw[hb]
   simp only[Gi];show A5 (JF AA rfl (A5 (Fc ?_)));rw[nm];show AG ⟨HB K3 _,ih (j+1) _ v _ (by lia) fI (W.frame _ _ _ IU λb Vr o e=>?_) (by rw[argBest,AI hb];show hP) (J4 _ AA rfl) λv' h2 Oo Fx QN=>?_⟩
   ·show(FJ _ _ (λh:S=b=>N3 (by rw[h];show Vr))).trans e
   ·show hR v' h2 Oo Fx λb o Nf Ja e=>QN b o Nf Ja ((FJ _ _ (Du Ja)).trans (Fq b o Nf e))
  ·let hb':bt (j+1) (argBest bt j)=false:=by simpa using hb
   rw[hb'];simp only[Py,HV];show A5 (Fc ?_);rw[nm];show AG ⟨HB K3 _,ih (j+1) _ vb c (by lia) fI IU (by rw[argBest,AH hb];show Sn) AA λv' h2 Oo Fx QN=>?_⟩;show hR v' h2 Oo Fx λb o Nf Ja e=>QN b o Nf Ja (Fq b o Nf e)
def vJ(a d:Value):argsOk "max" ⟨[a],[(Str.ofString "default",d)]⟩:=by unfold argsOk;kernel_rfl
def adW{E:xz}{l:Addr}{xs:Array (Int×Tok)}{d:Value}{Q:xz}(hh:A.handled=none)(hl:s.heap.IsList l (intItems xs))(M5:0<xs.size)
  (h:∀v h' tk,(intItems xs)[argBest (λi j=>decide (numAt xs i>numAt xs j)) (xs.size-1)]?=some v→(∀b o,s.heap.get? b=some o→h'.get? b=some o)→Q v {s with heap:=h',toks:=tk}) :
  wpAny (model prog w) A (call (.builtin "max") [.ref l] [(Str.ofString "default",d)]) Q E s:=by
 let nm:(toString "max" ++ toString ".loop" : String) = "max.loop" := by decide
 show PyProof.Rows.kmk_tree PySem.F.kind_max PySem.F.plain_max PySem.F.entry_max (vJ _ _) ?_;show wpAny _ A.in1 (Builtin.Builtins.bindParams "max" ["key","default"] 0 ⟨[],[(Str.ofString "default",d)]⟩ >>= _) _ _ s
 show A5 (EP (show Builtin.Builtins.bindParams "max" ["key","default"] 0 ⟨[],[(Str.ofString "default",d)]⟩=pure [none,some d]from rfl) ?_);show A5 (AG ?_);show A5 (iter_intList hl λs₂ e st Zq Zj=>?_);subst e;show A5 (Ej ?_);rw[nm];let W:=Walks.list (prog:=prog) (w:=w) (A:=A.in1) hh s.heap.objs.size l Zj (intItems xs);let N3:(s.heap.push {cls:=.type "list_iterator",data:=.fields #[.ref l,.int 0 0]}).objs.size∉[s.heap.objs.size,l]:=λhm=>FH _ (Zq _ hm);let hn:0<(intItems xs).size:=by simpa[intItems]using M5
 show AG ⟨HB K3 _,Ib cK ?_⟩;rw[Ij K3 _];show wpAny _ A.in1 (seqItems? (.ref _) >>= _) _ _ _
 show A5 (EA (CM _ rfl) rfl ?_);show wpAny _ A.in1 (tryCatch (pyNext (.ref s.heap.objs.size)) _ >>= _) _ _ _
 show A5 (O6 (W.item 0 _ _ _ hn (W.frame _ _ _ st λb _ o e=>Al _ e) λv h' tk hP IU Fq=>?_));let Sl:(s.heap.push {cls:=.type "list_iterator",data:=.fields #[.ref l,.int 0 0]}).objs.size∉[s.heap.objs.size]:=λz=>N3 (aah.mpr (.inl (aat.mp z)));let AA:=Fq _ _ Sl (CM _ rfl);show wpAny _ A.in1 (updateSeq _ (λ_=>#[v,v]) >>= _) _ _ _
 show A5 (JF AA rfl ?_);rw[nm];show AG ⟨HB K3 _,zT W (λi j=>decide (numAt xs i>numAt xs j)) (CmpOf.ints_gt (numAt xs) (λ_ _=>intItems_at)) _ N3 _ 0 _ v _ rfl hn (W.frame _ _ _ IU λb Vr o e=>?_) hP (J4 _ AA rfl) λv' h2 Oo Fx QN=>?_⟩
 ·show(FJ _ _ (λh:_=b=>N3 (by rw[h];show Vr))).trans e
 ·show h v' h2 Oo (by simpa[intItems]using Fx) λb o e=>?_
  let hb:=Aq e;let Xc:b≠s.heap.objs.size:=Bp hb;let Ja:b≠(s.heap.push {cls:=.type "list_iterator",data:=.fields #[.ref l,.int 0 0]}).objs.size:=by rw[Eg];show Bp (Ia hb)
  show QN b o (by simpa using Xc) Ja ((FJ _ _ (Du Ja)).trans (Fq b o (by simpa using Xc) (Al _ (Al _ e))))
end
abbrev EX:List Int→Int
 |[]=>0
 |[x]=>x
 |x::y::r=>max x (EX (y::r))
def mG:∀{ns:List Int},ns≠[]→EX ns∈ns
 |[x],_=>by simp[EX]
 |x::y::r,_=>by
  let ih:=mG (ns:=y::r) (by simp);rw[EX];by_cases h:x≤EX (y::r)
  ·rw[Int.max_eq_right h];show ET _ ih
  ·rw[Int.max_eq_left (by lia)];show Gd
def qN:∀{ns:List Int} {a:Int},a∈ns→a≤EX ns
 |[x],a,h=>by simp at h;subst h;simp[EX]
 |x::y::r,a,h=>by
  rw[EX];rcases aah.mp h with rfl|h
  ·show Int.le_max_left _ _
  ·show Int.le_trans (qN h) (Int.le_max_right _ _)
def abg{ns:List Int}{M:Int}(h1:M∈ns)(h2:∀a∈ns,a≤M):M=EX ns:=
 Int.le_antisymm (qN h1) (h2 _ (mG (by intro z;rw[z]at h1;cases h1)))
section
variable {v: Expr}{sD: Pos}
def adH{ta:CW}{tk:CW}(hc:X.calm=true)(hg:Bi X "max")(hm:X.mg "max" = none)(ha:PA X [e] ta)(hv:PK X [⟨some "default",v,sD⟩] tk)
  (he:backTo pos (starEach [e] X.env)=(false,eval e X.env)::backTo pos (starEach [] X.env):=by rfl) (gc:(backTo pos (starEach [e] X.env)).any (·.1)=false:=by rfl) :
  PE X (.Call (.Name "max" p) [e] [⟨some "default",v,sD⟩] pos) (λσ H Q=>ta σ H λxs H1=>tk σ H1 λys H2=>∃(d:V) (a:Addr) (ns:List Int),ys=[d]∧xs=[.ref a]∧eB X.K H2 a (ns.map V.int)∧ns≠[]∧Q (.int (EX ns)) H2):=by
 show .mk ?_;intro x0 s σ H Q I h;show JO (GJ I hg hm boot_max ?_ (by decide) (by decide));show callWith_kw (e:=e) (rest:=[]) ?_ he gc rfl rfl;show Ab (ha pos x0 s σ H _ I h) λus s1 ξ=>Ξ23 ξ λvs H1 I1 r1 q1=>?_;show Ab (hv pos x0 s1 σ H1 _ I1 q1) λws s2 ξ=>Ξ23 ξ λzs H2 I2 r2 q2=>?_;let⟨d,a,ns,rfl,rfl,hq,M5,q⟩:=q2;let⟨u,rfl,ru⟩:=vals1 r1;cases ru;let⟨its,rv,pl,hz⟩:=I2.list hq;let hi:=intsAre_of rv;let⟨xs,sE⟩:=hi.allInts.items;let hn:numsOf its=ns:=hi.numsOf;let hl:s2.heap.IsList a (intItems xs):=by rw[←sE];show pl.isList
 let hlen:0<xs.size:=by
  let e1:=rv.length;let e2:its.length=xs.size:=by have:=Ca Array.size sE;simpa[intItems]using this
  let e3:ns.length≠0:=λz=>M5 (LY z);simp at e1;lia
 let fin:∀d:Value,wpAny (model X.prog X.w) X.A (call (.builtin "max") [.ref a] [(Str.ofString "default",d)]) (CR X x0 σ Q) X.xe s2:=λd=>by
  show adW (I2.ok.hd hc) hl hlen λv h' tk hv hk=>?_;let⟨t,rfl⟩:=intItems_at hv;let⟨h1,h2⟩:=argBest_gt (numAt xs) (xs.size-1);let e:numsOf (intItems xs).toList=ns:=by rw[←sE];show hn
  rw[nums_intItems]at e;let pZ:numAt xs (argBest (λi j=>decide (numAt xs i>numAt xs j)) (xs.size-1))∈ns:=by
   rw[←e,numAt_eq];show getD_mem (by rw[Ac,ED];lia)
  let iu:∀b∈ns,b≤numAt xs (argBest (λi j=>decide (numAt xs i>numAt xs j)) (xs.size-1)):=λb hb=>by
   rw[←e]at hb;let⟨j,hj,rfl⟩:=mem_getD hb;rw[Ac,ED]at hj;rw[←numAt_eq];show h2 j (by lia)
  show Ψ2 (.int (EX ns)) H2 ⟨I2.kept hk,⟨t,by rw[abg pZ iu]⟩,q⟩
 cases r2 with
 |cons r3 r4=>cases r4;show fin _
end
section
def rd(hu:X.A.units<cLine):Bs X (compareOp .NotEq) (λx y H Q=>∃a b xs,x=.ref a∧y=.ref b∧eB X.K H a xs∧eB X.K H b []∧Q (.bl (!xs.isEmpty)) H):=by
 intro x0 s σ H x y v u Q I rx ry h;let⟨a,b,xs,rfl,rfl,ha,hb,q⟩:=h;cases rx;cases ry;let⟨its,rv,pl,hz⟩:=I.list ha;let⟨fZ,vj,oG,NX⟩:=I.list hb;cases vj;cases xs with
 |nil=>
  cases rv;show SeqAt.RcNeAt.lists (e:=λ_=>true) pl.isList oG.isList rfl hu (λj h1 _=>absurd h1 (by simp)) _ _ _ _ ⟨.bl false,H,I,rfl,q⟩
 |cons x r=>
  cases rv with
  |cons r1 r2=>show SeqAt.RcNeAt.lists_lengths pl.isList oG.isList (by simp) hu _ _ _ _ ⟨.bl true,H,I,rfl,q⟩
end
abbrev BB{α:Type}(xs:List α)(lo hi:Option Int):List α:=(xs.drop (HT.cE xs.length 0 lo)).take (HT.cE xs.length xs.length hi-HT.cE xs.length 0 lo)
def MQ{α:Type}(xs:List α)(lo hi:Option Int):(BB xs lo hi).length≤xs.length:=by
 unfold BB;rw[Er,F4];lia
def Qa(v:Int)(n d:Nat):max (0:Int) (min (if v<0 then v+(n:Int)else v) (n:Int))=((HT.cE n d (some v):Nat):Int):=by
 show _=(((if v<0 then(v+(n:Int)).toNat else min v.toNat n):Nat):Int)
 by_cases hv:v<0
 ·rw[AI hv,AI hv];lia
 ·rw[AH hv,AH hv];lia
def nU(lo hi:Option Int)(n:Nat):Builtin.Str.strSliceIndices lo hi 1 n=Builtin.Str.strSliceIndices (some ((HT.cE n 0 lo:Nat):Int)) (some ((HT.cE n n hi:Nat):Int)) 1 n:=by
 let a1:=HT.uh n 0 (CV _) lo;let a2:=HT.uh n n (Ak _) hi;let n1:¬(((HT.cE n 0 lo:Nat):Int)<0):=by lia
 let n2:¬(((HT.cE n n hi:Nat):Int)<0):=by lia
 let e1:max (0:Int) (min ((HT.cE n 0 lo:Nat):Int) (n:Int))=((HT.cE n 0 lo:Nat):Int):=by lia
 let e2:max (0:Int) (min ((HT.cE n n hi:Nat):Int) (n:Int))=((HT.cE n n hi:Nat):Int):=by lia
 let p1:((1:Int)>0)=True:=by simp
 simp only[Builtin.Str.strSliceIndices,n1,n2,HV,e1,e2,p1,Gi];cases lo with
 |none=>
  cases hi with
  |none=>rfl
  |some v=>simp only[Qa v n n];rfl
 |some u=>
  cases hi with
  |none=>simp only[Qa u n 0];rfl
  |some v=>simp only[Qa u n 0,Qa v n n]
def yI{a b:Nat}(h:b≤a):Builtin.Str.strSliceIndices (some (a:Int)) (some (b:Int)) 1 n=[]:=by
 let n1:¬((a:Int)<0):=by lia
 let n2:¬((b:Int)<0):=by lia
 let p1:((1:Int)>0)=True:=by simp
 let p2:¬(max (0:Int) (min (a:Int) (n:Int))<max (0:Int) (min (b:Int) (n:Int))):=by lia
 simp only[Builtin.Str.strSliceIndices,PySem.sliceRange,n1,n2,HV,p1,Gi,p2];rfl
def yF(x:Str)(lo hi:Option Int):(StrLaws.sliceText x lo hi).cps.toList=BB x.cps.toList lo hi:=by
 let hn:x.cps.toList.length=x.length:=by simp[Str.length]
 unfold BB;rw[hn];let a2:=HT.uh x.length x.length (Ak _) hi;by_cases h:HT.cE x.length 0 lo≤HT.cE x.length x.length hi
 ·let q:=StrLaws.sliceText_nat x h a2
  let e:StrLaws.sliceText x lo hi=StrLaws.sliceText x (some ((HT.cE x.length 0 lo:Nat):Int)) (some ((HT.cE x.length x.length hi:Nat):Int)):=by
   unfold StrLaws.sliceText;rw[nU lo hi x.length]
  rw[e,q]
 ·let z:HT.cE x.length x.length hi-HT.cE x.length 0 lo=0:=by lia
  rw[z,bX];unfold StrLaws.sliceText;rw[nU lo hi x.length,yI (by lia)];split
  ·rename_i c
   let c':(0:Nat)=x.length:=by simpa using c
   show LY (by rw[hn];show c'.symm)
  ·rfl
abbrev vp:V→Option Int→Option Int→A7→Au→Prop:=λx lo hi H Q=>∃z:Str,x=.str z∧z.length≤sizeLine∧∀y:Str,y.cps.toList=BB z.cps.toList lo hi→Q (.str y) H
def aeq{X:Cx}:JY X vp:=by
 intro x0 s σ H x v vl vu lo hi sl Q I rx hs pl pu h;let⟨z,rfl,hz,q⟩:=h;let⟨t,rfl⟩:=rx;show Ψ2 ("str") _ ⟨F.slot_str_getitem.lookup,typeIs_str _ z t,?_⟩;let fin:∀(l u:Option (Int×Tok)),l.map (·.1)=lo→u.map (·.1)=hi→s.heap.IsSlice sl l u none→wpAny (model X.prog X.w) X.A (getItem (.str z t) (.ref sl)) (CR X x0 σ Q) X.xe s:=λl u el eu hq=>by
  show wpAny_getItem_str_slice hq rfl ?_;let hc:=yF z lo hi;unfold StrLaws.sliceText at hc;unfold sliceMade slicePicked;rw[el,eu];show(if((1:Int)==1&&(Builtin.Str.strSliceIndices lo hi 1 z.length).length==z.length)=true then Made.val (.str z t)else .str ⟨((Builtin.Str.strSliceIndices lo hi 1 z.length).filterMap (z.cps[·]?)).toArray⟩).post (CR X x0 σ Q) s
  split
  ·rename_i c
   rw[AI c]at hc;show Ψ2 (.str z) H ⟨I,⟨t,rfl⟩,q z hc⟩
  ·rename_i c
   rw[AH c]at hc;let hl:(Str.mk ((Builtin.Str.strSliceIndices lo hi 1 z.length).filterMap (z.cps[·]?)).toArray).length≤z.length:=by
    let e:=MQ z.cps.toList lo hi;rw[←hc]at e;simpa[Str.length]using e
   show⟨DN hl hz,.str ⟨((Builtin.Str.strSliceIndices lo hi 1 z.length).filterMap (z.cps[·]?)).toArray⟩,H,I.tok _,⟨_,rfl⟩,q _ hc⟩
 cases pl with
 |none=>
  cases pu with
  |none=>show fin none none rfl rfl hs
  |int j t'=>show fin none (some (j,t')) rfl rfl hs
 |int i Wh=>
  cases pu with
  |none=>show fin (some (i,Wh)) none rfl rfl hs
  |int j t'=>show fin (some (i,Wh)) (some (j,t')) rfl rfl hs
section
variable {x: Expr}{p2: Pos}{T: Str}{Ty: String}
abbrev aar(K:W.Frag)(Ty:String)(te:Am):Am:=λσ H Q=>te σ H λv H1=>∃v',[v,V.ty Ty]=[v',V.ty Ty]∧∃t b,F9 K H1 v' t∧W.kitOne K t (.type Ty)=some b∧Q (.bl b) H1
def wK(hg:Bi X "isinstance")(hm:X.mg "isinstance" = none)(Vg:Bi X T)(Va:X.mg T=none)(UQ:bootBuiltins T=some (.type Ty))(he:PE X x te)(hn:T ≠ "__name__" := by decide)(xF:(T ==("__debug__" : Str))=false:=by decide)
  (hs:starEach [x,.Name T p2] X.env=(false,eval x X.env)::starEach [.Name T p2] X.env:=by rfl) (BS:starEach [.Name T p2] X.env=[(false,eval (.Name T p2) X.env)]:=by rfl)
  (gc:(backTo pos (starEach [.Name T p2] X.env)).any (·.1)=false:=by rfl) :
  PE X (.Call (.Name "isinstance" p) [x,.Name T p2] [] pos) (aar X.K Ty te):=by
 let c:Eb X (.builtin "isinstance") (λxs H Q=>∃v,xs=[v,.ty Ty]∧∃t b,F9 X.K H v t∧W.kitOne X.K t (.type Ty)=some b∧Q (.bl b) H):=by
  intro x0 s σ H xs us Q I r h;let⟨v,rfl,⟨t,b,ty,e,q⟩⟩:=h;let⟨u,w',rfl,ru,qp⟩:=vals2 r;cases(show w'=Value.type Ty from qp);show vO I ru ty e λtk=>Ψ2 (.bl b) H ⟨I.tok tk,rfl,q⟩
 let pa:PA X [x,.Name T p2] (Ny te (Ny (J8 (.ty Ty)) OO)):=BD he (BD (oR Vg Va UQ rfl hn xF) Co BS) hs;show az (p:=p) (pos:=pos) c hg hm O0 pa (by decide) (by decide) hs gc
end
abbrev Callee(P:Program)(w:World)(K:W.Frag)(mg:ac)(base:Heap)(x:Str)(k:Nat)(ps:List Str)(sp:Dn):Prop:=
 ∃f fd,bB P w K mg base BJ k f fd ps sp∧mg x=some (.ref f)∧W.keepIn K (.ref f)=true∧Binds K fd ps []
def Callee.mono{K:W.Frag}{j:Nat}(c:Callee P w K mg base x j ps sp)(h:j≤k):Callee P w K mg base x k ps sp:=by
 let⟨f,fd,F,m,kp,b⟩:=c;show Ψ2 f fd ⟨F.mono h,m,kp,b⟩
def Callee.imp{K:W.Frag}{Ph:Dn}(c:Callee P w K mg base x k ps sp)(h:∀vs H Q E,Ph vs H Q E→sp vs H Q E):Callee P w K mg base x k ps Ph:=by
 let⟨f,fd,F,m,kp,b⟩:=c;show Ψ2 f fd ⟨F.imp h,m,kp,b⟩
section
variable {x: Str}{k j: Nat}{ps: List Str}{sp: Dn}{es: List Expr}{t: CW}
def GY(c:Callee X.prog X.w X.K X.mg X.base x k ps sp)(hr:dw j X.A)(hk:k≤j)(hg:Bi X x)(ha:PA X (e::es) t)(sG:(x ==("__debug__" : Str))=false:=by decide)
  (he:starEach (e::es) X.env=(false,eval e X.env)::starEach es X.env:=by rfl) (gc:(backTo pos (starEach es X.env)).any (·.1)=false:=by rfl):PE X (.Call (.Name x p) (e::es) [] pos) (qk sp [] Jv t):=by
 let⟨f,fd,F,m,kp,b⟩:=c;show acd F (hr.mono hk) hg m kp b .nil xg ha sG he gc
end
section
def zM{p:Str×NameKind}(h:p∈(relabel scope env).names):∃q∈scope.names,q.1=p.1∧(p.2=q.2∨(q.2=.free∧p.2=.cell)):=by
 let⟨q,hq,e⟩:=aau.mp (show p∈scope.names.map _ from h);show⟨q,hq,?_⟩;obtain⟨n,k⟩:=q;dsimp only at e;split at e
 ·rename_i c
  subst e;show⟨rfl,.inr ⟨?_,rfl⟩⟩;simp only[FI,adf]at c;show c.1.1
 ·subst e
  show⟨rfl,.inl rfl⟩
def z0(hk:scope.kind=.function)(hn:∀y∈scope.names,y.2≠.free∧y.2≠.cell)(hl:∀y∈scope.names,y.2=.local→scope.names.lookup y.1=some .local):eQ X scope [] own [] where
 FY:=closureFor_none λy hy=>(hn y hy).1
 cell:=λy hy=>(hn y hy).2
 kind:=hk
 names:=hl
 sub:=λx c h=>nomatch h
 has:=λp hp h=>by
  let⟨q,hq,e1,e2⟩:=zM hp;let n:=hn q hq;rcases e2 with e2|⟨e2,_⟩
  ·rw[e2]at h
   rcases h with h|h
   ·show absurd h n.2
   ·show absurd h n.1
  ·show absurd e2 n.1
 Nz:=λp hp=>nomatch hp
abbrev xA(cells:List (Str×Addr)):List (Str×Addr)→Prop
 |[]=>True
 |p::r=>cells.lookup p.1=some p.2∧xA cells r
def xA.mem{cells:List (Str×Addr)}:∀{cl:List (Str×Addr)},xA cells cl→∀p∈cl,cells.lookup p.1=some p.2
 |[],_,p,h=>nomatch h
 |q::r,h,p,hp=>by
  rcases aah.mp hp with rfl|hp
  ·show h.1
  ·show xA.mem h.2 p hp
abbrev rP(X:Cx)(scope:Scope):List (Nat×Str)→Prop
 |[]=>True
 |p::r=>(X.N[p.1]?=some p.2∧X.env.kindOf p.2=some .cell∧(relabel scope X.env).names.lookup p.2=some .cell)∧rP X scope r
def rP.mem:∀{cap:List (Nat×Str)},rP X scope cap→∀p∈cap,X.N[p.1]?=some p.2∧X.env.kindOf p.2=some .cell∧(relabel scope X.env).names.lookup p.2=some .cell
 |[],_,p,h=>nomatch h
 |q::r,h,p,hp=>by
  rcases aah.mp hp with rfl|hp
  ·show h.1
  ·show rP.mem h.2 p hp
def En{cl:List (Str×Addr)}{cap:List (Nat×Str)}(hk:scope.kind=.function:=by rfl)(hn:∀y∈scope.names,y.2≠.cell:=by decide +kernel)(hl:∀y∈scope.names,y.2=.local→scope.names.lookup y.1=some .local:=by decide +kernel)
  (hc:closureFor scope X.env=pure cl:=by rfl)(ha:xA X.env.cells cl:=by repeat constructor)(hh:((relabel scope X.env).names.all λp=>!(p.2 == .cell||p.2 == .free)||(cl.lookup p.1).isSome)=true:=by rfl)(Vp:rP X scope cap:=by repeat constructor):eQ X scope cl own cap where
 FY:=hc
 cell:=hn
 kind:=hk
 names:=hl
 sub:=λx c h=>ha.mem _ (mem_of_lookup h)
 has:=λp hp h=>by
  let q:=aaE.mp hh p hp;rcases h with h|h<;>· rw[h]at q;simpa using q
 Nz:=λp hp=>by
  let⟨h1,h2,h3⟩:=Vp.mem p hp;show⟨h1,.inr (.inl h2),by rw[h2];decide,by rw[h3];decide,.inl h3⟩
end
abbrev aew(t:Bx):Bx:=λD σ H=>∃P:St→A7→Prop,t {D with nx:=P} σ H∧∀σ H,P σ H→D.nx σ H
def j8{X:Cx}{t:Bx}(h:PS X st t):PS X st (aew t):=by
 show .mk ?_;intro x0 s σ H D I q;let⟨P,q1,q2⟩:=q;show Ab (h x0 s σ H _ I q1) λf s' z=>?_;cases f with
 |next=>let⟨σ',H',I',p⟩:=z;show Ψ2 σ' H' ⟨I',q2 _ _ p⟩
 |brk=>show z
 |cont=>show z
 |ret u=>show z
def WX:bootBuiltins "bool" = some (.type "bool"):=by decide +kernel
def Jn:bootBuiltins "int" = some (.type "int"):=by decide +kernel
def lS:bootBuiltins "str" = some (.type "str"):=by decide +kernel
def DK:bootBuiltins "tuple" = some (.type "tuple"):=by decide +kernel
def bj:bootBuiltins "list" = some (.type "list"):=by decide +kernel
abbrev Kp(l:List Addr)(H H':A7):Prop:=∀b o,b∉l→H b=some o→H' b=some o
def Kp.refl(H:A7):Kp l H H:=λ_ _ _ h=>h
def Kp.trans(a:Kp l H H1)(b:Kp l H1 H2):Kp l H H2:=λc o n h=>b c o n (a c o n h)
def Kp.mono{l':List Addr}(a:Kp l H H1)(s:∀b∈l,b∈l'):Kp l' H H1:=λc o n h=>a c o (λz=>n (s c z)) h
def Kp.new{p:Addr}(h:H p=none)(o:HO):Kp l H (upd H p o):=λb u _ q=>by rw[AW (Ba q h)];show q
def Kp.set{p:Addr}(h:p∈l)(o:HO):Kp l H (upd H p o):=λb u n q=>by
 let e:b≠p:=λz=>n (by rw[z];show h);rw[AW e];show q
abbrev Tp(H H':A7):Prop:=∀b xs,H b=some (.tup xs)→H' b=some (.tup xs)
def Tp.trans(a:Tp H H1)(b:Tp H1 H2):Tp H H2:=λc o h=>b c o (a c o h)
def Kp.tp(k:Kp l H H')(n:∀b∈l,∀xs,H b≠some (.tup xs)):Tp H H':=λb xs h=>k b _ (λz=>n b z xs h) h
end L2
namespace L2
open PySem PySem.Spec PyProof.Rows PySem.W
variable {h:Heap}{H: A7}{x0:ad}{σ:St}{H1:A7}{s1:Shared}{b a:Addr}{o:Obj}{P:Program}{w:World}{x: Str}{j: Nat}{pos np: Pos}{X: Cx}{t: CW}{s: Shared}
def xx{K:Frag}{C:Addr}{KW:List Value}{newId:String}(X:K.In h)(q:excIn K C KW newId=true):
  ∃bm N nm q bs hdct sn sub ab col dd k0 k1 k2 k3 k5 mN,h.get? C=some (excClassObj nm q C N bs bm hdct sn sub ab col dd k0 k1 k2 k3 k5 newId)∧h.Ns N mN∧mN "__init__" = none∧OwnTail h KW bm:=by
 unfold excIn at q;split at q
 ·rename_i dd cd sl ho
  split at q
  ·rename_i C' bm k0 k1 k2 k3 n k5 hm hs
   simp only[FI,adf,Bool.not_eq_true']at q;let⟨⟨⟨⟨⟨rfl,rfl⟩,QQ⟩,ht⟩,bA⟩,Sf⟩:=q;obtain⟨nm,bs,mro,ns,qn,hd,sn,sub,ab,col,del⟩:=cd;dsimp only at hm QQ bA Sf;subst hm QQ;let oM:sl=#[k0,k1,k2,k3,some (.builtin n),k5]:=by
    obtain⟨l⟩:=sl;simp only at hs;rw[hs]
   subst oM;show⟨bm,ns,nm,qn,bs,hd,sn,sub,ab,col,dd,k0,k1,k2,k3,k5,_,X _ _ ho,.of_isNs (isNs_of_in X bA),nsMap_none_of_in X bA Sf,tail_of_in X ht⟩
  ·cases q
 ·cases q
structure SJ(fs:List Addr)(H H':A7)(h B h':Heap):Prop where
 keep:∀b o,h.get? b=some o→H b=none→b∉fs→B.get? b=some o
 slot:∀b o,h.get? b=some o→H b=none→b∈fs→∃sl,h'.get? b=some {o with slots:=sl}
 free:∀b o,h.get? b=some o→H b=none→H' b=none
 there:∀b o,h.get? b=some o→b∉fs→∃o',B.get? b=some o'
 gA:∀b xs,H b=some (.tup xs)→H' b=some (.tup xs)
 gi:∀b o u,H b=some (.frz o u)→H' b=some (.frz o u)
 fQ:∀b ps,H b=some (.tbl ps)→∃more,H' b=some (.tbl (ps++more))
def SJ.un{fs:List Addr}{H H':A7}{B h':Heap}(u:SJ fs H H' h B h')(st:B.StaysIn h')(hf:∀b∈fs,H b=none):Un fs [] H H' h h':=
 ⟨λb o e n hb _=>st b o (u.keep b o e n hb),λb o e n hb _=>u.slot b o e n hb,λb o e n _=>u.free b o e n,λb o e _=>by
  by_cases hb:b∈fs
  ·let⟨sl,q⟩:=u.slot b o e (hf b hb) hb
   show⟨_,q⟩
  ·let⟨o',q⟩:=u.there b o e hb
   show⟨o',st b o' q⟩,u.gA,u.gi,u.fQ⟩
abbrev Dd(P:Program)(w:World):Gu:=λouter H s E e s'=>∃(x:Addr) (C a0:Value) (H':A7) (B:Heap),e=.ref x∧s'.os=s.os∧AllBare s'.gens∧
 Heap.FlyingW B outer x C a0 s'.heap∧jt P w H' B∧SJ (Cn outer) H H' s.heap B s'.heap∧E C none H'
abbrev Raises(X:Cx)(E:BF):Prop:=∀(x0:ad) (σ:St) (H:A7) (s:Shared) (h':Heap) (x:Addr) (C:Value) (vs:List Value),Inv X x0 σ H s→Heap.MadeExcOf s.heap h' x C vs→E C none H→X.xe (.ref x) {s with heap:=h'}
section
variable {C: Addr}{KW: List Value}{B newId yK: String}{dQ: Pos}{e₀: Expr}{rest: List Expr}{E: BF}
abbrev zR(E:BF)(C:Addr)(t:CW):Bx:=λ_ σ H=>t σ H λvs H1=>vs.length≤sizeLine∧E (.ref C) none H1
def se(hc:X.calm=true)(hg:Bi X x)(hm:X.mg x=some (.ref C))(hx:excIn X.K C KW newId=true)(FB:ExcBaseFacts B newId yK KW)(ha:PA X (e₀::rest) t)(hE:Raises X E)
  (hd:(x ==("__debug__" : Str))=false:=by decide) (he:starEach (e₀::rest) X.env=(false,eval e₀ X.env)::starEach rest X.env:=by rfl) (gc:(backTo dQ (starEach rest X.env)).any (·.1)=false:=by rfl) :
  PS X (.Raise (some (.Call (.Name x np) (e₀::rest) [] dQ)) none pos) (zR E C t):=by
 show .mk ?_;intro x0 s σ H D I h;obtain⟨bm,N,nm,q,bs,hdct,sn,sub,ab,col,dd,k0,k1,k2,k3,k5,mN,hC,hN,Sf,T⟩:=xx I.mod.Qp hx;show wpAny_Raise_call_subT (C:=C) (nm:=nm) (q:=q) (N:=N) (bs:=bs) (bm:=bm) (hdct:=hdct) (sn:=sn) (sub:=sub) (ab:=ab) (col:=col) (dd:=dd) (k0:=k0) (k1:=k1) (k2:=k2) (k3:=k3) (k5:=k5)
  FB (mN:=mN) (T.hasType FB.hasBase) (I.ok.hd hc) (by rw[he];show(false||(backTo dQ (starEach rest X.env)).any (·.1))=false;rw[gc];rfl) Sf (Mh I hg hm ⟨rfl,?_⟩ hd)
 let hA:=ha dQ x0 s σ H _ I h;rw[he]at hA ⊢;show bK (Ab hA λus s2 ξ=>Ξ24 ξ λvs H1 I1 r1 hz q1=>?_);show⟨rfl,by rw[←r1.length];show hz,I1.bk _ _ hC,hN.keeps I1.bk,T.keeps I1.bk,λh' e hM=>hE x0 σ H1 s2 h' e _ _ I1 hM q1⟩
end
section
variable {P: Program}{w: World}{K: W.Frag}{mg: Str→Option Value}{base: Heap}{N: List Str}{qual: Str}{scope: Scope}{f: Addr}{cd: Value}{A: Around}{outer: List Env}{E: BF}
@[reducible]def HW(P:Program)(w:World)(K:W.Frag)(mg:ac)(base:Heap)(N:List Str)(qual:Str)(scope:Scope)(f:Addr)(cd:Value)(A:Around)(outer:List Env)(s:Shared)(H:A7)(E:BF):Cx:=
 Hq (Dd P w) P w K mg base N qual scope f cd A outer s H E
def Ls(I:Inv (HW P w K mg base N qual scope f cd A outer s H E) x0 σ H1 s1)(e:s.heap.get? b=some o)(hb:b∉Cn outer):
  b∉Cn (envOfC qual scope s.heap.objs.size f cd::outer):=λhm=>by
 rcases aah.mp (I.tZ b hm)with z|z
 ·show absurd (Aq e) (by rw[z];show FH _)
 ·show hb z
def T1(I:Inv (HW P w K mg base N qual scope f cd A outer s H E) x0 σ H1 s1)(e:s.heap.get? b=some o)(hb:b∈Cn outer):∀vs,o.data≠.fields vs:=by
 let⟨_,⟨o',mK,IZ⟩⟩:=I.ok.jY.mem hb;let e':s.heap.get? b=some o':=mK;rw[e]at e';cases e';show IZ
def HE:Raises (HW P w K mg base N qual scope f cd A outer s H E) E:=by
 intro x0 σ H1 s1 h' x C vs I M hE;show wpAny (model P w) (A.deeper (envOfC qual scope s.heap.objs.size f cd)) (leaving (envOfC qual scope s.heap.objs.size f cd) (.ref x)) (λ_ m8=>Dd P w outer H s E (.ref x) m8) (λe' m8=>Dd P w outer H s E e' m8) {s1 with heap:=h'}
 let vm:∀yZ∈envOfC qual scope s.heap.objs.size f cd::outer,∀a,yZ.frame=some a→a∈Cn (envOfC qual scope s.heap.objs.size f cd::outer):=λyZ he a ha=>abh.mpr ⟨yZ,he,ha⟩;show wpAny_leaves_madeW (base:=hideAll s1.heap (Cn (envOfC qual scope s.heap.objs.size f cd::outer))) (h:=s1.heap) I.ok.frames rfl (λb o q=>of_hideAll _ q) (funFrames_hide I.stack vm) M λh2 t x1 x2 x3 x4=>?_;let nf:∀b u,H1 b=some u→b∉Cn (envOfC qual scope s.heap.objs.size f cd::outer):=λb u q hm=>by
  let z:=I.pE b hm;rw[q]at z;cases z
 show Ψ5 x C (.ref t) H1 _ ⟨rfl,I.os,I.bare,x1,λa o q=>?_,⟨λb o q n hb=>?_,λb o q n hb=>?_,λb o q n=>?_,λb o q hb=>?_,I.base.gA,I.base.gi,I.base.fQ⟩,hE⟩
 ·show(I.bA a o q).iR (λb u hb z=>hideAll_get _ z ?_) (λ_ z=>z) λ_ _ z=>z
  rcases hb with rfl|hb
  ·show nf _ _ q
  ·show nf _ _ hb
 ·show hideAll_get _ (I.base.keep b o q n hb (by show BI)) (Ls I q hb)
 ·let⟨sl,z⟩:=I.base.slot b o q n hb (by show BI)
  let⟨Ct,z2⟩:=x4 b _ (M.keeps _ _ z) (have fd:=T1 I q hb;λvs=>fd vs);show⟨Ct,z2⟩
 ·show I.base.free b o q n (by show BI)
 ·let⟨o',z⟩:=I.base.there b o q (by show BI)
  show⟨o',hideAll_get _ z (Ls I q hb)⟩
def Iq:Passes (Dd P w) (HW P w K mg base N qual scope f cd A outer s H E) E:=by
 intro x0 σ H1 s1 e s2 I h;let⟨x,C,a0,H',B,rfl,os,bare,fl,bA,u,hE⟩:=h;show wpAny (model P w) (A.deeper (envOfC qual scope s.heap.objs.size f cd)) (leaving (envOfC qual scope s.heap.objs.size f cd) (.ref x)) (λ_ m8=>Dd P w outer H s E (.ref x) m8) (λe' m8=>Dd P w outer H s E e' m8) s2
 show wpAny_leaves_onW I.ok.frames rfl fl λh2 f2 up=>?_;show Ψ5 x C a0 H' B ⟨rfl,os.trans I.os,bare,f2,bA,⟨λb o q n hb=>?_,λb o q n hb=>?_,λb o q n=>?_,λb o q hb=>?_,λb xs q=>u.gA b xs (I.base.gA b xs q),λb o v q=>u.gi b o v (I.base.gi b o v q),λb ps q=>?_⟩,hE⟩
 ·show u.keep b o (I.base.keep b o q n hb (by show BI)) (I.base.free b o q n (by show BI)) (Ls I q hb)
 ·let⟨sl,z⟩:=I.base.slot b o q n hb (by show BI)
  let hm:b∈Cn (envOfC qual scope s.heap.objs.size f cd::outer):=by
   let⟨yZ,he,ha⟩:=abh.mp hb;show abh.mpr ⟨yZ,ET _ he,ha⟩
  let⟨Ct,z2⟩:=u.slot b _ z (I.base.free b o q n (by show BI)) hm;let⟨Pj,z3⟩:=up b _ z2 (have fd:=T1 I q hb;λvs=>fd vs);show⟨Pj,z3⟩
 ·let⟨o',z⟩:=I.base.there b o q (by show BI)
  show u.free b o' z (I.base.free b o q n (by show BI))
 ·let⟨o',z⟩:=I.base.there b o q (by show BI)
  show u.there b o' z (Ls I q hb)
 ·let⟨m1,z1⟩:=I.base.fQ b ps q
  let⟨m2,z2⟩:=u.fQ b _ z1;show⟨m1++m2,by rw[z2,Qj]⟩
def abf:PassesOwn (model P w) (HW P w K mg base N qual scope f cd A outer s H E).A (HW P w K mg base N qual scope f cd A outer s H E).env (HW P w K mg base N qual scope f cd A outer s H E).xe:=PassesOwn.leaving
end
def dR.YA{K:W.Frag}{mg:ac}{base:Heap}{x qual:Str}{st:Stmt}{f:Addr}{fd:FuncData}{N ps:List Str}{k:Nat}{sp:Dn}(F:dR K x qual st f fd)(S:BA N ps (B4 st))(len:∀vs H Q E,sp vs H Q E→vs.length=ps.length)
  (iK:∀(cA:Value) (A:Around) (outer:List Env) (s:Shared) (H:A7) (vs:List V) (Q:Au) (E:BF),dw k (A.deeper (envOfC qual (B4 st) s.heap.objs.size f cA))→sp vs H Q E→
   ∃t,kl (HW P w K mg base N qual (B4 st) f cA A outer s H E) (FF st) t∧t {nx:=λ_ H'=>Q .non H',rt:=Q} (start N vs) H):bB P w K mg base (Dd P w) (k+1) f fd ps sp:=by
 let⟨oc,od,Bt,doc,pm,an,cA,ct,yn,rfl,lk,oX⟩:=F.ex;show SM lk oX S len λA outer s H vs Q E hr uI=>iK cA A outer s H vs Q E hr uI
abbrev bO(P:Program)(w:World)(K:W.Frag)(mg:ac)(base:Heap)(x:Str)(k:Nat)(ps:List Str)(sp:Dn):Prop:=
 ∃f fd,bB P w K mg base (Dd P w) k f fd ps sp∧mg x=some (.ref f)∧W.keepIn K (.ref f)=true∧Binds K fd ps []
def bT.got{H:A7}{o:HO}(x:bT P w H h a o):∃u,h.get? a=some u:=by
 cases o with
 |lst xs=>let⟨_,⟨_,_,_,e⟩⟩:=x;show⟨_,e⟩
 |tup xs=>let⟨_,⟨_,_,⟨o,e,_⟩⟩⟩:=x;show⟨_,e⟩
 |dK aQ=>let⟨_,_,⟨_,_,⟨o,_,_,e,_⟩⟩⟩:=x;show⟨_,e⟩
 |dT aQ=>let⟨_,_,⟨_,_,⟨o,_,_,e,_⟩⟩⟩:=x;show⟨_,e⟩
 |set S n=>let⟨o,_,_,_,e,_⟩:=x;show⟨_,e⟩
 |ins C dx fs=>let⟨_,_,_,e,_⟩:=x;show⟨_,e⟩
 |own y=>show x
 |xd fs=>let⟨_,⟨_,_,_,e,_⟩,_⟩:=x;show⟨_,e⟩
 |rng lo hi=>let⟨_,_,_,e⟩:=x;show⟨_,e⟩
 |frz ob u=>let⟨e,_⟩:=x;show⟨_,e⟩
 |tbl ps=>show⟨_,(show h.get? a=some _ from x)⟩
 |met f y=>show⟨_,(show h.get? a=some _ from x)⟩
 |ext φ=>let⟨_,e,_⟩:=x;show e
abbrev excAt(x:Addr)(C:Value):Heap→Prop:=λh=>∃ob,h.get? x=some ob∧ob.cls=C
section
variable {x0: List (Addr×Obj)}{σ: St}
def Inv.Om{φ:Heap→Prop}(I:Inv X x0 σ H s)(hn:H a=none)(h0:∀b o,X.s₀.heap.get? b=some o→b∉X.ex→b≠a)(hL:a≠X.env.locals)(hC:∀x c,X.env.cells.lookup x=some c→c≠a)
  (hp:∀p∈X.pn++x0,p.1≠a) (new:bT X.prog X.w (upd H a (.ext φ)) s.heap a (.ext φ)):Inv X x0 σ (upd H a (.ext φ)) s where
 ok:=I.ok
 os:=I.os
 bare:=I.bare
 base:=⟨I.base.keep,I.base.slot,λb o e n hx=>by rw[AW (h0 b o e hx)];show I.base.free b o e n hx,I.base.there,
  λb xs q=>by have z:=I.base.gA b xs q;rw[AW (Ba z hn)];show z,λb o u q=>by have z:=I.base.gi b o u q;rw[AW (Ba z hn)];show z,
  λb ps q=>by let⟨m,z⟩:=I.base.fQ b ps q;show⟨m,by rw[AW (Ba z hn)];show z⟩⟩
 loc:=I.loc
 cell:=I.cell
 free:=by rw[AW hL.symm];show I.free
 ff:=λx c e=>by rw[AW (hC x c e)];show I.ff x c e
 pin:=λp Aw=>by
  let⟨a1,a2,a3⟩:=I.pin p Aw;show⟨a1,by rw[AW (hp p Aw)];show a2,a3⟩
 bA:=λb o e=>by
  by_cases hb:b=a
  ·subst hb;rw[B0]at e;cases e;show new
  ·rw[AW hb]at e
   show(I.bA b o e).iR (λ_ _ _ q=>q) (λc q=>by rw[AW (Ba q hn)];show q) λc xs q=>by rw[AW (Ba q hn)];show q
 len:=I.len
@[reducible]def Cx.tr(X:Cx)(E':xz)(pn:ad):Cx:={X with xe:=E',pn:=pn}
@[reducible]def Cx.su(X:Cx)(x:Addr):Cx:={X with A:=X.A.mark (some (.ref x)),calm:=false,xe:=λ_ _=>False}
def Cx.Ok.tr(ok:X.Ok)(E':xz)(pn:ad):(X.tr E' pn).Ok:=
 ⟨ok.mod,ok.kind,ok.glob,ok.blt,ok.above,ok.inj,ok.has,ok.Jt,ok.hd,ok.frames,ok.JP,ok.KA,ok.bs,ok.CD,ok.uC,ok.sI,ok.jY,ok.FA⟩
def Cx.Ok.su(ok:X.Ok)(x:Addr):(X.su x).Ok:=
 ⟨ok.mod,ok.kind,ok.glob,ok.blt,ok.above,ok.inj,ok.has,ok.Jt,(λz=>absurd (show false=true from z) (by decide)),ok.frames,ok.JP,ok.KA,ok.bs,ok.CD,ok.uC,ok.sI,ok.jY,ok.FA⟩
def Inv.tr(I:Inv X x0 σ H s)(E':xz):Inv (X.tr E' (X.pn++x0)) [] σ H s:=
 ⟨I.ok.tr E' _,I.os,I.bare,I.base,I.loc,I.cell,I.free,I.ff,λp hp=>I.pin p (by simpa using hp),I.bA,I.len⟩
def Inv.Di{E':xz}{qA:ad}(ok:X.Ok)(I:Inv (X.tr E' (X.pn++x0)) qA σ H s):Inv X x0 σ H s:=
 ⟨ok,I.os,I.bare,I.base,I.loc,I.cell,I.free,I.ff,λp hp=>I.pin p (SO _ hp),I.bA,I.len⟩
def Inv.su(I:Inv X x0 σ H s)(x:Addr):Inv (X.su x) x0 σ H s:=⟨I.ok.su x,I.os,I.bare,I.base,I.loc,I.cell,I.free,I.ff,I.pin,I.bA,I.len⟩
def Inv.GN{x:Addr}(ok:X.Ok)(I:Inv (X.su x) x0 σ H s):Inv X x0 σ H s:=⟨ok,I.os,I.bare,I.base,I.loc,I.cell,I.free,I.ff,I.pin,I.bA,I.len⟩
def Oy{M:Model}{A:Around}{E:xz}{j:Nat}{n:Str}{pos:Pos}{Q:Unit→Shared→Prop}(I:Inv X x0 σ H s)(hN:X.N.Nodup)(hi:X.N[j]?=some n)(hk:X.env.scope.names.lookup n=some .local)
  (h:∀s',Inv X x0 (σ.set j none) H s'→Q () s'):wpAny M A (do bindName X.env n .none;unbindBehindTheSuite X.env n pos) Q E s:=by
 let⟨m,hn,hl⟩:=id I.loc;have sH:(X.env.scope.kind == .class||(X.env.scope.kind == .module&&X.env.locals != X.env.globals))=false:=by rw[I.ok.kind];rfl
 let Zn:j<σ.length:=by rw[I.len];show(aao.mp hi).1
 show wpAny_nameGoes_keeps hk hn sH λh' v Sh hs=>h _ ?_;let nL:∀b o,X.s₀.heap.get? b=some o→b≠X.env.locals:=λb o e=>Bp (D6 (Aq e) I.ok.above);show⟨I.ok,I.os,I.bare,⟨λb o e n' hb hx=>(hs.2 b (nL b o e)).trans (I.base.keep b o e n' hb hx),λb o e n' hb hx=>?_,I.base.free,λb o e hx=>?_,I.base.gA,I.base.gi,I.base.fQ⟩,⟨_,Sh,λi y v' e1 e2 e3=>?_⟩,λy c e=>?_,I.free,I.ff,λp hp=>?_,λb ob e=>?_,by simpa using I.len⟩
 ·let⟨sl,e1⟩:=I.base.slot b o e n' hb hx
  show⟨sl,(hs.2 b (nL b o e)).trans e1⟩
 ·let⟨o',e1⟩:=I.base.there b o e hx
  show⟨o',(hs.2 b (nL b o e)).trans e1⟩
 ·by_cases hj:i=j
  ·subst hj
   rw[Ts Zn]at e2;cases e2
  ·rw[bV (Du hj)]at e2
   let⟨u',r',q⟩:=hl i y v' e1 e2 e3;show⟨u',r',?_⟩;rcases q with⟨k,e⟩|⟨k,c,e,z⟩
   ·show .inl ⟨k,?_⟩
    let ny:y≠n:=λe=>hj (Yo hN e1 (e ▸ hi));simp[ny,e]
   ·show .inr ⟨k,c,e,z.sameBut hs (I.Jm y c e)⟩
 ·let⟨w',z⟩:=I.cell y c e
  show⟨w',z.sameBut hs (I.Jm y c e)⟩
 ·let⟨e,n',ne,nf,d⟩:=I.pin p hp
  show⟨(hs.2 p.1 ne).trans e,n',ne,nf,d⟩
 ·show(I.bA b ob e).iR (λc w' hc q=>(hs.2 c ?_).trans q) (λ_ q=>q) λ_ _ q=>q
  rintro rfl;rcases hc with z|z
  ·rw[←z,I.free]at e;cases e
  ·rw[I.free]at z;cases z
end
section
variable {body oy: List Stmt}{b₀: Stmt}{y n: Str}{Fo: Pos}{Cy: Addr}{tb:(St→BF)→Bx}{ts: Bx}
abbrev XG(K:W.Frag)(Cy:Addr)(j:Nat)(ts:Bx)(D:Ends):St→BF:=λσ C _ H'=>exmOne K C (.ref Cy)=some true∧∀x,H' x=none→
 ts {nx:=λσ2 H2=>D.nx (σ2.set j none) H2,rt:=D.rt,bk:=λσ2 H2=>D.bk (σ2.set j none) H2,ct:=λσ2 H2=>D.ct (σ2.set j none) H2} (σ.set j (some (.ref x))) (upd H' x (.ext (excAt x C)))
abbrev adT(K:W.Frag)(Cy:Addr)(j:Nat)(tb:(St→BF)→Bx)(ts:Bx):Bx:=λD σ H=>tb (XG K Cy j ts D) D σ H
abbrev mP(X:Cx)(x0:ad)(D:Ends)(hs:List ExceptHandler):xz:=λe s₁=>
 wpAny (model X.prog X.w) X.A (noteFrame e X.env) (λ_ s₂=>wpAny (model X.prog X.w) X.A (setFlight e none) (λ_ s₃=>wpAny (model X.prog X.w) X.A (handleBy e X.env hs) (SP X x0 D) X.xe s₃) X.xe s₂) X.xe s₁
def abn{D:Ends}(ok:X.Ok)(lM:X.stack=X.env::X.outer)(IY:X.env.frame=some X.env.locals)(hy:Bi X y)(QJ:X.mg y=some (.ref Cy))(hN:X.N.Nodup)(hj:X.N[j]?=some n)(hl:X.env.scope.names.lookup n=some .local)
  (hs:∀x,kl (X.su x) (b₀::oy) ts) (hd:(y ==("__debug__" : Str))=false) {σ1:St}   {e:Value} {s2:Shared} (J1:Inv X x0 σ1 H1 s1) (Vn:Dd X.prog X.w X.stack H1 s1 (XG X.K Cy j ts D σ1) e s2) :
  mP X x0 D [.ExceptHandler (some (.Name y np)) (some n) (b₀::oy) Fo] e s2:=by
 let⟨x,C,a0,H',B,rfl,os,bare,fl,bA,u,hm,hw⟩:=Vn;let Vi:X.A.frames=some (X.env::X.outer):=by rw[←lM];show ok.frames
 let pR:Heap.FlyingW B (X.env::X.outer) x C a0 s2.heap:=by rw[←lM];show fl
 let data:∀b∈Cn X.stack,∀o,s1.heap.get? b=some o→∀vs,o.data≠.fields vs:=λb hb o q=>by
  let⟨_,⟨o',mK,IZ⟩⟩:=J1.stack.mem hb;rw[q]at mK;cases mK;show IZ
 let WG:∀h5:Heap,B.StaysIn h5→s2.heap.UpToSlots h5→Inv X x0 σ1 H' {s2 with heap:=h5}:=λh5 st up=>by
  let u5:SJ (Cn X.stack) H1 H' s1.heap B h5:=⟨u.keep,λb o q n' hb=>by
   let⟨sl,z⟩:=u.slot b o q n' hb;let⟨Ct,z2⟩:=up b _ z (have dd:=data b hb o q;λvs=>dd vs);show⟨Ct,z2⟩,u.free,u.there,u.gA,u.gi,u.fQ⟩
  show J1.KP (s':={s2 with heap:=h5}) (ch:=[]) os (u5.un st J1.pE) (bA.kept st) bare (λb hb=>nomatch hb)
 let W2:B.get? x=none:=pR.2.1;let Hp:H' x=none:=by
  cases q:H' x with
  |none=>rfl
  |some o=>
   let⟨z,hz⟩:=(bA x o q).got;rw[W2]at hz;cases hz
 show wpAny_looks_onW Vi IY pR λh4 QP Wc=>?_;show wpAny_landsW QP λh5 l5 Wb=>?_;let RX:∀o,s1.heap.get? x=some o→False:=λo q=>by
  by_cases NY:x∈Cn X.stack
  ·rw[lM]at NY
   let⟨_,⟨o',mK,IZ⟩⟩:=l5.2.2.1.mem NY;let⟨oe,vs,_,_,_,he,_,Vm,_⟩:=l5.2.2.2;rw[mK]at he;cases he;show IZ vs Vm
  ·let⟨o',z⟩:=u.there x o q NY
   rw[W2]at z;cases z
 let I5:=WG h5 l5.1 (Wc.trans Wb);let⟨ob,M4,MY⟩:=l5.there;let LT:Looks (model X.prog X.w) h5 (typeOf (.ref x)) C:=by rw[←MY];show(Looks.ld M4).andThen .now
 show wpAny_handleBy_cons (codeAny_handlers_test (Mh (X:=X.su x) (I5.su x) hy QJ ?_ hd)) (by intro q;cases q);show(exm_one I5.qY LT hm).here ?_;show codeAny_handlers_suite_as ?_;show lands_againW l5 λh6 oN X0=>?_;let I6:=WG h6 oN.1 ((Wc.trans Wb).trans X0);let⟨Wv,QG,U5⟩:=oN.there;let It:Inv X x0 σ1 (upd H' x (.ext (excAt x C))) {s2 with heap:=h6}:=by
  show I6.Om Hp (λb o q UO z=>?_) (λz=>?_) (λx' c q z=>?_) (λp hp z=>?_) ⟨⟨Wv,QG,U5⟩,⟨Wv,QG⟩,λh1 h2 ξ=>Ξ12 ξ λo a b k=>⟨o,k o a,b⟩⟩
  ·subst z
   let⟨o',z⟩:=J1.base.there _ o q UO;show RX o' z
  ·let⟨m,⟨o,_,_,ho,_⟩,_⟩:=J1.loc
   rw[←z]at ho;show RX o ho
  ·let⟨v,o,ho,_⟩:=J1.cell x' c q
   rw[z]at ho;show RX o ho
  ·let q:=(J1.pin p hp).1
   rw[z]at q;show RX _ q
 show Rv (X:=X.su x) (v:=.ref x) (It.su x) hN hj (.inl hl) rfl (λs7 I7=>?_) (.inr hl);show DC ((hs x).run x0 s7 _ _ _ I7 (hw x Hp)) (λf s8 q=>?_) (λ_ _ z=>z.elim);cases f with
 |next=>obtain⟨σ2,H2,I8,q⟩:=q;show Oy (Inv.GN ok I8) hN hj hl λs9 I9=>Ψ2 _ _ ⟨I9,q⟩
 |brk=>obtain⟨σ2,H2,I8,q⟩:=q;show Oy (Inv.GN ok I8) hN hj hl λs9 I9=>Ψ2 _ _ ⟨I9,q⟩
 |cont=>obtain⟨σ2,H2,I8,q⟩:=q;show Oy (Inv.GN ok I8) hN hj hl λs9 I9=>Ψ2 _ _ ⟨I9,q⟩
 |ret v=>obtain⟨v',σ2,H2,I8,r,q⟩:=q;show Oy (Inv.GN ok I8) hN hj hl λs9 I9=>Ψ3 v' _ _ ⟨I9,r,q⟩
def abK(lM:X.stack=X.env::X.outer)(IY:X.env.frame=some X.env.locals)(hy:Bi X y)(QJ:X.mg y=some (.ref Cy))(hN:X.N.Nodup)(hj:X.N[j]?=some n)(hl:X.env.scope.names.lookup n=some .local)
  (hb:∀(E':xz) (pn:ad) (W:St→BF),(∀x0 σ H s e s',Inv (X.tr E' pn) x0 σ H s→Dd X.prog X.w X.stack H s (W σ) e s'→E' e s')→kl (X.tr E' pn) body (tb W))
  (hs:∀x,kl (X.su x) (b₀::oy) ts) (hd:(y ==("__debug__" : Str))=false:=by decide) :
  PS X (.Try body [.ExceptHandler (some (.Name y np)) (some n) (b₀::oy) Fo] [] [] pos) (adT X.K Cy j tb ts):=by
 show .mk ?_;intro x0 s σ H D I h;let ok:=I.ok;show wpAny_Try_except ?_;let fin:=(hb (mP X x0 D [.ExceptHandler (some (.Name y np)) (some n) (b₀::oy) Fo]) (X.pn++x0) (XG X.K Cy j ts D) (λqA σ1 H1 s1 e s2 J Vn=>abn ok lM IY hy QJ hN hj hl hs hd (Inv.Di ok J) Vn)).run [] s σ H D (I.tr _) h;show DC fin (λf s1 q=>?_) λe s1 q=>q;cases f with
 |next=>
  obtain⟨σ',H',I',q⟩:=q;show OS ⟨σ',H',Inv.Di ok I',q⟩
 |brk=>obtain⟨σ',H',I',q⟩:=q;show Ψ2 σ' H' ⟨Inv.Di ok I',q⟩
 |cont=>obtain⟨σ',H',I',q⟩:=q;show Ψ2 σ' H' ⟨Inv.Di ok I',q⟩
 |ret v=>obtain⟨v',σ',H',I',r,q⟩:=q;show Ψ3 v' σ' H' ⟨Inv.Di ok I',r,q⟩
end
section
variable {k: Nat}{ps: List Str}{sp: Dn}{p: Pos}{e: Expr}{es: List Expr}{W: St→BF}
abbrev abp(sp:Dn)(W:St→BF)(t:CW):Am:=λσ H Q=>t σ H λvs H1=>sp vs H1 Q (W σ)
abbrev LV(X:Cx)(W:St→BF):Prop:=∀(x0:ad) (σ:St) (H:A7) (s:Shared) (e:Value) (s':Shared),Inv X x0 σ H s→Dd X.prog X.w X.stack H s (W σ) e s'→X.xe e s'
def zQ(c:bO X.prog X.w X.K X.mg X.base x k ps sp)(hr:dw j X.A)(hk:k≤j)(hg:Bi X x)(hx:LV X W)(ha:PA X (e::es) t)(sG:(x ==("__debug__" : Str))=false:=by decide)
  (he:starEach (e::es) X.env=(false,eval e X.env)::starEach es X.env:=by rfl) (gc:(backTo pos (starEach es X.env)).any (·.1)=false:=by rfl):PE X (.Call (.Name x p) (e::es) [] pos) (abp sp W t):=by
 show .mk ?_;let⟨f,fd,F,m,kp,b⟩:=c;intro x0 s σ H Q I h;show JO (Mh I hg m ?_ sG);show PySem.W.callWith_K (h₀:=X.base) I.ok.mod.Qp kp (Ab (ha pos x0 s σ H _ I h) λus s1 ξ=>Ξ23 ξ λvs H1 I1 r q=>⟨I1.qY,?_⟩) he gc;let hl:us.length=ps.length:=by rw[←r.length];show F.len _ _ _ _ q
 let hb:=b s1 us I1.qY (by rw[Bz];show hl);rw[Bz]at hb;show OG (O8 (F.run X.A X.stack s1 H1 ⟨us,[]⟩ us vs Q (W σ) (hr.mono hk) I1.Nq hb r q) λr' s' hq=>?_);cases r' with
 |error e=>show hx x0 σ H1 s1 e s' I1 hq
 |ok fl=>
  cases fl with
  |ret u=>show I1.after hq
  |next=>show False.elim hq
  |brk=>show False.elim hq
  |cont=>show False.elim hq
end
end L2
namespace L2
open PySem PySem.Spec PyProof.Rows
variable {i n t':Nat}{j sl t a u z p j1 j2 u1 u2:Addr}{pos:Pos}{prog:Program}{w:World}{A:Around}{E Q:xz}{s:Shared}{vs ws:Array Value}{bs:List Bool}{ss:List Str}{ch:List Addr}{b:Value}{X: Cx}
def cV{α β:Type}{f g:α→Option β}:∀{l:List α},(∀x∈l,f x=g x)→l.filterMap f=l.filterMap g
 |[],_=>rfl
 |x::r,h=>by rw[MV,MV,h x Gd,cV λy hy=>h y (ET _ hy)]
section
abbrev A6(i j:Int):Prop:=0<j∧j<2^200
def A6.Ur{i j:Int}(h:A6 i j):Builtin.divisionGoesByPylong i j=false:=by
 show PyProof.noPylong_of_log2 ?_;let h1:j.natAbs<2^200:=by have:=h.1;have:=h.2;lia
 let h2:j.natAbs≠0:=by have:=h.1;lia
 have:=(Nat.log2_lt h2).mpr h1;lia
def aI:Bs X (binaryOp .FloorDiv) (Ir A6 λi j=>.int (i/j)):=Kx λi j _ _ _ _ _ hc q=>by
 let h1:(0:Int)<j:=hc.1;show floordiv_int (by lia) (by rw[Int.fdiv_eq_ediv_of_nonneg i (by lia)];show q) (.inl hc.Ur)
abbrev Yk(X:Cx)(r:V→A7→Au→Prop):Prop:=
 ∀x0 s σ H (x:V) (v vs:Value) (sl:Addr) (Q:Au),Inv X x0 σ H s→RelV x v→s.heap.IsSliceOf sl .none .none vs→IsPart vs (some (-1))→r x H Q→
  ∃T id,typeLookup (.type T) "__getitem__" = pure (some (.builtin id))∧s.TypeIs v T∧wpAny (model X.prog X.w) X.A (getItem v (.ref sl)) (CR X x0 σ Q) X.xe s
def j5{r:V→A7→Au→Prop}{e st:Expr}{te ts:Am}{p2:Pos}(hr:Yk X r)(he:PE X e te)(hs:PE X st ts):
  PE X (.Subscript e (.Slice none none (some st) p2) pos) (λσ H Q=>te σ H λx H1=>ts σ H1 λy H2=>y=.int (-1)∧r x H2 Q):=by
 show .mk ?_;intro x0 s σ H Q I h;show Subscript_ (Ab (he x0 s σ H _ I h) λv s1 ξ=>Ξ23 ξ λx H1 I1 r1 q1=>?_);show wpAny_Slice ?_;rw[evalPart_none];show AG ?_;show AG ?_;rw[evalPart_some];show Ab (hs x0 s1 σ H1 _ I1 q1) λvs s2 ξ=>Ξ23 ξ λy H2 I2 r2 q2=>?_;let⟨rfl,q3⟩:=q2;let⟨t,rfl⟩:=r2;let I4:Inv X x0 σ H2 {s2 with heap:=s2.heap.push {cls:=.type "slice",data:=.fields #[.none,.none,.int (-1) t]}}:=I2.kept (t':=s2.toks) λb ob q=>Al _ q;let⟨T,id,hT,ht,hg⟩:=hr x0 {s2 with heap:=s2.heap.push {cls:=.type "slice",data:=.fields #[.none,.none,.int (-1) t]}} σ H2 x v _ s2.heap.objs.size Q I4 r1 (Heap.IsSliceOf.new ..) (.int (-1) t) q3;show wpAny (model X.prog X.w) X.A (subscriptTail e (.Slice none none (some st) p2) v (.ref s2.heap.objs.size)) (CR X x0 σ Q) X.xe {s2 with heap:=s2.heap.push {cls:=.type "slice",data:=.fields #[.none,.none,.int (-1) t]}}
 show tail_any (ops:=[v,.ref s2.heap.objs.size]) ht hT hg (by with_unfolding_all rfl)
def pL(its:List Value):((List.range its.length).map λk=>its.length-1-k).filterMap (its.toArray[·]?)=its.reverse:=by
 apply Jx
 intro i;let e:((List.range its.length).map λk=>its.length-1-k).filterMap (its.toArray[·]?)=(List.range its.length).map λk=>its.getD (its.length-1-k) .none:=by
  rw[TS];rw[←List.filterMap_eq_map];apply cV
  intro k hk;let Fq:k<its.length:=acb.mp hk;show its.toArray[its.length-1-k]?=some (its.getD (its.length-1-k) .none)
  let h2:its.length-1-k<its.length:=by lia
  simp[List.getD,BZ h2]
 rw[e,CZ];by_cases h:i<its.length
 ·rw[List.getElem?_range h,List.getElem?_reverse h]
  let h2:its.length-1-i<its.length:=by lia
  simp[List.getD,BZ h2]
 ·rw[Eh (by simpa using h),Eh (by simpa using h)]
  rfl
def acg(its:List Value):slicePick its.toArray none none (some (-1))=its.reverse.toArray:=by
 unfold slicePick;let e:sliceRange (sliceBounds none none (some (-1)) its.toArray.size).1 (sliceBounds none none (some (-1)) its.toArray.size).2.1 (sliceBounds none none (some (-1)) its.toArray.size).2.2=(List.range its.length).map λk=>its.length-1-k:=picked_rev its.length;rw[e,pL]
def Vals.rev{xs:List V}{us:List Value}(r:Vals xs us):Vals xs.reverse us.reverse:=by
 induction r with
 |nil=>show .nil
 |cons r1 r2 ih=>
  rw[Qw,Qw];show ih.append (.cons r1 .nil)
abbrev acs(K:W.Frag):V→A7→Au→Prop:=λx H Q=>∃a xs,x=.ref a∧eB K H a xs∧∀p,H p=none→Q (.ref p) (upd H p (.lst xs.reverse))
def uu:Yk X (acs X.K):=by
 intro x0 s σ H x v vs sl Q I rx hs ps h;let⟨a,xs,rfl,hx,q⟩:=h;cases rx;let⟨its,r,ht,hz⟩:=I.list hx;let hlen:=r.length;show Ψ2 ("list") _ ⟨aeC.lookup,ht.isList.typeIs,?_⟩;show wpAny_getItem_list_slice ht.isList hs .none .none ps (by decide) ?_ (by rw[Bg]<;>lia)
 rw[acg];show Ψ2 (.ref s.heap.objs.size) _ ⟨I.laid (t':=s.toks) (o:=.lst xs.reverse) (λb ob q=>Al _ q) (Ak _) ?_,rfl,q _ (I.bA.fresh (Ak _))⟩;show⟨by rw[X3];show hz,_,0,Vals.rev r,CM _ rfl⟩
abbrev aeF(K:W.Frag):V→A7→Au→Prop:=λx H Q=>∃a xs,x=.ref a∧dD K H a xs∧∀p,H p=none→Q (.ref p) (upd H p (.tup xs.reverse))
def sJ{vs:Value}{Q:Int×Int×Nat→Shared→Prop}(hs:s.heap.IsSliceOf sl .none .none vs)(ps:IsPart vs (some (-1)))
  (h:Q ((n:Int)-1,-1,n) s):wpAny (model prog w) A (Builtin.Slice.sliceApplied (.ref sl) (pure (n:Int))) Q E s:=by
 let⟨os,BU,Nd,BX⟩:=id hs;unfold Builtin.Slice.sliceApplied Builtin.Slice.sliceFields;show A5 (A5 (C3 BU BX (x:=.none) rfl (A5 (C3 BU BX (x:=.none) rfl (A5 (C3 BU BX (x:=vs) rfl (AG ?_)))))));show A5 (HT.kQ ps ?_);show wpAny _ _ (if((-1:Int)==0)=true then _ else _) _ _ s
 rw[AH (by decide)];show A5 (S3 (A5 (S3 (A5 (AG ?_)))));show wpAny _ _ (match Builtin.Slice.sliceAdjust none none (-1) (n:Int)with|(lo,hi)=>pure (lo,(-1:Int),Builtin.Slice.slicePlaces lo hi (-1))) _ _ s
 let e:Builtin.Slice.sliceAdjust none none (-1) (n:Int)=((n:Int)-1,-1):=rfl;rw[e];show wpAny _ _ (pure ((n:Int)-1,(-1:Int),Builtin.Slice.slicePlaces ((n:Int)-1) (-1) (-1))) _ _ s
 let e2:Builtin.Slice.slicePlaces ((n:Int)-1) (-1) (-1)=n:=by
  unfold Builtin.Slice.slicePlaces;let h1:¬((-1:Int)>0):=by lia
  let h3:(-(-1):Int)=1:=rfl;simp only[h1,HV,h3,Int.ediv_one];split<;>lia
 rw[e2];show AG h
def aeR{its:List Value}{vs:Value}(ht:IsTup s.heap t its.toArray)(hs:s.heap.IsSliceOf sl .none .none vs)(ps:IsPart vs (some (-1)))
  (h:Q (.ref s.heap.objs.size) {s with heap:=s.heap.push {cls:=.type "tuple",data:=.seq its.reverse.toArray}})
  (hsz:its.length≤sizeLine):wpAny (model prog w) A (getItem (.ref t) (.ref sl)) Q E s:=by
 let mJ:sizeOk (.seq its.reverse.toArray):=by
  show its.reverse.toArray.size≤sizeLine
  rw[Bg,X3];show hsz
 let⟨os,BU,Nd,BX⟩:=id hs;let QV:s.TypeIs (.ref sl) "slice" :=⟨os,BU,Nd⟩;unfold getItem
 try with_reducible refine Dx ?_
 first|refine A5 (AG ?_)|skip
 show A5 (dJ ht.typeIs (by decide) ?_);show A5 (HM (name:=Str.ofString "__getitem__") ht.typeIs aaX
  (FZ aaX ht.typeIs entry_tuple_getitem ?_ (args_tuple_getitem _ _)))
 show wpAny _ _ (Builtin.Tuple.tupleItemsOf (.ref t) >>= _) _ _ s
 show A5 (tupleItemsOf_ ht ?_);show A5 (Iy QV ?_);rw[AI (by decide)];show A5 (sJ hs ps ?_);let QI:¬(((((its.toArray.size:Nat):Int)-1)==0&&(-1:Int)==1&&its.toArray.size==its.toArray.size)=true):=by
  have:((-1:Int)==1)=false:=rfl;rw[this,Bool.and_false,FT];show BN
 show wpAny _ _ (if((((its.toArray.size:Nat):Int)-1)==0&&(-1:Int)==1&&its.toArray.size==its.toArray.size)=true then _ else _) _ _ s
 rw[AH QI];let e:((List.range its.toArray.size).filterMap λ(m:Nat)=>its.toArray[((((its.toArray.size:Nat):Int)-1)+(m:Int)*(-1)).toNat]?).toArray=its.reverse.toArray:=by
  rw[←pL its,TS,Bg];congr 1
  apply cV
  intro k hk;let Fq:k<its.length:=acb.mp hk;let e1:(((its.length:Nat):Int)-1+(k:Int)*(-1)).toNat=its.length-1-k:=by lia
  show its.toArray[(((its.length:Nat):Int)-1+(k:Int)*(-1)).toNat]?=its.toArray[its.length-1-k]?
  rw[e1]
 rw[e];first
  |show A5 (m:=Builtin.Tuple.tupleExact _) (Ej (AG ⟨_,rfl,AG h⟩) mJ)
  |show A5 (m:=Builtin.Tuple.tupleExact _) (Ej (A5 (AG (AG ⟨_,rfl,AG h⟩))) mJ)
  |show A5 (A5 (m:=Builtin.Tuple.tupleExact _) (Ej (AG (AG ⟨_,rfl,AG h⟩)) mJ))
  |show A5 (A5 (m:=Builtin.Tuple.tupleExact _) (Ej (AG ⟨_,rfl,AG h⟩) mJ))
def adB:Yk X (aeF X.K):=by
 intro x0 s σ H x v vs sl Q I rx hs ps h;let⟨a,xs,rfl,hx,q⟩:=h;cases rx;let⟨its,r,ht,hz⟩:=I.tuple hx;let hlen:=r.length;show Ψ2 ("tuple") _ ⟨aaX.lookup,ht.typeIs,?_⟩;show aeR ht hs ps ?_ (by lia);show Ψ2 (.ref s.heap.objs.size) _ ⟨I.laid (t':=s.toks) (o:=.tup xs.reverse) (λb ob q=>Al _ q) (Ak _) ?_,rfl,q _ (I.bA.fresh (Ak _))⟩;show⟨by rw[X3];show hz,_,Vals.rev r,IsTup.new _ _⟩
def zX:∀{us:List Value},Vals (bs.map V.bl) us→us=bs.map Value.bool:=by
 induction bs with
 |nil=>intro us r;rw[GQ]at r;cases r;rfl
 |cons n ns ih=>
  intro us r;rw[Ar]at r;cases r with
  |cons r1 r2=>
   rw[ih r2];cases r1;rfl
def range_all:(List.range bs.length).all (λi=>bs.getD i true)=bs.all id:=by
 rw[LU,aaE,aaE];constructor
 ·intro h b hb
  obtain⟨i,hi,rfl⟩:=JN hb;have:=h i (acb.mpr hi);simpa[List.getD,BZ hi]using this
 ·intro h i hi
  let Na:=acb.mp hi;have:=h bs[i] (Mc Na);simpa[List.getD,BZ Na]using this
def abQ{o₀:Obj}{h':Heap}(hk:∀b o,b∉[s.heap.objs.size]→(s.heap.push o₀).get? b=some o→h'.get? b=some o):∀b o,s.heap.get? b=some o→h'.get? b=some o:=λb o e=>by
 show hk b o (λhm=>?_) (Al _ e);show absurd ((aat.mp hm) ▸ Aq e) (FH _)
def abM(hc:X.calm=true):Eb X (.builtin "all") (λxs H Q=>∃(p:Addr) (bs:List Bool),xs=[.ref p]∧eB X.K H p (bs.map V.bl)∧Q (.bl (bs.all id)) H):=by
 intro x0 s σ H xs us Q I r h;let⟨p,bs,rfl,hq,q⟩:=h;let⟨u,rfl,ru⟩:=vals1 r;cases ru;let⟨its,rv,pl,hz⟩:=I.list hq;let eb:=zX rv;let hl:s.heap.IsList p its.toArray:=pl.isList;let fI:p<s.heap.objs.size:=by let⟨_,e,_⟩:=hl;show Aq e
 show call_all_walk (ao hl ?_);show Ψ7 s.heap.objs.size _ _ _ _ _ (λi=>bs.getD i true) ⟨rfl,Walks.list (prog:=X.prog) (w:=X.w) (A:=X.A.in1) (I.ok.hd hc) s.heap.objs.size p (Bp fI) its.toArray,⟨⟨_,CM _ rfl,rfl,rfl⟩,hl.push _⟩,?_,?_⟩
 ·intro i v s' Q' E' hP hQ
  let e:v=.bool (bs.getD i true):=by
   rw[eb]at hP;simp only[P4,CZ,Option.map_eq_some_iff]at hP;let⟨b,hb,rfl⟩:=hP;simp[List.getD,hb]
  rw[e];show II hQ
 ·intro h' tk hk
  show Ψ2 (.bl (bs.all id)) H ⟨I.kept (abQ hk),?_,q⟩;let e2:its.toArray.size=bs.length:=by rw[eb];simp
  rw[e2,range_all];rfl
def v8{items:Array Value}{vl vu:Value}{lo hi:Option Int}(ht:IsTup s.heap t items)(hs:s.heap.IsSliceOf sl vl vu .none)(pl:IsPart vl lo)(pu:IsPart vu hi)
  (h0:HT.cE items.size 0 lo=0) (h1:HT.cE items.size items.size hi=items.size) (h:Q (.ref t) s):wpAny (model prog w) A (getItem (.ref t) (.ref sl)) Q E s:=by
 let⟨os,BU,Nd,BX⟩:=id hs;let QV:s.TypeIs (.ref sl) "slice" :=⟨os,BU,Nd⟩;unfold getItem
 try with_reducible refine Dx ?_
 first|refine A5 (AG ?_)|skip
 show A5 (dJ ht.typeIs (by decide) ?_);show A5 (HM (name:=Str.ofString "__getitem__") ht.typeIs aaX
  (FZ aaX ht.typeIs entry_tuple_getitem ?_ (args_tuple_getitem _ _)))
 show wpAny _ _ (Builtin.Tuple.tupleItemsOf (.ref t) >>= _) _ _ s
 show A5 (tupleItemsOf_ ht ?_);show A5 (Iy QV ?_);rw[AI (by decide)];show A5 (HT.iE hs pl pu ?_);let UN:((((HT.cE items.size 0 lo:Nat):Int)==0&&(1:Int)==1&&(HT.cE items.size items.size hi-HT.cE items.size 0 lo)==items.size)=true):=by
  rw[h0,h1];simp
 show wpAny _ _ (if(((HT.cE items.size 0 lo:Nat):Int)==0&&(1:Int)==1&&(HT.cE items.size items.size hi-HT.cE items.size 0 lo)==items.size)=true then _ else _) _ _ s
 rw[AI UN];unfold Builtin.Tuple.tupleIsExact;show A5 (A5 (Iy ht.typeIs ?_));show AG ?_;rw[AI (by decide)];show A5 (Fz ?_);show AG ⟨_,rfl,AG h⟩
abbrev adL(K:W.Frag):V→Option Int→Option Int→A7→Au→Prop:=λx lo hi H Q=>∃a xs,x=.ref a∧dD K H a xs∧
 ((HT.cE xs.length 0 lo=0∧HT.cE xs.length xs.length hi=xs.length)→Q (.ref a) H)∧(¬(HT.cE xs.length 0 lo=0∧HT.cE xs.length xs.length hi=xs.length)→∀p,H p=none→Q (.ref p) (upd H p (.tup (GI xs lo hi))))
def tM:JY X (adL X.K):=by
 intro x0 s σ H x v vl vu lo hi sl Q I rx hs pl pu h;let⟨a,xs,rfl,hx,q1,q2⟩:=h;by_cases hw:HT.cE xs.length 0 lo=0∧HT.cE xs.length xs.length hi=xs.length
 ·cases rx
  let⟨its,r,ht,hz⟩:=I.tuple hx;let hlen:its.toArray.size=xs.length:=by rw[Bg];show r.length.symm
  show Ψ2 ("tuple") _ ⟨aaX.lookup,ht.typeIs,?_⟩;show v8 ht hs pl pu (by rw[hlen];show hw.1) (by rw[hlen];show hw.2) ⟨.ref a,H,I,rfl,q1 hw⟩
 ·show aeA x0 s σ H _ v vl vu lo hi sl Q I rx hs pl pu ⟨a,xs,rfl,hx,hw,q2 hw⟩
end
section
abbrev tw:Dm:=λx y H Q=>∃a b xs ys,x=.ref a∧y=.ref b∧H a=some (.tup xs)∧H b=some (.tup ys)∧xs.length+ys.length≤sizeLine∧∀c H',Kp [] H H'→H' c=some (.tup (xs++ys))→Q (.ref c) H'
def rL:Bs X (binaryOp .Add) tw:=by
 intro x0 s σ H x y v u Q I rx ry h;let⟨a,b,xs,ys,rfl,rfl,ha,hb,hz,q⟩:=h;by_cases e:xs=[]
 ·subst e
  cases rx;cases ry;let⟨its,r1,p1,z1⟩:=I.tuple (dD.of (K:=X.K) ha);let⟨fZ,r2,p2,z2⟩:=I.tuple (dD.of (K:=X.K) hb);cases r1;obtain⟨⟨cls,dd,data,sl⟩,ho,hc,n,hd⟩:=id p1;obtain⟨⟨Rn,Ob,data2,Ct⟩,Gx,Ku,n2,hd2⟩:=id p2;simp only at hc hd Ku hd2;subst hc hd Ku hd2;show Pg ⟨_,ho,rfl⟩ ⟨_,Gx,rfl⟩ VK seq_tuple_add UG SU (a8 _ _)
   (tuple_addW0 a b [].toArray fZ.toArray n n2 dd Ob sl Ct rfl) ⟨ho,Gx,Ψ2 (.ref b) H ⟨I,rfl,q b H (Kp.refl _) hb⟩⟩
 ·show adG x0 s σ H _ _ v u Q I rx ry ⟨a,b,xs,ys,rfl,rfl,dD.of ha,dD.of hb,e,hz,λz=>by subst z;show q a H (Kp.refl _) (by rw[Bz];show ha),λ_ p hp=>q p _ (Kp.new hp _) B0⟩
abbrev uE:V→Option Int→Option Int→A7→Au→Prop:=λx lo hi H Q=>∃a xs,x=.ref a∧H a=some (.tup xs)∧∀c H',Kp [] H H'→H' c=some (.tup (GI xs lo hi))→Q (.ref c) H'
def ab3:JY X uE:=by
 intro x0 s σ H x v vl vu lo hi sl Q I rx hs pl pu h;let⟨a,xs,rfl,ha,q⟩:=h;show tM x0 s σ H _ v vl vu lo hi sl Q I rx hs pl pu ⟨a,xs,rfl,dD.of ha,λz=>q a H (Kp.refl _) ?_,λ_ p hp=>q p _ (Kp.new hp _) B0⟩;unfold GI;rw[z.1,z.2,HQ,OA,VW];show ha
def sF(hu:X.A.units<cLine):Bs X (compareOp .NotEq) (λx y H Q=>∃a b xs,x=.ref a∧y=.ref b∧H a=some (.tup xs)∧H b=some (.tup [])∧Q (.bl (!xs.isEmpty)) H):=by
 intro x0 s σ H x y v u Q I rx ry h;let⟨a,b,xs,rfl,rfl,ha,hb,q⟩:=h;cases rx;cases ry;let⟨its,rv,pl,hz⟩:=I.tuple (dD.of (K:=X.K) ha);let⟨fZ,vj,oG,NX⟩:=I.tuple (dD.of (K:=X.K) hb);cases vj;show SeqAt.RcNeAt.tuples (e:=λ_=>true) pl oG hu (λj h1 h2=>absurd h2 (by simp)) _ _ _ _ ⟨.bl (!xs.isEmpty),H,I,?_,q⟩;show _=Value.bool _
 congr 1
 cases xs with
 |nil=>cases rv;rfl
 |cons x r=>cases rv with|cons r1 r2=>simp
abbrev zB:Am:=λ_ H Q=>∀p,H p=none→Q (.ref p) (upd H p (.dK []))
def acS:PE X (.Dict [] [] pos) zB:=by
 show .mk ?_;intro x0 s σ H Q I h;show wpAny_Dict_empty ⟨.ref s.heap.objs.size,_,I.laid (a:=s.heap.objs.size) (o:=.dK []) (t':=s.toks) (λ_ _ q=>Al _ q) (Ak _) ?_,rfl,h _ (I.bA.fresh (Ak _))⟩;let hb:sysModules<s.heap.objs.size:=Nat.lt_trans (by decide) (I.mod.glob.keeps I.bk).lt;show⟨CV _,ad2.mpr λz=>Bp hb z.symm,[],.nil,Heap.DictOf.new s.heap⟩
abbrev FV(x:Str)(n:Nat):Str:=⟨(List.replicate n x.cps).foldl (· ++ ·) #[]⟩
def lI(x:Array Nat):∀(n:Nat) (acc:Array Nat),((List.replicate n x).foldl (· ++ ·) acc).toList=acc.toList++(List.replicate n x.toList).flatten
 |0,acc=>by simp
 |n+1,acc=>by
  rw[Gg,RD,lI x n,Gg,E9,R2,Oj]
def fM(x:Str)(n:Nat):(FV x n).cps.toList=(List.replicate n x.cps.toList).flatten:=by
 show((List.replicate n x.cps).foldl (· ++ ·) #[]).toList=_
 rw[lI];rfl
def cM(x:Str)(n:Nat):(FV x n).length=n*x.length:=by
 show(FV x n).cps.size=_
 rw[←ED,fM,len_rep,ED];rfl
def jL{x:Str}(h:n=0∨x.length=0):FV x n=Str.empty:=by
 let e:(FV x n).cps.toList=[]:=by
  apply LY
  rw[ED];show(FV x n).length=0
  rw[cM];rcases h with h|h<;>simp[h]
 show(⟨(FV x n).cps⟩:Str)=⟨#[]⟩
 congr 1
 show aem.mp (by rw[e])
def adA(x:Str):FV x 1=x:=by
 show(⟨(FV x 1).cps⟩:Str)=⟨x.cps⟩
 congr 1
 apply aem.mp
 rw[fM];simp
def rk:Bs X (binaryOp .Mult) (λx y H Q=>∃z k,x=.str z∧y=.int k∧-(2^62)<k∧k≤1000∧z.length≤1000∧Q (.str (FV z k.toNat)) H):=by
 intro x0 s σ H x y v u Q I rx ry h;let⟨z,k,rfl,rfl,k1,k2,z1,q⟩:=h;let⟨t,rfl⟩:=rx;let⟨t',rfl⟩:=ry;have hr:(decide (k < -(2^63:Int))||decide (k ≥ 2^63))=false:=by
  rw[DY (by lia),DY (by lia)];rfl
 let hm:z.length*k.toNat≤1000*1000:=Hl z1 (by lia);let hs:(1000*1000:Nat)≤sizeLine:=by decide
 show PySem.P.mul_str hr (λh1 _=>?_) (λh1 _=>?_) ?_
 ·let e:(2^63-1:Int)/k ≥ 9223372036854775:=by
   rw[ge_iff_le,Int.le_ediv_iff_mul_le (by lia)];lia
  lia
 ·show decide (z.length*k.toNat>sizeLine)=false
  show DY (by lia)
 ·by_cases c:k<1
  ·rw[AI c]
   show⟨by decide,.str Str.empty,H,I.tok _,⟨_,rfl⟩,?_⟩;rw[jL (.inl (by lia))]at q;show q
  ·rw[AH c]
   by_cases c2:(k==1||z.length==0)=true
   ·rw[AI c2]
    show Ψ2 (.str z) H ⟨I,⟨t,rfl⟩,?_⟩;rw[TN,adf,adf]at c2;rcases c2 with rfl|c2
    ·rw[show(1:Int).toNat=1 from rfl,adA]at q
     show q
    ·rw[jL (.inr c2)]at q
     let ez:z=Str.empty:=by
      show(⟨z.cps⟩:Str)=⟨#[]⟩
      congr 1
      show Array.eq_empty_of_size_eq_zero c2
     rw[ez];show q
   ·rw[AH c2]
    show⟨?_,.str (FV z k.toNat),H,I.tok _,⟨_,rfl⟩,q⟩;show(FV z k.toNat).length≤sizeLine
    rw[cM,Nat.mul_comm];lia
def acD:fillsNumberSlot (.type "tuple") "mul" = pure false:=
 PySem.fillsNumberSlot_seq (id := "tuple.__mul__") (r:=some (.builtin "tuple.__rmul__")) aeQ.lookup (by decide +kernel) F.slot_tuple_rmul.lookup (by decide +kernel)
def yz:seqRepeat? (.type "tuple")=pure (some (.builtin "tuple.__mul__")):=by
 unfold seqRepeat?;rw[PySem.seqSlot_of (T := "tuple") (name := "__mul__") (id := "tuple.__mul__") aeQ.lookup (by decide +kernel),PySem.seqSlot_of (T := "tuple") (name := "__rmul__") (id := "tuple.__rmul__") F.slot_tuple_rmul.lookup (by decide +kernel)];rfl
def ym(a:Int)(t:Tok)(l:Addr)(its:Array Value)(n:Nat)(dd:Option Addr)(sl:Array (Option Value)):
  Meets (Builtin.«int.__rmul__» ⟨[.int a t,.ref l],[]⟩) (λ_ R s=>s.heap.get? l=some {cls:=.type "tuple",dict:=dd,data:=.seq its n,slots:=sl}∧R (.ok (.ret Value.notImplemented)) s):=
 .of_wp λprog w A R s h=>by
  obtain⟨hp,g,d,tk,os⟩:=s;obtain⟨hl,h⟩:=h;wp_walk;show⟨_,rfl,h⟩
def iT(its:List Value):∀(n:Nat) (acc:Array Value),(List.replicate n its.toArray).foldl (· ++ ·) acc=(acc.toList++(List.replicate n its).flatten).toArray
 |0,acc=>by simp
 |n+1,acc=>by
  rw[Gg,RD,iT its n,Gg,E9,R2,Oj]
def vq(l:Addr)(its:List Value)(n:Nat)(dd:Option Addr)(sl:Array (Option Value))(k:Int)(t:Tok)(h1:0≤k)(h2:k≤1000)(hz:its.length≤1000):
  Meets (Builtin.«tuple.__mul__» ⟨[.ref l,.int k t],[]⟩) (λ_ R s=>s.heap.get? l=some {cls:=.type "tuple",dict:=dd,data:=.seq its.toArray n,slots:=sl}∧
   ((its=[]∨k=1)→R (.ok (.ret (.ref l))) s)∧(¬(its=[]∨k=1)→R (.ok (.ret (.ref s.heap.objs.size))) {s with heap:=s.heap.push {cls:=.type "tuple",data:=.seq (List.replicate k.toNat its).flatten.toArray}})):=by
 intro prog w A R s ⟨hl,q1,q2⟩;let ht:IsTup s.heap l its.toArray:=⟨_,hl,rfl,n,rfl⟩;show wpAny _ _ (asIndex (.int k t) >>= _) _ _ s
 show A5 (EP (a:=k) rfl ?_);show wpAny _ _ (if(decide (k < -(2^63))||decide (k ≥ 2^63))=true then _ else _) _ _ s
 rw[AH (by rw[DY (by lia),DY (by lia)];show BN)];show A5 (tupleItemsOf_ ht ?_);by_cases c:its=[]∨k=1
 ·rw[AI (by rw[TN];show c.imp (λc=>by rw[c];rfl) (λc=>by rw[c];rfl))]
  unfold Builtin.Tuple.tupleIsExact;show A5 (A5 (Iy ht.typeIs ?_));show AG ?_;rw[AI (by decide)];show A5 (Fz ?_);show AG (q1 c)
 ·let c1:¬its=[]:=λz=>c (.inl z)
  let c2:¬k=1:=λz=>c (.inr z);let c3:its.toArray.isEmpty=false:=by simpa using c1
  rw[AH (by rw[c3,Bool.false_or,adf];show c2)];show wpAny _ _ (if(decide (k≤0)||its.toArray.isEmpty)=true then _ else _) _ _ s
  let q:=q2 c;by_cases k0:k≤0
  ·rw[AI (by rw[Dp k0];rfl)]
   let e:(List.replicate k.toNat its).flatten.toArray=(#[]:Array Value):=by
    have:k.toNat=0:=by lia
    rw[this];rfl
   rw[e]at q;show A5 (m:=Builtin.Tuple.tupleExact _) ?_;show Ej (AG q) (by show 0≤sizeLine;show CV _)
  ·rw[AH (by rw[DY k0,c3];show BN)]
   let hm:its.length*k.toNat≤1000*1000:=Hl hz (by lia);let hs:(1000*1000:Nat)≤sizeLine:=by decide
   let hp:((its.toArray.size:Nat):Int)*k=((its.length*k.toNat:Nat):Int):=by
    rw[Bg]
    push_cast
    congr 1
    lia
   show wpAny _ _ (if((its.toArray.size:Nat):Int)*k>(2^63-1)/8 then _ else _) _ _ s
   rw[AH (by rw[hp];lia)];show wpAny _ _ (if Builtin.Tuple.tupleTooMany (((its.toArray.size:Nat):Int)*k)=true then _ else _) _ _ s
   rw[AH (by unfold Builtin.Tuple.tupleTooMany;rw[hp,DY (by lia)];show BN)];let e:List.foldl (λx1 x2=>x1++x2) #[] (List.replicate k.toNat its.toArray)=(List.replicate k.toNat its).flatten.toArray:=by
    have:=iT its k.toNat #[];simpa using this
   show wpAny _ _ (Builtin.Tuple.tupleExact (List.foldl (λx1 x2=>x1++x2) #[] (List.replicate k.toNat its.toArray)) >>= _) _ _ s
   rw[e];show A5 (m:=Builtin.Tuple.tupleExact _) ?_;show Ej (AG q) ?_;show(List.replicate k.toNat its).flatten.toArray.size≤sizeLine
   rw[Bg,len_rep,Nat.mul_comm];lia
def uw:Bs X (binaryOp .Mult) (λx y H Q=>∃a k xs,x=.ref a∧y=.int k∧H a=some (.tup xs)∧0≤k∧k≤1000∧xs.length≤1000∧∀c H',Kp [] H H'→H' c=some (.tup (List.replicate k.toNat xs).flatten)→Q (.ref c) H'):=by
 intro x0 s σ H x y v u Q I rx ry h;let⟨a,k,xs,rfl,rfl,ha,k1,k2,hz,q⟩:=h;cases rx;let⟨t,rfl⟩:=ry;let⟨its,r,p,z⟩:=I.tuple (dD.of (K:=X.K) ha);obtain⟨⟨cls,dd,data,sl⟩,ho,hc,n,hd⟩:=id p;simp only at hc hd;subst hc hd;let hl:=r.length;show wpAny_binaryOp_repeat_ref (T := "tuple") (U := "int") (by decide) ⟨_,ho,rfl⟩ (λs'=>typeIs_int s' k t) acD F.fills_int_mul F.slot_int_rmul yz F.slot_int_index.lookup
  (KD F.slot_int_rmul (typeIs_int s k t) F.entry_int_rmul (F.args_int_rmul_2 _ _) (ym k t a its.toArray n dd sl)
   ⟨ho,rfl,⟨_,ho,rfl⟩,KD aeQ ⟨_,ho,rfl⟩ F.entry_tuple_mul (F.args_tuple_mul_2 _ _) (vq a its n dd sl k t k1 k2 (by lia)) ⟨ho,λc=>?_,λc=>?_⟩⟩)
 ·show Ψ2 (.ref a) H ⟨I,rfl,q a H (Kp.refl _) ?_⟩
  let e:(List.replicate k.toNat xs).flatten=xs:=by
   rcases c with c|c
   ·have:xs=[]:=by cases r with|nil=>rfl|cons _ _=>cases c
    rw[this];simp
   ·rw[c];simp
  rw[e];show ha
 ·show Ψ2 (.ref s.heap.objs.size) _ ⟨I.laid (t':=s.toks) (o:=.tup (List.replicate k.toNat xs).flatten) (λb ob q=>Al _ q) (Ak _) ?_,rfl,q _ _ (Kp.new (I.bA.fresh (Ak _)) _) B0⟩
  show⟨?_,_,r.rep k.toNat,IsTup.new _ _⟩;rw[len_rep];let hm:k.toNat*xs.length≤1000*1000:=Hl (by lia) hz;let hs:(1000*1000:Nat)≤sizeLine:=by decide
  lia
def rB:∀{us:List Value},Vals (ss.map V.str) us→∃l:List (Str×Tok),us=strValues l∧l.map (·.1)=ss:=by
 induction ss with
 |nil=>intro us r;rw[GQ]at r;cases r;show⟨[],rfl,rfl⟩
 |cons x r ih=>
  intro us rv;rw[Ar]at rv;cases rv with
  |cons r1 r2=>
   let⟨t,rfl⟩:=r1;let⟨l,rfl,e⟩:=ih r2;show⟨(x,t)::l,rfl,by rw[Ar,e]⟩
abbrev EO(ss:List Str):Str:=⟨(ss.map (·.cps.toList)).flatten.toArray⟩
def lP:∀(ss:List Str) (x:Array Nat),ss.foldl (λacc (p:Str)=>acc++(Str.empty).cps++p.cps) x=(x.toList++(ss.map (·.cps.toList)).flatten).toArray
 |[],x=>by simp
 |y::r,x=>by
  rw[RD,lP r];simp[Str.empty,R2,Oj]
def tG:∀ss:List Str,Builtin.Str.glued Str.empty ss=EO ss
 |[]=>rfl
 |y::r=>by
  show(⟨r.foldl (λacc (p:Str)=>acc++(Str.empty).cps++p.cps) y.cps⟩:Str)=_
  rw[lP];rfl
def mB(sep:Nat):∀(ss:List Str) (n B:Nat),(∀y∈ss,y.length≤B)→ss.foldl (λa (p:Str)=>a+p.length+sep) n≤n+ss.length*(B+sep)
 |[],n,B,_=>by simp
 |y::r,n,B,h=>by
  rw[RD];let h1:=mB sep r (n+y.length+sep) B λz hz=>h z (ET _ hz);let h2:=h y Gd;rw[BE,Lw];lia
def fU{α:Type}(B:Nat):∀ls:List (List α),(∀l∈ls,l.length≤B)→ls.flatten.length≤ls.length*B
 |[],_=>by simp
 |l::r,h=>by
  rw[E9,B9,BE,Lw];let h1:=fU B r λz hz=>h z (ET _ hz);let h2:=h l Gd;lia
def xb{B:Nat}(h:∀y∈ss,y.length≤B):(EO ss).length≤ss.length*B:=by
 show(ss.map (·.cps.toList)).flatten.toArray.size≤_
 rw[Bg];have:=fU B (ss.map (·.cps.toList)) λl hl=>by
  let⟨y,hy,rfl⟩:=aau.mp hl;rw[ED];show h y hy
 rwa[Ac]at this
def acY:Mi X "str.join" (λx vs H Q=>∃(p:Addr) (ss:List Str),x=.str Str.empty∧vs=[.ref p]∧eB X.K H p (ss.map V.str)∧ss.length≤1000∧(∀y∈ss,y.length≤1000)∧Q (.str (EO ss)) H):=by
 intro x0 s σ H x vs v us Q I rx rv h;let⟨p,ss,rfl,rfl,hq,l1,l2,q⟩:=h;let⟨t,rfl⟩:=rx;let⟨u,rfl,ru⟩:=rv.one;cases ru;let⟨its,r,pl,hz⟩:=I.list hq;let⟨l,rfl,rfl⟩:=rB r;let hs:(1000*1000:Nat)≤sizeLine:=by decide
 let hlen:(l.map (·.1)).foldl (λa (p:Str)=>a+p.length+(Str.empty).length) 0≤1000*1000:=by
  let h1:=mB (Str.empty).length (l.map (·.1)) 0 1000 l2;let h2:(Str.empty).length=0:=rfl;rw[h2]at h1 ⊢;let h3:(l.map (·.1)).length*(1000+0)≤1000*1000:=Hl l1 (by lia);lia
 let hl:Builtin.Str.tooLong ((l.map (·.1)).toArray.foldl (· + ·.length+(Str.empty).length) 0)=false:=by
  unfold Builtin.Str.tooLong;rw[List.foldl_toArray];show DY (by lia)
 show KD F.slot_str_join (typeIs_str s _ t) F.entry_str_join (F.args_str_join_2 _ _) (meets_str_join_list Str.empty t p l hl) ⟨pl.isList,?_⟩;let fin:∀z:Str,z=EO (l.map (·.1))→Q (.str z) H:=λz e=>by rw[e];show q
 match l,tG (l.map (·.1)),fin,l1,l2 with
 |[],_,fin,_,_=>show⟨by decide,.str Str.empty,H,I.tok _,⟨_,rfl⟩,fin _ rfl⟩
 |[y],_,fin,_,_=>show Ψ2 (.str y.1) H ⟨I,⟨y.2,rfl⟩,fin _ (by simp[EO])⟩
 |y::z::r,e,fin,l1,l2=>
  show⟨?_,.str (Builtin.Str.glued Str.empty ((y::z::r).map (·.1))),H,I.tok _,⟨_,rfl⟩,fin _ e⟩;show(Builtin.Str.glued Str.empty ((y::z::r).map (·.1))).length≤sizeLine
  rw[e];let h1:=xb (B:=1000) l2;let h2:((y::z::r).map (·.1)).length*1000≤1000*1000:=Hl l1 (Ak _);lia
end
section
variable {x0: List (Addr×Obj)}{σ: St}{H: A7}{s: Shared}{h': Heap}
def Inv.nq{o:HO}(I:Inv X x0 σ H s)(k:∀b u,b∉ch→s.heap.get? b=some u→h'.get? b=some u)(hf:∀b∈ch,fK X x0 H b)(ha:s.heap.objs.size≤a)
  (new:bT X.prog X.w (upd H a o) h' a o):Inv X x0 σ (upd H a o) {s with heap:=h',toks:=t'}:=by
 let hn:H a=none:=I.bA.fresh ha;let E6:∀b u,H b=some u→b∉ch:=λb u e z=>by rw[(hf b z).1]at e;cases e
 show I.step (g':=s.gens) (d':=s.drawn) (ch:=ch) (λb hb=>?_) (λb o _ _ hc e _=>k b o hc e) (λb o _ _ hc e _=>⟨o.slots,k b o hc e⟩) (λb o _ e n=>?_)
  (λb o hc e=>⟨o,k b o hc e⟩) (λb xs e=>by rw[AW (Ba e hn)];show e) (λb u v e=>by rw[AW (Ba e hn)];show e) (λb ps e=>⟨#[],by rw[AW (Ba e hn),e];simp⟩) (λm hm=>?_) (λb u e=>?_) I.bare
 ·let⟨f0,f1,f2,f3,f4,f5⟩:=hf b hb
  show⟨f3,f1,f4,f5⟩
 ·rw[AW (Bp (D6 (Aq e) ha))]
  show n
 ·let⟨o,es,ep,ho,r⟩:=hm
  show Ψ3 o es ep ⟨k _ o (λz=>(hf _ z).2.1 rfl) ho,r⟩
 ·by_cases hb:b=a
  ·subst hb;rw[B0]at e;cases e;show new
  ·rw[AW hb]at e
   show(I.bA b u e).iR (λc v hc q=>k c v ?_ q) (λc q=>by rw[AW (Ba q hn)];show q) λc xs q=>by rw[AW (Ba q hn)];show q
   rcases hc with z|z
   ·rw[z];show E6 b u e
   ·show E6 c _ z
def Inv.nt(I:Inv X x0 σ H s)(k:∀b u,b∉ch→s.heap.get? b=some u→h'.get? b=some u)(hf:∀b∈ch,fK X x0 H b):Inv X x0 σ H {s with heap:=h',toks:=t'}:=by
 let E6:∀b u,H b=some u→b∉ch:=λb u e z=>by rw[(hf b z).1]at e;cases e
 show I.step (g':=s.gens) (d':=s.drawn) (ch:=ch) (λb hb=>?_) (λb o _ _ hc e _=>k b o hc e) (λb o _ _ hc e _=>⟨o.slots,k b o hc e⟩) (λb o _ e n=>n)
  (λb o hc e=>⟨o,k b o hc e⟩) (λb xs e=>e) (λb u v e=>e) (λb ps e=>⟨#[],by rw[e];simp⟩) (λm hm=>?_) (λb u e=>?_) I.bare
 ·let⟨f0,f1,f2,f3,f4,f5⟩:=hf b hb
  show⟨f3,f1,f4,f5⟩
 ·let⟨o,es,ep,ho,r⟩:=hm
  show Ψ3 o es ep ⟨k _ o (λz=>(hf _ z).2.1 rfl) ho,r⟩
 ·show(I.bA b u e).iR (λc v hc q=>k c v ?_ q) (λ_ q=>q) λ_ _ q=>q
  rcases hc with z|z
  ·rw[z];show E6 b u e
  ·show E6 c _ z
end
abbrev pY(c:Nat):V:=.str ⟨#[c]⟩
abbrev RJ(x:Str):It:=⟨λi _=>i<x.cps.size,λi H v H'=>H'=H∧∃c,x.cps[i]?=some c∧v=pY c,λi _=>x.cps.size≤i⟩
def zt{P:Program}{K:W.Frag}{tg:Expr}(it:Addr)(x:Str)(t:Tok)(ty:String)(Av:ty = "str_ascii_iterator" ∨ ty = "str_iterator"):Turn P w K tg (RJ x) [it] it (λi h=>h.IsStrIter it ty x t i) where
 mem:=by simp
 obj:=λi h st b hb=>by
  let e:b=it:=by simpa using hb
  subst e;let⟨o,e,c,d⟩:=st;show⟨o,e,λv z=>by rw[d]at z;cases z⟩
 keep:=λi h h' st k=>by
  let⟨o,e,r⟩:=st;show⟨o,k it (by simp) o e,r⟩
 item:=by
  intro X hP hw hK hc i x0 s σ H E I hf st hg;subst hP hw hK;let⟨f0,f1,f2,f3,f4,f5⟩:=hf it (by simp);let key:∀v h' tk,SignAt x i v→h'.IsStrIter it ty x t (i+1)→(∀b o,b∉[it]→s.heap.get? b=some o→h'.get? b=some o)→∃u,some v=some u∧
    wpAny (model X.prog X.w) X.A (letOwnedTupleGo tg (.ref it) u) (λ_ s2=>∃y H',Inv X x0 σ H' s2∧RelV y u∧(RJ x).vt i H y H'∧s2.heap.IsStrIter it ty x t (i+1)∧∀b∈[it],H' b=none) E {s with heap:=h',toks:=tk}:=by
   intro v h' tk hv dE kk;let⟨c,u,GB,rfl⟩:=hv;let I1:Inv X x0 σ H {s with heap:=h',toks:=tk}:=I.turned (λb o hb e=>kk b o (by simpa using hb) e) f0 f1 f3 f4 f5;let⟨o,e,ec,ed⟩:=id dE;show⟨_,rfl,Qm (s:={s with heap:=h',toks:=tk}) e ec ed (by rcases Av with rfl|rfl<;>decide) ⟨pY c,H,I1,⟨u,rfl⟩,⟨rfl,c,GB,rfl⟩,dE,λb hb=>(hf b hb).1⟩⟩
  rcases Av with rfl|rfl
  ·show(Walks.strAscii (prog:=X.prog) (w:=X.w) (I.ok.hd hc) it x t).item i s _ _ hg st key
  ·show(Walks.strWide (prog:=X.prog) (w:=X.w) (I.ok.hd hc) it x t).item i s _ _ hg st key
 done:=by
  intro X hP hw hK hc i x0 s σ H E I hf st hg;subst hP hw hK;let⟨f0,f1,f2,f3,f4,f5⟩:=hf it (by simp);let hx:x.cps[i]?=none:=Array.getElem?_eq_none hg;rcases Av with rfl|rfl
  ·show wpAny_pyNext_ascii_end (I.ok.hd hc) st hx λh' eb=>⟨rfl,I.turned (t':=s.toks) (λb o hb e=>eb b o hb e) f0 f1 f3 f4 f5⟩
  ·show wpAny_pyNext_wide_end (I.ok.hd hc) st hx λh' eb=>⟨rfl,I.turned (t':=s.toks) (λb o hb e=>eb b o hb e) f0 f1 f3 f4 f5⟩
 self:=λ_ _ _ _ _ st h=>by
  rcases Av with rfl|rfl
  ·show wpAny_pyIter_striter_ascii st h
  ·show wpAny_pyIter_striter_wide st h
section
variable {tg: Expr}
abbrev aaU(tl:Am):F5:=λσ H R=>tl σ H λx H1=>∃z,x=.str z∧R (RJ z) H1
def ac3{l:Expr}{tl:Am}(hl:PE X l tl):PI X tg l (aaU tl):=by
 show .mk ?_;intro x0 s σ H R I h;show Ab (hl x0 s σ H _ I h) λv s1 ξ=>Ξ23 ξ λx H1 I1 r1 q1=>?_;let⟨z,e,q⟩:=q1;subst e;let⟨t,rfl⟩:=r1;let fin:∀ty:String,(ty = "str_ascii_iterator" ∨ ty = "str_iterator")→QX X x0 σ tg R (.ref s1.heap.objs.size) {s1 with heap:=s1.heap.push {cls:=.type ty,data:=.fields #[.str z t,.int 0 0]}}:=by
  intro ty Av;show Ψ5 s1.heap.objs.size [s1.heap.objs.size] _ _ H1 ⟨rfl,I1.kept (t':=s1.toks) λb o e=>Al _ e,zt s1.heap.objs.size z t ty Av,⟨_,CM _ rfl,rfl,rfl⟩,λb hb=>?_,q⟩;let e:b=s1.heap.objs.size:=by simpa using hb
  subst e;show I1.yU (Ak _) (I1.bA.fresh (Ak _))
 cases ha:z.cps.all (· < 128)
 ·show wpAny_pyIter_wide ha (fin _ (.inr rfl))
 ·show wpAny_pyIter_ascii ha (fin _ (.inl rfl))
end
section
variable {prog: Program}{w: World}{A: Around}{E: Value→Shared→Prop}{s: Shared}
def K0{v:Value}(hj:s.heap.IsTupleIter j u i)(hu:s.heap.IsTuple u vs)(hv:vs[i]?=some v)
  (q:∀h',h'.IsTupleIter j u (i+1)→Heap.SameBut j s.heap h'→Q v {s with heap:=h'}):wpAny (model prog w) A (Builtin.SmallTypes.nextOf (.ref j)) Q E s:=by
 let⟨ob,b1,b2,b3⟩:=id hj;let⟨ou,c1,_,⟨nu,c3⟩⟩:=hu;unfold Builtin.SmallTypes.nextOf;show A5 (HM (name:=Str.ofString "__next__") hj.typeIs Rk (FZ Rk hj.typeIs F.entry_tuple_iterator_next ?_ (F.args_tuple_iterator_next_1 _)));show wpAny _ _ (field (.ref j) 0 >>= _) _ _ s
 show A5 (C3 b1 b3 (x:=.ref u) rfl ?_);show wpAny _ _ (if(Value.ref u==Value.none)=true then _ else _) _ _ s
 rw[AH (show ¬((Value.ref u==Value.none)=true)from BN)];show wpAny _ _ (field (.ref j) 1 >>= _) _ _ s
 show A5 (C3 b1 b3 (x:=.int i 0) rfl ?_);show wpAny _ _ (seqItems? (.ref u) >>= _) _ _ s
 show A5 (EA c1 c3 ?_);simp only[Jc,hv];show A5 (PV b1 b3 (by simp) (AG ⟨v,rfl,AG (q _ ?_ (Js ..))⟩));show⟨_,J4 _ b1 (Obj.isFreed_of_fields (RF b3 _)),(Obj.cls_mapFields ..).trans b2,by rw[RF b3];simp[rawInt]⟩
def PU(hh:A.handled=none)(hj:s.heap.IsTupleIter j u i)(hu:s.heap.IsTuple u vs)(hv:vs[i]?=none)
  (q:∀h' e,Heap.ExtBut j s.heap h'→(∃o,h'.get? e=some o∧o.cls=.type "StopIteration")→E (.ref e) {s with heap:=h'}):wpAny (model prog w) A (Builtin.SmallTypes.nextOf (.ref j)) Q E s:=by
 let⟨ob,b1,b2,b3⟩:=id hj;let⟨ou,c1,_,⟨nu,c3⟩⟩:=hu;unfold Builtin.SmallTypes.nextOf;show A5 (HM (name:=Str.ofString "__next__") hj.typeIs Rk (FZ Rk hj.typeIs F.entry_tuple_iterator_next ?_ (F.args_tuple_iterator_next_1 _)));show wpAny _ _ (field (.ref j) 0 >>= _) _ _ s
 show A5 (C3 b1 b3 (x:=.ref u) rfl ?_);show wpAny _ _ (if(Value.ref u==Value.none)=true then _ else _) _ _ s
 rw[AH (show ¬((Value.ref u==Value.none)=true)from BN)];show wpAny _ _ (field (.ref j) 1 >>= _) _ _ s
 show A5 (C3 b1 b3 (x:=.int i 0) rfl ?_);show wpAny _ _ (seqItems? (.ref u) >>= _) _ _ s
 show A5 (EA c1 c3 ?_);simp only[Jc,hv];show A5 (Fz (A5 (PV b1 b3 (by simp) ?_)));show wpAny _ _ (newExc (.type "StopIteration") [] >>= _) _ _ _
 show A5 ?_;simp only[newExc,newTuple];show A5 (Ej ?_ (by show 0≤sizeLine;show CV _));show A5 (m:=firstArgMember _ _) (EP (a:=Value.none) (by first|rfl|(simp only[firstArgMember]<;>rfl)) ?_)
 show Ej ?_ (by size_fits);simp only[raiseNew];show A5 (wpAny_handled ?_);first|rw[show A.in1.handled=none from hh]|rw[hh]
 show A5 (AG (wpAny_throw ?_));show q _ _ (((Js ..).extBut.push _).push _) ⟨_,CM _ rfl,rfl⟩
structure Apart(z p r j1 j2 u1 u2:Addr):Prop where
 pz:p≠z
 rz:r≠z
 vk:j1≠z
 BO:j2≠z
 pr:p≠r
 Ue:p≠j1
 Ud:p≠j2
 Hc:r≠j1
 Hb:r≠j2
 Kj:j1≠j2
 JI:u1≠z
 u1r:u1≠r
 X6:u1≠j1
 X5:u1≠j2
 Ol:u2≠z
 RI:u2≠r
 Dj:u2≠j1
 X4:u2≠j2
def GP{h h':Heap}(x:h.IsTupleIter a t i)(e:∀o,h.get? a=some o→h'.get? a=some o):h'.IsTupleIter a t i:=let⟨o,ho,r⟩:=x;⟨o,e o ho,r⟩
def xa{r:Addr}{x y a:Value}(D:Apart z p r j1 j2 u1 u2)
  (hz:IsZip s.heap z p r .none) (hp:IsPair s.heap p (.ref j1) (.ref j2)) (hr:IsPair s.heap r a b)
  (h1:s.heap.IsTupleIter j1 u1 i) (h2:s.heap.IsTupleIter j2 u2 i) (l1:s.heap.IsTuple u1 vs) (l2:s.heap.IsTuple u2 ws) (hx:vs[i]?=some x) (hy:ws[i]?=some y)
  (q:∀h',IsZip h' z p r (rawInt s.heap.objs.size)→IsPair h' r x y→h'.IsTupleIter j1 u1 (i+1)→h'.IsTupleIter j2 u2 (i+1)→IsPair h' s.heap.objs.size x y→h'.objs.size=s.heap.objs.size+1→
   (∀c o,c≠z→c≠r→c≠j1→c≠j2→s.heap.get? c=some o→h'.get? c=some o)→Q (.ref s.heap.objs.size) {s with heap:=h'}) :
  wpAny (model prog w) A (Builtin.«zip.__next__» ⟨[.ref z],[]⟩) (λfin s'=>∃v,fin=.done (.ret v)∧Q v s') E s:=by
 show wpAny _ _ (field (.ref z) 2 >>= _) _ _ _
 show A5 (C3 hz rfl (x:=.bool false) rfl ?_);show wpAny _ _ (field (.ref z) 3 >>= _) _ _ _
 show A5 (C3 hz rfl (x:=.ref p) rfl ?_);show A5 (EA hp rfl ?_);show wpAny _ _ (Builtin.SmallTypes.ownedTupleIsFree (.ref z) >>= _) _ _ _
 show A5 ?_;unfold Builtin.SmallTypes.ownedTupleIsFree;show A5 (C3 hz rfl (x:=.none) rfl (AG ?_));simp only[Gi];show A5 (Fz ?_);show A5 (C3 hz rfl (x:=.ref r) rfl ?_);show A5 (wpAny_setField_rec hz (by simp) λg1 z1 e1=>?_)
 replace z1:IsZip g1 z p r .ellipsis:=z1
 show A5 ?_;simp only[OR,Rg,JK,Ju];show A5 (A5 (Im ?_));show wpAny _ _ (Builtin.SmallTypes.nextOf (.ref j1) >>= _) _ _ _
 show A5 (K0 (h1.extBut e1.extBut D.vk) (l1.extBut e1.extBut D.JI) hx λg2 a2 e2=>AG ?_);let r2:IsPair g2 r a b:=e2.extBut _ _ D.Hc (e1.extBut _ _ D.rz hr);show A5 (EA r2 rfl ?_);show A5 (L6 r2 λg3 r3 e3=>?_)
 replace r3:IsPair g3 r x b:=r3
 show A5 (Fc (AG ?_));show A5 (A5 (Im ?_));show wpAny _ _ (Builtin.SmallTypes.nextOf (.ref j2) >>= _) _ _ _
 show A5 (K0 (((h2.extBut e1.extBut D.BO).extBut e2.extBut D.Kj.symm).extBut e3.extBut D.Hb.symm) (((l2.extBut e1.extBut D.Ol).extBut e2.extBut D.Dj).extBut e3.extBut D.RI) hy λg4 a4 e4=>AG ?_);let r4:IsPair g4 r x b:=e4.extBut _ _ D.Hb r3;show A5 (EA r4 rfl ?_);show A5 (L6 r4 λg5 r5 e5=>?_)
 replace r5:IsPair g5 r x y:=r5
 show A5 (Fc (AG (AG ?_)));show A5 (EA r5 rfl ?_);show A5 (OF ?_);let sz:g5.objs.size=s.heap.objs.size:=by rw[e5.1,e4.1,e3.1,e2.1,e1.1]
 let z5:IsZip g5 z p r .ellipsis:=e5.extBut _ _ D.rz.symm (e4.extBut _ _ D.BO.symm (e3.extBut _ _ D.rz.symm (e2.extBut _ _ D.vk.symm z1)));let k5:∀c o,c≠z→c≠r→c≠j1→c≠j2→s.heap.get? c=some o→g5.get? c=some o:=λc o n1 n2 n3 n4 e=>
  e5.extBut _ _ n2 (e4.extBut _ _ n4 (e3.extBut _ _ n2 (e2.extBut _ _ n3 (e1.extBut _ _ n1 e))))
 let b1:g5.IsTupleIter j1 u1 (i+1):=((a2.extBut e3.extBut D.Hc.symm).extBut e4.extBut D.Kj).extBut e5.extBut D.Hc.symm;let b2:g5.IsTupleIter j2 u2 (i+1):=a4.extBut e5.extBut D.Hb.symm;let zl:z<g5.objs.size:=Aq z5;show wpAny _ _ (Builtin.SmallTypes.ownedTupleHandOut (.ref z) (.ref g5.objs.size) >>= _) _ _ _
 show A5 ?_;unfold Builtin.SmallTypes.ownedTupleHandOut;let z6:IsZip (g5.push {cls:=.type "tuple",data:=.seq #[x,y]}) z p r .ellipsis:=Al _ z5;show A5 (wpAny_setField_rec z6 (by simp) λg7 z7 e7=>?_)
 replace z7:IsZip g7 z p r (rawInt g5.objs.size):=z7
 show wpAny_setField_rec z7 (by simp) λg8 z8 e8=>?_
 replace z8:IsZip g8 z p r (rawInt g5.objs.size):=z8
 let up:∀c o,c≠z→g5.get? c=some o→g8.get? c=some o:=λc o n1 e=>e8.extBut _ _ n1 (e7.extBut _ _ n1 (Al _ e));let t8:IsPair g8 g5.objs.size x y:=e8.extBut _ _ (Hu zl) (e7.extBut _ _ (Hu zl) (CM _ rfl));let s8:g8.objs.size=g5.objs.size+1:=by rw[e8.1,e7.1,Eg]
 rw[sz]at z8 t8 s8;show AG ⟨_,rfl,?_⟩;show Q (.ref g5.objs.size) _
 rw[sz];show q g8 z8 (up _ _ D.rz r5) (GP b1 λo e=>up _ o D.vk e) (GP b2 λo e=>up _ o D.BO e) t8 s8 λc o n1 n2 n3 n4 e=>up c o n1 (k5 c o n1 n2 n3 n4 e)
def w5{r:Addr}{a:Value}{Q:Fin→Shared→Prop}(hh:A.handled=none)(D:Apart z p r j1 j2 u1 u2)
  (hz:IsZip s.heap z p r .none) (hp:IsPair s.heap p (.ref j1) (.ref j2)) (hr:IsPair s.heap r a b)
  (h1:s.heap.IsTupleIter j1 u1 i) (h2:s.heap.IsTupleIter j2 u2 i) (l1:s.heap.IsTuple u1 vs) (l2:s.heap.IsTuple u2 ws) (Ft:vs[i]?=none∨ws[i]?=none)
  (q:∀h' e,(∀c o,c≠z→c≠r→c≠j1→c≠j2→s.heap.get? c=some o→h'.get? c=some o)→(∃o,h'.get? e=some o∧o.cls=.type "StopIteration")→E (.ref e) {s with heap:=h'}) :
  wpAny (model prog w) A (Builtin.«zip.__next__» ⟨[.ref z],[]⟩) Q E s:=by
 show wpAny _ _ (field (.ref z) 2 >>= _) _ _ _
 show A5 (C3 hz rfl (x:=.bool false) rfl ?_);show wpAny _ _ (field (.ref z) 3 >>= _) _ _ _
 show A5 (C3 hz rfl (x:=.ref p) rfl ?_);show A5 (EA hp rfl ?_);show wpAny _ _ (Builtin.SmallTypes.ownedTupleIsFree (.ref z) >>= _) _ _ _
 show A5 ?_;unfold Builtin.SmallTypes.ownedTupleIsFree;show A5 (C3 hz rfl (x:=.none) rfl (AG ?_));simp only[Gi];show A5 (Fz ?_);show A5 (C3 hz rfl (x:=.ref r) rfl ?_);show A5 (wpAny_setField_rec hz (by simp) λg1 z1 e1=>?_)
 replace z1:IsZip g1 z p r .ellipsis:=z1
 show A5 ?_;simp only[OR,Rg,JK,Ju];show A5 (A5 (Im ?_));show wpAny _ _ (Builtin.SmallTypes.nextOf (.ref j1) >>= _) _ _ _
 cases hx:vs[i]? with
 |none=>
  show A5 (PU hh (h1.extBut e1.extBut D.vk) (l1.extBut e1.extBut D.JI) hx λg2 e e2 he=>?_);let⟨oe,yP,Fu⟩:=he;let z2:IsZip g2 z p r .ellipsis:=e2 _ _ D.vk.symm z1;let MB:e≠z:=λx=>by subst x;rw[z2]at yP;cases yP;simp at Fu
  show wpAny_setField_rec z2 (by simp) λg3 _ e3=>q g3 e (λc o n1 _ n3 _ x=>e3.extBut _ _ n1 (e2 _ _ n3 (e1.extBut _ _ n1 x))) ⟨oe,e3.extBut _ _ MB yP,Fu⟩
 |some x=>
  have hy:ws[i]?=none:=by rcases Ft with h|h;rw[hx]at h;cases h;show h
  show A5 (K0 (h1.extBut e1.extBut D.vk) (l1.extBut e1.extBut D.JI) hx λg2 a2 e2=>AG ?_);let r2:IsPair g2 r a b:=e2.extBut _ _ D.Hc (e1.extBut _ _ D.rz hr);show A5 (EA r2 rfl ?_);show A5 (L6 r2 λg3 r3 e3=>?_);show A5 (Fc (AG ?_));show A5 (A5 (Im ?_));show wpAny _ _ (Builtin.SmallTypes.nextOf (.ref j2) >>= _) _ _ _
  show A5 (PU hh (((h2.extBut e1.extBut D.BO).extBut e2.extBut D.Kj.symm).extBut e3.extBut D.Hb.symm) (((l2.extBut e1.extBut D.Ol).extBut e2.extBut D.Dj).extBut e3.extBut D.RI) hy λg4 e e4 he=>?_);let⟨oe,yP,Fu⟩:=he;let z4:IsZip g4 z p r .ellipsis:=e4 _ _ D.BO.symm (e3.extBut _ _ D.rz.symm (e2.extBut _ _ D.vk.symm z1));let MB:e≠z:=λx=>by subst x;rw[z4]at yP;cases yP;simp at Fu
  show wpAny_setField_rec z4 (by simp) λg5 _ e5=>q g5 e (λc o n1 n2 n3 n4 x=>e5.extBut _ _ n1 (e4 _ _ n4 (e3.extBut _ _ n2 (e2.extBut _ _ n3 (e1.extBut _ _ n1 x))))) ⟨oe,e5.extBut _ _ MB yP,Fu⟩
end
@[reducible]def Qe(h:Heap)(a:Addr):Heap:=h.push {cls:=.type "tuple_iterator",data:=.fields #[.ref a,.int 0 0]}
@[reducible]def S0(h:Heap)(a b:Addr):Heap:=(Qe h a).push {cls:=.type "tuple_iterator",data:=.fields #[.ref b,.int 0 0]}
@[reducible]def Pt(h:Heap)(a b:Addr):Heap:=(S0 h a b).push {cls:=.type "tuple",data:=.seq #[.ref h.objs.size,.ref (Qe h a).objs.size]}
@[reducible]def Pl(h:Heap)(a b:Addr):Heap:=(Pt h a b).push {cls:=.type "tuple",data:=.seq #[.none,.none]}
@[reducible]def LD(h:Heap)(a b:Addr):Heap:=(Pl h a b).push {cls:=.type "zip",data:=.fields #[.none,.bool false,.bool false,.ref (S0 h a b).objs.size,.ref (Pt h a b).objs.size]}
def acU(a b:Addr)(vs ws:Array Value):
  Meets (Builtin.«zip.__new__» ⟨[.type "zip",.ref a,.ref b],[]⟩) (λ_ R s=>s.heap.IsTuple a vs∧s.heap.IsTuple b ws∧R (.ok (.ret (.ref (Pl s.heap a b).objs.size))) {s with heap:=LD s.heap a b}):=
 .of_wp λprog w A R s h=>by
  obtain⟨hp,g,d,tk,os⟩:=s;obtain⟨la,lb,h⟩:=h;let UU:=sub_zip;let L1:Heap.IsTuple (Shared.heap ⟨hp,g,d,tk,os⟩) a vs:=la;let L2:Heap.IsTuple (Shared.heap ⟨hp.push {cls:=.type "tuple_iterator",data:=.fields #[.ref a,.int 0 0]},g,d,tk,os⟩) b ws:=Heap.IsTuple.push lb _
  wp_walk using Mw L1,Mw L2
  show⟨_,rfl,h⟩
def abA{b:Addr}(la:s.heap.IsTuple a vs)(lb:s.heap.IsTuple b ws)
  (q:∀h',IsZip h' (s.heap.objs.size+4) (s.heap.objs.size+2) (s.heap.objs.size+3) .none→IsPair h' (s.heap.objs.size+2) (.ref s.heap.objs.size) (.ref (s.heap.objs.size+1))→
   IsPair h' (s.heap.objs.size+3) .none .none→h'.IsTupleIter s.heap.objs.size a 0→h'.IsTupleIter (s.heap.objs.size+1) b 0→(∀c o,s.heap.get? c=some o→h'.get? c=some o)→Q (.ref (s.heap.objs.size+4)) {s with heap:=h'}) :
  wpAny (model prog w) A (call (.type "zip") [.ref a,.ref b]) Q E s:=by
 show callType_new F.called_zip (by decide) (F.typeCall_zip_2 _ _) (F.newCall_zip_2 _ _) (λobj=>F.args_object_init_3 obj _ _) F.entry_zip_new (acU a b vs ws) ⟨la,lb,?_⟩;let z1:(Qe s.heap a).objs.size=s.heap.objs.size+1:=Eg ..;let z2:(S0 s.heap a b).objs.size=s.heap.objs.size+2:=by rw[Eg,z1]
 let z3:(Pt s.heap a b).objs.size=s.heap.objs.size+3:=by rw[Eg,z2]
 let z4:(Pl s.heap a b).objs.size=s.heap.objs.size+4:=by rw[Eg,z3]
 let g5:(LD s.heap a b).get? (Pl s.heap a b).objs.size=some _:=CM _ rfl;let g4:(LD s.heap a b).get? (Pt s.heap a b).objs.size=some _:=Al _ (CM _ rfl);let g3:(LD s.heap a b).get? (S0 s.heap a b).objs.size=some _:=Al _ (Al _ (CM _ rfl));let g2:(LD s.heap a b).get? (Qe s.heap a).objs.size=some _:=Al _ (Al _ (Al _ (CM _ rfl)));let g1:(LD s.heap a b).get? s.heap.objs.size=some _:=Al _ (Al _ (Al _ (Al _ (CM _ rfl))));show _∧_
 rw[z2,z3,z4]at g5;rw[z1,z2]at g3;rw[z3]at g4;rw[z1]at g2;rw[z4];show⟨⟨_,g5,rfl⟩,q _ g5 g3 g4 ⟨_,g1,rfl,rfl⟩ ⟨_,g2,rfl,rfl⟩ λc o x=>Al _ (Al _ (Al _ (Al _ (Al _ x))))⟩
def apart_new{n b:Addr}(ha:a<n)(hb:b<n):Apart (n+4) (n+2) (n+3) n (n+1) a b:=by
 let ne:∀i j:Nat,i≠j→(Nat.add n i:Addr)≠Nat.add n j:=λi j h e=>h (Nat.add_left_cancel e);let lo:∀(c:Addr) (i:Nat),c<n→c≠Nat.add n i:=λc i h=>Bp (D6 h (Mu n i));show⟨ne 2 4 (by decide),ne 3 4 (by decide),ne 0 4 (by decide),ne 1 4 (by decide),ne 2 3 (by decide),ne 2 0 (by decide),ne 2 1 (by decide),ne 3 0 (by decide),ne 3 1 (by decide),ne 0 1 (by decide),
  lo a 4 ha,lo a 3 ha,lo a 0 ha,lo a 1 ha,lo b 4 hb,lo b 3 hb,lo b 0 hb,lo b 1 hb⟩
end L2
namespace L2
open PySem PySem.Spec PyProof.Rows PySem.W PySem.Calls PySem.Builtin PySem.Builtin.ObjectAttr PySem.Builtin.Getset_descriptor
variable {M:Model}{h:Heap}{tk:Tok}
structure Fg(K:Frag)(D:Addr):Prop where
 ga:findIn K (.ref D) "__getattribute__" = some (some (.builtin "BaseException.__getattribute__"))
 hk:findIn K (.ref D) "__getattr__" = some none
 cl:findIn K (.ref D) "__class__" = some (some (.builtin "object.__class__"))
 gt:specialIn K (.builtin "object.__class__") "__get__" = some (some (.builtin "getset_descriptor.__get__"))
 tk:takesIn K (.builtin "object.__class__")=some true
 ob:mroIn K D (.type "object")=some true
 bx:mroIn K D (.type "BaseException")=some true
 cd:(clsIn K D).isSome=true
abbrev pA(x D:Addr):Heap→Prop:=λh=>∃o,h.get? x=some o∧o.cls=.ref D
section
variable {K: Frag}{x D: Addr}
def pA.type(I:pA x D h):Looks M h (typeOf (.ref x)) (.ref D):=by
 let⟨o,e,c⟩:=I;show c ▸ (Looks.ld e).andThen .now
def aab(X:K.In h)(F:Fg K D):Looks M h (find (.ref x) (.ref D) "__class__") (.bind (.builtin "getset_descriptor.__get__") (.builtin "object.__class__")):=by
 let n1:=looks_findIn (M:=M) X F.cl;let n2:Looks M h (getOf (some (.builtin "object.__class__"))) (some (.builtin "getset_descriptor.__get__")):=looks_specialIn X F.gt;let n3:=looks_takesIn (M:=M) X F.tk;let n4:Looks M h (dataDescriptor? (some (.builtin "object.__class__")) (some (.builtin "getset_descriptor.__get__"))) (some (.builtin "getset_descriptor.__get__",.builtin "object.__class__")):=n3.andThen .now;show n1.andThen (n2.andThen (n4.andThen (Looks.tag .now)))
variable {prog: Program}{w: World}{A: Around}{E: Value→Shared→Prop}{s: Shared}
def yx{tp:Value}{R:Result→Shared→Prop}(X:K.In s.heap)(F:Fg K D)(I:pA x D s.heap)(h:R (.ok (.ret (.ref D))) s):
  codeAny (model prog w) A (.call (.builtin "getset_descriptor.__get__") ⟨[.builtin "object.__class__",.ref x,tp],[]⟩) R s:=by
 obtain⟨hh,gg,dr,tt,os⟩:=s;let n0:=I.type (M:=model prog w);let n1:=looks_mroIn (M:=model prog w) X F.ob;show codeAny_call_builtin KF.slot_gs.plain KF.entry_gs (KF.slot_gs.check _ _ _ _ _ _ _ _ KF.type_class (KF.args_gs _ _ _) ?_);unfold Builtin.«getset_descriptor.__get__» descrGet;rw[dga_obj];show A5 (AG ?_);unfold descrGetter descrCheckInstance descrNameAndClass isInstance;simp only[KF.owner_class]
 repeat lk
 show⟨Code.quiet_builtin _ (by decide +kernel),Ib KF.entry_class ?_⟩;unfold Builtin.«object.__class__» shownTypeOf
 repeat lk
 show h
def aee{Q:Fin→Shared→Prop}(X:K.In s.heap)(F:Fg K D)(I:pA x D s.heap)(h:Q (.done (.ret (.ref D))) s):
  wpAny (model prog w) A (Builtin.«object.__getattribute__» ⟨[.ref x,.str "__class__" tk],[]⟩) Q E s:=by
 let n0:=I.type (M:=model prog w);let n1:=aab (M:=model prog w) (x:=x) X F;show A5 (AG ?_);show A5 (AG ?_);show A5 (n0.at ?_);show A5 (n1.at ?_);show wpAny _ _ (holding [.builtin "object.__class__"] (call (.builtin "getset_descriptor.__get__") [.builtin "object.__class__",.ref x,.ref D]) >>= ret) _ _ _
 show A5 (Dx (OG (yx X F I (AG h))))
def aaN{An:Value}{Q:Unit→Shared→Prop}(X:K.In s.heap)(F:Fg K D)(I:pA x D s.heap)(h:Q () s):wpAny (model prog w) A (checkBuiltinCall "BaseException.__getattribute__" ⟨[.ref x,An],[]⟩) Q E s:=by
 let b1:builtinKind "BaseException.__getattribute__" = some .slot:=by decide +kernel
 let b2:splitId "BaseException.__getattribute__" = some ("BaseException","__getattribute__"):=by decide +kernel
 let n0:=I.type (M:=model prog w);let n1:=looks_mroIn (M:=model prog w) X F.bx;let b3:=PySem.F.args_bexc_ga (.ref x) An;obtain⟨hh,gg,dr,tt,os⟩:=s;simp only[checkBuiltinCall,b1,b2];show A5 ?_;unfold isInstance;show A5 (n0.at ?_);show n1.at ?_;rw[AH (by decide)];cases UW:Manifest.signature? "BaseException.__getattribute__" with
 |none=>show AG h
 |some sig=>
  simp only[argsOk,UW]at b3;let b4:Bind.checkArgs "BaseException.__getattribute__" sig ⟨[.ref x,An],[]⟩=pure ():=b3;show wpAny _ _ (Bind.checkArgs "BaseException.__getattribute__" sig ⟨[.ref x,An],[]⟩) _ _ _
  rw[b4];show AG h
def adF{R:Result→Shared→Prop}(X:K.In s.heap)(F:Fg K D)(I:pA x D s.heap)(h:R (.ok (.ret (.ref D))) s):
  codeAny (model prog w) A (.call (.builtin "BaseException.__getattribute__") ⟨[.ref x,.str "__class__" tk],[]⟩) R s:=
 codeAny_call_builtin (by decide +kernel) PySem.F.entry_bexc_ga (aaN X F I (aee X F I h))
def aai{Q:Option Value→Shared→Prop}(X:K.In s.heap)(F:Fg K D)(I:pA x D s.heap)(h:Q (some (.ref D)) {s with toks:=s.toks+1}):wpAny (model prog w) A (getAttr? (.ref x) "__class__") Q E s:=by
 obtain⟨hh,gg,dr,tt,os⟩:=s;let n0:=I.type (M:=model prog w);let n1:=looks_findIn (M:=model prog w) X F.ga;let n2:=looks_findIn (M:=model prog w) X F.hk;unfold getAttr? getAttrBy? getAttrBy;show A5 (wpAny_mkText (A5 (Hm (Dx (A5 (n0.at (A5 (n1.at ?_))))))));show wpAny _ _ (getAttrByItsOwn _ _ _ _ _ _) _ _ _
 unfold getAttrByItsOwn hookBefore;show A5 ?_;show n2.at ?_;show A5 (Hm (Dx ?_));let b1:bindSpecial (.builtin "BaseException.__getattribute__") (.ref x)=pure (.builtin "BaseException.__getattribute__",[.ref x]):=by kernel_rfl
 show wpAny _ _ (bindSpecial (.builtin "BaseException.__getattribute__") (.ref x) >>= _) _ _ _
 rw[b1];show A5 (AG ?_);show OG (adF X F I ?_);show EP (handedOut_of rfl) (AG h)
def gI(F:Fg K D):KitX K (.ref x) (.ref D) (pA x D) where
 ty:=λ_ _ _ I=>I.type
 it:=λ_ _ X _=>by
  let⟨cd,hc⟩:=acz.mp F.cd;unfold clsIn at hc;split at hc
  ·rename_i c' d' cd' Pk ho
   intro A' Q' E' s' k q;unfold isType loadHead;show A5 (wpAny_loadPart (k _ _ (X _ _ ho)) (AG q))
  ·cases hc
 ne:=λh tp dd its n sl X Y8=>by
  let⟨cd,hc⟩:=acz.mp F.cd;show Bool.eq_false_iff.mpr λq=>?_;let e:D=tp:=Value.ref.inj (adf.mp q);subst e;unfold clsIn at hc;split at hc
  ·rename_i c' d' cd' Pk ho
   let z:=(X _ _ ho).symm.trans Y8;cases z
  ·cases hc
 ca:=λX I k=>aai X F I k
end
end L2
namespace L2
open PySem PySem.Spec PyProof.Rows
variable {z p r j1 j2 u1 u2: Addr}{t S k f:Addr}{i t' n:Nat}{vs:Array Value}{x y:V}{fl:Bool}{ot o:Obj}{Q:xz}{A:Around}{E: Value→Shared→Prop}{H':A7}{ts:List Addr}{K:W.Frag}{res:Value}{P:Program}{w:World}{s: Shared}{H: A7}{h':Heap}{zs:List Str}{xs ys: List V}{X: Cx}{x0: List (Addr×Obj)}{σ: St}
abbrev more(S:Str→Bool)(n:Nat)(k:Str):Nat:=if S k then n else n+1
inductive zu:V→Value→Prop
 |own (a:Addr):zu (.ref a) (.ref a)
 |ty (T:String):zu (.ty T) (.type T)
inductive rO:List V→List Value→Prop
 |nil:rO [] []
 |cons {v:V} {c:Value} {vs:List V} {cs:List Value}:zu v c→rO vs cs→rO (v::vs) (c::cs)
def zu.rel{v:V}{c u:Value}(h:zu v c)(r:RelV v u):u=c:=by
 cases h with
 |own a=>show r
 |ty T=>show r
def rO.rel:∀{vs:List V} {cs us:List Value},rO vs cs→Vals vs us→us=cs
 |_,_,_,.nil,.nil=>rfl
 |_,_,_,.cons h t,.cons r rs=>by rw[h.rel r,t.rel rs]
section
def tP:Eb X (.builtin "isinstance") (λxs H Q=>∃(x D:Addr) (cv:V) (c:Value) (b:Bool),xs=[.ref x,cv]∧zu cv c∧Fg X.K D∧H x=some (.ext (pA x D))∧W.kitOne X.K (.ref D) c=some b∧Q (.bl b) H):=by
 intro x0 s σ H xs us Q I r h;let⟨x,D,cv,c,b,rfl,hc,F,hx,e,q⟩:=h;let⟨u,w',rfl,ru,qp⟩:=vals2 r;cases ru;have:=hc.rel qp;subst this;show GO (gI F) I.qY (I.bA x _ hx).1 e (λz=>nomatch z) λtk=>Ψ2 (.bl b) H ⟨I.tok tk,rfl,q⟩
def aaz:Eb X (.builtin "isinstance") (λxs H Q=>∃(x D p:Addr) (SF:List V) (cs:List Value) (b:Bool),xs=[.ref x,.ref p]∧H p=some (.tup SF)∧rO SF cs∧Fg X.K D∧H x=some (.ext (pA x D))∧W.kitAny X.K (.ref D) cs=some b∧Q (.bl b) H):=by
 intro x0 s σ H xs us Q I r h;let⟨x,D,p,SF,cs,b,rfl,hp,hc,F,hx,e,q⟩:=h;let⟨u,w',rfl,ru,qp⟩:=vals2 r;cases ru;cases qp;let⟨_,⟨its,rv,⟨o,h1,h2,⟨n,h3⟩⟩⟩⟩:=(show bT X.prog X.w H s.heap p (.tup SF)from I.bA p _ hp);have:=hc.rel rv;subst this;obtain⟨oc,od,odt,yn⟩:=o;cases h2;cases h3;show W.kia_tup (gI F) I.qY (I.bA x _ hx).1 h1 e (λz=>nomatch z) λtk=>Ψ2 (.bl b) H ⟨I.tok tk,rfl,q⟩
end
section
variable {prog: Program}{w: World}{A: Around}
@[reducible]def Jo(h:Heap)(z p r:Addr)(own flag:Value):Prop:=h.get? z=some {cls:=.type "zip",dict:=none,data:=.fields #[own,flag,.bool false,.ref p,.ref r],slots:=#[]}
def abl{z p r j1 j2 u1 u2:Addr}{ws:Array Value}{x y:Value}(D:Apart z p r j1 j2 u1 u2)(tz:t≠z)
  (hz:Jo s.heap z p r (rawInt t) (.bool fl)) (ht:s.heap.get? t=some ot) (hp:IsPair s.heap p (.ref j1) (.ref j2))
  (h1:s.heap.IsTupleIter j1 u1 i) (h2:s.heap.IsTupleIter j2 u2 i) (l1:s.heap.IsTuple u1 vs) (l2:s.heap.IsTuple u2 ws) (hx:vs[i]?=some x) (hy:ws[i]?=some y)
  (q:∀h' T,s.heap.objs.size≤T→Jo h' z p r (rawInt t) (.bool true)→h'.IsTupleIter j1 u1 (i+1)→h'.IsTupleIter j2 u2 (i+1)→IsPair h' T x y→
   (∀c o,c≠z→c≠j1→c≠j2→s.heap.get? c=some o→h'.get? c=some o)→Q (.ref T) {s with heap:=h'}) :
  wpAny (model prog w) A (Builtin.«zip.__next__» ⟨[.ref z],[]⟩) (λfin s'=>∃v,fin=.done (.ret v)∧Q v s') E s:=by
 show wpAny _ _ (field (.ref z) 2 >>= _) _ _ _
 show A5 (C3 hz rfl (x:=.bool false) rfl ?_);show wpAny _ _ (field (.ref z) 3 >>= _) _ _ _
 show A5 (C3 hz rfl (x:=.ref p) rfl ?_);show A5 (EA hp rfl ?_);show wpAny _ _ (Builtin.SmallTypes.ownedTupleIsFree (.ref z) >>= _) _ _ _
 let own:wpAny (model prog w) A (Builtin.SmallTypes.ownedTupleIsFree (.ref z)) (λb s'=>b=false∧∃g1,s'={s with heap:=g1}∧Jo g1 z p r (rawInt t) (.bool true)∧Heap.SameBut z s.heap g1) E s:=by
  unfold Builtin.SmallTypes.ownedTupleIsFree;show A5 (C3 hz rfl (x:=rawInt t) rfl ?_);show wpAny _ _ (loadIfAlive ((t:Nat):Int).toNat >>= _) _ _ _
  rw[Jc];show A5 (W.kdx_alive ht ?_);dsimp only[Option.isNone];rw[AH BN];show A5 (C3 hz rfl (x:=.bool fl) rfl ?_);cases fl with
  |true=>show AG ⟨rfl,s.heap,rfl,hz,Heap.SameBut.refl _ _⟩
  |false=>
   rw[AI (by decide)];show A5 (wpAny_setField_rec hz (by simp) λg1 z1 e1=>AG ⟨rfl,g1,rfl,z1,e1⟩)
 show A5 (DC own (λb s' hb=>?_) λ_ _ e=>e);let⟨rfl,⟨g1,rfl,z1,e1⟩⟩:=hb;rw[AH BN];show A5 ?_;simp only[←Ye,JK,Ju];show A5 (A5 (Dx ?_));show wpAny _ _ (Builtin.SmallTypes.nextOf (.ref j1) >>= _) _ _ _
 show A5 (K0 (h1.extBut e1.extBut D.vk) (l1.extBut e1.extBut D.JI) hx λg2 a2 e2=>AG ?_);show AG ?_;dsimp only;show A5 (A5 (Dx ?_));show wpAny _ _ (Builtin.SmallTypes.nextOf (.ref j2) >>= _) _ _ _
 show A5 (K0 ((h2.extBut e1.extBut D.BO).extBut e2.extBut D.Kj.symm) ((l2.extBut e1.extBut D.Ol).extBut e2.extBut D.Dj) hy λg3 a3 e3=>AG ?_);show AG ?_;dsimp only;show AG ?_;dsimp only;let sz:g3.objs.size=s.heap.objs.size:=by rw[e3.1,e2.1,e1.1]
 show A5 (OF (hsz:=by show 2≤sizeLine;decide) ?_);show AG ⟨_,rfl,?_⟩;let up:∀c o,g3.get? c=some o→(g3.push {cls:=.type "tuple",data:=.seq #[x,y]}).get? c=some o:=λc o e=>Al _ e;show q _ g3.objs.size (by rw[sz];show Ak _) (up _ _ (e3.extBut _ _ D.BO.symm (e2.extBut _ _ D.vk.symm z1))) (GP (a2.extBut e3.extBut D.Kj) λo e=>up _ o e) (GP a3 λo e=>up _ o e) (CM _ rfl) λc o n1 n2 n3 e=>up _ o (e3.extBut _ _ n3 (e2.extBut _ _ n2 (e1.extBut _ _ n1 e)))
def vB{z p r j1 j2 u1 u2:Addr}{Q:Fin→Shared→Prop}(hh:A.handled=none)(D:Apart z p r j1 j2 u1 u2)
  (hz:Jo s.heap z p r (rawInt t) (.bool fl)) (ht:s.heap.get? t=some ot) (hp:IsPair s.heap p (.ref j1) (.ref j2))
  (h1:s.heap.IsTupleIter j1 u1 i) (l1:s.heap.IsTuple u1 vs) (hx:vs[i]?=none)
  (q:∀h' e,(∀c o,c≠z→c≠j1→c≠j2→s.heap.get? c=some o→h'.get? c=some o)→(∃o,h'.get? e=some o∧o.cls=.type "StopIteration")→E (.ref e) {s with heap:=h'}) :
  wpAny (model prog w) A (Builtin.«zip.__next__» ⟨[.ref z],[]⟩) Q E s:=by
 show wpAny _ _ (field (.ref z) 2 >>= _) _ _ _
 show A5 (C3 hz rfl (x:=.bool false) rfl ?_);show wpAny _ _ (field (.ref z) 3 >>= _) _ _ _
 show A5 (C3 hz rfl (x:=.ref p) rfl ?_);show A5 (EA hp rfl ?_);show wpAny _ _ (Builtin.SmallTypes.ownedTupleIsFree (.ref z) >>= _) _ _ _
 let own:wpAny (model prog w) A (Builtin.SmallTypes.ownedTupleIsFree (.ref z)) (λb s'=>b=false∧∃g1,s'={s with heap:=g1}∧Heap.SameBut z s.heap g1) E s:=by
  unfold Builtin.SmallTypes.ownedTupleIsFree;show A5 (C3 hz rfl (x:=rawInt t) rfl ?_);show wpAny _ _ (loadIfAlive ((t:Nat):Int).toNat >>= _) _ _ _
  rw[Jc];show A5 (W.kdx_alive ht ?_);dsimp only[Option.isNone];rw[AH BN];show A5 (C3 hz rfl (x:=.bool fl) rfl ?_);cases fl with
  |true=>show AG ⟨rfl,s.heap,rfl,Heap.SameBut.refl _ _⟩
  |false=>
   rw[AI (by decide)];show A5 (wpAny_setField_rec hz (by simp) λg1 z1 e1=>AG ⟨rfl,g1,rfl,e1⟩)
 show A5 (DC own (λb s' hb=>?_) λ_ _ e=>e);let⟨rfl,⟨g1,rfl,e1⟩⟩:=hb;rw[AH BN];show A5 ?_;simp only[←Ye,JK,Ju];show A5 (A5 (Dx ?_));show wpAny _ _ (Builtin.SmallTypes.nextOf (.ref j1) >>= _) _ _ _
 show A5 (PU hh (h1.extBut e1.extBut D.vk) (l1.extBut e1.extBut D.JI) hx λg2 e e2 he=>q g2 e (λc o n1 n2 n3 x=>e2 _ _ n2 (e1.extBut _ _ n1 x)) he)
end
section
variable {t: Addr}
def fK.upd{b T:Addr}{o:HO}(h:fK X x0 H b)(n:b≠T):fK X x0 (L2.upd H T o) b:=⟨by rw[AW n];show h.1,h.2⟩
def ad0{E:xz}{Q:Option Value→Shared→Prop}{tv:List V}(I:Inv X x0 σ H s)(D:Apart z p r j1 j2 u1 u2)(hf:∀b∈[z,p,r,j1,j2],fK X x0 H b)
  (hz:Jo s.heap z p r (rawInt t) (.bool fl)) (ht:H t=some (.tup tv)) (hp:IsPair s.heap p (.ref j1) (.ref j2)) (hr:∃u v,IsPair s.heap r u v) (h1:s.heap.IsTupleIter j1 u1 i) (h2:s.heap.IsTupleIter j2 u2 i)
  (sE:dD X.K H u1 xs) (uH:dD X.K H u2 ys) (hx:xs[i]?=some x) (hy:ys[i]?=some y)
  (q:∀T h',H T=none→Inv X x0 σ (upd H T (.tup [x,y])) {s with heap:=h'}→(∀b∈[z,p,r,j1,j2],fK X x0 (upd H T (.tup [x,y])) b)→Jo h' z p r (rawInt t) (.bool true)→IsPair h' p (.ref j1) (.ref j2)→(∃u v,IsPair h' r u v)→
   h'.IsTupleIter j1 u1 (i+1)→h'.IsTupleIter j2 u2 (i+1)→Q (some (.ref T)) {s with heap:=h'}):wpAny (model X.prog X.w) A (pyNext (.ref z)) Q E s:=by
 let⟨its,rv,pl,_⟩:=I.tuple sE;let⟨fZ,vj,oG,_⟩:=I.tuple uH;let⟨J3,ex,rx⟩:=rv.get hx;let⟨vy,ey,ry⟩:=vj.get hy;let hT:s.TypeIs (.ref z) "zip" :=⟨_,hz,rfl⟩;let tz:t≠z:=λe=>by rw[e,(hf z (by simp)).1]at ht;cases ht
 let⟨_,⟨YS,_,⟨ot,ho,_⟩⟩⟩:=(show bT X.prog X.w H s.heap t (.tup tv)from I.bA t _ ht);unfold pyNext;show A5 (Hm (HM (name:=Str.ofString "__next__") hT GZ (FZ GZ hT LO
  (abl D tz hz ho hp h1 h2 pl oG (by simpa using ex) (by simpa using ey) λg T Vs a1 a3 a4 a5 a7=>AG ?_) (Lg _))))
 let zl:z<s.heap.objs.size:=Aq hz;let lt:∀c∈[z,p,r,j1,j2],c≠T:=λc hc e=>by
  let h0:=(hf c hc);have:c<s.heap.objs.size:=by
   simp only[aah,BI,D7]at hc;let⟨_,q1,_⟩:=h1;let⟨_,q2,_⟩:=h2;rcases hc with rfl|rfl|rfl|rfl|rfl
   ·show zl
   ·show Aq hp
   ·let⟨_,_,q3⟩:=hr
    show Aq q3
   ·show Aq q1
   ·show Aq q2
  show absurd (e ▸ this) (Nat.not_lt.mpr Vs)
 let⟨ru,TX,IV⟩:=hr;show q T g (I.bA.fresh Vs) (I.nq (t':=s.toks) (ch:=[z,j1,j2]) (λc o hc e=>?_) (λc hc=>hf c ?_) Vs ⟨by show 2≤sizeLine;decide,[J3,vy],.cons rx (.cons ry .nil),⟨_,a5,rfl,0,rfl⟩⟩) (λb hb=>(hf b hb).upd (lt b hb)) a1 (a7 _ _ D.pz D.Ue D.Ud hp) ⟨ru,TX,a7 _ _ D.rz D.Hc D.Hb IV⟩ a3 a4
 ·simp only[aah,BI,D7,not_or]at hc
  show a7 c o hc.1 hc.2.1 hc.2.2 e
 ·simp only[aah,BI,D7]at hc ⊢
  rcases hc with rfl|rfl|rfl<;>simp
abbrev AZ(H:A7)(xs ys:List V)(ts:List Addr):Prop:=∀(j:Nat) (t:Addr),ts[j]?=some t→∃x y,xs[j]?=some x∧ys[j]?=some y∧H t=some (.tup [x,y])
def AZ.keep(h:AZ H xs ys ts)(k:∀b v,H b=some (.tup v)→H' b=some (.tup v)):AZ H' xs ys ts:=λj t e=>by
 let⟨x,y,a,b,c⟩:=h j t e;show Ψ2 x y ⟨a,b,k _ _ c⟩
def AZ.snoc{T:Addr}(h:AZ H xs ys ts)(hx:xs[ts.length]?=some x)(hy:ys[ts.length]?=some y)(hT:H T=some (.tup [x,y])):AZ H xs ys (ts++[T]):=λj t e=>by
 by_cases hj:j<ts.length
 ·rw[G3 hj]at e;show h j t e
 ·rw[Fi (by lia)]at e
  have:j-ts.length=0:=by
   by_cases h0:j-ts.length=0
   ·show h0
   ·rw[Eh (by simp;lia)]at e;cases e
  let ej:j=ts.length:=by lia
  subst ej;simp at e;subst e;show Ψ2 x y ⟨hx,hy,hT⟩
def dD.step{a:Addr}{ls vs:List V}(k:∀b o,b≠S→H b=some o→H' b=some o)(hS:H S=some (.lst ls))(h:dD K H a vs):dD K H' a vs:=by
 rcases h with(h|⟨o,h⟩)|h
 ·show .inl (.inl (k a _ (JA h hS (by intro z;cases z)) h))
 ·show .inl (.inr ⟨o,k a _ (JA h hS (by intro z;cases z)) h⟩)
 ·show .inr h
def acp{R:Result→Shared→Prop}(hh:A.handled=none)(D:Apart z p r j1 j2 u1 u2)(hlen:xs.length=ys.length)(hn:xs.length≤sizeLine):
  ∀(k i:Nat) (s:Shared) (H:A7) (t:Addr) (fl:Bool) (tv:List V) (ts:List Addr),xs.length-i=k→i≤xs.length→Inv X x0 σ H s→(∀b∈[z,p,r,j1,j2],fK X x0 H b)→
   Jo s.heap z p r (rawInt t) (.bool fl)→H t=some (.tup tv)→IsPair s.heap p (.ref j1) (.ref j2)→(∃u v,IsPair s.heap r u v)→s.heap.IsTupleIter j1 u1 i→s.heap.IsTupleIter j2 u2 i→dD X.K H u1 xs→dD X.K H u2 ys→
   H S=some (.lst (ts.map V.ref))→ts.length=i→AZ H xs ys ts→
   (∀s' H' m7,Inv X x0 σ H' s'→(∀b o,b≠S→H b=some o→H' b=some o)→H' S=some (.lst (m7.map V.ref))→m7.length=xs.length→AZ H' xs ys m7→R (.ok (.ret res)) s')→
   codeAny (model X.prog X.w) A (.builtin "list.extend.loop" ⟨[.ref S,.ref z,res],[]⟩) R s:=by
 intro k;induction k with
 |zero=>
  intro i s H t fl tv ts hk hi I hf hz ht hp hr h1 h2 sE uH hS hl hP hR;let ei:i=xs.length:=by lia
  subst ei;show Ib Zm ?_;rw[Ij LZ _];show wpAny _ A.in1 (pyNext (.ref z) >>= _) _ _ s
  let⟨its,rv,pl,_⟩:=I.tuple sE;let l1:=rv.length;let hT:s.TypeIs (.ref z) "zip" :=⟨_,hz,rfl⟩;let⟨_,⟨YS,_,⟨ot,ho,_⟩⟩⟩:=(show bT X.prog X.w H s.heap t (.tup tv)from I.bA t _ ht);show A5 ?_;unfold pyNext;show A5 (Hm (HM (name:=Str.ofString "__next__") hT GZ (FZ GZ hT LO
   (vB hh D hz ho hp h1 pl (by simp;lia) λg e kk he=>?_) (Lg _))))
  let⟨o,mK,Ax⟩:=he;show A5 (OP (T := "StopIteration") (b:=true) ⟨o,mK,Ax⟩ isSubtype_stop ?_);show AG (AG (hR _ H ts (I.nt (t':=s.toks) (ch:=[z,j1,j2]) (λc o hc e=>?_) (λc hc=>hf c ?_)) (λ_ _ _ h=>h) hS hl hP))
  ·simp only[aah,BI,D7,not_or]at hc
   show kk c o hc.1 hc.2.1 hc.2.2 e
  ·simp only[aah,BI,D7]at hc ⊢
   rcases hc with rfl|rfl|rfl<;>simp
 |succ k ih=>
  intro i s H t fl tv ts hk hi I hf hz ht hp hr h1 h2 sE uH hS hl hP hR;let fI:i<xs.length:=by lia
  let Vc:i<ys.length:=by lia
  show Ib Zm ?_;rw[Ij LZ _];show wpAny _ A.in1 (pyNext (.ref z) >>= _) _ _ s
  let hx:xs[i]?=some xs[i]:=BZ fI;let hy:ys[i]?=some ys[i]:=BZ Vc;show A5 (ad0 I D hf hz ht hp hr h1 h2 sE uH hx hy λT g Kv I1 Zu z1 p1 r1 a1 a2=>?_);let QW:(upd H T (.tup [xs[i],ys[i]])) S=some (.lst (ts.map V.ref)):=by rw[AW (Ba hS Kv)];show hS
  let⟨zz,⟨its,n,rv,BV,e⟩⟩:=I1.wx QW;let ST:S≠T:=Ba hS Kv;show wpAny _ A.in1 (updateSeq S (·.push (.ref T)) >>= _) _ _ _
  show A5 ?_;let I2:=I1.wy (its':=its++[.ref T]) (ys:=ts.map V.ref++[.ref T]) (f:=(·.push (Value.ref T))) (t':=s.toks) QW e (by simp) (rv.append (.cons (show RelV (.ref T) (.ref T)from rfl) .nil)) (by rw[B9,Ac,aB];lia);let st:∀b o,b≠S→H b=some o→(upd (upd H T (.tup [xs[i],ys[i]])) S (.lst (ts.map V.ref++[.ref T]))) b=some o:=λb o hb h=>by rw[AW hb,AW (Ba h Kv)];show h
  let sp:∀b∈[z,p,r,j1,j2],b≠S:=λb hb e=>by have:=(hf b hb).1;rw[e,hS]at this;cases this
  let kp:∀b o,b≠S→g.get? b=some o→(g.update S (Obj.mapSeq (·.push (Value.ref T)))).get? b=some o:=λb o hb e=>(FJ _ _ (Du hb)).trans e;show JF e rfl (AG ⟨HB LZ _,ih (i+1) _ _ t true tv (ts++[T]) (by lia) fI I2 (λb hb=>(Zu b hb).upd (sp b hb)) (kp _ _ (sp z (by simp)) z1) ?_ (kp _ _ (sp p (by simp)) p1) ?_ (GP a1 λo e=>kp _ o (sp j1 (by simp)) e) (GP a2 λo e=>kp _ o (sp j2 (by simp)) e) ?_ ?_ ?_ ?_ ?_ ?_⟩) (by simp;rw[←BV,Ac];lia) (by simp;rw[←BV,Ac];lia)
  ·show st t _ (JA ht hS (by intro z;cases z)) ht
  ·let⟨u,v,q⟩:=r1
   show Ψ2 u v (kp _ _ (sp r (by simp)) q)
  ·show sE.step st hS
  ·show uH.step st hS
  ·rw[B0,Ao];rfl
  ·rw[B9,hl];rfl
  ·show(hP.keep λb v h=>st b _ (JA h hS (by intro z;cases z)) h).snoc (by rw[hl];show hx) (by rw[hl];show hy) (by rw[AW ST.symm];show B0)
  ·intro s' H' m7 I' k' AA M7 Fx
   show hR s' H' m7 I' (λb o hb h=>k' b o hb (st b o hb h)) AA M7 Fx
end
def abi:typeLookup (.type "zip") "__len__" = pure none:=by rw[Ni,O2];kernel_rfl
def uj:typeLookup (.type "zip") "__length_hint__" = pure none:=by rw[Ni,O2];kernel_rfl
section
def vK{R:Result→Shared→Prop}(hh:A.handled=none)(D:Apart z p r j1 j2 u1 u2)(hlen:xs.length=ys.length)(hn:xs.length≤sizeLine)
  (I:Inv X x0 σ H s) (hf:∀b∈[z,p,r,j1,j2],fK X x0 H b) (hz:IsZip s.heap z p r .none) (hp:IsPair s.heap p (.ref j1) (.ref j2)) (hr:∃u v,IsPair s.heap r u v) (h1:s.heap.IsTupleIter j1 u1 0) (h2:s.heap.IsTupleIter j2 u2 0)
  (sE:dD X.K H u1 xs) (uH:dD X.K H u2 ys) (hS:H S=some (.lst []))
  (hR:∀s' H' m7,Inv X x0 σ H' s'→(∀b o,b≠S→H b=some o→H' b=some o)→H' S=some (.lst (m7.map V.ref))→m7.length=xs.length→AZ H' xs ys m7→R (.ok (.ret res)) s') :
  codeAny (model X.prog X.w) A (.builtin "list.extend.loop" ⟨[.ref S,.ref z,res],[]⟩) R s:=by
 obtain⟨ra,rb,hr⟩:=hr;let⟨its,rv,pl,_⟩:=I.tuple sE;let⟨fZ,vj,oG,_⟩:=I.tuple uH;let l1:=rv.length;let l2:=vj.length;let hT:s.TypeIs (.ref z) "zip" :=⟨_,hz,rfl⟩;show Ib Zm ?_;rw[Ij LZ _];show wpAny _ A.in1 (pyNext (.ref z) >>= _) _ _ s
 show A5 ?_;unfold pyNext;by_cases h0:0<xs.length
 ·let hx:xs[0]?=some xs[0]:=BZ h0
  let hy:ys[0]?=some ys[0]:=BZ (by lia);let⟨J3,ex,rx⟩:=rv.get hx;let⟨vy,ey,ry⟩:=vj.get hy;show A5 (Hm (HM (name:=Str.ofString "__next__") hT GZ (FZ GZ hT LO
   (xa D hz hp hr h1 h2 pl oG (by simpa using ex) (by simpa using ey) λg a1 a2 a3 a4 a5 a6 a7=>AG ?_) (Lg _))))
  let lt:∀c∈[z,p,r,j1,j2],c≠s.heap.objs.size:=λc hc e=>by
   have:c<s.heap.objs.size:=by
    simp only[aah,BI,D7]at hc;let⟨_,q1,_⟩:=h1;let⟨_,q2,_⟩:=h2;rcases hc with rfl|rfl|rfl|rfl|rfl
    ·show Aq hz
    ·show Aq hp
    ·show Aq hr
    ·show Aq q1
    ·show Aq q2
   show absurd this (by rw[e];show FH _)
  let Kv:H s.heap.objs.size=none:=I.fresh;generalize ZE:s.heap.objs.size=T at a1 a5 a6 Kv lt;let I1:Inv X x0 σ (upd H T (.tup [xs[0],ys[0]])) {s with heap:=g}:=by
   show I.nq (t':=s.toks) (ch:=[z,r,j1,j2]) (λc o hc e=>?_) (λc hc=>hf c ?_) (by rw[ZE];show Ak _) ⟨by show 2≤sizeLine;decide,[J3,vy],.cons rx (.cons ry .nil),⟨_,a5,rfl,0,rfl⟩⟩
   ·simp only[aah,BI,D7,not_or]at hc
    show a7 c o hc.1 hc.2.1 hc.2.2.1 hc.2.2.2 e
   ·simp only[aah,BI,D7]at hc ⊢
    rcases hc with rfl|rfl|rfl|rfl<;>simp
  let QW:(upd H T (.tup [xs[0],ys[0]])) S=some (.lst []):=by rw[AW (Ba hS Kv)];show hS
  let⟨zz,⟨its',n,TX,BV,e⟩⟩:=I1.wx QW;let ST:S≠T:=Ba hS Kv;show wpAny _ A.in1 (updateSeq S (·.push (.ref T)) >>= _) _ _ _
  show A5 ?_;let I2:=I1.wy (its':=its'++[.ref T]) (ys:=[]++[.ref T]) (f:=(·.push (Value.ref T))) (t':=s.toks) QW e (by simp) (TX.append (.cons (show RelV (.ref T) (.ref T)from rfl) .nil)) (by show 1≤sizeLine;decide);let st:∀b o,b≠S→H b=some o→(upd (upd H T (.tup [xs[0],ys[0]])) S (.lst ([]++[.ref T]))) b=some o:=λb o hb h=>by rw[AW hb,AW (Ba h Kv)];show h
  let sp:∀b∈[z,p,r,j1,j2],b≠S:=λb hb e=>by have:=(hf b hb).1;rw[e,hS]at this;cases this
  let kp:∀b o,b≠S→g.get? b=some o→(g.update S (Obj.mapSeq (·.push (Value.ref T)))).get? b=some o:=λb o hb e=>(FJ _ _ (Du hb)).trans e;let li:its'.length=0:=by rw[←BV];rfl
  show JF e rfl (AG ⟨HB LZ _,acp (S:=S) hh D hlen hn _ 1 _ _ T false [xs[0],ys[0]] [T] rfl h0 I2 (λb hb=>((hf b hb).upd (lt b hb)).upd (sp b hb)) (kp _ _ (sp z (by simp)) a1) ?_ (kp _ _ (sp p (by simp)) (a7 _ _ D.pz D.pr D.Ue D.Ud hp)) ⟨J3,vy,kp _ _ (sp r (by simp)) a2⟩ (GP a3 λo e=>kp _ o (sp j1 (by simp)) e) (GP a4 λo e=>kp _ o (sp j2 (by simp)) e) (sE.step st hS) (uH.step st hS) B0 rfl ?_ ?_⟩) (by simp;lia) (by simp;lia)
  ·rw[AW ST.symm];show B0
  ·have:AZ (upd (upd H T (.tup [xs[0],ys[0]])) S (.lst ([]++[.ref T]))) xs ys ([]++[T]):=AZ.snoc (λj t e=>by simp at e) hx hy (by rw[AW ST.symm];show B0)
   show this
  ·intro s' H' m7 I' k' AA M7 Fx
   show hR s' H' m7 I' (λb o hb h=>k' b o hb (st b o hb h)) AA M7 Fx
 ·let e0:xs.length=0:=by lia
  show A5 (Hm (HM (name:=Str.ofString "__next__") hT GZ (FZ GZ hT LO
   (w5 hh D hz hp hr h1 h2 pl oG (.inl (by rw[P4];show Eh (by lia))) λg e kk he=>?_) (Lg _))))
  let⟨o,mK,Ax⟩:=he;show A5 (OP (T := "StopIteration") (b:=true) ⟨o,mK,Ax⟩ isSubtype_stop ?_);show AG (AG (hR _ H [] (I.nt (t':=s.toks) (ch:=[z,r,j1,j2]) (λc o hc e=>?_) (λc hc=>hf c ?_)) (λ_ _ _ h=>h) hS e0.symm (λj t e=>by simp at e)))
  ·simp only[aah,BI,D7,not_or]at hc
   show kk c o hc.1 hc.2.1 hc.2.2.1 hc.2.2.2 e
  ·simp only[aah,BI,D7]at hc ⊢
   rcases hc with rfl|rfl|rfl|rfl<;>simp
def yE{E:xz}(hh:X.A.handled=none)(D:Apart z p r j1 j2 u1 u2)(hlen:xs.length=ys.length)
  (I:Inv X x0 σ H s) (hf:∀b∈[z,p,r,j1,j2],fK X x0 H b) (hz:IsZip s.heap z p r .none) (hp:IsPair s.heap p (.ref j1) (.ref j2)) (hr:∃u v,IsPair s.heap r u v) (h1:s.heap.IsTupleIter j1 u1 0) (h2:s.heap.IsTupleIter j2 u2 0)
  (sE:dD X.K H u1 xs) (uH:dD X.K H u2 ys)
  (hQ:∀L s' H' m7,H L=none→Inv X x0 σ H' s'→(∀b o,H b=some o→H' b=some o)→H' L=some (.lst (m7.map V.ref))→m7.length=xs.length→AZ H' xs ys m7→Q (.ref L) s') :
  wpAny (model X.prog X.w) X.A (call (.type "list") [.ref z]) Q E s:=by
 let⟨its,rv,pl,hn⟩:=I.tuple sE;show callType_codes (Q₁:=λobj s₁=>obj=.ref s.heap.objs.size∧s₁={s with heap:=s.heap.push {cls:=.type "list",data:=.seq #[]}}) F.called_list (F.typeCall_list_1 _) F.entry_list_init
  (code_list_new _ ⟨rfl,rfl⟩) λobj s₁ h₁=>?_
 let⟨rfl,rfl⟩:=h₁;let hS:(s.heap.push {cls:=.type "list",data:=.seq #[]}).get? s.heap.objs.size=some {cls:=.type "list",data:=.seq #[]}:=CM _ rfl;let I1:=I.MG (ys:=[]) (its:=[]) (t':=s.toks) .nil (CV _);let Sm:H s.heap.objs.size=none:=I.fresh;let lt:∀c∈[z,p,r,j1,j2],c<s.heap.objs.size:=λc hc=>by
  simp only[aah,BI,D7]at hc;let⟨_,q1,_⟩:=h1;let⟨_,q2,_⟩:=h2;let⟨_,_,q3⟩:=hr;rcases hc with rfl|rfl|rfl|rfl|rfl
  ·show Aq hz
  ·show Aq hp
  ·show Aq q3
  ·show Aq q1
  ·show Aq q2
 generalize hSS:s.heap.objs.size=S at hS I1 Sm lt ⊢;let k0:∀b o,s.heap.get? b=some o→(s.heap.push {cls:=.type "list",data:=.seq #[]}).get? b=some o:=λb o e=>Al _ e;show⟨⟨_,hS,rfl⟩,F.args_list_init_2 _ _,?_⟩;show wpAny _ X.A.in1.in1 (do let old ←Builtin.List.listItems (.ref S);Builtin.List.listUpdate (.ref S) (λ_=>#[]);letGo old.toList.reverse;Builtin.List.listExtendWith (.ref S) (.ref z) .none) _ _ _
 show A5 ?_;unfold Builtin.List.listItems;show A5 (EA hS rfl (AG ?_));show wpAny _ X.A.in1.in1 (updateSeq S (λ_=>#[]) >>= λ_=>letGo (#[]:Array Value).toList.reverse >>= λ_=>Builtin.List.listExtendWith (.ref S) (.ref z) .none) _ _ _
 show A5 (JF hS rfl ?_);let I2:=I1.wy (ys:=[]) (its':=[]) (f:=λ_=>(#[]:Array Value)) (t':=s.toks) B0 hS rfl .nil (CV _);let Vt:=J4 (Obj.mapSeq (λ_=>(#[]:Array Value))) hS rfl;show A5 (Fc ?_);unfold Builtin.List.listExtendWith;let sp:∀b∈[z,p,r,j1,j2],b≠S:=λb hb=>Bp (lt b hb);let ZF:S≠z:=(sp z (by simp)).symm;let Ug:∀b o,b≠S→s.heap.get? b=some o→((s.heap.push {cls:=.type "list",data:=.seq #[]}).update S (Obj.mapSeq (λ_=>(#[]:Array Value)))).get? b=some o:=λb o hb e=>(FJ _ _ (Du hb)).trans (k0 b o e);let hT:Shared.TypeIs {s with heap:=(s.heap.push {cls:=.type "list",data:=.seq #[]}).update S (Obj.mapSeq (λ_=>(#[]:Array Value)))} (.ref z) "zip" :=⟨_,Ug _ _ (sp z (by simp)) hz,rfl⟩;show A5 (Iy hT ?_);let g1:Builtin.List.listSameRef (.ref S) (.ref z)=false:=by simp[Builtin.List.listSameRef,ZF]
 let g2:(Value.type "zip" == Value.type "list")=false:=by decide
 let g3:(Value.type "zip" == Value.type "tuple")=false:=by decide
 simp only[g1,g2,g3,Bool.or_false,Py,HV];show A5 (TH (Ug _ _ (sp z (by simp)) hz) ?_);show A5 (Dx ?_);unfold Builtin.List.listLengthHint;show A5 (J6 hT abi ?_);show wpAny _ X.A.in1.in1 (specialOf (Value.ref z) (Str.ofString "__length_hint__") >>= _) _ _ _
 show A5 (J6 hT uj ?_);show AG ?_;show wpAny _ X.A.in1.in1 (rule "list.extend.makes-room" >>= λ_=>Builtin.List.listTouch (.ref S) >>= λ_=>
  again (.builtin "list.extend.loop" ⟨[.ref S,.ref z,.none],[]⟩)) _ _ _
 show A5 (Fz ?_);show A5 ?_;show wpAny _ X.A.in1.in1 (updateSeq S (·.push .none) >>= λ_=>updateSeq S (·.pop)) _ _ _
 show A5 (JF Vt rfl ?_);let I3:=I2.wy (ys:=[.non]) (its':=[.none]) (f:=(·.push Value.none)) (t':=s.toks) B0 Vt rfl (.cons rfl .nil) (by show 1≤sizeLine;decide);let Xg:=J4 (Obj.mapSeq (·.push Value.none)) Vt rfl;show JF (hz:=by seq_fits) Xg rfl ?_;let I4:=I3.wy (ys:=[]) (its':=[]) (f:=(·.pop)) (t':=s.toks) B0 Xg rfl .nil (CV _);let EF:∀b o,b≠S→s.heap.get? b=some o→((((s.heap.push {cls:=.type "list",data:=.seq #[]}).update S (Obj.mapSeq (λ_=>(#[]:Array Value)))).update S (Obj.mapSeq (·.push Value.none))).update S (Obj.mapSeq (·.pop))).get? b=some o:=λb o hb e=>
  (FJ _ _ (Du hb)).trans ((FJ _ _ (Du hb)).trans (Ug b o hb e))
 let st:∀b o,H b=some o→(upd (upd (upd (upd H S (.lst [])) S (.lst [])) S (.lst [.non])) S (.lst [])) b=some o:=λb o h=>by
  have:=Ba h Sm;rw[AW this,AW this,AW this,AW this];show h
 obtain⟨ra,rb,hr⟩:=hr;let sq:∀{a:Addr} {vs:List V},dD X.K H a vs→dD X.K (upd (upd (upd (upd H S (.lst [])) S (.lst [])) S (.lst [.non])) S (.lst [])) a vs:=λh=>by
  rcases h with(h|⟨o,h⟩)|h
  ·show .inl (.inl (st _ _ h))
  ·show .inl (.inr ⟨o,st _ _ h⟩)
  ·show .inr h
 show AG ⟨HB LZ _,vK (S:=S) (A:=X.A.in1) hh D hlen hn I4 (λb hb=>((((hf b hb).upd (sp b hb)).upd (sp b hb)).upd (sp b hb)).upd (sp b hb)) (EF _ _ (sp z (by simp)) hz) (EF _ _ (sp p (by simp)) hp) ⟨ra,rb,EF _ _ (sp r (by simp)) hr⟩
  (GP h1 λo e=>EF _ o (sp j1 (by simp)) e) (GP h2 λo e=>EF _ o (sp j2 (by simp)) e) (sq sE) (sq uH) B0 λs' H' m7 I' k' AA BV Fx=>?_⟩
 show⟨rfl,hQ S s' H' m7 Sm I' (λb o h=>k' b o (Ba h Sm) (st b o h)) AA BV Fx⟩
end
section
variable {a b: Expr}{ta: CW}{p1 p2 yh iF: Pos}
abbrev adh(K:W.Frag)(ta:CW):Am:=λσ H Q=>ta σ H λvs H1=>∃(u1 u2:Addr) (xs ys:List V),vs=[.ref u1,.ref u2]∧dD K H1 u1 xs∧dD K H1 u2 ys∧xs.length=ys.length∧
 ∀(L:Addr) (H':A7) (ts:List Addr),H1 L=none→Kp [] H1 H'→H' L=some (.lst (ts.map V.ref))→ts.length=xs.length→AZ H' xs ys ts→Q (.ref L) H'
def aaJ(hc:X.calm=true)(hg:Bi X "list")(hm:X.mg "list" = none)(Nb:Bi X "zip")(Gy:X.mg "zip" = none)(ha:PA X [a,b] ta)
  (hs:starEach [a,b] X.env=[(false,eval a X.env),(false,eval b X.env)]:=by rfl) (BS:starEach [b] X.env=[(false,eval b X.env)]:=by rfl)
  (hz:starEach [.Call (.Name "zip" p2) [a,b] [] iF] X.env=[(false,eval (.Call (.Name "zip" p2) [a,b] [] iF) X.env)]:=by rfl) :
  PE X (.Call (.Name "list" p1) [.Call (.Name "zip" p2) [a,b] [] iF] [] yh) (adh X.K ta):=by
 show .mk ?_;intro x0 s σ H Q I h;show Call_ (GJ I hg hm boot_list (Ii ?_ (by rw[hz];rfl) rfl));rw[hz];show T8 ?_;show Call_ (GJ I Nb Gy boot_zip (Ii (Ab (ha iF x0 s σ H _ I h) λus s1 ξ=>Ξ23 ξ λvs H1 I1 r1 q1=>?_) (by rw[hs,BS]) (by rw[BS];rfl)));let⟨u1,u2,xs,ys,e,hx,hy,hl,q⟩:=q1;subst e;cases r1 with
 |cons r rr=>
  cases rr with
  |cons r' rr=>
   cases rr;cases r;cases r';let⟨its,rv,pl,_⟩:=I1.tuple hx;let⟨fZ,vj,oG,_⟩:=I1.tuple hy;let⟨o1,e1,_⟩:=id pl;let⟨o2,e2,_⟩:=id oG;show abA pl oG λh' hz hp hr j1 j2 k=>?_;show cL ?_;let I2:Inv X x0 σ H1 {s1 with heap:=h'}:=I1.kept (t':=s1.toks) k;show yE (I.ok.hd hc) (apart_new (Aq e1) (Aq e2)) hl I2 (λc hc=>?_) hz hp ⟨_,_,hr⟩ j1 j2 hx hy λL s' H' ts hL I' k' hS BV hP=>Ψ2 (.ref L) H' ⟨I',rfl,q L H' ts hL (λb o _ h=>k' b o h) hS BV hP⟩;let GB:s1.heap.objs.size≤c:=by
    simp only[aah,BI,D7]at hc;rcases hc with rfl|rfl|rfl|rfl|rfl<;>first|show Ak _|show Mu _ _
   let f:=I1.yU GB (I1.bA.fresh GB);show f
end
section
def aed(hu:X.A.units<cLine):Bs X (compareOp .Eq) (λx y H Q=>∃a b xs,x=.ref a∧y=.ref b∧eB X.K H a xs∧eB X.K H b []∧Q (.bl xs.isEmpty) H):=by
 intro x0 s σ H x y v u Q I rx ry h;let⟨a,b,xs,rfl,rfl,ha,hb,q⟩:=h;cases rx;cases ry;let⟨its,rv,pl,hz⟩:=I.list ha;let⟨fZ,vj,oG,NX⟩:=I.list hb;cases vj;cases xs with
 |nil=>
  cases rv;show SeqAt.eq_listAt (e:=λ_=>true) pl.isList oG.isList rfl hu (λj h1 _=>absurd h1 (by simp)) ⟨.bl true,H,I,rfl,q⟩
 |cons x r=>
  cases rv with
  |cons r1 r2=>show SeqAt.eq_list_lengthsAt pl.isList oG.isList (by simp) hu ⟨.bl false,H,I,rfl,q⟩
def aer:Mi X "list.index" (λx vs H Q=>∃(p:Addr) (xs:List V) (y:V) (j:Nat),x=.ref p∧vs=[y]∧eB X.K H p xs∧EN y=true∧xs.all EN=true∧(∃z,xs[j]?=some z∧uM z y=true)∧(∀m z,m<j→xs[m]?=some z→uM z y=false)∧Q (.int j) H):=by
 intro x0 s σ H x vs v us Q I rx rv h;let⟨p,xs,y,j,rfl,rfl,hq,fy,fs,⟨z,hj,hz⟩,QI,q⟩:=h;cases rx;let⟨u,rfl,ru⟩:=vals1 rv;obtain⟨its,r,⟨⟨cls,dd,data,sl⟩,n,e,hc,hd,ho⟩,hl⟩:=I.list hq;simp only at hc hd ho;subst hc hd ho;let YG:=r.length;obtain⟨hjl,_⟩:=aao.mp hj;let at_:∀m (hm:m<its.length) (z:V),xs[m]?=some z→EY y its[m]=uM z y:=λm hm z hz=>by
  let⟨u',e',r'⟩:=r.get hz;rw[BZ hm]at e';cases e';show VP r' (aaE.mp fs z (CQ hz))
 let hs:sizeLine=16777216:=CP;show KD kW ⟨_,e,rfl⟩ PySem.F.entry_list_index (PySem.F.args_list_index_2 _ _) (SeqAt.list_indexAt p its.toArray n none sl u (EY y) j (by simp;lia) (by lia) ?_ ?_) ⟨e,λw hw=>MI ru fy r fs w (by simpa using hw),Ψ2 (.int j) H ⟨I.tok _,⟨_,rfl⟩,q⟩⟩
 ·have:its.toArray[j]'(by simp;lia)=its[j]'(by lia):=by simp
  rw[this,at_ j (by lia) z hj];show hz
 ·intro m hm fI
  let NY:m<its.length:=by simpa using hm
  have:its.toArray[m]'hm=its[m]'NY:=by simp
  rw[this];let hx:m<xs.length:=by lia
  rw[at_ m NY xs[m] (by simp[hx])];show QI m _ fI (by simp[hx])
def adK(hu:X.A.units<cLine):Bs X (compareOp .Eq) (λx y H Q=>∃a b xs,x=.ref a∧y=.ref b∧H a=some (.tup xs)∧H b=some (.tup [])∧Q (.bl xs.isEmpty) H):=by
 intro x0 s σ H x y v u Q I rx ry h;let⟨a,b,xs,rfl,rfl,ha,hb,q⟩:=h;cases rx;cases ry;let⟨its,rv,pl,hz⟩:=I.tuple (dD.of (K:=X.K) ha);let⟨fZ,vj,oG,NX⟩:=I.tuple (dD.of (K:=X.K) hb);cases vj;show SeqAt.eq_tupleAt (e:=λ_=>true) pl oG hu (λj h1 h2=>absurd h2 (by simp)) ⟨.bl xs.isEmpty,H,I,?_,q⟩;show _=Value.bool _
 congr 1
 cases xs with
 |nil=>cases rv;rfl
 |cons x r=>cases rv with|cons r1 r2=>simp
end
def we{mg:ac}{base:Heap}{outer:List Env}{s:Shared}{H:A7}{k:Nat}{c':Addr}{name qual:Str}{params:Arguments}{body:Expr}{scope:Scope}{pm uO:Value}
  {N ps:List Str} {us:List Value} {vs:List V} {t:Am} {Q:Au} {args:Args} (hr:dw k A) (e0:xy P w K mg base A outer s H)
  (ho:s.heap.get? f=some (W.kla_obj name qual params body scope [] pm c' uO)) (oX:s.heap.CodeRec (.ref c') qual)
  (hb:bindArgs (W.kla_fn name qual params body scope [] pm (.ref c') uO) args=pure (ps.zip us)) (S:BA N ps scope) (r:Vals vs us) (hl:vs.length=ps.length)
  (iK:PE (Hq BJ P w K mg base N qual scope f (.ref c') A outer s H Jv) body t) (hq:t (start N vs) H Q) :
  codeAny (model P w) A (.call (.ref f) args) (qh BJ outer P w H s Q Jv) s:=by
 let lim:s.heap.NoLimit:=e0.mod.nolimit.keeps λb o e=>(e0.bs b o e).1;show W.kla_callFunE hr.depth ho rfl S.co S.gen rfl oX ?_;rw[hb];show AG (wpAny_newFunctionEnv_cells S.kind (λ⟨n,v⟩ hy=>?_) λenv he s1 x=>?_)
 ·rcases S.par n (Hy hy).1 with q|q
  ·show .inl q
  ·show .inr ⟨q,aM _ _ _ (.inl q)⟩
 ·subst he
  show⟨lim.keeps x.toInCall.keep,W.kla_codeExpr ?_⟩;let I:=fL (CX:=BJ) (E:=Jv) S hr.hd e0 hl r x;show DC (iK [] s1 (start N vs) H Q I hq) (λu s' ξ=>Ξ23 ξ λv H' J rv q=>Ψ2 v H' ⟨J.os,J.bare,J.base,J.bA,rv,q⟩) λe s' z=>z
abbrev L4(H:A7)(P:Addr)(q:Str)(pos:Pos):Prop:=H P=some (.tbl #[])∨∃(c':Addr) (oc:Obj) (vs:Array Value) (t:Tok) (u:HO),
 H P=some (.tbl #[rawInt pos.line,rawInt pos.col,.ref c'])∧H c'=some (.frz oc u)∧oc.data=.fields vs∧vs[1]?=some (.str q t)
abbrev LH(f:Addr)(o:Obj):Heap→Prop:=λh=>h.get? f=some o
def pF{H:A7}{h:Heap}(e:h.get? f=some o):bT P w H h f (.ext (LH f o)):=⟨e,⟨o,e⟩,λ_ _ q k=>k _ q⟩
abbrev IG(mg:ac)(base:Heap)(P:Addr):Prop:=base.BuiltinsAt mg P
structure bG(H:A7)(f:Addr)(qual:Str)(params:Arguments)(body:Expr)(scope:Scope):Prop where
 ex:∃(c':Addr) (oc:Obj) (vs:Array Value) (t:Tok) (u:HO) (pm uO:Value),H f=some (.ext (LH f (W.kla_obj "<lambda>" qual params body scope [] pm c' uO)))∧H c'=some (.frz oc u)∧oc.data=.fields vs∧vs[1]?=some (.str qual t)
section
variable {params: Arguments}{body: Expr}{scope: Scope}{pos: Pos}{c P: Addr}
def aaw{q:Str}(hq:X.env.qual ++ "<lambda>" = q)(tK:X.env.code=.ref c)(hC:W.codeHdIn X.K c P=true)(hB:IG X.mg X.base P)(Fv:defaultsOf params X.env=([],[]):=by rfl)(Ax:closureFor scope X.env=pure []:=by rfl):
  PE X (.Lambda params body scope pos) (λσ H Q=>L4 H P q pos∧∀(f:Addr) (H':A7),H f=none→(∀b o,b≠P→H b=some o→H' b=some o)→L4 H' P q pos→(∃o,H' P=some o)→bG H' f q params body scope→Q (.ref f) H'):=by
 show .mk ?_;intro x0 s σ H Q I⟨lt,k⟩;show W.kla_eval Fv ?_;rw[hq];let C:W.CodeHd s.heap c P:=W.codeHd_of_K I.qY hC;let G:s.heap.Ns mainGlobals X.mg:=I.mod.glob.keeps I.bk;let hb:s.heap.BuiltinsAt X.mg P:=by
  let⟨bm,o,h1,h2,h3,h4,h5,r⟩:=hB;show Ψ2 bm o ⟨h1,h2,h3,h4,I.bk _ _ h5,r⟩
 rcases lt with e|⟨c',oc,vs,t,u,e,ec,hd,hv⟩
 ·let hP:s.heap.get? P=some (W.tabObj #[]):=I.bA P _ e
  let Zp:mainGlobals≠P:=λz=>by
   let⟨o,es,ep,g,d,_⟩:=G;rw[z,hP]at g;cases g;cases d
  show W.kla_makeFunction (mg:=X.mg) Ax I.ok.glob G tK C hP trivial rfl Zp hb λc' uO h' tk hx IX fI UY W4=>?_;let⟨c2,oc,vs,t,e2,MY,hd,hv⟩:=UY;cases e2;let Qz:h'.get? P=some (W.tabObj #[rawInt pos.line,rawInt pos.col,.ref c']):=by
   let z:(#[]:Array Value) ++ #[rawInt pos.line,rawInt pos.col,.ref c']=#[rawInt pos.line,rawInt pos.col,.ref c']:=by simp
   rw[z]at W4;show W4
  let Xh:P<s.heap.objs.size:=Aq hP;let nc:H c'=none:=I.bA.fresh IX;let nf:H h'.objs.size=none:=I.bA.fresh (DN IX (B7 fI));let cP:c'≠P:=Hu (D6 Xh IX);let fP:h'.objs.size≠P:=Hu (Nat.lt_trans (D6 Xh IX) fI);let fc:h'.objs.size≠c':=Hu fI;generalize M4:W.kla_obj "<lambda>" q params body scope [] ((X.mg "__name__").getD .none) c' uO=ob
  show(let H':A7:=upd (upd (upd H P (.tbl #[rawInt pos.line,rawInt pos.col,.ref c'])) c' (.frz oc (.own 0))) h'.objs.size (.ext (LH h'.objs.size ob));?_)
  let XQ:H' h'.objs.size=some (.ext (LH h'.objs.size ob)):=B0;let V2:H' c'=some (.frz oc (.own 0)):=by show upd _ _ _ _=_;rw[AW fc.symm];show B0
  let SQ:H' P=some (.tbl #[rawInt pos.line,rawInt pos.col,.ref c']):=by show upd _ _ _ _=_;rw[AW fP.symm,AW cP.symm];show B0
  let V1:∀b,b≠P→b≠c'→b≠h'.objs.size→H' b=H b:=λb h1 h2 h3=>by show upd _ _ _ _=_;rw[AW h3,AW h2,AW h1]
  let kp:∀b o,b≠P→H b=some o→H' b=some o:=λb o h1 h2=>by rw[V1 b h1 (λz=>by rw[z,nc]at h2;cases h2) (λz=>by rw[z,nf]at h2;cases h2)];show h2
  let hh:∀b o,b≠P→s.heap.get? b=some o→(h'.push ob).get? b=some o:=λb o h1 h2=>Al _ (hx b o h1 h2);let WK:∀b o,s.heap.get? b=some o→b≠c'∧b≠h'.objs.size:=λb o h2=>by
   have:=Aq h2;show⟨Bp (D6 this IX),Bp (D6 this (DN IX (B7 fI)))⟩
  let nP:∀b,H b=none→b≠P:=λb h1 z=>by rw[z,e]at h1;cases h1
  let un:Un X.fs [] H H' s.heap (h'.push ob):=by
   show⟨λb o h1 h2 _ _=>hh b o (nP b h2) h1,λb o h1 h2 _ _=>⟨o.slots,hh b o (nP b h2) h1⟩,λb o h1 h2 _=>?_,λb o h1 _=>?_,λb xs h1=>?_,λb o u h1=>?_,λb ps h1=>?_⟩
   ·rw[V1 b (nP b h2) (WK b o h1).1 (WK b o h1).2];show h2
   ·by_cases z:b=P
    ·subst z;show⟨_,Al _ Qz⟩
    ·show⟨o,hh b o z h1⟩
   ·show kp b _ (λz=>by rw[z,e]at h1;cases h1) h1
   ·show kp b _ (λz=>by rw[z,e]at h1;cases h1) h1
   ·by_cases z:b=P
    ·subst z;rw[e]at h1;cases h1;show⟨#[rawInt pos.line,rawInt pos.col,.ref c'],by rw[SQ];simp⟩
    ·show⟨#[],by rw[kp b _ z h1];simp⟩
  let bA:jt X.prog X.w H' (h'.push ob):=λb o h1=>by
   by_cases z1:b=h'.objs.size
   ·subst z1;rw[XQ]at h1;cases h1
    show pF (CM _ (by rw[←M4];rfl))
   by_cases z2:b=c'
   ·subst z2;rw[V2]at h1;cases h1
    show⟨Al _ MY,⟨oc,Al _ MY⟩⟩
   by_cases z3:b=P
   ·subst z3;rw[SQ]at h1;cases h1
    show Al _ Qz
   rw[V1 b z3 z2 z1]at h1;show(I.bA b o h1).iR (λb' u hb' q=>hh b' u (λz=>?_) q) (λb' q=>kp b' _ (λz=>by rw[z,e]at q;cases q) q) λb' xs q=>kp b' _ (λz=>by rw[z,e]at q;cases q) q;rcases hb' with rfl|hb'
   ·show z3 z
   ·rw[z,e]at hb';cases hb'
  show Ψ2 (.ref h'.objs.size) H' ⟨I.un (t':=tk) un bA,rfl,k _ H' nf kp (.inr ⟨c',oc,vs,t,_,SQ,V2,hd,hv⟩) ⟨_,SQ⟩ ⟨c',oc,vs,t,_,(X.mg "__name__").getD .none,uO,by rw[M4];show XQ,V2,hd,hv⟩⟩
 ·let hP:s.heap.get? P=some (W.tabObj #[rawInt pos.line,rawInt pos.col,.ref c']):=I.bA P _ e
  show W.kla_makeFunctionHit (cv:=.ref c') (mg:=X.mg) Ax I.ok.glob G tK C hP trivial ?_ hb λuO h' tk hx hsz=>?_
  ·show codeAmong pos [.int pos.line 0,.int pos.col 0,.ref c']=_
   simp[codeAmong]
  ·let nf:H h'.objs.size=none:=I.bA.fresh hsz
   generalize M4:W.kla_obj "<lambda>" q params body scope [] ((X.mg "__name__").getD .none) c' uO=ob;let kp:∀b o,H b=some o→upd H h'.objs.size (.ext (LH h'.objs.size ob)) b=some o:=λb o h2=>by rw[AW (λz=>by rw[z,nf]at h2;cases h2)];show h2
   show Ψ2 (.ref h'.objs.size) _ ⟨I.laid (t':=tk) (o:=.ext (LH h'.objs.size ob)) (λb u q=>Al _ (hx b u q)) hsz (pF (by rw[←M4];show CM _ rfl)),rfl,k _ _ nf (λb o _ h2=>kp b o h2) (.inr ⟨c',oc,vs,t,u,kp _ _ e,kp _ _ ec,hd,hv⟩) ⟨_,kp _ _ e⟩ ⟨c',oc,vs,t,u,(X.mg "__name__").getD .none,uO,by rw[M4];show B0,kp _ _ ec,hd,hv⟩⟩
end
structure oQ(X:Cx)(H:A7)(s s':Shared):Prop where
 un:Un (Cn X.stack) [] H H s.heap s'.heap
 bA:jt X.prog X.w H s'.heap
 bare:AllBare s'.gens
 os:s'.os=s.os
section
variable {s': Shared}
def oQ.inv(m:oQ X H s s')(I:Inv X x0 σ H s):Inv X x0 σ H s':=by
 obtain⟨h,g,d,t,os⟩:=s';obtain⟨un,bA,bare,e⟩:=m;cases e;show I.call (h':=h) (g':=g) (d':=d) (t':=t) (ch:=[]) un bA bare (λb z=>absurd z (by simp))
def oQ.refl(I:Inv X x0 σ H s):oQ X H s s:=⟨.refl,I.bA,I.bare,rfl⟩
def oQ.upd(m:oQ X H s s')(I:Inv X x0 σ H s)(hk:s.heap.objs.size≤k)(kp:∀b o,b≠k→s'.heap.get? b=some o→h'.get? b=some o):oQ X H s {s' with heap:=h',toks:=t'}:=by
 let nk:H k=none:=I.bA.fresh hk;let ne:∀b o,s.heap.get? b=some o→b≠k:=λb o e=>Bp (D6 (Aq e) hk);show⟨⟨λb o e n hb hx=>kp b o (ne b o e) (m.un.keep b o e n hb hx),λb o e n hb hx=>?_,m.un.free,λb o e hx=>?_,m.un.gA,m.un.gi,m.un.fQ⟩,λb u e=>?_,m.bare,m.os⟩
 ·let⟨sl,q⟩:=m.un.slot b o e n hb hx
  show⟨sl,kp b _ (ne b o e) q⟩
 ·let⟨o',q⟩:=m.un.there b o e hx
  show⟨o',kp b _ (ne b o e) q⟩
 ·show(m.bA b u e).iR (λc v hc q=>kp c v (λz=>?_) q) (λ_ q=>q) λ_ _ q=>q
  rcases hc with h|h
  ·rw[←h,z,nk]at e;cases e
  ·rw[z,nk]at h;cases h
def oQ.all(m:oQ X H s s')(I:Inv X x0 σ H s)(kp:∀b o,s'.heap.get? b=some o→h'.get? b=some o):oQ X H s {s' with heap:=h',toks:=t'}:=
 m.upd I (Ak _) (λb o _ e=>kp b o e)
def oQ.calls(m:oQ X H s s'){m8:Shared}(un:Un (Cn X.stack) [] H H s'.heap m8.heap)(bA:jt X.prog X.w H m8.heap)(bare:AllBare m8.gens)(os:m8.os=s'.os):oQ X H s m8:=
 ⟨m.un.trans un,bA,bare,os.trans m.os⟩
def kz{I0:Inv X x0 σ H s}{s1 s2:Shared}(hk:s.heap.objs.size≤k)(un:Un (Cn X.stack) [] H H s1.heap s2.heap)(e:s1.heap.get? k=some o):s2.heap.get? k=some o:=by
 show un.keep k o e (I0.bA.fresh hk) (λz=>?_) (by simp);let⟨_,⟨o',h,_⟩⟩:=I0.stack.mem z;show absurd (D6 (Aq h) hk) (FH _)
abbrev VQ(X:Cx)(H:A7)(A:Around)(f:Value)(v:Value)(z:Str):Prop:=∀(x0:ad) (σ:St) (s:Shared),Inv X x0 σ H s→
 wpAny (model X.prog X.w) A (call f [v]) (λu s'=>(∃t,u=.str z t)∧Un (Cn X.stack) [] H H s.heap s'.heap∧jt X.prog X.w H s'.heap∧AllBare s'.gens∧s'.os=s.os) (λ_ _=>False) s
end
abbrev Mr(ps:List (Str×Value))(out:List Value):Prop:=∃qs:List (Str×Value),qs.Perm ps∧out=qs.map (·.2)∧qs.Pairwise λa b=>¬b.1.cps.toList<a.1.cps.toList
def x6{vs:List Value}:∀{ks:List Value},StrsAre ks zs→ks.length=vs.length→(ks.zip vs).map (λp=>(strOf p.1,p.2))=zs.zip vs:=by
 induction vs generalizing zs with
 |nil=>intro ks h e;cases ks with
  |nil=>cases h;rfl
  |cons _ _=>cases e
 |cons v r ih=>
  intro ks h e;cases h with
  |nil=>cases e
  |cons x t h=>
   rw[Lz,Ar,Lz,ih h (by simpa using e)];rfl
def abS{keys:Array Value}{vs:List Value}{xs:Array Keyed}(hk:StrsAre keys.toList zs)(hl:zs.length=vs.length)(hp:xs.Perm (keys.zip vs.toArray))(hs:SortedToK PyProof.Rows.strKind xs xs.size):Mr (zs.zip vs) (xs.map (·.2)).toList:=by
 let Zk:keys.toList.length=vs.length:=by rw[←hl];show hk.length
 let pl:xs.toList.Perm (keys.toList.zip vs):=by
  have:=abw.mp hp;rw[ksk_zip]at this;show this
 show⟨xs.toList.map λp=>(strOf p.1,p.2),?_,by rw[Ox,CT];rfl,?_⟩
 ·have:=pl.map λp:Keyed=>(strOf p.1,p.2)
  rw[x6 hk Zk]at this;show this
 ·rw[adj,ac9]
  intro i j hi hj CA;rw[ED]at hi hj;let h:=hs i j (B7 CA) hj;let key:∀(n:Nat) (hn:n<xs.size),KK PyProof.Rows.strKind xs n=(strOf (xs.toList[n]'(by simpa using hn)).1).cps.toList:=λn hn=>by
   let hm:xs[n]∈keys.toList.zip vs:=pl.mem_iff.mp (Array.getElem_mem_toList hn);let⟨x,t,e⟩:=hk.all _ (Hy (show(xs[n].1,xs[n].2)∈keys.toList.zip vs from hm)).1;rw[KK_str hn (x:=x) (t:=t) (q:=xs[n].2) (by rw[←e])];have:xs.toList[n]'(by simpa using hn)=xs[n]:=by simp
   rw[this,e];rfl
  unfold KeyOrd.kle at h;rw[key i hi,key j hj]at h;intro z;simp only[PyProof.Rows.strKind]at h;rw[Dp z]at h;cases h
section
variable {s1: Shared}{A: Around}{a kS: Addr}{vs: List Value}{zs: List Str}{f: Value}{keys: Array Value}{e e1: Nat}{Pp: PySem.Fin→Shared→Prop}
def KH(h:n<64):n≤sizeLine:=by rw[CP];lia
def j3(I:Inv X x0 σ H s){st:SortSt}(m:oQ X H s s1)(ha:s.heap.objs.size≤a)(hk:s.heap.objs.size≤kS)(M8:kS≠a)(ek:s1.heap.get? kS=some (seqObj "list" keys e))(ea:s1.heap.get? a=some (seqObj "list" #[] e1))
  (sk:StrsAre keys.toList zs) (hl:zs.length=vs.length) (lZ:vs.length<64) (hp:(arrOf st).Perm (keys.zip vs.toArray)) (hs:SortedToK PyProof.Rows.strKind (arrOf st) (arrOf st).size) (hf:failedOf st=none)
  (h:∀s' out c,oQ X H s s'→s'.heap.get? a=some (seqObj "list" out c)→Mr (zs.zip vs) out.toList→Pp (.done (.ret .none)) s') :
  wpAny (model X.prog X.w) A (ksk_tail a false e1 (.ref kS) st) Pp E s1:=by
 let Ge:keys.size=vs.length:=by have:=sk.length;rw[ED]at this;lia
 let oz:((arrOf st).map (·.2)).size=vs.length:=by rw[TM,hp.size_eq,Array.size_zip,Ge,Bg,Nat.min_self]
 let b1:=Js s1.heap kS (Obj.mapSeq λ_=>(#[]:Array Value));let VJ:=(b1.2 a M8.symm).trans ea;let b2:=Js (s1.heap.update kS (Obj.mapSeq λ_=>(#[]:Array Value))) a (Obj.mapSeq λ_=>(arrOf st).map (·.2));let c2:=Rr VJ λ_=>(arrOf st).map (·.2);unfold ksk_tail;dsimp only;show A5 (JR ek rfl ?_ (by rw[Ge];show KH lZ) (CV _));show A5 (Fc (A5 (seqEpoch_at VJ rfl ?_)));show A5 (JR VJ rfl ?_ (CV _) (Qb (by show((arrOf st).map (·.2)).size≤_;rw[oz];show KH lZ)));rw[hf];simp only[bne_self_eq_false,Py,HV];let m1:oQ X H s {s1 with heap:=s1.heap.update kS (Obj.mapSeq λ_=>(#[]:Array Value))}:=m.upd I (t':=s1.toks) hk (λb o n q=>(b1.2 b n).trans q);show AG (h _ _ _ (m1.upd I (t':=s1.toks) ha (λb o n q=>(b2.2 b n).trans q)) c2 (abS sk hl hp hs))
def ad9(sk:StrsAre keys.toList zs):KeysOf PyProof.Rows.strKind (keys.zip vs.toArray):=λp hp=>by
 rw[ksk_zip]at hp;let⟨x,t,q⟩:=sk.all p.1 (Hy (show(p.1,p.2)∈keys.toList.zip vs from hp)).1;show⟨x.cps.toList,by rw[q]⟩
def uA(I:Inv X x0 σ H s)(m:oQ X H s s1)(ha:s.heap.objs.size≤a)(hk:s.heap.objs.size≤kS)(M8:kS≠a)(ek:s1.heap.get? kS=some (seqObj "list" keys e))(ea:s1.heap.get? a=some (seqObj "list" #[] e1))
  (sk:StrsAre keys.toList zs) (hl:zs.length=vs.length) (lZ:vs.length<64)
  (h:∀s' out c,oQ X H s s'→s'.heap.get? a=some (seqObj "list" out c)→Mr (zs.zip vs) out.toList→Pp (.done (.ret .none)) s') :
  wpAny (model X.prog X.w) A (ksk_end a false vs.toArray e1 (.ref kS) keys) Pp E s1:=by
 let Ge:keys.size=vs.length:=by have:=sk.length;rw[ED]at this;lia
 let zz:(keys.zip vs.toArray).size=vs.length:=by rw[Array.size_zip,Ge,Bg,Nat.min_self]
 unfold ksk_end;dsimp only;rw[AH BN];simp only[Py,HV];by_cases h2:vs.toArray.size<2
 ·rw[AI h2,AI h2]
  show A5 (AG ?_);rw[StateT.run_pure];show A5 (AG (j3 (st:=SortSt.mk' general' (keys.zip vs.toArray) #[] 7 none) I m ha hk M8 ek ea sk hl lZ (OQ _) (λi j CA hj=>?_) rfl h));let M9:j<(keys.zip vs.toArray).size:=hj;rw[zz]at M9;rw[Bg]at h2;have:i=j:=by lia
  subst this;show KeyOrd.kle_refl _
 ·rw[AH h2,AH h2]
  rw[Bg]at h2;let kk:keyKind' keys=pure oneType':=by
   obtain⟨l⟩:=keys;match l,Ge,sk with
   |[],Ge,_=>simp at Ge;lia
   |[_],Ge,_=>simp at Ge;lia
   |_::_::_,_,sk=>show keyKind_strs sk
  rw[kk];show A5 (AG (A5 (DC (wpS_sortRunsK (a₀:=keys.zip vs.toArray) (st:=SortSt.mk' oneType' (keys.zip vs.toArray) #[] 7 none) (Q:=λ_ dE=>(arrOf dE).Perm (keys.zip vs.toArray)∧failedOf dE=none∧SortedToK PyProof.Rows.strKind (arrOf dE) (keys.zip vs.toArray).size)
   strKind_oneLt (ad9 sk) ⟨OQ _,rfl,rfl,rfl⟩ (by rw[zz];lia) (by rw[zz];show lZ) λdE x y z=>⟨x,y,z⟩) ?_ λ_ _ q=>q)))
  rintro⟨⟨⟩,dE⟩ s' ⟨rfl,x,y,z⟩;show j3 I m ha hk M8 ek ea sk hl lZ x (by rw[x.size_eq];show z) y h
def strs_snoc{x:Str}{t:Tok}:∀{ks:List Value} {ss:List Str},StrsAre ks ss→StrsAre (ks++[.str x t]) (ss++[x])
 |_,_,.nil=>.cons x t .nil
 |_,_,.cons y u r=>.cons y u (strs_snoc r)
def aaZ(I:Inv X x0 σ H s)(m:oQ X H s s1)(ha:s.heap.objs.size≤a)(hk:s.heap.objs.size≤kS)(M8:kS≠a)(ek:s1.heap.get? kS=some (seqObj "list" #[] e))(ea:s1.heap.get? a=some (seqObj "list" #[] e1))(hl:zs.length=vs.length)(lZ:vs.length<64)
  (turn:∀(i:Nat) (v:Value) (z:Str),vs[i]?=some v→zs[i]?=some z→VQ X H A f v z)
  (h:∀s' out c,oQ X H s s'→s'.heap.get? a=some (seqObj "list" out c)→Mr (zs.zip vs) out.toList→Pp (.done (.ret .none)) s') :
  wpAny (model X.prog X.w) A (ksk_rest a f false vs.toArray e1 (.ref kS)) Pp E s1:=by
 unfold ksk_rest;show A5 (Fz ?_);first
  |rw[List.forIn_toArray]
  |(rw[←Ye];simp only[List.toList_toArray])
 show A5 (ksk_fold (λi s'=>∃kA e,oQ X H s s'∧s'.heap.get? kS=some (seqObj "list" kA e)∧s'.heap.get? a=some (seqObj "list" #[] e1)∧StrsAre kA.toList (zs.take i)) vs 0 s1 ⟨#[],e,m,ek,ea,by simpa using StrsAre.nil⟩ ?step ?done)
 case step=>
  intro j x s' hx⟨kA,e',m',Sy,Rb,sk⟩;simp only[F6]at sk ⊢;let hj:j<vs.length:=(aao.mp hx).1;obtain⟨z,hz⟩:∃z,zs[j]?=some z:=⟨_,BZ (by lia)⟩;let Ge:kA.size≤vs.length:=by have:=sk.length;rw[ED,Er]at this;lia
  show A5 (Hm (DC (turn j x z hx hz x0 σ s' (m'.inv I)) (λv m8 q=>?_) λ_ _ q=>q.elim));let⟨⟨t2,rfl⟩,un,bA,bare,os⟩:=q;let Xz:=kz (I0:=I) hk un Sy;let ea2:=kz (I0:=I) ha un Rb;let b1:=Js m8.heap kS (Obj.mapSeq (·.push (.str z t2)));let m2:=m'.calls un bA bare os;show A5 (JR Xz rfl ?_ (DN Ge (KH lZ)) (DN (Nat.le_of_eq (Array.size_push ..)) (by rw[CP];lia)));show AG ⟨rfl,kA.push (.str z t2),_,m2.upd I (t':=m8.toks) hk (λb o n q=>(b1.2 b n).trans q),Rr Xz (·.push (.str z t2)),(b1.2 a M8.symm).trans ea2,?_⟩;let e3:zs.take (j+1)=zs.take j++[z]:=by rw[List.take_add_one,hz];simp
  rw[e3,Array.toList_push];show strs_snoc sk
 case done=>
  intro s'⟨kA,e',m',Sy,Rb,sk⟩;let e3:zs.take (0+vs.length)=zs:=ID (by lia);rw[e3]at sk;show A5 (LL Sy rfl ?_);show uA I m' ha hk M8 Sy Rb sk hl lZ h
def acA(I:Inv X x0 σ H s){l q:Addr}(ho:s.heap.get? l=some o)(hc:o.cls=.type "tuple")(hd:o.data=.seq vs.toArray n)(hl:zs.length=vs.length)(lZ:vs.length<64)
  (turn:∀(i:Nat) (v:Value) (z:Str),vs[i]?=some v→zs[i]?=some z→VQ X H X.A.in1.in1 (.ref q) v z)
  (h:∀s0 s' a out c,Inv X x0 σ H s0→s0.heap.objs.size≤a→oQ X H s0 s'→s'.heap.get? a=some (seqObj "list" out c)→Mr (zs.zip vs) out.toList→Q (.ref a) s') :
  wpAny (model X.prog X.w) X.A (call (.builtin "sorted") [.ref l] [(Str.ofString "key",.ref q)]) Q E s:=by
 show call_function_entry_kw kind_sorted plain_sorted entry_sorted (ksk_s1 _ _) ?_;unfold Builtin.«sorted»;show A5 (m:=checkCount "sorted" 1 1 _) (AG ?_);show A5 (wpAny_collect_seq l (.inr rfl) ho hc hd (λh1 k1=>?_) (by rw[Bg];show KH lZ));show A5 (OX ?_ (by show vs.length≤_;show KH lZ));let I1:Inv X x0 σ H {s with heap:=h1}:=I.kept (t':=s.toks) k1;let m0:=oQ.refl I1;let oa:(h1.push (seqObj "list" vs.toArray 0)).get? h1.objs.size=some (seqObj "list" vs.toArray 0):=CM _ rfl;let m1:oQ X H {s with heap:=h1} {s with heap:=h1.push (seqObj "list" vs.toArray 0)}:=m0.all I1 (t':=s.toks) (λb o e=>Al _ e);show A5 (Dx (wpAny_call_entry_kw slot_list_sort ⟨_,oa,rfl⟩ entry_list_sort ?_ (ksk_l1 _ _)));show wpAny (model X.prog X.w) X.A.in1.in1 (Builtin.«list.sort» ⟨[.ref h1.objs.size],[(Str.ofString "key",.ref q)]⟩) _ _ {s with heap:=h1.push (seqObj "list" vs.toArray 0)}
 rw[ksk_t1];unfold ksk_tree;show A5 (LL oa rfl ?_);show A5 (JR oa rfl ?_ (by rw[Bg];show KH lZ) (CV _));let b1:=Js (h1.push (seqObj "list" vs.toArray 0)) h1.objs.size (Obj.mapSeq λ_=>(#[]:Array Value));let Ww:=Rr oa λ_=>(#[]:Array Value);let m2:=m1.upd I1 (t':=s.toks) (Ak _) (λb o n q=>(b1.2 b n).trans q);show A5 (seqEpoch_at Ww rfl ?_);show A5 (OF ?_ (by show vs.length≤_;show KH lZ));show A5 (OX ?_ (CV _));show Dx ?_;generalize hX:(h1.push (seqObj "list" vs.toArray 0)).update h1.objs.size (Obj.mapSeq λ_=>(#[]:Array Value))=g at *
 let gz:g.objs.size=h1.objs.size+1:=by rw[←hX,Li,Eg]
 let m3:=m2.all I1 (t':=s.toks) (h':=(g.push (seqObj "tuple" vs.toArray 0)).push (seqObj "list" #[] 0)) (λb o e=>Al _ (Al _ e));show aaZ I1 m3 (a:=h1.objs.size) (kS:=(g.push (seqObj "tuple" vs.toArray 0)).objs.size) (Ak _) (by rw[Eg,gz];show h1.objs.size≤_;lia) (by rw[Eg,gz];show Hu (Ia (Rc _))) (CM _ rfl)
  (Al _ (Al _ Ww)) hl lZ turn λs' out c m' Rb ob=>⟨_,rfl,AG ⟨_,rfl,h _ s' _ out c I1 (Ak _) m' Rb ob⟩⟩
end
end L2
namespace Sr
open PySem PyProof.Rows
variable {xs:Array Keyed}
structure SB(a0:Array Keyed)(kd:SortKind)(st:SortSt):Prop where
 perm:(arrOf st).Perm a0
 kind:kindOf st=kd
 failed:failedOf st=none
 pend:pendingOf st=#[]
section
variable {a0: Array Keyed}{kd: SortKind}{st: SortSt}
def SB.size(B:SB a0 kd st):(arrOf st).size=a0.size:=B.perm.size_eq
def SB.arr(B:SB a0 kd st)(h:xs.Perm (arrOf st)):SB a0 kd (setArr st xs):=⟨h.trans B.perm,B.kind,B.failed,B.pend⟩
def SB.get(B:SB a0 kd st){i:Nat}(h:i<a0.size):∃x,(arrOf st)[i]?=some x∧x∈a0.toList:=by
 let h':i<(arrOf st).size:=by rw[B.size];show h
 show⟨(arrOf st)[i],by simp[h'],?_⟩;have:=B.perm;rw[abw]at this;show this.mem_iff.mp (by simp)
end
def adO(vs:List Value):((pairsOf vs).map λx=>x.2).toList=vs:=by
 unfold pairsOf;simp only[Ox,af];induction vs with
 |nil=>rfl
 |cons v r ih=>simp only[Lz,Ar];rw[ih]
def qy{vs:List Value}(h:xs.Perm (pairsOf vs)):(xs.map λx=>x.2).toList.Perm vs:=by
 rw[abw]at h;have:=h.map (λx:Keyed=>x.2);rw[Ox];show this.trans ?_;rw[←Ox,adO]
section
variable {A: Around}{E: Value→Shared→Prop}{s: Shared}{M: Model}
def oK{α β:Type}{f:α→Sem β}(R:β→Prop):∀(vs:List α) {Q:List β→Shared→Prop},(∀v∈vs,∀(Q':β→Shared→Prop),(∀r,R r→Q' r s)→wpAny M A (f v) Q' E s)→(∀rs:List β,rs.length=vs.length→(∀r∈rs,R r)→Q rs s)→wpAny M A (List.mapM f vs) Q E s
 |[],Q,h,q=>by
  rw[List.mapM_nil];show AG (q [] rfl λ_ h=>nomatch h)
 |v::vs,Q,h,q=>by
  rw[List.mapM_cons];show A5 (h v (by simp) _ λr hr=>?_);show A5 (oK R vs (λv' hv=>h v' (by simp[hv])) λrs hl UX=>?_);show AG (q (r::rs) (by rw[BE,BE,hl]) λr' IV=>by
   rcases aah.mp IV with rfl|h'
   ·show hr
   ·show UX _ h')
def gj{α β:Type}{f:α→Sem β}(R:β→Prop){vs:List α}{Q:Array β→Shared→Prop}(h:∀v∈vs,∀(Q':β→Shared→Prop),(∀r,R r→Q' r s)→wpAny M A (f v) Q' E s)(q:∀rs:List β,rs.length=vs.length→(∀r∈rs,R r)→Q rs.toArray s):wpAny M A (Array.mapM f vs.toArray) Q E s:=by
 rw[Array.mapM_eq_mapM_toList,map_eq_pure_bind];show A5 (oK R vs h λrs hl hr=>AG (q rs hl hr))
end
end Sr
namespace L2
open PySem PySem.Spec PyProof.Rows
variable {X: Cx}
def lF:∀{us tV:List Value},tV.Perm us→∀{xs:List V},Vals xs us→∃zs,zs.Perm xs∧Vals zs tV:=by
 intro us tV p;induction p with
 |nil=>intro xs h;show⟨xs,.refl _,h⟩
 |@cons u l1 l2 p ih=>
  intro xs h;cases h with
  |@cons x u xs us r h'=>
   let⟨zs,pz,hz⟩:=ih h';show⟨x::zs,pz.cons _,.cons r hz⟩
 |swap u v l=>
  intro xs h;cases h with
  |@cons x u xs us r h'=>
   cases h' with
   |@cons y v ys vs r2 h2=>show⟨y::x::ys,.swap _ _ _,.cons r2 (.cons r h2)⟩
 |trans p1 p2 UK UJ=>
  intro xs h;let⟨zs,pz,hz⟩:=UJ h;let⟨ws,pw,hw⟩:=UK hz;show⟨ws,pw.trans pz,hw⟩
section
abbrev vw(ta:CW):Am:=λσ H Q=>ta σ H λvs H1=>∃n:Nat,vs=[.int n]∧n≤1000∧∀L,H1 L=none→Q (.ref L) (upd H1 L (.lst ((List.range n).map λj=>V.int (j:Nat))))
def pC{f:Nat→V}:∀{its:List Value} {k:Nat},(∀(j:Nat) (v:Value),its[j]?=some v→RelV (f (k+j)) v)→Vals ((List.range' k its.length).map f) its
 |[],k,h=>.nil
 |v::r,k,h=>by
  show Vals (f k::(List.range' (k+1) r.length).map f) (v::r)
  show .cons (h 0 v rfl) (pC λj u e=>?_);have:=h (j+1) u (by simpa using e);rw[show k+1+j=k+(j+1)by lia];show this
def aal{a:Expr}{ta:CW}{p1 p2 yh iF:Pos}(hc:X.calm=true)(hg:Bi X "list")(hm:X.mg "list" = none)(Nb:Bi X "range")(Gy:X.mg "range" = none)(ha:PA X [a] ta)
  (hs:starEach [a] X.env=[(false,eval a X.env)]:=by rfl)
  (hz:starEach [.Call (.Name "range" p2) [a] [] iF] X.env=[(false,eval (.Call (.Name "range" p2) [a] [] iF) X.env)]:=by rfl) :
  PE X (.Call (.Name "list" p1) [.Call (.Name "range" p2) [a] [] iF] [] yh) (vw ta):=by
 show .mk ?_;intro x0 s σ H Q I h;show Call_ (GJ I hg hm boot_list (Ii ?_ (by rw[hz];rfl) rfl));rw[hz];show T8 ?_;show Call_ (GJ I Nb Gy boot_range (Ii (Ab (ha iF x0 s σ H _ I h) λus s1 ξ=>Ξ23 ξ λvs H1 I1 r1 q1=>?_) hs rfl));let⟨n,e,hn,q⟩:=q1;subst e;cases r1 with
 |cons r rr=>
  cases rr;let⟨t,rfl⟩:=r;show call_range_1 ?_;show cL ?_;let hsz:Builtin.Range.rangeSize 0 (n:Int) 1=(n:Int):=by rw[rangeSize_one];split<;>lia
  show call_list_range (I1.ok.hd hc) (IsRange.new ..) (small_one (by lia) (by lia) (by lia) (by lia)) hsz (by lia) λh' tk acc c' k e io=>?_;let I2:=I1.kept (h':=s1.heap.push {cls:=.type "range",data:=.fields #[.int 0 s1.toks,.int n t,.int 1 (s1.toks+1)]}) (t':=s1.toks+1+1) λb o e=>Al _ e;let hv:Vals ((List.range n).map λj=>V.int (j:Nat)) acc.toList:=by
   have:=pC (f:=λj=>V.int (j:Nat)) (its:=acc.toList) (k:=0) (λj v ev=>by
    rw[F6];let⟨t',e'⟩:=io.2 j v (by rw[←O1];show ev);show⟨t',?_⟩;rw[e'];congr 1
    lia)
   rw[ED,io.1,←List.range_eq_range']at this;show this
  show Ψ2 (.ref _) _ ⟨I2.laid (t':=tk) k (Ak _) (show bT X.prog X.w _ h' _ (.lst ((List.range n).map λj=>V.int (j:Nat)))from⟨?_,acc.toList,c',hv,by rw[e]⟩),rfl,q _ (I2.bA.fresh (Ak _))⟩;rw[Ac,O4];show B7 (Bq hn)
end
section
def aen:Eb X (.type "int") (λxs H Q=>∃b:Bool,xs=[.bl b]∧Q (.int (if b=true then 1 else 0)) H):=by
 intro x0 s σ H xs us Q I r h;let⟨b,rfl,q⟩:=h;let⟨u,rfl,rx⟩:=vals1 r;cases rx;show call_int_1 (meets_int_new_bool b) ?_;show⟨typeIs_int _ _ _,.int _,H,I.tok _,⟨_,rfl⟩,q⟩
abbrev adn(K:W.Frag)(a:Addr)(xs:List V):Prop:=∃(o:Obj) (its:Array Value) (n:Nat),K.lookup a=some o∧o.cls=.type "tuple" ∧ o.data=.seq its n∧its.size≤sizeLine∧Vals xs its.toList
end
end L2
namespace Sr
open PySem PyProof.Rows
variable {xs:Array Keyed}{i n j:Nat}
section
variable {O: KeyOrd}(κ: Keyed→O.α)(d0: O.α)
abbrev Le(a b:O.α):Prop:=O.blt b a=false
def Le.refl(a:O.α):Le a a:=O.irrefl a
def Le.trans{a b c:O.α}(h:Le a b)(h':Le b c):Le a c:=by
 unfold Le at *
 cases e:O.blt c a with
 |false=>rfl
 |true=>
  rcases O.negTrans c b a e with x|x
  ·rw[h']at x;cases x
  ·rw[h]at x;cases x
def Le.of_lt{a b:O.α}(h:O.blt a b=true):Le a b:=by
 unfold Le;cases e:O.blt b a with
 |false=>rfl
 |true=>have:=O.trans a b a h e;rw[O.irrefl]at this;cases this
abbrev Br(xs:Array Keyed)(i:Nat):O.α:=match xs[i]? with
 |some p=>κ p
 |none=>d0
def Lr{p:Keyed}(h:xs[i]?=some p):Br κ d0 xs i=κ p:=by unfold Br;rw[h]
abbrev cz(xs:Array Keyed)(n:Nat):Prop:=∀i j,i≤j→j<n→Le (Br κ d0 xs i) (Br κ d0 xs j)
def cz.one(xs:Array Keyed):cz κ d0 xs 1:=λi j h h'=>by
 let e:i=j:=by lia
 rw[e];show Le.refl _
def cz.step(h:cz κ d0 xs n)(h1:1≤n)(l:Le (Br κ d0 xs (n-1)) (Br κ d0 xs n)):cz κ d0 xs (n+1):=λi j CA hj=>by
 by_cases e:j=n
 ·subst e
  by_cases e2:i=j
  ·rw[e2];show Le.refl _
  ·show(h i (j-1) (by lia) (by lia)).trans l
 ·show h i j CA (by lia)
abbrev lY(xs:Array Keyed)(n:Nat):Prop:=∀i j,i<j→j<n→O.blt (Br κ d0 xs j) (Br κ d0 xs i)=true
def lY.step(h:lY κ d0 xs n)(h1:1≤n)(l:O.blt (Br κ d0 xs n) (Br κ d0 xs (n-1))=true):lY κ d0 xs (n+1):=λi j CA hj=>by
 by_cases e:j=n
 ·subst e
  by_cases e2:i=j-1
  ·rw[e2];show l
  ·show O.trans _ _ _ l (h i (j-1) (by lia) (by lia))
 ·show h i j CA (by lia)
def xU(hn:n≤xs.size)(h:lY κ d0 xs n):cz κ d0 (mirror xs 0 n ((n-0)/2)) n:=λi j CA hj=>by
 let key:∀k,k<n→Br κ d0 (mirror xs 0 n ((n-0)/2)) k=Br κ d0 xs (n-1-k):=λk hk=>by
  unfold Br;rw[getElem?_mirror_all hn k,AI ⟨CV _,hk⟩,F6]
 rw[key i (by lia),key j hj];by_cases e:i=j
 ·rw[e];show Le.refl _
 ·show Le.of_lt (h (n-1-j) (n-1-i) (by lia) (by lia))
end
section
variable {prog: Program}{w: World}{A: Around}{E: Value→Shared→Prop}{s: Shared}{a0: Array Keyed}{kd: SortKind}{st: SortSt}{O: KeyOrd}{κ: Keyed→O.α}{d0: O.α}
abbrev Nv(M:Model)(A:Around)(s:Shared)(kd:SortKind)(a0:Array Keyed)(O:KeyOrd)(κ:Keyed→O.α):Prop:=∀x∈a0.toList,∀y∈a0.toList,κ x≠κ y→∀(Q:Bool→Shared→Prop) (E:xz),Q (O.blt (κ x) (κ y)) s→wpAny M A (keyLt' kd x.1 y.1) Q E s
abbrev K5(κ:Keyed→O.α)(a0:Array Keyed):Prop:=(a0.toList.map κ).Nodup
def K5.ne(D:K5 κ a0)(B:SB a0 kd st)(hi:i<a0.size)(hj:j<a0.size)(n:i≠j):Br κ d0 (arrOf st) i≠Br κ d0 (arrOf st) j:=by
 let p:=B.perm;rw[abw]at p;let nd:((arrOf st).toList.map κ).Nodup:=(p.map κ).nodup_iff.mpr D;let⟨x,ex,_⟩:=B.get hi;let⟨y,ey,_⟩:=B.get hj;rw[Lr κ d0 ex,Lr κ d0 ey];intro e;let hl:∀k,k<a0.size→k<((arrOf st).toList.map κ).length:=λk hk=>by rw[Ac,ED,B.size];show hk
 let hx:((arrOf st).toList.map κ)[i]'(hl i hi)=κ x:=by
  have:((arrOf st).toList.map κ)[i]?=some (κ x):=by rw[CZ,O1,ex];rfl
  show(aao.mp this).2
 let hy:((arrOf st).toList.map κ)[j]'(hl j hj)=κ y:=by
  have:((arrOf st).toList.map κ)[j]?=some (κ y):=by rw[CZ,O1,ey];rfl
  show(aao.mp this).2
 let pw:=ac9.mp nd;rcases Nat.lt_or_gt_of_ne n with h|h
 ·show pw i j (hl i hi) (hl j hj) h (by rw[hx,hy,e])
 ·show pw j i (hl j hj) (hl i hi) h (by rw[hx,hy,e])
def LP{Q:Option Bool→SortSt→Prop}(L:Nv (model prog w) A s kd a0 O κ)(D:K5 κ a0)(B:SB a0 kd st)(hi:i<a0.size)(hj:j<a0.size)(YB:i≠j)(q:Q (some (O.blt (Br κ d0 (arrOf st) i) (Br κ d0 (arrOf st) j))) st):wpS (model prog w) A E s (ltAt' i j) Q st:=by
 let⟨x,ex,mx⟩:=B.get hi;let⟨y,ey,my⟩:=B.get hj;let nk:=D.ne (d0:=d0) B hi hj YB;rw[Lr κ d0 ex,Lr κ d0 ey]at q nk;rw[ltAt'_eq];show Cu (wpS_get ?_);dsimp only;show Cu ?_;rw[elem'_eq,ex];show Dv ?_;show Cu ?_;rw[elem'_eq,ey];show Dv ?_;rw[lt'_eq];show Cu (wpS_get ?_);rw[B.kind];show Cu (wpS_lift (Hm (L x mx y my nk _ _ ⟨rfl,?_⟩)));show Dv q
def qd{a b:O.α}(n:a≠b)(h:O.blt a b=false):O.blt b a=true:=by
 cases e:O.blt b a with
 |true=>rfl
 |false=>show absurd (O.total a b h e) n
def yT{sA:Nat}{Q:Option Nat→SortSt→Prop}(L:Nv (model prog w) A s kd a0 O κ)(D:K5 κ a0)(B:SB a0 kd st)(h:sA≤a0.size)(h1:1≤sA)(q:∀m dE,SB a0 kd dE→1≤m→m≤sA→cz κ d0 (arrOf dE) m→Q (some m) dE):wpS (model prog w) A E s (countRun' 0 sA) Q st:=by
 rw[countRun'_eq];dsimp only;show Cu (wpS_mono (Q:=λc dE=>∃n,c=(none,n)∧dE=st∧1≤n∧n≤sA∧cz κ d0 (arrOf st) n∧(n<sA→O.blt (Br κ d0 (arrOf st) n) (Br κ d0 (arrOf st) (n-1))=true)) ?_ ?_)
 ·show Ko (λi c dE=>c=(none,i)∧dE=st∧1≤i∧cz κ d0 (arrOf st) i) (λi c jr h1 h2 hI=>?_) (λc jr hI=>?_) ⟨rfl,rfl,Ak _,cz.one κ d0 _⟩
  ·let⟨rfl,rfl,hi,so⟩:=hI
   dsimp only;show Cu (LP (d0:=d0) L D B (by lia) (by lia) (by lia) ?_);dsimp only;rw[F6];split
   ·rename_i hb
    show Dv ⟨i,rfl,rfl,by lia,by lia,so,λ_=>hb⟩
   ·rename_i hb
    show Dv ⟨rfl,rfl,by lia,so.step κ d0 hi (by unfold Le;simpa using hb)⟩
  ·let⟨rfl,rfl,hi,so⟩:=hI
   show⟨_,rfl,rfl,hi,by lia,so,λh=>?_⟩;lia
 intro c jr⟨n,rfl,rfl,n1,n2,so,br⟩;dsimp only;split
 ·show Dv (q n jr B n1 n2 so)
 rename_i M5;let fI:n<sA:=by
  rcases Nat.lt_or_ge n sA with h|h
  ·show h
  ·show absurd (by simpa using Nat.le_antisymm n2 h) M5
 let Zz:=br fI;simp only[F6];split
 ·rename_i Zf
  show Cu (LP (d0:=d0) L D B (by lia) (by lia) (by lia) ?_);dsimp only;let hr:O.blt (Br κ d0 (arrOf jr) 0) (Br κ d0 (arrOf jr) (n-1))=true:=by
   let l:=so 0 (n-1) (CV _) (by lia);show qd (D.ne B (by lia) (by lia) (by lia)) l
  rw[AI hr];show Dv (q n jr B n1 n2 so)
 ·rename_i Zf
  let en:n=1:=by lia
  subst en;show Cu (wpS_lift (Fz ⟨rfl,?_⟩));let f2:lY κ d0 (arrOf jr) 2:=λi j CA hj=>by
   let e1:i=0:=by lia
   let e2:j=1:=by lia
   subst e1 e2;show Zz
  show Cu (wpS_mono (Q:=λc dE=>∃m,c=(none,m,0)∧dE=jr∧2≤m∧m≤sA∧lY κ d0 (arrOf jr) m) ?_ ?_)
  ·show Ko (λi c dE=>c=(none,i,0)∧dE=jr∧2≤i∧lY κ d0 (arrOf jr) i) (λi c jh h1 h2 hI=>?_) (λc jh hI=>?_) ⟨rfl,rfl,Ak _,f2⟩
   ·let⟨rfl,rfl,hi,fa⟩:=hI
    dsimp only;show Cu (LP (d0:=d0) L D B (by lia) (by lia) (by lia) ?_);dsimp only;split
    ·rename_i hb
     rw[AH (by lia)];show Dv ⟨rfl,rfl,by lia,fa.step κ d0 (by lia) hb⟩
    ·rename_i hb
     show Cu (LP (d0:=d0) L D B (by lia) (by lia) (by lia) ?_);dsimp only;rw[AI (qd (D.ne B (by lia) (by lia) (by lia)) (by simpa using hb))];show Dv ⟨i,rfl,rfl,hi,by lia,fa⟩
   ·let⟨rfl,rfl,hi,fa⟩:=hI
    show⟨_,rfl,rfl,hi,by lia,fa⟩
  intro c jh⟨m,rfl,rfl,m1,m2,fa⟩;dsimp only;rw[AH (by lia)];show Cu (wpS_reverse ?_);let B2:=B.arr (mirror_perm (arrOf jh) 0 m ((m-0)/2));let JU:cz κ d0 (arrOf (setArr jh (mirror (arrOf jh) 0 m ((m-0)/2)))) m:=xU κ d0 (by rw[B.size];lia) fa;generalize setArr jh (mirror (arrOf jh) 0 m ((m-0)/2))=vi at B2 JU ⊢;show Cu (wpS_mono (Q:=λc dE=>∃n',c=(none,n')∧dE=vi∧1≤n'∧n'≤sA∧cz κ d0 (arrOf vi) n') ?_ ?_)
  ·show Ko (λi c dE=>c=(none,i)∧dE=vi∧1≤i∧cz κ d0 (arrOf vi) i) (λi c Yl h1 h2 hI=>?_) (λc Yl hI=>?_) ⟨rfl,rfl,by lia,JU⟩
   ·let⟨rfl,rfl,hi,so⟩:=hI
    dsimp only;show Cu (LP (d0:=d0) L D B2 (by lia) (by lia) (by lia) ?_);dsimp only;split
    ·show Dv ⟨i,rfl,rfl,by lia,by lia,so⟩
    ·rename_i hb
     show Dv ⟨rfl,rfl,by lia,so.step κ d0 hi (by unfold Le;simpa using hb)⟩
   ·let⟨rfl,rfl,hi,so⟩:=hI
    show⟨_,rfl,rfl,hi,by lia,so⟩
  intro c Bj⟨n5,rfl,rfl,YD,YC,Ym⟩;show Dv (q n5 Bj B2 YD YC Ym)
def mi{src d:Nat}(h:src<xs.size)(hd:d≤src)(k:Nat):Br κ d0 (bubble xs src d) k=if k=src-d then Br κ d0 xs src else if src-d<k∧k≤src then Br κ d0 xs (k-1)else Br κ d0 xs k:=by
 unfold Br;rw[getElem?_bubble h d hd k];by_cases c:k=src-d
 ·rw[AI c,AI c]
 ·rw[AH c,AH c]
  by_cases c2:src-d<k∧k≤src
  ·rw[AI c2,AI c2]
  ·rw[AH c2,AH c2]
def ad7{k l:Nat}(hk:k<xs.size)(hl:l≤k)(so:cz κ d0 xs k)(lo:∀i,i<l→Le (Br κ d0 xs i) (Br κ d0 xs k))(hi:∀i,l≤i→i<k→Le (Br κ d0 xs k) (Br κ d0 xs i)):cz κ d0 (bubble xs k (k-l)) (k+1):=λi j CA hj=>by
 let e:k-(k-l)=l:=by lia
 rw[mi hk (by lia) i,mi hk (by lia) j,e];by_cases ei:i=l
 ·rw[AI ei]
  by_cases ej:j=l
  ·rw[AI ej];show Le.refl _
  ·rw[AH ej,AI ⟨by lia,by lia⟩]
   show hi (j-1) (by lia) (by lia)
 ·rw[AH ei]
  by_cases ii:l<i∧i≤k
  ·rw[AI ii,AH (by lia),AI ⟨by lia,by lia⟩]
   show so (i-1) (j-1) (by lia) (by lia)
  ·rw[AH ii]
   by_cases ej:j=l
   ·rw[AI ej];show lo i (by lia)
   ·rw[AH ej]
    by_cases jj:l<j∧j≤k
    ·rw[AI jj];show so i (j-1) (by lia) (by lia)
    ·rw[AH jj];show so i j CA (by lia)
def abq{ok:Nat}{Q:Bool→SortSt→Prop}(L:Nv (model prog w) A s kd a0 O κ)(D:K5 κ a0)(B:SB a0 kd st)(h:n≤a0.size)(h1:1≤ok)(bA:ok≤n)(so:cz κ d0 (arrOf st) ok)(q:∀dE,SB a0 kd dE→cz κ d0 (arrOf dE) n→Q true dE):wpS (model prog w) A E s (binarySort' 0 n ok) Q st:=by
 rw[binarySort'_eq];let em:max ok 1=ok:=by lia
 rw[em];show Cu (wpS_mono (Q:=λc dE=>c=(none,())∧SB a0 kd dE∧cz κ d0 (arrOf dE) n) ?_ ?_)
 ·show Ko (λi c dE=>c=(none,())∧SB a0 kd dE∧cz κ d0 (arrOf dE) i) (λi c jr h1 h2 hI=>?_) (λc jr hI=>?_) ⟨rfl,B,so⟩
  ·let⟨rfl,B1,JV⟩:=hI
   dsimp only;show Cu (wpS_mono (Q:=λc dE=>(∃l r,c=(none,l,r)∧r≤l∧l≤i∧(∀j,j<l→Le (Br κ d0 (arrOf jr) j) (Br κ d0 (arrOf jr) i))∧(∀j,l≤j→j<i→Le (Br κ d0 (arrOf jr) i) (Br κ d0 (arrOf jr) j)))∧dE=jr) ?_ ?_)
   ·show Ko (λt c dE=>(∃l r,c=(none,l,r)∧l≤r∧r≤i∧r-l≤i-t∧(∀j,j<l→Le (Br κ d0 (arrOf jr) j) (Br κ d0 (arrOf jr) i))∧(∀j,r≤j→j<i→Le (Br κ d0 (arrOf jr) i) (Br κ d0 (arrOf jr) j)))∧dE=jr) (λt c jh j1 j2 hJ=>?_) (λc jh hJ=>?_) ⟨Ψ2 0 i ⟨rfl,CV _,Ak _,Ak _,λj hj=>absurd hj (dO _),λj a b=>absurd b (by lia)⟩,rfl⟩
    ·let⟨⟨l,r,rfl,lr,hr,hm,lo,hi⟩,rfl⟩:=hJ
     dsimp only;split
     ·rename_i IX
      show Dv ⟨Ψ2 l r ⟨rfl,IX,by lia,lo,λj a b=>hi j (by lia) b⟩,rfl⟩
     ·rename_i IX
      simp only[F6];show Cu (LP (d0:=d0) L D B1 (by lia) (by lia) (by lia) ?_);dsimp only;split
      ·rename_i hb
       show Dv ⟨Ψ2 l ((l+r)/2) ⟨rfl,by lia,by lia,by lia,lo,λj a b=>?_⟩,rfl⟩;show(Le.of_lt hb).trans (JV ((l+r)/2) j a b)
      ·rename_i hb
       show Dv ⟨Ψ2 ((l+r)/2+1) r ⟨rfl,by lia,hr,by lia,λj a=>?_,hi⟩,rfl⟩;let hb':Le (Br κ d0 (arrOf jh) ((l+r)/2)) (Br κ d0 (arrOf jh) i):=by unfold Le;simpa using hb
       show(JV j ((l+r)/2) (by lia) (by lia)).trans hb'
    ·let⟨⟨l,r,rfl,lr,hr,hm,lo,hi⟩,rfl⟩:=hJ
     show⟨Ψ2 l r ⟨rfl,by lia,by lia,lo,λj a b=>hi j (by lia) b⟩,rfl⟩
   ·intro c jh⟨⟨l,r,rfl,rl,hl,lo,hi⟩,rfl⟩
    dsimp only;rw[moveDown'_eq];show Cu (wpS_modify ?_);simp only[F6];show Dv ⟨rfl,B1.arr (bubble_perm _ _ _),ad7 (by rw[B1.size];lia) hl JV lo hi⟩
  ·let⟨rfl,B1,JV⟩:=hI
   rw[Nat.max_eq_right bA]at JV;show⟨rfl,B1,JV⟩
 ·intro c jr⟨rfl,B1,JV⟩
  show Dv (q jr B1 JV)
def aa5{Q:Unit→SortSt→Prop}(L:Nv (model prog w) A s kd a0 O κ)(D:K5 κ a0)(B:SB a0 kd st)(h2:2≤a0.size)(lZ:a0.size<64)(q:∀dE,(arrOf dE).Perm a0→failedOf dE=none→cz κ d0 (arrOf dE) a0.size→Q () dE):wpS (model prog w) A E s sortRuns' Q st:=by
 rw[sortRuns'_eq];show Cu (wpS_get ?_);dsimp only;rw[B.size];let hm:minRun' a0.size a0.size 0=a0.size:=by
  cases e:a0.size with
  |zero=>lia
  |succ n=>rw[minRun'_succ,AI (by lia)]
 rw[hm];show Cu (wpS_mono (Q:=λc dE=>c=(none,a0.size)∧∃jr,SB a0 kd jr∧cz κ d0 (arrOf jr) a0.size∧dE=setPending jr (#[].push (0,a0.size,0))) ?_ ?_)
 ·show Ko (λi c dE=>(i=0∧c=(none,0)∧SB a0 kd dE)∨(0<i∧c=(none,a0.size)∧∃jr,SB a0 kd jr∧cz κ d0 (arrOf jr) a0.size∧dE=setPending jr (#[].push (0,a0.size,0)))) (λi c jr h1 h2 hI=>?_) (λc jr hI=>?_) (.inl ⟨rfl,rfl,B⟩)
  ·rcases hI with⟨rfl,rfl,B1⟩|⟨hi,rfl,jh,B2,JU,rfl⟩
   ·dsimp only
    rw[AH (by lia)];show Cu (yT (d0:=d0) L D B1 (by lia) (by lia) λm jh B2 m1 m2 so=>?_);dsimp only;let U9:min (a0.size-0) a0.size=a0.size:=by rw[OA,Nat.min_self]
    split
    ·show Cu (wpS_lift (Fz ⟨rfl,?_⟩))
     rw[U9];show Cu (abq (d0:=d0) L D B2 (Ak _) m1 (by lia) so λvi B3 Yn=>?_);rw[AH (by decide)];show Cu (wpS_get ?_);rw[B3.pend];show Cu (wpS_modify ?_);show Dv (.inr ⟨Nat.zero_lt_succ _,by rw[F6],vi,B3,Yn,by rw[B3.pend]⟩)
    ·rename_i Gy
     let em:m=a0.size:=by lia
     subst em;show Cu (wpS_get ?_);rw[B2.pend];show Cu (wpS_modify ?_);show Dv (.inr ⟨Nat.zero_lt_succ _,by rw[F6],jh,B2,so,by rw[B2.pend]⟩)
   ·dsimp only
    rw[AI (by lia)];show Dv ⟨rfl,jh,B2,JU,rfl⟩
  ·rcases hI with⟨h0,_⟩|⟨hi,rfl,jh,B2,JU,rfl⟩
   ·lia
   ·show⟨rfl,jh,B2,JU,rfl⟩
 ·intro c jr⟨rfl,⟨jh,B2,JU,rfl⟩⟩
  dsimp only;show Cu (wpS_mono (Q:=λc dE=>c=(none,())∧dE=setPending jh (#[].push (0,a0.size,0))) ?_ ?_)
  ·show Ko (λi c dE=>c=(none,())∧dE=setPending jh (#[].push (0,a0.size,0))) (λi c vi h1 h2 hI=>?_) (λc vi hI=>hI) ⟨rfl,rfl⟩
   let⟨rfl,rfl⟩:=hI;show Cu (wpS_get ?_);split
   ·show Dv ⟨rfl,rfl⟩
   ·rename_i hc
    show absurd (Ak 1) hc
  ·intro c vi⟨rfl,rfl⟩
   show Dv (q _ B2.perm B2.failed JU)
end
end Sr
namespace L2
open PySem PySem.Spec PyProof.Rows
variable {z p r j1 j2 u1 u2:Addr}{i:Nat}{vs ws:Array Value}{a b:Value}{Q:xz}{w:World}{pos:Pos}{X: Cx}
section
def aep:Bs X (binaryOp .Add) (λx y H Q=>∃l b xs zs,x=.ref l∧y=.ref b∧eB X.K H l xs∧eB X.K H b zs∧xs.length+zs.length≤sizeLine∧∀p,H p=none→Q (.ref p) (upd H p (.lst (xs++zs)))):=by
 intro x0 s σ H x y v u Q I rx ry h;let⟨l,b,xs,zs,rfl,rfl,hH,hB,hz,q⟩:=h;cases rx;cases ry;let⟨its,r,pl,z⟩:=I.list hH;let⟨fZ,r2,oG,z2⟩:=I.list hB;let l1:=r.length;let l2:=r2.length;obtain⟨⟨cls,dd,data,sl⟩,ho,hc,n,hd⟩:=pl.isList;obtain⟨⟨Rn,Ob,data2,Ct⟩,Gx,Ku,n2,hd2⟩:=oG.isList;simp only at hc hd Ku hd2;subst hc hd Ku hd2;let e:its.toArray++fZ.toArray=(its++fZ).toArray:=by simp
 show Pg ⟨_,ho,rfl⟩ ⟨_,Gx,rfl⟩ noFill_list_add seq_list_add PySem.F.slot_list_add PySem.F.entry_list_add (PySem.F.args_list_add_2 _ _) (list_addW l b its.toArray fZ.toArray n n2 dd Ob sl Ct (by simp only[Bg];lia)) ⟨ho,Gx,?_⟩;rw[e];show Ψ2 (.ref _) _ ⟨I.MG (t':=s.toks) (r.append r2) (by rw[B9];lia),rfl,q _ I.fresh⟩
abbrev S(l:List Nat):Str:=⟨l.toArray⟩
end
section
variable {prog: Program}{w: World}{A: Around}{E: Value→Shared→Prop}{s: Shared}
def aeK{x y:Value}(D:Apart z p r j1 j2 u1 u2)
  (hz:IsZip s.heap z p r .none) (hp:IsPair s.heap p (.ref j1) (.ref j2)) (hr:IsPair s.heap r a b)
  (h1:s.heap.IsTupleIter j1 u1 i) (h2:s.heap.IsListIter j2 u2 i) (l1:s.heap.IsTuple u1 vs) (l2:s.heap.IsList u2 ws) (hx:vs[i]?=some x) (hy:ws[i]?=some y)
  (q:∀h',IsZip h' z p r (rawInt s.heap.objs.size)→IsPair h' r x y→h'.IsTupleIter j1 u1 (i+1)→h'.IsListIter j2 u2 (i+1)→IsPair h' s.heap.objs.size x y→h'.objs.size=s.heap.objs.size+1→
   (∀c o,c≠z→c≠r→c≠j1→c≠j2→s.heap.get? c=some o→h'.get? c=some o)→Q (.ref s.heap.objs.size) {s with heap:=h'}) :
  wpAny (model prog w) A (Builtin.«zip.__next__» ⟨[.ref z],[]⟩) (λfin s'=>∃v,fin=.done (.ret v)∧Q v s') E s:=by
 show wpAny _ _ (field (.ref z) 2 >>= _) _ _ _
 show A5 (C3 hz rfl (x:=.bool false) rfl ?_);show wpAny _ _ (field (.ref z) 3 >>= _) _ _ _
 show A5 (C3 hz rfl (x:=.ref p) rfl ?_);show A5 (EA hp rfl ?_);show wpAny _ _ (Builtin.SmallTypes.ownedTupleIsFree (.ref z) >>= _) _ _ _
 show A5 ?_;unfold Builtin.SmallTypes.ownedTupleIsFree;show A5 (C3 hz rfl (x:=.none) rfl (AG ?_));simp only[Gi];show A5 (Fz ?_);show A5 (C3 hz rfl (x:=.ref r) rfl ?_);show A5 (wpAny_setField_rec hz (by simp) λg1 z1 e1=>?_)
 replace z1:IsZip g1 z p r .ellipsis:=z1
 show A5 ?_;simp only[OR,Rg,JK,Ju];show A5 (A5 (Im ?_));show wpAny _ _ (Builtin.SmallTypes.nextOf (.ref j1) >>= _) _ _ _
 show A5 (K0 (h1.extBut e1.extBut D.vk) (l1.extBut e1.extBut D.JI) hx λg2 a2 e2=>AG ?_);let r2:IsPair g2 r a b:=e2.extBut _ _ D.Hc (e1.extBut _ _ D.rz hr);show A5 (EA r2 rfl ?_);show A5 (L6 r2 λg3 r3 e3=>?_)
 replace r3:IsPair g3 r x b:=r3
 show A5 (Fc (AG ?_));show A5 (A5 (Im ?_));show wpAny _ _ (Builtin.SmallTypes.nextOf (.ref j2) >>= _) _ _ _
 show A5 (wpAny_nextOf_list_item (((h2.extBut e1.extBut D.BO).extBut e2.extBut D.Kj.symm).extBut e3.extBut D.Hb.symm) (((l2.extBut e1.extBut D.Ol).extBut e2.extBut D.Dj).extBut e3.extBut D.RI) hy λg4 a4 e4=>AG ?_);let r4:IsPair g4 r x b:=e4.extBut _ _ D.Hb r3;show A5 (EA r4 rfl ?_);show A5 (L6 r4 λg5 r5 e5=>?_)
 replace r5:IsPair g5 r x y:=r5
 show A5 (Fc (AG (AG ?_)));show A5 (EA r5 rfl ?_);show A5 (OF ?_);let sz:g5.objs.size=s.heap.objs.size:=by rw[e5.1,e4.1,e3.1,e2.1,e1.1]
 let z5:IsZip g5 z p r .ellipsis:=e5.extBut _ _ D.rz.symm (e4.extBut _ _ D.BO.symm (e3.extBut _ _ D.rz.symm (e2.extBut _ _ D.vk.symm z1)));let k5:∀c o,c≠z→c≠r→c≠j1→c≠j2→s.heap.get? c=some o→g5.get? c=some o:=λc o n1 n2 n3 n4 e=>
  e5.extBut _ _ n2 (e4.extBut _ _ n4 (e3.extBut _ _ n2 (e2.extBut _ _ n3 (e1.extBut _ _ n1 e))))
 let b1:g5.IsTupleIter j1 u1 (i+1):=((a2.extBut e3.extBut D.Hc.symm).extBut e4.extBut D.Kj).extBut e5.extBut D.Hc.symm;let b2:g5.IsListIter j2 u2 (i+1):=a4.extBut e5.extBut D.Hb.symm;let zl:z<g5.objs.size:=Aq z5;show wpAny _ _ (Builtin.SmallTypes.ownedTupleHandOut (.ref z) (.ref g5.objs.size) >>= _) _ _ _
 show A5 ?_;unfold Builtin.SmallTypes.ownedTupleHandOut;let z6:IsZip (g5.push {cls:=.type "tuple",data:=.seq #[x,y]}) z p r .ellipsis:=Al _ z5;show A5 (wpAny_setField_rec z6 (by simp) λg7 z7 e7=>?_)
 replace z7:IsZip g7 z p r (rawInt g5.objs.size):=z7
 show wpAny_setField_rec z7 (by simp) λg8 z8 e8=>?_
 replace z8:IsZip g8 z p r (rawInt g5.objs.size):=z8
 let up:∀c o,c≠z→g5.get? c=some o→g8.get? c=some o:=λc o n1 e=>e8.extBut _ _ n1 (e7.extBut _ _ n1 (Al _ e));let t8:IsPair g8 g5.objs.size x y:=e8.extBut _ _ (Hu zl) (e7.extBut _ _ (Hu zl) (CM _ rfl));let s8:g8.objs.size=g5.objs.size+1:=by rw[e8.1,e7.1,Eg]
 rw[sz]at z8 t8 s8;show AG ⟨_,rfl,?_⟩;show Q (.ref g5.objs.size) _
 rw[sz];show q g8 z8 (up _ _ D.rz r5) (GP b1 λo e=>up _ o D.vk e) (b2.at λo e=>up _ o D.BO e) t8 s8 λc o n1 n2 n3 n4 e=>up c o n1 (k5 c o n1 n2 n3 n4 e)
def wH{Q:Fin→Shared→Prop}(hh:A.handled=none)(D:Apart z p r j1 j2 u1 u2)
  (hz:IsZip s.heap z p r .none) (hp:IsPair s.heap p (.ref j1) (.ref j2)) (hr:IsPair s.heap r a b)
  (h1:s.heap.IsTupleIter j1 u1 i) (h2:s.heap.IsListIter j2 u2 i) (l1:s.heap.IsTuple u1 vs) (l2:s.heap.IsList u2 ws) (Ft:vs[i]?=none∨ws[i]?=none)
  (q:∀h' e,(∀c o,c≠z→c≠r→c≠j1→c≠j2→s.heap.get? c=some o→h'.get? c=some o)→(∃o,h'.get? e=some o∧o.cls=.type "StopIteration")→E (.ref e) {s with heap:=h'}) :
  wpAny (model prog w) A (Builtin.«zip.__next__» ⟨[.ref z],[]⟩) Q E s:=by
 show wpAny _ _ (field (.ref z) 2 >>= _) _ _ _
 show A5 (C3 hz rfl (x:=.bool false) rfl ?_);show wpAny _ _ (field (.ref z) 3 >>= _) _ _ _
 show A5 (C3 hz rfl (x:=.ref p) rfl ?_);show A5 (EA hp rfl ?_);show wpAny _ _ (Builtin.SmallTypes.ownedTupleIsFree (.ref z) >>= _) _ _ _
 show A5 ?_;unfold Builtin.SmallTypes.ownedTupleIsFree;show A5 (C3 hz rfl (x:=.none) rfl (AG ?_));simp only[Gi];show A5 (Fz ?_);show A5 (C3 hz rfl (x:=.ref r) rfl ?_);show A5 (wpAny_setField_rec hz (by simp) λg1 z1 e1=>?_)
 replace z1:IsZip g1 z p r .ellipsis:=z1
 show A5 ?_;simp only[OR,Rg,JK,Ju];show A5 (A5 (Im ?_));show wpAny _ _ (Builtin.SmallTypes.nextOf (.ref j1) >>= _) _ _ _
 cases hx:vs[i]? with
 |none=>
  show A5 (PU hh (h1.extBut e1.extBut D.vk) (l1.extBut e1.extBut D.JI) hx λg2 e e2 he=>?_);let⟨oe,yP,Fu⟩:=he;let z2:IsZip g2 z p r .ellipsis:=e2 _ _ D.vk.symm z1;let MB:e≠z:=λx=>by subst x;rw[z2]at yP;cases yP;simp at Fu
  show wpAny_setField_rec z2 (by simp) λg3 _ e3=>q g3 e (λc o n1 _ n3 _ x=>e3.extBut _ _ n1 (e2 _ _ n3 (e1.extBut _ _ n1 x))) ⟨oe,e3.extBut _ _ MB yP,Fu⟩
 |some x=>
  have hy:ws[i]?=none:=by rcases Ft with h|h;rw[hx]at h;cases h;show h
  show A5 (K0 (h1.extBut e1.extBut D.vk) (l1.extBut e1.extBut D.JI) hx λg2 a2 e2=>AG ?_);let r2:IsPair g2 r a b:=e2.extBut _ _ D.Hc (e1.extBut _ _ D.rz hr);show A5 (EA r2 rfl ?_);show A5 (L6 r2 λg3 r3 e3=>?_);show A5 (Fc (AG ?_));show A5 (A5 (Im ?_));show wpAny _ _ (Builtin.SmallTypes.nextOf (.ref j2) >>= _) _ _ _
  show A5 (wpAny_nextOf_list_end hh (((h2.extBut e1.extBut D.BO).extBut e2.extBut D.Kj.symm).extBut e3.extBut D.Hb.symm) (((l2.extBut e1.extBut D.Ol).extBut e2.extBut D.Dj).extBut e3.extBut D.RI) hy λg4 e e4 he=>?_);let⟨oe,yP,Fu⟩:=he;let z4:IsZip g4 z p r .ellipsis:=e4 _ _ D.BO.symm (e3.extBut _ _ D.rz.symm (e2.extBut _ _ D.vk.symm z1));let MB:e≠z:=λx=>by subst x;rw[z4]at yP;cases yP;simp at Fu
  show wpAny_setField_rec z4 (by simp) λg5 _ e5=>q g5 e (λc o n1 n2 n3 n4 x=>e5.extBut _ _ n1 (e4 _ _ n4 (e3.extBut _ _ n2 (e2.extBut _ _ n3 (e1.extBut _ _ n1 x))))) ⟨oe,e5.extBut _ _ MB yP,Fu⟩
end
abbrev El(K:W.Frag)(a b:Addr):It:=
  ⟨λi H=>∃xs ys x y,dD K H a xs∧eB K H b ys∧xs[i]?=some x∧ys[i]?=some y,
   λi H v H'=>∃p x y,H p=none∧v=.ref p∧H'=upd H p (.tup [x,y])∧(∀xs,dD K H a xs→xs[i]?=some x)∧(∀ys,eB K H b ys→ys[i]?=some y),
   λi H=>∃xs ys,dD K H a xs∧eB K H b ys∧(xs.length≤i∨ys.length≤i)⟩
def vU{P:Program}{K:W.Frag}{elts:List Expr}{kk:Nat}(a b z p r j1 j2:Addr)(D:Apart z p r j1 j2 a b):
  Turn P w K (.Tuple elts kk pos) (El K a b) [z,p,r,j1,j2] z (λi h=>IsZip h z p r .none∧IsPair h p (.ref j1) (.ref j2)∧(∃u v,IsPair h r u v)∧h.IsTupleIter j1 a i∧h.IsListIter j2 b i) where
 mem:=by simp
 obj:=λi h st c hc=>by
  let⟨hz,hp,⟨u,v,hr⟩,⟨o1,e1,_,d1⟩,⟨o2,e2,_,d2⟩⟩:=st;simp only[aah,BI,D7]at hc;rcases hc with rfl|rfl|rfl|rfl|rfl
  ·show⟨_,hz,λv z=>by have z':Data.fields _=Data.cell v:=z;cases z'⟩
  ·show⟨_,hp,λv z=>by have z':Data.seq _ _=Data.cell v:=z;cases z'⟩
  ·show⟨_,hr,λv z=>by have z':Data.seq _ _=Data.cell v:=z;cases z'⟩
  ·show⟨o1,e1,λv z=>by rw[d1]at z;cases z⟩
  ·show⟨o2,e2,λv z=>by rw[d2]at z;cases z⟩
 keep:=λi h h' st k=>by
  let⟨hz,hp,⟨u,v,hr⟩,h1,h2⟩:=st;show⟨k z (by simp) _ hz,k p (by simp) _ hp,Ψ2 u v (k r (by simp) _ hr),GP h1 λo e=>k j1 (by simp) o e,h2.at λo e=>k j2 (by simp) o e⟩
 item:=by
  intro X hP hw hK hc i x0 s σ H E I hf st hg;subst hP hw hK;let⟨hz,hp,⟨u,v,hr⟩,h1,h2⟩:=st;let⟨xs,ys,x,y,sE,uH,hx,hy⟩:=hg;let⟨its,rv,pl,_⟩:=I.tuple sE;let⟨fZ,vj,oG,_⟩:=I.list uH;let⟨J3,ex,rx⟩:=rv.get hx;let⟨vy,ey,ry⟩:=vj.get hy;let hT:s.TypeIs (.ref z) "zip" :=⟨_,hz,rfl⟩;let n0:H s.heap.objs.size=none:=I.bA.fresh (Ak _);unfold pyNext;show A5 (Hm (HM (name:=Str.ofString "__next__") hT GZ (FZ GZ hT LO
   (aeK D hz hp hr h1 h2 pl oG.isList (by simpa using ex) (by simpa using ey) λg a1 a2 a3 a4 a5 a6 a7=>AG ?_) (Lg _))))
  show⟨_,rfl,?_⟩;show wpAny_letOwnedTupleGo_zip a1 λg2 b1 b2=>?_;let zl:z<s.heap.objs.size:=Aq hz;let lt:∀c∈[z,p,r,j1,j2],c<s.heap.objs.size:=λc hc=>by
   simp only[aah,BI,D7]at hc;let⟨_,q1,_⟩:=h1;let⟨_,q2,_⟩:=h2;rcases hc with rfl|rfl|rfl|rfl|rfl
   ·show zl
   ·show Aq hp
   ·show Aq hr
   ·show Aq q1
   ·show Aq q2
  show Ψ2 (.ref s.heap.objs.size) (upd H s.heap.objs.size (.tup [x,y])) ⟨?_,rfl,Ψ3 _ x y ⟨n0,rfl,rfl,λzs NW=>by rw[I.sW NW sE];show hx,λzs NW=>by rw[I.wz NW uH];show hy⟩,⟨b1,?_,Ψ2 J3 vy ?_,?_,?_⟩,λc hc=>?_⟩
  ·show I.nq (t':=s.toks) (ch:=[z,r,j1,j2]) (λc o hc e=>?_) (λc hc=>hf c ?_) (Ak _) ⟨by show 2≤sizeLine;decide,[J3,vy],.cons rx (.cons ry .nil),?_⟩
   ·simp only[aah,BI,D7,not_or]at hc
    show b2.extBut _ _ hc.1 (a7 c o hc.1 hc.2.1 hc.2.2.1 hc.2.2.2 e)
   ·simp only[aah,BI,D7]at hc ⊢
    rcases hc with rfl|rfl|rfl|rfl<;>simp
   ·show⟨_,b2.extBut _ _ (Hu zl) a5,rfl,0,rfl⟩
  ·show b2.extBut _ _ D.pz (a7 _ _ D.pz D.pr D.Ue D.Ud hp)
  ·show b2.extBut _ _ D.rz a2
  ·show a3.extBut b2.extBut D.vk
  ·show a4.extBut b2.extBut D.BO
  ·rw[AW (Bp (lt c hc))]
   show(hf c hc).1
 done:=by
  intro X hP hw hK hc i x0 s σ H E I hf st hg;subst hP hw hK;let⟨hz,hp,⟨u,v,hr⟩,h1,h2⟩:=st;let⟨xs,ys,sE,uH,he⟩:=hg;let⟨its,rv,pl,_⟩:=I.tuple sE;let⟨fZ,vj,oG,_⟩:=I.list uH;let l1:=rv.length;let l2:=vj.length;let Ft:its.toArray[i]?=none∨fZ.toArray[i]?=none:=he.imp (λe=>by simp;lia) (λe=>by simp;lia);let hT:s.TypeIs (.ref z) "zip" :=⟨_,hz,rfl⟩;unfold pyNext;show A5 (Hm (HM (name:=Str.ofString "__next__") hT GZ (FZ GZ hT LO
   (wH (I.ok.hd hc) D hz hp hr h1 h2 pl oG.isList Ft λg e kk he=>?_) (Lg _))))
  let⟨o,ho,Ax⟩:=he;show A5 (OP (T := "StopIteration") (b:=true) ⟨o,ho,Ax⟩ isSubtype_stop ?_);show AG ⟨rfl,I.nt (t':=s.toks) (ch:=[z,r,j1,j2]) (λc o hc e=>?_) (λc hc=>hf c ?_)⟩
  ·simp only[aah,BI,D7,not_or]at hc
   show kk c o hc.1 hc.2.1 hc.2.2.1 hc.2.2.2 e
  ·simp only[aah,BI,D7]at hc ⊢
   rcases hc with rfl|rfl|rfl|rfl<;>simp
 self:=λ_ _ _ _ _ st h=>TH st.1 h
@[reducible]def OK(h:Heap)(a:Addr):Heap:=h.push {cls:=.type "tuple_iterator",data:=.fields #[.ref a,.int 0 0]}
@[reducible]def RL(h:Heap)(a b:Addr):Heap:=(OK h a).push {cls:=.type "list_iterator",data:=.fields #[.ref b,.int 0 0]}
@[reducible]def PQ(h:Heap)(a b:Addr):Heap:=(RL h a b).push {cls:=.type "tuple",data:=.seq #[.ref h.objs.size,.ref (OK h a).objs.size]}
@[reducible]def PN(h:Heap)(a b:Addr):Heap:=(PQ h a b).push {cls:=.type "tuple",data:=.seq #[.none,.none]}
@[reducible]def Lo(h:Heap)(a b:Addr):Heap:=(PN h a b).push {cls:=.type "zip",data:=.fields #[.none,.bool false,.bool false,.ref (RL h a b).objs.size,.ref (PQ h a b).objs.size]}
def aak(a b:Addr)(vs ws:Array Value):
  Meets (Builtin.«zip.__new__» ⟨[.type "zip",.ref a,.ref b],[]⟩) (λ_ R s=>s.heap.IsTuple a vs∧s.heap.IsList b ws∧R (.ok (.ret (.ref (PN s.heap a b).objs.size))) {s with heap:=Lo s.heap a b}):=
 .of_wp λprog w A R s h=>by
  obtain⟨hp,g,d,tk,os⟩:=s;obtain⟨la,lb,h⟩:=h;let UU:=sub_zip;let L1:Heap.IsTuple (Shared.heap ⟨hp,g,d,tk,os⟩) a vs:=la;let L2:Heap.IsList (Shared.heap ⟨hp.push {cls:=.type "tuple_iterator",data:=.fields #[.ref a,.int 0 0]},g,d,tk,os⟩) b ws:=Heap.IsList.push lb _
  wp_walk using Mw L1,ao L2
  show⟨_,rfl,h⟩
def uG{prog:Program}{A:Around}{E:xz}{s:Shared}{a b:Addr}(la:s.heap.IsTuple a vs)(lb:s.heap.IsList b ws)
  (q:∀h',IsZip h' (s.heap.objs.size+4) (s.heap.objs.size+2) (s.heap.objs.size+3) .none→IsPair h' (s.heap.objs.size+2) (.ref s.heap.objs.size) (.ref (s.heap.objs.size+1))→
   IsPair h' (s.heap.objs.size+3) .none .none→h'.IsTupleIter s.heap.objs.size a 0→h'.IsListIter (s.heap.objs.size+1) b 0→(∀c o,s.heap.get? c=some o→h'.get? c=some o)→Q (.ref (s.heap.objs.size+4)) {s with heap:=h'}) :
  wpAny (model prog w) A (call (.type "zip") [.ref a,.ref b]) Q E s:=by
 show callType_new F.called_zip (by decide) (F.typeCall_zip_2 _ _) (F.newCall_zip_2 _ _) (λobj=>F.args_object_init_3 obj _ _) F.entry_zip_new (aak a b vs ws) ⟨la,lb,?_⟩;let z1:(OK s.heap a).objs.size=s.heap.objs.size+1:=Eg ..;let z2:(RL s.heap a b).objs.size=s.heap.objs.size+2:=by rw[Eg,z1]
 let z3:(PQ s.heap a b).objs.size=s.heap.objs.size+3:=by rw[Eg,z2]
 let z4:(PN s.heap a b).objs.size=s.heap.objs.size+4:=by rw[Eg,z3]
 let g5:(Lo s.heap a b).get? (PN s.heap a b).objs.size=some _:=CM _ rfl;let g4:(Lo s.heap a b).get? (PQ s.heap a b).objs.size=some _:=Al _ (CM _ rfl);let g3:(Lo s.heap a b).get? (RL s.heap a b).objs.size=some _:=Al _ (Al _ (CM _ rfl));let g2:(Lo s.heap a b).get? (OK s.heap a).objs.size=some _:=Al _ (Al _ (Al _ (CM _ rfl)));let g1:(Lo s.heap a b).get? s.heap.objs.size=some _:=Al _ (Al _ (Al _ (Al _ (CM _ rfl))));show _∧_
 rw[z2,z3,z4]at g5;rw[z1,z2]at g3;rw[z3]at g4;rw[z1]at g2;rw[z4];show⟨⟨_,g5,rfl⟩,q _ g5 g3 g4 ⟨_,g1,rfl,rfl⟩ ⟨_,g2,rfl,rfl⟩ λc o x=>Al _ (Al _ (Al _ (Al _ (Al _ x))))⟩
section
variable {elts: List Expr}{kk: Nat}{Lj: Pos}
abbrev xN(K:W.Frag)(ta:CW):F5:=λσ H R=>ta σ H λvs H1=>∃a b xs ys,vs=[.ref a,.ref b]∧dD K H1 a xs∧eB K H1 b ys∧R (El K a b) H1
def tO{a b:Expr}{ta:CW}{p:Pos}(hg:Bi X "zip")(hm:X.mg "zip" = none)(ha:PA X [a,b] ta)(hs:starEach [a,b] X.env=[(false,eval a X.env),(false,eval b X.env)]:=by rfl)(BS:starEach [b] X.env=[(false,eval b X.env)]:=by rfl):
  PI X (.Tuple elts kk Lj) (.Call (.Name "zip" p) [a,b] [] pos) (xN X.K ta):=by
 show .mk ?_;intro x0 s σ H R I h;show Call_ (GJ I hg hm boot_zip (Ii (Ab (ha pos x0 s σ H _ I h) λus s1 ξ=>Ξ23 ξ λvs H1 I1 r1 q1=>?_) (by rw[hs,BS]) (by rw[BS];rfl)));let⟨u1,u2,xs,ys,e,hx,hy,q⟩:=q1;subst e;cases r1 with
 |cons r rr=>
  cases rr with
  |cons r' rr=>
   cases rr;cases r;cases r';let⟨its,rv,pl,_⟩:=I1.tuple hx;let⟨fZ,vj,oG,_⟩:=I1.list hy;let⟨o1,e1,_⟩:=id pl;let⟨o2,e2,_⟩:=oG.isList;show uG pl oG.isList λh' hz hp hr j1 j2 k=>?_;show TH hz ?_;show Ψ5 (s1.heap.objs.size+4) [s1.heap.objs.size+4,s1.heap.objs.size+2,s1.heap.objs.size+3,s1.heap.objs.size,s1.heap.objs.size+1] _ _ H1 ⟨rfl,I1.kept (t':=s1.toks) k,vU u1 u2 _ _ _ _ _ (apart_new (Aq e1) (Aq e2)),⟨hz,hp,Ψ2 _ _ hr,j1,j2⟩,λc hc=>?_,q⟩;let GB:s1.heap.objs.size≤c:=by
    simp only[aah,BI,D7]at hc;rcases hc with rfl|rfl|rfl|rfl|rfl<;>first|show Ak _|show Mu _ _
   show I1.yU GB (I1.bA.fresh GB)
end
abbrev eDn:=St→A7→(St→A7→Prop)→Prop
end L2
namespace L2
open PySem PySem.Spec PyProof.Rows
variable {o:Option V}{u:Value}{y:V}{P:Program}{w:World}{H H':A7}{aQ:List (List Ap×V)}{xs:List (List Ap×Addr×Value)}{a:Addr}{Q:xz}{h':Heap}{s:Shared}{X: Cx}
section
variable {κ: Type}[DecidableEq κ]
abbrev Fm(aQ:List (κ×V))(k:κ):Option V:=(aQ.find? λkv=>decide (kv.1=k)).map (·.2)
abbrev putK(aQ:List (κ×V))(k:κ)(v:V):List (κ×V):=
 if(aQ.any λkv=>decide (kv.1=k))=true then aQ.map (λkv=>if kv.1=k then(kv.1,v)else kv)else aQ++[(k,v)]
def PJ{p:κ×V}{r:List (κ×V)}{k:κ}(e:p.1=k):Fm (p::r) k=some p.2:=by simp[Fm,IH,e]
def NN{p:κ×V}{r:List (κ×V)}{k:κ}(e:¬p.1=k):Fm (p::r) k=Fm r k:=by simp[Fm,IH,e]
def j9(k:κ):∀aQ:List (κ×V),(aQ.any λkv=>decide (kv.1=k))=(Fm aQ k).isSome
 |[]=>rfl
 |p::r=>by
  rw[JH];by_cases e:p.1=k
  ·simp only[PJ e,Dp e,Bool.true_or,Option.isSome_some]
  ·rw[NN e,DY e,Bool.false_or];show j9 k r
def mI(aQ:List (κ×V))(k:κ)(v:V):(putK aQ k v).length≤aQ.length+1:=by
 unfold putK;split
 ·rw[Ac];lia
 ·rw[B9,BE,TP];lia
def rN.BR{u:Option Value}(r:rN o u):o.isSome=u.isSome:=by
 cases o with
 |none=>cases u with
  |none=>rfl
  |some _=>show(show False from r).elim
 |some _=>cases u with
  |none=>show(show False from r).elim
  |some _=>rfl
def KV.val{aQ:List (κ×V)}{vs:List (κ×Value)}(r:KV aQ vs)(k:κ):rN (Fm aQ k) (valueAt vs k):=by
 unfold KV at r;induction r with
 |nil=>show True.intro
 |@cons p q ps qs h t ih=>
  let⟨h1,h2⟩:=h;by_cases e:p.1=k
  ·let e':q.1=k:=h1.symm.trans e
   let b:valueAt (q::qs) k=some q.2:=by simp[valueAt,IH,e']
   rw[PJ e,b];show h2
  ·let e':¬q.1=k:=λz=>e (h1.trans z)
   let b:valueAt (q::qs) k=valueAt qs k:=by simp[valueAt,IH,e']
   rw[NN e,b];show ih
def KV.any{aQ:List (κ×V)}{vs:List (κ×Value)}(r:KV aQ vs)(k:κ):(aQ.any λkv=>decide (kv.1=k))=vs.any λkv=>decide (kv.1=k):=by
 unfold KV at r;induction r with
 |nil=>rfl
 |cons h t ih=>rw[JH,JH,ih,h.1]
def KV.LW{aQ:List (κ×V)}{vs:List (κ×Value)}(r:KV aQ vs)(k:κ)(ry:RelV y u):
  KV (aQ.map λkv=>if kv.1=k then(kv.1,y)else kv) (vs.map λkv=>if kv.1=k then(kv.1,u)else kv):=by
 unfold KV at r ⊢;induction r with
 |nil=>show .nil
 |@cons p q ps qs h t ih=>
  rw[Ar,Ar];show .cons ?_ ih;let⟨h1,h2⟩:=h;by_cases e:p.1=k
  ·rw[AI e,AI (h1.symm.trans e)];show⟨h1,ry⟩
  ·rw[AH e,AH (λz=>e (h1.trans z))];show⟨h1,h2⟩
def KV.put{aQ:List (κ×V)}{vs:List (κ×Value)}(r:KV aQ vs)(k:κ)(ry:RelV y u):KV (putK aQ k y) (stored vs k u):=by
 unfold putK stored;rw[r.any k];by_cases e:(vs.any λkv=>decide (kv.1=k))=true
 ·rw[AI e,AI e];show r.LW k ry
 ·rw[AH e,AH e];show Paired.snoc r ⟨rfl,ry⟩
def KV.length{aQ:List (κ×V)}{vs:List (κ×Value)}(r:KV aQ vs):aQ.length=vs.length:=Rt r
end
def cH{k:Ap}(r:RelV (Bt k) u):(FW P w).is k u=true:=by
 cases k with
 |inl i=>let⟨t,e⟩:=(show ∃t,u=Value.int i t from r);subst e;show tF P w i t
 |inr x=>let⟨t,e⟩:=(show ∃t,u=Value.str x t from r);subst e;show aej P w x t
def pK{P:Program}{w:World}:∀{ks:List Ap} {us:List Value},Vals (ks.map Bt) us→ItemsAre (FW P w) ks us
 |[],_,r=>by rw[GQ]at r;cases r;show .nil
 |k::ks,_,r=>by
  rw[Ar]at r;cases r with
  |cons h t=>show .cons (cH h) (pK t)
@[reducible]def KT(H:A7):List (List Ap×V)→List (List Ap×Addr×Value)→Prop:=Paired λp q=>p.1=q.1∧H q.2.1=some (.tup (p.1.map Bt))∧RelV p.2 q.2.2
def KT.val(r:KT H aQ xs)(k:List Ap):rN (Fm aQ k) ((atKey xs k).map (·.2)):=by
 induction r with
 |nil=>show True.intro
 |@cons p q ps qs h t ih=>
  let⟨h1,_,h2⟩:=h;by_cases e:p.1=k
  ·let e':q.1=k:=h1.symm.trans e
   let b:atKey (q::qs) k=some q.2:=by simp[atKey,IH,e']
   rw[PJ e,b];show h2
  ·let e':¬q.1=k:=λz=>e (h1.trans z)
   let b:atKey (q::qs) k=atKey qs k:=by simp[atKey,IH,e']
   rw[NN e,b];show ih
def KT.LW(r:KT H aQ xs)(k:List Ap)(ry:RelV y u):
  KT H (aQ.map λkv=>if kv.1=k then(kv.1,y)else kv) (xs.map (putAt k u)):=by
 induction r with
 |nil=>show .nil
 |@cons p q ps qs h t ih=>
  rw[Ar,Ar];show .cons ?_ ih;let⟨h1,h2,h3⟩:=h;unfold putAt;by_cases e:p.1=k
  ·rw[AI e,AI (h1.symm.trans e)];show⟨h1,h2,ry⟩
  ·rw[AH e,AH (λz=>e (h1.trans z))];show⟨h1,h2,h3⟩
def KT.put(r:KT H aQ xs)(k:List Ap){b:Addr}(hb:H b=some (.tup (k.map Bt)))(ry:RelV y u):
  KT H (putK aQ k y) (storedH xs k b u):=by
 let e:(aQ.any λkv=>decide (kv.1=k))=(atKey xs k).isSome:=by
  rw[j9,(r.val k).BR,Option.isSome_map]
 unfold putK storedH;rw[e];by_cases q:(atKey xs k).isSome=true
 ·rw[AI q,AI q];show r.LW k ry
 ·rw[AH q,AH q];show Paired.snoc r ⟨rfl,hb,ry⟩
def KT.keeps(r:KT H aQ xs)(ht:∀b ys,H b=some (.tup ys)→H' b=some (.tup ys)):KT H' aQ xs:=
 Paired.ME r λ_ _ z=>⟨z.1,ht _ _ z.2.1,z.2.2⟩
section
variable {P: Program}{w: World}{H: A7}{h: Heap}{a: Addr}
def oF{u:HO}(ok:jt P w H h)(e:Rd H a u):bT P w H h a u:=e.ok ok
def aK{aQ:List (Ap×V)}(ok:jt P w H h)(e:Rd H a (.dK aQ)):aQ.length≤sizeLine∧(a==sysModules)=false∧∃vs,KV aQ vs∧h.DictOf (FW P w) a vs:=
 show bT P w H h a (.dK aQ)from oF ok e
def yr{aQ:List (Ap×V)}(ok:jt P w H h)(e:H a=some (.dK aQ)):aQ.length≤sizeLine∧(a==sysModules)=false∧∃vs,KV aQ vs∧h.DictOf (FW P w) a vs:=aK ok (.inl e)
def T9{ks:List Ap}(ok:jt P w H h)(e:H a=some (.tup (ks.map Bt))):(tupleKind (FW P w)).is h ks a:=by
 let⟨_,⟨its,r,⟨o,h1,h2,⟨n,h3⟩⟩⟩⟩:=(show bT P w H h a (.tup (ks.map Bt))from ok a _ e);show Ψ3 o its.toArray n ⟨h1,h2,h3,by simpa using pK r⟩
def aE(ok:jt P w H h)(e:Rd H a (.dT aQ)):aQ.length≤sizeLine∧(a==sysModules)=false∧
  ∃xs,KT H aQ xs∧h.DictOfH (tupleKind (FW P w)) a xs:=by
 let⟨z,y,⟨xs,r,⟨o,es,ep,h1,h2,h3,h4,h5⟩⟩⟩:=(show bT P w H h a (.dT aQ)from oF ok e);show⟨z,y,xs,r,o,es,ep,h1,h2,h3,h4,λx hx=>?_,h5⟩;let all:∀{l:List (List Ap×V)} {m:List (List Ap×Addr×Value)},KT H l m→∀x∈m,(tupleKind (FW P w)).is h x.1 x.2.1:=by
  intro l m q;induction q with
  |nil=>intro x hx;show nomatch hx
  |@cons p q ps qs hq t ih=>
   intro x hx;rcases aah.mp hx with e|hx
   ·subst e
    show T9 ok (by rw[←hq.1];show hq.2.1)
   ·show ih x hx
 show all r x hx
def u7(ok:jt P w H h)(e:H a=some (.dT aQ)):aQ.length≤sizeLine∧(a==sysModules)=false∧
  ∃xs,KT H aQ xs∧h.DictOfH (tupleKind (FW P w)) a xs:=aE ok (.inl e)
end
abbrev Cq(H:A7)(a:Addr)(y:V)(r:Option V):Prop:=
 (∃aQ k,Rd H a (.dK aQ)∧y=Bt k∧r=Fm aQ k)∨∃aQ k b,Rd H a (.dT aQ)∧y=.ref b∧H b=some (.tup (k.map Bt))∧r=Fm aQ k
abbrev Gn(H:A7)(a:Addr)(y v:V)(H':A7):Prop:=
 (∃aQ k,H a=some (.dK aQ)∧y=Bt k∧aQ.length<sizeLine∧H'=upd H a (.dK (putK aQ k v))) ∨
 ∃aQ k b,H a=some (.dT aQ)∧y=.ref b∧H b=some (.tup (k.map Bt))∧aQ.length<sizeLine∧H'=upd H a (.dT (putK aQ k v))
def Cq.k{H:A7}{a:Addr}{aQ:List (Ap×V)}{k:Ap}(e:H a=some (.dK aQ)):Cq H a (Bt k) (Fm aQ k):=.inl ⟨aQ,k,.inl e,rfl,rfl⟩
def Gn.k{H:A7}{a:Addr}{aQ:List (Ap×V)}{k:Ap}{v:V}(e:H a=some (.dK aQ))(hl:aQ.length<sizeLine):Gn H a (Bt k) v (upd H a (.dK (putK aQ k v))):=.inl ⟨aQ,k,e,rfl,hl,rfl⟩
section
variable {x0: List (Addr×Obj)}{σ: St}{H: A7}{s: Shared}{a: Addr}{y v: V}{u r: Value}{o: Option V}{A: Around}{E: Value→Shared→Prop}
def aeu(hu:A.units+1<cLine)(I:Inv X x0 σ H s)(g:Cq H a y (some v))(ry:RelV y u)(h:∀w' s',Inv X x0 σ H s'→RelV v w'→Q w' s'):
  wpAny (model X.prog X.w) A (getItem (.ref a) u) Q E s:=by
 rcases g with⟨aQ,k,e,ey,l⟩|⟨aQ,k,b,e,ey,eb,l⟩
 ·subst ey
  let⟨z,hd,⟨vs,rel,dd⟩⟩:=aK I.bA e;let⟨w',hw,qp⟩:=rN.some_of (v:=v) (o:=valueAt vs k) (by rw[l];show rel.val k);show wpAny_getItem_of (cH ry) dd.mapOf hw (h w' _ (I.tok _) qp)
 ·subst ey
  cases(show u=Value.ref b from ry);let⟨z,hd,⟨xs,rel,dd⟩⟩:=aE I.bA e;let⟨w',hw,qp⟩:=rN.some_of (v:=v) (o:=(atKey xs k).map (·.2)) (by rw[l];show rel.val k);let⟨p,hp,iJ⟩:=Option.map_eq_some_iff.mp hw;show wpAny_getItem_heap (tupleKind_room_in1 hu) (T9 I.bA eb) dd hp ?_;rw[iJ];show h w' _ (I.tok _) qp
def eK{t':Nat}{ob:HO}(I:Inv X x0 σ H s)(mu:NS (H a))(hs:Heap.SameBut a s.heap h')(he:∃q,h'.get? a=some q)(new:bT X.prog X.w (upd H a ob) h' a ob):
  Inv X x0 σ (upd H a ob) {s with heap:=h',toks:=t'}:=
 I.write (x:=a) (e:=a) mu (.inl rfl) (λb q hb z=>(hs.2 b hb).trans z) he new
def sv{aQ:List (Ap×V)}{vs:List (Ap×Value)}(z:aQ.length≤sizeLine)(hd:(a==sysModules)=false)(rel:KV aQ vs)(dd:h'.DictOf (FW P w) a vs):
  bT P w H' h' a (.dK aQ):=⟨z,hd,vs,rel,dd⟩
def t6{Q:Unit→Shared→Prop}(hu:A.units+1<cLine)(I:Inv X x0 σ H s)(g:Gn H a y v H')(ry:RelV y u)(rv:RelV v r)(h:∀s',Inv X x0 σ H' s'→Q () s'):
  wpAny (model X.prog X.w) A (setItem (.ref a) u r) Q E s:=by
 rcases g with⟨aQ,k,e,ey,l,eH⟩|⟨aQ,k,b,e,ey,eb,l,eH⟩
 ·subst ey eH
  let⟨z,hd,⟨vs,rel,dd⟩⟩:=yr I.bA e;let hz:vs.length≤sizeLine:=by rw[←rel.length];show z
  let hl:(putK aQ k v).length≤sizeLine:=by have:=mI aQ k v;lia
  show wpAny_setItem_pairs (hsz:=hz) (cH ry) dd λh' SE hs=>h _ ?_;let he:∃q,h'.get? a=some q:=let⟨q,_,_,hq,_⟩:=SE;⟨q,hq⟩
  show eK I (by rw[e];show True.intro) hs he (sv hl hd (rel.put k rv) SE)
 ·subst ey eH
  cases(show u=Value.ref b from ry);let⟨z,hd,⟨xs,rel,dd⟩⟩:=u7 I.bA e;let hz:xs.length≤sizeLine:=by rw[←Rt rel];show z
  let hl:(putK aQ k v).length≤sizeLine:=by have:=mI aQ k v;lia
  show wpAny_setItem_heap (hsz:=hz) (tupleKind_room_in1 hu) (T9 I.bA eb) dd λh' SE hs=>h _ ?_;let⟨q,es,ep,hq,h2,h3,h4,_,h5⟩:=SE;show eK I (by rw[e];show True.intro) hs ⟨q,hq⟩ ⟨hl,hd,_,(rel.put k eb rv).keeps λc ys ec=>?_,q,es,ep,hq,h2,h3,h4,h5⟩;rw[AW (JA ec e (λz=>nomatch z))];show ec
end
abbrev VO(i:Expr):Prop:=∀ov iv,subscripted i false ov iv=operate [ov,iv] (getItem ov iv)
def aaD{prog:Program}{A:Around}{E:xz}{env:Env}{value slice:Expr}{pos:Pos}{T id:String}
  (hl:typeLookup (.type T) "__getitem__" = pure (some (.builtin id))) (hs:VO slice)
  (h:wpAny (model prog w) A (eval value env) (λo s₁=>wpAny (model prog w) A (eval slice env) (λi s₂=>s₂.TypeIs o T∧wpAny (model prog w) A (getItem o i) Q E s₂) E s₁) E s) :
  wpAny (model prog w) A (eval (.Subscript value slice pos) env) Q E s:=by
 show Subscript_ (DC h (λo s₁ h₁=>DC h₁ (λi s₂ h₂=>?_) λ_ _ x=>x) λ_ _ x=>x);obtain⟨hT,h₂⟩:=h₂;unfold subscriptTail;show A5 ?_;rw[getitemInPython_of_ne hT.not_modules];show A5 (J6 hT hl ?_);let fin:wpAny (model prog w) A (subscripted slice false o i) (λr s₃=>wpAny (model prog w) A (letTemporaryGo value o r >>= λ_=>pure r) Q E s₃) E s₂:=by
  rw[hs o i];show wpAny_operating (DC h₂ (λr s₃ h₃=>A5 (wpAny_letTemporaryGo (AG h₃))) λ_ _ x=>x)
 first
  |show AG (A5 fin)
  |show A5 (AG (A5 fin))
  |show A5 fin
def zh{X:Cx}{x0:ad}{σ:St}(I:Inv X x0 σ H s)(g:Cq H a y o):s.TypeIs (.ref a) "dict" := by
 rcases g with⟨aQ,k,e,_,_⟩|⟨aQ,k,b,e,_,_,_⟩
 ·let⟨_,_,⟨vs,_,dd⟩⟩:=aK I.bA e
  show dd.typeIs
 ·let⟨_,_,⟨xs,_,dd⟩⟩:=aE I.bA e
  show dd.typeIs
abbrev abb(td ty:Am):Am:=λσ H Q=>td σ H λx H1=>ty σ H1 λy H2=>∃a v,x=.ref a∧Cq H2 a y (some v)∧Q v H2
abbrev aca(td ty tv:Am):Bx:=λD σ H=>tv σ H λv H1=>td σ H1 λx H2=>ty σ H2 λy H3=>∃a H4,x=.ref a∧Gn H3 a y v H4∧D.nx σ H4
section
variable {o i value: Expr}{pos pos': Pos}{td ty tv: Am}
def abu(hu:X.A.units+1<cLine)(ho:PE X o td)(hi:PE X i ty)(hs:VO i):PE X (.Subscript o i pos) (abb td ty):=by
 show .mk ?_;intro x0 s σ H Q I h;show aaD PySem.F.slot_dict_getitem.lookup hs (Ab (ho x0 s σ H _ I h) λu s1 ξ=>Ξ23 ξ λx H1 I1 rx q1=>Ab (hi x0 s1 σ H1 _ I1 q1) λiv s2⟨y,H2,I2,ry,a,v,ex,g,q2⟩=>?_);subst ex;obtain rfl:u=Value.ref a:=rx;show⟨zh I2 g,aeu hu I2 g ry λw' s3 I3 qp=>Ψ2 v H2 ⟨I3,qp,q2⟩⟩
def vC(hu:X.A.units+1<cLine)(ho:PE X o td)(hi:PE X i ty)(hv:PE X value tv)(hs:swapsWith value (some (.Subscript o i pos')) pos.line X.env=pure false):
  PS X (.Assign [.Subscript o i pos'] value pos) (aca td ty tv):=by
 show .mk ?_;intro x0 s σ H D I h;show wpAny_Assign_Subscript (Ab (hv x0 s σ H _ I h) λr s1 ξ=>Ξ23 ξ λv H1 I1 rv q1=>Ab (ho x0 s1 σ H1 _ I1 q1) λu s2 ξ=>Ξ23 ξ λx H2 I2 rx q2=>Ab (hi x0 s2 σ H2 _ I2 q2) λiv s3⟨y,H3,I3,ry,a,H4,ex,g,q3⟩=>?_) hs;subst ex;obtain rfl:u=Value.ref a:=rx;show t6 hu I3 g ry rv λs4 I4=>Ψ2 σ H4 ⟨I4,q3⟩
end
structure pZ(X:Cx)(o:Expr)(m:Str)(apos:Pos)(e:Expr)(dQ:Pos):Prop where
 base:attributeBase o m X.env (eval o X.env)=eval o X.env
 few:((backTo dQ (starEach [e] X.env)).all (λx=>!x.1)&&(backToKw dQ (keywordEach [] X.env)).all (λx=>x.1.isSome)
  && decide (([e]:List Expr).length+([]:List Keyword).length+(if([]:List Keyword).isEmpty then 0 else 1)<30))=true
 line:(apos.endLine==dQ.line)=true
 trees:backTo dQ (starEach [e] X.env)=[(false,eval e X.env)]
structure iu(X:Cx)(o:Expr)(m:Str)(apos:Pos)(e f:Expr)(dQ:Pos):Prop where
 base:attributeBase o m X.env (eval o X.env)=eval o X.env
 few:((backTo dQ (starEach [e,f] X.env)).all (λx=>!x.1)&&(backToKw dQ (keywordEach [] X.env)).all (λx=>x.1.isSome)
  && decide (([e,f]:List Expr).length+([]:List Keyword).length+(if([]:List Keyword).isEmpty then 0 else 1)<30))=true
 line:(apos.endLine==dQ.line)=true
 trees:backTo dQ (starEach [e,f] X.env)=[(false,eval e X.env),(false,eval f X.env)]
end L2
namespace L2
open PySem PySem.Spec PyProof.Rows
section
variable {κ: Type}[DecidableEq κ]
end
end L2
namespace Sr
open PySem PyProof.Rows
section
variable {Kk: Type}[DecidableEq Kk]
end
end Sr
namespace Sr
open PySem PyProof.Rows
section
variable {K: Type}[DecidableEq K]
end
end Sr
namespace Sr
open PySem PyProof.Rows
section
variable {Kk: Type}[DecidableEq Kk]
end
end Sr
namespace Sr
open PySem PyProof.Rows
@[reducible]def rv(out:Array Keyed):List Keyed:=out.toList.reverse
end Sr
namespace Sr
open PySem PyProof.Rows
section
variable {Kk: Type}[DecidableEq Kk]
end
end Sr
namespace L2
open PySem PySem.Spec PyProof.Rows PySem.W
variable {base:Heap}{e C:Addr}{cls a0 fl:Value}{Q:Unit→Shared→Prop}{Nc:List Str}{fp:List Addr}{x0:ad}{σ:St}{s: Shared}{s2:Shared}{H2:A7}{A: Around}{scope: Scope}
abbrev NA(base:Heap)(l:List Env)(e:Addr)(cls a0 fl:Value)(h:Heap):Prop:=base.StaysIn h∧base.get? e=none∧h.FunFrames base l∧h.TracedAtW base e cls a0 fl
section
variable {M: Model}{E: Value→Shared→Prop}
def acr{env:Env}{outer:List Env}{L:Addr}
  (IY:A.frames=some (env::outer)) (hf:env.frame=some L) (hh:NA base (env::outer) e cls a0 fl s.heap)
  (hQ:∀h',Heap.FlyingW base outer e cls a0 h'→s.heap.UpToSlots h'→Q () {s with heap:=h'}):wpAny M A (leaving env (.ref e)) Q E s:=by
 let⟨f1,f2,f3,f4⟩:=hh;by_cases ef:(fl==rawInt L)=true
 ·let ef:fl=rawInt L:=by simpa using ef
  subst ef;unfold leaving;show A5 (wpAny_noteFrame_againW hf f4 ?_);show wpAny_landsW ⟨f1,f2,f3,f4⟩ λh' Zr hs=>?_;let⟨k1,k2,⟨_,_,k3⟩,k4⟩:=Zr;show hQ h' ⟨k1,k2,k3,k4⟩ hs
 ·let⟨oe,vs,T,oT,ts,he,⟨sH,h0⟩,hd,h1,M6,N2,hT,xF,h3⟩:=f4
  subst sH;unfold leaving noteFrame;simp only[hf];show A5 (A5 (C3 he hd h1 ?_));rw[AI (show(Value.ref T != Value.none)=true from by simp)];show A5 (C3 hT xF h3 ?_);rw[AH ef];show A5 (PV hT xF (ac0.mp h3).1 ?_);let other:∀b,b≠T→(s.heap.update T (Obj.mapFields (·.setIfInBounds 3 Value.none))).get? b=s.heap.get? b:=λb hb=>FJ _ _ (Du hb);let jP:∀b o,s.heap.get? b=some o→(∀vs,o.data≠.fields vs)→b≠T:=λb o hb Cz q=>by
   rw[q,hT]at hb;injection hb with hb;subst hb;show Cz ts xF
  show wpAny_newEntryW IY (f3.of_keeps λb o hb Cz=>⟨o,(other b (jP b o hb Cz)).trans hb,rfl⟩) hf ((other e (Du N2)).trans he)
   (λb o Ng=>(other b λq=>by rw[q,M6]at Ng;cases Ng).trans (f1 b o Ng)) f2 hd (ac0.mp h1).1 h0
   λh' ⟨x1,⟨_,_,x2⟩,x3,x4⟩=>hQ h' ⟨x1,f2,x2,x3⟩ λb o hb Cz=>x4 b o ((other b (jP b o hb Cz)).trans hb) Cz
def wB{l:List Env}{fr:Option Addr}(R:NA base l e cls a0 fl s.heap)
  (h:∀h',NA base l e cls a0 (fr.elim Value.none λf=>rawInt f) h'→s.heap.UpToSlots h'→Q () {s with heap:=h'}):wpAny M A (setFlight (.ref e) fr) Q E s:=by
 let⟨Zl,Zv,hl,⟨oe,vs,T,oT,ts,he,sH,hd,h1,M6,N2,hT,xF,h3⟩⟩:=R;let QB:3<ts.size:=(ac0.mp h3).1;let other:∀b,b≠T→(s.heap.update T (Obj.mapFields (·.setIfInBounds 3 (fr.elim Value.none λf=>rawInt f)))).get? b=s.heap.get? b:=
  λb hb=>FJ _ _ (Du hb)
 let jP:∀b o,s.heap.get? b=some o→(∀vs,o.data≠.fields vs)→b≠T:=λb o hb Cz q=>by
  rw[q,hT]at hb;injection hb with hb;subst hb;show Cz ts xF
 unfold setFlight;show A5 (C3 he hd h1 ?_);rw[AI (show(Value.ref T != Value.none)=true from by simp)];show PV hT xF QB (h _ ⟨λb o Ng=>(other b λq=>by rw[q,M6]at Ng;cases Ng).trans (Zl b o Ng),Zv,
  hl.of_keeps λb o hb Cz=>⟨o,(other b (jP b o hb Cz)).trans hb,rfl⟩,?_⟩ λb o hb Cz=>⟨o.slots,(other b (jP b o hb Cz)).trans hb⟩)
 show Ψ5 oe vs T _ _ ⟨(other e (Du N2)).trans he,sH,hd,h1,M6,N2,J4 _ hT (Obj.isFreed_of_fields (RF xF _)),RF xF _,by simp[QB]⟩
end
structure vQ(c:Addr)(fs:List Addr)(H H':A7)(h B h':Heap):Prop where
 keep:∀b o,b≠c→h.get? b=some o→H b=none→b∉fs→B.get? b=some o
 slot:∀b o,h.get? b=some o→H b=none→b∈fs→∃sl,h'.get? b=some {o with slots:=sl}
 free:∀b o,h.get? b=some o→H b=none→H' b=none
 there:∀b o,b≠c→h.get? b=some o→b∉fs→∃o',B.get? b=some o'
 gA:∀b xs,H b=some (.tup xs)→H' b=some (.tup xs)
 gi:∀b o u,H b=some (.frz o u)→H' b=some (.frz o u)
 fQ:∀b ps,H b=some (.tbl ps)→∃more,H' b=some (.tbl (ps++more))
abbrev Ms(X:Cx)(EE:BF):Prop:=∀(x0:ad) (σ:St) (H:A7) (s:Shared) (x:Addr) (C0 a0 fl:Value) (H':A7) (B:Heap) (c:Addr) (s':Shared),Inv X x0 σ H s→X.s₀.heap.objs.size≤c→s'.os=s.os→AllBare s'.gens→NA B X.stack x C0 a0 fl s'.heap→jt X.prog X.w H' B→vQ c (Cn X.stack) H H' s.heap B s'.heap→EE C0 none H'→X.xe (.ref x) s'
section
variable {P: Program}{w: World}{K: W.Frag}{mg: Str→Option Value}{base: Heap}{N: List Str}{qual: Str}{f: Addr}{cd: Value}{outer: List Env}{H: A7}{E: BF}
def pW:Ms (HW P w K mg base N qual scope f cd A outer s H E) E:=by
 intro x0 σ H1 s1 x C a0 fl H' B c s2 I hc os bare an bA u hE;show wpAny (model P w) (A.deeper (envOfC qual scope s.heap.objs.size f cd)) (leaving (envOfC qual scope s.heap.objs.size f cd) (.ref x)) (λ_ m8=>Dd P w outer H s E (.ref x) m8) (λe' m8=>Dd P w outer H s E e' m8) s2
 let nc:∀{b:Addr} {o:Obj},s.heap.get? b=some o→b≠c:=λ{b o} e z=>by
  let hc:s.heap.objs.size≤c:=hc;show absurd (D6 (Aq e) hc) (by rw[z];show FH _)
 show acr I.ok.frames rfl an λh2 f2 up=>?_;show Ψ5 x C a0 H' B ⟨rfl,os.trans I.os,bare,f2,bA,⟨λb o q n hb=>?_,λb o q n hb=>?_,λb o q n=>?_,λb o q hb=>?_,λb xs q=>u.gA b xs (I.base.gA b xs q),λb o v q=>u.gi b o v (I.base.gi b o v q),λb ps q=>?_⟩,hE⟩
 ·show u.keep b o (nc q) (I.base.keep b o q n hb (by show BI)) (I.base.free b o q n (by show BI)) (Ls I q hb)
 ·let⟨sl,z⟩:=I.base.slot b o q n hb (by show BI)
  let hm:b∈Cn (envOfC qual scope s.heap.objs.size f cd::outer):=by
   let⟨yZ,he,ha⟩:=abh.mp hb;show abh.mpr ⟨yZ,ET _ he,ha⟩
  let⟨Ct,z2⟩:=u.slot b _ z (I.base.free b o q n (by show BI)) hm;let⟨Pj,z3⟩:=up b _ z2 (have fd:=T1 I q hb;λvs=>fd vs);show⟨Pj,z3⟩
 ·let⟨o',z⟩:=I.base.there b o q (by show BI)
  show u.free b o' z (I.base.free b o q n (by show BI))
 ·let⟨o',z⟩:=I.base.there b o q (by show BI)
  show u.there b o' (nc q) z (Ls I q hb)
 ·let⟨m1,z1⟩:=I.base.fQ b ps q
  let⟨m2,z2⟩:=u.fQ b _ z1;show⟨m1++m2,by rw[z2,Qj]⟩
end
section
variable {X: Cx}{cl: List (Str×Addr)}{own: List Str}{cap: List (Nat×Str)}{tg iter elt: Expr}{ifs: List Expr}{wi: F5}{g: EL}{tc: Cp}{te: Am}{pos: Pos}{EE: BF}
def XD{s0:Shared}{H0:A7}{E1 E2:xz}{H:A7}{s:Shared}(I:Inv (CK X Nc scope cl C s0 H0 fp E1) x0 σ H s):Inv (CK X Nc scope cl C s0 H0 fp E2) x0 σ H s:=
 ⟨⟨I.ok.mod,I.ok.kind,I.ok.glob,I.ok.blt,I.ok.above,I.ok.inj,I.ok.has,I.ok.Jt,I.ok.hd,I.ok.frames,I.ok.JP,I.ok.KA,I.ok.bs,I.ok.CD,I.ok.uC,I.ok.sI,I.ok.jY,I.ok.FA⟩,I.os,I.bare,I.base,I.loc,I.cell,I.free,I.ff,I.pin,I.bA,I.len⟩
def gB{B h h2:Heap}{C:Addr}(sb:Heap.SameBut C h h2):∀{l:List Env},h.FunFrames B l→C∉Cn l→h2.FunFrames (hideAll B [C]) l
 |[],_,_=>trivial
 |env::r,⟨hk,⟨L,o,hf,hn,ho,hd⟩,hr⟩,nc=>by
  let nL:L≠C:=λz=>nc (abh.mpr ⟨env,Gd,by rw[hf,z]⟩);show⟨hk,Ψ2 L o ⟨hf,?_,(sb.2 L nL).trans ho,hd⟩,gB sb hr λz=>nc ?_⟩
  ·cases e:(hideAll B [C]).get? L with
   |none=>rfl
   |some u=>rw[of_hideAll _ e]at hn;cases hn
  ·let⟨e',he,ha⟩:=abh.mp z
   show abh.mpr ⟨e',ET _ he,ha⟩
abbrev Ry(X:Cx)(Nc:List Str)(scope:Scope)(cl:List (Str×Addr))(C:Addr)(s0:Shared)(H0:A7)(fp:List Addr)(EE:BF):xz:=λe s'=>∃(x0:ad) (σ:St) (H:A7) (s:Shared),Inv (CK X Nc scope cl C s0 H0 fp λ_ _=>False) x0 σ H s∧Dd X.prog X.w X.stack H s EE e s'
def zZ{use:Option (Value→Sem Unit)}{Q:xz}{acc e:Value}{s':Shared}(lM:X.stack=X.env::X.outer∧X.env.frame=some X.env.locals)(hp:Ms X EE)
  (I2:Inv X x0 σ H2 s2) (f2:∀b∈fp,fK X x0 H2 b) (hC:s2.heap.objs.size≤C) (hx:Ry X Nc scope cl C s2 H2 fp EE e s') :
  notedBy (model X.prog X.w) X.A (compEnvC scope cl C X.env) (λe s'=>compPost (model X.prog X.w) X.A X.xe use Q acc C (.error e) s') e s':=by
 let⟨Wo,σ3,H3,s3,I3,⟨x,C0,a0,H',B,rfl,os,bare,fl,bA,u,hE⟩⟩:=hx;let⟨I3x,_⟩:=aY I2 f2 hC I3;let⟨m,hm,_⟩:=I3.loc;let hm:s3.heap.Ns C m:=hm;let Xx:H3 C=none:=I3.free;let Ut:C∉Cn X.stack:=λz=>by
  let⟨_,⟨o,ho,_⟩⟩:=I2.stack.mem z;show absurd (D6 (Aq ho) hC) (FH _)
 let⟨oC,es,ep,gC,dC,nC⟩:=id hm;let bC:B.get? C=some oC:=u.keep C oC gC Xx Ut;let fC:H' C=none:=u.free C oC gC Xx;let mC:s'.heap.Ns C m:=Ψ3 oC es ep ⟨fl.1 C oC bC,dC,nC⟩;let flf:=fl.2.2.1;show wpAny _ X.A (noteFrame (.ref x) X.env) _ _ s'
 rw[lM.1]at fl;show wpAny_looks_onW (by rw[I2.ok.frames,lM.1]) lM.2 fl λh1 hh up=>?_;rw[←lM.1]at hh;let WI:=up.ns mC;show⟨m,WI,λh2 sb zi hcv=>?_⟩;let⟨oC1,es1,ep1,Xu,XJ,_⟩:=WI;let of2:∀{b:Addr} {o:Obj},(hideAll B [C]).get? b=some o→b≠C∧B.get? b=some o:=λ{b o} e=>by
  show⟨λz=>?_,of_hideAll _ e⟩;rw[z,hideAll_none [C] (by simp)]at e;cases e
 let to2:∀{b:Addr} {o:Obj},b≠C→B.get? b=some o→(hideAll B [C]).get? b=some o:=λ{b o} n e=>hideAll_get _ e (by simpa using n);let XO:NA (hideAll B [C]) X.stack x C0 a0 (rawInt X.env.locals) h2:=by
  let⟨q1,q2,q3,⟨oe,vs,T,oT,ts,he,sH,hd,UR,M6,N2,hT,xF,h3⟩⟩:=hh;let nx:x≠C:=λz=>by rw[z,Xu]at he;injection he with he;subst he;rw[XJ]at hd;cases hd
  let nT:T≠C:=λz=>by rw[z,Xu]at hT;injection hT with hT;subst hT;rw[XJ]at xF;cases xF
  show⟨λb o e=>(sb.2 b (of2 e).1).trans (q1 b o (of2 e).2),?_,gB sb q3 Ut,oe,vs,T,oT,ts,(sb.2 x nx).trans he,sH,hd,UR,?_,N2,(sb.2 T nT).trans hT,xF,h3⟩
  ·cases e:(hideAll B [C]).get? x with
   |none=>rfl
   |some o=>rw[(of2 e).2]at q2;cases q2
  ·cases e:(hideAll B [C]).get? T with
   |none=>rfl
   |some o=>rw[(of2 e).2]at M6;cases M6
 unfold PySem.passOn;let⟨_,_,_,⟨oe,vs,T,oT,ts,he,sH,hd,UR,_⟩⟩:=id XO;show A5 (C3 he hd UR ?_);rw[AH (show ¬((Value.ref T==Value.none)=true)from by simp)];let fin:wpAny (model X.prog X.w) X.A (setFlight (.ref x) zi.frame) (λ_ m8=>wpAny (model X.prog X.w) X.A (throw (.ref x):Sem Value) (λ_ _=>False) X.xe m8) X.xe {s' with heap:=h2}:=by
  show wB (s:={s' with heap:=h2}) XO λh3 an3 X1=>wpAny_throw ?_;show hp x0 σ H3 s3 x C0 a0 _ H' (hideAll B [C]) C {s' with heap:=h3} I3x (DN I2.sz hC) os bare an3 (λa o q=>(bA a o q).iR (λb v hb z=>to2 (λe=>?_) z) (λ_ z=>z) λ_ _ z=>z) ⟨λb o n e h n2=>to2 n (u.keep b o e h n2),λb o e h hb=>?_,u.free,λb o n e n2=>?_,u.gA,u.gi,u.fQ⟩ hE
  ·subst e
   rcases hb with e|e
   ·rw[←e,fC]at q;cases q
   ·rw[fC]at e;cases e
  ·let⟨sl,z⟩:=u.slot b o e h hb
   let⟨_,⟨o',mK,nd⟩⟩:=flf.mem hb;rw[z]at mK;injection mK with mK
   subst mK;let⟨sl1,z1⟩:=up b _ z nd;let nb:b≠C:=λy=>Ut (y ▸ hb);let⟨Pj,z3⟩:=X1 b _ ((sb.2 b nb).trans z1) nd;show⟨Pj,z3⟩
  ·let⟨o',z⟩:=u.there b o e n2
   show⟨o',to2 n z⟩
 first
  |show A5 (AG (A5 fin))
  |show A5 fin
def v9{it:Addr}{tn:Nat→Heap→Prop}{J:It}{Q:Au}{E':xz}(lM:X.stack=X.env::X.outer∧X.env.frame=some X.env.locals)(hp:Ms X EE)
  (c:eQ X scope cl own cap) (hc:X.calm=true)
  (hg:∀C s H fp,PG (CK X (own++cap.map (·.2)) scope cl C s H fp λ_ _=>False) tg g) (ht:∀C s H fp,tS (CK X (own++cap.map (·.2)) scope cl C s H fp λ_ _=>False) ifs tc)
  (he:∀C s H fp E1,LV (CK X (own++cap.map (·.2)) scope cl C s H fp E1) (λ_=>EE)→PE (CK X (own++cap.map (·.2)) scope cl C s H fp E1) elt te)
  (I2:Inv X x0 σ H2 s2) (T:Turn X.prog X.w X.K tg J fp it tn) (jh:tn 0 s2.heap) (f2:∀b∈fp,fK X x0 H2 b)
  (hw:∀D,H2 D=none→∃W:Nat→Nat→St→List V→A7→Prop,(∃m,W 0 m (IK own cap σ) [] (upd H2 D (.lst [])))∧∀i m σ' ys H',W i m σ' ys H'→H' D=some (.lst ys)∧
   ((J.stop i H'∧Q (.ref D) H')∨(J.go i H'∧ys.length<sizeLine∧∃N:St→List V→A7→Prop,(∀σ ys H,N σ ys H→∃m',m' < m∧W (i+1) m' σ ys H)∧∀x H2,J.vt i H' x H2→g x σ' H2 λσ3 H3=>tc σ3 H3 λb H4=>if b=true then te σ3 H4 λy H5=>H5 D=some (.lst ys)∧N σ3 (ys++[y]) (upd H5 D (.lst (ys++[y])))
    else N σ3 ys H4))) :
  wpAny (model X.prog X.w) X.A (newList []) (λacc s₃=>wpAny (model X.prog X.w) X.A (newFunctionEnv scope X.env.globals cl [] X.env.qual none .none (some X.env)) (λzi s₄=>
   codeAny (model X.prog X.w) X.A (.compStart (.ListComp elt [⟨tg,iter,ifs,0⟩] scope pos) 0 (.ref it) acc {zi with scope:=relabel scope X.env}) (compPost (model X.prog X.w) X.A X.xe none (CR X x0 σ Q) acc zi.locals) s₄) E' s₃) E' s2:=by
 show Ej (wpAny_newFunctionEnv c.cell (by intro y hy;simp at hy) (λh₁ yN yL=>?_) c.kind);dsimp only at yN yL ⊢;let hsz:(s2.heap.push {cls:=.type "list",dict:=none,data:=.seq ([]:List Value).toArray}).objs.size=s2.heap.objs.size+1:=Eg _ _;let kk:∀b o,s2.heap.get? b=some o→h₁.get? b=some o:=λb o e=>yL.extBut b o (by rw[hsz];show Bp (Ia (Aq e))) (Al _ (Al _ e));let hD:h₁.get? s2.heap.objs.size=some {cls:=.type "list",data:=.seq ([]:List Value).toArray}:=
  yL.extBut _ _ (by rw[hsz];show Bp (Rc _)) (Al _ (CM _ rfl))
 rw[hsz]at yN ⊢;let fI:∀b∈fp,b<s2.heap.objs.size:=λb hb=>by
  let⟨o,e,_⟩:=T.obj _ _ jh b hb;show Aq e
 let⟨W,⟨m0,w0⟩,turn⟩:=hw s2.heap.objs.size I2.fresh;let J1:=iQ (E:=λ_ _=>False) c I2 f2 fI (tk:=s2.toks+([]:List (Str×Value)).length) kk hD yN;let VI:∀{Ae:ad} {σ6:St} {H7:A7} {s7:Shared} {Q7:V→A7→Prop},Inv (CK X (own++cap.map (·.2)) scope cl (s2.heap.objs.size+1) s2 H2 fp (λ_ _=>False)) Ae σ6 H7 s7→te σ6 H7 Q7→wpAny (model X.prog X.w) X.A (eval elt (compEnvC scope cl (s2.heap.objs.size+1) X.env)) (CR (CK X (own++cap.map (·.2)) scope cl (s2.heap.objs.size+1) s2 H2 fp (λ_ _=>False)) Ae σ6 Q7) (Ry X (own++cap.map (·.2)) scope cl (s2.heap.objs.size+1) s2 H2 fp EE) s7:=λ{Ae σ6 H7 s7 Q7} I7 q7=>by
  let h:=(he (s2.heap.objs.size+1) s2 H2 fp (Ry X (own++cap.map (·.2)) scope cl (s2.heap.objs.size+1) s2 H2 fp EE) (λx0 σ H s e s' I h=>Ψ4 x0 σ H s ⟨XD I,h⟩)).run Ae s7 σ6 H7 Q7 (XD I7) q7;show DC h (λu s8 ξ=>Ξ23 ξ λy H8 I8 r q=>Ψ2 y H8 ⟨XD I8,r,q⟩) λ_ _ z=>z
 let Xy:∀{e:Value} {s':Shared},Ry X (own++cap.map (·.2)) scope cl (s2.heap.objs.size+1) s2 H2 fp EE e s'→notedBy (model X.prog X.w) X.A (compEnvC scope cl (s2.heap.objs.size+1) X.env) (λe s'=>compPost (model X.prog X.w) X.A X.xe none (CR X x0 σ Q) (.ref s2.heap.objs.size) (s2.heap.objs.size+1) (.error e) s') e s':=λ{e s'} hx=>zZ lM hp I2 f2 (Hf _) hx;generalize pN:CK X (own++cap.map (·.2)) scope cl (s2.heap.objs.size+1) s2 H2 fp (λ_ _=>False)=X' at J1 VI;let Vh:PG X' tg g:=pN ▸ hg _ _ _ _;let QA:tS X' ifs tc:=pN ▸ ht _ _ _ _;let pX:X'.prog=X.prog:=by rw[←pN];rfl
 let wX:X'.w=X.w:=by rw[←pN];rfl
 let kX:X'.K=X.K:=by rw[←pN];rfl
 let aX:X'.A=X.A:=by rw[←pN];rfl
 let cX:X'.calm=true:=by rw[←pN];show hc
 let nX:X'.env=compEnvC scope cl (s2.heap.objs.size+1) X.env:=by rw[←pN];rfl
 let xX:X'.xe=λ_ _=>False:=by rw[←pN];rfl
 let fX:∀b∈fp,∀{H':A7},H' b=none→fK X' [] H' b:=λb hb {H'} hn=>by
  let o1:=(Me (E:=λ_ _=>False) c I2 f2 fI (C:=s2.heap.objs.size+1) (Hf _)).KA b hb;let o2:=(Me (E:=λ_ _=>False) c I2 f2 fI (C:=s2.heap.objs.size+1) (Hf _)).sI b hb;rw[←pN];show⟨hn,o1.1,o2,.inl hb,o1.2,λp hp=>absurd (show p∈([]:ad)from hp) (by simp)⟩
 let fin:∀{σ':St} {H':A7} {s':Shared},Inv X' [] σ' H' s'→Q (.ref s2.heap.objs.size) H'→compPost (model X.prog X.w) X.A X.xe none (CR X x0 σ Q) (.ref s2.heap.objs.size) (s2.heap.objs.size+1) (.ok .next) s':=λ{σ' H' s'} J' q=>by
  rw[←pN]at J';let⟨A1,A2⟩:=aY I2 f2 (Hf _) J';let⟨m,hm,_⟩:=J'.loc;show⟨m,hm,λh' QD=>Ψ2 (.ref s2.heap.objs.size) H' ⟨?_,rfl,q⟩⟩;show A1.turned (t':=s'.toks) (λb o hb e=>(QD.2 b hb).trans e) A2.1 A2.2.1 A2.2.2.2.1 A2.2.2.2.2.1 A2.2.2.2.2.2
 let loop:codeAny (model X.prog X.w) X.A (.compLoop (.ListComp elt [⟨tg,iter,ifs,0⟩] scope pos) 0 (.ref it) (.ref s2.heap.objs.size) (compEnvC scope cl (s2.heap.objs.size+1) X.env)) (compPost (model X.prog X.w) X.A X.xe none (CR X x0 σ Q) (.ref s2.heap.objs.size) (s2.heap.objs.size+1))
   {s2 with heap:=h₁,toks:=s2.toks+([]:List (Str×Value)).length}:=by
  show mj (λn s'=>∃i σ' ys H',Inv X' [] σ' H' s'∧tn i s'.heap∧(∀b∈fp,H' b=none)∧W i n σ' ys H') ?_ m0
   ⟨0,_,[],_,J1,T.keep _ _ _ jh λb _ o e=>kk b o e,λb hb=>by rw[AW (Bp (fI b hb))];show(f2 b hb).1,w0⟩
  intro n s3⟨i,σ3,ys,H3,I3,vi,Ky,w3⟩;let⟨ZK,w4⟩:=turn i n σ3 ys H3 w3;rw[←nX,←aX,←pX,←wX]at VI Xy ⊢;let rQ:∀{α:Type} {t:Sem α} {Q1:α→Shared→Prop} {E1:xz} {s:Shared},wpAny (model X'.prog X'.w) X'.A t Q1 X'.xe s→wpAny (model X'.prog X'.w) X'.A t Q1 E1 s:=λ{α t Q1 E1 s} h=>by
   rw[xX]at h;show DC h (λ_ _ q=>q) λ_ _ f=>f.elim
  rcases w4 with⟨stop,qn⟩|⟨go,uH,N,hN,step⟩
  ·let d:=T.done X' pX wX kX cX i [] s3 σ3 H3 X'.xe I3 (λb hb=>fX b hb (Ky b hb)) vi stop
   rw[←pX,←wX]at d;show rQ (Ab d λr s4 ξ=>Ξ02 ξ λhr I4=>?_);subst hr;show fin I4 qn
  ·let d:=T.item X' pX wX kX cX i [] s3 σ3 H3 X'.xe I3 (λb hb=>fX b hb (Ky b hb)) vi go
   rw[←pX,←wX]at d;show rQ (Ab d λr s4 ξ=>Ξ12 ξ λu hr h4=>?_);subst hr;show rQ (Ab h4 λ_ s5 ξ=>Ξ25 ξ λx H5 I5 r5 y5 Bj Q8=>?_);let RB:=I5.pinned (λb hb=>fX b hb (Q8 b hb)) (T.obj _ _ Bj);let again:∀{σ7:St} {H7:A7} {s7:Shared} {K7:List V},Inv X' ([]++Ln fp s5.heap) σ7 H7 s7→N σ7 K7 H7→
     ∃m,m<n∧∃i σ' ys H',Inv X' [] σ' H' s7∧tn i s7.heap∧(∀b∈fp,H' b=none)∧W i m σ' ys H':=λ{σ7 H7 s7 K7} I7 n7=>by
    let⟨m',hm,w7⟩:=hN _ _ _ n7;show⟨m',hm,i+1,σ7,K7,H7,I7.jx,T.keep _ _ _ Bj λb hb o e=>(I7.pin (b,o) (FL _ (FL _ (Lv hb e)))).1,λb hb=>?_,w7⟩;let⟨o,e,d⟩:=T.obj _ _ Bj b hb;show(I7.pin (b,o) (FL _ (FL _ (Lv hb e)))).2.1
   show rQ (Ab (Vh _ s5 σ3 H5 x u _ RB r5 (step x H5 y5)) λ_ s6 ξ=>Ξ22 ξ λσ6 H6 I6 q6=>?_);show rQ (Ab (QA _ s6 σ6 H6 _ I6 q6) λb s7 ξ=>Ξ12 ξ λH7 I7 q7=>?_);cases b with
   |false=>
    rw[AH BN]at q7 ⊢;show again I7 q7
   |true=>
    rw[AI rfl]at q7 ⊢;show DC (VI I7 q7) (λu8 s8 ξ=>Ξ24 ξ λy8 H8 I8 r8 d8 q8=>?_) (λ_ _ hx=>Xy hx);show rQ (Ab (O3 _ s8 σ6 H8 (.ref s2.heap.objs.size) [y8] (.ref s2.heap.objs.size) [u8] (λ_ H9=>N σ6 (ys++[y8]) H9) I8 rfl (.cons r8 .nil) ⟨_,ys,y8,rfl,rfl,d8,uH,q8⟩) λ_ s9 ξ=>Ξ23 ξ λ_ H9 I9 _ q9=>?_);show again I9 q9
 show codeAny_compStart_list loop (T.self X.A 0 _ _ _ (T.keep _ _ _ jh λb _ o e=>kk b o e) loop)
def zy(lM:X.stack=X.env::X.outer∧X.env.frame=some X.env.locals)(hp:Ms X EE)(c:eQ X scope cl own cap)(hc:X.calm=true)(hi:PI X tg iter wi)
  (hg:∀C s H fp,PG (CK X (own++cap.map (·.2)) scope cl C s H fp λ_ _=>False) tg g) (ht:∀C s H fp,tS (CK X (own++cap.map (·.2)) scope cl C s H fp λ_ _=>False) ifs tc)
  (he:∀C s H fp E1,LV (CK X (own++cap.map (·.2)) scope cl C s H fp E1) (λ_=>EE)→PE (CK X (own++cap.map (·.2)) scope cl C s H fp E1) elt te) (hs:∀x,foldedSetIterable iter X.env x=pure x:=by intro _;rfl) :
  PE X (.ListComp elt [⟨tg,iter,ifs,0⟩] scope pos) (Nr wi g tc te own cap):=by
 show .mk ?_;intro x0 s σ H Q I h;rw[eval_ListComp];show bI (use:=none) rfl hs c.FY c.kind c.names (Ab (hi x0 s σ H _ I h) λv s1 h1=>Ab h1 λQs s2 h2=>?_);let⟨it,fp,tn,J,H2,e,I2,T,jh,f2,hw⟩:=h2;subst e;show v9 lM hp c hc hg ht he I2 T jh f2 hw
end
end L2
namespace L2
open PySem PySem.Spec PyProof.Rows PySem.W PySem.Builtin
variable {b:Array UInt8}{t t1:Tok}{A: Around}{E: Value→Shared→Prop}{s: Shared}
section
variable {M: Model}
def wV{β:Type}{n:Nat}{f:Nat→β→Sem (ForInStep β)}(I:Nat→β→Shared→Prop){Q:β→Shared→Prop}
  (step:∀i c s,i<n→I i c s→wpAny M A (f i c) (λr s'=>match r with|.yield b'=>I (i+1) b' s'|.done b'=>Q b' s') E s)
  (fin:∀c s,I n c s→Q c s) {c:β} (h:I 0 c s):wpAny M A (forIn [:n] c f) Q E s:=by
 rw[Std.Legacy.Range.forIn_eq_forIn_range'];simp only[Std.Legacy.Range.size,OA,Nat.add_sub_cancel,Nat.div_one];have:∀(k i:Nat) (c:β) (s:Shared),i+k=n→I i c s→wpAny M A (forIn (List.range' i k 1) c f) Q E s:=λk=>by
  induction k with
  |zero=>
   intro i c s e h;let e:i=n:=by lia
   subst e;rw[List.range'_zero,Ju];show AG (fin _ _ h)
  |succ k ih=>
   intro i c s e h;rw[List.range'_succ,JK];show A5 (DC (step i c s (by lia) h) (λr s' hr=>?_) λ_ _ h'=>h');cases r with
   |done b'=>show AG hr
   |yield b'=>show ih _ _ _ (by lia) hr
 show this n 0 c s (by lia) h
def wW{id:String}{Q:Array Nat×Nat→Shared→Prop}(h:∀c∈b.toList,c.toNat<128)(hz:b.size≤sizeLine)(q:Q (b.map (·.toNat),b.size) s):wpAny M A (_codecs.runDecoder id _codecs.asciiDecoder none true b 0 []) Q E s:=by
 unfold _codecs.runDecoder;dsimp only;show A5 (DC (Q:=λc s'=>s'=s∧c.1=b.size∧c.2.1=b.map (·.toNat)) (wV (λi c s'=>s'=s∧c.1=i∧c.2.1=(b.map (·.toNat)).take i) (λi c s' hi hI=>?_) (λc s' hI=>?_) ⟨rfl,rfl,by simp⟩) ?_ λ_ _ z=>z)
 ·let⟨rfl,e1,e2⟩:=hI
  obtain⟨p,out,st⟩:=c;dsimp only at e1 e2 ⊢;subst e1 e2;let hp:(List.take p (b.map (·.toNat)).toList).length≤p:=by rw[Er];lia
  let hs:((b.map (·.toNat)).take p).size≤p:=by simp;lia
  rw[AH (by lia),AH (by lia)];let hm:b.getD p 0∈b.toList:=by
   rw[lj,Td hi];simp
  let ef:_codecs.asciiDecoder.find true b p=.text [(b.getD p 0).toNat] (p+1):=by
   show(if(b.getD p 0).toNat<128 then _ else _)=_
   rw[AI (h _ hm)];rfl
  rw[ef];show AG ⟨rfl,rfl,?_⟩;apply aem.mp
  simp[List.take_add_one,lj,hi]
 ·let⟨rfl,e1,e2⟩:=hI
  show⟨rfl,e1,by rw[e2];simp⟩
 ·intro c s'⟨rfl,e1,e2⟩
  show AG ?_;rw[e1,e2];show q
def aa9(a b:Value):argsOk "bytes.decode" ⟨[a,b],[]⟩:=by unfold argsOk;kernel_rfl
def abN(v:Value):Bytes.bindOptional "bytes.decode" "decode" ["encoding","errors"] [v] []=pure [some v,none]:=by kernel_rfl
def aaQ(t1:Tok):Bytes.checkCodecArg "bytes.decode" "decode" "encoding" (some (Value.str (PySem.Str.ofString "ascii") t1))=pure ():=by kernel_rfl
def zJ{id:String}:_codecs.decodeRoad id b (PySem.Str.ofString "ascii") none []=(_codecs.runDecoder id _codecs.asciiDecoder none true b 0 [] >>= λr=>mkStr ⟨r.1⟩):=by kernel_rfl
end
section
variable {prog: Program}{w: World}
def abr{Q:Fin→Shared→Prop}(h:∀c∈b.toList,c.toNat<128)(hz:b.size≤sizeLine)(q:∀t' k,Q (.done (.ret (.str ⟨b.map (·.toNat)⟩ t'))) {s with toks:=k}):wpAny (model prog w) A (Builtin.«bytes.decode» ⟨[.bytes b t,.str (PySem.Str.ofString "ascii") t1],[]⟩) Q E s:=by
 unfold Builtin.«bytes.decode» Bytes.decodeM;dsimp only;rw[show(toString Bytes.Kind.bytes.name++toString ".decode") = "bytes.decode" from rfl];show A5 (EP (abN _) ?_);dsimp only;show A5 (EP (aaQ _) ?_);show A5 (EP (a:=()) rfl ?_);rw[AH (by decide)];unfold Bytes.thenGiveBack;dsimp only;show A5 (EP (a:=b) rfl ?_);by_cases e:b.isEmpty=true
 ·rw[AI e]
  let eb:b=#[]:=by simpa using e
  subst eb;rw[show(⟨(#[]:Array UInt8).map (·.toNat)⟩:PySem.Str)=PySem.Str.empty from by rw[Array.map_empty];rfl]at q;show A5 (Fz ?_);unfold retStr;show A5 (Nn (AG (q _ _)) (by decide))
 rw[AH e];show A5 (Nn ?_ (by decide));show A5 (A5 (EP (a:=some (PySem.Str.ofString "ascii")) rfl ?_));dsimp only;show Nn ?_ (by decide);show A5 (AG ?_);show A5 (Nn ?_ (by decide));show A5 (Calls.call_function_entry KBd.kind_text KBd.plain_text KBd.entry_text (KBd.args_text _ _ _ _) ?_);show wpAny _ _ (Bytes.bytesLike _ (.bytes b t) >>= λr=>_) _ _ _
 show A5 (EP KBd.like_eq ?_);show A5 (EP KBd.held_eq ?_);show wpAny _ _ (_codecs.decodeRoad _ b (PySem.Str.ofString "ascii") none [] >>= λv=>_) _ _ _
 rw[zJ];show A5 (A5 (wW h hz ?_));show Nn (AG ⟨_,rfl,?_⟩) (by show(b.map (·.toNat)).size≤_;rw[TM];show hz);show AG (q _ _)
def v7{Q:xz}(h:∀c∈b.toList,c.toNat<128)(hz:b.size≤sizeLine)(q:∀t' k,Q (.str ⟨b.map (·.toNat)⟩ t') {s with toks:=k}):wpAny (model prog w) A (call (.builtin "bytes.decode") [.bytes b t,.str (PySem.Str.ofString "ascii") t1]) Q E s:=
 FZ FB.slot_bytes_decode (typeIs_bytes _ _ _) FB.entry_bytes_decode (abr h hz λt' k=>⟨_,rfl,q t' k⟩) (aa9 _ _)
end
end L2
namespace L2
open PySem PySem.Spec PyProof.Rows PySem.W
def abP:typeLookup (.type "tuple") "__bytes__" = pure none:=by rw[Ni,O2];kernel_rfl
def vZ:typeLookup (.type "tuple") "__index__" = pure none:=by rw[Ni,O2];kernel_rfl
def oO:typeLookup (.type "tuple") "__buffer__" = pure none:=by rw[Ni,O2];kernel_rfl
def aaO:splitId "tuple.__len__" = some ("tuple","__len__"):=by decide +kernel
def x9:isSubtype (.type "tuple") (.type "tuple")=pure true:=by rw[isSubtype_type];kernel_rfl
abbrev Km(ns:List Int):Obj:={cls:=.type "bytearray",data:=.bytearray (byteArr ns)}
@[reducible]def J7(l:Addr):Obj:={cls:=.type "tuple_iterator",data:=.fields #[.ref l,.int 0 0]}
section
variable {prog: Program}{w: World}{A: Around}{E: Value→Shared→Prop}
def nH{R:Result→Shared→Prop}{l I S:Addr}{vs:List Value}{ns:List Int}(hh:A.handled=none)(ia:IntsAre vs ns)(rg:∀n∈ns,0≤n∧n<256)(hz:ns.length≤sizeLine)(d:I≠S∧l≠I∧l≠S)(i:Nat)(s:Shared)
  (le:i≤ns.length) (tp:s.heap.IsTuple l vs.toArray) (it:s.heap.IsTupleIter I l i) (mk:s.heap.get? S=some (Km (ns.take i)))
  (fin:∀h' t k,(∀b o,b≠I→b≠S→s.heap.get? b=some o→h'.get? b=some o)→R (.ok (.ret (.bytes (byteArr ns) t))) {s with heap:=h',toks:=k}) :
  codeAny (model prog w) A (.builtin "bytes.__new__.loop" ⟨[.type "bytes",.ref I,.ref S],[]⟩) R s:=by
 show Ib F.bm_entry_loop ?_;rw[Ij OL _];let lv:vs.length=ns.length:=ia.length;show wpAny _ A.in1 (pyNext (.ref I) >>= _) _ _ s
 by_cases c:i<ns.length
 ·let⟨n,t,ev,en⟩:=IntsAre.at ia i (vs[i]'(by lia)) (BZ (by lia))
  let ev:vs[i]?=some (.int n t):=by rw[BZ (by lia),ev]
  let nr:=rg n (CQ en);show A5 (wpAny_pyNext_tuple_item (x:=.int n t) it tp (by rw[P4];show ev) λh1 YT sb=>?_);let Qk:h1.get? S=some (Km (ns.take i)):=(sb.2 S (Du d.1)).trans mk;show A5 (Dx (EP (rfl:asIndex (.int n t)=pure n) (A5 (Fc (L9 ?_ ?_)))))
  ·rw[Bool.or_eq_false_iff,Y0,Y0]
   lia
  show A5 ?_;show wpAny _ _ (updateBytearray S (·.push n.toNat.toUInt8)) _ _ _
  unfold updateBytearray;show A5 (wpAny_load Qk ?_);show wpAny _ _ (update S (Obj.mapBytearray (·.push n.toNat.toUInt8)) >>= λ_=>lookBehind S) _ _ _
  show A5 (wpAny_update Qk ?_);let WH:(h1.update S (Obj.mapBytearray (·.push n.toNat.toUInt8))).get? S=some (Km (ns.take (i+1))):=by
   unfold Km;rw[byteArr_take en];show J4 _ Qk rfl
  let ub:=(Js h1 S (Obj.mapBytearray (·.push n.toNat.toUInt8))).extBut;show wpAny_lookBehind WH ?_ (AG ⟨HB OL _,?_⟩)
  ·have:¬(byteArr (ns.take (i+1))).size>sizeLine:=by rw[byteArr_size,Er];lia
   show AH this
  show nH hh ia rg hz d (i+1) _ c ((tp.extBut sb.extBut d.2.1).extBut ub d.2.2) (YT.extBut ub d.1) WH λh3 t' k' kp=>?_;show fin h3 t' k' λb o nI nS e=>kp b o nI nS ((FJ _ _ (Du nS)).trans (sb.extBut b o nI e))
 ·let e:i=ns.length:=by lia
  rw[e,VW]at mk;show A5 (wpAny_pyNext_tuple_end hh it tp (by rw[P4];show Eh (by lia)) λh1 kp=>A5 ?_);let Qk:h1.get? S=some (Km ns):=kp S _ (Du d.1) mk;unfold Builtin.Bytes.payload Builtin.Bytes.payload?;show A5 (A5 (wpAny_load Qk (AG (AG (A5 (wpAny_mkBytes ?_ (by rw[byteArr_size];show hz)))))));show bm_if_true (c:=(Value.type "bytes" == Value.type "bytes")) (by decide) ?_;first
   |show AG (fin h1 _ _ λb o nI _ e=>kp b o nI e)
   |show A5 (AG (AG (fin h1 _ _ λb o nI _ e=>kp b o nI e)))
termination_by ns.length-i
variable {s: Shared}{l: Addr}{vs: List Value}{ns: List Int}{Q: Value→Shared→Prop}
def abO(hh:A.handled=none)(tp:s.heap.IsTuple l vs.toArray)(ia:IntsAre vs ns)(rg:∀n∈ns,0≤n∧n<256)(hz:ns.length≤sizeLine)
  (fin:∀h' t k,(∀b o,s.heap.get? b=some o→h'.get? b=some o)→Q (.bytes (byteArr ns) t) {s with heap:=h',toks:=k}) :
  codeAny (model prog w) A (.call (.builtin "bytes.__new__") ⟨[.type "bytes",.ref l],[]⟩) (wants Q E) s:=by
 let ty:s.TypeIs (.ref l) "tuple" := tp.typeIs;let⟨ol,g1,g2,⟨g4,g3⟩⟩:=id tp;let lo:l<s.heap.objs.size:=Aq g1;let sz:(s.heap.push (J7 l)).objs.size=s.heap.objs.size+1:=Eg _ _;let We:(s.heap.push (J7 l)).IsTuple l vs.toArray:=tp.push _;let Wd:({s with heap:=s.heap.push (J7 l)}:Shared).TypeIs (.ref l) "tuple" := Heap.IsTuple.typeIs (s:={s with heap:=s.heap.push (J7 l)}) We;let old:∀b o,s.heap.get? b=some o→b≠s.heap.objs.size∧b≠(s.heap.push (J7 l)).objs.size∧((s.heap.push (J7 l)).push (Km [])).get? b=some o:=λb o e=>
  let lb:=Aq e
  ⟨Bp lb,by rw[sz];show Bp (Ia lb),Al _ (Al _ e)⟩
 let run:=nH (prog:=prog) (w:=w) (A:=A) (R:=wants Q E) (I:=s.heap.objs.size) (S:=(s.heap.push (J7 l)).objs.size) hh ia rg hz ⟨by rw[sz];show Bp (Rc _),Bp lo,by rw[sz];show Bp (Ia lo)⟩ 0
  {s with heap:=(s.heap.push (J7 l)).push (Km [])} (CV _) (We.push _) ⟨_,Al _ (CM _ rfl),rfl,rfl⟩ (CM _ rfl)
  λh' t k kp=>fin h' t k λb o e=>kp b o (old b o e).1 (old b o e).2.1 (old b o e).2.2
 show codeAny_of_tree ?_;show wpAny _ A.in1 (do checkBuiltinCall "bytes.__new__" ⟨[.type "bytes",.ref l],[]⟩;again (.builtin "bytes.__new__" ⟨[.type "bytes",.ref l],[]⟩)) _ _ s
 show A5 (EP (F.bm_newCall _) (AG ⟨HB F.bm_plain _,Ib F.bm_entry ?_⟩));rw[Ij F.bm_plain _];unfold Builtin.«bytes.__new__»;show A5 (EP (a:=true) rfl (L9 rfl (A5 (EP F.bm_sub (L9 rfl (A5 (EP (F.bm_bind _) ?_)))))));show A5 (EP (a:=()) rfl (A5 (EP (a:=()) rfl (L9 rfl (A5 (J6 ty abP (A5 (A5 ?_))))))));show wpAny _ _ (load l >>= _) _ _ _
 show A5 (wpAny_load g1 ?_);rw[g3];show AG (AG (L9 rfl (A5 (J6 ty vZ (bm_if_true rfl ?_)))));first
  |show wpAny _ _ (Builtin.Bytes.buffer? "bytes.__new__" (.ref l) true >>= _) _ _ _
  |(show A5 ?_;show wpAny _ _ (Builtin.Bytes.buffer? "bytes.__new__" (.ref l) true >>= _) _ _ _)
 unfold Builtin.Bytes.buffer?;show A5 (A5 (J6 ty oO (A5 (J6 ty oO (AG (A5 (O6 (Mw tp (A5 (Dx ?_)))))))))) ;unfold Builtin.Bytes.lengthHint;show A5 (J6 Wd F.slot_tuple_len.lookup ?_);dsimp only;rw[aaO];dsimp only;show A5 (OP Wd x9 (L9 rfl (bm_if_true (by decide +kernel) (AG (A5 ?_)))));unfold Builtin.Bytes.newBytearray;show Ej ?_ (CV _);first
  |show AG ⟨HB OL _,run⟩
  |show AG (AG ⟨HB OL _,run⟩)
def wC(tp:s.heap.IsTuple l vs.toArray)(ia:IntsAre vs ns)(rg:∀n∈ns,0≤n∧n<256)(hz:vs.length≤sizeLine)(hh:A.handled=none)
  (fin:∀h' t k,(∀b o,s.heap.get? b=some o→h'.get? b=some o)→Q (.bytes (byteArr ns) t) {s with heap:=h',toks:=k}):wpAny (model prog w) A (call (.type "bytes") [.ref l]) Q E s:=by
 show callType_codes (Q₁:=λx s1=>s1.TypeIs x "bytes" ∧ Q x s1) F.bm_called (F.bm_typeCall _) F.entry_object_init (abO hh tp ia rg (by rw[←ia.length];show hz) λh' t k kp=>⟨typeIs_bytes _ _ _,fin h' t k kp⟩) λx s1 h1=>?_;show⟨h1.1,F.args_object_init_2 x _,object_init_meets F.bm_called.init.lookup F.bm_called.made (by decide) prog w A.in1 _ s1 ⟨h1.1,rfl,h1.2⟩⟩
end
def tj:bootBuiltins "bytes" = some (.type "bytes"):=by decide +kernel
def kK:∀{ns:List Int} {its:List Value},Vals (ns.map V.int) its→IntsAre its ns
 |[],_,h=>by cases h;show .nil
 |n::ns,_,h=>by
  cases h with
  |cons a b=>
   let⟨t,rfl⟩:=a;show .cons n t (kK b)
abbrev zG(K:W.Frag)(te:Am):Am:=λσ H Q=>Ny te OO σ H λvs H1=>∃(a:Addr) (ns:List Int),vs=[.ref a]∧dD K H1 a (ns.map V.int)∧(∀n∈ns,0≤n∧n<128)∧Q (.str ⟨(ns.map Int.toNat).toArray⟩) H1
section
variable {X: Cx}{e: Expr}{te: Am}{p q ap p2 pos: Pos}{j: Nat}
def acf{ns:List Int}(h:∀n∈ns,0≤n∧n<128):(∀c∈(byteArr ns).toList,c.toNat<128)∧(byteArr ns).map (·.toNat)=(ns.map Int.toNat).toArray:=by
 let key:∀n∈ns,n.toNat.toUInt8.toNat=n.toNat:=λn hn=>by
  have:=h n hn;show n.toNat%256=n.toNat
  lia
 constructor
 ·intro c hc
  unfold byteArr at hc;let⟨n,hn,rfl⟩:=aau.mp hc;rw[key n hn];have:=h n hn;lia
 ·unfold byteArr
  rw[List.map_toArray,CT];congr 1
  show L7 λn hn=>key n hn
def sj(hc:X.calm=true)(hg:Bi X "bytes")(hm:X.mg "bytes" = none)(he:PE X e te)
  (jX:attributeBase (.Call (.Name "bytes" p) [e] [] q) "decode" X.env (eval (.Call (.Name "bytes" p) [e] [] q) X.env)=eval (.Call (.Name "bytes" p) [e] [] q) X.env:=by rfl)
  (lM:starEach [e] X.env=[(false,eval e X.env)]:=by rfl)
  (yO:((backTo pos (starEach [.Constant (.str "ascii") j p2] X.env)).all (λx=>!x.1)&&(backToKw pos (keywordEach [] X.env)).all (λx=>x.1.isSome)
   && decide (([.Constant (.str "ascii") j p2]:List Expr).length+([]:List Keyword).length+(if([]:List Keyword).isEmpty then 0 else 1)<30))=true:=by rfl)
  (jW:(ap.endLine==pos.line)=true:=by rfl) (hs:starEach [.Constant (.str "ascii") j p2] X.env=[(false,eval (.Constant (.str "ascii") j p2) X.env)]:=by rfl) :
  PE X (.Call (.Attribute (.Call (.Name "bytes" p) [e] [] q) "decode" ap) [.Constant (.str "ascii") j p2] [] pos) (zG X.K te):=by
 show .mk ?_;intro x0 s σ H Q I h;show wpAny_Call_method_late jX yO jW rfl ?_;show JO (GJ I hg hm tj ?_ (by decide) (by decide));show Ii ?_ lM (by rfl);show Ab (BD he Co lM q x0 s σ H _ I h) λus s1 ξ=>Ξ23 ξ λvs H1 I1 r1 q1=>?_;let⟨a,ns,rfl,sq,hr,q2⟩:=q1;let⟨u,rfl,rx⟩:=vals1 r1;cases rx;let⟨its,rv,tp,hz⟩:=I1.tuple sq;let hl:=rv.length;rw[Ac]at hl hz;let ia:=kK rv;let⟨dt1,dt2⟩:=acf hr;show wC tp ia (λn hn=>by have:=hr n hn;lia) (by lia) (I1.ok.hd hc) λh' t k keep=>?_;let I2:Inv X x0 σ H1 {s1 with heap:=h',toks:=k}:=I1.kept (t':=k) keep;show Ψ2 ("bytes") ("bytes.decode") ⟨FB.plainAttrs_bytes,FB.slot_bytes_decode,FB.type_bytes_decode,typeIs_bytes _ _ _,λ_ z=>(nomatch z),?_⟩;let hA:=(BD (X:=X) (e:=.Constant (.str "ascii") j p2) Hg Co hs).run pos x0 {s1 with heap:=h',toks:=k} σ H1 (λvs H2=>vs=[.str "ascii"]∧H2=H1) I2 ⟨rfl,rfl⟩;rw[hs]at hA ⊢;show ai (by rfl) (bK ?_);show Ab hA λus s3 ξ=>Ξ24 ξ λvs H3 I3 r3 e1 e2=>?_;subst e1 e2;let⟨u,rfl,rx⟩:=vals1 r3;let⟨t1,rfl⟩:=rx;show v7 dt1 (by rw[byteArr_size];lia) λt' k'=>Ψ2 (.str ⟨(ns.map Int.toNat).toArray⟩) H3 ⟨I3.kept (t':=k') (λ_ _ z=>z),⟨t',by rw[dt2]⟩,q2⟩
end
end L2
namespace L2
open PySem PySem.Spec PyProof.Rows
variable {H:A7}{a c P:Addr}{z x:Str}{r:List V}{n k:Nat}
abbrev GH(H:A7):V→Str
 |.ref a=>match H a with
  |some (.tup (.str z::_))=>z
  |_ => ""
 |_ => ""
abbrev LA(H:A7):Value→Str
 |.ref a=>GH H (.ref a)
 |_ => ""
def Lh(h:H a=some (.tup (.str z::r))):GH H (.ref a)=z:=by
 show(match H a with|some (.tup (.str z::_))=>z|_ => "")=z
 rw[h]
abbrev R3(H:A7)(y:V):Prop:=∃a z r,y=.ref a∧H a=some (.tup (.str z::r))
def iB{H:A7}:∀{ys:List V} {us:List Value},Vals ys us→(∀y∈ys,R3 H y)→us.map (LA H)=ys.map (GH H)
 |_,_,.nil,_=>rfl
 |_,_,.cons (a:=y) r h,hy=>by
  let⟨a,z,rr,rfl,e⟩:=hy y (by simp);cases r;rw[Ar,Ar,iB h λy hm=>hy y (by simp[hm])];rfl
section
variable {X: Cx}{H: A7}{f P c: Addr}{q x: Str}{params: Arguments}{scope: Scope}{p1 p2 p3: Pos}{j: Nat}
def aeI(hr:dw 4 X.A)(L:bG H f q params (.Subscript (.Name x p1) (.Constant (.int 0) j p2) p3) scope)(S:BA [x] [x] scope)(hx:scope.names.lookup x=some .local)
  (hb:∀(pm uO u:Value) (c':Addr),bindArgs (W.kla_fn "<lambda>" q params (.Subscript (.Name x p1) (.Constant (.int 0) j p2) p3) scope [] pm (.ref c') uO) ⟨[u],[]⟩=pure [(x,u)])
  (hd:(x ==("__debug__" : Str))=false) (oX:(x ==("__classdict__" : Str))=false) {b:Addr}   (e:H b=some (.tup (.str z::r))):VQ X H X.A.in1.in1 (.ref f) (.ref b) z:=by
 intro x0 σ s I;let⟨c',oc,vs,t,u,pm,uO,h1,h2,h3,h4⟩:=L.ex;let ho:s.heap.get? f=some (W.kla_obj "<lambda>" q params (.Subscript (.Name x p1) (.Constant (.int 0) j p2) p3) scope [] pm c' uO):=(I.bA f _ h1).1;let hc:s.heap.CodeRec (.ref c') q:=Ψ4 c' oc vs t ⟨rfl,(I.bA c' _ h2).1,h3,h4⟩;let Zb:dw 2 X.A.in1.in1:=hr.in1.in1;show OG (O8 (we (ps:=[x]) (N:=[x]) (us:=[.ref b]) (vs:=[.ref b]) (Q:=λv H'=>v=.str z∧H'=H) Zb I.Nq.in1.in1 ho hc (hb pm uO (.ref b) c') S (.cons rfl .nil) rfl
  (Eu Fh (Ta (i:=0) rfl (Or.inl hx) hd oX) BG (λ_ _=>rfl)) ?_) λres s' hq=>?_)
 ·show⟨_,rfl,b,_,0,.str z,rfl,rfl,dD.of e,Es (j:=0) rfl,rfl,rfl⟩
 ·cases res with
  |error e=>show hq.elim
  |ok fl=>
   cases fl with
   |next=>show False.elim hq
   |brk=>show False.elim hq
   |cont=>show False.elim hq
   |ret u=>
    let⟨v,H',os,bare,un,bA,rv,rfl,rfl⟩:=hq;let⟨t,rfl⟩:=rv;show⟨⟨t,rfl⟩,un,bA,bare,os⟩
def oQ.list{x0:ad}{σ:St}{s s':Shared}{out:List Value}{xs:List V}(m:oQ X H s s')(I:Inv X x0 σ H s)(ha:s.heap.objs.size≤a)(e:s'.heap.get? a=some (seqObj "list" out.toArray n))(rv:Vals xs out)(hz:xs.length≤sizeLine):
  Inv X x0 σ (L2.upd H a (.lst xs)) s':=by
 let na:H a=none:=I.bA.fresh ha;let ne:∀b o,s.heap.get? b=some o→b≠a:=λb o e=>Bp (D6 (Aq e) ha);obtain⟨h,g,d,t,os⟩:=s';obtain⟨un,bA,bare,eo⟩:=m;cases eo;show I.call (h':=h) (g':=g) (d':=d) (t':=t) (ch:=[]) ⟨un.keep,un.slot,λb o q n hx=>?_,un.there,λb ys q=>?_,λb o u q=>?_,λb ps q=>?_⟩ (λb u q=>?_) bare (λb z=>absurd z (by simp))
 ·rw[AW (ne b o q)];show un.free b o q n hx
 ·rw[AW (Ba q na)];show q
 ·rw[AW (Ba q na)];show q
 ·show⟨#[],by rw[AW (Ba q na),q];simp⟩
 ·by_cases z:b=a
  ·subst z;rw[B0]at q;cases q
   show⟨hz,out,n,rv,e⟩
  ·rw[AW z]at q
   show(bA b u q).iR (λ_ _ _ k=>k) (λb' k=>by rw[AW (Ba k na)];show k) λb' ys k=>by rw[AW (Ba k na)];show k
def oU:∀{ys:List V} {us:List Value} {i:Nat} {v:Value},Vals ys us→us[i]?=some v→∃y,ys[i]?=some y∧RelV y v
 |_,_,i,v,.nil,h=>by simp at h
 |_,_,0,v,.cons (a:=y) r h,e=>by cases e;show⟨y,rfl,r⟩
 |_,_,i+1,v,.cons r h,e=>oU (i:=i) h e
def tm{e:Expr}{ta:CW}{p n9 sD pos:Pos}(hr:dw 4 X.A)(hg:Bi X "sorted")(hm:X.mg "sorted" = none)(ha:PA X [e] ta)
  (hq:X.env.qual ++ "<lambda>" = q) (tK:X.env.code=.ref c) (hC:W.codeHdIn X.K c P=true) (hB:IG X.mg X.base P) (S:BA [x] [x] scope) (hx:scope.names.lookup x=some .local)
  (hb:∀(pm uO u:Value) (c':Addr),bindArgs (W.kla_fn "<lambda>" q params (.Subscript (.Name x p1) (.Constant (.int 0) j p2) p3) scope [] pm (.ref c') uO) ⟨[u],[]⟩=pure [(x,u)])
  (hd:(x ==("__debug__" : Str))=false:=by decide) (oX:(x ==("__classdict__" : Str))=false:=by decide)
  (Fv:defaultsOf params X.env=([],[]):=by rfl) (Ax:closureFor scope X.env=pure []:=by rfl)
  (he:backTo pos (starEach [e] X.env)=(false,eval e X.env)::backTo pos (starEach [] X.env):=by rfl) (gc:(backTo pos (starEach [e] X.env)).any (·.1)=false:=by rfl) :
  PE X (.Call (.Name "sorted" p) [e] [⟨some "key",.Lambda params (.Subscript (.Name x p1) (.Constant (.int 0) j p2) p3) scope n9,sD⟩] pos)
   (λσ H Q=>ta σ H λxs H1=>∃(l:Addr) (ys:List V),xs=[.ref l]∧H1 l=some (.tup ys)∧ys.length<64∧(∀y∈ys,R3 H1 y)∧L4 H1 P q n9∧
    ∀(H2:A7) (a:Addr) (zs:List V),(∀b o,b≠P→H1 b=some o→H2 b=some o)→L4 H2 P q n9→H2 a=none→zs.Perm ys→(zs.map (GH H1)).Pairwise (λu v=>¬v.cps.toList<u.cps.toList)→Q (.ref a) (upd H2 a (.lst zs))):=by
 show .mk ?_;intro x0 s σ H Q I h;show JO (GJ I hg hm boot_sorted ?_ (by decide) (by decide));show callWith_kw (e:=e) (rest:=[]) ?_ he gc rfl rfl;show Ab (ha pos x0 s σ H _ I h) λus s1 ξ=>Ξ23 ξ λvs H1 I1 r1 q1=>?_;let⟨l,ys,rfl,hl,lZ,hy,lt,k⟩:=q1;let⟨u,rfl,ru⟩:=vals1 r1;cases ru;show Ab ((fF (aaw (pos:=n9) hq tK hC hB Fv Ax) qf) pos x0 s1 σ H1 (λzs H2=>∃f,zs=[.ref f]∧(∀b o,b≠P→H1 b=some o→H2 b=some o)∧L4 H2 P q n9∧bG H2 f q params (.Subscript (.Name x p1) (.Constant (.int 0) j p2) p3) scope) I1
  ⟨lt,λf H2 _ kp NV _ lh=>⟨f,rfl,kp,NV,lh⟩⟩) λws s2⟨zs,H2,I2,r2,f,ez,kp,NV,lh⟩=>?_
 subst ez;let nP:∀b ys,H1 b=some (.tup ys)→b≠P:=λb ys q z=>by
  rw[z]at q;rcases lt with w|⟨_,_,_,_,_,w,_⟩
  ·rw[w]at q;cases q
  ·rw[w]at q;cases q
 let tp:∀b ys,H1 b=some (.tup ys)→H2 b=some (.tup ys):=λb ys q=>kp b _ (nP b ys q) q;let W0:∀y∈ys,R3 H2 y:=λy m=>by
  let⟨a,z,r,e1,e2⟩:=hy y m;show Ψ3 a z r ⟨e1,tp _ _ e2⟩
 let⟨its,rv,⟨o,ho,hc,⟨n,hd2⟩⟩,hz⟩:=I2.tuple (dD.of (K:=X.K) (tp _ _ hl));let ll:=rv.length;let fin:wpAny (model X.prog X.w) X.A (call (.builtin "sorted") [.ref l] [(Str.ofString "key",.ref f)]) (CR X x0 σ Q) X.xe s2:=by
  show acA (zs:=its.map (LA H2)) I2 ho hc hd2 (by rw[Ac]) (by lia) (λi v z hv NX=>?_) λs0 s' a out cc I0 ge m ea ob=>?_
  ·let⟨y,ey,ry⟩:=oU rv hv
   let⟨b,z',r,rfl,eb⟩:=W0 y (CQ ey);cases ry;rw[CZ,hv]at NX;let YX:some (LA H2 (.ref b))=some z:=NX;have:z=z':=by
    cases YX;show Lh eb
   subst this;show aeI hr lh S hx hb hd oX eb
  ·let⟨qs,pq,eo,pw⟩:=ob
   let key:∀q∈qs,q.1=LA H2 q.2:=λq hq=>by
    let hm:=pq.mem_iff.mp hq;let⟨i,hi⟩:=List.mem_iff_getElem?.mp hm;rw[List.getElem?_zip_eq_some,CZ]at hi;let⟨h1,h2⟩:=hi;rw[h2]at h1;show(EC h1).symm
   let po:out.toList.Perm its:=by
    rw[eo];have:=pq.map (·.2);rw[List.map_snd_zip (by rw[Ac];show Ak _)]at this;show this
   let⟨zs,pz,Qy⟩:=lF po rv;let hs:(zs.map (GH H1)).Pairwise (λu v=>¬v.cps.toList<u.cps.toList):=by
    let e1:zs.map (GH H1)=zs.map (GH H2):=L7 λy m=>by
     let⟨a,z,r,rfl,e2⟩:=hy y (pz.mem_iff.mp m);rw[Lh e2,Lh (tp _ _ e2)]
    rw[e1,←iB Qy (λy m=>W0 y (pz.mem_iff.mp m)),eo,CT,adj];show pw.imp_of_mem λ{a b} ma mb ZD=>?_;show ¬(LA H2 b.2).cps.toList<(LA H2 a.2).cps.toList
    rw[←key a ma,←key b mb];show ZD
   show Ψ2 (.ref a) _ ⟨m.list I0 ge (out:=out.toList) (n:=cc) (by simpa using ea) Qy (by rw[pz.length_eq];show hz),rfl,k H2 a zs kp NV (I0.bA.fresh ge) pz hs⟩
 cases r2 with
 |cons r3 r4=>cases r4;cases r3;show fin
end
abbrev R4(P:Addr)(H:A7):Prop:=H P=some (.tbl #[])∧∀b,b≠P→H b=none∨∃o xs,H b=some (.frz o (.lst xs))
abbrev BMod(mg:ac)(h:Heap):Prop:=∃bm ob,mg "__builtins__" = some (.ref bm)∧bm≠builtinsNs∧h.get? bm=some ob∧ob.cls=.type "module" ∧ ob.dict=some builtinsNs∧ob.data=.plain
def aeO{Pr:Program}{w:World}{K:W.Frag}{mg mb:ac}{CX:Gu}{fa:Addr}{fd:FuncData}{sp:Dn}{s₁:Shared}{vs:List Value}{ns:List Int}
  (KX:K.In s₁.heap) (U6:s₁.heap.Ns mainGlobals mg) (hb:s₁.heap.Ns builtinsNs mb) (ZC:∀x:Str,x ≠ "__name__" → mb x=bootBuiltins x) (Vd:s₁.heap.NoLimit) (hg:s₁.gens=#[]) (ZA:BMod mg s₁.heap)
  (hC:W.CodeHd s₁.heap c P) (hP:s₁.heap.get? P=some (W.tabObj #[])) (QY:K.lookup P=none)
  (ha:s₁.heap.get? a=some {cls:=.type "list",data:=.seq vs.toArray}) (hi:IntsAre vs ns) (hl:ns.length≤sizeLine) (hr:dw k callerA)
  (F:∀base:Heap,K.In base→base.Ns mainGlobals mg→IG mg base P→bB Pr w K mg base CX k fa fd [x] sp) (QS:∀(s:Shared) (u:Value),BindsTo s fd ⟨[u],[]⟩ [(x,u)])
  (uI:∀H:A7,R4 P H→eB K H a (ns.map V.int)→sp [.ref a] H (λv _=>v=.bl true) λ_ _ _=>False)
  (Vw:∀H e s',CX [] H s₁ (λ_ _ _=>False) e s'→False) :
  codeAny (model Pr w) callerA (.call (.ref fa) ⟨[.ref a],[]⟩) (λr s'=>r=.ok (.ret (.bool true))∧OldK s₁.heap s'.heap∧s'.os=s₁.os∧AllBare s'.gens) s₁:=by
 let rv:=kL hi;let Uy:=hi.length;let aP:a≠P:=λz=>by rw[z,hP]at ha;cases ha
 let core:∀H:A7,R4 P H→eB K H a (ns.map V.int)→jt Pr w H s₁.heap→(∀b,H b≠none→b=a∨b=P)→(H a≠none→K.lookup a=none)→
   codeAny (model Pr w) callerA (.call (.ref fa) ⟨[.ref a],[]⟩) (λr s'=>r=.ok (.ret (.bool true))∧OldK s₁.heap s'.heap∧s'.os=s₁.os∧AllBare s'.gens) s₁:=by
  intro H hO hS bA hA hK;let dat:∀{b:Addr} {o:Obj},s₁.heap.get? b=some o→(∀xs n,o.data≠.seq xs n)→(∀xs,o.data≠.fields xs)→H b=none:=λ{b o} e d1 d2=>by
   cases q:H b with
   |none=>rfl
   |some u=>
    rcases hA b (by rw[q];simp)with z|z
    ·subst z;rw[ha]at e;cases e;show absurd rfl (d1 _ _)
    ·subst z;rw[hP]at e;cases e;show absurd rfl (d2 _)
  let RY:∀{b:Addr} {m:ac},s₁.heap.Ns b m→(IL s₁.heap H).Ns b m:=λ{b m} ⟨o,es,ep,e,d,r⟩=>Ψ3 o es ep ⟨Tv e (dat e (λ_ _ z=>by rw[d]at z;cases z) (λ_ z=>by rw[d]at z;cases z)),d,r⟩;let Xk:K.In (IL s₁.heap H):=λb o e=>Tv (KX b o e) (by
   cases q:H b with
   |none=>rfl
   |some u=>
    rcases hA b (by rw[q];simp)with z|z
    ·subst z;rw[hK (by rw[q];simp)]at e;cases e
    ·subst z;rw[QY]at e;cases e)
  let hM:Mod K mg (IL s₁.heap H):=⟨Xk,RY U6,⟨mb,RY hb,ZC⟩,let⟨mc,h1,h2⟩:=Vd;⟨mc,RY h1,h2⟩⟩;let hB:IG mg (IL s₁.heap H) P:=by
   let⟨bm,ob,b1,b2,b3,b4,b5,b6⟩:=ZA;show Ψ2 bm ob ⟨b1,b2,λz=>?_,λz=>?_,Tv b3 (dat b3 (λ_ _ z=>by rw[b6]at z;cases z) (λ_ z=>by rw[b6]at z;cases z)),b4,b5,b6⟩
   ·let⟨o,es,ep,e,d,_⟩:=U6
    rw[z,e]at b3;cases b3;rw[b6]at d;cases d
   ·rw[z,hP]at b3;cases b3;cases b6
  let e0:xy Pr w K mg (IL s₁.heap H) callerA [] s₁ H:=⟨rfl,hM,λb o e=>PIp e,Nat.le_of_eq (adx _ _),trivial,λb hb=>absurd (show b∈([]:List Addr)from hb) (by simp),bA,.of_eq hg⟩;show O8 ((F _ Xk (RY U6) hB).run callerA [] s₁ H ⟨[.ref a],[]⟩ [.ref a] [.ref a] _ _ hr e0 (QS s₁ (.ref a)) (.cons rfl .nil) (uI H hO hS)) λr s' h=>?_;cases r with
  |error e=>show(Vw H e s' h).elim
  |ok fl=>
   cases fl with
   |next=>show False.elim h
   |brk=>show False.elim h
   |cont=>show False.elim h
   |ret u=>
    let⟨v,H',os,bare,un,QF,r',q⟩:=h;let q':v=.bl true:=q;subst q';obtain rfl:u=Value.bool true:=r';let same:∀b o,b≠P→s₁.heap.get? b=some o→s'.heap.get? b=some o:=λb o M5 e=>by
     cases q:H b with
     |none=>show un.keep b o e q (by intro z;show absurd (show b∈([]:List Addr)from z) (by simp)) (by simp)
     |some u=>
      rcases hO.2 b M5 with z|⟨ob,xs,z⟩
      ·rw[q]at z;cases z
      ·let z2:=un.gi b ob _ z
       let e1:=(bA b _ z).1;let e2:=(QF b _ z2).1;rw[e]at e1;cases e1;show e2
    let⟨more,hm⟩:=un.fQ P #[] hO.1;let tab:s'.heap.get? P=some (W.tabObj (#[]++more)):=QF P _ hm;show⟨rfl,⟨λb o e=>?_,λb o e=>?_⟩,os,bare⟩
    ·by_cases z:b=P
     ·subst z
      rw[hP]at e;cases e;show .inr (.inl ⟨(hC.tab hP).isCodeTable,rfl,#[],more,rfl,tab⟩)
     ·show .inl (same b o z e)
    ·by_cases z:b=P
     ·subst z;show⟨_,tab⟩
     ·show⟨o,same b o z e⟩
 cases hk:K.lookup a with
 |some o=>
  let e:=KX a o hk;rw[ha]at e;cases e;show core (λb=>if b=P then some (.tbl #[])else none) ⟨AI rfl,λb hb=>.inl (AH hb)⟩ (.inr ⟨_,vs.toArray,_,hk,rfl,rfl,rfl,by rw[Bg,Uy];show hl,by simpa using rv⟩) (λb u z=>?_) (λb z=>?_) λz=>absurd (AH aP) z
  ·by_cases hb:b=P
   ·let z':=(AI hb).symm.trans z
    cases z';subst hb;show hP
   ·let z':=(AH hb).symm.trans z
    cases z'
  ·by_cases hb:b=P
   ·show .inr hb
   ·show absurd (AH hb) z
 |none=>
  let at_:∀b,b≠a→b≠P→(if b=P then some (.tbl #[])else if b=a then some (.frz {cls:=.type "list",data:=.seq vs.toArray} (.lst (ns.map V.int)))else none:Option HO)=none:=λb h1 h2=>by rw[AH h2,AH h1]
  let VN:(if a=P then some (.tbl #[])else if a=a then some (.frz {cls:=.type "list",data:=.seq vs.toArray} (.lst (ns.map V.int)))else none:Option HO)=some (.frz {cls:=.type "list",data:=.seq vs.toArray} (.lst (ns.map V.int))):=by rw[AH aP,AI rfl]
  show core (λb=>if b=P then some (.tbl #[])else if b=a then some (.frz {cls:=.type "list",data:=.seq vs.toArray} (.lst (ns.map V.int)))else none) ⟨AI rfl,λb hb=>?_⟩ (.inl (.inr ⟨{cls:=.type "list",data:=.seq vs.toArray},VN⟩)) (λb u z=>?_) (λb z=>?_) λ_=>hk
  ·by_cases h1:b=a
   ·subst h1;show .inr ⟨_,_,VN⟩
   ·show .inl (at_ b h1 hb)
  ·by_cases hb:b=P
   ·subst hb
    let z':=(AI rfl).symm.trans z;cases z';show hP
   ·by_cases h1:b=a
    ·subst h1
     let z':=VN.symm.trans z;cases z';show⟨ha,by rw[Ac];show hl,vs,_,rv,ha⟩
    ·let z':=(at_ b h1 hb).symm.trans z
     cases z'
  ·by_cases hb:b=P
   ·show .inr hb
   ·by_cases h1:b=a
    ·show .inl h1
    ·show absurd (at_ b h1 hb) z
def Dc{l:W.OpenLaw}{q:Program}{loose:List Str}{XP:(ac)→Heap→Prop}{YP:World→Heap→Prop}{d:DefRec}{K:Params→W.Frag}{CX:World→Gu}{sp:World→Dn}
  (hn:l.most=some n) (Ze:n≤sizeLine) (Kt:d.params.defaults=[]) (hr:dw k callerA)
  (hY:∀(w:World) (h:Heap),YP w h→(K w.params).In h) (hT:∀(w:World) (h:Heap),YP w h→h.get? P=some (W.tabObj #[])) (hC:∀w:World,W.codeHdIn (K w.params) c P=true) (QY:∀w:World,(K w.params).lookup P=none)
  (F:∀(w:World) (mg:ac) (fa:Addr) (h:Heap),(K w.params).In h→h.Ns mainGlobals mg→mg d.name=some (.ref fa)→
   ∃fd:FuncData,(∀(s:Shared) (u:Value),BindsTo s fd ⟨[u],[]⟩ [(x,u)])∧
    ∀base:Heap,(K w.params).In base→base.Ns mainGlobals mg→IG mg base P→bB l.prog w (K w.params) mg base (CX w) k fa fd [x] (sp w))
  (uI:∀(w:World) (H:A7) (a:Addr) (ns:List Int),ns.length≤n→R4 P H→eB (K w.params) H a (ns.map V.int)→sp w [.ref a] H (λv _=>v=.bl true) λ_ _ _=>False)
  (Vw:∀(w:World) (H:A7) (s:Shared) (e:Value) (s':Shared),CX w [] H s (λ_ _ _=>False) e s'→False) :
  W.WalkO q loose XP YP l.row.toRowW d [] (λf vs=>PySem.call f vs):=by
 show SR.xu hn Kt λw s₀ s₁ mg mb fa o pm cd doc a vs ns G Y ho hd oX QK MZ hints hlen hg=>?_;let KX:=hY w _ Y;let⟨fd,hb,hF⟩:=F w mg fa _ KX G.T.g QK;show aeO KX G.T.g G.T.b G.T.builtins G.T.nolimit hg G.T.bmain (W.codeHd_of_K KX (hC w)) (hT w _ Y) (QY w) MZ hints (DN hlen Ze) hr hF hb (λH hO hS=>uI w H a ns hlen hO hS) λH e s'=>Vw w H s₁ e s'
end L2
namespace Sr
open PySem PyProof.Rows
variable {h h':Heap}{v:Value}{i:Str}{Q:xz}{vs:List Value}{prog: Program}{w: World}{A: Around}{E: Value→Shared→Prop}{s: Shared}
abbrev nB:KeyOrd where
 α:=Str
 blt a b:=decide (a.cps.toList<b.cps.toList)
 irrefl a:=by simpa using List.lt_irrefl _
 trans a b c h h':=by simp only[S1]at *;show List.lt_trans h h'
 negTrans a b c h:=by
  simp only[S1]at *
  by_cases k:a.cps.toList<b.cps.toList
  ·show .inl k
  ·show .inr (List.lt_of_le_of_lt (acH.mp k) h)
 total a b h h':=by
  simp only[Y0]at *
  let e:a.cps.toList=b.cps.toList:=List.le_antisymm (acH.mp h') (acH.mp h);obtain⟨⟨x⟩⟩:=a;obtain⟨⟨y⟩⟩:=b;cases e;rfl
abbrev tT(h:Heap)(v:Value)(i:Str):Prop:=∃a o t rest n,v=.ref a∧h.get? a=some o∧o.cls=.type "tuple" ∧ o.data=.seq (Value.str i t::rest).toArray n
abbrev iA(h:Heap)(v:Value):Str:=match v with
 |.ref a=>match h.get? a with
  |some o=>match o.data with
   |.seq xs _=>match(xs[0]? : Option Value)with
    |some (Value.str i _)=>i
    |_ => ""
   |_ => ""
  |none => ""
 |_ => ""
def tT.fst(x:tT h v i):iA h v=i:=by
 let⟨a,o,t,rest,n,rfl,g,c,d⟩:=x;unfold iA;simp[g,d]
def tT.keep(x:tT h v i)(k:∀b o,h.get? b=some o→v=.ref b→h'.get? b=some o):tT h' v i:=by
 let⟨a,o,t,rest,n,rfl,g,c,d⟩:=x;show Ψ5 a o t rest n ⟨rfl,k a o g rfl,c,d⟩
def eV(f:Value→Str):∀vs:List Value,(vs.zip vs).map (λp=>f p.1)=vs.map f
 |[]=>rfl
 |v::r=>by rw[Lz,Ar,Ar,eV f r]
section
variable {M: Model}
def aey{Q:Option Value→Shared→Prop}(h:tT s.heap v i)(q:∀t,Q (some (.str i t)) s):wpAny M A (firstOfTuple' v) Q E s:=by
 let⟨a,o,t,rest,n,rfl,g,c,d⟩:=h;show wpAny M A (typeOf (.ref a) >>= _) Q E s
 show A5 (Iy (T := "tuple") ⟨o,g,c⟩ ?_);rw[AH (by decide)];show A5 (LL g d ?_);show AG ?_;let e:(Value.str i t::rest).toArray[0]?=some (Value.str i t):=by simp
 first
  |show q t
  |(rw[e];show q t)
def uz{Q:SortKind→Shared→Prop}(h:∀v∈vs,∃i,tT s.heap v i)(ne:0<vs.length)(q:Q (tuples' true) s):wpAny M A (keyKind' vs.toArray) Q E s:=by
 rw[keyKind'_eq];show A5 (gj (λr=>∃i t,r=some (Value.str i t)) (λv hv Q' hQ=>?_) λrs hl hr=>?_)
 ·let⟨i,hp⟩:=h v hv
  show aey hp λt=>hQ _ ⟨i,t,rfl⟩
 let ha:(rs.toArray.all λx=>x.isSome)=true:=by
  rw[List.all_toArray,aaE];intro x hx;let⟨z,t,rfl⟩:=hr x hx;rfl
 rw[AI ha];show A5 (Fz ?_);rw[oneTypeOnly'_eq];let hf:Array.filterMap id rs.toArray=(rs.filterMap id).toArray:=by simp
 rw[hf];let hm:∀v∈rs.filterMap id,∃z t,v=Value.str z t:=λv hv=>by
  let⟨x,hx,e⟩:=abh.mp hv;let⟨z,t,rfl⟩:=hr x hx;cases e;show Ψ2 z t rfl
 let hlen:(rs.filterMap id).length=rs.length:=by
  clear hf hm ha hl;induction rs with
  |nil=>rfl
  |cons x r ih=>
   let⟨z,t,rfl⟩:=hr x (by simp);show((Value.str z t)::r.filterMap id).length=_
   rw[BE,BE,ih λy hy=>hr y (by simp[hy])]
 show A5 (A5 (gj (λr=>r=Value.type "str") (λv hv Q' hQ=>?_) λts Si ht=>?_))
 ·let⟨z,t,rfl⟩:=hm v hv
  show Iy (T := "str") rfl (hQ _ rfl)
 cases ts with
 |nil=>rw[hlen,hl]at Si;simp at Si;lia
 |cons x r=>
  let hx:=ht x (by simp);subst hx;let Fw:((Value.type "str" :: r).toArray.all λy=>y==Value.type "str")=true:=by
   rw[List.all_toArray,aaE];intro y hy;rw[ht y hy];decide
  show wpAny M A (pure (if((Value.type "str" :: r).toArray.all λy=>y==Value.type "str")=true then some (Value.type "str")else none)) _ E s
  rw[AI Fw];show AG (AG q)
def aa1{u:Value}{j:Str}{Q:Bool→Shared→Prop}(hu:tT s.heap u i)(hv:tT s.heap v j)(ne:i≠j)(q:Q (decide (i.cps.toList<j.cps.toList)) s):wpAny (model prog w) A (keyLt' (tuples' true) u v) Q E s:=by
 let⟨a,o1,t1,r1,n1,rfl,g1,c1,d1⟩:=hu;let⟨b,o2,t2,r2,n2,rfl,g2,c2,d2⟩:=hv;show wpAny (model prog w) A (Builtin.List.listItems (.ref a) >>= _) Q E s
 show A5 (LL g1 d1 ?_);show A5 (LL g2 d2 ?_);show A5 ?_;let e0:((Value.str i t1::r1).toArray.toList.zip (Value.str j t2::r2).toArray.toList).zipIdx=((Value.str i t1,Value.str j t2),0)::(r1.zip r2).zipIdx 1:=rfl;rw[e0,JK];show A5 (A5 (L2.FG (y:=.str i) (x:=.str j) ⟨t1,rfl⟩ ⟨t2,rfl⟩ rfl rfl prog w _ _ ?_));let e1:L2.uM (.str i) (.str j)=false:=by simp[L2.uM,ne]
 rw[e1,AI (by decide)];show A5 (oneLt_str ?_);show AG ?_;dsimp only;show AG (AG q)
def rj{a:Addr}{n:Nat}{P:Fin→Shared→Prop}(ho:s.heap.get? a=some (seqObj "list" vs.toArray n))(hI:∀v∈vs,∃i,tT s.heap v i∧v≠.ref a)(nd:(vs.map (iA s.heap)).Nodup)(lZ:vs.length<64)
  (h:∀out:Array Value,out.toList.Perm vs→(out.toList.map (iA s.heap)).Pairwise (λu v=>¬v.cps.toList<u.cps.toList)→P (.done (.ret .none)) {s with heap:=sortedHeap s.heap a vs out}):wpAny (model prog w) A (Builtin.«list.sort» {pos:=[.ref a]}) P E s:=by
 let hl:∀k:Nat,k<64→k≤sizeLine:=λk hk=>by rw[CP];lia
 rw[list_sort_plain];let ha:=Aq ho;show A5 (LL ho rfl ?_);show A5 (JR ho rfl ?_ (by simpa using hl _ lZ) (by simp));obtain⟨e1,W7⟩:∃e,(s.heap.update a (Obj.mapSeq λx=>#[])).get? a=some (seqObj "list" #[] e):=⟨_,Rr ho λx=>#[]⟩;show A5 (seqEpoch_at W7 rfl ?_);show A5 (OF ?_ (by simpa using hl _ lZ));show A5 (OX ?_);show Dx ?_;let Se:(((s.heap.update a (Obj.mapSeq λx=>#[])).push (seqObj "tuple" vs.toArray 0)).push (seqObj "list" #[] 0)).get? a=some (seqObj "list" #[] e1):=by
  rw[OB _ _ _ (by rw[size_push',Li];show Bp (Ia ha)),OB _ _ _ (by rw[Li];show Bp ha)];show W7
 let keep:∀b o,b≠a→s.heap.get? b=some o→(((s.heap.update a (Obj.mapSeq λx=>#[])).push (seqObj "tuple" vs.toArray 0)).push (seqObj "list" #[] 0)).get? b=some o:=λb o nb hb=>by
  let QR:=Aq hb;rw[OB _ _ _ (by rw[size_push',Li];show Bp (Ia QR)),OB _ _ _ (by rw[Li];show Bp QR)];rw[Heap.get?_update_ne _ _ _ _ nb];show hb
 dsimp only;let sz:∀out:Array Value,out.toList.Perm vs→out.size≤sizeLine+1:=λout hp=>by
  have:=hp.length_eq;rw[ED]at this;rw[this];show Qb (hl _ lZ)
 by_cases h2:vs.length<2
 ·let Q2:vs.toArray.size<2:=by simpa using h2
  rw[AI Q2,AI Q2];show A5 (AG ?_);rw[StateT.run_pure];show A5 (AG ?_);dsimp only;show A5 (seqEpoch_at Se rfl ?_);let hp:(((arrOf (SortSt.mk' general' (vs.toArray.zip vs.toArray) #[] 7 none)).map λx=>x.2)).toList.Perm vs:=qy (OQ _);show A5 (JR Se rfl ?_ (by simp) (sz _ hp));rw[AH (by simp)];show AG (h _ hp ?_);let hle:=hp.length_eq;generalize (((arrOf (SortSt.mk' general' (vs.toArray.zip vs.toArray) #[] 7 none)).map λx=>x.2)).toList=l at hle;match l,hle with
  |[],_=>show .nil
  |[x],_=>show List.pairwise_singleton _ _
  |x::y::r,hle=>rw[BE,BE]at hle;lia
 ·let Q2:¬vs.toArray.size<2:=by simpa using h2
  rw[AH Q2];let mem:∀x∈(pairsOf vs).toList,x.1∈vs∧x.2=x.1:=λx hx=>by
   unfold pairsOf at hx;rw[af]at hx;obtain⟨p,q⟩:=x;show⟨(Hy hx).1,?_⟩;have:∀(l:List Value),(p,q)∈l.zip l→q=p:=λl=>by
    induction l with
    |nil=>intro z;simp at z
    |cons y r ih=>
     intro z;rw[Lz]at z;rcases aah.mp z with z|z
     ·cases z;rfl
     ·show ih z
   show this _ hx
  show A5 (uz (λv hv=>?_) (by lia) ?_)
  ·let⟨i,hi,nv⟩:=hI v hv
   show⟨i,hi.keep λb o g e=>keep b o (λz=>nv (by rw[e,z])) g⟩
  rw[AH Q2];let B:SB (pairsOf vs) (tuples' true) (SortSt.mk' (tuples' true) (vs.toArray.zip vs.toArray) #[] 7 none):=⟨OQ _,rfl,rfl,rfl⟩;let psz:(pairsOf vs).size=vs.length:=by unfold pairsOf;simp
  let L:∀A,Nv (model prog w) A {s with heap:=((s.heap.update a (Obj.mapSeq λx=>#[])).push (seqObj "tuple" vs.toArray 0)).push (seqObj "list" #[] 0)} (tuples' true) (pairsOf vs) nB (λp=>iA s.heap p.1):=λA x hx y hy Uk Q E q=>by
   let⟨i,hi,ni⟩:=hI x.1 (mem x hx).1;let⟨j,hj,nj⟩:=hI y.1 (mem y hy).1;dsimp only at Uk q;rw[hi.fst,hj.fst]at Uk q;show aa1 (hi.keep λb o g e=>keep b o (λz=>ni (by rw[e,z])) g) (hj.keep λb o g e=>keep b o (λz=>nj (by rw[e,z])) g) Uk q
  let D:K5 (O:=nB) (λp:Keyed=>iA s.heap p.1) (pairsOf vs):=by
   unfold K5;have:(pairsOf vs).toList.map (λp:Keyed=>iA s.heap p.1)=vs.map (iA s.heap):=by
    unfold pairsOf;rw[af];show eV (iA s.heap) vs
   show Eq.mpr (Ca List.Nodup this) nd
  show A5 (DC (aa5 (d0:=("" : Str)) (Q:=λ_ dE=>(arrOf dE).Perm (pairsOf vs)∧failedOf dE=none∧cz (O:=nB) (λp:Keyed=>iA s.heap p.1) ("" : Str) (arrOf dE) (pairsOf vs).size) (L A) D B (by lia) (by lia) λdE hp hf so=>⟨hp,hf,so⟩) (λr s' hr=>?_) (λ_ _ z=>z));let⟨rfl,hp,hf,so⟩:=hr;obtain⟨u,dE⟩:=r;dsimp only at hp hf so ⊢;show A5 (seqEpoch_at Se rfl ?_);let op:=qy hp;show A5 (JR Se rfl ?_ (by simp) (sz _ op));rw[hf];dsimp only;rw[AH (by simp)];show AG (h _ op ?_);rw[ac9];intro i j hi hj CA;rw[Ac,ED,TM]at hi hj;let hz:=hp.size_eq;have:=so i j (B7 CA) (by lia);unfold Le at this;let k1:=Lr (O:=nB) (λp:Keyed=>iA s.heap p.1) ("" : Str) (Td hi);let k2:=Lr (O:=nB) (λp:Keyed=>iA s.heap p.1) ("" : Str) (Td hj);let this:=(congr (Ca nB.blt k2.symm) k1.symm).trans this;let m1:=mem (arrOf dE)[i] ((abw.mp hp).mem_iff.mp (by simp));let m2:=mem (arrOf dE)[j] ((abw.mp hp).mem_iff.mp (by simp));simp only[List.getElem_map,Array.getElem_toList,Array.getElem_map];rw[m1.2,m2.2];have:decide ((iA s.heap (arrOf dE)[j].1).cps.toList<(iA s.heap (arrOf dE)[i].1).cps.toList)=false:=this;show Fn this
end
def Nu{h h':Heap}:∀{vs:List Value},(∀v∈vs,∃i,tT h v i∧tT h' v i)→vs.map (iA h)=vs.map (iA h')
 |[],_=>rfl
 |v::r,H=>by
  let⟨i,a,b⟩:=H v (by simp);rw[Ar,Ar,a.fst,b.fst,Nu λv hv=>H v (by simp[hv])]
section
def ac5(lZ:vs.length<64)(hI:∀v∈vs,∃i,tT s.heap v i)(nd:(vs.map (iA s.heap)).Nodup)
  (h:∀(out:Array Value) (h':Heap),out.toList.Perm vs→(out.toList.map (iA s.heap)).Pairwise (λu v=>¬v.cps.toList<u.cps.toList)→(∀b o,s.heap.get? b=some o→h'.get? b=some o)→(∃e,h'.get? s.heap.objs.size=some (seqObj "list" out e))→Q (.ref s.heap.objs.size) {s with heap:=h'}) :
  wpAny (model prog w) A (do
   let l ←newList vs
   let _ ←holding [l] (call (.builtin "list.sort") [l] [])
   ret l) (λfin s'=>∃v,fin=Fin.done (Flow.ret v)∧Q v s') E s:=by
 let hz:vs.length≤sizeLine:=by rw[CP];lia
 show A5 (OX ?_ hz);let QH:(s.heap.push (seqObj "list" vs.toArray 0)).get? s.heap.objs.size=some (seqObj "list" vs.toArray 0):=CM _ rfl;let up:∀v∈vs,∃i,tT s.heap v i∧tT (s.heap.push (seqObj "list" vs.toArray 0)) v i:=λv hv=>by
  let⟨i,x⟩:=hI v hv;show⟨i,x,x.keep λb o g _=>Al _ g⟩
 show A5 (Dx (FZ slot_list_sort ⟨_,QH,rfl⟩ entry_list_sort (rj QH (λv hv=>?_) ?_ lZ λout hp hs=>⟨.none,rfl,AG ⟨_,rfl,?_⟩⟩) (args_list_sort _)))
 ·let⟨i,x,y⟩:=up v hv
  show⟨i,y,λe=>?_⟩;let⟨a,o,t,r,n,e2,g,_⟩:=x;rw[e2]at e;cases e;show FH _ (Aq g)
 ·rw[←Nu up];show nd
 ·rw[←Nu (vs:=out.toList) λv hv=>up v (hp.mem_iff.mp hv)]at hs
  let⟨e,he⟩:=sortedHeap_at (vs:=vs) (out:=out) QH;show h out _ hp hs (λb o hb=>?_) ⟨e,he⟩;let hl:=Aq hb;rw[sortedHeap_old (Bp hl) (by rw[size_push'];show Ia hl)];show Al _ hb
def DO{l:Addr}(hl:s.heap.IsList l vs.toArray)(lZ:vs.length<64)(hI:∀v∈vs,∃i,tT s.heap v i)(nd:(vs.map (iA s.heap)).Nodup)
  (h:∀(out:Array Value) (a:Addr) (h':Heap),out.toList.Perm vs→(out.toList.map (iA s.heap)).Pairwise (λu v=>¬v.cps.toList<u.cps.toList)→s.heap.objs.size≤a→(∀b o,s.heap.get? b=some o→h'.get? b=some o)→(∃e,h'.get? a=some (seqObj "list" out e))→Q (.ref a) {s with heap:=h'}) :
  wpAny (model prog w) A (call (.builtin "sorted") [.ref l]) Q E s:=by
 let hz:vs.length≤sizeLine:=by rw[CP];lia
 show Calls.call_function_entry kind_sorted plain_sorted entry_sorted (args_sorted1 _) ?_;show wpAny _ _ (do
  checkCount "sorted" 1 1 1
  let __do_lift ←collect (.ref l)
  let l ←newList __do_lift
  let _ ←holding [l] (call (.builtin "list.sort") [l] [])
  ret l) _ _ _
 show A5 (AG ?_);show A5 (collect_list hl ?_ hz);let keep:∀b o,s.heap.get? b=some o→((s.heap.push (seqObj "list" #[] 0)).update s.heap.objs.size (Obj.mapSeq λx=>x++vs.toArray)).get? b=some o:=λb o hb=>by
  let QR:=Aq hb;rw[Heap.get?_update_ne _ _ _ _ (Bp QR),OB _ _ _ (Bp QR)];show hb
 let hsz:((s.heap.push (seqObj "list" #[] 0)).update s.heap.objs.size (Obj.mapSeq λx=>x++vs.toArray)).objs.size=s.heap.objs.size+1:=by rw[Li,size_push']
 let up:∀v∈vs,∃i,tT s.heap v i∧tT ((s.heap.push (seqObj "list" #[] 0)).update s.heap.objs.size (Obj.mapSeq λx=>x++vs.toArray)) v i:=λv hv=>by
  let⟨i,x⟩:=hI v hv;show⟨i,x,x.keep λb o g _=>keep b o g⟩
 show ac5 (s:={s with heap:=(s.heap.push (seqObj "list" #[] 0)).update s.heap.objs.size (Obj.mapSeq λx=>x++vs.toArray)}) lZ (λv hv=>let⟨i,_,y⟩:=up v hv;⟨i,y⟩) (by rw[←Nu up];show nd) λout h' hp hs k he=>?_;rw[←Nu (vs:=out.toList) λv hv=>up v (hp.mem_iff.mp hv)]at hs;show h out _ h' hp hs (by dsimp only;rw[hsz];show Hf _) (λb o hb=>k b o (keep b o hb)) he
end
end Sr
namespace L2
open PySem PyProof.Rows
section
variable {X: Cx}{x0: List (Addr×Obj)}{σ: St}{H: A7}{s: Shared}
def adu(I:Inv X x0 σ H s){a:Addr}{i:Str}{r:List V}(e:H a=some (.tup (.str i::r))):Sr.tT s.heap (.ref a) i:=by
 let⟨is2,r2,t2,_⟩:=I.tuple (dD.of (K:=X.K) e);cases r2 with
 |cons ra r3=>
  let⟨t,rfl⟩:=ra;let⟨o,g,c,⟨n,d⟩⟩:=t2;show Ψ5 a o t _ n ⟨rfl,g,c,d⟩
def av(I:Inv X x0 σ H s):∀{ys:List V} {its:List Value},Vals ys its→(∀y∈ys,∃a i r,y=.ref a∧H a=some (.tup (.str i::r)))→its.map (Sr.iA s.heap)=ys.map (GH H)∧∀v∈its,∃i,Sr.tT s.heap v i
 |_,_,.nil,_=>⟨rfl,λ_ h=>(nomatch h)⟩
 |_,_,.cons (a:=y) r h',hy=>by
  let⟨a,i,rr,rfl,e⟩:=hy y (by simp);cases r;let⟨k1,k2⟩:=av I h' λy hm=>hy y (by simp[hm]);let x:=adu I e;show⟨?_,λv hv=>?_⟩
  ·rw[Ar,Ar,k1,x.fst,Lh e]
  ·rcases aah.mp hv with rfl|hv
   ·show⟨i,x⟩
   ·show k2 v hv
def aam:Eb X (.builtin "sorted") (λxs H Q=>∃p ys,xs=[.ref p]∧H p=some (.lst ys)∧ys.length<64∧(∀y∈ys,∃a i r,y=.ref a∧H a=some (.tup (.str i::r)))∧(ys.map (GH H)).Nodup∧∀zs l,zs.Perm ys→(zs.map (GH H)).Pairwise (λu v=>¬v.cps.toList<u.cps.toList)→H l=none→Q (.ref l) (upd H l (.lst zs))):=by
 intro x0 s σ H xs us Q I r h;let⟨p,ys,rfl,hp,lZ,hy,hd,q⟩:=h;let⟨u,rfl,rx⟩:=vals1 r;cases rx;let⟨its,rv,pl,hz⟩:=I.list (eB.of (K:=X.K) hp);let hl:=rv.length;let⟨k1,k2⟩:=av I rv hy;show Sr.DO pl.isList (by lia) k2 (by rw[k1];show hd) λout a h' QE hs ge keep he=>?_;obtain⟨e,he⟩:=he;let⟨zs,pz,Qy⟩:=lF QE rv;let⟨k3,_⟩:=av I Qy λy hm=>hy y (pz.mem_iff.mp hm);rw[k3]at hs;let hf:H a=none:=I.bA.fresh ge;show Ψ2 (.ref a) _ ⟨I.laid (t':=s.toks) keep ge (show bT X.prog X.w _ _ _ (.lst zs)from⟨by rw[pz.length_eq];show hz,out.toList,e,Qy,by rw[he]⟩),rfl,q zs a pz hs hf⟩
end
end L2
namespace Sto
abbrev top:=Int×Int
abbrev atT:=Int×Int×Int
end Sto
namespace L3
open PySem PySem.Spec L2
open PyProof.Rows hiding St
variable {Γ Γ1 Γ':AL}{a p:Addr}{o o3 o2:O}{b neg:Bool}{u:Value}{K:W.Frag}{vs:List V}{xs ts us:List T}{i k:Nat}{v:V}{x:T}{H H':A7}{Y: EM}{E: St→BF}{Z:Bn→AL→Prop}{Q:Option Int→AL→Prop}{e tg c:Expr}{t ta:D0}{t' t0:Cp}{z qual:Str}{pos p2 np dQ: Pos}{n Ty:String}{r:T→AL→Cr→Prop}{tb:Be}{rest:List Expr}{tc:CY}{es: List Expr}{g:ES}{gs:KL}{to ti te tl:AX}{pos':Pos}{body:List Stmt}{wi:I3}{τ: Bn}{own ps:List Str}{cap:List (Nat×Str)}{N: Bn→AL→Prop}{f:Value→Value→Sem Value}{C:Int→Int→Prop}{g3:Int→Int→T}{th:JG}{Tn: String}{l:List Addr}{st:Stmt}{fd:FuncData}{sp:BQ}{A:List T→AL→Prop}{j:Int}{I:List T→(AL→Prop)→AL→Prop}{X: Cx}{D: FC}
inductive T where
 |non|bl (b:Bool)|int (i:Int)|str (z:Str)|tup (ts:List T)|ref (a:Addr)|ty (n:String)
 /-- a list Ot Uq changes (Bh LS) -/
 |scr (K:W.Frag) (a:Addr) (ts:List T)
abbrev JD(K:W.Frag)(H:A7)(a:Addr)(vs:List V):Prop:=(∃o,H a=some (.frz o (.lst vs))) ∨
 ∃(o:Obj) (its:Array Value) (n:Nat),K.lookup a=some o∧o.cls=.type "list" ∧ o.dict=none∧o.data=.seq its n∧its.size≤sizeLine∧Vals vs its.toList
inductive O where
 |lst (ts:List T)
 |ins (C dx:Addr) (fs:List (Str×T))
 |own (x:Addr)
 |dK (aQ:List (Ap×T))
 |ext (φ:Heap→Prop)
 /-- Bh table of a def Ot makes a UA -/
 |lam (q:Str) (pos:Pos)
abbrev AL:=Addr→Option O
abbrev up(Γ:AL)(a:Addr)(o:O):AL:=λb=>if b=a then some o else Γ b
def AE:up Γ a o a=some o:=by unfold up;rw[AI rfl]
def B8{b:Addr}(h:b≠a):up Γ a o b=Γ b:=by unfold up;rw[AH h]
def T7{u:O}:up (up Γ a o) a u=up Γ a u:=by
 funext b;unfold up;split<;>rfl
def rY{b:Addr}{u:O}(h:Γ a=some o)(h':Γ b=some u)(d:o≠u):a≠b:=by
 intro e;subst e;rw[h]at h';show d (EC h')
def CL{b:Addr}(h:Γ a=some o)(h':Γ b=none):a≠b:=by
 intro e;subst e;rw[h]at h';cases h'
mutual
def R(H:A7):V→T→Prop
 |v,.non=>v=.non
 |v,.bl b=>v=.bl b
 |v,.int i=>v=.int i
 |v,.str z=>v=.str z
 |v,.ref a=>v=.ref a
 |v,.ty n=>v=.ty n
 |v,.tup ts=>∃a vs,v=.ref a∧H a=some (.tup vs)∧Rs H vs ts
 |v,.scr K a ts=>v=.ref a∧∃vs,JD K H a vs∧Rs H vs ts
def Rs(H:A7):List V→List T→Prop
 |vs,[]=>vs=[]
 |vs,t::r=>∃v ws,vs=v::ws∧R H v t∧Rs H ws r
end
abbrev Tq(H H':A7):Prop:=(∀a vs,H a=some (.tup vs)→H' a=some (.tup vs))∧∀a o u,H a=some (.frz o u)→H' a=some (.frz o u)
section
variable {H H': A7}
def Tq.refl:Tq H H:=⟨λ_ _ h=>h,λ_ _ _ h=>h⟩
def Tq.trans{H1:A7}(a:Tq H H1)(b:Tq H1 H'):Tq H H':=⟨λx vs h=>b.1 x vs (a.1 x vs h),λx o u h=>b.2 x o u (a.2 x o u h)⟩
def JD.mono(t:Tq H H')(h:JD K H a vs):JD K H' a vs:=by
 rcases h with⟨o,h⟩|h
 ·show .inl ⟨o,t.2 _ _ _ h⟩
 ·show .inr h
mutual
def R.mono(t:Tq H H'):∀{x:T} {v:V},R H v x→R H' v x
 |.non,v,h=>by unfold R at h ⊢;show h
 |.bl _,v,h=>by unfold R at h ⊢;show h
 |.int _,v,h=>by unfold R at h ⊢;show h
 |.str _,v,h=>by unfold R at h ⊢;show h
 |.ref _,v,h=>by unfold R at h ⊢;show h
 |.ty _,v,h=>by unfold R at h ⊢;show h
 |.tup ts,v,h=>by
  unfold R at h ⊢;let⟨a,vs,e,s,q⟩:=h;show Ψ2 a vs ⟨e,t.1 a vs s,Rs.mono t q⟩
 |.scr K a ts,v,h=>by
  unfold R at h ⊢;let⟨e,⟨vs,s,q⟩⟩:=h;show⟨e,vs,s.mono t,Rs.mono t q⟩
def Rs.mono(t:Tq H H'):∀{xs:List T} {vs:List V},Rs H vs xs→Rs H' vs xs
 |[],vs,h=>by unfold Rs at h ⊢;show h
 |x::r,vs,h=>by
  unfold Rs at h ⊢;let⟨v,ws,e,p,q⟩:=h;show Ψ2 v ws ⟨e,R.mono t p,Rs.mono t q⟩
end
def Rs.length:∀{xs:List T} {vs:List V},Rs H vs xs→vs.length=xs.length
 |[],vs,h=>by unfold Rs at h;subst h;rfl
 |x::r,vs,h=>by
  unfold Rs at h;let⟨v,ws,e,_,q⟩:=h;rw[e,BE,BE,Rs.length q]
def Rs.get:∀{xs:List T} {vs:List V} {i:Nat} {x:T},Rs H vs xs→xs[i]?=some x→∃v,vs[i]?=some v∧R H v x
 |[],vs,i,x,h,e=>by simp at e
 |y::r,vs,i,x,h,e=>by
  unfold Rs at h;let⟨v,ws,e1,p,q⟩:=h;subst e1;cases i with
  |zero=>cases e;show⟨v,rfl,p⟩
  |succ i=>show Rs.get (i:=i) q e
def Rs.Jb(h:Rs H vs xs)(e:vs[i]?=some v):∃x,xs[i]?=some x∧R H v x:=by
 let hl:=h.length;obtain⟨hi,_⟩:=aao.mp e;let Na:i<xs.length:=by lia
 let⟨v',e',r⟩:=h.get (i:=i) (x:=xs[i]) (by simp[Na]);rw[e]at e';cases e';show⟨xs[i],by simp[Na],r⟩
def Rs.app:∀{xs ys:List T} {vs ws:List V},Rs H vs xs→Rs H ws ys→Rs H (vs++ws) (xs++ys)
 |[],ys,vs,ws,h,h'=>by unfold Rs at h;subst h;show h'
 |x::r,ys,vs,ws,h,h'=>by
  unfold Rs at h;let⟨v,us,e,p,q⟩:=h;subst e;show Rs H (v::(us++ws)) (x::(r++ys))
  unfold Rs;show Ψ2 v _ ⟨rfl,p,Rs.app q h'⟩
def D3:Rs H [] []:=by unfold Rs;rfl
def CS(a:R H v x)(b:Rs H vs xs):Rs H (v::vs) (x::xs):=by
 unfold Rs;show Ψ2 v vs ⟨rfl,a,b⟩
def DG(h:Rs H vs (x::xs)):∃v ws,vs=v::ws∧R H v x∧Rs H ws xs:=by unfold Rs at h;show h
def DI(h:Rs H vs []):vs=[]:=by unfold Rs at h;show h
def Rs.drop:∀{xs:List T} {vs:List V} (n:Nat),Rs H vs xs→Rs H (vs.drop n) (xs.drop n)
 |xs,vs,0,h=>h
 |[],vs,n+1,h=>by rw[DI h];show D3
 |x::r,vs,n+1,h=>by
  let⟨v,ws,e,_,q⟩:=DG h;subst e;show Rs.drop n q
def Rs.take:∀{xs:List T} {vs:List V} (n:Nat),Rs H vs xs→Rs H (vs.take n) (xs.take n)
 |xs,vs,0,h=>by rw[bX,bX];show D3
 |[],vs,n+1,h=>by rw[DI h];show D3
 |x::r,vs,n+1,h=>by
  let⟨v,ws,e,p,q⟩:=DG h;subst e;show CS p (Rs.take n q)
def Rs.reverse:∀{xs:List T} {vs:List V},Rs H vs xs→Rs H vs.reverse xs.reverse
 |[],vs,h=>by rw[DI h];show D3
 |x::r,vs,h=>by
  let⟨v,ws,e,p,q⟩:=DG h;subst e;rw[Qw,Qw];show Rs.app (Rs.reverse q) (CS p D3)
def Rs.set:∀{xs:List T} {vs:List V} {v:V} {x:T} (n:Nat),Rs H vs xs→R H v x→Rs H (vs.set n v) (xs.set n x)
 |[],vs,v,x,n,h,p=>by rw[DI h];show D3
 |y::r,vs,v,x,0,h,p=>by
  let⟨u,ws,e,_,q⟩:=DG h;subst e;show CS p q
 |y::r,vs,v,x,n+1,h,p=>by
  let⟨u,ws,e,p',q⟩:=DG h;subst e;show CS p' (Rs.set n q p)
end
abbrev Fs(H:A7):List (Str×V)→List (Str×T)→Prop:=Paired λ(p:Str×V) (q:Str×T)=>p.1=q.1∧R H p.2 q.2
abbrev Ks(H:A7):List (Ap×V)→List (Ap×T)→Prop:=Paired λ(p:Ap×V) (q:Ap×T)=>p.1=q.1∧R H p.2 q.2
def b7{α β:Type}{P Q:α→β→Prop}(h:∀a b,P a b→Q a b):∀{xs:List α} {ys:List β},Paired P xs ys→Paired Q xs ys
 |_,_,.nil=>.nil
 |_,_,.cons a b=>.cons (h _ _ a) (b7 h b)
def Fs.mono(t:Tq H H'){a:List (Str×V)}{b:List (Str×T)}(h:Fs H a b):Fs H' a b:=b7 (λ_ _ q=>⟨q.1,q.2.mono t⟩) h
def Ks.mono(t:Tq H H'){a:List (Ap×V)}{b:List (Ap×T)}(h:Ks H a b):Ks H' a b:=b7 (λ_ _ q=>⟨q.1,q.2.mono t⟩) h
abbrev Ho(H:A7)(a:Addr):O→Prop
 |.lst ts=>∃vs,H a=some (.lst vs)∧Rs H vs ts
 |.ins C dx fs=>∃gs,H a=some (.ins C dx gs)∧Fs H gs fs
 |.own x=>H a=some (.own x)
 |.dK aQ=>∃us,H a=some (.dK us)∧Ks H us aQ
 |.ext φ=>H a=some (.ext φ)
 |.lam q pos=>L4 H a q pos
abbrev HR(H:A7)(Γ:AL):Prop:=∀a o,Γ a=some o→Ho H a o
structure fN(H:A7)(Γ:AL)(H':A7)(Γ':AL):Prop where
 tq:Tq H H'
 GD:∀a,H a≠none→H' a≠none
 new:∀a,H a≠none→Γ a=none→Γ' a=none
 CB:∀a o,H a=some o→Γ a=none→H' a=some o
section
variable {H H' H1: A7}{Γ Γ' Γ1: AL}
def fN.refl:fN H Γ H Γ:=⟨.refl,λ_ h=>h,λ_ _ h=>h,λ_ _ h _=>h⟩
def fN.trans(a:fN H Γ H1 Γ1)(b:fN H1 Γ1 H' Γ'):fN H Γ H' Γ':=
 ⟨a.tq.trans b.tq,λx h=>b.GD x (a.GD x h),λx h g=>b.new x (a.GD x h) (a.new x h g),λx o h g=>b.CB x o (a.CB x o h g) (a.new x (by rw[h];exactλz=>(nomatch z)) g)⟩
def Ho.mono(t:Tq H H')(e:∀u,H a=some u→H' a=some u)(h:Ho H a o):Ho H' a o:=by
 cases o with
 |lst ts=>obtain⟨vs,h,r⟩:=h;show⟨vs,e _ h,r.mono t⟩
 |ins C dx fs=>obtain⟨vs,h,r⟩:=h;show⟨vs,e _ h,r.mono t⟩
 |own x=>show e _ h
 |dK aQ=>obtain⟨vs,h,r⟩:=h;show⟨vs,e _ h,r.mono t⟩
 |ext φ=>show e _ h
 |lam q pos=>
  rcases h with h|⟨c',oc,vs,t',u,h1,h2,h3⟩
  ·show .inl (e _ h)
  ·show .inr ⟨c',oc,vs,t',u,e _ h1,t.2 _ _ _ h2,h3⟩
def Ho.some(h:Ho H a o):∃u,H a=some u∧(∀vs:List V,u≠.tup vs)∧∀b w,u≠.frz b w:=by
 cases o with
 |lst ts=>obtain⟨vs,h,r⟩:=h;show⟨_,h,⟨λ_ z=>(nomatch z),λ_ _ z=>(nomatch z)⟩⟩
 |ins C dx fs=>obtain⟨vs,h,r⟩:=h;show⟨_,h,⟨λ_ z=>(nomatch z),λ_ _ z=>(nomatch z)⟩⟩
 |own x=>show⟨_,h,⟨λ_ z=>(nomatch z),λ_ _ z=>(nomatch z)⟩⟩
 |dK aQ=>obtain⟨vs,h,r⟩:=h;show⟨_,h,⟨λ_ z=>(nomatch z),λ_ _ z=>(nomatch z)⟩⟩
 |ext φ=>show⟨_,h,⟨λ_ z=>(nomatch z),λ_ _ z=>(nomatch z)⟩⟩
 |lam q pos=>
  rcases h with h|⟨c',oc,vs,t',u,h,_⟩
  ·show⟨_,h,⟨λ_ z=>(nomatch z),λ_ _ z=>(nomatch z)⟩⟩
  ·show⟨_,h,⟨λ_ z=>(nomatch z),λ_ _ z=>(nomatch z)⟩⟩
def HR.free(h:HR H Γ)(n:H a=none):Γ a=none:=by
 cases e:Γ a with
 |none=>rfl
 |some o=>
  let⟨u,hu,_⟩:=(h a o e).some;rw[n]at hu;cases hu
def DA(k:∀b o,H b=some o→H' b=some o):Tq H H':=⟨λa vs h=>k _ _ h,λa o u h=>k _ _ h⟩
def fN.keep(k:∀b o,H b=some o→H' b=some o):fN H Γ H' Γ:=
 ⟨DA k,λa h z=>by
  cases e:H a with
  |none=>show h e
  |some o=>show(by rw[k a o e]at z;cases z),λ_ _ h=>h,λa o h _=>k a o h⟩
def HR.keep(h:HR H Γ)(k:∀b o,H b=some o→H' b=some o):HR H' Γ:=λa o e=>(h a o e).mono (DA k) (k a)
def Dk{o:HO}(h:H p=none):∀b u,H b=some u→upd H p o b=some u:=λb u q=>by rw[AW (Ba q h)];show q
def fN.make{o:HO}(h:H p=none):fN H Γ (upd H p o) (up Γ p o3):=by
 show⟨DA (Dk h),λa q z=>?_,λa q g=>?_,λa u q _=>Dk h a u q⟩
 ·by_cases e:a=p
  ·subst e;show q h
  ·rw[AW e]at z;show q z
 ·let e:a≠p:=λe=>q (by rw[e];show h)
  rw[B8 e];show g
def HR.make(hr:HR H Γ){o:HO}(h:H p=none)(k:Ho (upd H p o) p o3):HR (upd H p o) (up Γ p o3):=λa u e=>by
 by_cases z:a=p
 ·subst z;rw[AE]at e;cases e;show k
 ·rw[B8 z]at e
  show(hr a u e).mono (DA (Dk h)) λ_ q=>by rw[AW z];show q
def La{o u:HO}(h:H a=some u)(n:(∀vs:List V,u≠.tup vs)∧∀b w,u≠.frz b w):Tq H (upd H a o):=⟨λx vs q=>by
 have:x≠a:=λe=>by subst e;rw[h]at q;show n.1 vs (EC q)
 rw[AW this];show q,λx b w q=>by
 have:x≠a:=λe=>by subst e;rw[h]at q;show n.2 b w (EC q)
 rw[AW this];show q⟩
def fN.set{o:HO}(hr:HR H Γ)(g:Γ a=some o2):fN H Γ (upd H a o) (up Γ a o3):=by
 let⟨u,hu,n⟩:=(hr a o2 g).some;show⟨La hu n,λx q z=>?_,λx q g'=>?_,λx w q g'=>?_⟩
 ·by_cases e:x=a
  ·subst e;rw[B0]at z;cases z
  ·rw[AW e]at z;show q z
 ·let e:x≠a:=λe=>by subst e;rw[g]at g';cases g'
  rw[B8 e];show g'
 ·let e:x≠a:=λe=>by subst e;rw[g]at g';cases g'
  rw[AW e];show q
def HR.set{o:HO}(hr:HR H Γ)(g:Γ a=some o2)(k:Ho (upd H a o) a o3):HR (upd H a o) (up Γ a o3):=λx u e=>by
 let⟨w,hw,n⟩:=(hr a o2 g).some;by_cases z:x=a
 ·subst z;rw[AE]at e;cases e;show k
 ·rw[B8 z]at e
  show(hr x u e).mono (La hw n) λ_ q=>by rw[AW z];show q
def HR.hide{o u:HO}(hr:HR H Γ)(g:Γ a=none)(h:H a=some u)(n:(∀vs:List V,u≠.tup vs)∧∀b w,u≠.frz b w):HR (upd H a o) Γ:=λx w e=>by
 let z:x≠a:=λz=>by subst z;rw[g]at e;cases e
 show(hr x w e).mono (La h n) λ_ q=>by rw[AW z];show q
end
abbrev Bn:=List (Option T)
abbrev EM:=Bn→Value→AL→Prop
abbrev Cr:=T→AL→Prop
abbrev AX:=EM→Bn→AL→Cr→Prop
abbrev CY:=EM→Bn→AL→(Bool→AL→Prop)→Prop
abbrev D0:=EM→Bn→AL→(List T→AL→Prop)→Prop
structure FC where
 nx:Bn→AL→Prop
 rt:Cr
 bk:Bn→AL→Prop:=λ_ _=>False
 ct:Bn→AL→Prop:=λ_ _=>False
abbrev Be:=EM→FC→Bn→AL→Prop
abbrev Rw(H:A7):Option V→Option T→Prop
 |_,none=>True
 |some v,some x=>R H v x
 |none,some _=>False
abbrev RS(H:A7):St→Bn→Prop
 |[],[]=>True
 |v::r,x::q=>Rw H v x∧RS H r q
 |_,_=>False
section
variable {H H': A7}{Γ Γ': AL}
def Rw.mono(t:Tq H H'){v:Option V}{x:Option T}(h:Rw H v x):Rw H' v x:=by
 cases x with
 |none=>show trivial
 |some x=>cases v with
  |none=>show h.elim
  |some v=>show R.mono t h
def RS.mono(t:Tq H H'):∀{σ:St} {τ:Bn},RS H σ τ→RS H' σ τ
 |[],[],_=>trivial
 |_::_,_::_,h=>⟨h.1.mono t,RS.mono t h.2⟩
 |[],_::_,h=>h.elim
 |_::_,[],h=>h.elim
def RS.get:∀{σ:St} {τ:Bn} {i:Nat} {x:T},RS H σ τ→τ[i]?=some (some x)→∃v,σ[i]?=some (some v)∧R H v x
 |[],[],i,x,_,e=>by simp at e
 |v::r,y::q,i,x,h,e=>by
  cases i with
  |zero=>
   cases e;cases v with
   |none=>show h.1.elim
   |some v=>show⟨v,rfl,h.1⟩
  |succ i=>show RS.get (i:=i) h.2 e
 |[],_::_,_,_,h,_=>h.elim
 |_::_,[],_,_,h,_=>h.elim
def RS.set(r:R H v x):∀{σ:St} {τ:Bn} (i:Nat),RS H σ τ→RS H (σ.set i (some v)) (τ.set i (some x))
 |[],[],_,_=>trivial
 |_::_,_::_,0,h=>⟨r,h.2⟩
 |_::_,_::_,i+1,h=>⟨h.1,RS.set r i h.2⟩
 |[],_::_,_,h=>h.elim
 |_::_,[],_,h=>h.elim
abbrev XR(H:A7)(Γ:AL)(Y:EM)(E:St→BF):Prop:=∀σ τ C H' Γ',fN H Γ H' Γ'→HR H' Γ'→RS H' σ τ→Y τ C Γ'→E σ C none H'
def XR.mono{Y:EM}{E:St→BF}(x:XR H Γ Y E)(s:fN H Γ H' Γ'):XR H' Γ' Y E:=λσ τ C H2 Γ2 s2 h2 r y=>x σ τ C H2 Γ2 (s.trans s2) h2 r y
abbrev VR(H:A7)(Γ:AL)(Z:Cr)(Q:Au):Prop:=∀v x H' Γ',fN H Γ H' Γ'→HR H' Γ'→R H' v x→Z x Γ'→Q v H'
def VR.mono{Z:Cr}{Q:Au}(x:VR H Γ Z Q)(s:fN H Γ H' Γ'):VR H' Γ' Z Q:=λv x' H2 Γ2 s2 h2 r y=>x v x' H2 Γ2 (s.trans s2) h2 r y
abbrev NR(H:A7)(Γ:AL)(Z:Bn→AL→Prop)(Q:St→A7→Prop):Prop:=∀σ τ H' Γ',fN H Γ H' Γ'→HR H' Γ'→RS H' σ τ→Z τ Γ'→Q σ H'
def NR.mono{Q:St→A7→Prop}(x:NR H Γ Z Q)(s:fN H Γ H' Γ'):NR H' Γ' Z Q:=λv x' H2 Γ2 s2 h2 r y=>x v x' H2 Γ2 (s.trans s2) h2 r y
structure DR(H:A7)(Γ:AL)(Z:FC)(Q:Ends):Prop where
 nx:NR H Γ Z.nx Q.nx
 rt:VR H Γ Z.rt Q.rt
 bk:NR H Γ Z.bk Q.bk
 ct:NR H Γ Z.ct Q.ct
def DR.mono{Z:FC}{Q:Ends}(x:DR H Γ Z Q)(s:fN H Γ H' Γ'):DR H' Γ' Z Q:=⟨x.nx.mono s,x.rt.mono s,x.bk.mono s,x.ct.mono s⟩
end
section
variable (E: St→BF)
abbrev AK(t:AX):Am:=λσ H Q=>∃τ Γ Y Z,RS H σ τ∧HR H Γ∧t Y τ Γ Z∧VR H Γ Z Q∧XR H Γ Y E
abbrev Cf(t:CY):Cp:=λσ H Q=>∃τ Γ Y Z,RS H σ τ∧HR H Γ∧t Y τ Γ Z∧(∀b H' Γ',fN H Γ H' Γ'→HR H' Γ'→Z b Γ'→Q b H')∧XR H Γ Y E
abbrev Dy(t:D0):CW:=λσ H Q=>∃τ Γ Y Z,RS H σ τ∧HR H Γ∧t Y τ Γ Z∧(∀vs xs H' Γ',fN H Γ H' Γ'→HR H' Γ'→Rs H' vs xs→Z xs Γ'→Q vs H')∧XR H Γ Y E
abbrev Cj(t:Be):Bx:=λD σ H=>∃τ Γ Y Z,RS H σ τ∧HR H Γ∧t Y Z τ Γ∧DR H Γ Z D∧XR H Γ Y E
end
section
def GC{t t':Am}(h:PE X e t)(w:∀σ H Q,t' σ H Q→t σ H Q):PE X e t':=⟨λx0 s σ H Q I q=>h.run x0 s σ H Q I (w _ _ _ q)⟩
def VY{t:Cp}(h:PT X e t)(w:∀σ H Q,t' σ H Q→t σ H Q):PT X e t':=⟨λx0 s σ H Q I q=>h.run x0 s σ H Q I (w _ _ _ q)⟩
def wb{t:Cp}(h:PW X e t)(w:∀σ H Q,t' σ H Q→t σ H Q):PW X e t':=⟨λwh x0 s σ H Q I q=>h.run wh x0 s σ H Q I (w _ _ _ q)⟩
def aes{e:List Expr}{t t':CW}(h:PA X e t)(w:∀σ H Q,t' σ H Q→t σ H Q):PA X e t':=⟨λpos x0 s σ H Q I q=>h.run pos x0 s σ H Q I (w _ _ _ q)⟩
def cG{e:Stmt}{t t':Bx}(h:PS X e t)(w:∀D σ H,t' D σ H→t D σ H):PS X e t':=⟨λx0 s σ H D I q=>h.run x0 s σ H D I (w _ _ _ q)⟩
def uc{e:List Stmt}{t t':Bx}(h:kl X e t)(w:∀D σ H,t' D σ H→t D σ H):kl X e t':=⟨λx0 s σ H D I q=>h.run x0 s σ H D I (w _ _ _ q)⟩
def ui{t t':EL}(h:PG X e t)(w:∀v σ H Q,t' v σ H Q→t v σ H Q):PG X e t':=⟨λx0 s σ H v u Q I r q=>h.run x0 s σ H v u Q I r (w _ _ _ _ q)⟩
def rW{e:List Expr}{t t':Gw}(h:A0 X e t)(w:∀v σ H Q,t' v σ H Q→t v σ H Q):A0 X e t':=⟨λx0 s σ H v u Q I r q=>h.run x0 s σ H v u Q I r (w _ _ _ _ q)⟩
def ac1{t t':F5}(h:PI X tg e t)(w:∀σ H Q,t' σ H Q→t σ H Q):PI X tg e t':=⟨λx0 s σ H Q I q=>h.run x0 s σ H Q I (w _ _ _ q)⟩
def abL{e:List Expr}{t:Cp}(h:tS X e t)(w:∀σ H Q,t' σ H Q→t σ H Q):tS X e t':=⟨λx0 s σ H Q I q=>h.run x0 s σ H Q I (w _ _ _ q)⟩
def Dw{t0:Am}{t:AX}(h:PE X e t0)(w:∀σ H Q τ Γ Y Z,RS H σ τ→HR H Γ→t Y τ Γ Z→VR H Γ Z Q→XR H Γ Y E→t0 σ H Q):PE X e (AK E t):=
 GC h (by intro σ H Q⟨τ,Γ,Y,Z,rs,hr,q,vr,xr⟩;show w σ H Q τ Γ Y Z rs hr q vr xr)
def jI{t:CY}(h:PT X e t0)(w:∀σ H Q τ Γ Y Z,RS H σ τ→HR H Γ→t Y τ Γ Z→(∀b H' Γ',fN H Γ H' Γ'→HR H' Γ'→Z b Γ'→Q b H')→XR H Γ Y E→t0 σ H Q):PT X e (Cf E t):=
 VY h (by intro σ H Q⟨τ,Γ,Y,Z,rs,hr,q,vr,xr⟩;show w σ H Q τ Γ Y Z rs hr q vr xr)
def eL{t:CY}(h:PW X e t0)(w:∀σ H Q τ Γ Y Z,RS H σ τ→HR H Γ→t Y τ Γ Z→(∀b H' Γ',fN H Γ H' Γ'→HR H' Γ'→Z b Γ'→Q b H')→XR H Γ Y E→t0 σ H Q):PW X e (Cf E t):=
 wb h (by intro σ H Q⟨τ,Γ,Y,Z,rs,hr,q,vr,xr⟩;show w σ H Q τ Γ Y Z rs hr q vr xr)
def lg{e:List Expr}{t0:CW}(h:PA X e t0)(w:∀σ H Q τ Γ Y Z,RS H σ τ→HR H Γ→t Y τ Γ Z→(∀vs xs H' Γ',fN H Γ H' Γ'→HR H' Γ'→Rs H' vs xs→Z xs Γ'→Q vs H')→XR H Γ Y E→t0 σ H Q):PA X e (Dy E t):=
 aes h (by intro σ H Q⟨τ,Γ,Y,Z,rs,hr,q,vr,xr⟩;show w σ H Q τ Γ Y Z rs hr q vr xr)
def yY{e:List Expr}{t:CY}(h:tS X e t0)(w:∀σ H Q τ Γ Y Z,RS H σ τ→HR H Γ→t Y τ Γ Z→(∀b H' Γ',fN H Γ H' Γ'→HR H' Γ'→Z b Γ'→Q b H')→XR H Γ Y E→t0 σ H Q):tS X e (Cf E t):=
 abL h (by intro σ H Q⟨τ,Γ,Y,Z,rs,hr,q,vr,xr⟩;show w σ H Q τ Γ Y Z rs hr q vr xr)
def HD{e:Stmt}{t0:Bx}{t:Be}(h:PS X e t0)(w:∀D σ H τ Γ Y Z,RS H σ τ→HR H Γ→t Y Z τ Γ→DR H Γ Z D→XR H Γ Y E→t0 D σ H):PS X e (Cj E t):=
 cG h (by intro D σ H⟨τ,Γ,Y,Z,rs,hr,q,dr,xr⟩;show w D σ H τ Γ Y Z rs hr q dr xr)
def qG{e:List Stmt}{t0:Bx}{t:Be}(h:kl X e t0)(w:∀D σ H τ Γ Y Z,RS H σ τ→HR H Γ→t Y Z τ Γ→DR H Γ Z D→XR H Γ Y E→t0 D σ H):kl X e (Cj E t):=
 uc h (by intro D σ H⟨τ,Γ,Y,Z,rs,hr,q,dr,xr⟩;show w D σ H τ Γ Y Z rs hr q dr xr)
section
variable {H: A7}
def Lk:R H .non .non:=by unfold R;rfl
def E0:R H (.bl b) (.bl b):=by unfold R;rfl
def DL{i:Int}:R H (.int i) (.int i):=by unfold R;rfl
def Em:R H (.str z) (.str z):=by unfold R;rfl
def EV:R H (.ref a) (.ref a):=by unfold R;rfl
def aaY{a:String}:R H (.ty a) (.ty a):=by unfold R;rfl
def Ea(h:H a=some (.tup vs))(r:Rs H vs ts):R H (.ref a) (.tup ts):=by unfold R;show Ψ2 a vs ⟨rfl,h,r⟩
def NJ(h:R H v .non):v=.non:=by unfold R at h;show h
def GU(h:R H v (.bl b)):v=.bl b:=by unfold R at h;show h
def D8{b:Int}(h:R H v (.int b)):v=.int b:=by unfold R at h;show h
def EH{b:Str}(h:R H v (.str b)):v=.str b:=by unfold R at h;show h
def CH{b:Addr}(h:R H v (.ref b)):v=.ref b:=by unfold R at h;show h
def fV{b:String}(h:R H v (.ty b)):v=.ty b:=by unfold R at h;show h
def bL(h:R H v (.scr K a ts)):v=.ref a∧∃vs,JD K H a vs∧Rs H vs ts:=by unfold R at h;show h
def tC(h:JD K H a vs)(q:Rs H vs ts):R H (.ref a) (.scr K a ts):=by unfold R;show⟨rfl,vs,h,q⟩
def JD.sq(h:JD K H a vs):eB K H a vs:=by
 rcases h with⟨o,h⟩|h
 ·show .inl (.inr ⟨o,h⟩)
 ·show .inr h
def De(h:R H v (.tup ts)):∃a vs,v=.ref a∧H a=some (.tup vs)∧Rs H vs ts:=by unfold R at h;show h
end
abbrev Ic(i:Nat):AX:=λ_ τ Γ Z=>∃x,τ[i]?=some (some x)∧Z x Γ
abbrev HZ(x:T):AX:=λ_ _ Γ Z=>Z x Γ
def A3(i:Nat){x:Str}{pos:Pos}(hN:X.N[i]?=some x:=by rfl)(hv:MH X.env.scope x:=by first|show Or.inl rfl|show Or.inr (Or.inl rfl)|show Or.inr (Or.inr rfl))(hd:(x ==("__debug__" : Str))=false:=by decide)
  (oX:(x ==("__classdict__" : Str))=false:=by decide):PE X (.Name x pos) (AK E (Ic i)):=
 Dw (Ta hN hv hd oX) λσ H Q τ Γ Y Z rs hr q0 vr xr=>by
  let⟨x,e,z⟩:=q0;let⟨v,hv,r⟩:=rs.get e;show⟨v,hv,vr v x H Γ .refl hr r z⟩
def MD(h:PE X e (J8 v))(r:∀H,R H v x):PE X e (AK E (HZ x)):=
 Dw h λσ H Q τ Γ Y Z rs hr z vr xr=>vr v x H Γ .refl hr (r H) z
def AB{i j pos}:PE X (.Constant (.int i) j pos) (AK E (HZ (.int i))):=MD BG λ_=>DL
def JQ{b j pos}:PE X (.Constant (.bool b) j pos) (AK E (HZ (.bl b))):=MD yw λ_=>E0
def Ez{j pos}:PE X (.Constant .none j pos) (AK E (HZ .non)):=MD acV λ_=>Lk
def Ai{x j pos}:PE X (.Constant (.str x) j pos) (AK E (HZ (.str x))):=MD Hg λ_=>Em
abbrev GX(u:Value)(x:T):Prop:=∃v,RelV v u∧∀H,R H v x
def E8{x:Str}{t:T}{pos:Pos}(hg:Bi X x)(hm:X.mg x=some u)(r:GX u t)(hd:(x ==("__debug__" : Str))=false:=by decide):PE X (.Name x pos) (AK E (HZ t)):=by
 obtain⟨v,r,h⟩:=r;show MD (aco hg hm r hd) h
def gl_int{i:Int}(h:RelV (.int i) u):GX u (.int i):=⟨_,h,λ_=>DL⟩
def Gf{i:Addr}:GX (.ref i) (.ref i):=⟨.ref i,rfl,λ_=>EV⟩
def aa7{x:Str}{pos:Pos}(hg:Bi X x)(hm:X.mg x=none)(hv:bootBuiltins x=some u)(r:RelV (.ty n) u)(hn:x ≠ "__name__" := by decide)(hd:(x ==("__debug__" : Str))=false:=by decide):PE X (.Name x pos) (AK E (HZ (.ty n))):=
 MD (oR hg hm hv r hn hd) λ_=>aaY
abbrev Dz:=T→T→AL→Cr→Prop
abbrev CJ(X:Cx)(f:Value→Value→Sem Value)(r3:Dz):Prop:=∃r:Dm,Bs X f r∧∀x y a b H Γ Q Z,R H x a→R H y b→HR H Γ→r3 a b Γ Z→VR H Γ Z Q→r x y H Q
abbrev F0(r3:Dz)(ta tb:AX):AX:=λY τ Γ Z=>ta Y τ Γ λx Γ1=>tb Y τ Γ1 λy Γ2=>r3 x y Γ2 Z
def Mm{r:Dm}{r3:Dz}{ta tb:AX}(h:∀x y a b H Γ Q Z,R H x a→R H y b→HR H Γ→r3 a b Γ Z→VR H Γ Z Q→r x y H Q)(σ:St)(H:A7)(Q:Au)(q:AK E (F0 r3 ta tb) σ H Q):NQ r (AK E ta) (AK E tb) σ H Q:=by
 let⟨τ,Γ,Y,Z,rs,hr,t,vr,xr⟩:=q;show Ψ4 τ Γ Y _ ⟨rs,hr,t,λv x H1 Γ1 s1 h1 r1 z1=>?_,xr⟩;show Ψ4 τ Γ1 Y _ ⟨rs.mono s1.tq,h1,z1,λu y H2 Γ2 s2 h2 r2 z2=>?_,xr.mono s1⟩;show h v u x y H2 Γ2 Q Z (r1.mono s2.tq) r2 h2 z2 (vr.mono (s1.trans s2))
section
variable {a b c: Expr}{ta tb tc: AX}{op Mv: CmpOp}{r3 RU: Dz}
def AN{op:Operator}(ho:CJ X (binaryOp op) r3)(ha:PE X a (AK E ta))(hb:PE X b (AK E tb)):PE X (.BinOp a op b pos) (AK E (F0 r3 ta tb)):=by
 obtain⟨r,ho,h⟩:=ho;show GC (DB ho ha hb) (Mm h)
def rm(ho:CJ X (compareOp op) r3)(ha:PE X a (AK E ta))(hb:PE X b (AK E tb))(hm:behindInMarks op b=false):PE X (.Compare a [op] [b] pos) (AK E (F0 r3 ta tb)):=by
 obtain⟨r,ho,h⟩:=ho;show GC (tL ho ha hb hm) (Mm h)
abbrev Lb(t:AX):CY:=λY τ Γ Z=>t Y τ Γ λx Γ1=>∃k,x=.bl k∧Z k Γ1
def gR{t2:Am}{t:AX}(h:∀σ H Q,AK E t σ H Q→t2 σ H Q)(σ:St)(H:A7)(Q:Bool→A7→Prop)(q:Cf E (Lb t) σ H Q):qm t2 σ H Q:=by
 let⟨τ,Γ,Y,Z,rs,hr,t,vr,xr⟩:=q;show h σ H _ ⟨τ,Γ,Y,_,rs,hr,t,λv x H1 Γ1 s1 h1 r1 z1=>?_,xr⟩;let⟨k,rfl,z⟩:=z1;show⟨k,GU r1,vr k H1 Γ1 s1 h1 z⟩
def Up(ho:CJ X (compareOp op) r3)(ha:PE X a (AK E ta))(hb:PE X b (AK E tb))(hm:behindInMarks op b=false):PT X (.Compare a [op] [b] pos) (Cf E (Lb (F0 r3 ta tb))):=by
 obtain⟨r,ho,h⟩:=ho;show VY (JB ho ha hb hm) (gR (Mm h))
abbrev SV(r r':Dz)(ta tb tc:AX):AX:=λY τ Γ Z=>ta Y τ Γ λx Γ1=>tb Y τ Γ1 λy Γ2=>r x y Γ2 λz Γ3=>∃k,z=.bl k∧(if k=true then tc Y τ Γ3 λw' Γ4=>r' y w' Γ4 Z else Z (.bl false) Γ3)
def uf{r r':Dm}(h:∀x y a b H Γ Q Z,R H x a→R H y b→HR H Γ→r3 a b Γ Z→VR H Γ Z Q→r x y H Q)(h':∀x y a b H Γ Q Z,R H x a→R H y b→HR H Γ→RU a b Γ Z→VR H Γ Z Q→r' x y H Q)
  (σ:St) (H:A7) (Q:Au) (q:AK E (SV r3 RU ta tb tc) σ H Q):mH r r' (AK E ta) (AK E tb) (AK E tc) σ H Q:=by
 let⟨τ,Γ,Y,Z,rs,hr,t,vr,xr⟩:=q;show Ψ4 τ Γ Y _ ⟨rs,hr,t,λv x H1 Γ1 s1 h1 r1 z1=>?_,xr⟩;show Ψ4 τ Γ1 Y _ ⟨rs.mono s1.tq,h1,z1,λu y H2 Γ2 s2 h2 r2 z2=>?_,xr.mono s1⟩;show h v u x y H2 Γ2 _ _ (r1.mono s2.tq) r2 h2 z2 λd z H3 Γ3 s3 h3 r3 z3=>?_;obtain⟨k,rfl,z3⟩:=z3;show⟨k,GU r3,?_⟩;cases k with
 |false=>show vr _ _ H3 Γ3 ((s1.trans s2).trans s3) h3 E0 z3
 |true=>
  show Ψ4 τ Γ3 Y _ ⟨rs.mono ((s1.trans s2).trans s3).tq,h3,z3,λw' y' H4 Γ4 s4 h4 r4 z4=>?_,xr.mono ((s1.trans s2).trans s3)⟩;show h' u w' y y' H4 Γ4 Q Z (r2.mono (s3.trans s4).tq) r4 h4 z4 (vr.mono (((s1.trans s2).trans s3).trans s4))
def og(ho:CJ X (compareOp op) r3)(mK:CJ X (compareOp Mv) RU)(ha:PE X a (AK E ta))(hb:PE X b (AK E tb))(hc:PE X c (AK E tc))(hm:lastMarks [op,Mv] [b,c]=false:=by with_unfolding_all rfl):
  PE X (.Compare a [op,Mv] [b,c] pos) (AK E (SV r3 RU ta tb tc)):=by
 obtain⟨r,ho,h⟩:=ho;obtain⟨r',mK,h'⟩:=mK;show GC (abx ho mK ha hb hc hm) (uf h h')
abbrev oW(ta tb:AX):AX:=λY τ Γ Z=>ta Y τ Γ λx Γ1=>∃c,x=.bl c∧if c=true then tb Y τ Γ1 Z else Z (.bl false) Γ1
abbrev mS(ta tb:AX):AX:=λY τ Γ Z=>ta Y τ Γ λx Γ1=>∃c,x=.bl c∧if c=true then Z (.bl true) Γ1 else tb Y τ Γ1 Z
abbrev nO(ta:AX):AX:=λY τ Γ Z=>ta Y τ Γ λx Γ1=>∃c,x=.bl c∧Z (.bl (!c)) Γ1
def Hi{op}(h:PE X a (AK E ta)):PE X (.BoolOp op [a] pos) (AK E ta):=ada h
def Gk(ha:PE X a (AK E ta))(hb:PE X (.BoolOp .And (b::rest) pos) (AK E tb)):PE X (.BoolOp .And (a::b::rest) pos) (AK E (oW ta tb)):=
 Dw (adb ha hb) λσ H Q τ Γ Y Z rs hr t vr xr=>by
  show Ψ4 τ Γ Y _ ⟨rs,hr,t,λv x H1 Γ1 s1 h1 r1 z1=>?_,xr⟩;obtain⟨k,rfl,z1⟩:=z1;show⟨k,GU r1,?_⟩;cases k with
  |false=>show vr _ _ H1 Γ1 s1 h1 E0 z1
  |true=>show Ψ4 τ Γ1 Y Z ⟨rs.mono s1.tq,h1,z1,vr.mono s1,xr.mono s1⟩
def yu(ha:PE X a (AK E ta))(hb:PE X (.BoolOp .Or (b::rest) pos) (AK E tb)):PE X (.BoolOp .Or (a::b::rest) pos) (AK E (mS ta tb)):=
 Dw (yd ha hb) λσ H Q τ Γ Y Z rs hr t vr xr=>by
  show Ψ4 τ Γ Y _ ⟨rs,hr,t,λv x H1 Γ1 s1 h1 r1 z1=>?_,xr⟩;obtain⟨k,rfl,z1⟩:=z1;show⟨k,GU r1,?_⟩;cases k with
  |true=>show vr _ _ H1 Γ1 s1 h1 E0 z1
  |false=>show Ψ4 τ Γ1 Y Z ⟨rs.mono s1.tq,h1,z1,vr.mono s1,xr.mono s1⟩
def fm(ha:PE X a (AK E ta)):PE X (.UnaryOp .Not a pos) (AK E (nO ta)):=
 Dw (tu ha) λσ H Q τ Γ Y Z rs hr t vr xr=>by
  show Ψ4 τ Γ Y _ ⟨rs,hr,t,λv x H1 Γ1 s1 h1 r1 z1=>?_,xr⟩;obtain⟨k,rfl,z1⟩:=z1;show⟨k,GU r1,vr _ _ H1 Γ1 s1 h1 E0 z1⟩
variable {tA Ll: CY}
abbrev iU(t u:CY):CY:=λY τ Γ Z=>t Y τ Γ λc Γ1=>if c=true then u Y τ Γ1 Z else Z false Γ1
abbrev fR(t u:CY):CY:=λY τ Γ Z=>t Y τ Γ λc Γ1=>if c=true then Z true Γ1 else u Y τ Γ1 Z
abbrev lB(t:CY):CY:=λY τ Γ Z=>t Y τ Γ λc Γ1=>Z (!c) Γ1
def LM(ha:PT X a (Cf E tA)):PW X (.BoolOp .And [a] pos) (Cf E tA):=kh ha
def EK(ha:PT X a (Cf E tA)):PW X (.BoolOp .Or [a] pos) (Cf E tA):=aeN ha
def Iu(ha:PT X a (Cf E tA))(hb:PW X (.BoolOp .And (b::rest) pos) (Cf E Ll)):PW X (.BoolOp .And (a::b::rest) pos) (Cf E (iU tA Ll)):=
 eL (eM ha hb) λσ H Q τ Γ Y Z rs hr t vr xr=>by
  show Ψ4 τ Γ Y _ ⟨rs,hr,t,λk H1 Γ1 s1 h1 z1=>?_,xr⟩;cases k with
  |false=>show vr _ H1 Γ1 s1 h1 z1
  |true=>show Ψ4 τ Γ1 Y Z ⟨rs.mono s1.tq,h1,z1,λb H2 Γ2 s2 h2 z2=>vr b H2 Γ2 (s1.trans s2) h2 z2,xr.mono s1⟩
def DX(ha:PT X a (Cf E tA))(hb:PW X (.BoolOp .Or (b::rest) pos) (Cf E Ll)):PW X (.BoolOp .Or (a::b::rest) pos) (Cf E (fR tA Ll)):=
 eL (vx ha hb) λσ H Q τ Γ Y Z rs hr t vr xr=>by
  show Ψ4 τ Γ Y _ ⟨rs,hr,t,λk H1 Γ1 s1 h1 z1=>?_,xr⟩;cases k with
  |true=>show vr _ H1 Γ1 s1 h1 z1
  |false=>show Ψ4 τ Γ1 Y Z ⟨rs.mono s1.tq,h1,z1,λb H2 Γ2 s2 h2 z2=>vr b H2 Γ2 (s1.trans s2) h2 z2,xr.mono s1⟩
def DJ(ha:PT X a (Cf E tA)):PT X (.UnaryOp .Not a pos) (Cf E (lB tA)):=
 jI (aaB ha) λσ H Q τ Γ Y Z rs hr t vr xr=>Ψ4 τ Γ Y _ ⟨rs,hr,t,λk H1 Γ1 s1 h1 z1=>vr _ H1 Γ1 s1 h1 z1,xr⟩
def Bu{t:AX}(h:PE X e (AK E t))(he:∀whole,isTrue e X.env whole=(do let v ←whole;standAt e.pos;holding [v] (truthy v)):=by intro _;rfl):PT X e (Cf E (Lb t)):=
 VY (aa3 h he) (gR (t2:=AK E t) λ_ _ _ q=>q)
abbrev bR(c:CY)(ta tb:AX):AX:=λY τ Γ Z=>c Y τ Γ λk Γ1=>if k=true then ta Y τ Γ1 Z else tb Y τ Γ1 Z
def ML(hc:PT X c (Cf E tA))(ha:PE X a (AK E ta))(hb:PE X b (AK E tb)):PE X (.IfExp c a b pos) (AK E (bR tA ta tb)):=
 Dw (zC hc ha hb) λσ H Q τ Γ Y Z rs hr t vr xr=>by
  show Ψ4 τ Γ Y _ ⟨rs,hr,t,λk H1 Γ1 s1 h1 z1=>?_,xr⟩;cases k with
  |true=>show Ψ4 τ Γ1 Y Z ⟨rs.mono s1.tq,h1,z1,vr.mono s1,xr.mono s1⟩
  |false=>show Ψ4 τ Γ1 Y Z ⟨rs.mono s1.tq,h1,z1,vr.mono s1,xr.mono s1⟩
end
section
variable {e: Expr}{te: AX}{t: D0}
abbrev jd:D0:=λ_ _ Γ Z=>Z [] Γ
abbrev jH(ta:AX)(tr:D0):D0:=λY τ Γ Z=>ta Y τ Γ λx Γ1=>tr Y τ Γ1 λxs Γ2=>Z (x::xs) Γ2
def A8:PA X [] (Dy E jd):=lg Co λσ H Q τ Γ Y Z rs hr t vr xr=>vr [] [] H Γ .refl hr D3 t
def A4(ha:PE X e (AK E te))(hr:PA X es (Dy E t))(hs:starEach (e::es) X.env=(false,eval e X.env)::starEach es X.env:=by rfl):PA X (e::es) (Dy E (jH te t)):=
 lg (BD ha hr hs) λσ H Q τ Γ Y Z rs hr t vr xr=>by
  show Ψ4 τ Γ Y _ ⟨rs,hr,t,λv x H1 Γ1 s1 h1 r1 z1=>?_,xr⟩;show Ψ4 τ Γ1 Y _ ⟨rs.mono s1.tq,h1,z1,λvs xs H2 Γ2 s2 h2 r2 z2=>vr (v::vs) (x::xs) H2 Γ2 (s1.trans s2) h2 (CS (r1.mono s2.tq) r2) z2,xr.mono s1⟩
abbrev pU(t:D0):AX:=λY τ Γ Z=>t Y τ Γ λxs Γ1=>xs.length≤sizeLine∧Z (.tup xs) Γ1
abbrev qD(t:D0):AX:=λY τ Γ Z=>t Y τ Γ λxs Γ1=>xs.length≤sizeLine∧∀p,Γ1 p=none→Z (.ref p) (up Γ1 p (.lst xs))
def Bf{x1}(h:PA X es (Dy E t)):PE X (.Tuple es x1 pos) (AK E (pU t)):=
 Dw (Lc h) λσ H Q τ Γ Y Z rs hr t vr xr=>by
  show Ψ4 τ Γ Y _ ⟨rs,hr,t,λvs xs H1 Γ1 s1 h1 r1 z1=>?_,xr⟩;show⟨by rw[r1.length];show z1.1,λp hp=>?_⟩;let k:=Dk (o:=.tup vs) hp;show vr _ _ _ Γ1 (s1.trans (.keep k)) (h1.keep k) (Ea B0 (r1.mono (DA k))) z1.2
def BL(h:PA X es (Dy E t)):PE X (.List es pos) (AK E (qD t)):=
 Dw (Lf h) λσ H Q τ Γ Y Z rs hr t vr xr=>by
  show Ψ4 τ Γ Y _ ⟨rs,hr,t,λvs xs H1 Γ1 s1 h1 r1 z1=>?_,xr⟩;show⟨by rw[r1.length];show z1.1,λp hp=>?_⟩;let k:=Dk (o:=.lst vs) hp;show vr _ _ _ _ (s1.trans (.make hp)) (h1.make (o3:=.lst xs) hp ⟨vs,B0,r1.mono (DA k)⟩) EV (z1.2 p (h1.free hp))
end
abbrev BQ:=List T→AL→Cr→(Value→AL→Prop)→Prop
abbrev BP(sp:BQ):Dn:=λvs H Q E=>∃ts Γ Z Y,Rs H vs ts∧HR H Γ∧sp ts Γ Z Y∧VR H Γ Z Q∧∀C H' Γ',fN H Γ H' Γ'→HR H' Γ'→Y C Γ'→E C none H'
@[reducible]def AV(P:Program)(w:World)(K:W.Frag)(mg:ac)(am:Heap)(x:Str)(k:Nat)(ps:List Str)(sp:BQ):Prop:=Callee P w K mg am x k ps (BP sp)
@[reducible]def EJ(P:Program)(w:World)(K:W.Frag)(mg:ac)(am:Heap)(x:Str)(k:Nat)(ps:List Str)(sp:BQ):Prop:=bO P w K mg am x k ps (BP sp)
abbrev bE(sp:BQ)(t:D0):AX:=λY τ Γ Z=>t Y τ Γ λxs Γ1=>sp xs Γ1 Z λ_ _=>False
abbrev cT(sp:BQ)(t:D0):AX:=λY τ Γ Z=>t Y τ Γ λxs Γ1=>sp xs Γ1 Z (Y τ)
section
variable {x: Str}{k j: Nat}{ps: List Str}{sp: BQ}{p: Pos}{e: Expr}{t: D0}
def abB(c:AV X.prog X.w X.K X.mg X.base x k ps sp)(hr:dw j X.A)(hk:k≤j)(hg:Bi X x)(ha:PA X (e::es) (Dy E t))(sG:(x ==("__debug__" : Str))=false:=by decide)
  (he:starEach (e::es) X.env=(false,eval e X.env)::starEach es X.env:=by rfl) (gc:(backTo pos (starEach es X.env)).any (·.1)=false:=by rfl):PE X (.Call (.Name x p) (e::es) [] pos) (AK E (bE sp t)):=
 Dw (GY c hr hk hg ha sG he gc) λσ H Q τ Γ Y Z rs hr t vr xr=>by
  show Ψ4 τ Γ Y _ ⟨rs,hr,t,λvs xs H1 Γ1 s1 h1 r1 z1=>?_,xr⟩;show BP sp (vs++[]) H1 Q Jv
  rw[Bz];show Ψ4 xs Γ1 Z _ ⟨r1,h1,z1,vr.mono s1,λ_ _ _ _ _ z=>z.elim⟩
def abm(c:EJ X.prog X.w X.K X.mg X.base x k ps sp)(hr:dw j X.A)(hk:k≤j)(hg:Bi X x)(hx:LV X E)(ha:PA X (e::es) (Dy E t))(sG:(x ==("__debug__" : Str))=false:=by decide)
  (he:starEach (e::es) X.env=(false,eval e X.env)::starEach es X.env:=by rfl) (gc:(backTo pos (starEach es X.env)).any (·.1)=false:=by rfl):PE X (.Call (.Name x p) (e::es) [] pos) (AK E (cT sp t)):=
 Dw (zQ c hr hk hg hx ha sG he gc) λσ H Q τ Γ Y Z rs hr t vr xr=>by
  show Ψ4 τ Γ Y _ ⟨rs,hr,t,λvs xs H1 Γ1 s1 h1 r1 z1=>?_,xr⟩;show Ψ4 xs Γ1 Z (Y τ) ⟨r1,h1,z1,vr.mono s1,λC H' Γ' s' h' y=>xr σ τ C H' Γ' (s1.trans s') h' (rs.mono (s1.trans s').tq) y⟩
end
end
section
variable {st: Stmt}{Wj: List Stmt}{e: Expr}{te: AX}{t u: Be}
abbrev OW:Be:=λ_ D τ Γ=>D.nx τ Γ
abbrev OC(t u:Be):Be:=λY D τ Γ=>t Y {D with nx:=u Y D} τ Γ
abbrev pv(te:AX):Be:=λY D τ Γ=>te Y τ Γ λ_ Γ1=>D.nx τ Γ1
abbrev aC(te:AX):Be:=λY D τ Γ=>te Y τ Γ D.rt
abbrev fG(c:CY)(t u:Be):Be:=λY D τ Γ=>c Y τ Γ λb Γ1=>if b=true then t Y D τ Γ1 else u Y D τ Γ1
def AD:kl X [] (Cj E OW):=qG Ef λD σ H τ Γ Y Z rs hr t dr xr=>dr.nx σ τ H Γ .refl hr rs t
def A9(h1:PS X st (Cj E t))(h2:kl X Wj (Cj E u)):kl X (st::Wj) (Cj E (OC t u)):=
 qG (Cg h1 h2) λD σ H τ Γ Y Z rs hr t dr xr=>
  ⟨τ,Γ,Y,_,rs,hr,t,⟨λσ' τ' H' Γ' s h r z=>Ψ4 τ' Γ' Y Z ⟨r,h,z,dr.mono s,xr.mono s⟩,dr.rt,dr.bk,dr.ct⟩,xr⟩
def LG(he:PE X e (AK E te))(hs:swapsWith e none pos.line X.env=pure false:=by rfl):PS X (.Expr e pos) (Cj E (pv te)):=
 HD (aN he hs) λD σ H τ Γ Y Z rs hr t dr xr=>Ψ4 τ Γ Y _ ⟨rs,hr,t,λv x H' Γ' s h r z=>dr.nx σ τ H' Γ' s h (rs.mono s.tq) z,xr⟩
def Af(he:PE X e (AK E te)):PS X (.Return (some e) pos) (Cj E (aC te)):=
 HD (JJ he) λD σ H τ Γ Y Z rs hr t dr xr=>Ψ4 τ Γ Y _ ⟨rs,hr,t,dr.rt,xr⟩
def Ah{a b:List Stmt}(hc:PT X c (Cf E tc))(ha:kl X a (Cj E t))(hb:kl X b (Cj E u)):PS X (.If c a b pos) (Cj E (fG tc t u)):=
 HD (KO hc ha hb) λD σ H τ Γ Y Z rs hr t dr xr=>by
  show Ψ4 τ Γ Y _ ⟨rs,hr,t,λk H1 Γ1 s1 h1 z1=>?_,xr⟩;cases k with
  |true=>show Ψ4 τ Γ1 Y Z ⟨rs.mono s1.tq,h1,z1,dr.mono s1,xr.mono s1⟩
  |false=>show Ψ4 τ Γ1 Y Z ⟨rs.mono s1.tq,h1,z1,dr.mono s1,xr.mono s1⟩
abbrev me(t:Be):Be:=λY D τ Γ=>∃P:Bn→AL→Prop,t Y {D with nx:=P} τ Γ∧∀τ Γ,P τ Γ→D.nx τ Γ
def Ek(h:PS X st (Cj E t)):PS X st (Cj E (me t)):=
 HD h λD σ H τ Γ Y Z rs hr q0 dr xr=>by let⟨P,t,k⟩:=q0;show Ψ4 τ Γ Y _ ⟨rs,hr,t,⟨λσ' τ' H' Γ' s h r z=>dr.nx σ' τ' H' Γ' s h r (k _ _ z),dr.rt,dr.bk,dr.ct⟩,xr⟩
abbrev ES:=EM→T→Bn→AL→(Bn→AL→Prop)→Prop
abbrev KL:=EM→List T→Bn→AL→(Bn→AL→Prop)→Prop
abbrev F7(E:St→BF)(g:ES):EL:=λv σ H Q=>∃x τ Γ Y Z,R H v x∧RS H σ τ∧HR H Γ∧g Y x τ Γ Z∧NR H Γ Z Q∧XR H Γ Y E
abbrev NF(E:St→BF)(g:KL):Gw:=λv σ H Q=>∃x τ Γ Y Z,Rs H v x∧RS H σ τ∧HR H Γ∧g Y x τ Γ Z∧NR H Γ Z Q∧XR H Γ Y E
def UM{t0:EL}{t:ES}(h:PG X e t0)(w:∀v σ H Q x τ Γ Y Z,R H v x→RS H σ τ→HR H Γ→t Y x τ Γ Z→NR H Γ Z Q→XR H Γ Y E→t0 v σ H Q):PG X e (F7 E t):=
 ui h (by intro v σ H Q⟨x,τ,Γ,Y,Z,r,rs,hr,q,nr,xr⟩;show w v σ H Q x τ Γ Y Z r rs hr q nr xr)
def fj{e:List Expr}{t0:Gw}{t:KL}(h:A0 X e t0)(w:∀v σ H Q x τ Γ Y Z,Rs H v x→RS H σ τ→HR H Γ→t Y x τ Γ Z→NR H Γ Z Q→XR H Γ Y E→t0 v σ H Q):A0 X e (NF E t):=
 rW h (by intro v σ H Q⟨x,τ,Γ,Y,Z,r,rs,hr,q,nr,xr⟩;show w v σ H Q x τ Γ Y Z r rs hr q nr xr)
abbrev hName(i:Nat):ES:=λ_ x τ Γ Z=>Z (τ.set i (some x)) Γ
abbrev p9:KL:=λ_ xs τ Γ Z=>xs=[]∧Z τ Γ
abbrev j6(g:ES)(gs:KL):KL:=λY xs τ Γ Z=>∃x r,xs=x::r∧g Y x τ Γ λτ1 Γ1=>gs Y r τ1 Γ1 Z
abbrev kE(n:Nat)(gs:KL):ES:=λY x τ Γ Z=>∃ts,x=.tup ts∧ts.length=n∧gs Y ts τ Γ Z
def DT{x:Str}(hN:X.N.Nodup)(hi:X.N[i]?=some x)(hx:Gl X.env.scope x)(hf:Fk X x:=by first|show .inl rfl|show .inr rfl|assumption):PG X (.Name x pos) (F7 E (hName i)):=
 UM (kB hN hi hx hf) λv σ H Q x τ Γ Y Z r rs hr t nr xr=>nr _ _ H Γ .refl hr (rs.set r i) t
def Ga:A0 X [] (NF E p9):=fj wm λv σ H Q x τ Γ Y Z r rs hr q0 nr xr=>by
 let⟨e,t⟩:=q0;subst e;show⟨DI r,nr _ _ H Γ .refl hr rs t⟩
def DZ{es:List Expr}(h1:PG X e (F7 E g))(h2:A0 X es (NF E gs))(hs:(assignEach (e::es) X.env).map (·.2)=assign e X.env::(assignEach es X.env).map (·.2):=by rfl):A0 X (e::es) (NF E (j6 g gs)):=
 fj (zg h1 h2 hs) λv σ H Q x τ Γ Y Z r rs hr q0 nr xr=>by
  let⟨y,ys,e,t⟩:=q0;subst e;let⟨w,ws,rfl,r1,r2⟩:=DG r;show Ψ2 w ws ⟨rfl,y,τ,Γ,Y,_,r1,rs,hr,t,λσ' τ' H' Γ' s h r z=>?_,xr⟩;show Ψ5 ys τ' Γ' Y Z ⟨r2.mono s.tq,r,h,z,nr.mono s,xr.mono s⟩
def GK{es:List Expr}{n:Nat}(hc:X.calm=true)(h:A0 X es (NF E gs))
  (hn:(assignEach es X.env).length=n:=by rfl) (lM:(assignEach es X.env).findIdx? (·.1)=none:=by rfl):PG X (.Tuple es k pos) (F7 E (kE n gs)):=
 UM (ua hc h hn lM) λv σ H Q x τ Γ Y Z r rs hr q0 nr xr=>by
  let⟨ts,e,l,t⟩:=q0;subst e;obtain⟨a,vs,rfl,ha,r⟩:=De r;show Ψ2 a vs ⟨rfl,dD.of ha,by rw[r.length];show l,ts,τ,Γ,Y,Z,r,rs,hr,t,nr,xr⟩
abbrev hSub(to ti:AX):ES:=λY v τ Γ Z=>to Y τ Γ λo Γ1=>ti Y τ Γ1 λi Γ2=>∃a ts k j,o=.ref a∧i=.int k∧Γ2 a=some (.lst ts)∧FN ts.length k=some j∧Z τ (up Γ2 a (.lst (ts.set j v)))
def i5{o i:Expr}(ho:PE X o (AK E to))(hi:PE X i (AK E ti))
  (ha:∀v,assign (.Subscript o i pos) X.env v=(do
   let ov ←holding [v] (eval o X.env)
   let iv ←holding [v,ov] (eval i X.env)
   standAt pos
   holding [v,ov,iv] (setItem ov iv v)
   release [v,ov,iv] []):=by intro _;rfl):PG X (.Subscript o i pos) (F7 E (hSub to ti)):=
 UM (NO ho hi set_list ha) λv σ H Q x τ Γ Y Z r rs hr t nr xr=>by
  show Ψ4 τ Γ Y _ ⟨rs,hr,t,λov o H1 Γ1 s1 h1 r1 z1=>?_,xr⟩;show Ψ4 τ Γ1 Y _ ⟨rs.mono s1.tq,h1,z1,λiv i H2 Γ2 s2 h2 r2 z2=>?_,xr.mono s1⟩;let⟨a,ts,k,j,rfl,rfl,ga,hj,z⟩:=z2;let⟨vs,hv,rv⟩:=h2 a _ ga;show Ψ4 a vs k j ⟨CH r1,D8 r2,hv,by rw[rv.length];show hj,?_⟩;let s3:fN H2 Γ2 (upd H2 a (.lst (vs.set j v))) (up Γ2 a (.lst (ts.set j x))):=.set h2 ga;show nr σ τ _ _ ((s1.trans s2).trans s3) (h2.set ga ⟨_,B0,Rs.set j (rv.mono s3.tq) (r.mono ((s1.trans s2).trans s3).tq)⟩) (rs.mono ((s1.trans s2).trans s3).tq) z
abbrev UL(te:AX)(g:ES):Be:=λY D τ Γ=>te Y τ Γ λx Γ1=>g Y x τ Γ1 D.nx
def vD(D:Ends)(σ:St)(H:A7)(q:Cj E (UL te g) D σ H):T4 (AK E te) (F7 E g) D σ H:=by
 let⟨τ,Γ,Y,Z,rs,hr,t,dr,xr⟩:=q;show Ψ4 τ Γ Y _ ⟨rs,hr,t,λv x H1 Γ1 s1 h1 r1 z1=>Ψ5 x τ Γ1 Y _ ⟨r1,rs.mono s1.tq,h1,z1,dr.nx.mono s1,xr.mono s1⟩,xr⟩
def Iv(he:PE X e (AK E te))(hg:PG X tg (F7 E g))(hs:swapsWithSole [tg] e pos.line X.env=pure false:=by rfl)(hw:swappedStores [tg] e X.env=pure none:=by rfl)
  (h1:(assignEach [tg] X.env).map (·.2)=[assign tg X.env]:=by rfl):PS X (.Assign [tg] e pos) (Cj E (UL te g)):=cG (MN he hg hs hw h1) vD
abbrev P8(i:Nat)(te:AX):Be:=λY D τ Γ=>te Y τ Γ λx Γ1=>D.nx (τ.set i (some x)) Γ1
def xZ{x:Str}(hN:X.N.Nodup)(hi:X.N[i]?=some x)(hx:Gl X.env.scope x)(he:PE X e (AK E te))(hs:swapsWith e (some (.Name x pos')) pos.line X.env=pure false:=by rfl)(hf:Fk X x:=by first|show .inl rfl|show .inr rfl|assumption):
  PS X (.Assign [.Name x pos'] e pos) (Cj E (P8 i te)):=HD (HG hN hi hx he hs hf) λD σ H τ Γ Y Z rs hr t dr xr=>
   ⟨τ,Γ,Y,_,rs,hr,t,λv x H1 Γ1 s1 h1 r1 z1=>dr.nx _ _ H1 Γ1 s1 h1 ((rs.mono s1.tq).set r1 i) z1,xr⟩
abbrev Rj(i:Nat)(te:AX)(r:Dz):Be:=λY D τ Γ=>∃x,τ[i]?=some (some x)∧te Y τ Γ λy Γ1=>r x y Γ1 λz Γ2=>D.nx (τ.set i (some z)) Γ2
def bp{x:Str}{op:Operator}{r3:Dz}(hN:X.N.Nodup)(hi:X.N[i]?=some x)(hx:Gl X.env.scope x)(he:PE X e (AK E te))(ho:CJ X (inplaceOp op) r3)(hf:Fk X x:=by first|show .inl rfl|show .inr rfl|assumption):
  PS X (.AugAssign (.Name x pos') op e pos) (Cj E (Rj i te r3)):=by
 obtain⟨r,ho,h⟩:=ho;show cG (tB (ti:=r) hN hi hx he ho hf) λD σ H ⟨τ,Γ,Y,Z,rs,hr,⟨x,e,t⟩,dr,xr⟩=>?_;let⟨v,ev,rv⟩:=rs.get e;show⟨v,ev,τ,Γ,Y,_,rs,hr,t,λw y H1 Γ1 s1 h1 r1 z1=>?_,xr⟩;show h v w x y H1 Γ1 _ _ (rv.mono s1.tq) r1 h1 z1 λu z H2 Γ2 s2 h2 r2 z2=>?_;show dr.nx _ _ H2 Γ2 (s1.trans s2) h2 ((rs.mono (s1.trans s2).tq).set r2 i) z2
structure Walks(J:It)(ts:List T)(gd:AL→Prop)(H0:A7):Prop where
 go:∀i H Γ,Tq H0 H→HR H Γ→gd Γ→i<ts.length→J.go i H
 vt:∀i H Γ x H',Tq H0 H→HR H Γ→gd Γ→i<ts.length→J.vt i H x H'→fN H Γ H' Γ∧HR H' Γ∧∃t,ts[i]?=some t∧R H' x t
 stop:∀H Γ,Tq H0 H→HR H Γ→gd Γ→J.stop ts.length H
abbrev I3:=EM→Bn→AL→(List T→(AL→Prop)→AL→Prop)→Prop
abbrev GV(E:St→BF)(wi:I3):F5:=λσ H Q=>∃τ Γ Y Z,RS H σ τ∧HR H Γ∧wi Y τ Γ Z∧(∀J ts gd H' Γ',fN H Γ H' Γ'→HR H' Γ'→Walks J ts gd H'→Z ts gd Γ'→Q J H')∧XR H Γ Y E
def Mk{t0:F5}{t:I3}(h:PI X tg e t0)(w:∀σ H Q τ Γ Y Z,RS H σ τ→HR H Γ→t Y τ Γ Z→(∀J ts gd H' Γ',fN H Γ H' Γ'→HR H' Γ'→Walks J ts gd H'→Z ts gd Γ'→Q J H')→XR H Γ Y E→t0 σ H Q):PI X tg e (GV E t):=
 ac1 h (by intro σ H Q⟨τ,Γ,Y,Z,rs,hr,q,vr,xr⟩;show w σ H Q τ Γ Y Z rs hr q vr xr)
abbrev TY(gd:AL→Prop)(g:ES)(tb:Be)(Y:EM)(D:FC)(ts:List T)(τ:Bn)(Γ:AL):Prop:=∃P:List T→Bn→AL→Prop,P ts τ Γ∧(∀τ Γ,P [] τ Γ→gd Γ∧D.nx τ Γ)∧
 ∀x r τ Γ,P (x::r) τ Γ→gd Γ∧g Y x τ Γ λτ2 Γ2=>tb Y {D with nx:=P r,ct:=P r,bk:=D.nx} τ2 Γ2
abbrev jJ(wi:I3)(g:ES)(tb:Be):Be:=λY D τ Γ=>wi Y τ Γ λts gd Γ1=>TY gd g tb Y D ts τ Γ1
def drop_cons{α:Type}{xs:List α}(h:i<xs.length):xs.drop i=xs[i]::xs.drop (i+1):=eT h
def G6{iter:Expr}(hp:PassesOwn (model X.prog X.w) X.A X.env X.xe)(hc:X.calm=true)(hi:PI X tg iter (GV E wi))(hg:PG X tg (F7 E g))(hb:kl X body (Cj E tb))
  (hs:∀x,foldedSetIterable iter X.env x=pure x:=by intro _;rfl):PS X (.For tg iter body [] pos) (Cj E (jJ wi g tb)):=
 HD (jM hp hc hi hg hb hs) λD σ H τ Γ Y Z rs hr t dr xr=>by
  show Ψ4 τ Γ Y _ ⟨rs,hr,t,λJ ts gd H1 Γ1 s1 h1 wk ξ=>Ξ13 ξ λP z1 p0 pc=>?_,xr⟩;show⟨λi m σ' H'=>∃τ' Γ',i≤ts.length∧m=ts.length-i∧RS H' σ' τ'∧HR H' Γ'∧fN H1 Γ1 H' Γ'∧P (ts.drop i) τ' Γ',Ψ3 ts.length τ Γ1 ⟨CV _,rfl,rs.mono s1.tq,h1,.refl,z1⟩,?_⟩;intro i m σ2 H2⟨τ2,Γ2,hi,rfl,xC,h2,s2,w2⟩;by_cases fI:i<ts.length
  ·rw[drop_cons fI]at w2
   let⟨g2,w2⟩:=pc _ _ _ _ w2;show .inr ⟨wk.go i H2 Γ2 s2.tq h2 g2 fI,λσ' H'=>∃τ' Γ',RS H' σ' τ'∧HR H' Γ'∧fN H1 Γ1 H' Γ'∧P (ts.drop (i+1)) τ' Γ',λσ' H' ξ=>Ξ24 ξ λτ' Γ' a b c d=>⟨ts.length-(i+1),by lia,τ',Γ',fI,rfl,a,b,c,d⟩,λx H3 yl=>?_⟩;let⟨s3,h3,⟨x3,e3,r3⟩⟩:=wk.vt i H2 Γ2 x H3 s2.tq h2 g2 fI yl;rw[BZ fI]at e3;cases e3;show Ψ5 _ τ2 Γ2 Y _ ⟨r3,xC.mono s3.tq,h3,w2,λσ4 τ4 H4 Γ4 s4 h4 r4 z4=>?_,xr.mono ((s1.trans s2).trans s3)⟩;let s5:=(s2.trans s3).trans s4;show Ψ4 τ4 Γ4 Y _ ⟨r4,h4,z4,⟨λσ' τ' H' Γ' s h r z=>Ψ2 τ' Γ' ⟨r,h,s5.trans s,z⟩,dr.rt.mono (s1.trans s5),dr.nx.mono (s1.trans s5),λσ' τ' H' Γ' s h r z=>Ψ2 τ' Γ' ⟨r,h,s5.trans s,z⟩⟩,xr.mono (s1.trans s5)⟩
  ·let e:i=ts.length:=by lia
   subst e;rw[PB]at w2;let w2:=p0 _ _ w2;show .inl ⟨wk.stop H2 Γ2 s2.tq h2 w2.1,dr.nx σ2 τ2 H2 Γ2 (s1.trans s2) h2 xC w2.2⟩
abbrev gJ(c:CY)(tb:Be):Be:=λY D τ Γ=>∃W:Nat→Bn→AL→Prop,(∃m,W m τ Γ)∧∀m τ Γ,W m τ Γ→
 c Y τ Γ λb Γ1=>if b=true then ∃N:Bn→AL→Prop,(∀τ' Γ',N τ' Γ'→∃m',m' < m∧W m' τ' Γ')∧tb Y {D with nx:=N,ct:=N,bk:=D.nx} τ Γ1 else D.nx τ Γ1
def eE(hp:PassesOwn (model X.prog X.w) X.A X.env X.xe)(hc:PT X c (Cf E tc))(hb:kl X body (Cj E tb)):PS X (.While c body [] pos) (Cj E (gJ tc tb)):=
 HD (adw hp hc hb) λD σ H τ Γ Y Z rs hr q0 dr xr=>by
  let⟨W,⟨m0,w0⟩,turn⟩:=q0;show⟨λm σ' H'=>∃τ' Γ',RS H' σ' τ'∧HR H' Γ'∧fN H Γ H' Γ'∧W m τ' Γ',Ψ3 m0 τ Γ ⟨rs,hr,.refl,w0⟩,?_⟩;intro m σ1 H1⟨τ1,Γ1,pH,h1,s1,w1⟩;show Ψ4 τ1 Γ1 Y _ ⟨pH,h1,turn m τ1 Γ1 w1,λk H2 Γ2 s2 h2 z2=>?_,xr.mono s1⟩;cases k with
  |false=>show dr.nx σ1 τ1 H2 Γ2 (s1.trans s2) h2 (pH.mono s2.tq) z2
  |true=>
   obtain⟨N,hN,z2⟩:=z2;show⟨λσ' H'=>∃τ' Γ',RS H' σ' τ'∧HR H' Γ'∧fN H Γ H' Γ'∧N τ' Γ',λσ' H' ξ=>Ξ24 ξ λτ' Γ' a b c d=>?_,?_⟩
   ·let⟨m',hm,w'⟩:=hN τ' Γ' d
    show⟨m',hm,τ',Γ',a,b,c,w'⟩
   ·let s3:=s1.trans s2
    show Ψ4 τ1 Γ2 Y _ ⟨pH.mono s2.tq,h2,z2,⟨λσ' τ' H' Γ' s h r z=>Ψ2 τ' Γ' ⟨r,h,s3.trans s,z⟩,dr.rt.mono s3,dr.nx.mono s3,λσ' τ' H' Γ' s h r z=>Ψ2 τ' Γ' ⟨r,h,s3.trans s,z⟩⟩,xr.mono s3⟩
abbrev Jz(own:List Str)(cap:List (Nat×Str))(τ:Bn):Bn:=List.replicate own.length none++cap.map λp=>(τ[p.1]?).getD none
def iY{H:A7}:∀{a:St} {b:Bn} {c:St} {d:Bn},RS H a b→RS H c d→RS H (a++c) (b++d)
 |[],[],_,_,_,h=>h
 |_::_,_::_,_,_,h,q=>⟨h.1,iY h.2 q⟩
 |[],_::_,_,_,h,_=>h.elim
 |_::_,[],_,_,h,_=>h.elim
def jN{H:A7}:∀n:Nat,RS H (List.replicate n none) (List.replicate n none)
 |0=>trivial
 |n+1=>⟨trivial,jN n⟩
def je{σ:St}{τ:Bn}(own:List Str)(h:RS H σ τ):∀cap:List (Nat×Str),RS H (IK own cap σ) (Jz own cap τ):=λcap=>by
 show iY (jN _) ?_;induction cap with
 |nil=>show trivial
 |cons p r ih=>
  show⟨?_,ih⟩;show Rw H ((σ[p.1]?).getD none) ((τ[p.1]?).getD none)
  cases e:τ[p.1]? with
  |none=>show trivial
  |some o=>
   cases o with
   |none=>show trivial
   |some x=>
    let⟨v,ev,rv⟩:=h.get e;rw[ev];show rv
@[reducible]def EG:EM:=λ_ _ _=>False
abbrev RC(gd:AL→Prop)(g:ES)(tc:CY)(te:AX)(C:List T→AL→Prop)(ts:List T)(τ:Bn)(ys:List T)(Γ:AL):Prop:=∃P:List T→Bn→List T→AL→Prop,P ts τ ys Γ∧(∀τ ys Γ,P [] τ ys Γ→gd Γ∧C ys Γ)∧
 ∀x r τ ys Γ,P (x::r) τ ys Γ→gd Γ∧g EG x τ Γ λτ3 Γ3=>tc EG τ3 Γ3 λb Γ4=>if b=true then te EG τ3 Γ4 λy Γ5=>P r τ3 (ys++[y]) Γ5 else P r τ3 ys Γ4
abbrev Og(wi:I3)(g:ES)(tc:CY)(te:AX)(own:List Str)(cap:List (Nat×Str)):AX:=λY τ Γ Z=>wi Y τ Γ λts gd Γ1=>ts.length≤sizeLine∧
 RC gd g tc te (λys Γ2=>∀D,Γ2 D=none→Z (.ref D) (up Γ2 D (.lst ys))) ts (Jz own cap τ) [] Γ1
@[reducible]def Ed:St→BF:=λ_=>Jv
def JC:XR H Γ EG Ed:=λ_ _ _ _ _ _ _ _ z=>z.elim
def gy(σ:St)(H:A7)(Q:Au)(q:AK E (Og wi g tc te own cap) σ H Q):Nr (GV E wi) (F7 Ed g) (Cf Ed tc) (AK Ed te) own cap σ H Q:=by
 let⟨τ,Γ,Y,Z,rs,hr,t,vr,xr⟩:=q;show Ψ4 τ Γ Y _ ⟨rs,hr,t,λJ ts gd H1 Γ1 s1 h1 wk⟨hz,P,z1,p0,pc⟩=>?_,xr⟩;intro D hD;let nl:∀vs:List V,(∀us:List V,HO.lst vs≠.tup us)∧∀b w,HO.lst vs≠.frz b w:=λ_=>⟨λ_ z=>(nomatch z),λ_ _ z=>(nomatch z)⟩;show⟨λi m σ' vs H'=>∃τ' ys Γ',i≤ts.length∧m=ts.length-i∧vs.length≤i∧RS H' σ' τ'∧HR H' Γ'∧H' D=some (.lst vs)∧Γ' D=none∧Rs H' vs ys∧fN H1 Γ1 H' Γ'∧P (ts.drop i) τ' ys Γ',
  ⟨ts.length,Jz own cap τ,[],Γ1,CV _,rfl,Ak _,(je own (rs.mono s1.tq) cap).mono (DA (Dk hD)),h1.keep (Dk hD),B0,h1.free hD,D3,.keep (Dk hD),z1⟩,?_⟩
 intro i m σ2 vs H2⟨τ2,ys,Γ2,hi,rfl,hv,xC,h2,d2,gD,ry,s2,w2⟩;show⟨d2,?_⟩;by_cases fI:i<ts.length
 ·rw[drop_cons fI]at w2
  let⟨g2,w2⟩:=pc _ _ _ _ _ w2;show .inr ⟨wk.go i H2 Γ2 s2.tq h2 g2 fI,by lia,λσ' ws H'=>∃τ' ys Γ',ws.length≤i+1∧RS H' σ' τ'∧HR H' Γ'∧H' D=some (.lst ws)∧Γ' D=none∧Rs H' ws ys∧fN H1 Γ1 H' Γ'∧P (ts.drop (i+1)) τ' ys Γ',
   λσ' ws H' ξ=>Ξ31 ξ λτ' ys Γ' ξ=>Ξ08 ξ λa b c d e f k l=>⟨ts.length-(i+1),by lia,τ',ys,Γ',fI,rfl,a,b,c,d,e,f,k,l⟩,λx H3 yl=>?_⟩
  let⟨s3,h3,⟨x3,e3,r3⟩⟩:=wk.vt i H2 Γ2 x H3 s2.tq h2 g2 fI yl;rw[BZ fI]at e3;cases e3;show Ψ5 _ τ2 Γ2 EG _ ⟨r3,xC.mono s3.tq,h3,w2,λσ4 τ4 H4 Γ4 s4 h4 r4 z4=>?_,JC⟩;show Ψ4 τ4 Γ4 EG _ ⟨r4,h4,z4,λk H5 Γ5 s5 h5 z5=>?_,JC⟩;let Bo:=(s3.trans s4).trans s5;let d5:H5 D=some (.lst vs):=Bo.CB D _ d2 gD;let g5:Γ5 D=none:=Bo.new D (by rw[d2];exactλz=>nomatch z) gD;cases k with
  |false=>show Ψ3 τ4 ys Γ5 ⟨Qb hv,r4.mono s5.tq,h5,d5,g5,ry.mono Bo.tq,s2.trans Bo,z5⟩
  |true=>
   show Ψ4 τ4 Γ5 EG _ ⟨r4.mono s5.tq,h5,z5,λy y' H6 Γ6 s6 h6 r6 z6=>?_,JC⟩;let G8:=Bo.trans s6;let d6:H6 D=some (.lst vs):=G8.CB D _ d2 gD;let g6:Γ6 D=none:=G8.new D (by rw[d2];exactλz=>nomatch z) gD;let tq:Tq H6 (upd H6 D (.lst (vs++[y]))):=La d6 (nl vs);show⟨d6,τ4,ys++[y'],Γ6,by rw[B9];show Nat.succ_le_succ hv,(r4.mono (s5.trans s6).tq).mono tq,h6.hide g6 d6 (nl vs),B0,g6,Rs.app ((ry.mono G8.tq).mono tq) (CS (r6.mono tq) D3),?_,z6⟩;let s7:=s2.trans G8;show⟨s7.tq.trans tq,λa h z=>?_,s7.new,λa o h g=>?_⟩
   ·by_cases e:a=D
    ·subst e;show h hD
    ·rw[AW e]at z;show s7.GD a h z
   ·let e:a≠D:=λe=>by subst e;rw[hD]at h;cases h
    rw[AW e];show s7.CB a o h g
 ·let e:i=ts.length:=by lia
  subst e;rw[PB]at w2;let w2:=p0 _ _ _ w2;show .inl ⟨wk.stop H2 Γ2 s2.tq h2 w2.1,?_⟩;let G9:=s1.trans s2;show vr (.ref D) (.ref D) H2 (up Γ2 D (.lst ys)) ⟨G9.tq,G9.GD,λa h g=>?_,G9.CB⟩ (λa o g=>?_) EV (w2.2 D gD)
  ·let e:a≠D:=λe=>by subst e;show s1.GD _ h hD
   rw[B8 e];show G9.new a h g
  ·by_cases e:a=D
   ·subst e;rw[AE]at g;cases g;show⟨vs,d2,ry⟩
   ·rw[B8 e]at g;show h2 a o g
section
variable {scope: Scope}{cl: List (Str×Addr)}{own: List Str}{cap: List (Nat×Str)}{tg iter elt: Expr}{ifs: List Expr}{wi: I3}{g: ES}{tc: CY}{te: AX}
def Ds(c:eQ X scope cl own cap)(hc:X.calm=true)(hi:PI X tg iter (GV E wi))
  (hg:∀C s H fp,PG (CK X (own++cap.map (·.2)) scope cl C s H fp λ_ _=>False) tg (F7 Ed g)) (ht:∀C s H fp,tS (CK X (own++cap.map (·.2)) scope cl C s H fp λ_ _=>False) ifs (Cf Ed tc))
  (he:∀C s H fp,PE (CK X (own++cap.map (·.2)) scope cl C s H fp λ_ _=>False) elt (AK Ed te)) (hs:∀x,foldedSetIterable iter X.env x=pure x:=by intro _;rfl) :
  PE X (.ListComp elt [⟨tg,iter,ifs,0⟩] scope pos) (AK E (Og wi g tc te own cap)):=GC (zr c hc hi hg ht he hs) gy
def Rf{y:Str}{py DD:Pos}(c:eQ X scope cl own cap)(hc:X.calm=true)(hi:PI X tg iter (GV E wi))
  (hg:∀C s H fp,PG (CK X (own++cap.map (·.2)) scope cl C s H fp λ_ _=>False) tg (F7 Ed g)) (ht:∀C s H fp,tS (CK X (own++cap.map (·.2)) scope cl C s H fp λ_ _=>False) ifs (Cf Ed tc))
  (he:∀C s H fp,PE (CK X (own++cap.map (·.2)) scope cl C s H fp λ_ _=>False) elt (AK Ed te))
  (hN:X.N.Nodup) (hy:X.N[i]?=some y) (hl:X.env.scope.names.lookup y=some .local)
  (UT:swapsWith (.ListComp elt [⟨tg,iter,ifs,0⟩] scope pos) (some (.Name y py)) DD.line X.env=pure true:=by rfl) (hs:∀x,foldedSetIterable iter X.env x=pure x:=by intro _;rfl) :
  PS X (.Assign [.Name y py] (.ListComp elt [⟨tg,iter,ifs,0⟩] scope pos) DD) (Cj E (P8 i (Og wi g tc te own cap))):=
 HD (aag c hc hi hg ht he hN hy hl UT hs) λD σ H τ Γ Y Z rs hr t dr xr=>
  gy σ H _ ⟨τ,Γ,Y,_,rs,hr,t,λv x H1 Γ1 s1 h1 r1 z1=>dr.nx _ _ H1 Γ1 s1 h1 ((rs.mono s1.tq).set r1 i) z1,xr⟩
abbrev mw:CY:=λ_ _ Γ Z=>Z true Γ
def DF:tS X [] (Cf E mw):=yY acC λσ H Q τ Γ Y Z rs hr t vr xr=>vr true H Γ .refl hr t
def tH{t:CY}(h:PT X c (Cf E t)):tS X [c] (Cf E t):=tQ h
end
end
abbrev BW:List Str→List T→Bn
 |[],_=>[]
 |_::N,[]=>none::BW N []
 |_::N,t::ts=>some t::BW N ts
def i4{H:A7}:∀N:List Str,RS H (List.replicate N.length none) (BW N [])
 |[]=>trivial
 |_::N=>⟨trivial,i4 N⟩
def Pb{H:A7}:∀(N:List Str) {vs:List V} {ts:List T},Rs H vs ts→ts.length≤N.length→RS H (L2.start N vs) (BW N ts)
 |N,vs,[],h,_=>by
  rw[DI h];show i4 N
 |[],vs,t::ts,h,l=>absurd l (by simp)
 |n::N,vs,t::ts,h,l=>by
  let⟨v,ws,rfl,a,b⟩:=DG h;have:=Pb N b (by simpa using l);show⟨a,?_⟩;unfold L2.start at this;rw[BE,BE,Nat.add_sub_add_right];show this
def dI{N:List Str}{sc:Scope}(S:BA N ps sc):ps.length≤N.length:=by
 have:=Ca List.length S.pre;rw[Er]at this;lia
section
variable {x: Str}{C: Addr}{KW: List Value}{B newId yK: String}{e₀: Expr}{rest: List Expr}{t: D0}{E: BF}
abbrev iL(C:Addr)(t:D0):Be:=λY D τ Γ=>t Y τ Γ λxs Γ1=>xs.length≤sizeLine∧Y τ (.ref C) Γ1
def HJ(hc:X.calm=true)(hg:Bi X x)(hm:X.mg x=some (.ref C))(hx:W.excIn X.K C KW newId=true)(FB:ExcBaseFacts B newId yK KW)(ha:PA X (e₀::rest) (Dy (λ_=>E) t))(hE:Raises X E)
  (hd:(x ==("__debug__" : Str))=false:=by decide) (he:starEach (e₀::rest) X.env=(false,eval e₀ X.env)::starEach rest X.env:=by rfl) (gc:(backTo dQ (starEach rest X.env)).any (·.1)=false:=by rfl) :
  PS X (.Raise (some (.Call (.Name x np) (e₀::rest) [] dQ)) none pos) (Cj (λ_=>E) (iL C t)):=
 HD (se hc hg hm hx FB ha hE hd he gc) λD σ H τ Γ Y Z rs hr t dr xr=>
  ⟨τ,Γ,Y,_,rs,hr,t,λvs xs H1 Γ1 s1 h1 r1 z1=>⟨by rw[r1.length];show z1.1,xr σ τ _ H1 Γ1 s1 h1 (rs.mono s1.tq) z1.2⟩,xr⟩
end
section
variable {body oy: List Stmt}{b₀: Stmt}{y n: Str}{Fo: Pos}{Cy: Addr}{j: Nat}{tb ts: Be}
abbrev lW(K:W.Frag)(Cy:Addr)(j:Nat)(tb ts:Be):Be:=λ_ D τ Γ=>tb (λτ' C Γ'=>W.exmOne K C (.ref Cy)=some true∧∀x,Γ' x=none→
 ts EG {nx:=λτ2 Γ2=>D.nx (τ2.set j none) Γ2,rt:=D.rt,bk:=λτ2 Γ2=>D.bk (τ2.set j none) Γ2,ct:=λτ2 Γ2=>D.ct (τ2.set j none) Γ2} (τ'.set j (some (.ref x))) (up Γ' x (.ext (excAt x C)))) D τ Γ
def RS.unset:∀{σ:St} {τ:Bn} (i:Nat),RS H σ τ→RS H (σ.set i none) (τ.set i none)
 |[],[],_,_=>trivial
 |_::_,_::_,0,h=>⟨trivial,h.2⟩
 |_::_,_::_,i+1,h=>⟨h.1,RS.unset i h.2⟩
 |[],_::_,_,h=>h.elim
 |_::_,[],_,h=>h.elim
def NR.unset{Q:St→A7→Prop}(h:NR H Γ Z Q):NR H Γ (λτ2 Γ2=>Z (τ2.set j none) Γ2) (λσ2 H2=>Q (σ2.set j none) H2):=λσ τ H' Γ' s hr r z=>h _ _ H' Γ' s hr (r.unset j) z
def zj(lM:X.stack=X.env::X.outer)(IY:X.env.frame=some X.env.locals)(hy:Bi X y)(QJ:X.mg y=some (.ref Cy))(hN:X.N.Nodup)(hj:X.N[j]?=some n)(hl:X.env.scope.names.lookup n=some .local)
  (hb:∀(E':xz) (pn:ad) (W:St→BF),(∀x0 σ H s e s',Inv (X.tr E' pn) x0 σ H s→Dd X.prog X.w X.stack H s (W σ) e s'→E' e s')→kl (X.tr E' pn) body (Cj W tb))
  (hs:∀x,kl (X.su x) (b₀::oy) (Cj Ed ts)) (hd:(y ==("__debug__" : Str))=false:=by decide) :
  PS X (.Try body [.ExceptHandler (some (.Name y np)) (some n) (b₀::oy) Fo] [] [] pos) (Cj E (lW X.K Cy j tb ts)):=
 HD (abK lM IY hy QJ hN hj hl hb hs hd) λD σ H τ Γ Y Z rs hr t dr xr=>by
  show Ψ4 τ Γ _ Z ⟨rs,hr,t,dr,λσ1 τ1 C H1 Γ1 s1 h1 r1 y1=>⟨y1.1,λx hx=>?_⟩⟩;let k:=Dk (o:=.ext (excAt x C)) hx;let s2:fN H Γ (upd H1 x (.ext (excAt x C))) (up Γ1 x (.ext (excAt x C))):=s1.trans (.make hx);show Ψ4 _ _ EG _ ⟨RS.set EV j (r1.mono (DA k)),h1.make (o3:=.ext (excAt x C)) hx B0,y1.2 x (h1.free hx),⟨(dr.nx.mono s2).unset,dr.rt.mono s2,(dr.bk.mono s2).unset,(dr.ct.mono s2).unset⟩,JC⟩
end
abbrev sc:T→Option V
 |.non=>some .non|.bl b=>some (.bl b)|.int i=>some (.int i)|.str z=>some (.str z)|_=>none
def K9{u:V}(r:R H v x)(h:sc x=some u):v=u:=by
 cases x with
 |non=>cases h;show NJ r
 |bl b=>cases h;show GU r
 |int i=>cases h;show D8 r
 |str z=>cases h;show EH r
 |tup ts=>cases h
 |ref a=>cases h
 |ty n=>cases h
 |scr K a ts=>cases h
abbrev Ih:List T→Option (List V)
 |[]=>some []
 |x::r=>match sc x,Ih r with|some v,some vs=>some (v::vs)|_,_=>none
def ay{H:A7}:∀{ts:List T} {vs us:List V},Rs H vs ts→Ih ts=some us→vs=us
 |[],vs,us,r,h=>by cases h;show DI r
 |x::q,vs,us,r,h=>by
  let⟨v,ws,rfl,a,b⟩:=DG r;unfold Ih at h;split at h
  ·rename_i v' m6 e1 e2
   cases h;rw[K9 a e1,ay b e2]
  ·cases h
abbrev Dt(Γ:AL):T→Option (List T)
 |.tup ts=>some ts
 |.ref a=>match Γ a with|some (.lst ts)=>some ts|_=>none
 |_=>none
def As(h:Γ a=some (.lst ts)):Dt Γ (.ref a)=some ts:=by
 show(match Γ a with|some (.lst ts)=>some ts|_=>none)=_
 rw[h]
def GL(hr:HR H Γ)(h:Dt Γ (.ref a)=some ts):∃vs,eB K H a vs∧Rs H vs ts:=by
 have h:(match Γ a with|some (.lst ts)=>some ts|_=>none)=some ts:=h;split at h
 ·rename_i m7 g;cases h;let⟨vs,ha,q⟩:=hr a _ g;show⟨vs,eB.of ha,q⟩
 ·cases h
def Qu(r:R H v x)(hr:HR H Γ)(h:Dt Γ x=some ts):∃p vs,v=.ref p∧(eB K H p vs∨dD K H p vs)∧Rs H vs ts:=by
 cases x with
 |tup us=>cases h;let⟨a,vs,e,ha,q⟩:=De r;show Ψ2 a vs ⟨e,.inr (dD.of ha),q⟩
 |ref a=>let⟨vs,s,q⟩:=GL (K:=K) hr h;show Ψ2 a vs ⟨CH r,.inl s,q⟩
 |_=>cases h
section
abbrev Hr(C:Int→Int→Prop)(g:Int→Int→T):Dz:=λx y Γ Z=>∃i j,x=.int i∧y=.int j∧C i j∧Z (g i j) Γ
abbrev GF(g:Int→Int→T):Dz:=λx y Γ Z=>∃i j,x=.int i∧y=.int j∧Z (g i j) Γ
def NG{g:Int→Int→V}(h:Bs X f (Ir C g))(e:∀i j H,R H (g i j) (g3 i j)):CJ X f (Hr C g3):=
 ⟨_,h,λx y a b H Γ Q Z ra rb hr q0 vr=>by let⟨i,j,ea,eb,c,z⟩:=q0;subst ea eb;show Ψ2 i j ⟨D8 ra,D8 rb,c,vr _ _ H Γ .refl hr (e i j H) z⟩⟩
def Ke{g:Int→Int→V}(h:Bs X f (Ht g))(e:∀i j H,R H (g i j) (g3 i j)):CJ X f (GF g3):=
 ⟨_,h,λx y a b H Γ Q Z ra rb hr q0 vr=>by let⟨i,j,ea,eb,z⟩:=q0;subst ea eb;show Ψ2 i j ⟨D8 ra,D8 rb,vr _ _ H Γ .refl hr (e i j H) z⟩⟩
def CI:CJ X (binaryOp .Add) (GF λi j=>.int (i+j)):=Ke IE λ_ _ _=>DL
def Fe:CJ X (binaryOp .Sub) (GF λi j=>.int (i-j)):=Ke Lq λ_ _ _=>DL
def GG:CJ X (binaryOp .Mult) (Hr vh λi j=>.int (i*j)):=NG Ov λ_ _ _=>DL
def LK:CJ X (binaryOp .FloorDiv) (Hr A6 λi j=>.int (i/j)):=NG aI λ_ _ _=>DL
def cR:CJ X (binaryOp .Mod) (Hr (λ_ j=>0<j) λi j=>.int (i%j)):=NG NB λ_ _ _=>DL
def Gb:CJ X (binaryOp .Pow) (Hr gM λi j=>.int (i^j.toNat)):=NG Qd λ_ _ _=>DL
def Ml:CJ X (compareOp .Lt) (GF λi j=>.bl (decide (i<j))):=Ke pG λ_ _ _=>E0
def Pe:CJ X (compareOp .LtE) (GF λi j=>.bl (decide (i≤j))):=Ke zE λ_ _ _=>E0
def Ip:CJ X (compareOp .Gt) (GF λi j=>.bl (decide (j<i))):=Ke SW λ_ _ _=>E0
def Kw:CJ X (compareOp .GtE) (GF λi j=>.bl (decide (j≤i))):=Ke aax λ_ _ _=>E0
def jG:CJ X (inplaceOp .Add) (GF λi j=>.int (i+j)):=Ke rA λ_ _ _=>DL
def ab0:CJ X (inplaceOp .Mult) (Hr vh λi j=>.int (i*j)):=NG acv λ_ _ _=>DL
def aeL:CJ X (binaryOp .Add) (λx y Γ Z=>∃i j,x=.str i∧y=.str j∧i.length+j.length≤sizeLine∧Z (.str (i++j)) Γ):=
 ⟨_,qz,λx y a b H Γ Q Z ra rb hr q0 vr=>by let⟨i,j,ea,eb,c,z⟩:=q0;subst ea eb;show Ψ2 i j ⟨EH ra,EH rb,c,vr _ _ H Γ .refl hr Em z⟩⟩
def Skk:CJ X (binaryOp .Mult) (λx y Γ Z=>∃z k,x=.str z∧y=.int k∧-(2^62)<k∧k≤1000∧z.length≤1000∧Z (.str (FV z k.toNat)) Γ):=
 ⟨_,rk,λx y a b H Γ Q Z ra rb hr q0 vr=>by let⟨i,j,ea,eb,c1,c2,c3,z⟩:=q0;subst ea eb;show Ψ2 i j ⟨EH ra,D8 rb,c1,c2,c3,vr _ _ H Γ .refl hr Em z⟩⟩
abbrev bD:Dz:=λx y Γ Z=>∃u v,sc x=some u∧sc y=some v∧Rq u v=true∧Z (.bl (decide (u=v))) Γ
abbrev Tr:Dz:=λx y Γ Z=>∃u v,sc x=some u∧sc y=some v∧Rq u v=true∧Z (.bl (!decide (u=v))) Γ
def BH:CJ X (compareOp .Eq) bD:=
 ⟨_,My,λx y a b H Γ Q Z ra rb hr q0 vr=>by let⟨u,v,ea,eb,c,z⟩:=q0;rw[K9 ra ea,K9 rb eb];show⟨c,vr _ _ H Γ .refl hr E0 z⟩⟩
def Ei:CJ X (compareOp .NotEq) Tr:=
 ⟨_,xv,λx y a b H Γ Q Z ra rb hr q0 vr=>by let⟨u,v,ea,eb,c,z⟩:=q0;rw[K9 ra ea,K9 rb eb];show⟨c,vr _ _ H Γ .refl hr E0 z⟩⟩
abbrev qI:T→Bool|.non=>true|_=>false
def aaq(r:R H v x):decide (v=.non)=qI x:=by
 cases x with
 |non=>rw[NJ r];rfl
 |bl b=>rw[GU r];rfl
 |int i=>rw[D8 r];rfl
 |str z=>rw[EH r];rfl
 |tup ts=>let⟨a,vs,e,_⟩:=De r;rw[e];rfl
 |ref a=>rw[CH r];rfl
 |ty n=>rw[fV r];rfl
 |scr K a ts=>rw[(bL r).1];rfl
def Ux:CJ X (compareOp .Is) (λx y Γ Z=>y=.non∧Z (.bl (qI x)) Γ):=
 ⟨_,ad1,λx y a b H Γ Q Z ra rb hr q0 vr=>by let⟨eb,z⟩:=q0;subst eb;show⟨NJ rb,by rw[aaq ra];show vr _ _ H Γ .refl hr E0 z⟩⟩
abbrev Q6(neg:Bool):Dz:=λx y Γ Z=>∃u ts us,sc x=some u∧Dt Γ y=some ts∧Ih ts=some us∧EN u=true∧us.all EN=true∧Z (.bl (if neg then !Ie u us else Ie u us)) Γ
def kT(x y:V)(a b:T)(H:A7)(Γ:AL)(Q:Au)(Z:Cr)(ra:R H x a)(rb:R H y b)(hr:HR H Γ)(h:Q6 neg a b Γ Z)(vr:VR H Γ Z Q):SI X.K neg x y H Q:=by
 let⟨u,ts,us,ea,eb,es,f1,f2,z⟩:=h;let⟨p,vs,rfl,sq,q⟩:=Qu (K:=X.K) rb hr eb;rw[K9 ra ea];cases ay q es;show Ψ2 p _ ⟨rfl,sq,f1,f2,vr _ _ H Γ .refl hr E0 z⟩
def xI:CJ X (compareOp .In) (Q6 false):=⟨_,yG,kT⟩
def aaF:CJ X (compareOp .NotIn) (Q6 true):=⟨_,sC,kT⟩
def aaT(hu:X.A.units<cLine):CJ X (compareOp .NotEq) (λx y Γ Z=>∃ts,x=.tup ts∧y=.tup []∧Z (.bl (!ts.isEmpty)) Γ):=
 ⟨_,sF hu,λx y a b H Γ Q Z ra rb hr q0 vr=>by
  let⟨ts,ea,eb,z⟩:=q0;subst ea eb;let⟨p,vs,rfl,hp,q⟩:=De ra;let⟨p',m6,rfl,Aw,q'⟩:=De rb;rw[DI q']at Aw;show Ψ3 p p' vs ⟨rfl,rfl,hp,Aw,?_⟩;have:vs.isEmpty=ts.isEmpty:=by
   have:=q.length;cases vs<;>cases ts<;>simp_all
  rw[this];show vr _ _ H Γ .refl hr E0 z⟩
def NH(q:Rs H vs ts):vs.isEmpty=ts.isEmpty:=by
 have:=q.length;cases vs<;>cases ts<;>simp_all
def gv(hu:X.A.units<cLine):CJ X (compareOp .Eq) (λx y Γ Z=>∃a b ts,x=.ref a∧y=.ref b∧Γ a=some (.lst ts)∧Γ b=some (.lst [])∧Z (.bl ts.isEmpty) Γ):=
 ⟨_,aed hu,λx y a b H Γ Q Z ra rb hr q0 vr=>by
  let⟨p,p',ts,ea,eb,g1,g2,z⟩:=q0;subst ea eb;let⟨vs,hv,q⟩:=hr p _ g1;let⟨m6,IT,q'⟩:=hr p' _ g2;rw[DI q']at IT;show Ψ3 p p' vs ⟨CH ra,CH rb,eB.of hv,eB.of IT,by rw[NH q];show vr _ _ H Γ .refl hr E0 z⟩⟩
def fS(hu:X.A.units<cLine):CJ X (compareOp .NotEq) (λx y Γ Z=>∃a b ts,x=.ref a∧y=.ref b∧Γ a=some (.lst ts)∧Γ b=some (.lst [])∧Z (.bl (!ts.isEmpty)) Γ):=
 ⟨_,rd hu,λx y a b H Γ Q Z ra rb hr q0 vr=>by
  let⟨p,p',ts,ea,eb,g1,g2,z⟩:=q0;subst ea eb;let⟨vs,hv,q⟩:=hr p _ g1;let⟨m6,IT,q'⟩:=hr p' _ g2;rw[DI q']at IT;show Ψ3 p p' vs ⟨CH ra,CH rb,eB.of hv,eB.of IT,by rw[NH q];show vr _ _ H Γ .refl hr E0 z⟩⟩
abbrev qq:Dz:=λx y Γ Z=>∃ts us,x=.tup ts∧y=.tup us∧ts.length+us.length≤sizeLine∧Z (.tup (ts++us)) Γ
def FR(k:Kp [] H H'):∀b o,H b=some o→H' b=some o:=λb o h=>k b o (by simp) h
def EU:CJ X (binaryOp .Add) qq:=
 ⟨_,rL,λx y a b H Γ Q Z ra rb hr q0 vr=>by
  let⟨ts,us,ea,eb,l,z⟩:=q0;subst ea eb;let⟨p,vs,rfl,hp,q⟩:=De ra;let⟨p',m6,rfl,Aw,q'⟩:=De rb;show Ψ4 p p' vs m6 ⟨rfl,rfl,hp,Aw,by rw[q.length,q'.length];show l,λc H' k hc=>?_⟩;show vr _ _ H' Γ (.keep (FR k)) (hr.keep (FR k)) (Ea hc (Rs.app (q.mono (DA (FR k))) (q'.mono (DA (FR k))))) z⟩
abbrev adN:Dz:=λx y Γ Z=>∃a b ts us,x=.ref a∧y=.ref b∧Γ a=some (.lst ts)∧Γ b=some (.lst us)∧ts.length+us.length≤sizeLine∧∀p,Γ p=none→Z (.ref p) (up Γ p (.lst (ts++us)))
def Mt:CJ X (binaryOp .Add) adN:=
 ⟨_,acR,λx y a b H Γ Q Z ra rb hr q0 vr=>by
  let⟨p,p',ts,us,ea,eb,g1,g2,l,z⟩:=q0;subst ea eb;let⟨vs,hv,q⟩:=hr p _ g1;let⟨m6,IT,q'⟩:=hr p' _ g2;show Ψ4 p p' vs m6 ⟨CH ra,CH rb,hv,IT,by rw[q.length,q'.length];show l,λc hc=>?_⟩;let k:=Dk (o:=.lst (vs++m6)) hc;show vr _ _ _ _ (.make hc) (hr.make (o3:=.lst (ts++us)) hc ⟨_,B0,Rs.app (q.mono (DA k)) (q'.mono (DA k))⟩) EV (z c (hr.free hc))⟩
abbrev aeh:Dz:=λx y Γ Z=>∃ts k,x=.tup ts∧y=.int k∧0≤k∧k≤1000∧ts.length≤1000∧Z (.tup (List.replicate k.toNat ts).flatten) Γ
def iy{H:A7}{vs:List V}{ts:List T}(q:Rs H vs ts):∀n:Nat,Rs H (List.replicate n vs).flatten (List.replicate n ts).flatten
 |0=>D3
 |n+1=>by
  rw[Gg,Gg,E9,E9];show Rs.app q (iy q n)
def T2:CJ X (binaryOp .Mult) aeh:=
 ⟨_,uw,λx y a b H Γ Q Z ra rb hr q0 vr=>by
  let⟨ts,k,ea,eb,k0,k1,l,z⟩:=q0;subst ea eb;let⟨p,vs,rfl,hp,q⟩:=De ra;show Ψ3 p k vs ⟨rfl,D8 rb,hp,k0,k1,by rw[q.length];show l,λc H' kp hc=>?_⟩;show vr _ _ H' Γ (.keep (FR kp)) (hr.keep (FR kp)) (Ea hc (iy (q.mono (DA (FR kp))) _)) z⟩
def vX{i:Int}{t:T}(q:Rs H vs ts)(h:Bw ts i=some t):∃v,Bw vs i=some v∧R H v t:=by
 unfold Bw at h ⊢;rw[q.length];cases e:FN ts.length i with
 |none=>rw[e]at h;cases h
 |some j=>
  rw[e]at h;let h':ts[j]?=some t:=h;let⟨v,hv,r⟩:=q.get h';show⟨v,hv,r⟩
abbrev KC:Dz:=λx y Γ Z=>∃ts i t,Dt Γ x=some ts∧y=.int i∧Bw ts i=some t∧Z t Γ
abbrev dy:Dz:=λx y Γ Z=>∃z i c,x=.str z∧y=.int i∧z.length≤sizeLine∧Bw z.cps.toList i=some c∧Z (.str ⟨#[c]⟩) Γ
variable {a b e: Expr}{ta tb te: AX}
def zY(ha:PE X a (AK E ta))(hb:PE X b (AK E tb))(hs:NC b):PE X (.Subscript a b pos) (AK E (F0 KC ta tb)):=
 GC (Eu rX ha hb hs) (Mm λx y a b H Γ Q Z ra rb hr q0 vr=>by
  let⟨ts,i,t,ea,eb,h,z⟩:=q0;subst eb;let⟨p,vs,rfl,sq,q⟩:=Qu (K:=X.K) ra hr ea;let⟨v,hv,r⟩:=vX q h;rcases sq with sq|sq
  ·show .inl ⟨p,vs,i,v,rfl,D8 rb,sq,hv,vr _ _ H Γ .refl hr r z⟩
  ·show .inr (.inl ⟨p,vs,i,v,rfl,D8 rb,sq,hv,vr _ _ H Γ .refl hr r z⟩))
def y0(ha:PE X a (AK E ta))(hb:PE X b (AK E tb))(hs:NC b):PE X (.Subscript a b pos) (AK E (F0 dy ta tb)):=
 GC (Eu O5 ha hb hs) (Mm λx y a b H Γ Q Z ra rb hr q0 vr=>by
  let⟨w,i,c,ea,eb,l,h,z⟩:=q0;subst ea eb;show Ψ3 w i c ⟨EH ra,D8 rb,l,h,vr _ _ H Γ .refl hr Em z⟩)
abbrev JG:=EM→Bn→AL→(Option Int→AL→Prop)→Prop
abbrev Mq(E:St→BF)(t:JG):IJ:=λσ H Q=>∃τ Γ Y Z,RS H σ τ∧HR H Γ∧t Y τ Γ Z∧(∀i H' Γ',fN H Γ H' Γ'→HR H' Γ'→Z i Γ'→Q i H')∧XR H Γ Y E
def ab7{e:Option Expr}{t t':IJ}(h:PO X e t)(w:∀σ H Q,t' σ H Q→t σ H Q):PO X e t':=⟨λx0 s σ H Q I q=>h.run x0 s σ H Q I (w _ _ _ q)⟩
def jn{e:Option Expr}{t0:IJ}{t:JG}(h:PO X e t0)(w:∀σ H Q τ Γ Y Z,RS H σ τ→HR H Γ→t Y τ Γ Z→(∀i H' Γ',fN H Γ H' Γ'→HR H' Γ'→Z i Γ'→Q i H')→XR H Γ Y E→t0 σ H Q):PO X e (Mq E t):=
 ab7 h (by intro σ H Q⟨τ,Γ,Y,Z,rs,hr,q,vr,xr⟩;show w σ H Q τ Γ Y Z rs hr q vr xr)
abbrev fO:JG:=λ_ _ Γ Z=>Z none Γ
abbrev jv(t:AX):JG:=λY τ Γ Z=>t Y τ Γ λx Γ1=>∃i,x=.int i∧Z (some i) Γ1
def DM:PO X none (Mq E fO):=jn aaR λσ H Q τ Γ Y Z rs hr t vr xr=>vr none H Γ .refl hr t
def CN(h:PE X e (AK E te)):PO X (some e) (Mq E (jv te)):=jn (tR h) λσ H Q τ Γ Y Z rs hr t vr xr=>
 ⟨τ,Γ,Y,_,rs,hr,t,λv x H1 Γ1 s1 h1 r1 q0=>by let⟨i,ex,z⟩:=q0;subst ex;show⟨i,D8 r1,vr _ H1 Γ1 s1 h1 z⟩,xr⟩
abbrev PD:=T→Option Int→Option Int→AL→Cr→Prop
abbrev Pu(X:Cx)(r3:PD):Prop:=∃r,JY X r∧∀x a lo hi H Γ Q Z,R H x a→HR H Γ→r3 a lo hi Γ Z→VR H Γ Z Q→r x lo hi H Q
abbrev qV(r:PD)(te:AX)(tl th:JG):AX:=λY τ Γ Z=>te Y τ Γ λx Γ1=>tl Y τ Γ1 λl Γ2=>th Y τ Γ2 λu Γ3=>r x l u Γ3 Z
def Ck{r3:PD}{lo hi:Option Expr}{tl:JG}(hs:Pu X r3)(he:PE X e (AK E te))(hl:PO X lo (Mq E tl))(hu:PO X hi (Mq E th)):PE X (.Subscript e (.Slice lo hi none p2) pos) (AK E (qV r3 te tl th)):=by
 let⟨r,Zd,sim⟩:=hs;show Dw (acX Zd he hl hu) λσ H Q τ Γ Y Z rs hr t vr xr=>?_;show Ψ4 τ Γ Y _ ⟨rs,hr,t,λv x H1 Γ1 s1 h1 r1 z1=>?_,xr⟩;show Ψ4 τ Γ1 Y _ ⟨rs.mono s1.tq,h1,z1,λl H2 Γ2 s2 h2 z2=>?_,xr.mono s1⟩;show Ψ4 τ Γ2 Y _ ⟨rs.mono (s1.trans s2).tq,h2,z2,λu H3 Γ3 s3 h3 z3=>?_,xr.mono (s1.trans s2)⟩;show sim v x l u H3 Γ3 Q Z (r1.mono (s2.trans s3).tq) h3 z3 (vr.mono ((s1.trans s2).trans s3))
def kj{lo hi:Option Int}(q:Rs H vs ts):Rs H (GI vs lo hi) (BB ts lo hi):=by
 unfold GI BB;rw[q.length];show Rs.take _ (Rs.drop _ q)
def DH:Pu X (λx lo hi Γ Z=>∃ts,x=.tup ts∧Z (.tup (BB ts lo hi)) Γ):=
 ⟨_,ab3,λx a lo hi H Γ Q Z ra hr q0 vr=>by
  let⟨ts,ea,z⟩:=q0;subst ea;let⟨p,vs,rfl,hp,q⟩:=De ra;show Ψ2 p vs ⟨rfl,hp,λc H' k hc=>vr _ _ H' Γ (.keep (FR k)) (hr.keep (FR k)) (Ea hc (kj (q.mono (DA (FR k))))) z⟩⟩
def T3:Pu X (λx lo hi Γ Z=>∃a ts,x=.ref a∧Γ a=some (.lst ts)∧∀p,Γ p=none→Z (.ref p) (up Γ p (.lst (BB ts lo hi)))):=
 ⟨_,abD,λx a lo hi H Γ Q Z ra hr q0 vr=>by
  let⟨p,ts,ea,g,z⟩:=q0;subst ea;let⟨vs,hv,q⟩:=hr p _ g;show Ψ2 p vs ⟨CH ra,eB.of hv,λc hc=>?_⟩;let k:=Dk (o:=.lst (GI vs lo hi)) hc;show vr _ _ _ _ (.make hc) (hr.make (o3:=.lst (BB ts lo hi)) hc ⟨_,B0,kj (q.mono (DA k))⟩) EV (z c (hr.free hc))⟩
def dq:Pu X (λx lo hi Γ Z=>∃z:Str,x=.str z∧z.length≤sizeLine∧∀y:Str,y.cps.toList=BB z.cps.toList lo hi→Z (.str y) Γ):=
 ⟨_,aeq,λx a lo hi H Γ Q Z ra hr q0 vr=>by
  let⟨w,ea,l,z⟩:=q0;subst ea;show⟨w,EH ra,l,λy hy=>vr _ _ H Γ .refl hr Em (z y hy)⟩⟩
abbrev RK(r:T→AL→Cr→Prop)(te ts:AX):AX:=λY τ Γ Z=>te Y τ Γ λx Γ1=>ts Y τ Γ1 λk Γ2=>k=.int (-1)∧r x Γ2 Z
abbrev lQ(g:Int→T):T→AL→Cr→Prop:=λx Γ Z=>∃i,x=.int i∧Z (g i) Γ
abbrev qt(r:T→AL→Cr→Prop)(ta:AX):AX:=λY τ Γ Z=>ta Y τ Γ λx Γ1=>r x Γ1 Z
def FP(ha:PE X a (AK E ta)):PE X (.UnaryOp .USub a pos) (AK E (qt (lQ λi=>.int (-i)) ta)):=
 Dw (acu tJ ha) λσ H Q τ Γ Y Z rs hr t vr xr=>
  ⟨τ,Γ,Y,_,rs,hr,t,λv x H1 Γ1 s1 h1 r1 q0=>by let⟨i,ex,z⟩:=q0;subst ex;show⟨i,D8 r1,vr _ _ H1 Γ1 s1 h1 DL z⟩,xr⟩
abbrev Mf:=List T→AL→Cr→Prop
abbrev Et(X:Cx)(f:Value)(r3:Mf):Prop:=∃r,Eb X f r∧∀vs ts H Γ Q Z,Rs H vs ts→HR H Γ→r3 ts Γ Z→VR H Γ Z Q→r vs H Q
abbrev Po(r:Mf)(t:D0):AX:=λY τ Γ Z=>t Y τ Γ λts Γ1=>r ts Γ1 Z
def mY{r:List V→A7→Au→Prop}{r3:Mf}(h:∀vs ts H Γ Q Z,Rs H vs ts→HR H Γ→r3 ts Γ Z→VR H Γ Z Q→r vs H Q)(σ:St)(H:A7)(Q:Au)(q:AK E (Po r3 t) σ H Q):cU r (Dy E t) σ H Q:=by
 let⟨τ,Γ,Y,Z,rs,hr,t,vr,xr⟩:=q;show Ψ4 τ Γ Y _ ⟨rs,hr,t,λvs xs H1 Γ1 s1 h1 r1 z1=>h vs xs H1 Γ1 Q Z r1 h1 z1 (vr.mono s1),xr⟩
section
variable {x: Str}{p: Pos}{e: Expr}{t: D0}{id: String}{r3: Mf}
def BC(hc:Et X (.builtin id) r3)(hg:Bi X x)(hm:X.mg x=none)(hv:bootBuiltins x=some (.builtin id))(ha:PA X (e::es) (Dy E t))(hn:x ≠ "__name__" := by decide)(sG:(x ==("__debug__" : Str))=false:=by decide)
  (he:starEach (e::es) X.env=(false,eval e X.env)::starEach es X.env:=by rfl) (gc:(backTo pos (starEach es X.env)).any (·.1)=false:=by rfl):PE X (.Call (.Name x p) (e::es) [] pos) (AK E (Po r3 t)):=by
 let⟨r,hr,h⟩:=hc;show GC (az hr hg hm hv ha hn sG he gc) (mY h)
def E7(hc:Et X (.type Tn) r3)(hg:Bi X x)(hm:X.mg x=none)(hv:bootBuiltins x=some (.type Tn))(ha:PA X (e::es) (Dy E t))(hn:x ≠ "__name__" := by decide)(sG:(x ==("__debug__" : Str))=false:=by decide)
  (he:starEach (e::es) X.env=(false,eval e X.env)::starEach es X.env:=by rfl) (gc:(backTo pos (starEach es X.env)).any (·.1)=false:=by rfl):PE X (.Call (.Name x p) (e::es) [] pos) (AK E (Po r3 t)):=by
 let⟨r,hr,h⟩:=hc;show GC (kF hr hg hm hv ha hn sG he gc) (mY h)
end
def pH(h:Rs H vs [x]):∃v,vs=[v]∧R H v x:=by
 let⟨v,ws,rfl,a,b⟩:=DG h;show⟨v,by rw[DI b],a⟩
def xC{y:T}(h:Rs H vs [x,y]):∃v w,vs=[v,w]∧R H v x∧R H w y:=by
 let⟨v,ws,rfl,a,b⟩:=DG h;let⟨w,rfl,c⟩:=pH b;show Ψ2 v w ⟨rfl,a,c⟩
def Cv:Et X (.builtin "len") (λxs Γ Z=>∃x ts,xs=[x]∧Dt Γ x=some ts∧Z (.int ts.length) Γ):=
 ⟨_,jD,λvs xs H Γ Q Z r hr q0 vr=>by
  let⟨x,ts,e,h,z⟩:=q0;subst e;let⟨v,rfl,rv⟩:=pH r;let⟨p,us,rfl,sq,q⟩:=Qu (K:=X.K) rv hr h;show Ψ2 p us ⟨rfl,sq,by rw[q.length];show vr _ _ H Γ .refl hr DL z⟩⟩
def wY:Et X (.builtin "len") (λxs Γ Z=>∃z:Str,xs=[.str z]∧z.length≤sizeLine∧Z (.int z.length) Γ):=
 ⟨_,aeE,λvs xs H Γ Q Z r hr q0 vr=>by
  let⟨w,e,l,z⟩:=q0;subst e;let⟨v,rfl,rv⟩:=pH r;show⟨w,by rw[EH rv],l,vr _ _ H Γ .refl hr DL z⟩⟩
def Ff:Et X (.type "tuple") (λxs Γ Z=>∃x ts,xs=[x]∧Dt Γ x=some ts∧Z (.tup ts) Γ):=
 ⟨_,qU,λvs xs H Γ Q Z r hr q0 vr=>by
  let⟨x,ts,e,h,z⟩:=q0;subst e;let⟨v,rfl,rv⟩:=pH r;cases x with
  |tup us=>
   cases h;let⟨a,ws,rfl,ha,q⟩:=De rv;show Ψ2 a ws ⟨rfl,.inr ⟨dD.of ha,vr _ _ H Γ .refl hr (Ea ha q) z⟩⟩
  |ref a=>
   let⟨us,sq,q⟩:=GL (K:=X.K) hr h;show Ψ2 a us ⟨by rw[CH rv],.inl ⟨sq,λl hl=>?_⟩⟩;let k:=Dk (o:=.tup us) hl;show vr _ _ _ Γ (.keep k) (hr.keep k) (Ea B0 (q.mono (DA k))) z
  |_=>cases h⟩
def dZ:Et X (.type "list") (λxs Γ Z=>∃x ts,xs=[x]∧Dt Γ x=some ts∧∀p,Γ p=none→Z (.ref p) (up Γ p (.lst ts))):=
 ⟨_,acM,λvs xs H Γ Q Z r hr q0 vr=>by
  let⟨x,ts,e,h,z⟩:=q0;subst e;let⟨v,rfl,rv⟩:=pH r;let⟨p,us,rfl,sq,q⟩:=Qu (K:=X.K) rv hr h;show Ψ2 p us ⟨rfl,sq,λl hl=>?_⟩;let k:=Dk (o:=.lst us) hl;show vr _ _ _ _ (.make hl) (hr.make (o3:=.lst ts) hl ⟨_,B0,q.mono (DA k)⟩) EV (z l (hr.free hl))⟩
def Rz(hc:X.calm=true):Et X (.builtin "max") (λxs Γ Z=>∃i j,xs=[.int i,.int j]∧Z (.int (if j>i then j else i)) Γ):=
 ⟨_,lE hc,λvs xs H Γ Q Z r hr q0 vr=>by
  let⟨i,j,e,z⟩:=q0;subst e;let⟨v,w,rfl,a,b⟩:=xC r;show Ψ2 i j ⟨by rw[D8 a,D8 b],vr _ _ H Γ .refl hr DL z⟩⟩
def aW(hc:X.calm=true):Et X (.builtin "min") (λxs Γ Z=>∃i j,xs=[.int i,.int j]∧Z (.int (if j<i then j else i)) Γ):=
 ⟨_,acx hc,λvs xs H Γ Q Z r hr q0 vr=>by
  let⟨i,j,e,z⟩:=q0;subst e;let⟨v,w,rfl,a,b⟩:=xC r;show Ψ2 i j ⟨by rw[D8 a,D8 b],vr _ _ H Γ .refl hr DL z⟩⟩
def wU:Et X (.builtin "ord") (λxs Γ Z=>∃x:Str,xs=[.str x]∧x.length=1∧Z (.int (x.cps.getD 0 0:Nat)) Γ):=
 ⟨_,za,λvs xs H Γ Q Z r hr q0 vr=>by
  let⟨i,e,l,z⟩:=q0;subst e;let⟨v,rfl,a⟩:=pH r;show⟨i,by rw[EH a],l,vr _ _ H Γ .refl hr DL z⟩⟩
def MM{H:A7}:∀{ns:List Int} {vs:List V},Rs H vs (ns.map T.int)→vs=ns.map V.int
 |[],vs,h=>DI h
 |n::r,vs,h=>by
  let⟨v,ws,rfl,a,b⟩:=DG h;rw[D8 a,MM b];rfl
def qM{H:A7}:∀{ns:List Bool} {vs:List V},Rs H vs (ns.map T.bl)→vs=ns.map V.bl
 |[],vs,h=>DI h
 |n::r,vs,h=>by
  let⟨v,ws,rfl,a,b⟩:=DG h;rw[GU a,qM b];rfl
def LR{H:A7}:∀{ns:List Str} {vs:List V},Rs H vs (ns.map T.str)→vs=ns.map V.str
 |[],vs,h=>DI h
 |n::r,vs,h=>by
  let⟨v,ws,rfl,a,b⟩:=DG h;rw[EH a,LR b];rfl
def aL(hc:X.calm=true):Et X (.builtin "sum") (λxs Γ Z=>∃(p:Addr) (ns:List Int),xs=[.ref p]∧Dt Γ (.ref p)=some (ns.map T.int)∧Z (.int ns.sum) Γ):=
 ⟨_,ac7 hc,λvs xs H Γ Q Z r hr q0 vr=>by
  let⟨p,ns,e,g,z⟩:=q0;subst e;let⟨v,rfl,a⟩:=pH r;let⟨us,sq,q⟩:=GL (K:=X.K) hr g;rw[MM q]at sq;show Ψ2 p ns ⟨by rw[CH a],sq,vr _ _ H Γ .refl hr DL z⟩⟩
def Kg(hc:X.calm=true):Et X (.builtin "all") (λxs Γ Z=>∃(p:Addr) (bs:List Bool),xs=[.ref p]∧Dt Γ (.ref p)=some (bs.map T.bl)∧Z (.bl (bs.all id)) Γ):=
 ⟨_,abM hc,λvs xs H Γ Q Z r hr q0 vr=>by
  let⟨p,ns,e,g,z⟩:=q0;subst e;let⟨v,rfl,a⟩:=pH r;let⟨us,sq,q⟩:=GL (K:=X.K) hr g;rw[qM q]at sq;show Ψ2 p ns ⟨by rw[CH a],sq,vr _ _ H Γ .refl hr E0 z⟩⟩
abbrev Gm(Γ:AL):T→Option String
 |.non=>some "NoneType" |.bl _=>some "bool" |.int _=>some "int" |.str _=>some "str" |.tup _=>some "tuple"
 |.ref a=>match Γ a with|some (.lst _)=>some "list" |some (.dK _)=>some "dict" |_=>none
 |.ty _=>none
 |.scr _ _ _=>none
def mv(r:R H v x)(hr:HR H Γ)(h:Gm Γ x=some n):F9 K H v (.type n):=by
 cases x with
 |non=>cases h;rw[NJ r];show .non
 |bl b=>cases h;rw[GU r];show .bl b
 |int i=>cases h;rw[D8 r];show .int i
 |str z=>cases h;rw[EH r];show .str z
 |tup ts=>cases h;let⟨a,vs,e,ha,_⟩:=De r;rw[e];show .tup ha
 |ty n=>cases h
 |scr K a ts=>cases h
 |ref a=>
  rw[CH r];have h:(match Γ a with|some (.lst _)=>some "list" |some (.dK _)=>some "dict" |_=>none)=some n:=h;split at h
  ·rename_i g;cases h;let⟨vs,hv,_⟩:=hr a _ g;show .lst hv
  ·rename_i g;cases h;let⟨vs,hv,_⟩:=hr a _ g;show .dK hv
  ·cases h
abbrev ql(K:W.Frag)(Ty:String)(te:AX):AX:=λY τ Γ Z=>te Y τ Γ λx Γ1=>∃n b,Gm Γ1 x=some n∧W.kitOne K (.type n) (.type Ty)=some b∧Z (.bl b) Γ1
def E5{x:Expr}{p p2 pos:Pos}{Tn:Str}(hg:Bi X "isinstance")(hm:X.mg "isinstance" = none)(Vg:Bi X Tn)(Va:X.mg Tn=none)(UQ:bootBuiltins Tn=some (.type Ty))(he:PE X x (AK E te))(hn:Tn ≠ "__name__" := by decide)(xF:(Tn ==("__debug__" : Str))=false:=by decide)
  (hs:starEach [x,.Name Tn p2] X.env=(false,eval x X.env)::starEach [.Name Tn p2] X.env:=by rfl) (BS:starEach [.Name Tn p2] X.env=[(false,eval (.Name Tn p2) X.env)]:=by rfl)
  (gc:(backTo pos (starEach [.Name Tn p2] X.env)).any (·.1)=false:=by rfl):PE X (.Call (.Name "isinstance" p) [x,.Name Tn p2] [] pos) (AK E (ql X.K Ty te)):=
 Dw (wK hg hm Vg Va UQ he hn xF hs BS gc) λσ H Q τ Γ Y Z rs hr t vr xr=>
  ⟨τ,Γ,Y,_,rs,hr,t,λv x H1 Γ1 s1 h1 r1 ξ=>Ξ23 ξ λn b ty k z=>⟨v,rfl,.type n,b,mv r1 h1 ty,k,vr _ _ H1 Γ1 s1 h1 E0 z⟩,xr⟩
abbrev XN(Γ:AL):T→Option Bool
 |.non=>some false|.bl b=>some b|.int i=>some (i != 0)|.tup ts=>some (!ts.isEmpty)
 |.str z=>if z.length≤sizeLine then some ((z.length:Int) != 0)else none
 |.ref a=>match Γ a with|some (.lst ts)=>some (!ts.isEmpty)|some (.dK aQ)=>some (!aQ.isEmpty)|_=>none
 |.ty _=>none
 |.scr _ _ _=>none
def yj{us:List (Ap×V)}{aQ:List (Ap×T)}(q:Ks H us aQ):us.isEmpty=aQ.isEmpty:=by cases q<;>rfl
def abk{k:Bool}(r:R H v x)(hr:HR H Γ)(h:XN Γ x=some k):bw K v H k:=by
 cases x with
 |non=>cases h;rw[NJ r];rfl
 |bl b=>cases h;rw[GU r];rfl
 |int i=>cases h;rw[D8 r];rfl
 |str z=>
  rw[EH r];let h:(if z.length≤sizeLine then some ((z.length:Int) != 0)else none)=some k:=h;by_cases c:z.length≤sizeLine
  ·rw[AI c]at h;cases h;show⟨c,rfl⟩
  ·rw[AH c]at h;cases h
 |tup ts=>cases h;let⟨a,vs,e,ha,q⟩:=De r;rw[e];show .inr (.inl ⟨vs,dD.of ha,by rw[NH q]⟩)
 |ty n=>cases h
 |scr K a ts=>cases h
 |ref a=>
  rw[CH r];have h:(match Γ a with|some (.lst ts)=>some (!ts.isEmpty)|some (.dK aQ)=>some (!aQ.isEmpty)|_=>none)=some k:=h;split at h
  ·rename_i g;cases h;let⟨vs,hv,q⟩:=hr a _ g;show .inl ⟨vs,eB.of hv,by rw[NH q]⟩
  ·rename_i g;cases h;let⟨vs,hv,q⟩:=hr a _ g;show .inr (.inr ⟨vs,hv,by rw[yj q]⟩)
  ·cases h
abbrev mh(t:AX):CY:=λY τ Γ Z=>t Y τ Γ λx Γ1=>∃k,XN Γ1 x=some k∧Z k Γ1
def pQ{a:Expr}{ta:AX}(ha:PE X a (AK E ta))(he:∀whole,isTrue a X.env whole=(do let v ←whole;standAt a.pos;holding [v] (truthy v))):PT X a (Cf E (mh ta)):=
 jI (sg ha he) λσ H Q τ Γ Y Z rs hr t vr xr=>
  ⟨τ,Γ,Y,_,rs,hr,t,λv x H1 Γ1 s1 h1 r1 ξ=>Ξ12 ξ λk tr z=>⟨k,abk r1 h1 tr,vr _ H1 Γ1 s1 h1 z⟩,xr⟩
def acO:Et X (.builtin "len") (λxs Γ Z=>∃a ts,xs=[.scr X.K a ts]∧Z (.int ts.length) Γ):=
 ⟨_,jD,λvs xs H Γ Q Z r hr q0 vr=>by
  let⟨a,ts,e,z⟩:=q0;subst e;let⟨v,rfl,rv⟩:=pH r;let⟨rfl,⟨us,sq,q⟩⟩:=bL rv;show Ψ2 a us ⟨rfl,.inl sq.sq,by rw[q.length];show vr _ _ H Γ .refl hr DL z⟩⟩
end
section
variable {tg l: Expr}{tl: AX}{p: Pos}
@[reducible]def FQ:AL→Prop:=λ_=>True
abbrev jF(tl:AX):I3:=λY τ Γ Z=>tl Y τ Γ λx Γ1=>∃ts,x=.tup ts∧Z ts FQ Γ1
def sK(ha:H a=some (.tup vs))(q:Rs H vs ts):Walks (dB K a) ts FQ H where
 go:=λi H' Γ t hr _ hi=>Ψ2 vs (vs[i]'(by rw[q.length];show hi)) ⟨dD.of (t.1 a vs ha),by simp⟩
 vt:=λi H' Γ x H2 t hr _ hi q0=>by
  let⟨e,y⟩:=q0;subst e;let⟨t',e',r⟩:=(q.mono t).Jb (y vs (dD.of (t.1 a vs ha)));show⟨.refl,hr,t',e',r⟩
 stop:=λH' Γ t hr _=>⟨vs,dD.of (t.1 a vs ha),by rw[q.length];show Ak _⟩
def F1(hl:PE X l (AK E tl)):PI X tg l (GV E (jF tl)):=
 Mk (acj hl) λσ H Q τ Γ Y Z rs hr t vr xr=>⟨τ,Γ,Y,_,rs,hr,t,λv x H1 Γ1 s1 h1 r1 ξ=>Ξ12 ξ λts ex z=>by
  subst ex;let⟨a,vs,rfl,ha,q⟩:=De r1;show⟨a,rfl,⟨vs,dD.of ha⟩,vr _ ts FQ H1 Γ1 s1 h1 (sK ha q) z⟩,xr⟩
abbrev gP(tl:AX):I3:=λY τ Γ Z=>tl Y τ Γ λx Γ1=>∃a ts,x=.ref a∧Dt Γ1 (.ref a)=some ts∧Z ts (λΓ'=>Dt Γ' (.ref a)=some ts) Γ1
def adq:Walks (cN K a) ts (λΓ'=>Dt Γ' (.ref a)=some ts) H where
 go:=λi H' Γ t hr g hi=>by
  let⟨vs,sq,q⟩:=GL (K:=K) hr g;show Ψ2 vs (vs[i]'(by rw[q.length];show hi)) ⟨sq,by simp⟩
 vt:=λi H' Γ x H2 t hr g hi q0=>by
  let⟨e,y⟩:=q0;subst e;let⟨vs,sq,q⟩:=GL (K:=K) hr g;let⟨t',e',r⟩:=q.Jb (y vs sq);show⟨.refl,hr,t',e',r⟩
 stop:=λH' Γ t hr g=>by
  let⟨vs,sq,q⟩:=GL (K:=K) hr g;show⟨vs,sq,by rw[q.length];show Ak _⟩
def Fj(hl:PE X l (AK E tl)):PI X tg l (GV E (gP tl)):=
 Mk (abY hl) λσ H Q τ Γ Y Z rs hr t vr xr=>⟨τ,Γ,Y,_,rs,hr,t,λv x H1 Γ1 s1 h1 r1 ξ=>Ξ23 ξ λa ts ex g z=>by
  subst ex;let⟨vs,sq,q⟩:=GL (K:=X.K) h1 g;show⟨a,CH r1,⟨vs,sq⟩,vr _ ts _ H1 Γ1 s1 h1 adq z⟩,xr⟩
abbrev Dr(lo:Int):Nat→List T
 |0=>[]
 |n+1=>.int lo::Dr (lo+1) n
def Gs:∀(n:Nat) (lo:Int),(Dr lo n).length=n
 |0,_=>rfl
 |n+1,lo=>by rw[Dr,BE,Gs n]
def pJ:∀(n:Nat) (lo:Int) (i:Nat),i<n→(Dr lo n)[i]?=some (.int (lo+i))
 |0,_,i,h=>absurd h (dO _)
 |n+1,lo,0,_=>by rw[Dr];simp
 |n+1,lo,i+1,h=>by
  rw[Dr,fv,pJ n (lo+1) i (by lia)];congr 2
  lia
def abE(lo:Int)(n:Nat):Walks (Jq lo n) (Dr lo n) FQ H where
 go:=λi H' Γ t hr _ hi=>by rw[Gs]at hi;show hi
 vt:=λi H' Γ x H2 t hr _ hi q0=>by
  let⟨e,y⟩:=q0;subst e y;rw[Gs]at hi;show⟨.refl,hr,_,pJ n lo i hi,DL⟩
 stop:=λH' Γ t hr _=>by rw[Gs];show Ak _
abbrev nR(ta:D0):I3:=λY τ Γ Z=>ta Y τ Γ λxs Γ1=>∃j:Int,xs=[.int j]∧-(2^62)≤j∧j<2^62∧Z (Dr 0 j.toNat) FQ Γ1
def HL{a:Expr}(hg:Bi X "range")(hm:X.mg "range" = none)(ha:PA X [a] (Dy E ta))(hs:starEach [a] X.env=[(false,eval a X.env)]:=by rfl):PI X tg (.Call (.Name "range" p) [a] [] pos) (GV E (nR ta)):=
 Mk (nJ hg hm ha hs) λσ H Q τ Γ Y Z rs hr t vr xr=>⟨τ,Γ,Y,_,rs,hr,t,λvs xs H1 Γ1 s1 h1 r1 ξ=>Ξ14 ξ λj ex b1 b2 z=>by
  subst ex;let⟨v,rfl,a⟩:=pH r1;show⟨j,by rw[D8 a],b1,b2,vr _ _ FQ H1 Γ1 s1 h1 (abE 0 _) z⟩,xr⟩
abbrev E4:List T→List T→List T
 |x::r,y::q=>.tup [x,y]::E4 r q
 |_,_=>[]
def OY:∀{xs ys:List T},(E4 xs ys).length=min xs.length ys.length
 |[],_=>by simp[E4]
 |_::_,[]=>by simp[E4]
 |x::r,y::q=>by rw[E4,BE,OY,BE,BE];lia
def iX:∀{xs ys:List T} {i:Nat} {x y:T},xs[i]?=some x→ys[i]?=some y→(E4 xs ys)[i]?=some (.tup [x,y])
 |[],_,_,_,_,h,_=>by simp at h
 |_::_,[],_,_,_,_,h=>by simp at h
 |a::r,b::q,0,x,y,h,h'=>by cases h;cases h';rfl
 |a::r,b::q,i+1,x,y,h,h'=>by rw[E4,fv];show iX (by simpa using h) (by simpa using h')
abbrev tX(n:Nat):List T→List T
 |[]=>[]
 |x::r=>.tup [.int n,x]::tX (n+1) r
abbrev KU(z:Str):List T:=z.cps.toList.map λc=>.str ⟨#[c]⟩
abbrev du(tl:AX):I3:=λY τ Γ Z=>tl Y τ Γ λx Γ1=>∃z,x=.str z∧Z (KU z) FQ Γ1
def adX(z:Str):Walks (RJ z) (KU z) FQ H where
 go:=λi H' Γ t hr _ hi=>by
  unfold KU at hi;rw[Ac,ED]at hi;show hi
 vt:=λi H' Γ x H2 t hr _ hi q0=>by
  let⟨e,⟨c,hc,ex⟩⟩:=q0;subst e ex;show⟨.refl,hr,.str ⟨#[c]⟩,?_,Em⟩;unfold KU;rw[CZ,O1,hc];rfl
 stop:=λH' Γ t hr _=>by
  show z.cps.size≤(KU z).length
  unfold KU;rw[Ac,ED];show Ak _
def adv(hl:PE X l (AK E tl)):PI X tg l (GV E (du tl)):=
 Mk (ac3 hl) λσ H Q τ Γ Y Z rs hr t vr xr=>⟨τ,Γ,Y,_,rs,hr,t,λv x H1 Γ1 s1 h1 r1 ξ=>Ξ12 ξ λz ex zz=>by
  subst ex;show⟨z,EH r1,vr _ _ FQ H1 Γ1 s1 h1 (adX z) zz⟩,xr⟩
abbrev LC:=T→List T→AL→Cr→Prop
abbrev K2(X:Cx)(id:String)(r3:LC):Prop:=∃r,Mi X id r∧∀v x vs ts H Γ Q Z,R H v x→Rs H vs ts→HR H Γ→r3 x ts Γ Z→VR H Γ Z Q→r v vs H Q
abbrev qi(Tn:String)(r3:LC)(to:AX)(t:D0):AX:=λY τ Γ Z=>to Y τ Γ λx Γ1=>Gm Γ1 x=some Tn∧t Y τ Γ1 λxs Γ2=>r3 x xs Γ2 Z
abbrev gu(Tn:String)(r3:LC)(to:AX):AX:=λY τ Γ Z=>to Y τ Γ λx Γ1=>Gm Γ1 x=some Tn∧r3 x [] Γ1 Z
def iM(r:R H v x)(hr:HR H Γ)(h:Gm Γ x=some n)(hn:n = "list" ∨ n = "str" ∨ n = "dict"):RH K n v H:=by
 let ty:=mv (K:=K) r hr h;cases x with
 |non=>cases h;rcases hn with h|h|h<;>show absurd h (by decide)
 |bl b=>cases h;rcases hn with h|h|h<;>show absurd h (by decide)
 |int i=>cases h;rcases hn with h|h|h<;>show absurd h (by decide)
 |str z=>cases h;rw[EH r];rfl
 |tup ts=>cases h;rcases hn with h|h|h<;>show absurd h (by decide)
 |ty n=>cases h
 |scr K a ts=>cases h
 |ref a=>
  rw[CH r];have h:(match Γ a with|some (.lst _)=>some "list" |some (.dK _)=>some "dict" |_=>none)=some n:=h;split at h
  ·rename_i g;cases h;let⟨vs,hv,_⟩:=hr a _ g;show .inl ⟨rfl,vs,eB.of hv⟩
  ·rename_i g;cases h;let⟨vs,hv,_⟩:=hr a _ g;show .inr (.inr (.inl ⟨rfl,.inl ⟨vs,hv⟩⟩))
  ·cases h
section
variable {o e: Expr}{to: AX}{t: D0}{name: Str}{apos: Pos}{id: String}{r3: LC}
def tY(pa:PlainAttrs Tn)(slot:Slot Tn name id)(Av:typeOf (.builtin id)=pure (.type "method_descriptor"))(hm:K2 X id r3)(ho:PE X o (AK E to))(hn:Tn = "list" ∨ Tn = "str" ∨ Tn = "dict" := by decide)
  (jX:attributeBase o name X.env (eval o X.env)=eval o X.env:=by rfl) (jW:(apos.endLine==dQ.line)=true:=by rfl):PE X (.Call (.Attribute o name apos) [] [] dQ) (AK E (gu Tn r3 to)):=by
 obtain⟨r,hm,sim⟩:=hm;show Dw (yg pa slot Av hm ho jX jW) λσ H Q τ Γ Y Z rs hr t vr xr=>⟨τ,Γ,Y,_,rs,hr,t,λv x H1 Γ1 s1 h1 r1 ξ=>Ξ02 ξ λty z=>
  ⟨iM r1 h1 ty hn,sim v x [] [] H1 Γ1 Q Z r1 D3 h1 z (vr.mono s1)⟩,xr⟩
def HP(pa:PlainAttrs Tn)(slot:Slot Tn name id)(Av:typeOf (.builtin id)=pure (.type "method_descriptor"))(hm:K2 X id r3)(ho:PE X o (AK E to))(ha:PA X (e::es) (Dy E t))(hn:Tn = "list" ∨ Tn = "str" ∨ Tn = "dict" := by decide)
  (jX:attributeBase o name X.env (eval o X.env)=eval o X.env:=by rfl)
  (yO:((backTo dQ (starEach (e::es) X.env)).all (λx=>!x.1)&&(backToKw dQ (keywordEach [] X.env)).all (λx=>x.1.isSome)
   && decide ((e::es).length+([]:List Keyword).length+(if([]:List Keyword).isEmpty then 0 else 1)<30))=true:=by rfl)
  (jW:(apos.endLine==dQ.line)=true:=by rfl) (hs:starEach (e::es) X.env=(false,eval e X.env)::starEach es X.env:=by rfl) (yM:(backTo dQ (starEach es X.env)).any (·.1)=false:=by rfl) :
  PE X (.Call (.Attribute o name apos) (e::es) [] dQ) (AK E (qi Tn r3 to t)):=by
 obtain⟨r,hm,sim⟩:=hm;show Dw (aa pa slot Av hm ho ha jX yO jW hs yM) λσ H Q τ Γ Y Z rs hr t vr xr=>⟨τ,Γ,Y,_,rs,hr,t,λv x H1 Γ1 s1 h1 r1 ξ=>Ξ02 ξ λty z=>
  ⟨iM r1 h1 ty hn,τ,Γ1,Y,_,rs.mono s1.tq,h1,z,λvs xs H2 Γ2 s2 h2 r2 z2=>sim v x vs xs H2 Γ2 Q Z (r1.mono s2.tq) r2 h2 z2 (vr.mono (s1.trans s2)),xr.mono s1⟩,xr⟩
end
def Rp:K2 X "list.append" (λx ts Γ Z=>∃a us y,x=.ref a∧ts=[y]∧Γ a=some (.lst us)∧us.length<sizeLine∧Z .non (up Γ a (.lst (us++[y])))):=
 ⟨_,O3,λv x vs ts H Γ Q Z r rs hr q0 vr=>by
  let⟨a,us,y,ex,et,g,l,z⟩:=q0;subst ex et;let⟨w,rfl,qp⟩:=pH rs;let⟨ws,hw,q⟩:=hr a _ g;show Ψ3 a ws w ⟨CH r,rfl,hw,by rw[q.length];show l,?_⟩;let s:fN H Γ (upd H a (.lst (ws++[w]))) (up Γ a (.lst (us++[y]))):=.set hr g;show vr _ _ _ _ s (hr.set g ⟨_,B0,Rs.app (q.mono s.tq) (CS (qp.mono s.tq) D3)⟩) Lk z⟩
def adZ:K2 X "list.pop" (λx ts Γ Z=>∃a us y,x=.ref a∧ts=[]∧Γ a=some (.lst us)∧us[us.length-1]?=some y∧Z y (up Γ a (.lst us.dropLast))):=
 ⟨_,ac2,λv x vs ts H Γ Q Z r rs hr q0 vr=>by
  let⟨a,us,y,ex,et,g,l,z⟩:=q0;subst ex et;let⟨ws,hw,q⟩:=hr a _ g;let⟨w,Y5,qp⟩:=q.get l;show Ψ3 a ws w ⟨CH r,DI rs,hw,by rw[q.length];show Y5,?_⟩;let s:fN H Γ (upd H a (.lst ws.dropLast)) (up Γ a (.lst us.dropLast)):=.set hr g;show vr _ _ _ _ s (hr.set g ⟨_,B0,?_⟩) (qp.mono s.tq) z;let e:∀{H2:A7},Rs H2 ws us→Rs H2 ws.dropLast us.dropLast:=λ{H2} q2=>by
   rw[TO,TO,q2.length];show Rs.take _ q2
  show e (q.mono s.tq)⟩
def lN:K2 X "list.extend" (λx ts Γ Z=>∃a b us ws,x=.ref a∧ts=[.ref b]∧Γ a=some (.lst us)∧Γ b=some (.lst ws)∧us.length+ws.length≤sizeLine∧Z .non (up Γ a (.lst (us++ws)))):=
 ⟨_,acB,λv x vs ts H Γ Q Z r rs hr q0 vr=>by
  let⟨a,b,us,ws,ex,et,g,g',l,z⟩:=q0;subst ex et;let⟨w,rfl,qp⟩:=pH rs;let⟨va,Y7,qa⟩:=hr a _ g;let⟨vb,Y6,qb⟩:=hr b _ g';show Ψ4 a b va vb ⟨CH r,by rw[CH qp],Y7,Y6,by rw[qa.length,qb.length];show l,?_⟩;let s:fN H Γ (upd H a (.lst (va++vb))) (up Γ a (.lst (us++ws))):=.set hr g;show vr _ _ _ _ s (hr.set g ⟨_,B0,Rs.app (qa.mono s.tq) (qb.mono s.tq)⟩) Lk z⟩
def dM:K2 X "str.join" (λx ts Γ Z=>∃(p:Addr) (ss:List Str),x=.str Str.empty∧ts=[.ref p]∧Dt Γ (.ref p)=some (ss.map T.str)∧ss.length≤1000∧(∀y∈ss,y.length≤1000)∧Z (.str (EO ss)) Γ):=
 ⟨_,acY,λv x vs ts H Γ Q Z r rs hr q0 vr=>by
  let⟨p,ss,ex,et,g,l,l2,z⟩:=q0;subst ex et;let⟨w,rfl,qp⟩:=pH rs;let⟨us,sq,q⟩:=GL (K:=X.K) hr g;rw[LR q]at sq;show Ψ2 p ss ⟨EH r,by rw[CH qp],sq,l,l2,vr _ _ H Γ .refl hr Em z⟩⟩
abbrev ip(ta:D0):AX:=λY τ Γ Z=>ta Y τ Γ λxs Γ1=>∃ts us,xs=[.tup ts,.tup us]∧ts.length=us.length∧∀p,Γ1 p=none→Z (.ref p) (up Γ1 p (.lst (E4 ts us)))
def gn{H H0:A7}(t:Tq H0 H):∀{xs ys:List V} {ts us:List T} {as:List Addr},Rs H0 xs ts→Rs H0 ys us→xs.length=ys.length→as.length=xs.length→AZ H xs ys as→Rs H (as.map V.ref) (E4 ts us)
 |xs,ys,[],us,as,q,q',l,la,pr=>by
  cases DI q;cases as with
  |nil=>show D3
  |cons _ _=>cases la
 |xs,ys,t1::r,[],as,q,q',l,la,pr=>by
  cases DI q';let⟨v,ws,rfl,a,b⟩:=DG q;cases l
 |xs,ys,t1::r,u1::r',as,q,q',l,la,pr=>by
  let⟨v,ws,rfl,a,b⟩:=DG q;let⟨v',ws',rfl,a',b'⟩:=DG q';cases as with
  |nil=>cases la
  |cons p0 rest=>
   let⟨x,y,e1,e2,h⟩:=pr 0 p0 rfl;cases e1;cases e2;show CS (Ea h (CS (a.mono t) (CS (a'.mono t) D3))) (gn t b b' (by simpa using l) (by simpa using la) λj t e=>?_);show pr (j+1) t (by simpa using e)
def abt{a b:Expr}{p1 p2 yh iF:Pos}(hc:X.calm=true)(hg:Bi X "list")(hm:X.mg "list" = none)(Nb:Bi X "zip")(Gy:X.mg "zip" = none)(ha:PA X [a,b] (Dy E ta))
  (hs:starEach [a,b] X.env=[(false,eval a X.env),(false,eval b X.env)]:=by rfl) (BS:starEach [b] X.env=[(false,eval b X.env)]:=by rfl)
  (hz:starEach [.Call (.Name "zip" p2) [a,b] [] iF] X.env=[(false,eval (.Call (.Name "zip" p2) [a,b] [] iF) X.env)]:=by rfl) :
  PE X (.Call (.Name "list" p1) [.Call (.Name "zip" p2) [a,b] [] iF] [] yh) (AK E (ip ta)):=
 Dw (aaJ hc hg hm Nb Gy ha hs BS hz) λσ H Q τ Γ Y Z rs hr t vr xr=>⟨τ,Γ,Y,_,rs,hr,t,λvs xs H1 Γ1 s1 h1 r1 ξ=>Ξ23 ξ λts us ex hl z=>by
  subst ex;let⟨v,w,rfl,a,b⟩:=xC r1;let⟨pa,va,rfl,ha,qa⟩:=De a;let⟨pb,vb,rfl,hb,qb⟩:=De b;show Ψ4 pa pb va vb ⟨rfl,dD.of ha,dD.of hb,by rw[qa.length,qb.length];show hl,λL H' as hL k BV la pr=>?_⟩;let tq:=DA (FR k);let s2:fN H1 Γ1 H' (up Γ1 L (.lst (E4 ts us))):=by
   show⟨tq,λx h z=>?_,λx h g=>?_,λx o h _=>FR k x o h⟩
   ·cases e:H1 x with
    |none=>show h e
    |some o=>show(by rw[FR k x o e]at z;cases z)
   ·let e:x≠L:=λe=>h (by rw[e];show hL)
    rw[B8 e];show g
  show vr _ _ H' _ (s1.trans s2) (λx o g=>?_) EV (z L (h1.free hL));by_cases e:x=L
  ·subst e;rw[AE]at g;cases g;show⟨_,BV,gn tq qa qb (by rw[qa.length,qb.length];show hl) la pr⟩
  ·rw[B8 e]at g;show(h1 x o g).mono tq (FR k x),xr⟩
abbrev YU:T→Option Value
 |.ref a=>some (.ref a)|.ty n=>some (.type n)|_=>none
abbrev PM:List T→Option (List Value)
 |[]=>some []
 |x::r=>match YU x,PM r with|some v,some vs=>some (v::vs)|_,_=>none
def qL{c:Value}(r:R H v x)(h:YU x=some c):zu v c:=by
 cases x with
 |ref a=>cases h;rw[CH r];show .own a
 |ty n=>cases h;rw[fV r];show .ty n
 |_=>cases h
def iN{H:A7}:∀{ts:List T} {vs:List V} {cs:List Value},Rs H vs ts→PM ts=some cs→rO vs cs
 |[],vs,cs,r,h=>by cases h;rw[DI r];show .nil
 |x::q,vs,cs,r,h=>by
  let⟨v,ws,rfl,a,b⟩:=DG r;unfold PM at h;split at h
  ·rename_i e1 e2;cases h;show .cons (qL a e1) (iN b e2)
  ·cases h
def kf:Et X (.builtin "isinstance") (λxs Γ Z=>∃(x D:Addr) (t:T) (c:Value) (b:Bool),xs=[.ref x,t]∧YU t=some c∧Fg X.K D∧Γ x=some (.ext (pA x D))∧W.kitOne X.K (.ref D) c=some b∧Z (.bl b) Γ):=
 ⟨_,tP,λvs xs H Γ Q Z r hr q0 vr=>by
  let⟨x,D,t,c,b,e,hc,ex,g,k,z⟩:=q0;subst e;let⟨v,w,rfl,a,b'⟩:=xC r;show Ψ5 x D w c b ⟨by rw[CH a],qL b' hc,ex,hr x _ g,k,vr _ _ H Γ .refl hr E0 z⟩⟩
def qv:Et X (.builtin "isinstance") (λxs Γ Z=>∃(x D:Addr) (ts:List T) (cs:List Value) (b:Bool),xs=[.ref x,.tup ts]∧PM ts=some cs∧Fg X.K D∧Γ x=some (.ext (pA x D))∧W.kitAny X.K (.ref D) cs=some b∧Z (.bl b) Γ):=
 ⟨_,aaz,λvs xs H Γ Q Z r hr q0 vr=>by
  let⟨x,D,ts,cs,b,e,hc,ex,g,k,z⟩:=q0;subst e;let⟨v,w,rfl,a,b'⟩:=xC r;let⟨p,us,rfl,hp,q⟩:=De b';show Ψ6 x D p us cs b ⟨by rw[CH a],hp,iN q hc,ex,hr x _ g,k,vr _ _ H Γ .refl hr E0 z⟩⟩
def qH{r:V→A7→Au→Prop}{r3:T→AL→Cr→Prop}{ts:AX}(h:∀v x H Γ Q Z,R H v x→HR H Γ→r3 x Γ Z→VR H Γ Z Q→r v H Q)(σ:St)(H:A7)(Q:Au)(q:AK E (RK r3 te ts) σ H Q):
  AK E te σ H λx H1=>AK E ts σ H1 λy H2=>y=.int (-1)∧r x H2 Q:=by
 let⟨τ,Γ,Y,Z,rs,hr,t,vr,xr⟩:=q;show Ψ4 τ Γ Y _ ⟨rs,hr,t,λv x H1 Γ1 s1 h1 r1 z1=>?_,xr⟩;show Ψ4 τ Γ1 Y _ ⟨rs.mono s1.tq,h1,z1,λu y H2 Γ2 s2 h2 r2 z2=>?_,xr.mono s1⟩;obtain⟨e,z2⟩:=z2;subst e;show⟨D8 r2,h v x H2 Γ2 Q Z (r1.mono s2.tq) h2 z2 (vr.mono (s1.trans s2))⟩
section
variable {e st: Expr}{te ts: AX}
def Oi(he:PE X e (AK E te))(hs:PE X st (AK E ts)):PE X (.Subscript e (.Slice none none (some st) p2) pos) (AK E (RK (λx Γ Z=>∃ts,x=.tup ts∧Z (.tup ts.reverse) Γ) te ts)):=
 GC (j5 adB he hs) (qH λv x H Γ Q Z r hr q0 vr=>by
  let⟨ts,ex,z⟩:=q0;subst ex;let⟨p,us,rfl,hp,q⟩:=De r;show Ψ2 p us ⟨rfl,dD.of hp,λc hc=>?_⟩;let k:=Dk (o:=.tup us.reverse) hc;show vr _ _ _ Γ (.keep k) (hr.keep k) (Ea B0 (Rs.reverse (q.mono (DA k)))) z)
def qw(he:PE X e (AK E te))(hs:PE X st (AK E ts)):PE X (.Subscript e (.Slice none none (some st) p2) pos) (AK E (RK (λx Γ Z=>∃a ts,x=.ref a∧Dt Γ (.ref a)=some ts∧∀p,Γ p=none→Z (.ref p) (up Γ p (.lst ts.reverse))) te ts)):=
 GC (j5 uu he hs) (qH λv x H Γ Q Z r hr q0 vr=>by
  let⟨a,ts,ex,g,z⟩:=q0;subst ex;let⟨us,sq,q⟩:=GL (K:=X.K) hr g;show Ψ2 a us ⟨CH r,sq,λc hc=>?_⟩;let k:=Dk (o:=.lst us.reverse) hc;show vr _ _ _ _ (.make hc) (hr.make (o3:=.lst ts.reverse) hc ⟨_,B0,Rs.reverse (q.mono (DA k))⟩) EV (z c (hr.free hc)))
end
end
abbrev Le(Γ Γ':AL):Prop:=∀a o,Γ a=some o→Γ' a=some o
def Le.refl:Le Γ Γ:=λ_ _ h=>h
def Le.trans(a:Le Γ Γ1)(b:Le Γ1 Γ'):Le Γ Γ':=λx o h=>b x o (a x o h)
def Le.new(h:Γ p=none):Le Γ (up Γ p o):=λb u q=>by rw[B8 (CL q h)];show q
def HR.le(h:HR H Γ')(l:Le Γ Γ'):HR H Γ:=λa o e=>h a o (l a o e)
abbrev Kq(l:List Addr)(Γ Γ':AL):Prop:=∀b o,b∉l→Γ b=some o→Γ' b=some o
def Kq.refl:Kq l Γ Γ:=λ_ _ _ h=>h
def Kq.trans(a:Kq l Γ Γ1)(b:Kq l Γ1 Γ'):Kq l Γ Γ':=λc o n h=>b c o n (a c o n h)
def Kq.mono{l':List Addr}(a:Kq l Γ Γ1)(s:∀b∈l,b∈l'):Kq l' Γ Γ1:=λc o n h=>a c o (λz=>n (s c z)) h
def Kq.new(h:Γ p=none)(o:O):Kq l Γ (up Γ p o):=λb u _ q=>by rw[B8 (CL q h)];show q
def Kq.set(h:p∈l)(o:O):Kq l Γ (up Γ p o):=λb u n q=>by
 let e:b≠p:=λz=>n (by rw[z];show h);rw[B8 e];show q
def Kq.DQ(k:Kq l Γ Γ1)(h:Γ p=none)(o:O):Kq l Γ (up Γ1 p o):=λb u n q=>by
 rw[B8 (CL q h)];show k b u n q
abbrev Fr(l:List Addr)(Γ Γ':AL):Prop:=∀b,b∉l→Γ' b=Γ b
def Fr.kq(h:Fr l Γ Γ'):Kq l Γ Γ':=λb o n q=>by rw[h b n];show q
def Fr.trans(a:Fr l Γ Γ1)(b:Fr l Γ1 Γ'):Fr l Γ Γ':=λx n=>(b x n).trans (a x n)
def Fr.set(h:p∈l)(o:O):Fr l Γ (up Γ p o):=λb n=>B8 λz=>n (by rw[z];show h)
abbrev E3(Z:Cr):Cr:=λx Γ'=>∃Γ2,Le Γ2 Γ'∧Z x Γ2
def Ag{Z:Cr}(k:Le Γ Γ')(z:Z x Γ):E3 Z x Γ':=⟨Γ,k,z⟩
def ael{Z:Cr}(k:Kq [a] Γ Γ')(h:Γ' a=some o)(z:Z x (up Γ a o)):E3 Z x Γ':=⟨up Γ a o,λb u q=>by
 by_cases e:b=a
 ·subst e;rw[AE]at q;cases q;show h
 ·rw[B8 e]at q;show k b u (by simpa using e) q,z⟩
def ads{Z:Cr}{b:Addr}{u:O}(k:Kq [a,b] Γ Γ')(h:Γ' a=some o)(h':Γ' b=some u)(z:Z x (up (up Γ a o) b u)):E3 Z x Γ':=⟨up (up Γ a o) b u,λc w q=>by
 by_cases e:c=b
 ·subst e;rw[AE]at q;cases q;show h'
 ·rw[B8 e]at q
  by_cases e2:c=a
  ·subst e2;rw[AE]at q;cases q;show h
  ·rw[B8 e2]at q;show k c w (by simp[e,e2]) q,z⟩
def fN.cut{Γ2:AL}(s:fN H Γ H' Γ')(l:Le Γ2 Γ'):fN H Γ H' Γ2:=⟨s.tq,s.GD,λa h g=>by
 cases e:Γ2 a with
 |none=>rfl
 |some o=>show(by have:=l a o e;rw[s.new a h g]at this;cases this),s.CB⟩
section
variable {P: Program}{w: World}{K: W.Frag}{mg: Str→Option Value}{am: Heap}
def Cb{x:Str}{f:Addr}{N:List Str}(F:dR K x qual st f fd)(S:BA N ps (B4 st))(len:∀ts Γ Z Y,sp ts Γ Z Y→ts.length=ps.length)
  (iK:∀(cA:Value) (A:Around) (outer:List Env) (s:Shared) (H:A7) (E:BF) (ts:List T) (Γ:AL) (Z:Cr) (Y:Value→AL→Prop),dw k (A.deeper (envOfC qual (B4 st) s.heap.objs.size f cA))→sp ts Γ Z Y→
   ∃t,kl (Hq BJ P w K mg am N qual (B4 st) f cA A outer s H E).rQ (FF st) (Cj Ed t)∧t EG {nx:=λ_ Γ'=>E3 Z .non Γ',rt:=E3 Z} (BW N ts) Γ):bB P w K mg am BJ (k+1) f fd ps (BP sp):=by
 show F.ok S (λvs H Q E q0=>by let⟨ts,Γ,Z,Y,r,_,h,_⟩:=q0;rw[r.length];show len _ _ _ _ h) λcA A outer s H vs Q E hr ξ=>Ξ45 ξ λts Γ Z Y r h uI vr xr=>?_;let⟨t,ht,hq⟩:=iK cA A outer s H E ts Γ Z Y hr uI;show⟨_,ht,BW N ts,Γ,EG,_,Pb N r (by rw[len _ _ _ _ uI];show dI S),h,hq,⟨λσ τ H' Γ' s' h' _ ξ=>Ξ12 ξ λΓ2 l z=>vr .non .non H' Γ2 (s'.cut l) (h'.le l) Lk z,λv x H' Γ' s' h' rv ξ=>Ξ12 ξ λΓ2 l z=>vr v x H' Γ2 (s'.cut l) (h'.le l) rv z,λ_ _ _ _ _ _ _ z=>z.elim,λ_ _ _ _ _ _ _ z=>z.elim⟩,JC⟩
def JZ{x:Str}{f:Addr}{N:List Str}(F:dR K x qual st f fd)(S:BA N ps (B4 st))(len:∀ts Γ Z Y,sp ts Γ Z Y→ts.length=ps.length)
  (iK:∀(cA:Value) (A:Around) (outer:List Env) (s:Shared) (H:A7) (E:BF) (ts:List T) (Γ:AL) (Z:Cr) (Y:Value→AL→Prop),dw k (A.deeper (envOfC qual (B4 st) s.heap.objs.size f cA))→sp ts Γ Z Y→
   ∃t,kl (HW P w K mg am N qual (B4 st) f cA A outer s H E) (FF st) (Cj (λ_=>E) t)∧t (λ_ C Γ'=>∃Γ2,Le Γ2 Γ'∧Y C Γ2) {nx:=λ_ Γ'=>E3 Z .non Γ',rt:=E3 Z} (BW N ts) Γ):bB P w K mg am (Dd P w) (k+1) f fd ps (BP sp):=by
 show F.YA S (λvs H Q E q0=>by let⟨ts,Γ,Z,Y,r,_,h,_⟩:=q0;rw[r.length];show len _ _ _ _ h) λcA A outer s H vs Q E hr ξ=>Ξ45 ξ λts Γ Z Y r h uI vr xr=>?_;let⟨t,ht,hq⟩:=iK cA A outer s H E ts Γ Z Y hr uI;show⟨_,ht,BW N ts,Γ,_,_,Pb N r (by rw[len _ _ _ _ uI];show dI S),h,hq,⟨λσ τ H' Γ' s' h' _ ξ=>Ξ12 ξ λΓ2 l z=>vr .non .non H' Γ2 (s'.cut l) (h'.le l) Lk z,λv x H' Γ' s' h' rv ξ=>Ξ12 ξ λΓ2 l z=>vr v x H' Γ2 (s'.cut l) (h'.le l) rv z,λ_ _ _ _ _ _ _ z=>z.elim,λ_ _ _ _ _ _ _ z=>z.elim⟩,λσ τ C H' Γ' s' h' _ ξ=>Ξ12 ξ λΓ2 l y=>xr C H' Γ2 (s'.cut l) (h'.le l) y⟩
def HA{f:Addr}{CX:Gu}(no:∀ts Γ Z Y,¬sp ts Γ Z Y):bB P w K mg am CX k f fd ps (BP sp):=
 ⟨λvs H Q E ξ=>Ξ44 ξ λts Γ Z Y _ _ h _=>absurd h (no _ _ _ _),λA outer s H args us vs Q E _ _ _ _ ξ=>Ξ44 ξ λts Γ Z Y _ _ h _=>absurd h (no _ _ _ _)⟩
end
def Oc{α:Type}{t:α}{ts:List α}:Bw (t::ts) 0=some t:=by show Bw (t::ts) ((0:Nat):Int)=some t;show Es rfl
def ag{α:Type}{t u:α}{ts:List α}:Bw (t::u::ts) 1=some u:=by show Bw (t::u::ts) ((1:Nat):Int)=some u;show Es rfl
section
variable {Γ: AL}{Z: Cr}{B: Bool→AL→Prop}
def S7(h:τ[i]?=some (some x))(z:Z x Γ):Ic i Y τ Γ Z:=⟨x,h,z⟩
def TA(z:Z x Γ):HZ x Y τ Γ Z:=z
def Nt{r:Dz}{a b:AX}(h:a Y τ Γ λx Γ1=>b Y τ Γ1 λy Γ2=>r x y Γ2 Z):F0 r a b Y τ Γ Z:=h
def wZ{t:AX}(h:t Y τ Γ λx Γ1=>∃k,x=.bl k∧B k Γ1):Lb t Y τ Γ B:=h
def aeB{Q:Bool→Prop}(h:Q b):∃k,T.bl b=.bl k∧Q k:=⟨b,rfl,h⟩
def oq{t u:Be}(h:t Y {D with nx:=u Y D} τ Γ):OC t u Y D τ Γ:=h
def zN{c:CY}{t u:Be}(h:c Y τ Γ λb Γ1=>if b=true then t Y D τ Γ1 else u Y D τ Γ1):fG c t u Y D τ Γ:=h
def adY(h:te Y τ Γ λx Γ1=>D.nx (τ.set i (some x)) Γ1):P8 i te Y D τ Γ:=h
def z9(h:te Y τ Γ D.rt):aC te Y D τ Γ:=h
def vN(h:te Y τ Γ λ_ Γ1=>D.nx τ Γ1):pv te Y D τ Γ:=h
def lL(h:D.nx τ Γ):OW Y D τ Γ:=h
def uV{a b:AX}(h:a Y τ Γ λx Γ1=>∃c,x=.bl c∧if c=true then b Y τ Γ1 Z else Z (.bl false) Γ1):oW a b Y τ Γ Z:=h
def wN{a b:AX}(h:a Y τ Γ λx Γ1=>∃c,x=.bl c∧if c=true then Z (.bl true) Γ1 else b Y τ Γ1 Z):mS a b Y τ Γ Z:=h
def aap{a:AX}(h:a Y τ Γ λx Γ1=>∃c,x=.bl c∧Z (.bl (!c)) Γ1):nO a Y τ Γ Z:=h
def rD{a b:CY}(h:a Y τ Γ λc Γ1=>if c=true then b Y τ Γ1 B else B false Γ1):iU a b Y τ Γ B:=h
def Itm{a b:CY}(h:a Y τ Γ λc Γ1=>if c=true then B true Γ1 else b Y τ Γ1 B):fR a b Y τ Γ B:=h
def zH{a:CY}(h:a Y τ Γ λc Γ1=>B (!c) Γ1):lB a Y τ Γ B:=h
def uN{c:CY}{a b:AX}(h:c Y τ Γ λk Γ1=>if k=true then a Y τ Γ1 Z else b Y τ Γ1 Z):bR c a b Y τ Γ Z:=h
def vf(h:A [] Γ):jd Y τ Γ A:=h
def abc(h:te Y τ Γ λx Γ1=>t Y τ Γ1 λxs Γ2=>A (x::xs) Γ2):jH te t Y τ Γ A:=h
def adR(h:t Y τ Γ λxs Γ1=>xs.length≤sizeLine∧Z (.tup xs) Γ1):pU t Y τ Γ Z:=h
def zd(h:t Y τ Γ λxs Γ1=>xs.length≤sizeLine∧∀p,Γ1 p=none→Z (.ref p) (up Γ1 p (.lst xs))):qD t Y τ Γ Z:=h
def adg{n:Nat}{A:Prop}(h:Nat.ble n 1000=true)(a:A):n≤sizeLine∧A:=⟨DN (Nat.le_of_ble_eq_true h) (by decide),a⟩
def ad8(h:t Y τ Γ λxs Γ1=>sp xs Γ1 Z λ_ _=>False):bE sp t Y τ Γ Z:=h
def aa0(h:t Y τ Γ λxs Γ1=>sp xs Γ1 Z (Y τ)):cT sp t Y τ Γ Z:=h
def uv{r:Mf}(h:t Y τ Γ λts Γ1=>r ts Γ1 Z):Po r t Y τ Γ Z:=h
def adU{g:Int→Int→T}{i:Int}(h:Z (g i j) Γ):GF g (.int i) (.int j) Γ Z:=Ψ2 i j ⟨rfl,rfl,h⟩
def G4{g:Int→Int→T}{i:Int}(c:C i j)(h:Z (g i j) Γ):Hr C g (.int i) (.int j) Γ Z:=Ψ2 i j ⟨rfl,rfl,c,h⟩
def aeg{a b:Str}(h:Z (.bl (decide (V.str a=V.str b))) Γ):bD (.str a) (.str b) Γ Z:=Ψ2 _ _ ⟨rfl,rfl,rfl,h⟩
def wj{a b:Int}(h:Z (.bl (decide (V.int a=V.int b))) Γ):bD (.int a) (.int b) Γ Z:=Ψ2 _ _ ⟨rfl,rfl,rfl,h⟩
def vz{a b:Str}(h:Z (.bl (!decide (V.str a=V.str b))) Γ):Tr (.str a) (.str b) Γ Z:=Ψ2 _ _ ⟨rfl,rfl,rfl,h⟩
def acJ{a b:Int}(h:Z (.bl (!decide (V.int a=V.int b))) Γ):Tr (.int a) (.int b) Γ Z:=Ψ2 _ _ ⟨rfl,rfl,rfl,h⟩
def jB{t:T}(z:Z t Γ):KC (.tup (t::ts)) (.int 0) Γ Z:=Ψ3 _ 0 t ⟨rfl,rfl,Oc,z⟩
def i9{t u:T}(z:Z u Γ):KC (.tup (t::u::ts)) (.int 1) Γ Z:=Ψ3 _ 1 u ⟨rfl,rfl,ag,z⟩
def Gap{Tn:String}{r:LC}(h:to Y τ Γ λx Γ1=>Gm Γ1 x=some Tn∧t Y τ Γ1 λxs Γ2=>r x xs Γ2 Z):qi Tn r to t Y τ Γ Z:=h
def zK{Tn:String}{r:LC}(h:to Y τ Γ λx Γ1=>Gm Γ1 x=some Tn∧r x [] Γ1 Z):gu Tn r to Y τ Γ Z:=h
def adQ(h:te Y τ Γ λx Γ1=>∃n b,Gm Γ1 x=some n∧W.kitOne K (.type n) (.type Ty)=some b∧Z (.bl b) Γ1):ql K Ty te Y τ Γ Z:=h
def aaI{t:AX}(h:t Y τ Γ λx Γ1=>∃k,XN Γ1 x=some k∧B k Γ1):mh t Y τ Γ B:=h
def pO(h:te Y τ Γ λx Γ1=>g Y x τ Γ1 D.nx):UL te g Y D τ Γ:=h
def acm(h:N (τ.set i (some x)) Γ):hName i Y x τ Γ N:=h
def vG{n:Nat}(l:Nat.beq ts.length n=true)(h:gs Y ts τ Γ N):kE n gs Y (.tup ts) τ Γ N:=⟨ts,rfl,Nat.eq_of_beq_eq_true l,h⟩
def aec{r:List T}(h:g Y x τ Γ λτ1 Γ1=>gs Y r τ1 Γ1 N):j6 g gs Y (x::r) τ Γ N:=Ψ2 x r ⟨rfl,h⟩
def aba(h:N τ Γ):p9 Y [] τ Γ N:=⟨rfl,h⟩
def t7{v:T}(h:to Y τ Γ λo Γ1=>ti Y τ Γ1 λi Γ2=>∃a ts k j,o=.ref a∧i=.int k∧Γ2 a=some (.lst ts)∧FN ts.length k=some j∧N τ (up Γ2 a (.lst (ts.set j v)))):hSub to ti Y v τ Γ N:=h
def rh{a:AX}(h:a Y τ Γ λx Γ1=>r x Γ1 Z):qt r a Y τ Γ Z:=h
def wq{g:Int→T}{i:Int}(h:Z (g i) Γ):lQ g (.int i) Γ Z:=⟨i,rfl,h⟩
def To{r:Dz}(h:τ[i]?=some (some x))(z:te Y τ Γ λy Γ1=>r x y Γ1 λz Γ2=>D.nx (τ.set i (some z)) Γ2):Rj i te r Y D τ Γ:=⟨x,h,z⟩
def rF{r:PD}{tl:JG}(h:te Y τ Γ λx Γ1=>tl Y τ Γ1 λl Γ2=>th Y τ Γ2 λu Γ3=>r x l u Γ3 Z):qV r te tl th Y τ Γ Z:=h
def uT(h:Q none Γ):fO Y τ Γ Q:=h
def aef{t:AX}(h:t Y τ Γ λx Γ1=>∃i,x=.int i∧Q (some i) Γ1):jv t Y τ Γ Q:=h
def wO{i:Int}{Q:Int→Prop}(h:Q i):∃k,T.int i=.int k∧Q k:=⟨i,rfl,h⟩
def abC{ts:AX}(h:te Y τ Γ λx Γ1=>ts Y τ Γ1 λk Γ2=>k=.int (-1)∧r x Γ2 Z):RK r te ts Y τ Γ Z:=h
def wc(h:wi Y τ Γ λts gd Γ1=>TY gd g tb Y D ts τ Γ1):jJ wi g tb Y D τ Γ:=h
def wM(h:tl Y τ Γ λx Γ1=>∃ts,x=.tup ts∧I ts FQ Γ1):jF tl Y τ Γ I:=h
def sT{Q:List T→Prop}(h:Q ts):∃us,T.tup ts=.tup us∧Q us:=⟨ts,rfl,h⟩
def EW(l:ts.length+us.length≤sizeLine)(h:Z (.tup (ts++us)) Γ):qq (.tup ts) (.tup us) Γ Z:=Ψ2 ts us ⟨rfl,rfl,l,h⟩
def adV(h:wi Y τ Γ λts gd Γ1=>ts.length≤sizeLine∧RC gd g tc te (λys Γ2=>∀D,Γ2 D=none→Z (.ref D) (up Γ2 D (.lst ys))) ts (Jz own cap τ) [] Γ1):Og wi g tc te own cap Y τ Γ Z:=h
def ach(h:B true Γ):mw Y τ Γ B:=h
def aaa{C:Addr}(h:t Y τ Γ λxs Γ1=>xs.length≤sizeLine∧Y τ (.ref C) Γ1):iL C t Y D τ Γ:=h
def aac(h:ta Y τ Γ λxs Γ1=>∃j:Int,xs=[.int j]∧-(2^62)≤j∧j<2^62∧I (Dr 0 j.toNat) FQ Γ1):nR ta Y τ Γ I:=h
def vn(h:tl Y τ Γ λx Γ1=>∃a ts,x=.ref a∧Dt Γ1 (.ref a)=some ts∧I ts (λΓ'=>Dt Γ' (.ref a)=some ts) Γ1):gP tl Y τ Γ I:=h
def aaG(h:tl Y τ Γ λx Γ1=>∃z,x=.str z∧I (KU z) FQ Γ1):du tl Y τ Γ I:=h
def uo{Q:Str→Prop}(h:Q z):∃k,T.str z=.str k∧Q k:=⟨z,rfl,h⟩
def SK{A C:Prop}(h:b=true)(a:A):if b=true then A else C:=by rw[AI h];show a
def gU{A C:Prop}(h:b=false)(a:C):if b=true then A else C:=by rw[AH (by rw[h];show BN)];show a
def B5{A C:Prop}(h1:b=true→A)(h2:b=false→C):if b=true then A else C:=by
 cases b with
 |true=>rw[AI rfl];show h1 rfl
 |false=>rw[AH BN];show h2 rfl
def Ik{t:Be}(h:t Y D τ Γ):me t Y D τ Γ:=⟨D.nx,h,λ_ _ z=>z⟩
end
section
def pI(hu:X.A.units<cLine):CJ X (compareOp .Eq) (λx y Γ Z=>∃ts,x=.tup ts∧y=.tup []∧Z (.bl ts.isEmpty) Γ):=
 ⟨_,adK hu,λx y a b H Γ Q Z ra rb hr q0 vr=>by
  let⟨ts,ea,eb,z⟩:=q0;subst ea eb;let⟨p,vs,rfl,hp,q⟩:=De ra;let⟨p',m6,rfl,Aw,q'⟩:=De rb;rw[DI q']at Aw;show Ψ3 p p' vs ⟨rfl,rfl,hp,Aw,by rw[NH q];show vr _ _ H Γ .refl hr E0 z⟩⟩
def adk:K2 X "list.index" (λx ts Γ Z=>∃(p:Addr) (us:List T) (xs:List V) (y:T) (v:V) (j:Nat),x=.ref p∧ts=[y]∧Dt Γ (.ref p)=some us∧Ih us=some xs∧sc y=some v∧EN v=true∧xs.all EN=true∧(∃z,xs[j]?=some z∧uM z v=true)∧(∀m z,m<j→xs[m]?=some z→uM z v=false)∧Z (.int j) Γ):=
 ⟨_,aer,λv x vs ts H Γ Q Z r rs hr q0 vr=>by
  let⟨p,us,xs,y,w,j,ex,et,g,es,ey,f1,f2,h1,h2,z⟩:=q0;subst ex et;let⟨u,rfl,ru⟩:=pH rs;let⟨ws,sq,q⟩:=GL (K:=X.K) hr g;cases ay q es;show Ψ4 p xs w j ⟨CH r,by rw[K9 ru ey],sq,f1,f2,h1,h2,vr _ _ H Γ .refl hr DL z⟩⟩
def Yq:∀ss:List Str,Ih (ss.map T.str)=some (ss.map V.str)
 |[]=>rfl
 |s::r=>by rw[Ar,Ar,Ih,Yq r];rfl
end
section
variable {Γ: AL}
def zF{ws:List T}{Q:List T→List T→Prop}(h:Q us ws):∃ts vs,[T.tup us,T.tup ws]=[T.tup ts,T.tup vs]∧Q ts vs:=Ψ2 us ws ⟨rfl,h⟩
def wA{A:Prop}(h:A):FQ Γ∧A:=⟨trivial,h⟩
def Hs{a b:Str}(h:decide (V.str a=V.str b)=true):a=b:=V.str.inj (Ec h)
def Hh{a b:Str}(h:decide (V.str a=V.str b)=false):a≠b:=λe=>Fn h (by rw[e])
def kx{a b:Int}(h:decide (V.int a=V.int b)=true):a=b:=V.int.inj (Ec h)
def dj{a b:Int}(h:decide (V.int a=V.int b)=false):a≠b:=λe=>Fn h (by rw[e])
def aeS{Q:T→List T→Prop}(h:Q (.tup us) us):∃x ts,[T.tup us]=[x]∧Dt Γ x=some ts∧Q x ts:=Ψ2 (.tup us) us ⟨rfl,rfl,h⟩
end
section
variable {Γ: AL}{Z: Cr}
def aeP{r r':Dz}{a b c:AX}(h:a Y τ Γ λx Γ1=>b Y τ Γ1 λy Γ2=>r x y Γ2 λz Γ3=>∃k,z=.bl k∧(if k=true then c Y τ Γ3 λw' Γ4=>r' y w' Γ4 Z else Z (.bl false) Γ3)):SV r r' a b c Y τ Γ Z:=h
def ya{u:V}{us:List V}(h1:sc x=some u)(h2:Ih ts=some us)(h3:(EN u&&us.all EN)=true)(z:Z (.bl (if neg then !Ie u us else Ie u us)) Γ):Q6 neg x (.tup ts) Γ Z:=by
 rw[FI]at h3;show Ψ3 u ts us ⟨h1,rfl,h2,h3.1,h3.2,z⟩
def G5{Q:T→List T→Prop}(g:Γ p=some (.lst ts))(h:Q (.ref p) ts):∃x us,[T.ref p]=[x]∧Dt Γ x=some us∧Q x us:=Ψ2 (.ref p) ts ⟨rfl,As g,h⟩
def Ep{i:Int}{t:T}(g:Γ p=some (.lst ts))(h:Bw ts i=some t)(z:Z t Γ):KC (.ref p) (.int i) Γ Z:=Ψ3 ts i t ⟨As g,rfl,h,z⟩
def IM{i:Int}{t:T}(h:Bw ts i=some t)(z:Z t Γ):KC (.tup ts) (.int i) Γ Z:=Ψ3 ts i t ⟨rfl,rfl,h,z⟩
def FK{t:T}(h:ts[i]?=some t)(z:Z t Γ):KC (.tup ts) (.int (i:Nat)) Γ Z:=Ψ3 ts i t ⟨rfl,rfl,Es h,z⟩
def HI{A:Prop}(g:Γ p=some (.lst ts))(h:A):Gm Γ (.ref p)=some "list" ∧ A:=⟨by show(match Γ p with|some (.lst _)=>some "list" |some (.dK _)=>some "dict" |_=>none)=_;rw[g],h⟩
def ac6{A:Prop}(h:A):Gm Γ (.str z)=some "str" ∧ A:=⟨rfl,h⟩
end
section
variable {Γ: AL}
def rI{i:Int}{Q:Int→Int→Prop}(h:Q i j):∃i' j',[T.int i,T.int j]=[T.int i',T.int j']∧Q i' j':=Ψ2 i j ⟨rfl,h⟩
def uR{k:Int}{j:Nat}{v:T}(g:Γ p=some (.lst ts))(h:FN ts.length k=some j)(z:N τ (up Γ p (.lst (ts.set j v)))):∃a us k' j',T.ref p=.ref a∧T.int k=.int k'∧Γ a=some (.lst us)∧FN us.length k'=some j'∧N τ (up Γ a (.lst (us.set j' v))):=Ψ4 p ts k j ⟨rfl,rfl,g,h,z⟩
end
def u0{A:Prop}(h:A):T.tup []=T.tup []∧A:=⟨rfl,h⟩
section
variable {Γ: AL}{Z: Cr}
def sf{Cy:Addr}{j:Nat}{ts:Be}(h:tb (λτ' C Γ'=>W.exmOne K C (.ref Cy)=some true∧∀x,Γ' x=none→
 ts EG {nx:=λτ2 Γ2=>D.nx (τ2.set j none) Γ2,rt:=D.rt,bk:=λτ2 Γ2=>D.bk (τ2.set j none) Γ2,ct:=λτ2 Γ2=>D.ct (τ2.set j none) Γ2} (τ'.set j (some (.ref x))) (up Γ' x (.ext (excAt x C)))) D τ Γ):lW K Cy j tb ts Y D τ Γ:=h
def ab4(h:ta Y τ Γ λxs Γ1=>∃ts us,xs=[.tup ts,.tup us]∧ts.length=us.length∧∀p,Γ1 p=none→Z (.ref p) (up Γ1 p (.lst (E4 ts us)))):ip ta Y τ Γ Z:=h
end
mutual
/-- how great a value is -/
def OH:T→Nat
 |.tup ts=>1+ER ts
 |.non=>1|.bl _=>1|.int _=>1|.str _=>1|.ref _=>1|.ty _=>1|.scr _ _ _=>1
def ER:List T→Nat
 |[]=>0
 |t::r=>OH t+ER r
end
def SN:∀(a b:List T),ER (a++b)=ER a+ER b
 |[],b=>by rw[IP,ER,F6]
 |x::r,b=>by rw[Ig,ER,ER,SN r b,Nat.add_assoc]
def fE:∀x:T,1≤OH x:=λx=>by cases x<;>rw[OH]<;>lia
def Tt:∀xs:List T,xs.length≤ER xs
 |[]=>CV _
 |x::r=>by rw[ER,BE];have:=Tt r;have:=fE x;lia
inductive G7:T→Prop
 |int (i:Int):G7 (.int i)
 |str {z:Str}:G7 (.str z)
 |tup {ts:List T} (q:∀t∈ts,G7 t):G7 (.tup ts)
def xB{α:Type}{P:List α→Prop}(h:∀a0,P [a0]):∀us:List α,us.length=1→P us
 |[a0],_=>h _
def Cs{α:Type}{P:List α→Prop}(h:∀a0 a1,P [a0,a1]):∀us:List α,us.length=2→P us
 |[a0,a1],_=>h _ _
def Bd{α:Type}{P:List α→Prop}(h:∀a0 a1 a2,P [a0,a1,a2]):∀us:List α,us.length=3→P us
 |[a0,a1,a2],_=>h _ _ _
def Wa{α:Type}{P:List α→Prop}(h:∀a0 a1 a2 a3,P [a0,a1,a2,a3]):∀us:List α,us.length=4→P us
 |[a0,a1,a2,a3],_=>h _ _ _ _
end L3
namespace L3
open PySem PySem.Spec L2
def qC{H:A7}{α:Type}{f:α→T}:∀{vs m6:List V},m6.Perm vs→∀{ns:List α},Rs H vs (ns.map f)→∃ms:List α,ms.Perm ns∧Rs H m6 (ms.map f):=by
 intro vs m6 p;induction p with
 |nil=>intro ns h;show⟨ns,.refl _,h⟩
 |@cons u l1 l2 p ih=>
  intro ns h;cases ns with
  |nil=>cases DI h
  |cons n ns=>
   let⟨v,ws,e,a,b⟩:=DG h;cases e;let⟨ms,pm,hm⟩:=ih b;show⟨n::ms,pm.cons _,CS a hm⟩
 |swap u v l=>
  intro ns h;cases ns with
  |nil=>cases DI h
  |cons n ns=>
   let⟨_,_,e,a,b⟩:=DG h;cases e;cases ns with
   |nil=>cases DI b
   |cons m ns=>
    let⟨_,_,e,a2,b2⟩:=DG b;cases e;show⟨m::n::ns,.swap _ _ _,CS a2 (CS a b2)⟩
 |trans p1 p2 UK UJ=>
  intro ns h;let⟨zs,pz,hz⟩:=UJ h;let⟨ws,pw,hw⟩:=UK hz;show⟨ws,pw.trans pz,hw⟩
section
variable {X: Cx}{E: St→BF}
abbrev fD(n:Nat):List T:=(List.range n).map λj=>T.int (j:Nat)
abbrev jb(ta:D0):AX:=λY τ Γ Z=>ta Y τ Γ λxs Γ1=>∃n:Nat,xs=[.int n]∧n≤1000∧∀p,Γ1 p=none→Z (.ref p) (up Γ1 p (.lst (fD n)))
def jf{H:A7}{α:Type}{f:α→Int}:∀ns:List α,Rs H (ns.map λa=>V.int (f a)) (ns.map λa=>T.int (f a))
 |[]=>D3
 |n::r=>CS DL (jf r)
def t4{a:Expr}{ta:D0}{p1 p2 yh iF:Pos}(hc:X.calm=true)(hg:Bi X "list")(hm:X.mg "list" = none)(Nb:Bi X "range")(Gy:X.mg "range" = none)(ha:PA X [a] (Dy E ta))
  (hs:starEach [a] X.env=[(false,eval a X.env)]:=by rfl)
  (hz:starEach [.Call (.Name "range" p2) [a] [] iF] X.env=[(false,eval (.Call (.Name "range" p2) [a] [] iF) X.env)]:=by rfl) :
  PE X (.Call (.Name "list" p1) [.Call (.Name "range" p2) [a] [] iF] [] yh) (AK E (jb ta)):=
 Dw (aal hc hg hm Nb Gy ha hs hz) λσ H Q τ Γ Y Z rs hr t vr xr=>⟨τ,Γ,Y,_,rs,hr,t,λvs xs H1 Γ1 s1 h1 r1 ξ=>Ξ13 ξ λn ex hn z=>by
  subst ex;let⟨v,rfl,a⟩:=pH r1;show⟨n,by rw[D8 a],hn,λL hL=>?_⟩;let k:=Dk (o:=.lst ((List.range n).map λj=>V.int (j:Nat))) hL;show vr _ _ _ _ (s1.trans (.make hL)) (h1.make (o3:=.lst (fD n)) hL ⟨_,B0,jf (f:=λj:Nat=>(j:Int)) _⟩) EV (z L (h1.free hL)),xr⟩
end
end L3
namespace L3
open PySem PySem.Spec L2
variable {X: Cx}{E: St→BF}
section
def RG:Et X (.type "int") (λxs Γ Z=>∃b:Bool,xs=[.bl b]∧Z (.int (if b=true then 1 else 0)) Γ):=
 ⟨_,aen,λvs xs H Γ Q Z r hr q0 vr=>by
  let⟨b,e,z⟩:=q0;subst e;let⟨v,rfl,a⟩:=pH r;show⟨b,by rw[GU a],vr _ _ H Γ .refl hr DL z⟩⟩
end
section
abbrev aay:=Str→AX
abbrev bF(E:St→BF)(t:aay):Str→Am:=λout=>AK E (t out)
end
section
abbrev adi:AX:=λ_ _ Γ Z=>∀p,Γ p=none→Z (.ref p) (up Γ p (.dK []))
def fT{pos:Pos}:PE X (.Dict [] [] pos) (AK E adi):=
 Dw acS λσ H Q τ Γ Y Z rs hr t vr xr=>by
  intro p hp;show vr _ _ _ _ (.make hp) (hr.make (o3:=.dK []) hp ⟨[],B0,.nil⟩) EV (t p (hr.free hp))
end
end L3
namespace L3
open PySem PySem.Spec L2
open PyProof.Rows hiding St
abbrev eqT:=Bn→List T→AL→(Bn→List T→AL→Prop)→Prop
end L3
namespace L3
open PySem PySem.Spec L2
open PyProof.Rows hiding St
variable {H:A7}{v:V}{o i:Expr}{td ty:AX}{pos:Pos}{X: Cx}{E: St→BF}
section
variable {pos p: Pos}
abbrev KT(K:W.Frag)(a:Addr)(ts:List T):Prop:=∃vs,adn K a vs∧∀H,Rs H vs ts
abbrev i3(ta:D0):I3:=λY τ Γ Z=>ta Y τ Γ λxs Γ1=>∃ts b us,xs=[.tup ts,.ref b]∧Γ1 b=some (.lst us)∧Z (E4 ts us) (λΓ'=>Γ' b=some (.lst us)) Γ1
def aaf{K:W.Frag}{a b:Addr}{vs:List V}{ts us:List T}(ha:H a=some (.tup vs))(q:Rs H vs ts):Walks (El K a b) (E4 ts us) (λΓ'=>Γ' b=some (.lst us)) H where
 go:=λi H' Γ t hr g hi=>by
  rw[OY]at hi;let⟨ws,hb,q'⟩:=hr b _ g;show Ψ4 vs ws (vs[i]'(by rw[q.length];lia)) (ws[i]'(by rw[q'.length];lia)) ⟨dD.of (t.1 a vs ha),eB.of hb,by simp,by simp⟩
 vt:=λi H' Γ v H2 t hr g hi q0=>by
  let⟨ws,hb,q'⟩:=hr b _ g;let⟨p,x,y,hp,e1,e2,y1,y2⟩:=q0;subst e1 e2;let⟨t1,f1,r1⟩:=(q.mono t).Jb (y1 vs (dD.of (t.1 a vs ha)));let⟨t2,f2,r2⟩:=q'.Jb (y2 ws (eB.of hb));let k:=Dk (o:=.tup [x,y]) hp;show⟨.keep k,hr.keep k,_,iX f1 f2,Ea B0 (CS (r1.mono (DA k)) (CS (r2.mono (DA k)) D3))⟩
 stop:=λH' Γ t hr g=>by
  let⟨ws,hb,q'⟩:=hr b _ g;show Ψ2 vs ws ⟨dD.of (t.1 a vs ha),eB.of hb,by rw[OY,q.length,q'.length];lia⟩
def yo{a b:Expr}{ta:D0}{elts:List Expr}{kk:Nat}{Lj:Pos}(hg:Bi X "zip")(hm:X.mg "zip" = none)(ha:PA X [a,b] (Dy E ta))(hs:starEach [a,b] X.env=[(false,eval a X.env),(false,eval b X.env)]:=by rfl)(BS:starEach [b] X.env=[(false,eval b X.env)]:=by rfl):
  PI X (.Tuple elts kk Lj) (.Call (.Name "zip" p) [a,b] [] pos) (GV E (i3 ta)):=
 Mk (tO hg hm ha hs BS) λσ H Q τ Γ Y Z rs hr t vr xr=>⟨τ,Γ,Y,_,rs,hr,t,λvs xs H1 Γ1 s1 h1 r1 ξ=>Ξ33 ξ λts b us ex g z=>by
  subst ex;let⟨v,w,rfl,a,b⟩:=xC r1;let⟨pa,va,rfl,ha,qa⟩:=De a;let⟨ws,hb,q'⟩:=h1 _ _ g;rw[CH b];show Ψ4 pa _ va ws ⟨rfl,dD.of ha,eB.of hb,vr _ _ _ H1 Γ1 s1 h1 (aaf ha qa) z⟩,xr⟩
end
abbrev Mb:Ap→T
 |.inl i=>.int i
 |.inr z=>.str z
def oZ{k:Ap}(h:R H v (Mb k)):v=Bt k:=by
 cases k with
 |inl i=>show D8 h
 |inr z=>show EH h
abbrev DS(aQ:List (Ap×T))(k:Ap):Option T:=(aQ.find? λkv=>decide (kv.1=k)).map (·.2)
abbrev Jk(aQ:List (Ap×T))(k:Ap)(v:T):List (Ap×T):=
 if(aQ.any λkv=>decide (kv.1=k))=true then aQ.map (λkv=>if kv.1=k then(kv.1,v)else kv)else aQ++[(k,v)]
section
variable {H: A7}
def Ks.len:∀{us:List (Ap×V)} {aQ:List (Ap×T)},Ks H us aQ→us.length=aQ.length
 |_,_,.nil=>rfl
 |_,_,.cons a b=>by rw[BE,BE,Ks.len b]
def Ks.val:∀{us:List (Ap×V)} {aQ:List (Ap×T)} (k:Ap),Ks H us aQ→(Fm us k=none∧DS aQ k=none)∨∃v t,Fm us k=some v∧DS aQ k=some t∧R H v t
 |_,_,k,.nil=>.inl ⟨rfl,rfl⟩
 |(k1,v)::us,(k2,t)::aQ,k,.cons a b=>by
  let⟨e,r⟩:=a;let e:k1=k2:=e;subst e;by_cases h:k1=k
  ·show .inr ⟨v,t,PJ h,by simp[DS,IH,h],r⟩
  ·rcases Ks.val k b with⟨x,y⟩|⟨v',t',x,y,r'⟩
   ·show .inl ⟨by rw[NN h];show x,by rw[show DS ((k1,t)::aQ) k=DS aQ k by simp[DS,IH,h]];show y⟩
   ·show .inr ⟨v',t',by rw[NN h];show x,by rw[show DS ((k1,t)::aQ) k=DS aQ k by simp[DS,IH,h]];show y,r'⟩
def Ks.any:∀{us:List (Ap×V)} {aQ:List (Ap×T)} (k:Ap),Ks H us aQ→(us.any λkv=>decide (kv.1=k))=(aQ.any λkv=>decide (kv.1=k))
 |_,_,k,.nil=>rfl
 |(k1,v)::us,(k2,t)::aQ,k,.cons a b=>by
  let⟨e,r⟩:=a;let e:k1=k2:=e;subst e;rw[JH,JH,Ks.any k b]
def Ks.map:∀{us:List (Ap×V)} {aQ:List (Ap×T)} {v:V} {t:T} (k:Ap),R H v t→Ks H us aQ→Ks H (us.map λkv=>if kv.1=k then(kv.1,v)else kv) (aQ.map λkv=>if kv.1=k then(kv.1,t)else kv)
 |_,_,v,t,k,r,.nil=>.nil
 |(k1,v1)::us,(k2,t1)::aQ,v,t,k,r,.cons a b=>by
  let⟨e,r1⟩:=a;let e:k1=k2:=e;subst e;rw[Ar,Ar];by_cases h:k1=k
  ·rw[AI h,AI h];show .cons ⟨rfl,r⟩ (Ks.map k r b)
  ·rw[AH h,AH h];show .cons ⟨rfl,r1⟩ (Ks.map k r b)
def Ks.snoc:∀{us:List (Ap×V)} {aQ:List (Ap×T)} {v:V} {t:T} (k:Ap),R H v t→Ks H us aQ→Ks H (us++[(k,v)]) (aQ++[(k,t)])
 |_,_,v,t,k,r,.nil=>.cons ⟨rfl,r⟩ .nil
 |_::_,_::_,v,t,k,r,.cons a b=>.cons a (Ks.snoc k r b)
def Ks.put{us:List (Ap×V)}{aQ:List (Ap×T)}{t:T}(k:Ap)(r:R H v t)(h:Ks H us aQ):Ks H (putK us k v) (Jk aQ k t):=by
 unfold putK Jk;rw[h.any k];split
 ·show h.map k r
 ·show h.snoc k r
end
section
abbrev jO(td ty:AX):AX:=λY τ Γ Z=>td Y τ Γ λx Γ1=>ty Y τ Γ1 λy Γ2=>∃a aQ k v,x=.ref a∧y=Mb k∧Γ2 a=some (.dK aQ)∧DS aQ k=some v∧Z v Γ2
def nQ(hu:X.A.units+1<cLine)(ho:PE X o (AK E td))(hi:PE X i (AK E ty))(hs:VO i:=by exactλ_ _=>rfl):PE X (.Subscript o i pos) (AK E (jO td ty)):=
 Dw (abu hu ho hi hs) λσ H Q τ Γ Y Z rs hr t vr xr=>by
  show Ψ4 τ Γ Y _ ⟨rs,hr,t,λv x H1 Γ1 s1 h1 r1 z1=>?_,xr⟩;show Ψ4 τ Γ1 Y _ ⟨rs.mono s1.tq,h1,z1,λw y H2 Γ2 s2 h2 r2 z2=>?_,xr.mono s1⟩;let⟨a,aQ,k,u,rfl,rfl,g,l,z⟩:=z2;let⟨us,hu,q⟩:=h2 a _ g;rcases q.val k with⟨_,y⟩|⟨v',t',x',y',r'⟩
  ·rw[l]at y;cases y
  rw[l]at y';cases y';show Ψ2 a v' ⟨CH r1,?_,vr v' u H2 Γ2 (s1.trans s2) h2 r' z⟩;rw[oZ r2,←x'];show Cq.k hu
abbrev oY(td ty tv:AX):Be:=λY D τ Γ=>tv Y τ Γ λv Γ1=>td Y τ Γ1 λx Γ2=>ty Y τ Γ2 λy Γ3=>∃a aQ k,x=.ref a∧y=Mb k∧Γ3 a=some (.dK aQ)∧aQ.length<sizeLine∧D.nx τ (up Γ3 a (.dK (Jk aQ k v)))
def oo{value:Expr}{tv:AX}{pos':Pos}(hu:X.A.units+1<cLine)(ho:PE X o (AK E td))(hi:PE X i (AK E ty))(hv:PE X value (AK E tv))(hs:swapsWith value (some (.Subscript o i pos')) pos.line X.env=pure false:=by rfl):PS X (.Assign [.Subscript o i pos'] value pos) (Cj E (oY td ty tv)):=
 HD (vC hu ho hi hv hs) λD σ H τ Γ Y Z rs hr t dr xr=>by
  show Ψ4 τ Γ Y _ ⟨rs,hr,t,λv v3 H1 Γ1 s1 h1 r1 z1=>?_,xr⟩;show Ψ4 τ Γ1 Y _ ⟨rs.mono s1.tq,h1,z1,λx x3 H2 Γ2 s2 h2 r2 z2=>?_,xr.mono s1⟩;show Ψ4 τ Γ2 Y _ ⟨rs.mono (s1.trans s2).tq,h2,z2,λy y3 H3 Γ3 s3 h3 r3 z3=>?_,xr.mono (s1.trans s2)⟩;let⟨a,aQ,k,rfl,rfl,g,l,z⟩:=z3;let⟨us,hu,q⟩:=h3 a _ g;let Wk:=(s1.trans s2).trans s3;let st:fN H3 Γ3 (upd H3 a (.dK (putK us k v))) (up Γ3 a (.dK (Jk aQ k v3))):=fN.set h3 g;show Ψ2 a _ ⟨CH r2,by rw[oZ r3];show Gn.k hu (by rw[q.len];show l),?_⟩;let tq:Tq H3 (upd H3 a (.dK (putK us k v))):=La hu ⟨λ_ z=>(nomatch z),λ_ _ z=>(nomatch z)⟩;show dr.nx _ _ _ _ (Wk.trans st) (h3.set g ⟨_,B0,(q.put k (r1.mono (s2.trans s3).tq)).mono tq⟩) (rs.mono (Wk.trans st).tq) z
end
end L3
namespace L3
open PySem PySem.Spec L2
variable {oc Bt doc pm cA ct:Value}{od an:Option Addr}{yn:Array (Option Value)}{x q: Str}{te: AX}{H:A7}{e: Expr}{X: Cx}{pos p p2: Pos}{scope: Scope}{E: St→BF}{j: Nat}
abbrev Ge(zs:List Str)(xs:List T):List (Ap×T):=(zs.map Sum.inr).zip xs
section
variable {P: Program}{w: World}{K: W.Frag}{mg: Str→Option Value}{am h: Heap}{st: Stmt}{f: Addr}{fd: FuncData}{ps: List Str}{n: Nat}{sp: Dn}
structure Dg(K:W.Frag)(x:Str)(st:Stmt)(f:Addr)(fd:FuncData):Prop where
 a:W.nsIn K mainGlobals x=some (some (.ref f))
 F:dR K x x st f fd
def dg(a:W.nsIn K mainGlobals x=some (some (.ref f)))(l:K.lookup f=some ⟨oc,od,.func (W.fnOf x x (IS st) (FF st) (B4 st) .none Bt doc pm an cA ct),yn⟩)(c:W.codeIn K cA x=true)(k:W.keepIn K (.ref f)=true):Dg K x st f (W.fnOf x x (IS st) (FF st) (B4 st) .none Bt doc pm an cA ct):=⟨a,oV l c k⟩
structure Df(K:W.Frag)(mg:ac)(x:Str)(st:Stmt)(ps:List Str)(f:Addr)(fd:FuncData):Prop where
 F:dR K x x st f fd
 m:mg x=some (.ref f)
 k:W.keepIn K (.ref f)=true
 b:Binds K fd ps []
def Dg.df(d:Dg K x st f fd)(X:K.In h)(G:h.Ns mainGlobals mg)(hb:∀(Bt doc pm:Value) (an:Option Addr) (cA ct:Value) (us:List Value),us.length=ps.length→bindArgs (W.fnOf x x (IS st) (FF st) (B4 st) .none Bt doc pm an cA ct) ⟨us,[]⟩=pure (ps.zip us)):Df K mg x st ps f fd:=⟨d.F,EB X G d.a,d.F.kp,d.F.binds hb⟩
def Df.cl(d:Df K mg x st ps f fd)(o:bB P w K mg am BJ n f fd ps sp):Callee P w K mg am x n ps sp:=Ψ2 f fd ⟨o,d.m,d.k,d.b⟩
def Df.cx(d:Df K mg x st ps f fd)(o:bB P w K mg am (Dd P w) n f fd ps sp):bO P w K mg am x n ps sp:=Ψ2 f fd ⟨o,d.m,d.k,d.b⟩
abbrev Zs(K:W.Frag):List Str→Prop
 |[]=>True
 |x::l=>W.nsIn K mainGlobals x=some none∧Zs K l
abbrev fH(mg:ac):List Str→Prop
 |[]=>True
 |x::l=>mg x=none∧fH mg l
def Zs.m(X:K.In h)(G:h.Ns mainGlobals mg):∀{l:List Str},Zs K l→fH mg l
 |[],_=>trivial
 |_::_,⟨a,b⟩=>⟨W.mg_none_of X G a,Zs.m X G b⟩
def zc{x:Str}{l:List Str}(a:W.nsIn K mainGlobals x=some none)(b:Zs K l):Zs K (x::l):=⟨a,b⟩
structure acw(K:W.Frag)(c:Addr)(m q:Str)(st:Stmt)(f:Addr)(fd:FuncData):Prop where
 t:Meth K c m f
 F:dR K m q st f fd
def mR{c:Addr}{m:Str}(a:W.findIn K (.ref c) m=some (some (.ref f)))(l:K.lookup f=some ⟨oc,od,.func (W.fnOf m q (IS st) (FF st) (B4 st) .none Bt doc pm an cA ct),yn⟩)(cd:W.codeIn K cA q=true)(k:W.keepIn K (.ref f)=true)(i:W.isFn K (.ref f)=true):acw K c m q st f (W.fnOf m q (IS st) (FF st) (B4 st) .none Bt doc pm an cA ct):=⟨⟨a,i,k⟩,oV l cd k⟩
end
section
def ack:CJ X (binaryOp .Add) (λx y Γ Z=>∃a b ts us,x=.scr X.K a ts∧y=.ref b∧Γ b=some (.lst us)∧ts.length+us.length≤sizeLine∧∀p,Γ p=none→Z (.ref p) (up Γ p (.lst (ts++us)))):=
 ⟨_,aep,λx y v w H Γ Q Z ra rb hr q0 vr=>by
  let⟨a,b,ts,us,ea,eb,g,l,z⟩:=q0;subst ea eb;let⟨rfl,⟨vs,sq,q⟩⟩:=bL ra;let⟨m6,IT,q'⟩:=hr b _ g;show Ψ4 a b vs m6 ⟨rfl,CH rb,sq.sq,eB.of IT,by rw[q.length,q'.length];show l,λc hc=>?_⟩;let k:=Dk (o:=.lst (vs++m6)) hc;show vr _ _ _ _ (.make hc) (hr.make (o3:=.lst (ts++us)) hc ⟨_,B0,Rs.app (q.mono (DA k)) (q'.mono (DA k))⟩) EV (z c (hr.free hc))⟩
end
section
abbrev ku(gd:AL→Prop)(g:ES)(tc:CY)(te:AX)(Yc:EM)(C:List T→AL→Prop)(ts:List T)(τ:Bn)(ys:List T)(Γ:AL):Prop:=∃P:List T→Bn→List T→AL→Prop,P ts τ ys Γ∧(∀τ ys Γ,P [] τ ys Γ→gd Γ∧C ys Γ)∧
 ∀x r τ ys Γ,P (x::r) τ ys Γ→gd Γ∧g EG x τ Γ λτ3 Γ3=>tc EG τ3 Γ3 λb Γ4=>if b=true then te Yc τ3 Γ4 λy Γ5=>P r τ3 (ys++[y]) Γ5 else P r τ3 ys Γ4
abbrev V0(wi:I3)(g:ES)(tc:CY)(te:AX)(own:List Str)(cap:List (Nat×Str)):AX:=λY τ Γ Z=>wi Y τ Γ λts gd Γ1=>ts.length≤sizeLine∧
 ku gd g tc te (λ_ C Γ'=>Y τ C Γ') (λys Γ2=>∀D,Γ2 D=none→Z (.ref D) (up Γ2 D (.lst ys))) ts (Jz own cap τ) [] Γ1
def adJ{EE:BF}{wi:I3}{g:ES}{tc:CY}{te:AX}{own:List Str}{cap:List (Nat×Str)}(σ:St)(H:A7)(Q:Au)(q:AK (λ_=>EE) (V0 wi g tc te own cap) σ H Q):Nr (GV (λ_=>EE) wi) (F7 Ed g) (Cf Ed tc) (AK (λ_=>EE) te) own cap σ H Q:=by
 let⟨τ,Γ,Y,Z,rs,hr,t,vr,xr⟩:=q;show Ψ4 τ Γ Y _ ⟨rs,hr,t,λJ ts gd H1 Γ1 s1 h1 wk⟨hz,P,z1,p0,pc⟩=>?_,xr⟩;intro D hD;let nl:∀vs:List V,(∀us:List V,HO.lst vs≠.tup us)∧∀b w,HO.lst vs≠.frz b w:=λ_=>⟨λ_ z=>(nomatch z),λ_ _ z=>(nomatch z)⟩;show⟨λi m σ' vs H'=>∃τ' ys Γ',i≤ts.length∧m=ts.length-i∧vs.length≤i∧RS H' σ' τ'∧HR H' Γ'∧H' D=some (.lst vs)∧Γ' D=none∧Rs H' vs ys∧fN H1 Γ1 H' Γ'∧P (ts.drop i) τ' ys Γ',
  ⟨ts.length,Jz own cap τ,[],Γ1,CV _,rfl,Ak _,(je own (rs.mono s1.tq) cap).mono (DA (Dk hD)),h1.keep (Dk hD),B0,h1.free hD,D3,.keep (Dk hD),z1⟩,?_⟩
 intro i m σ2 vs H2⟨τ2,ys,Γ2,hi,rfl,hv,xC,h2,d2,gD,ry,s2,w2⟩;show⟨d2,?_⟩;by_cases fI:i<ts.length
 ·rw[drop_cons fI]at w2
  let⟨g2,w2⟩:=pc _ _ _ _ _ w2;show .inr ⟨wk.go i H2 Γ2 s2.tq h2 g2 fI,by lia,λσ' ws H'=>∃τ' ys Γ',ws.length≤i+1∧RS H' σ' τ'∧HR H' Γ'∧H' D=some (.lst ws)∧Γ' D=none∧Rs H' ws ys∧fN H1 Γ1 H' Γ'∧P (ts.drop (i+1)) τ' ys Γ',
   λσ' ws H' ξ=>Ξ31 ξ λτ' ys Γ' ξ=>Ξ08 ξ λa b c d e f k l=>⟨ts.length-(i+1),by lia,τ',ys,Γ',fI,rfl,a,b,c,d,e,f,k,l⟩,λx H3 yl=>?_⟩
  let⟨s3,h3,⟨x3,e3,r3⟩⟩:=wk.vt i H2 Γ2 x H3 s2.tq h2 g2 fI yl;rw[BZ fI]at e3;cases e3;show Ψ5 _ τ2 Γ2 EG _ ⟨r3,xC.mono s3.tq,h3,w2,λσ4 τ4 H4 Γ4 s4 h4 r4 z4=>?_,JC⟩;show Ψ4 τ4 Γ4 EG _ ⟨r4,h4,z4,λk H5 Γ5 s5 h5 z5=>?_,JC⟩;let Bo:=(s3.trans s4).trans s5;let d5:H5 D=some (.lst vs):=Bo.CB D _ d2 gD;let g5:Γ5 D=none:=Bo.new D (by rw[d2];exactλz=>nomatch z) gD;cases k with
  |false=>show Ψ3 τ4 ys Γ5 ⟨Qb hv,r4.mono s5.tq,h5,d5,g5,ry.mono Bo.tq,s2.trans Bo,z5⟩
  |true=>
   show Ψ4 τ4 Γ5 (λ_ C Γ'=>Y τ C Γ') _ ⟨r4.mono s5.tq,h5,z5,λy y' H6 Γ6 s6 h6 r6 z6=>?_,λσ9 τ9 C9 H9 Γ9 s9 h9 _ y9=>xr σ τ C9 H9 Γ9 (((s1.trans s2).trans Bo).trans s9) h9 (rs.mono (((s1.trans s2).trans Bo).trans s9).tq) y9⟩;let G8:=Bo.trans s6;let d6:H6 D=some (.lst vs):=G8.CB D _ d2 gD;let g6:Γ6 D=none:=G8.new D (by rw[d2];exactλz=>nomatch z) gD;let tq:Tq H6 (upd H6 D (.lst (vs++[y]))):=La d6 (nl vs);show⟨d6,τ4,ys++[y'],Γ6,by rw[B9];show Nat.succ_le_succ hv,(r4.mono (s5.trans s6).tq).mono tq,h6.hide g6 d6 (nl vs),B0,g6,Rs.app ((ry.mono G8.tq).mono tq) (CS (r6.mono tq) D3),?_,z6⟩;let s7:=s2.trans G8;show⟨s7.tq.trans tq,λa h z=>?_,s7.new,λa o h g=>?_⟩
   ·by_cases e:a=D
    ·subst e;show h hD
    ·rw[AW e]at z;show s7.GD a h z
   ·let e:a≠D:=λe=>by subst e;rw[hD]at h;cases h
    rw[AW e];show s7.CB a o h g
 ·let e:i=ts.length:=by lia
  subst e;rw[PB]at w2;let w2:=p0 _ _ _ w2;show .inl ⟨wk.stop H2 Γ2 s2.tq h2 w2.1,?_⟩;let G9:=s1.trans s2;show vr (.ref D) (.ref D) H2 (up Γ2 D (.lst ys)) ⟨G9.tq,G9.GD,λa h g=>?_,G9.CB⟩ (λa o g=>?_) EV (w2.2 D gD)
  ·let e:a≠D:=λe=>by subst e;show s1.GD _ h hD
   rw[B8 e];show G9.new a h g
  ·by_cases e:a=D
   ·subst e;rw[AE]at g;cases g;show⟨vs,d2,ry⟩
   ·rw[B8 e]at g;show h2 a o g
variable {cl: List (Str×Addr)}{own: List Str}{cap: List (Nat×Str)}{tg iter elt: Expr}{ifs: List Expr}{wi: I3}{g: ES}{tc: CY}{EE: BF}
def qu(lM:X.stack=X.env::X.outer∧X.env.frame=some X.env.locals)(hp:Ms X EE)(c:eQ X scope cl own cap)(hc:X.calm=true)(hi:PI X tg iter (GV (λ_=>EE) wi))
  (hg:∀C s H fp,PG (CK X (own++cap.map (·.2)) scope cl C s H fp λ_ _=>False) tg (F7 Ed g)) (ht:∀C s H fp,tS (CK X (own++cap.map (·.2)) scope cl C s H fp λ_ _=>False) ifs (Cf Ed tc))
  (he:∀C s H fp E1,LV (CK X (own++cap.map (·.2)) scope cl C s H fp E1) (λ_=>EE)→PE (CK X (own++cap.map (·.2)) scope cl C s H fp E1) elt (AK (λ_=>EE) te)) (hs:∀x,foldedSetIterable iter X.env x=pure x:=by intro _;rfl) :
  PE X (.ListComp elt [⟨tg,iter,ifs,0⟩] scope pos) (AK (λ_=>EE) (V0 wi g tc te own cap)):=GC (zy lM hp c hc hi hg ht he hs) adJ
end
section
variable {q ap: Pos}
abbrev dt(te:AX):AX:=λY τ Γ Z=>te Y τ Γ λx Γ1=>∃ns:List Int,x=.tup (ns.map T.int)∧(∀n∈ns,0≤n∧n<128)∧Z (.str ⟨(ns.map Int.toNat).toArray⟩) Γ1
def iH{H:A7}:∀{ns:List Int} {vs:List V},Rs H vs (ns.map T.int)→vs=ns.map V.int
 |[],vs,h=>DI h
 |n::ns,vs,h=>by
  let⟨v,ws,rfl,a,b⟩:=DG h;rw[D8 a,iH b];rfl
def acK(hc:X.calm=true)(hg:Bi X "bytes")(hm:X.mg "bytes" = none)(he:PE X e (AK E te))
  (jX:attributeBase (.Call (.Name "bytes" p) [e] [] q) "decode" X.env (eval (.Call (.Name "bytes" p) [e] [] q) X.env)=eval (.Call (.Name "bytes" p) [e] [] q) X.env:=by rfl)
  (lM:starEach [e] X.env=[(false,eval e X.env)]:=by rfl)
  (yO:((backTo pos (starEach [.Constant (.str "ascii") j p2] X.env)).all (λx=>!x.1)&&(backToKw pos (keywordEach [] X.env)).all (λx=>x.1.isSome)
   && decide (([.Constant (.str "ascii") j p2]:List Expr).length+([]:List Keyword).length+(if([]:List Keyword).isEmpty then 0 else 1)<30))=true:=by rfl)
  (jW:(ap.endLine==pos.line)=true:=by rfl) (hs:starEach [.Constant (.str "ascii") j p2] X.env=[(false,eval (.Constant (.str "ascii") j p2) X.env)]:=by rfl) :
  PE X (.Call (.Attribute (.Call (.Name "bytes" p) [e] [] q) "decode" ap) [.Constant (.str "ascii") j p2] [] pos) (AK E (dt te)):=
 Dw (sj hc hg hm he jX lM yO jW hs) λσ H Q τ Γ Y Z rs hr t vr xr=>by
  show Ψ4 τ Γ Y _ ⟨rs,hr,t,λv x H1 Γ1 s1 h1 r1 z1=>?_,xr⟩;let⟨ns,rfl,hn,z⟩:=z1;let⟨b,us,rfl,hp,q⟩:=De r1;rw[iH q]at hp;show Ψ2 b ns ⟨rfl,dD.of hp,hn,vr _ _ H1 Γ1 s1 h1 Em z⟩
end
abbrev HU(g:Str×T):T:=.tup [.str g.1,g.2]
def Tw{H:A7}:∀{gs:List (Str×T)} {vs:List V},Rs H vs (gs.map HU)→vs.map (GH H)=gs.map (·.1)∧∀y∈vs,R3 H y
 |[],vs,h=>by rw[DI h];show⟨rfl,λ_ h=>(nomatch h)⟩
 |g::gs,vs,h=>by
  let⟨v,ws,rfl,a,b⟩:=DG h;let⟨p,us,rfl,hp,q⟩:=De a;let⟨w,tV,rfl,r1,_⟩:=DG q;rw[EH r1]at hp;let⟨k1,k2⟩:=Tw b;show⟨by rw[Ar,Ar,k1,Lh hp],λy hy=>?_⟩;rcases aah.mp hy with rfl|hy
  ·show Ψ3 p _ _ ⟨rfl,hp⟩
  ·show k2 y hy
@[reducible]def Oz(ss:List Str):Prop:=ss.Pairwise λu v=>¬v.cps.toList<u.cps.toList
abbrev gK(P:Addr)(q:Str)(n9:Pos)(t:D0):AX:=λY τ Γ Z=>t Y τ Γ λxs Γ1=>∃gs:List (Str×T),xs=[.tup (gs.map HU)]∧gs.length<64∧Γ1 P=some (.lam q n9)∧
 ∀(hs:List (Str×T)) (a:Addr),hs.Perm gs→Oz (hs.map (·.1))→Γ1 a=none→Z (.ref a) (up Γ1 a (.lst (hs.map HU)))
section
variable {P c: Addr}{params: Arguments}{p1 p3 n9 sD: Pos}{t: D0}
def xP(hr:dw 4 X.A)(hg:Bi X "sorted")(hm:X.mg "sorted" = none)(ha:PA X [e] (Dy E t))
  (hq:X.env.qual ++ "<lambda>" = q) (tK:X.env.code=.ref c) (hC:W.codeHdIn X.K c P=true) (hB:IG X.mg X.base P) (S:BA [x] [x] scope) (hx:scope.names.lookup x=some .local)
  (hb:∀(pm uO u:Value) (c':Addr),bindArgs (W.kla_fn "<lambda>" q params (.Subscript (.Name x p1) (.Constant (.int 0) j p2) p3) scope [] pm (.ref c') uO) ⟨[u],[]⟩=pure [(x,u)])
  (hd:(x ==("__debug__" : Str))=false:=by decide) (oX:(x ==("__classdict__" : Str))=false:=by decide)
  (Fv:defaultsOf params X.env=([],[]):=by rfl) (Ax:closureFor scope X.env=pure []:=by rfl)
  (he:backTo pos (starEach [e] X.env)=(false,eval e X.env)::backTo pos (starEach [] X.env):=by rfl) (gc:(backTo pos (starEach [e] X.env)).any (·.1)=false:=by rfl) :
  PE X (.Call (.Name "sorted" p) [e] [⟨some "key",.Lambda params (.Subscript (.Name x p1) (.Constant (.int 0) j p2) p3) scope n9,sD⟩] pos) (AK E (gK P q n9 t)):=
 Dw (tm hr hg hm ha hq tK hC hB S hx hb hd oX Fv Ax he gc) λσ H Q τ Γ Y Z rs hr t vr xr=>by
  show Ψ4 τ Γ Y _ ⟨rs,hr,t,λvs xs H1 Γ1 s1 h1 r1 z1=>?_,xr⟩;let⟨gs,rfl,lZ,gl,z⟩:=z1;let⟨v,rfl,a⟩:=pH r1;let⟨l,ys,rfl,hl,rq⟩:=De a;show Ψ2 l ys ⟨rfl,hl,by rw[rq.length,Ac];show lZ,(Tw rq).2,h1 P _ gl,λH2 b zs kp NV nb pz hs=>?_⟩;let⟨ms,pm,hm⟩:=qC pz rq;rw[(Tw hm).1]at hs;let P1:∃u,H1 P=some u∧(∀vs:List V,u≠.tup vs)∧∀b w,u≠.frz b w:=(h1 P _ gl).some;let⟨u1,e1,n1,n2⟩:=P1;let tq:Tq H1 H2:=⟨λb ys e=>kp b _ (λw=>by rw[w,e1]at e;cases e;show n1 _ rfl) e,λb o u e=>kp b _ (λw=>by rw[w,e1]at e;cases e;show n2 _ _ rfl) e⟩;let nP:∀b,Γ1 b=none→b≠P:=λb g w=>by rw[w,gl]at g;cases g
  let P2:H2 P≠none:=λw=>by
   rcases NV with k|⟨_,_,_,_,_,k,_⟩
   ·rw[k]at w;cases w
   ·rw[k]at w;cases w
  let mR:∀b,H1 b≠none→H2 b≠none:=λb n w=>by
   by_cases e:b=P
   ·rw[e]at w;show P2 w
   ·cases e3:H1 b with
    |none=>show n e3
    |some o=>rw[kp b o e e3]at w;cases w
  let st:fN H1 Γ1 H2 Γ1:=⟨tq,mR,λ_ _ g=>g,λb o e g=>kp b o (nP b g) e⟩;let h2:HR H2 Γ1:=λb o g=>by
   by_cases e:b=P
   ·subst e;rw[gl]at g;cases g;show NV
   ·show(h1 b o g).mono tq λu k=>kp b u e k
  let k:=Dk (o:=.lst zs) nb;show vr _ _ _ _ (s1.trans (st.trans (.make nb))) (h2.make (o3:=.lst (ms.map HU)) nb ⟨_,B0,(hm.mono tq).mono (DA k)⟩) EV (z ms b pm hs (h2.free nb))
end
section
abbrev qc(t:D0)(d:AX):AX:=λY τ Γ Z=>t Y τ Γ λxs Γ1=>d Y τ Γ1 λ_ Γ2=>∃(a:Addr) (ns:List Int),xs=[.ref a]∧Dt Γ2 (.ref a)=some (ns.map T.int)∧ns≠[]∧Z (.int (EX ns)) Γ2
def adS{e v:Expr}{t:D0}{d:AX}{sD:Pos}(hc:X.calm=true)(hg:Bi X "max")(hm:X.mg "max" = none)(ha:PA X [e] (Dy E t))(hv:PE X v (AK E d))
  (he:backTo pos (starEach [e] X.env)=(false,eval e X.env)::backTo pos (starEach [] X.env):=by rfl) (gc:(backTo pos (starEach [e] X.env)).any (·.1)=false:=by rfl) :
  PE X (.Call (.Name "max" p) [e] [⟨some "default",v,sD⟩] pos) (AK E (qc t d)):=
 Dw (adH hc hg hm ha (fF hv qf) he gc) λσ H Q τ Γ Y Z rs hr t vr xr=>by
  show Ψ4 τ Γ Y _ ⟨rs,hr,t,λvs xs H1 Γ1 s1 h1 r1 z1=>?_,xr⟩;show Ψ4 τ Γ1 Y _ ⟨rs.mono s1.tq,h1,z1,λw y H2 Γ2 s2 h2 r2 z2=>?_,xr.mono s1⟩;let⟨a,ns,rfl,g,ne,z⟩:=z2;let⟨v,rfl,ra⟩:=pH r1;let⟨us,sq,q⟩:=GL (K:=X.K) h2 g;rw[MM q]at sq;show Ψ3 _ a ns ⟨rfl,by rw[CH ra],sq,ne,vr _ _ H2 Γ2 (s1.trans s2) h2 DL z⟩
end
end L3
namespace L3
open PySem PySem.Spec L2
open PyProof.Rows hiding St
abbrev c0(st:Stmt):Pos:=match(FF st).drop 1 with
 |[.Return (some (.Call _ [.Call _ _ [⟨_,.Lambda _ _ _ p,_⟩] _] _ _)) _]=>p
 |_=>⟨0,0,0,0⟩
section
variable {P: Program}{w: World}{K: W.Frag}{mg: Str→Option Value}{am: Heap}
def uk{x qual:Str}{st:Stmt}{f c:Addr}{fd:FuncData}{N ps:List Str}{k:Nat}{sp:BQ}(F:dR K x qual st f fd)(hc:fd.code=.ref c)(S:BA N ps (B4 st))(len:∀ts Γ Z Y,sp ts Γ Z Y→ts.length=ps.length)
  (iK:∀(A:Around) (outer:List Env) (s:Shared) (H:A7) (E:BF) (ts:List T) (Γ:AL) (Z:Cr) (Y:Value→AL→Prop),dw k (A.deeper (envOfC qual (B4 st) s.heap.objs.size f (.ref c)))→sp ts Γ Z Y→
   ∃t,kl (Hq BJ P w K mg am N qual (B4 st) f (.ref c) A outer s H E).rQ (FF st) (Cj Ed t)∧t EG {nx:=λ_ Γ'=>E3 Z .non Γ',rt:=E3 Z} (BW N ts) Γ):bB P w K mg am BJ (k+1) f fd ps (BP sp):=by
 let⟨oc,od,Bt,doc,pm,an,cA,ct,yn,rfl,lk,oX⟩:=F.ex;let e:cA=.ref c:=hc;subst e;show SM lk oX S (λvs H Q E q0=>by let⟨ts,Γ,Z,Y,r,_,h,_⟩:=q0;rw[r.length];show len _ _ _ _ h) λA outer s H vs Q E hr ξ=>Ξ45 ξ λts Γ Z Y r h uI vr xr=>?_;let⟨t,ht,hq⟩:=iK A outer s H E ts Γ Z Y hr uI;show⟨_,ht.rQ,BW N ts,Γ,EG,_,Pb N r (by rw[len _ _ _ _ uI];show dI S),h,hq,⟨λσ τ H' Γ' s' h' _ ξ=>Ξ12 ξ λΓ2 l z=>vr .non .non H' Γ2 (s'.cut l) (h'.le l) Lk z,λv x H' Γ' s' h' rv ξ=>Ξ12 ξ λΓ2 l z=>vr v x H' Γ2 (s'.cut l) (h'.le l) rv z,λ_ _ _ _ _ _ _ z=>z.elim,λ_ _ _ _ _ _ _ z=>z.elim⟩,JC⟩
end
section
variable {Y: EM}{τ: Bn}{Γ: AL}{Z: Cr}
def xD{P:Addr}{q:Str}{n9:Pos}{t:D0}(h:t Y τ Γ λxs Γ1=>∃gs:List (Str×T),xs=[.tup (gs.map HU)]∧gs.length<64∧Γ1 P=some (.lam q n9)∧∀(hs:List (Str×T)) (a:Addr),hs.Perm gs→Oz (hs.map (·.1))→Γ1 a=none→Z (.ref a) (up Γ1 a (.lst (hs.map HU)))):gK P q n9 t Y τ Γ Z:=h
def zD{t:D0}{d:AX}(h:t Y τ Γ λxs Γ1=>d Y τ Γ1 λ_ Γ2=>∃(a:Addr) (ns:List Int),xs=[.ref a]∧Dt Γ2 (.ref a)=some (ns.map T.int)∧ns≠[]∧Z (.int (EX ns)) Γ2):qc t d Y τ Γ Z:=h
def t5{td ty:AX}(h:td Y τ Γ λx Γ1=>ty Y τ Γ1 λy Γ2=>∃a aQ k v,x=.ref a∧y=Mb k∧Γ2 a=some (.dK aQ)∧DS aQ k=some v∧Z v Γ2):jO td ty Y τ Γ Z:=h
end
end L3
namespace L3
open PySem PySem.Spec L2
def cu{H:A7}{α:Type}{f:α→T}{key:α→Str}(hf:∀x,∃r,f x=.tup (.str (key x)::r)):∀{ns:List α} {vs:List V},Rs H vs (ns.map f)→vs.map (GH H)=ns.map key∧∀y∈vs,∃a i r,y=.ref a∧H a=some (.tup (.str i::r))
 |[],vs,h=>by rw[DI h];show⟨rfl,λ_ h=>(nomatch h)⟩
 |n::ns,vs,h=>by
  let⟨v,ws,rfl,a,b⟩:=DG h;let⟨r,er⟩:=hf n;rw[er]at a;let⟨p,us,rfl,hp,q⟩:=De a;let⟨w,tV,rfl,r1,_⟩:=DG q;rw[EH r1]at hp;let⟨k1,k2⟩:=cu hf b;show⟨by rw[Ar,Ar,k1,Lh hp],λy hy=>?_⟩;rcases aah.mp hy with rfl|hy
  ·show Ψ3 p _ _ ⟨rfl,hp⟩
  ·show k2 y hy
section
variable {X: Cx}
def yp{α:Type}(f:α→T)(key:α→Str)(hf:∀x,∃r,f x=.tup (.str (key x)::r)):Et X (.builtin "sorted") (λxs Γ Z=>∃(p:Addr) (ns:List α),xs=[.ref p]∧Γ p=some (.lst (ns.map f))∧ns.length<64∧(ns.map key).Nodup∧∀(ms:List α) (l:Addr),ms.Perm ns→(ms.map key).Pairwise (λu v=>¬v.cps.toList<u.cps.toList)→Γ l=none→Z (.ref l) (up Γ l (.lst (ms.map f)))):=
 ⟨_,aam,λvs xs H Γ Q Z r hr q0 vr=>by
  let⟨p,ns,e,g,lZ,nd,z⟩:=q0;subst e;let⟨v,rfl,a⟩:=pH r;let⟨us,hu,q⟩:=hr p _ g;let⟨k1,k2⟩:=cu hf q;show Ψ2 p us ⟨by rw[CH a],hu,by rw[q.length,Ac];show lZ,k2,by rw[k1];show nd,λzs l pz hs hl=>?_⟩;let⟨ms,pm,hm⟩:=qC pz q;let k:=Dk (o:=.lst zs) hl;rw[(cu hf hm).1]at hs;show vr _ _ _ _ (.make hl) (hr.make (o3:=.lst (ms.map f)) hl ⟨_,B0,hm.mono (DA k)⟩) EV (z ms l pm hs (hr.free hl))⟩
end
end L3
namespace L3
open PySem PySem.Spec L2
open PyProof.Rows hiding St
inductive Kz:Nat→T→Prop
 |int {d:Nat} (i:Int):Kz d (.int i)
 |str {d:Nat} (z:Str):Kz d (.str z)
 |tup {d:Nat} {ts:List T} (q:∀t∈ts,Kz d t):Kz (d+1) (.tup ts)
noncomputable def MK(t u:T):Bool:=@decide (t=u) (Classical.propDecidable _)
def pS{t u:T}:MK t u=true↔t=u:=by unfold MK;show @bq _ (Classical.propDecidable _)
def ado{t u:T}{b:Bool}(h:b=true↔t=u):MK t u=b:=by
 cases b with
 |true=>show pS.mpr (h.mp rfl)
 |false=>
  cases e:MK t u with
  |false=>rfl
  |true=>show(h.mpr (pS.mp e)).symm
def fJ{H:A7}:∀(zs:List Str),Rs H (zs.map V.str) (zs.map T.str)
 |[]=>D3
 |z::r=>CS Em (fJ r)
end L3
namespace L3
open PySem L2
def O7{α:Type}{xs:List α}{a b:Nat}:BB xs (some (a:Int)) (some (b:Int))=(xs.drop a).take (b-a):=by
 unfold BB;rw[HT.ug,HT.ug];apply Jx
 intro i;simp only[List.getElem?_take,List.getElem?_drop];by_cases c:a≤xs.length
 ·rw[Nx c]
  by_cases d:i<b-a
  ·rw[AI d]
   split
   ·rfl
   ·rw[Eh (by lia)]
  ·rw[AH d,AH (by lia)]
 ·rw[AH (by lia)]
  split
  ·rw[Eh (by lia)]
  ·rfl
def Mp{α:Type}{xs:List α}{a:Nat}:BB xs (some (a:Int)) none=xs.drop a:=by
 unfold BB;rw[HT.ug,HT.mn];by_cases c:a≤xs.length
 ·rw[Nx c,ID (by rw[F4];show Ak _)]
 ·rw[Nat.min_eq_right (by lia),PB,List.take_nil,QU (by lia)]
def fB{α:Type}{xs:List α}:BB xs none (some (-1))=xs.dropLast:=by
 unfold BB;let e:HT.cE xs.length xs.length (some (-1))=xs.length-1:=by
  unfold HT.cE;simp;lia
 rw[e,HT.mn,HQ,OA,TO]
end L3
namespace L3
open PySem PySem.Spec L2
open PyProof.Rows hiding St
variable {a b e:Expr}{ta tb:AX}{r3:Dz}{i k j:Nat}{x:Str}{ps:List Str}{sp:BQ}{p:Pos}{es:List Expr}{t:D0}
section
variable {X: Cx}{E: St→BF}{pos: Pos}
def AJ(ha:PE X a (AK E ta))(hb:PE X b (AK E tb))(hs:NC b:=by exactλ_ _=>rfl):PE X (.Subscript a b pos) (AK E (F0 KC ta tb)):=zY ha hb hs
def Yi(ha:PE X a (AK E ta))(hb:PE X b (AK E tb))(hs:NC b:=by exactλ_ _=>rfl):PE X (.Subscript a b pos) (AK E (F0 dy ta tb)):=y0 ha hb hs
def Eo{op:CmpOp}(ho:CJ X (compareOp op) r3)(ha:PE X a (AK E ta))(hb:PE X b (AK E tb))(hm:behindInMarks op b=false:=by show IA _):PE X (.Compare a [op] [b] pos) (AK E (F0 r3 ta tb)):=rm ho ha hb hm
def Aj{op:CmpOp}(ho:CJ X (compareOp op) r3)(ha:PE X a (AK E ta))(hb:PE X b (AK E tb))(hm:behindInMarks op b=false:=by show IA _):PT X (.Compare a [op] [b] pos) (Cf E (Lb (F0 r3 ta tb))):=Up ho ha hb hm
def Aa{te:AX}{iF:Pos}(hN:X.N.Nodup)(he:PE X e (AK E te))(hi:X.N[i]?=some x:=by rfl)(hx:Gl X.env.scope x:=by first|show .inl rfl|show .inr rfl)(hs:swapsWith e (some (.Name x iF)) pos.line X.env=pure false:=by rfl)(hf:Fk X x:=by first|show .inl rfl|show .inr rfl|assumption):PS X (.Assign [.Name x iF] e pos) (Cj E (P8 i te)):=xZ hN hi hx he hs hf
def DE(hN:X.N.Nodup)(hi:X.N[i]?=some x:=by rfl)(hx:Gl X.env.scope x:=by first|show .inl rfl|show .inr rfl)(hf:Fk X x:=by first|show .inl rfl|show .inr rfl|assumption):PG X (.Name x pos) (F7 E (hName i)):=DT hN hi hx hf
def Hx(hN:X.N=[x]:=by rfl)(hx:Gl X.env.scope x:=by first|show .inl rfl|show .inr rfl)(hf:Fk X x:=by first|show .inl rfl|show .inr rfl|assumption):PG X (.Name x pos) (F7 E (hName 0)):=DT (by rw[hN];simp) (by rw[hN];rfl) hx hf
def AM(c:AV X.prog X.w X.K X.mg X.base x k ps sp)(hr:dw j X.A)(ha:PA X (e::es) (Dy E t))(hk:k≤j:=by lia)(hg:Bi X x:=by rfl)(sG:(x ==("__debug__" : Str))=false:=by decide)(he:starEach (e::es) X.env=(false,eval e X.env)::starEach es X.env:=by rfl)(gc:(backTo pos (starEach es X.env)).any (·.1)=false:=by rfl):PE X (.Call (.Name x p) (e::es) [] pos) (AK E (bE sp t)):=abB c hr hk hg ha sG he gc
def Gq(c:EJ X.prog X.w X.K X.mg X.base x k ps sp)(hr:dw j X.A)(hx:LV X E)(ha:PA X (e::es) (Dy E t))(hk:k≤j:=by lia)(hg:Bi X x:=by rfl)(sG:(x ==("__debug__" : Str))=false:=by decide)(he:starEach (e::es) X.env=(false,eval e X.env)::starEach es X.env:=by rfl)(gc:(backTo pos (starEach es X.env)).any (·.1)=false:=by rfl):PE X (.Call (.Name x p) (e::es) [] pos) (AK E (cT sp t)):=abm c hr hk hg hx ha sG he gc
def F2{scope:Scope}{own:List Str}(hk:scope.kind=.function:=by rfl)(hn:∀y∈scope.names,y.2≠.free∧y.2≠.cell:=by decide +kernel)(hl:∀y∈scope.names,y.2=.local→scope.names.lookup y.1=some .local:=by decide +kernel):eQ X scope [] own []:=z0 hk hn hl
end
end L3
namespace Tg
open PySem L2
variable {H H':A7}{nm x y:Str}{k:Kd}{lo hi:Option Int}{r:Int}
inductive Kd where
 |num (w:Int)
 |text
 |row (k:Kd)
 |rec_ (fs:List (Str×Kd))
 |pick (fs:List (Str×Kd))
abbrev al:=List (Str×Kd)
mutual
def Kd.size:Kd→Int
 |.num w=>w
 |.text=>1
 |.row _=>1
 |.rec_ fs=>(VX fs).sum
 |.pick fs=>1+EX (VX fs)
def VX:List (Str×Kd)→List Int
 |[]=>[]
 |(_,k)::r=>k.size::VX r
end
mutual
def Kd.depth:Kd→Nat
 |.num _=>1
 |.text=>1
 |.row k=>k.depth+1
 |.rec_ fs=>B6 fs+1
 |.pick fs=>B6 fs+1
def B6:List (Str×Kd)→Nat
 |[]=>0
 |(_,k)::r=>max k.depth (B6 r)
end
mutual
def ph(H:A7):V→Kd→Prop
 |v,.num w=>∃a,v=.ref a∧H a=some (.tup [.str "num",.int w])
 |v,.text=>∃a,v=.ref a∧H a=some (.tup [.str "text"])
 |v,.row k=>∃a u,v=.ref a∧H a=some (.tup [.str "row",u])∧ph H u k
 |v,.rec_ fs=>∃a f xs,v=.ref a∧H a=some (.tup [.str "rec",.ref f])∧H f=some (.tup xs)∧ko H xs fs
 |v,.pick fs=>∃a f xs,v=.ref a∧H a=some (.tup [.str "pick",.ref f])∧H f=some (.tup xs)∧ko H xs fs
def ko(H:A7):List V→List (Str×Kd)→Prop
 |xs,[]=>xs=[]
 |xs,(nm,k)::r=>∃p u ys,xs=.ref p::ys∧H p=some (.tup [.str nm,u])∧ph H u k∧ko H ys r
end
mutual
theorem ph.mono(t:Tp H H'):∀{k:Kd} {v:V},ph H v k→ph H' v k
 |.num w,v,h=>by
  unfold ph at h ⊢;obtain⟨a,e,h⟩:=h;show⟨a,e,t _ _ h⟩
 |.text,v,h=>by
  unfold ph at h ⊢;obtain⟨a,e,h⟩:=h;show⟨a,e,t _ _ h⟩
 |.row k,v,h=>by
  unfold ph at h ⊢;obtain⟨a,u,e,h,q⟩:=h;show Ψ2 a u ⟨e,t _ _ h,ph.mono t q⟩
 |.rec_ fs,v,h=>by
  unfold ph at h ⊢;obtain⟨a,f,xs,e,h,h2,q⟩:=h;show Ψ3 a f xs ⟨e,t _ _ h,t _ _ h2,ko.mono t q⟩
 |.pick fs,v,h=>by
  unfold ph at h ⊢;obtain⟨a,f,xs,e,h,h2,q⟩:=h;show Ψ3 a f xs ⟨e,t _ _ h,t _ _ h2,ko.mono t q⟩
theorem ko.mono(t:Tp H H'):∀{fs:List (Str×Kd)} {xs:List V},ko H xs fs→ko H' xs fs
 |[],xs,h=>by
  unfold ko at h ⊢;show h
 |(nm,k)::r,xs,h=>by
  unfold ko at h ⊢;obtain⟨p,u,ys,e,h,q,z⟩:=h;show Ψ3 p u ys ⟨e,t _ _ h,ph.mono t q,ko.mono t z⟩
end
def ko.length:∀{fs:List (Str×Kd)} {xs:List V},ko H xs fs→xs.length=fs.length
 |[],xs,h=>by unfold ko at h;subst h;rfl
 |(nm,k)::r,xs,h=>by
  unfold ko at h;let⟨p,u,ys,e,_,_,z⟩:=h;rw[e,BE,BE,ko.length z]
def ko.snoc{p:Addr}{u:V}:∀{fs:List (Str×Kd)} {xs:List V},ko H xs fs→H p=some (.tup [.str nm,u])→ph H u k→ko H (xs++[.ref p]) (fs++[(nm,k)])
 |[],xs,h,h1,h2=>by
  unfold ko at h;subst h;show ko H [.ref p] [(nm,k)]
  unfold ko;show Ψ3 p u [] ⟨rfl,h1,h2,by unfold ko;rfl⟩
 |(IC,k')::r,xs,h,h1,h2=>by
  unfold ko at h;let⟨q,u',ys,e1,g1,g2,z⟩:=h;subst e1;show ko H (.ref q::(ys++[.ref p])) ((IC,k')::(r++[(nm,k)]))
  unfold ko;show Ψ3 q u' _ ⟨rfl,g1,g2,ko.snoc z h1 h2⟩
def DP:∀{fs:List (Str×Kd)} {p:Str×Kd},p∈fs→p.2.depth≤B6 fs
 |(nm,k)::r,p,h=>by
  unfold B6;rcases aah.mp h with rfl|h
  ·show RE _ _
  ·show DN (DP h) (Qh _ _)
def qe{nm:Str}{k:Kd}:∀{fs:List (Str×Kd)} {n:Nat},B6 fs≤n→k.depth≤n→B6 (fs++[(nm,k)])≤n
 |[],n,_,h=>by show B6 [(nm,k)]≤n;unfold B6;unfold B6;lia
 |(IC,k')::r,n,h,h2=>by
  show B6 ((IC,k')::(r++[(nm,k)]))≤n
  unfold B6 at h ⊢;have:=qe (fs:=r) (n:=n) (nm:=nm) (k:=k) (by lia) h2;lia
mutual
/-- a kind as Bh document tells it: widths,fields one to six,no name twice,names of one to XA small R7 -/
def Kd.good:Kd→Prop
 |.num w=>1≤w∧w≤4
 |.text=>True
 |.row k=>k.good
 |.rec_ fs=>Dl fs∧1≤fs.length∧fs.length≤6∧(fs.map (·.1)).Nodup
 |.pick fs=>Dl fs∧1≤fs.length∧fs.length≤6∧(fs.map (·.1)).Nodup
def Dl:List (Str×Kd)→Prop
 |[]=>True
 |(nm,k)::r=>(1≤nm.length∧nm.length≤8∧∀c∈nm.cps.toList,97≤c∧c≤122)∧k.good∧Dl r
end
abbrev Lets(z:Str):Prop:=∀c∈z.cps.toList,97≤c∧c≤122
abbrev F3(z:Str):Prop:=1≤z.length∧z.length≤8∧Lets z
def HX(z:Str):z.cps.toList.length=z.length:=by simp[Str.length]
def cO(x y:Str):(x++y).cps.toList=x.cps.toList++y.cps.toList:=by rw[Str.cps_append,R2]
def ae(x y:Str):(x++y).length=x.length+y.length:=by rw[←HX,cO,B9,HX,HX]
def Lets.app(a:Lets x)(b:Lets y):Lets (x++y):=λc h=>by
 rw[cO]at h;rcases aaC.mp h with h|h
 ·show a c h
 ·show b c h
def Lets.cut(a:Lets x)(e:y.cps.toList=BB x.cps.toList lo hi):Lets y:=λc h=>by
 rw[e]at h;show a c (KN (Lu h))
def yv(e:y.cps.toList=BB x.cps.toList lo hi):y.length≤x.length:=by
 rw[←HX,←HX,e];show MQ _ _ _
def sy{n:Int}(h:0≤n)(e:y.cps.toList=BB x.cps.toList none (some n)):y.length=min n.toNat x.length:=by
 rw[←HX,e];unfold BB;let e1:HT.cE x.cps.toList.length x.cps.toList.length (some n)=min n.toNat x.cps.toList.length:=by
  show(if n<0 then _ else min n.toNat _)=_
  rw[AH (by lia)]
 rw[e1,HT.mn,HQ,Er,HX];lia
def nK(h:(x.cps.toList.all λc=>decide (97≤c)&&decide (c≤122))=true):Lets x:=λc hc=>by
 let q:=aaE.mp h c hc;simpa using q
def aeG(h:(decide (1≤x.length)&&decide (x.length≤8)&&x.cps.toList.all λc=>decide (97≤c)&&decide (c≤122))=true):F3 x:=by
 simp only[FI,S1]at h;show⟨h.1.1,h.1.2,nK h.2⟩
@[reducible]def K1:Str := "abcdefghijklmnopqrstuvwxyz"
def lA:K1.length=26:=by decide +kernel
def abj:Lets K1:=nK (by decide +kernel)
def acZ(h0:0≤r)(h1:r<26):∃c,Bw K1.cps.toList r=some c∧97≤c∧c≤122:=by
 let hl:K1.cps.toList.length=26:=by rw[HX,lA]
 let hk:r.toNat<K1.cps.toList.length:=by lia
 let e:r=((r.toNat:Nat):Int):=by lia
 let q:Bw K1.cps.toList ((r.toNat:Nat):Int)=some K1.cps.toList[r.toNat]:=Es (by rw[BZ hk]<;>rfl)
 rw[←e]at q;show⟨_,q,abj _ (Mc hk)⟩
def Qt{α:Type}{xs:List α}(h0:0≤r)(h1:r<xs.length):∃x,Bw xs r=some x∧x∈xs:=by
 let hk:r.toNat<xs.length:=by lia
 let e:r=((r.toNat:Nat):Int):=by lia
 let q:Bw xs ((r.toNat:Nat):Int)=some xs[r.toNat]:=Es (by rw[BZ hk]<;>rfl)
 rw[←e]at q;show⟨_,q,Mc hk⟩
def sub_len{α:Type}[BEq α][LawfulBEq α]:∀{l m:List α},l.Nodup→(∀x∈l,x∈m)→l.length≤m.length
 |[],m,_,_=>CV _
 |x::r,m,nd,h=>by
  let hx:=h x Gd;let e:=List.length_erase_of_mem hx;let WC:=abo.mp nd;let ih:=sub_len (l:=r) (m:=m.erase x) WC.2 λy hy=>by
   show(List.mem_erase_of_ne ?_).mpr (h y (ET _ hy));rintro rfl;show WC.1 hy
  have:0<m.length:=List.length_pos_of_mem hx;rw[BE];lia
@[reducible]def fk:List Str:=["z","y","x","w","v","u","t"]
def aa2:fk.Nodup:=by decide +kernel
def tD:∀z∈fk,F3 z:=by
 intro z hz;simp only[aah,BI,D7]at hz;rcases hz with rfl|rfl|rfl|rfl|rfl|rfl|rfl<;>show aeG (by decide +kernel)
def mD{x:Str}:∀{ss:List Str},Ie (.str x) (ss.map V.str)=decide (x∈ss)
 |[]=>by simp[Ie]
 |y::r=>by
  let ih:=mD (x:=x) (ss:=r);unfold Ie at ih ⊢;rw[Ar,JH,ih];show(y==x||decide (x∈r))=decide (x∈y::r)
  rw[LU];simp only[TN,adf,S1,aah];constructor
  ·rintro(h|h)
   ·show .inl h.symm
   ·show .inr h
  ·rintro(h|h)
   ·show .inl h.symm
   ·show .inr h
def yX(ss:List Str):(ss.map V.str).all EN=true:=by
 rw[aaE];intro x hx;let⟨z,_,rfl⟩:=aau.mp hx;rfl
def wI{z:Str}{ss:List Str}(hz:F3 z)(h6:ss.length≤6):∃y r,((z::fk).filter λx=>!decide (x∈ss))=y::r∧F3 y∧y∉ss:=by
 cases e:((z::fk).filter λx=>!decide (x∈ss))with
 |nil=>
  exfalso
  let h:∀x∈fk,x∈ss:=λx hx=>by
   let q:=List.filter_eq_nil_iff.mp e x (ET _ hx);simpa using q
  have:=sub_len aa2 h;simp at this;lia
 |cons y r=>
  let hy:y∈((z::fk).filter λx=>!decide (x∈ss)):=by rw[e];show Gd
  let⟨h1,h2⟩:=aet.mp hy;show Ψ2 y r ⟨rfl,?_,by simpa using h2⟩;rcases aah.mp h1 with rfl|h1
  ·show hz
  ·show tD y h1
end Tg
namespace Tg
abbrev FD:Nat→Int→List Int
 |0,_=>[]
 |k+1,n=>n%65536::FD k (n/65536)
abbrev val:List Int→Int
 |[]=>0
 |d::ds=>d+65536*val ds
def cI:∀{k:Nat} {n d:Int},d∈FD k n→0≤d∧d<65536
 |k+1,n,d,h=>by
  rcases aah.mp h with rfl|h
  ·show⟨JL _ (by decide),Jy _ (by decide)⟩
  ·show cI h
def nG:∀(k:Nat) (n:Int),val (FD k n)=n%65536^k
 |0,n=>by show(0:Int)=n%1;lia
 |k+1,n=>by
  show n%65536+65536*val (FD k (n/65536))=_
  rw[nG k,Gh,Lm (65536^k) 65536];let h1:=cf n 65536;let h2:=cf (n/65536) (65536^k);let h3:=cf n (65536*65536^k);let h4:n/(65536*65536^k)=n/65536/65536^k:=by rw[Int.ediv_ediv,AH (λh=>absurd h.1 (by decide)),Int.sub_zero]
  rw[h4,Int.mul_assoc]at h3;let h5:65536*(n/65536)=65536*(n/65536%65536^k)+65536*(65536^k*(n/65536/65536^k)):=by rw[←Int.mul_add,h2]
  lia
def Mj(k:Nat):(0:Int)<65536^k:=Int.pow_pos (by decide)
def xO{k:Nat}{n:Int}(h1:-(65536^k)≤2*n)(h2:2*n<65536^k):(if 2*val (FD k n) ≥ 65536^k then val (FD k n)-65536^k else val (FD k n))=n:=by
 rw[nG];let hp:=Mj k;by_cases h:0≤n
 ·rw[Int.emod_eq_of_lt h (by lia),AH (by lia)]
 ·let e:n%65536^k=n+65536^k:=by
   rw[←Int.add_emod_right,Int.emod_eq_of_lt (by lia) (by lia)]
  rw[e,AI (by lia)];lia
end Tg
namespace Tg
open PySem L2 L3
variable {fs:al}{i w:Int}{n:Str}{k:Kd}{na hi:Bool}{D S j:Nat}{u e:T}{ws:List Int}{L:Ly}{ts es:List T}{g:Str×Kd→List T}
mutual
def Kd.tr:Kd→T
 |.num w=>.tup [.str "num",.int w]
 |.text=>.tup [.str "text"]
 |.row k=>.tup [.str "row",k.tr]
 |.rec_ fs=>.tup [.str "rec",.tup (CE fs)]
 |.pick fs=>.tup [.str "pick",.tup (CE fs)]
def CE:List (Str×Kd)→List T
 |[]=>[]
 |(n,k)::r=>.tup [.str n,k.tr]::CE r
end
def JS:∀fs:List (Str×Kd),CE fs=fs.map λp=>.tup [.str p.1,p.2.tr]
 |[]=>rfl
 |(n,k)::r=>by rw[CE,JS r];rfl
def Fl(fs:al):(CE fs).length=fs.length:=by rw[JS,Ac]
def Hw{i:Nat}(h:fs[i]?=some (n,k)):(CE fs)[i]?=some (.tup [.str n,k.tr]):=by rw[JS,CZ,h];rfl
def wo:∀(fs gs:al),CE (fs++gs)=CE fs++CE gs:=λfs gs=>by rw[JS,JS,JS,Ao]
abbrev findF:List (Str×Kd)→Str→Option (Nat×Kd)
 |[],_=>none
 |(m,k)::r,n=>if m=n then some (0,k)else(findF r n).map λp=>(p.1+1,p.2)
def M1:∀{fs:List (Str×Kd)} {n:Str} {j:Nat} {k:Kd},findF fs n=some (j,k)→fs[j]?=some (n,k)
 |[],_,_,_,h=>by cases h
 |(m,q)::r,n,j,k,h=>by
  unfold findF at h;by_cases e:m=n
  ·rw[AI e]at h;cases h;rw[e];rfl
  ·rw[AH e]at h
   cases f:findF r n with
   |none=>rw[f]at h;cases h
   |some p=>
    rw[f]at h;cases h;show M1 (j:=p.1) (k:=p.2) f
def DW:∀{fs:List (Str×Kd)} {p:Str×Kd},Dl fs→p∈fs→p.2.good
 |(nm,k)::r,p,g,h=>by
  unfold Dl at g;rcases aah.mp h with rfl|h
  ·show g.2.1
  ·show DW g.2.2 h
abbrev Dq(c:Nat):Bool:=decide (32≤c)&&decide (c≤126)&&!decide (c=37)
inductive jZ:Kd→T→Prop
 |num {w:Int} {i:Int} (l:-(65536^w.toNat)≤2*i) (h:2*i<65536^w.toNat):jZ (.num w) (.int i)
 |text {z:Str} (l:z.length≤60) (h:z.cps.toList.all Dq=true):jZ .text (.str z)
 |row {k:Kd} {ts:List T} (l:ts.length≤60) (q:∀t∈ts,jZ k t):jZ (.row k) (.tup ts)
 |rec_ {fs:List (Str×Kd)} {ts:List T} (l:ts.length=fs.length) (q:∀(j:Nat) (n:Str) (k:Kd) (t:T),fs[j]?=some (n,k)→ts[j]?=some t→jZ k t):jZ (.rec_ fs) (.tup ts)
 |pick {fs:List (Str×Kd)} {n:Str} {k:Kd} {j:Nat} {t:T} (f:findF fs n=some (j,k)) (q:jZ k t):jZ (.pick fs) (.tup [.str n,t])
def Pa:∀{fs:List (Str×Kd)} {n:Str} {j:Nat} {k:Kd},(fs.map (·.1)).Nodup→fs[j]?=some (n,k)→findF fs n=some (j,k)
 |[],_,_,_,_,h=>by simp at h
 |(m,q)::r,n,j,k,nd,h=>by
  rw[Ar,abo]at nd;unfold findF;cases j with
  |zero=>cases h;rw[AI rfl]
  |succ j=>
   let h:r[j]?=some (n,k):=by simpa using h
   let ne:m≠n:=λe=>nd.1 (by rw[e];show aau.mpr ⟨(n,k),CQ h,rfl⟩);rw[AH ne,Pa nd.2 h];rfl
abbrev J3:T→V
 |.int i=>.int i
 |.str z=>.str z
 |_=>.non
mutual
def AF:Kd→Nat
 |.num w=>w.toNat
 |.text=>1
 |.row _=>1
 |.rec_ fs=>Bb fs
 |.pick fs=>Bc fs
def Bb:List (Str×Kd)→Nat
 |[]=>0
 |(_,k)::r=>AF k+Bb r
def Bc:List (Str×Kd)→Nat
 |[]=>0
 |(_,k)::r=>max (1+AF k) (Bc r)
end
def Blk:∀k:Kd,1≤k.depth
 |.num _=>by rw[Kd.depth];show Ak _
 |.text=>by rw[Kd.depth];show Ak _
 |.row k=>by rw[Kd.depth];lia
 |.rec_ fs=>by rw[Kd.depth];lia
 |.pick fs=>by rw[Kd.depth];lia
mutual
theorem md:∀(k:Kd) (D:Nat),k.good→k.depth≤D+1→AF k≤4*6^D
 |.num w,D,g,h=>by
  unfold Kd.good at g;rw[AF];have:1≤6^D:=Qx (by decide);lia
 |.text,D,g,h=>by
  rw[AF];have:1≤6^D:=Qx (by decide);lia
 |.row k,D,g,h=>by
  rw[AF];have:1≤6^D:=Qx (by decide);lia
 |.rec_ fs,D,g,h=>by
  unfold Kd.good at g;rw[Kd.depth]at h;rw[AF];cases D with
  |zero=>
   have:=j7 g.2.1;lia
  |succ D=>
   have:=(LI fs D g.1 (by lia)).1;let h6:fs.length*(4*6^D)≤6*(4*6^D):=Ra _ g.2.2.1;rw[Nat.pow_succ];lia
 |.pick fs,D,g,h=>by
  unfold Kd.good at g;rw[Kd.depth]at h;rw[AF];cases D with
  |zero=>
   have:=j7 g.2.1;lia
  |succ D=>
   have:=(LI fs D g.1 (by lia)).2;have:1≤6^D:=Qx (by decide);rw[Nat.pow_succ];lia
theorem LI:∀(fs:List (Str×Kd)) (D:Nat),Dl fs→B6 fs≤D+1→Bb fs≤fs.length*(4*6^D)∧Bc fs≤1+4*6^D
 |[],D,g,h=>by rw[Bb,Bc];show⟨CV _,CV _⟩
 |(n,k)::r,D,g,h=>by
  unfold Dl at g;unfold B6 at h;let a:=md k D g.2.1 (by lia);let b:=LI r D g.2.2 (by lia);rw[Bb,Bc,BE,Lw];lia
theorem j7:∀{fs:List (Str×Kd)},1≤fs.length→1≤B6 fs
 |[],h=>by cases h
 |(n,k)::r,h=>by
  unfold B6;have:=Blk k;lia
end
def J2(g:k.good)(d:k.depth≤5):AF k≤5184:=by
 have:=md k 4 g (by lia);show this
def Iz:∀{fs:List (Str×Kd)} {p:Str×Kd},p∈fs→1+AF p.2≤Bc fs
 |(n,k)::r,p,h=>by
  rw[Bc];rcases aah.mp h with rfl|h
  ·show RE _ _
  ·show DN (Iz h) (Qh _ _)
mutual
def KQ:T→Nat
 |.tup us=>gS us
 |_=>0
def gS:List T→Nat
 |[]=>0
 |t::r=>1+KQ t+gS r
end
abbrev zk:T→Bool
 |.tup _=>true
 |_=>false
mutual
def dT:T→Nat
 |.tup us=>1+(us.filter zk).length+qZ us
 |_=>0
def qZ:List T→Nat
 |[]=>0
 |t::r=>max (dT t) (qZ r)
end
abbrev KS{β:Type}(a b:Str×β):Bool:=!decide (b.1.cps.toList<a.1.cps.toList)
abbrev J5{β:Type}(xs:List (Str×β)):List (Str×β):=xs.mergeSort KS
abbrev Az{β:Type}(na:Bool)(xs:List (Str×β)):List (Str×β):=if na=true then J5 xs else xs
def UH{a b:Str}(h:a.cps.toList=b.cps.toList):a=b:=by
 obtain⟨⟨x⟩⟩:=a;obtain⟨⟨y⟩⟩:=b;cases h;rfl
def uF{β:Type}{a b:Str×β}:KS a b=true↔¬b.1.cps.toList<a.1.cps.toList:=by unfold KS;simp
def WZ{β:Type}(xs:List (Str×β)):(J5 xs).Perm xs:=List.mergeSort_perm _ _
def hZ{β:Type}(xs:List (Str×β)):(J5 xs).Pairwise λa b=>¬b.1.cps.toList<a.1.cps.toList:=by
 have:=List.pairwise_mergeSort (le:=KS (β:=β)) (λa b c h h'=>by
  rw[uF]at *
  show acH.mpr (List.le_trans (acH.mp h) (acH.mp h'))) (λa b=>by
  cases e:KS a b with
  |true=>rfl
  |false=>
   have:KS b a=true:=by
    rw[uF];intro z;let z2:b.1.cps.toList<a.1.cps.toList:=by unfold KS at e;simpa using e
    show List.lt_irrefl _ (List.lt_trans z z2)
   simp[this]) xs
 show this.imp λh=>uF.mp h
def iS{α:Type}{R:α→α→Prop}:∀{xs ys:List α},xs.Perm ys→xs.Pairwise R→ys.Pairwise R→(∀a∈xs,∀b∈xs,R a b→R b a→a=b)→xs=ys
 |[],ys,p,_,_,_=>p.nil_eq
 |x::xs,[],p,_,_,_=>absurd p.length_eq (by simp)
 |x::xs,y::ys,p,hx,hy,an=>by
  let e:x=y:=by
   let m1:x∈y::ys:=p.mem_iff.mp (by simp);let m2:y∈x::xs:=p.mem_iff.mpr (by simp);rcases aah.mp m1 with h|h
   ·show h
   rcases aah.mp m2 with h'|h'
   ·show h'.symm
   show an x (by simp) y m2 ((ac4.mp hx).1 y h') ((ac4.mp hy).1 x h)
  subst e;rw[iS (p.cons_inv) (ac4.mp hx).2 (ac4.mp hy).2 λa ha b hb=>an a (by simp[ha]) b (by simp[hb])]
def PZ{β:Type}:∀{xs:List (Str×β)},(xs.map (·.1)).Nodup→∀a∈xs,∀b∈xs,a.1=b.1→a=b
 |[],_,a,ha,_,_,_=>by cases ha
 |x::xs,nd,a,ha,b,hb,e=>by
  rw[Ar,abo]at nd;rcases aah.mp ha with rfl|ha'<;>rcases aah.mp hb with rfl|hb'
  ·rfl
  ·show absurd (aau.mpr ⟨b,hb',e.symm⟩) nd.1
  ·show absurd (aau.mpr ⟨a,ha',e⟩) nd.1
  ·show PZ nd.2 a ha' b hb' e
def TG{β:Type}{xs hs:List (Str×β)}(nd:(xs.map (·.1)).Nodup)(p:hs.Perm xs)(u:Oz (hs.map (·.1))):hs=J5 xs:=by
 let u':hs.Pairwise λa b=>¬b.1.cps.toList<a.1.cps.toList:=by
  have:=adj.mp u;show this
 show iS (p.trans (WZ xs).symm) u' (hZ xs) λa ha b hb h h'=>?_;show PZ nd a (p.mem_iff.mp ha) b (p.mem_iff.mp hb) (UH ?_);show List.le_antisymm (acH.mp h) (acH.mp h')
def FX{β:Type}(na:Bool)(xs:List (Str×β)):(Az na xs).Perm xs:=by
 unfold Az;split
 ·show WZ xs
 ·show .refl _
def PR{β γ:Type}{xs:List (Str×β)}(nd:(xs.map (·.1)).Nodup)(g:Str×β→γ):Az na (xs.map λx=>(x.1,g x))=(Az na xs).map λx=>(x.1,g x):=by
 unfold Az;split
 ·show(TG ?_ ((WZ xs).map _) ?_).symm
  ·rw[CT];show nd
  ·rw[CT,Oz,adj];show hZ xs
 ·rfl
def JM{β:Type}{xs:List (Str×β)}(nd:(xs.map (·.1)).Nodup):((Az na xs).map (·.1)).Nodup:=((FX na xs).map _).nodup_iff.mpr nd
def L8{β:Type}(na:Bool)(xs:List (Str×β)):(Az na xs).length=xs.length:=(FX na xs).length_eq
structure Ly where
 hi:Bool
 en:Bool
 ch:Bool
 na:Bool
abbrev Ly.s1(L:Ly):Str:=if L.hi=true then "high" else "low"
abbrev Ly.s2(L:Ly):Str:=if L.en=true then "end" else "count"
abbrev Ly.s3(L:Ly):Str:=if L.ch=true then "chain" else "array"
abbrev Ly.s4(L:Ly):Str:=if L.na=true then "names" else "told"
abbrev Ly.tr(L:Ly):T:=.tup [.str L.s1,.str L.s2,.str L.s3,.str L.s4]
abbrev Gj(n:Nat)(i:Int):List Int:=(List.range n).map λj=>i/65536^j%65536
abbrev GW(hi:Bool)(n:Nat)(i:Int):List Int:=if hi=true then(Gj n i).reverse else Gj n i
abbrev Hn(en:Bool)(z:Str):List Int:=if en=true then z.cps.toList.map (λc:Nat=>(c:Int))++[0]else(z.length:Int)::z.cps.toList.map (λc:Nat=>(c:Int))
abbrev Cc:List (List T)→T
 |[]=>.int 0
 |p::ps=>.tup (Cc ps::p)
mutual
def AP(L:Ly):Kd→T→List T
 |.num w,.int i=>(GW L.hi w.toNat i).map T.int
 |.text,.str z=>[.tup ((Hn L.en z).map T.int)]
 |.row k,.tup ts=>[if L.ch=true then Cc (ts.map λt=>AP L k t)else .tup (.int ts.length::(ts.map λt=>AP L k t).flatten)]
 |.rec_ fs,.tup ts=>((Az L.na (DV L fs ts)).map (·.2)).flatten
 |.pick fs,.tup [.str m,t]=>(T.int (((Az L.na fs).map (·.1)).idxOf m:Nat)::JT L fs m t)++List.replicate (Bc fs-(1+(JT L fs m t).length)) (T.int 0)
 |_,_=>[]
def DV(L:Ly):List (Str×Kd)→List T→List (Str×List T)
 |(n,k)::fs,t::ts=>(n,AP L k t)::DV L fs ts
 |_,_=>[]
def JT(L:Ly):List (Str×Kd)→Str→T→List T
 |[],_,_=>[]
 |(n,k)::fs,m,t=>if n=m then AP L k t else JT L fs m t
end
def sM(n:Nat)(i:Int):(Gj n i).length=n:=by unfold Gj;simp
def aaj(hi:Bool)(n:Nat)(i:Int):(GW hi n i).length=n:=by unfold GW;split<;>simp[sM]
def bJ(en:Bool)(z:Str):(Hn en z).length=z.length+1:=by unfold Hn;split<;>simp<;>rfl
def jK(L:Ly):∀{fs:List (Str×Kd)} {ts:List T},ts.length=fs.length→(DV L fs ts).map (·.1)=fs.map (·.1)
 |[],[],_=>by rw[DV];rfl;all_goals (intros;contradiction)
 |(n,k)::fs,t::ts,h=>by rw[DV,Ar,Ar,jK L (by simpa using h)]
 |[],_::_,h=>by cases h
 |_::_,[],h=>by cases h
def e9(L:Ly):∀{fs:List (Str×Kd)} {ts:List T} {j:Nat} {n:Str} {k:Kd} {t:T},fs[j]?=some (n,k)→ts[j]?=some t→(DV L fs ts)[j]?=some (n,AP L k t)
 |(n,k)::fs,t::ts,0,_,_,_,h,h'=>by cases h;cases h';rw[DV];rfl
 |(n,k)::fs,t::ts,j+1,_,_,_,h,h'=>by rw[DV];show e9 L (j:=j) h h'
 |[],_,_,_,_,_,h,_=>by simp at h
 |_::_,[],_,_,_,_,_,h=>by simp at h
def kJ(L:Ly):∀{fs:List (Str×Kd)} {ts:List T} {x:Str×List T},x∈DV L fs ts→∃(j:Nat) (n:Str) (k:Kd) (t:T),fs[j]?=some (n,k)∧ts[j]?=some t∧x=(n,AP L k t)
 |(n,k)::fs,t::ts,x,h=>by
  rw[DV]at h;rcases aah.mp h with rfl|h
  ·show Ψ4 0 n k t ⟨rfl,rfl,rfl⟩
  ·let⟨j,n,k,t,a,b,c⟩:=kJ L h
   show Ψ4 (j+1) n k t ⟨a,b,c⟩
 |[],ts,x,h=>by
  have:DV L [] ts=[]:=by rw[DV];all_goals (intros;contradiction)
  rw[this]at h;cases h
 |a::fs,[],x,h=>by
  have:DV L (a::fs) []=[]:=by rw[DV];all_goals (intros;contradiction)
  rw[this]at h;cases h
def MO(L:Ly):∀{fs:List (Str×Kd)} {m:Str} {j:Nat} {k:Kd} {t:T},findF fs m=some (j,k)→JT L fs m t=AP L k t
 |[],m,j,k,t,h=>by cases h
 |(n,q)::fs,m,j,k,t,h=>by
  unfold findF at h;rw[JT];by_cases e:n=m
  ·rw[AI e]at h;cases h;rw[AI e]
  ·rw[AH e]at h
   rw[AH e];cases e2:findF fs m with
   |none=>rw[e2]at h;cases h
   |some p=>
    rw[e2]at h;cases h;show MO L (j:=p.1) (by rw[e2])
mutual
def Dh:T→Nat
 |.tup us=>us.length+CO us
 |_=>0
def CO:List T→Nat
 |[]=>0
 |t::r=>max (Dh t) (CO r)
end
def TJ:∀(a b:List T),CO (a++b)=max (CO a) (CO b)
 |[],b=>by rw[IP,CO,Nat.zero_max]
 |t::r,b=>by rw[Ig,CO,CO,TJ r b,Nat.max_assoc]
def Pf:∀(ns:List Int),CO (ns.map T.int)=0
 |[]=>by rw[GQ,CO]
 |n::r=>by
  let e:Dh (.int n)=0:=by rw[Dh];intro us e;cases e
  rw[Ar,CO,Pf r,e];rfl
def ac8(n:Nat):CO (List.replicate n (T.int 0))=0:=by
 have:=Pf (List.replicate n 0);rw[List.map_replicate]at this;show this
def Gp(us:List T):Dh (.tup us)=us.length+CO us:=by rw[Dh]
def OZ(i:Int):Dh (.int i)=0:=by rw[Dh];intro us e;cases e
def XK{D:Nat}:∀{ps:List (List T)},(∀p∈ps,CO p≤D)→CO ps.flatten≤D
 |[],_=>by rw[XI,CO];show CV _
 |p::ps,h=>by
  rw[E9,TJ];show Nat.max_le.mpr ⟨h p (by simp),XK λq hq=>h q (by simp[hq])⟩
def a9{D:Nat}:∀{us:List T},(∀u∈us,Dh u≤D)→CO us≤D
 |[],_=>by rw[CO];show CV _
 |u::us,h=>by
  rw[CO];show Nat.max_le.mpr ⟨h u (by simp),a9 λq hq=>h q (by simp[hq])⟩
def WY:∀{us:List T} {u:T},u∈us→Dh u≤CO us
 |u::us,v,h=>by
  rw[CO];rcases aah.mp h with rfl|h
  ·show RE _ _
  ·show DN (WY h) (Qh _ _)
inductive Pc:T→Prop
 |int (i:Int):Pc (.int i)
 |tup {us:List T} (h:∀u∈us,Pc u):Pc (.tup us)
def oP{ns:List Int}:∀t∈ns.map T.int,Pc t:=λt h=>by
 let⟨n,_,rfl⟩:=aau.mp h;show .int n
def Nw{D:Nat}:∀{ps:List (List T)},(∀p∈ps,p.length=D)→ps.flatten.length=ps.length*D
 |[],_=>by simp
 |p::ps,h=>by
  rw[E9,B9,h p (by simp),Nw λq hq=>h q (by simp[hq]),BE,Lw,M2]
def S9{D N:Nat}:∀{ps:List (List T)},(∀p∈ps,p.length=N∧CO p≤D)→Dh (Cc ps)≤ps.length*(N+1)+D
 |[],_=>by rw[Cc,OZ];show CV _
 |p::ps,h=>by
  let ih:=S9 (ps:=ps) λq hq=>h q (by simp[hq]);let hp:=h p (by simp);rw[Cc,Gp,CO,BE,BE,hp.1,Lw];have:max (Dh (Cc ps)) (CO p)≤ps.length*(N+1)+D:=Nat.max_le.mpr ⟨ih,by lia⟩;lia
def OT:∀{ps:List (List T)},(∀p∈ps,∀t∈p,Pc t)→Pc (Cc ps)
 |[],_=>.int 0
 |p::ps,h=>.tup λu hu=>by
  rcases aah.mp hu with rfl|hu
  ·show OT λq hq=>h q (by simp[hq])
  ·show h p (by simp) u hu
structure qF(L:Ly)(k:Kd)(u:T):Prop where
 len:(AP L k u).length=AF k
 sd:CO (AP L k u)≤311200*k.depth
 pc:∀t∈AP L k u,Pc t
def abe{ps qs:List Nat}(h:ps.Perm qs):ps.sum=qs.sum:=h.sum_nat
def ju(L:Ly):∀{fs:List (Str×Kd)} {ts:List T},ts.length=fs.length→(∀(j:Nat) (n:Str) (k:Kd) (t:T),fs[j]?=some (n,k)→ts[j]?=some t→(AP L k t).length=AF k)→(((DV L fs ts).map (·.2)).map (·.length)).sum=Bb fs
 |[],[],_,_=>by rw[DV,Bb];rfl;all_goals (intros;contradiction)
 |(n,k)::fs,t::ts,h,q=>by
  rw[DV,Ar,Ar,Np,ju L (by simpa using h) λj n k t a b=>q (j+1) n k t a b,Bb,q 0 n k t rfl rfl]
 |[],_::_,h,_=>by cases h
 |_::_,[],h,_=>by cases h
def Ex(L:Ly)(h:jZ k u):k.good→k.depth≤5→qF L k u:=by
 induction h with
 |@num w i l h=>
  intro g d;let e:AP L (.num w) (.int i)=(GW L.hi w.toNat i).map T.int:=by rw[AP]
  show⟨by rw[e,Ac,aaj,AF],by rw[e,Pf];show CV _,by rw[e];show oP⟩
 |@text z l h=>
  intro g d;let e:AP L .text (.str z)=[.tup ((Hn L.en z).map T.int)]:=by rw[AP]
  show⟨by rw[e,AF];rfl,?_,λt ht=>?_⟩
  ·rw[e,CO,CO,Gp,Ac,bJ,Pf,Kd.depth];lia
  ·rw[e]at ht;rw[aat.mp ht];show .tup oP
 |@row k ts l q ih=>
  intro g d;unfold Kd.good at g;rw[Kd.depth]at d;let e:AP L (.row k) (.tup ts)=[if L.ch=true then Cc (ts.map λt=>AP L k t)else .tup (.int ts.length::(ts.map λt=>AP L k t).flatten)]:=by rw[AP]
  let ok:∀p∈ts.map (λt=>AP L k t),p.length=AF k∧CO p≤311200*k.depth∧∀t∈p,Pc t:=λp hp=>by
   let⟨t,ht,rfl⟩:=aau.mp hp;have:=ih t ht g (by lia);show⟨this.len,this.sd,this.pc⟩
  let sm:=J2 g (by lia);show⟨by rw[e,AF];rfl,?_,λt ht=>?_⟩
  ·rw[e,CO,CO,Kd.depth]
   split
   ·have:=S9 (D:=311200*k.depth) (N:=AF k) λp hp=>⟨(ok p hp).1,(ok p hp).2.1⟩
    rw[Ac]at this;let h2:ts.length*(AF k+1)≤60*5185:=Hl l (by lia);lia
   ·rw[Gp,BE,CO,OZ,Nw λp hp=>(ok p hp).1,Ac]
    let h1:=XK (D:=311200*k.depth) λp hp=>(ok p hp).2.1;let h2:ts.length*AF k≤60*5184:=Hl l sm;lia
  ·rw[e]at ht
   rw[aat.mp ht];split
   ·show OT λp hp=>(ok p hp).2.2
   ·show .tup λv hv=>?_
    rcases aah.mp hv with rfl|hv
    ·show .int _
    ·let⟨p,hp,hv⟩:=acQ.mp hv
     show(ok p hp).2.2 v hv
 |@rec_ fs ts l q ih=>
  intro g d;unfold Kd.good at g;rw[Kd.depth]at d;let e:AP L (.rec_ fs) (.tup ts)=((Az L.na (DV L fs ts)).map (·.2)).flatten:=by rw[AP]
  let ok:∀(j:Nat) (n:Str) (k:Kd) (t:T),fs[j]?=some (n,k)→ts[j]?=some t→qF L k t:=λj n k t a b=>by
   let m:=CQ a;have:=DP m;show ih j n k t a b (DW g.1 m) (by show k.depth≤5;have:k.depth≤B6 fs:=this;lia)
  let pm:=(FX L.na (DV L fs ts)).map (·.2);let Wu:∀p∈(Az L.na (DV L fs ts)).map (·.2),CO p≤311200*B6 fs∧∀t∈p,Pc t:=λp hp=>by
   let⟨x,hx,rfl⟩:=aau.mp (pm.mem_iff.mp hp);let⟨j,n,k,t,a,b,rfl⟩:=kJ L hx;let o:=ok j n k t a b;have:k.depth≤B6 fs:=DP (CQ a);show⟨DN o.sd (NU _ this),o.pc⟩
  show⟨?_,?_,λt ht=>?_⟩
  ·rw[e,List.length_flatten,abe (pm.map (·.length)),ju L l λj n k t a b=>(ok j n k t a b).len,AF]
  ·rw[e,Kd.depth]
   show DN (XK λp hp=>(Wu p hp).1) (NU _ (by lia))
  ·rw[e]at ht
   let⟨p,hp,ht⟩:=acQ.mp ht;show(Wu p hp).2 t ht
 |@pick fs n k j t f q ih=>
  intro g d;unfold Kd.good at g;rw[Kd.depth]at d;let m:=CQ (M1 f);let dk:k.depth≤B6 fs:=DP m;let o:=ih (DW g.1 m) (by lia);let sp:1+AF k≤Bc fs:=Iz m;let e:AP L (.pick fs) (.tup [.str n,t])=(T.int (((Az L.na fs).map (·.1)).idxOf n:Nat)::JT L fs n t)++List.replicate (Bc fs-(1+(JT L fs n t).length)) (T.int 0):=by rw[AP]
  rw[MO L f]at e;show⟨?_,?_,λv hv=>?_⟩
  ·rw[e,B9,Iw,BE,o.len,AF];lia
  ·rw[e,TJ,CO,OZ,ac8,Kd.depth]
   have:=o.sd;have:311200*k.depth≤311200*(B6 fs+1):=NU _ (by lia);lia
  ·rw[e]at hv
   rcases aaC.mp hv with hv|hv
   ·rcases aah.mp hv with rfl|hv
    ·show .int _
    ·show o.pc v hv
   ·rw[(abU.mp hv).2];show .int 0
def qo:∀{fs:List (Str×Kd)},fs≠[]→1+EX (fs.map λp=>((AF p.2:Nat):Int))=((Bc fs:Nat):Int)
 |[(n,k)],_=>by simp only[Ar,GQ,EX,Bc];lia
 |(n,k)::q::r,_=>by
  let ih:=qo (fs:=q::r) (by simp);rw[Ar,Ar]at *
  rw[EX,Bc];have:((max (1+AF k) (Bc (q::r)):Nat):Int)=max (((1+AF k:Nat)):Int) ((Bc (q::r):Nat):Int):=by lia
  rw[this,←ih];show 1+max ((AF k:Nat):Int) _=_
  lia
def ng:∀(fs:List (Str×Kd)),(fs.map λp=>((AF p.2:Nat):Int)).sum=((Bb fs:Nat):Int)
 |[]=>by rw[Bb];rfl
 |(n,k)::r=>by rw[Ar,Np,ng r,Bb];show((AF k:Nat):Int)+_=_;lia
def NL:∀(n:Nat) (i:Int),Gj n i=FD n i
 |0,_=>rfl
 |n+1,i=>by
  rw[FD,←NL n];unfold Gj;rw[List.range_succ_eq_map,Ar,CT];congr 1
  ·show i/65536^0%65536=_
   rw[Int.pow_zero,Int.ediv_one]
  ·apply L7
   intro j _;show i/65536^(j+1)%65536=i/65536/65536^j%65536
   congr 1
   rw[Gh,Lm,←Int.ediv_ediv_of_nonneg (by decide)]
def kV:∀{ws:List Int},(∀w∈ws,0≤w∧w<65536)→0≤val ws∧val ws<65536^ws.length
 |[],_=>⟨Int.le_refl _,by decide⟩
 |w::r,h=>by
  let⟨a,b⟩:=kV (ws:=r) λx hx=>h x (by simp[hx]);let hw:=h w (by simp);rw[val,BE,Gh,Lm];lia
def i8:∀{ws:List Int},(∀w∈ws,0≤w∧w<65536)→FD ws.length (val ws)=ws
 |[],_=>rfl
 |w::r,h=>by
  let hw:=h w (by simp);rw[BE,FD,val];let e1:(w+65536*val r)%65536=w:=by lia
  let e2:(w+65536*val r)/65536=val r:=by lia
  rw[e1,e2,i8 (ws:=r) λx hx=>h x (by simp[hx])]
def lK:∀(n:Nat) (v:Int),FD n (v-65536^n)=FD n v
 |0,_=>rfl
 |n+1,v=>by
  rw[FD,FD,Gh,Lm];generalize hp:(65536:Int)^n=p;let e1:(v-65536*p)%65536=v%65536:=by lia
  let e2:(v-65536*p)/65536=v/65536-p:=by lia
  rw[e1,e2,←hp,lK n]
abbrev HY(n:Nat)(v:Int):Int:=if 2*v ≥ 65536^n then v-65536^n else v
def adC(h:∀w∈ws,0≤w∧w<65536):-(65536^ws.length)≤2*HY ws.length (val ws)∧2*HY ws.length (val ws)<65536^ws.length∧Gj ws.length (HY ws.length (val ws))=ws:=by
 let⟨a,b⟩:=kV h;let dv:=i8 h;rw[NL];unfold HY;generalize hp:(65536:Int)^ws.length=p at *
 split
 ·show⟨by lia,by lia,?_⟩
  rw[←hp,lK,dv]
 ·show⟨by lia,by lia,dv⟩
def cY{n:Nat}(h1:-(65536^n)≤2*i)(h2:2*i<65536^n):HY n (val (Gj n i))=i:=by
 rw[NL];show xO h1 h2
abbrev EI(hi:Bool)(ws:List Int):List Int:=if hi=true then ws.reverse else ws
def WW(hi:Bool)(ws:List Int):(EI hi ws).length=ws.length:=by unfold EI;split<;>simp
def qT:w∈EI hi ws↔w∈ws:=by unfold EI;split<;>simp
def vv{n:Nat}:GW hi n i=ws↔Gj n i=EI hi ws:=by
 unfold GW EI;cases hi with
 |true=>
  rw[AI rfl,AI rfl];show⟨λh=>by rw[←h,List.reverse_reverse],λh=>by rw[h,List.reverse_reverse]⟩
 |false=>show Iff.rfl
def NI:∀{a b:List Int},a.map T.int=b.map T.int→a=b
 |[],[],_=>rfl
 |[],_::_,h=>by cases h
 |_::_,[],h=>by cases h
 |x::a,y::b,h=>by
  rw[Ar,Ar]at h;let⟨h1,h2⟩:=D9 h;cases h1;rw[NI h2]
abbrev Rd(L:Ly)(k:Kd)(sl:List T)(u:T):Prop:=jZ k u∧AP L k u=sl
def nA(w0:0≤w)(hl:(ws.length:Int)=w)(h:∀x∈ws,0≤x∧x<65536):Rd L (.num w) (ws.map T.int) u↔u=.int (HY ws.length (val (EI L.hi ws))):=by
 let hw:w.toNat=ws.length:=by lia
 let h':∀x∈EI L.hi ws,0≤x∧x<65536:=λx hx=>h x (qT.mp hx);let ni:=adC h';rw[WW]at ni;constructor
 ·intro⟨hs,e⟩
  cases hs with
  |@num _ i l r=>
   rw[AP]at e;let e:=vv.mp (NI e);rw[hw]at l r e;rw[←e,cY l r]
 ·rintro rfl
  show⟨.num ?_ ?_,?_⟩
  ·rw[hw];show ni.1
  ·rw[hw];show ni.2.1
  ·rw[AP,hw,vv.mpr ni.2.2]
def gV{sl:List T}(r:Rd L (.num w) sl u):∃ws:List Int,sl=ws.map T.int∧∀x∈ws,0≤x∧x<65536:=by
 let⟨hs,e⟩:=r;cases hs with
 |@num _ i l h=>
  rw[AP]at e;show⟨_,e.symm,λx hx=>?_⟩;unfold GW at hx;split at hx
  ·rw[List.mem_reverse,NL]at hx;show cI hx
  ·rw[NL]at hx;show cI hx
abbrev FE(c:Nat):T:=.int (c:Int)
def Of(en:Bool)(z:Str):(Hn en z).map T.int=if en=true then z.cps.toList.map FE++[.int 0]else .int (z.length:Int)::z.cps.toList.map FE:=by
 unfold Hn;split
 ·rw[Ao,CT];rfl
 ·rw[Ar,CT];rfl
def ij:∀{a b:List Nat},a.map FE=b.map FE→a=b
 |[],[],_=>rfl
 |[],_::_,h=>by cases h
 |_::_,[],h=>by cases h
 |x::a,y::b,h=>by
  rw[Ar,Ar]at h;let⟨h1,h2⟩:=D9 h;let h1:(x:Int)=y:=T.int.inj h1;rw[ij h2,show x=y by lia]
def eG{signs:List T}{mark:T}:Rd L .text [.tup (if L.en=true then signs++[mark]else mark::signs)] u↔∃cs:List Nat,signs=cs.map FE∧cs.length≤60∧cs.all Dq=true∧mark=.int (if L.en=true then 0 else(cs.length:Int))∧u=.str ⟨cs.toArray⟩:=by
 constructor
 ·intro⟨hs,e⟩
  cases hs with
  |@text z l h=>
   rw[AP,Of]at e;let e:=T.tup.inj (D9 e).1;let ez:z=⟨z.cps.toList.toArray⟩:=by cases z;simp
   show⟨z.cps.toList,?_,l,h,?_,Ca T.str ez⟩
   ·cases c:L.en with
    |true=>rw[c,AI rfl,AI rfl]at e;show(X2 e rfl).1.symm
    |false=>rw[c,AH (by decide),AH (by decide)]at e;show(D9 e).2.symm
   ·cases c:L.en with
    |true=>rw[c,AI rfl,AI rfl]at e;rw[AI rfl];show(D9 (X2 e rfl).2).1.symm
    |false=>rw[c,AH (by decide),AH (by decide)]at e;rw[AH (by decide)];show(D9 e).1.symm
 ·intro⟨cs,rfl,l,h,rfl,rfl⟩
  show⟨.text l h,?_⟩;rw[AP,Of];congr 2
  cases L.en<;>rfl
def OI(r:Rd L .text [e] u):∃bl,e=.tup bl∧bl≠[]:=by
 let⟨hs,e⟩:=r;cases hs with
 |@text z l h=>
  rw[AP]at e;show⟨_,(D9 e).1.symm,λz=>?_⟩;have:=Ca List.length z;rw[Ac,bJ]at this;cases this
def chunk{S:Nat}:∀{ps:List (List T)} {j:Nat} {p:List T},(∀p∈ps,p.length=S)→ps[j]?=some p→(ps.flatten.drop (j*S)).take S=p
 |[],j,p,_,h=>by simp at h
 |q::ps,0,p,hl,h=>by
  cases h;rw[E9,Nat.zero_mul,HQ,dP (by rw[hl _ (by simp)];show Ak _),ID (by rw[hl _ (by simp)];show Ak _)]
 |q::ps,j+1,p,hl,h=>by
  let hq:=hl q (by simp);let e0:(q++ps.flatten).drop S=ps.flatten:=by rw[S8 (by lia),QU (by lia),IP]
  rw[E9,LB,LN,M2,←Ji,e0];show chunk (λp hp=>hl p (by simp[hp])) (by simpa using h)
def Te{S:Nat}:∀{ps:List (List T)} {body:List T},body.length=ps.length*S→(∀(j:Nat) (p:List T),ps[j]?=some p→(body.drop (j*S)).take S=p)→ps.flatten=body
 |[],body,hl,_=>by
  rw[TP,Nat.zero_mul]at hl;rw[LY hl];rfl
 |q::ps,body,hl,h=>by
  rw[BE,LB,LN]at hl;let h0:=h 0 q rfl;rw[Nat.zero_mul,HQ]at h0;rw[E9,Te (S:=S) (ps:=ps) (body:=body.drop S) (by rw[F4];lia) (λj p hj=>?_),←h0,UD];rw[Ji];have:=h (j+1) p (by simpa using hj);rw[LB,LN,M2]at this;show this
def Rm(ch:L.ch=false):Rd L (.row k) [e] u↔∃ts:List T,u=.tup ts∧ts.length≤60∧(∀t∈ts,jZ k t)∧e=.tup (.int ts.length::(ts.map λt=>AP L k t).flatten):=by
 constructor
 ·intro⟨hs,eq⟩
  cases hs with
  |@row _ ts l q=>
   rw[AP,ch,AH (by decide)]at eq;show⟨ts,rfl,l,q,(D9 eq).1.symm⟩
 ·intro⟨ts,rfl,l,q,rfl⟩
  show⟨.row l q,by rw[AP,ch,AH (by decide)]⟩
abbrev Hd(L:Ly)(k:Kd)(e:T)(ts:List T):Prop:=(∀t∈ts,jZ k t)∧Cc (ts.map λt=>AP L k t)=e
def P5(ch:L.ch=true):Rd L (.row k) [e] u↔∃ts:List T,u=.tup ts∧ts.length≤60∧Hd L k e ts:=by
 constructor
 ·intro⟨hs,eq⟩
  cases hs with
  |@row _ ts l q=>
   rw[AP,ch,AI rfl]at eq;show⟨ts,rfl,l,q,(D9 eq).1⟩
 ·intro⟨ts,rfl,l,q,rfl⟩
  show⟨.row l q,by rw[AP,ch,AI rfl]⟩
def rC{x:T}{p:List T}:Hd L k (.tup (x::p)) ts↔∃u vs,ts=u::vs∧Rd L k p u∧Hd L k x vs:=by
 constructor
 ·intro⟨hs,e⟩
  cases ts with
  |nil=>cases e
  |cons u vs=>
   rw[Ar,Cc]at e;let e:=T.tup.inj e;let⟨e1,e2⟩:=D9 e;show Ψ2 u vs ⟨rfl,⟨hs u (by simp),e2⟩,λt ht=>hs t (by simp[ht]),e1⟩
 ·intro⟨u,vs,rfl,⟨h1,rfl⟩,h2,rfl⟩
  show⟨λt ht=>?_,by rw[Ar,Cc]⟩;rcases aah.mp ht with rfl|ht
  ·show h1
  ·show h2 t ht
def nV(ne:∀us,e≠.tup us):Hd L k e ts↔ts=[]∧e=.int 0:=by
 constructor
 ·intro⟨_,e⟩
  cases ts with
  |nil=>show⟨rfl,e.symm⟩
  |cons u vs=>rw[Ar,Cc]at e;show absurd e.symm (ne _)
 ·intro⟨rfl,rfl⟩
  show⟨λ_ h=>(nomatch h),rfl⟩
def mZ:¬Hd L k (.tup []) ts:=by
 intro⟨_,e⟩;cases ts with
 |nil=>cases e
 |cons u vs=>rw[Ar,Cc]at e;cases e
abbrev Ce:List (Str×Kd)→Str→Nat
 |[],_=>0
 |(n,k)::r,m=>if n=m then 0 else AF k+Ce r m
def K8:∀fs:List (Str×Kd),Bb fs=(fs.map λp=>AF p.2).sum
 |[]=>by rw[Bb];rfl
 |(n,k)::r=>by rw[Bb,K8 r];rfl
def bY{gs:al}(p:fs.Perm gs):Bb fs=Bb gs:=by rw[K8,K8];show(p.map _).sum_nat
def bW:∀{O:List (Str×Kd)} {p:Str×Kd},(O.map (·.1)).Nodup→p∈O→Ce O p.1+AF p.2≤Bb O
 |(n,k)::r,p,nd,m=>by
  rw[Ar,abo]at nd;rw[Bb,Ce];rcases aah.mp m with rfl|m
  ·rw[AI rfl];show 0+AF k≤_;lia
  ·let ne:n≠p.1:=λe=>nd.1 (by show n∈_;rw[e];show aau.mpr ⟨p,m,rfl⟩)
   rw[AH ne];have:=bW nd.2 m;lia
def seg_at{g:Str×Kd→List T}:∀{O:List (Str×Kd)} {p:Str×Kd},(∀p∈O,(g p).length=AF p.2)→(O.map (·.1)).Nodup→p∈O→((O.map g).flatten.drop (Ce O p.1)).take (AF p.2)=g p
 |(n,k)::r,p,hl,nd,m=>by
  rw[Ar,abo]at nd;let h0:=hl (n,k) (by simp);let h0:(g (n,k)).length=AF k:=h0;rw[Ce,Ar,E9];rcases aah.mp m with rfl|m
  ·rw[AI rfl,HQ]
   show List.take (AF k) _=_
   rw[dP (by lia),ID (by lia)]
  ·let ne:n≠p.1:=λe=>nd.1 (by show n∈_;rw[e];show aau.mpr ⟨p,m,rfl⟩)
   let e0:(g (n,k)++(r.map g).flatten).drop (AF k)=(r.map g).flatten:=by rw[S8 (by lia),QU (by lia),IP]
   rw[AH ne,←Ji,e0];show seg_at (λp hp=>hl p (by simp[hp])) nd.2 m
def eW{g:Str×Kd→List T}:∀{O:List (Str×Kd)} {es:List T},es.length=Bb O→(O.map (·.1)).Nodup→(∀p∈O,(es.drop (Ce O p.1)).take (AF p.2)=g p)→(O.map g).flatten=es
 |[],es,hl,_,_=>by
  rw[Bb]at hl;rw[LY hl];rfl
 |(n,k)::r,es,hl,nd,h=>by
  rw[Ar,abo]at nd;rw[Bb]at hl;let h0:=h (n,k) (by simp);rw[Ce,AI rfl,HQ]at h0;let h0:List.take (AF k) es=g (n,k):=h0;rw[Ar,E9,eW (O:=r) (es:=es.drop (AF k)) (by rw[F4];lia) nd.2 (λp hp=>?_),←h0,UD];let ne:n≠p.1:=λe=>nd.1 (by show n∈_;rw[e];show aau.mpr ⟨p,hp,rfl⟩);have:=h p (by simp[hp]);rw[Ce,AH ne]at this;rw[Ji];show this
abbrev Il(fs:List (Str×Kd))(ts:List T)(n:Str):T:=match findF fs n with
 |some (j,_)=>(ts[j]?).getD .non
 |none=>.non
def R6{t:T}(nd:(fs.map (·.1)).Nodup)(h:fs[j]?=some (n,k))(ht:ts[j]?=some t):Il fs ts n=t:=by
 unfold Il;rw[Pa nd h];show(ts[j]?).getD .non=t
 rw[ht];rfl
def adD(nd:(fs.map (·.1)).Nodup)(hl:ts.length=fs.length):DV L fs ts=fs.map λp=>(p.1,AP L p.2 (Il fs ts p.1)):=by
 let hlen:(DV L fs ts).length=fs.length:=by
  have:=Ca List.length (jK L (fs:=fs) (ts:=ts) hl);rw[Ac,Ac]at this;show this
 apply Jx
 intro j;by_cases c:j<fs.length
 ·obtain⟨n,k,e⟩:∃n k,fs[j]?=some (n,k):=Ψ2 _ _ (BZ c)
  obtain⟨t,et⟩:∃t,ts[j]?=some t:=⟨_,BZ (by lia)⟩;rw[e9 L e et,CZ,e];show _=some (n,AP L k (Il fs ts n))
  rw[R6 nd e et]
 ·rw[Eh (by lia),CZ,Eh (by lia)]
  rfl
def jo(nd:(fs.map (·.1)).Nodup)(hl:ts.length=fs.length):AP L (.rec_ fs) (.tup ts)=((Az L.na fs).map λp=>AP L p.2 (Il fs ts p.1)).flatten:=by
 rw[AP,adD nd hl,PR (g:=λp:Str×Kd=>AP L p.2 (Il fs ts p.1)) nd,CT];rfl
def P7(g:(Kd.rec_ fs).good)(d:(Kd.rec_ fs).depth≤5)(hl:es.length=Bb fs):Rd L (.rec_ fs) es u↔∃ts,u=.tup ts∧ts.length=fs.length∧∀(j:Nat) (n:Str) (k:Kd) (t:T),fs[j]?=some (n,k)→ts[j]?=some t→Rd L k ((es.drop (Ce (Az L.na fs) n)).take (AF k)) t:=by
 unfold Kd.good at g;rw[Kd.depth]at d;let nd:=g.2.2.2;let Gv:=JM (na:=L.na) nd;let pm:=FX L.na fs;constructor
 ·intro⟨hs,e⟩
  cases hs with
  |@rec_ _ ts l q=>
   show⟨ts,rfl,l,λj n k t a b=>⟨q j n k t a b,?_⟩⟩;rw[jo nd l]at e;let ml:∀p∈Az L.na fs,(AP L p.2 (Il fs ts p.1)).length=AF p.2:=λp hp=>by
    obtain⟨j',M9,Jh⟩:=JN (pm.mem_iff.mp hp);let e1:fs[j']?=some (p.1,p.2):=by rw[BZ M9,Jh]
    let e2:ts[j']?=some ts[j']:=BZ (by lia);rw[R6 nd e1 e2];let m':=CQ e1;show(Ex L (q j' p.1 p.2 _ e1 e2) (DW g.1 m') (by have:p.2.depth≤B6 fs:=DP m';lia)).len
   let sa:=seg_at ml Gv (pm.mem_iff.mpr (CQ a));rw[e]at sa;let sa:((es.drop (Ce (Az L.na fs) n)).take (AF k))=AP L k (Il fs ts n):=sa;rw[sa,R6 nd a b]
 ·intro⟨ts,rfl,l,h⟩
  show⟨.rec_ l λj n k t a b=>(h j n k t a b).1,?_⟩;rw[jo nd l];show eW (by rw[bY pm];show hl) Gv λp hp=>?_;obtain⟨j',M9,Jh⟩:=JN (pm.mem_iff.mp hp);let e1:fs[j']?=some (p.1,p.2):=by rw[BZ M9,Jh]
  let e2:ts[j']?=some ts[j']:=BZ (by lia);rw[R6 nd e1 e2];show(h j' p.1 p.2 _ e1 e2).2.symm
def gQ{xs:List Str}(nd:xs.Nodup)(h:xs[j]?=some n):xs.idxOf n=j:=by
 obtain⟨hj,e⟩:=aao.mp h;subst e;show nd.idxOf_getElem j hj
def Qv{e0:T}(g:(Kd.pick fs).good)(d:(Kd.pick fs).depth≤5)(hl:es.length+1=Bc fs):Rd L (.pick fs) (e0::es) u↔∃(j:Nat) (n:Str) (k:Kd) (t:T),(Az L.na fs)[j]?=some (n,k)∧e0=.int (j:Int)∧u=.tup [.str n,t]∧Rd L k (es.take (AF k)) t∧∀x∈es.drop (AF k),x=.int 0:=by
 unfold Kd.good at g;rw[Kd.depth]at d;let nd:=g.2.2.2;let Gv:=JM (na:=L.na) nd;let pm:=FX L.na fs;constructor
 ·intro⟨hs,e⟩
  cases hs with
  |@pick _ n k j t f q=>
   let m:=CQ (M1 f);let o:=Ex L q (DW g.1 m) (by have:k.depth≤B6 fs:=DP m;lia);rw[AP,MO L f,Ig]at e;let⟨e1,e2⟩:=D9 e;obtain⟨i,hi,ei⟩:=JN (pm.mem_iff.mpr m);let Sz:(Az L.na fs)[i]?=some (n,k):=by rw[BZ hi,ei]
   let ix:=gQ Gv (j:=i) (n:=n) (by rw[CZ,Sz];rfl);show Ψ4 i n k t ⟨Sz,?_,rfl,⟨q,?_⟩,λx hx=>?_⟩
   ·rw[←e1,ix]
   ·rw[←e2,dP (by rw[o.len];show Ak _),ID (by rw[o.len];show Ak _)]
   ·rw[←e2,S8 (by rw[o.len];show Ak _),QU (by rw[o.len];show Ak _),IP]at hx
    show(abU.mp hx).2
 ·intro⟨j,n,k,t,ej,rfl,rfl,⟨q,e⟩,hz⟩
  let m:=pm.mem_iff.mp (CQ ej);obtain⟨i,hi,ei⟩:=JN m;let Sz:fs[i]?=some (n,k):=by rw[BZ hi,ei]
  let f:=Pa nd Sz;let o:=Ex L q (DW g.1 m) (by have:k.depth≤B6 fs:=DP m;lia);let sp:1+AF k≤Bc fs:=Iz m;show⟨.pick f q,?_⟩;rw[AP,MO L f,Ig,gQ Gv (j:=j) (n:=n) (by rw[CZ,ej];rfl)];congr 1
  rw[o.len,e];let ed:List.replicate (Bc fs-(1+AF k)) (T.int 0)=es.drop (AF k):=by
   symm
   rw[List.eq_replicate_iff];show⟨by rw[F4];lia,hz⟩
  rw[ed,UD]
def eh(L:Ly)(h:jZ k u):k.good→k.depth≤5→∀{w:T},jZ k w→AP L k u=AP L k w→u=w:=by
 induction h with
 |@num w i l h=>
  intro g d v hv e;cases hv with
  |@num _ i' l' h'=>
   rw[AP,AP]at e;let e:=NI e;let e:Gj w.toNat i=Gj w.toNat i':=by
    unfold GW at e;split at e
    ·show List.reverse_inj.mp e
    ·show e
   rw[←cY l h,e,cY l' h']
 |@text z l h=>
  intro g d v hv e;cases hv with
  |@text z' l' h'=>
   rw[AP,AP,Of,Of]at e;let e:=T.tup.inj (D9 e).1;have:z.cps.toList.map FE=z'.cps.toList.map FE:=by
    split at e
    ·show(X2 e rfl).1
    ·show(D9 e).2
   rw[UH (ij this)]
 |@row k ts l q ih=>
  intro g d v hv e;cases hv with
  |@row _ m7 l' q'=>
   unfold Kd.good at g;rw[Kd.depth]at d;let len:∀{t},jZ k t→(AP L k t).length=AF k:=λh=>(Ex L h g (by lia)).len;rw[AP,AP]at e;let e:=(D9 e).1;let fin:∀{as bs:List T},(∀t∈as,t∈ts)→(∀t∈bs,jZ k t)→as.map (λt=>AP L k t)=bs.map (λt=>AP L k t)→as=bs:=λ{as}=>by
    induction as with
    |nil=>intro bs _ _ e;cases bs with|nil=>rfl|cons _ _=>cases e
    |cons a as YV=>
     intro bs ha hb e;cases bs with
     |nil=>cases e
     |cons b bs=>
      rw[Ar,Ar]at e;let⟨e1,e2⟩:=D9 e;rw[ih a (ha a (by simp)) g (by lia) (hb b (by simp)) e1,YV (λt ht=>ha t (by simp[ht])) (λt ht=>hb t (by simp[ht])) e2]
   congr 1
   split at e
   ·let Jp:∀{ps qs:List (List T)},Cc ps=Cc qs→ps=qs:=λ{ps}=>by
     induction ps with
     |nil=>intro qs e;cases qs with|nil=>rfl|cons _ _=>cases e
     |cons p ps UI=>
      intro qs e;cases qs with
      |nil=>cases e
      |cons r qs=>
       let e:=T.tup.inj e;let⟨e1,e2⟩:=D9 e;rw[UI e1,e2]
    show fin (λ_ h=>h) q' (Jp e)
   ·let e:=T.tup.inj e
    let⟨e1,e2⟩:=D9 e;let e1:(ts.length:Int)=m7.length:=T.int.inj e1;show fin (λ_ h=>h) q' (Jx λj=>?_);rw[CZ,CZ];by_cases c:j<ts.length
    ·let h1:(ts.map λt=>AP L k t)[j]?=some (AP L k ts[j]):=by rw[CZ,BZ c];rfl
     let h2:(m7.map λt=>AP L k t)[j]?=some (AP L k (m7[j]'(by lia))):=by rw[CZ,BZ (by lia)];rfl
     let c1:=chunk (S:=AF k) (λp hp=>by let⟨t,ht,rfl⟩:=aau.mp hp;show len (q t ht)) h1;let c2:=chunk (S:=AF k) (λp hp=>by let⟨t,ht,rfl⟩:=aau.mp hp;show len (q' t ht)) h2;rw[e2]at c1;rw[BZ c,BZ (show j<m7.length by lia)];show Ca some (c1.symm.trans c2)
    ·rw[Eh (by lia),Eh (by lia)]
 |@rec_ fs ts l q ih=>
  intro g d v hv e;let g':=g;let d':=d;unfold Kd.good at g;rw[Kd.depth]at d;let hl:(AP L (.rec_ fs) (.tup ts)).length=Bb fs:=by
   have:=(Ex L (jZ.rec_ l q) g' d').len;rw[this,AF]
  let⟨us,e1,_,r1⟩:=(P7 (u:=.tup ts) g' d' hl).mp ⟨.rec_ l q,rfl⟩;let⟨ws,rfl,l2,r2⟩:=(P7 (u:=v) g' d' hl).mp ⟨hv,e.symm⟩;cases e1;congr 1
  apply Jx
  intro j;by_cases c:j<fs.length
  ·obtain⟨n,k,ef⟩:∃n k,fs[j]?=some (n,k):=Ψ2 _ _ (BZ c)
   let a1:ts[j]?=some ts[j]:=BZ (by lia);let a2:ws[j]?=some ws[j]:=BZ (by lia);let m:=CQ ef;rw[a1,a2,ih j n k _ ef a1 (DW g.1 m) (by have:k.depth≤B6 fs:=DP m;show k.depth≤5;lia) (r2 j n k _ ef a2).1 ((r1 j n k _ ef a1).2.trans (r2 j n k _ ef a2).2.symm)]
  ·rw[Eh (by lia),Eh (by lia)]
 |@pick fs n k j t f q ih=>
  intro g d v hv e;let g':=g;let d':=d;unfold Kd.good at g;rw[Kd.depth]at d;let hp:=(Ex L (jZ.pick f q) g' d').len;rw[AF]at hp;obtain⟨e0,es,ee⟩:∃e0 es,AP L (.pick fs) (.tup [.str n,t])=e0::es:=by rw[AP,Ig];show Ψ2 _ _ rfl
  rw[ee,BE]at hp;let⟨j1,n1,k1,t1,o1,z1,u1,r1,_⟩:=(Qv (u:=.tup [.str n,t]) g' d' hp).mp ⟨.pick f q,ee⟩;let⟨j2,n2,k2,t2,o2,z2,u2,r2,_⟩:=(Qv (u:=v) g' d' hp).mp ⟨hv,e.symm.trans ee⟩;rw[z1]at z2;have:j1=j2:=by have:=T.int.inj z2;lia
  subst this;rw[o1]at o2;cases o2;cases u1;subst u2;let m:=(FX L.na fs).mem_iff.mp (CQ o1);let mf:=CQ (M1 f);let ek:=PZ g.2.2.2 _ mf _ m rfl;cases ek;rw[ih (DW g.1 m) (by have:k.depth≤B6 fs:=DP m;lia) r2.1 (r1.2.trans r2.2.symm)]
end Tg
namespace Tg
open PySem L2
variable {H H':A7}{a b p:Addr}{o:HO}{P: Program}{w: World}{K: W.Frag}{mg: Str→Option Value}{am: Heap}{f: Addr}{fd: FuncData}
abbrev Bk(i:Nat):Stmt:=PySem.Challenge.pw_tonguegate_k12_no_picture.main.body.getD i (.Pass ⟨0,0,0,0⟩)
section
@[reducible]def c7:Stmt:=Bk 41
def Bm{N P:List Str}{c:Scope}(a:c.kind=.function:=by rfl)(b:c.isCoroutine=false:=by rfl)(d:c.isGenerator=false:=by rfl)(e:N.Nodup:=by decide +kernel)(f:N.take P.length=P:=by rfl)(g:∀x∈P,c.names.lookup x=some .local∨c.names.lookup x=some .cell:=by decide +kernel)(h:∀y∈c.names,y.2≠.free:=by decide +kernel):BA N P c:=⟨a,b,d,e,f,g,h⟩
def oD:BA ["cell","mixed"] ["cell"] (B4 c7):=Bm
abbrev Flow(H:A7)(a:Addr):Prop:=∃f0 f1 f2:Int,H a=some (.lst [.int f0,.int f1,.int f2])∧0≤f0∧0≤f1∧f1<10^40+121
abbrev mQ:Dn:=λvs H Q _=>∃c:Int,vs=[.int c]∧∀(a:Addr) (H':A7),H a=none→adM H H'→Flow H' a→Q (.ref a) H'
def yH(F:dR K "_law_flow" "_law_flow" c7 f fd)(dh:mg "max" = none):bB P w K mg am BJ 1 f fd ["cell"] mQ:=by
 show F.ok oD (λvs H Q E h=>?_) (λcA A outer s H vs Q E hr h=>?_)
 ·let⟨c,rfl,_⟩:=h
  rfl
 let⟨c,rfl,q⟩:=h;show⟨_,(Cg (HG (i:=1) oD.nd rfl (Or.inl rfl) (DB IE (DB Ov (DB Ov (BM 0) BG) BG) BG))
  (Cg (JJ (Lf (BD (az (lE rfl) rfl dh Nm (BD BG (BD (DB Lq (BM 0) (DB Qd BG BG)) Co))) (BD (DB NB (BM 1) (DB IE (DB Qd BG BG) BG)) (BD BG Co)))))
  Ef)),?_⟩
 show⟨_,rfl,_,_,rfl,rfl,.inr ⟨by decide,by decide⟩,_,_,rfl,rfl,.inr ⟨by decide,by decide⟩,_,_,rfl,rfl,?_⟩;show⟨_,rfl,_,_,rfl,rfl,⟨by decide,by decide,by decide⟩,_,_,rfl,rfl,_,_,rfl,?_⟩;show⟨_,rfl,_,_,rfl,rfl,⟨by decide,by decide,by decide⟩,_,_,rfl,rfl,_,_,rfl,rfl,(by show(0:Int)<10^Int.toNat 40+121;decide),?_⟩;show⟨by show 3≤sizeLine;decide,λp hp=>?_⟩;show q p _ hp (λb o h=>by rw[AW (Ba h hp)];show h) ⟨_,_,_,B0,?_,?_,?_⟩
 ·split<;>lia
 ·show JL _ (by decide)
 ·show Jy _ (by decide)
@[reducible]def cb:Stmt:=Bk 42
def oE:BA ["flow","many","found"] ["flow","many"] (B4 cb):=Bm
abbrev ON:Dn:=λvs H Q _=>∃(a:Addr) (m:Int),vs=[.ref a,.int m]∧Flow H a∧0<m∧m<2^200∧∀(r:Int) (H':A7),0≤r→r<m→Flow H' a→Kp [a] H H'→Q (.int r) H'
def Mz{α:Type}{x:α}{r:List α}:Bw (x::r) 0=some x:=Es (j:=0) rfl
def VV{α:Type}{x y:α}{r:List α}:Bw (x::y::r) 1=some y:=Es (j:=1) rfl
def mz{α:Type}{x y z:α}{r:List α}:Bw (x::y::z::r) 2=some z:=Es (j:=2) rfl
def rZ(F:dR K "_law_draw" "_law_draw" cb f fd):bB P w K mg am BJ 1 f fd ["flow","many"] ON:=by
 show F.ok oE (λvs H Q E h=>?_) (λcA A outer s H vs Q E hr h=>?_)
 ·let⟨a,m,rfl,_⟩:=h
  rfl
 let⟨a,m,rfl,⟨f0,f1,f2,hf,b0,b1,b2⟩,m0,m1,q⟩:=h;show⟨_,(Cg (KO (JB SW (Eu dA (BM 0) BG (λ_ _=>rfl)) BG (IA _)) (Cg (HG (i:=2) oE.nd rfl (Or.inl rfl) (DB NB (Eu dA (BM 0) BG (λ_ _=>rfl)) (BM 1)))
  (Cg (MN (DB aI (Eu dA (BM 0) BG (λ_ _=>rfl)) (BM 1)) (NO (BM 0) BG set_list (λ_=>rfl)))
  (Cg (JJ (BM 2))
  Ef))) Ef)
  (Cg (MN (DB IE (Eu dA (BM 0) BG (λ_ _=>rfl)) BG) (NO (BM 0) BG set_list (λ_=>rfl)))
  (Cg (MN (DB NB (DB IE (DB aaP (Eu dA (BM 0) BG (λ_ _=>rfl)) (Eu dA (BM 0) BG (λ_ _=>rfl))) (DB Ov (Eu dA (BM 0) BG (λ_ _=>rfl)) BG)) (DB IE (DB Qd BG BG) BG)) (NO (BM 0) BG set_list (λ_=>rfl)))
  (Cg (JJ (DB NB (DB aI (Eu dA (BM 0) BG (λ_ _=>rfl)) BG) (BM 1)))
  Ef)))),?_⟩
 let sq:eB K H a [.int f0,.int f1,.int f2]:=eB.of hf;show⟨_,rfl,a,_,_,_,rfl,rfl,sq,Mz,_,_,rfl,rfl,_,rfl,?_⟩;show Jw (λc=>?_) (λc=>?_)
 ·show⟨_,rfl,a,_,_,_,rfl,rfl,sq,Mz,_,rfl,_,_,rfl,rfl,m0,?_⟩
  show⟨_,rfl,a,_,_,_,rfl,rfl,sq,Mz,_,rfl,_,_,rfl,rfl,⟨m0,m1⟩,_,rfl,a,_,_,_,rfl,rfl,hf,rfl,?_⟩;show⟨_,rfl,?_⟩;show q _ _ (JL _ (by lia)) (Jy _ m0) ⟨_,_,_,B0,Int.ediv_nonneg b0 (by lia),b1,b2⟩ (Kp.set (by simp) _)
 ·show⟨_,rfl,a,_,_,_,rfl,rfl,sq,mz,_,_,rfl,rfl,_,rfl,a,_,_,_,rfl,rfl,hf,rfl,?_⟩
  let TV:eB K (upd H a (.lst ([.int f0,.int f1,.int f2].set 2 (.int (f2+1))))) a [.int f0,.int f1,.int (f2+1)]:=eB.of B0;let n1:f1.natAbs<2^200:=D6 (by lia:f1.natAbs<10^40+121) (by decide);show⟨_,rfl,a,_,_,_,rfl,rfl,TV,VV,_,rfl,a,_,_,_,rfl,rfl,TV,VV,_,_,rfl,rfl,⟨n1,n1⟩,_,rfl,a,_,_,_,rfl,rfl,TV,mz,_,_,rfl,rfl,.inr ⟨by decide,by decide⟩,_,_,rfl,rfl,_,_,rfl,rfl,⟨by decide,by decide,by decide⟩,_,_,rfl,rfl,_,_,rfl,rfl,(by show(0:Int)<10^Int.toNat 40+121;decide),?_⟩;show⟨_,rfl,a,_,_,_,rfl,rfl,B0,rfl,?_⟩;show⟨_,rfl,a,_,_,_,rfl,rfl,eB.of B0,VV,_,_,rfl,rfl,⟨by decide,by decide⟩,_,rfl,_,_,rfl,rfl,m0,?_⟩;show q _ _ (JL _ (by lia)) (Jy _ m0) ⟨_,_,_,B0,b0,?_,?_⟩ ((Kp.set (by simp) _).trans (Kp.set (by simp) _))
  ·show JL _ (by decide)
  ·show Jy _ (by decide)
end
@[reducible]def PF:Stmt:=Bk 43
def h8:BA ["flow","taken","name","spare"] ["flow","taken"] (B4 PF):=Bm
abbrev NP:Dn:=λvs H Q _=>∃(a b:Addr) (ss:List Str),vs=[.ref a,.ref b]∧Flow H a∧H b=some (.lst (ss.map V.str))∧ss.length≤6∧(∀z∈ss,F3 z)∧
 ∀(z:Str) (H':A7),F3 z→z∉ss→Flow H' a→Kp [a] H H'→Q (.str z) H'
def Flow.ne{ss:List Str}(h:Flow H a)(h':H b=some (.lst (ss.map V.str))):b≠a:=by
 let⟨f0,f1,f2,e,_⟩:=h;show JA h' e ?_;intro z;let z':=HO.lst.inj z;cases ss with
 |nil=>cases z'
 |cons x r=>cases z'
def Flow.some(h:Flow H a):∃o,H a=.some o:=by
 let⟨f0,f1,f2,e,r⟩:=h;show⟨_,e⟩
def Flow.new(h:Flow H a)(n:H p=none):Flow (upd H p o) a:=by
 let⟨f0,f1,f2,e,r⟩:=h;show Ψ3 f0 f1 f2 ⟨by rw[AW (Ba e n)];show e,r⟩
section
@[reducible]def Px:Stmt:=Bk 44
def cn:BA ["flow","depth","room","word","many","deepest","names","fields","k","below"] ["flow","depth","room"] (B4 Px):=Bm
abbrev One(H:A7)(b:Addr):Prop:=∃r:Int,H b=some (.lst [.int r])
def One.ne(h:Flow H a)(h':One H b):b≠a:=by
 let⟨f0,f1,f2,e,_⟩:=h;let⟨r,e'⟩:=h';show JA e' e (by intro z;let z':=HO.lst.inj z;cases z')
def One.kp{l:List Addr}(h:One H b)(k:Kp l H H')(n:b∉l):One H' b:=by
 let⟨r,e⟩:=h;show⟨r,k b _ n e⟩
def One.new(h:One H b)(n:H p=none):One (upd H p o) b:=by
 let⟨r,e⟩:=h;show⟨r,by rw[AW (Ba e n)];show e⟩
def dL{xs:List V}(h:H p=some (.lst xs))(o:HO):Tp H (upd H p o):=λb ys q=>by
 rw[AW (JA q h (by intro z;cases z))];show q
def Ou(h:H p=none)(o:HO):Tp H (upd H p o):=λb ys q=>by rw[AW (Ba q h)];show q
def Flow.tp(h:Flow H a)(k:Kp [a] H H'):Tp H H':=k.tp λb hb xs e=>by
 let⟨f0,f1,f2,e',_⟩:=h;rw[aat.mp hb,e']at e;cases e
def Flow.X7(h:Flow H a)(h':One H b)(k:Kp [a,b] H H'):Tp H H':=k.tp λc hb xs e=>by
 let⟨f0,f1,f2,e',_⟩:=h;let⟨r,e2⟩:=h';rcases aah.mp hb with rfl|hb
 ·rw[e']at e;cases e
 ·rw[aat.mp hb,e2]at e;cases e
abbrev OJ(n:Nat):Dn:=λvs H Q _=>∃(a b:Addr) (d:Int),vs=[.ref a,.int d,.ref b]∧Flow H a∧One H b∧1≤d∧d<n∧d≤10∧
 ∀(v:V) (k:Kd) (H':A7),ph H' v k→k.good→k.depth≤d.toNat→Flow H' a→One H' b→Kp [a,b] H H'→Q v H'
def eU{nm:Str}{k:Kd}(h1:F3 nm)(h2:k.good):∀{fs:List (Str×Kd)},Dl fs→Dl (fs++[(nm,k)])
 |[],_=>by show Dl [(nm,k)];unfold Dl;show⟨⟨h1.1,h1.2.1,h1.2.2⟩,h2,by unfold Dl;trivial⟩
 |(n',k')::r,h=>by
  show Dl ((n',k')::(r++[(nm,k)]))
  unfold Dl at h ⊢;show⟨h.1,h.2.1,eU h1 h2 h.2.2⟩
def aeD{α:Type}{xs:List α}{x:α}(h:xs.Nodup)(n:x∉xs):(xs++[x]).Nodup:=by
 rw[ND];show⟨h,by simp,λa ha b hb=>by rw[aat.mp hb];rintro rfl;show n ha⟩
def zV{n:Nat}(F:dR K "_law_kind" "_law_kind" Px f fd)(ak:Callee P w K mg am "_law_draw" 1 ["flow","many"] ON)(lU:Callee P w K mg am "_law_name" 2 ["flow","taken"] NP)
  (eP:Callee P w K mg am "_law_kind" (2+n) ["flow","depth","room"] (OJ n))
  (aJ:mg "range" = none) (ar:mg "tuple" = none):bB P w K mg am BJ (2+n+1) f fd ["flow","depth","room"] (OJ (n+1)):=by
 show F.ok cn (λvs H Q E h=>?_) (λcA A outer s H vs Q E hr h=>?_)
 ·let⟨a,b,d,rfl,_⟩:=h
  rfl
 let⟨a,b,d,rfl,fl,on,d1,dn,d10,q⟩:=h;show⟨_,(Cg (KO (JB pG (BM 1) BG (IA _)) (Cg (KO (JB My (GY ak hr (by lia) rfl (BD (BM 0) (BD BG Co))) BG (IA _)) (Cg (JJ (Lc (BD Hg Co)))
  Ef) Ef)
  (Cg (JJ (Lc (BD Hg (BD (DB IE BG (GY ak hr (by lia) rfl (BD (BM 0) (BD BG Co)))) Co))))
  Ef)) Ef)
  (Cg (HG (i:=3) cn.nd rfl (Or.inl rfl) (Eu dA (Lf (BD Hg (BD Hg (BD Hg (BD Hg Co))))) (GY ak hr (by lia) rfl (BD (BM 0) (BD BG Co))) (λ_ _=>rfl)))
  (Cg (KO (JB My (BM 3) Hg (IA _)) (Cg (JJ (Lc (BD Hg (BD (GY eP hr (by lia) rfl (BD (BM 0) (BD (DB Lq (BM 1) BG) (BD (BM 2) Co)))) Co))))
  Ef) Ef)
  (Cg (HG (i:=4) cn.nd rfl (Or.inl rfl) (DB IE BG (GY ak hr (by lia) rfl (BD (BM 0) (BD (Eu dA (Lf (BD BG (BD BG (BD BG (BD BG Co))))) (GY ak hr (by lia) rfl (BD (BM 0) (BD BG Co))) (λ_ _=>rfl)) Co)))))
  (Cg (HG (i:=5) cn.nd rfl (Or.inl rfl) (GY ak hr (by lia) rfl (BD (BM 0) (BD (BM 4) Co))))
  (Cg (HG (i:=6) cn.nd rfl (Or.inl rfl) (Lf Co))
  (Cg (HG (i:=7) cn.nd rfl (Or.inl rfl) (Lf Co))
  (Cg (jM F8 rfl (nJ rfl aJ (BD (BM 4) Co)) (kB (i:=8) cn.nd rfl (Or.inl rfl)) (Cg (HG (i:=9) cn.nd rfl (Or.inl rfl) BG)
  (Cg (j8 (KO (JB My (BM 8) (BM 5) (IA _)) (Cg (HG (i:=9) cn.nd rfl (Or.inl rfl) (DB Lq (BM 1) BG))
  Ef) (Cg (j8 (KO (PW.pt (eM (JB SW (Eu dA (BM 2) BG (λ_ _=>rfl)) BG (IA _)) (kh (JB My (GY ak hr (by lia) rfl (BD (BM 0) (BD BG Co))) BG (IA _))))) (Cg (MN (DB Lq (Eu dA (BM 2) BG (λ_ _=>rfl)) BG) (NO (BM 2) BG set_list (λ_=>rfl)))
  (Cg (HG (i:=9) cn.nd rfl (Or.inl rfl) (DB IE BG (GY ak hr (by lia) rfl (BD (BM 0) (BD (DB Lq (BM 1) BG) Co)))))
  Ef)) Ef))
  Ef)))
  (Cg (aN (aa HS LQ L0 O3 (BM 6) (BD (GY lU hr (by lia) rfl (BD (BM 0) (BD (BM 6) Co))) Co)))
  (Cg (aN (aa HS LQ L0 O3 (BM 7) (BD (Lc (BD (Eu dA (BM 6) (BM 8) (λ_ _=>rfl)) (BD (GY eP hr (by lia) rfl (BD (BM 0) (BD (BM 9) (BD (BM 2) Co)))) Co))) Co)))
  Ef)))))
  (Cg (JJ (Lc (BD (BM 3) (BD (kF qU rfl ar DK (BD (BM 7) Co)) Co))))
  Ef))))))))),?_⟩
 let N1:b≠a:=One.ne fl on;let xG:b∉[a]:=by simpa using N1
 let up1:∀{H1 H2:A7},Kp [a] H1 H2→Kp [a,b] H1 H2:=λk=>k.mono (by simp);let sz:∀n:Nat,n≤1000→n≤sizeLine:=λn h=>B7 (Bq h);show⟨_,rfl,_,_,rfl,rfl,_,rfl,?_⟩;show Jw (λc=>?_) (λc=>?_)
 ·-- a leaf
  show⟨_,rfl,a,3,rfl,fl,by decide,by decide,λr H1 r0 r1 jk k1=>⟨rfl,_,rfl,?_⟩⟩;show Jw (λc=>?_) (λc=>?_)
  ·show⟨by show 1≤sizeLine;decide,λp hp=>?_⟩
   show q _ .text _ (by unfold ph;show⟨p,rfl,B0⟩) (by unfold Kd.good;trivial) (by unfold Kd.depth;lia) (jk.new hp) ((on.kp k1 xG).new hp) ((up1 k1).trans (Kp.new hp _))
  ·show⟨_,rfl,a,4,rfl,jk,by decide,by decide,λr2 H2 Ka J9 il k2=>Ψ2 _ _ ⟨rfl,rfl,by show 2≤sizeLine;decide,λp hp=>?_⟩⟩
   show q _ (.num (1+r2)) _ (by unfold ph;show⟨p,rfl,B0⟩) (by unfold Kd.good;lia) (by unfold Kd.depth;lia) (il.new hp) (((on.kp k1 xG).kp k2 xG).new hp) (((up1 k1).trans (up1 k2)).trans (Kp.new hp _))
 let d2:2≤d:=by
  have:¬d<2:=λz=>c (Dp z);lia
 -- Bh word
 show⟨by show 4≤sizeLine;decide,λp0 Cw=>?_⟩;show⟨_,rfl,a,4,rfl,fl.new Cw,by decide,by decide,λr1 H1 Yu Yt jk k1=>?_⟩;let U2:p0∉[a]:=by
  let⟨u,e⟩:=fl.some;simpa using(Ba e Cw).symm
 let⟨x,hx,hm⟩:=Qt (xs:=(["row","rec","pick","rec"]:List Str).map V.str) Yu (by simpa using Yt);let⟨word,hw,rfl⟩:=aau.mp hm;show Ψ4 p0 _ _ _ ⟨rfl,rfl,eB.of (k1 p0 _ U2 B0),hx,?_⟩;let WT:Kp [a,b] H H1:=(Kp.new Cw _).trans (up1 k1);let Wt:One H1 b:=(on.new Cw).kp k1 xG;show⟨_,rfl,rfl,_,rfl,?_⟩;show Jw (λc=>?_) (λc=>?_)
 ·-- a row
  show⟨_,rfl,_,rfl,_,_,rfl,rfl,_,rfl,a,b,d-1,rfl,jk,Wt,by lia,by lia,by lia,λv k H2 ki kg kd il Ws k2=>?_⟩;show⟨by show 2≤sizeLine;decide,λp hp=>?_⟩;show q _ (.row k) _ (by unfold ph;show Ψ2 p v ⟨rfl,B0,ki.mono (Ou hp _)⟩) (by unfold Kd.good;show kg) (by unfold Kd.depth;lia) (il.new hp) (Ws.new hp) ((WT.trans k2).trans (Kp.new hp _))
 let Y4:word = "rec" ∨ word = "pick" := by
  let cw:¬word = "row" := λz=>c (Dp (Ca V.str z));simp only[aah,BI,D7]at hw;rcases hw with h|h|h|h
  ·show absurd h cw
  ·show .inl h
  ·show .inr h
  ·show .inl h
 -- many
 show⟨_,rfl,by show 4≤sizeLine;decide,λp1 Fp=>?_⟩;show⟨_,rfl,a,4,rfl,jk.new Fp,by decide,by decide,λr2 H2 Ka J9 il k2=>?_⟩;let U1:p1∉[a]:=by
  let⟨u,e⟩:=jk.some;simpa using(Ba e Fp).symm
 let⟨x2,Y1,Gy⟩:=Qt (xs:=([3,3,2,6]:List Int).map V.int) Ka (by simpa using J9);let⟨m,Zg,rfl⟩:=aau.mp Gy;let Vb:0<m∧m≤6:=by
  simp only[aah,BI,D7]at Zg;lia
 show Ψ4 p1 _ _ _ ⟨rfl,rfl,eB.of (k2 p1 _ U1 B0),Y1,a,m,rfl,il,Vb.1,by lia,λr3 H3 RT RQ ik k3=>Ψ2 _ _ ⟨rfl,rfl,?_⟩⟩
 -- SD
 show⟨_,rfl,_,rfl,a,1+r3,rfl,ik,by lia,by lia,λdp H4 dp0 dp1 m9 k4=>?_⟩;let WS:Kp [a,b] H H4:=(((WT.trans (Kp.new Fp _)).trans (up1 k2)).trans (up1 k3)).trans (up1 k4);let RW:One H4 b:=((((Wt.new Fp).kp k2 xG).kp k3 xG).kp k4 xG)
 -- names,fields
 show⟨by show 0≤sizeLine;decide,λN hN=>?_⟩;show⟨by show 0≤sizeLine;decide,λFa hF=>?_⟩;let N4:N≠a:=by
  let⟨u,e⟩:=m9.some;show(Ba e hN).symm
 let So:N≠b:=by
  let⟨u,e⟩:=RW;show(Ba e hN).symm
 let Su:Fa≠N:=(Ba (B0 (H:=H4) (a:=N) (o:=.lst [])) hF).symm;let Vu:H4 Fa=none:=by rw[AW Su]at hF;show hF
 let N6:Fa≠a:=by
  let⟨u,e⟩:=m9.some;show(Ba e Vu).symm
 let Ss:Fa≠b:=by
  let⟨u,e⟩:=RW;show(Ba e Vu).symm
 let Xw:∀{c:Addr},H4 c=none→(c≠a)→(c≠b)→H c=none:=λ{c} h1 h2 h3=>by
  cases e:H c with
  |none=>rfl
  |some o=>rw[WS c o (by simp[h2,h3]) e]at h1;cases h1
 let HN:H N=none:=Xw hN N4 So;let HF:H Fa=none:=Xw Vu N6 Ss;let iR:∀{H':A7} {c:Addr} {o:HO},H c=none→Kp [a,b] H H'→Kp [a,b] H (upd H' c o):=λ{H' c o} hc k x u hx hu=>by
  let e:x≠c:=Ba hu hc;rw[AW e];show k x u hx hu
 show⟨_,rfl,1+r3,rfl,by lia,by lia,?_⟩;show y7 (λi σ H'=>∃o8 o9 ss xs fs,σ=[some (.ref a),some (.int d),some (.ref b),some (.str word),some (.int (1+r3)),some (.int dp),some (.ref N),some (.ref Fa),o8,o9]∧
   H' N=some (.lst (ss.map V.str))∧ss.length=i∧(∀z∈ss,F3 z)∧ss.Nodup∧H' Fa=some (.lst xs)∧ko H' xs fs∧fs.map (·.1)=ss∧Dl fs∧B6 fs≤(d-1).toNat∧Flow H' a∧One H' b∧Kp [a,b] H H') ?_ ?_ ?_
 ·show Ψ5 none none [] [] [] ⟨rfl,?_,rfl,(λz hz=>nomatch hz),List.nodup_nil,B0,by unfold ko;rfl,rfl,by unfold Dl;trivial,by unfold B6;lia,(m9.new hN).new hF,(RW.new hN).new hF,iR HF (iR HN WS)⟩
  rw[AW Su.symm];show B0
 ·rintro i σ H5 hi ⟨o8,o9,ss,xs,fs,rfl,Sq,oM,U7,Sg,QZ,fin,NZ,Sk,Kt,l5,Kc,k5⟩
  -- below
  show⟨λσ H'=>∃bl:Int,σ=[some (.ref a),some (.int d),some (.ref b),some (.str word),some (.int (1+r3)),some (.int dp),some (.ref N),some (.ref Fa),some (.int (0+i)),some (.int bl)]∧1≤bl∧bl≤d-1∧
   H' N=some (.lst (ss.map V.str))∧H' Fa=some (.lst xs)∧ko H' xs fs∧Flow H' a∧One H' b∧Kp [a,b] H H',?_,?_⟩
  ·show⟨_,rfl,_,rfl,rfl,_,rfl,?_⟩
   show Jw (λc=>?_) (λc=>?_)
   ·show⟨_,rfl,_,_,rfl,rfl,d-1,rfl,by lia,by lia,Sq,QZ,fin,l5,Kc,k5⟩
   ·show⟨λσ H'=>∃bl:Int,σ=[some (.ref a),some (.int d),some (.ref b),some (.str word),some (.int (1+r3)),some (.int dp),some (.ref N),some (.ref Fa),some (.int (0+i)),some (.int bl)]∧1≤bl∧bl≤d-1∧
     H' N=some (.lst (ss.map V.str))∧H' Fa=some (.lst xs)∧ko H' xs fs∧Flow H' a∧One H' b∧Kp [a,b] H H',?_,λ_ _ h=>h⟩
    let⟨rr,er⟩:=id Kc;show⟨_,rfl,b,_,_,_,rfl,rfl,eB.of er,Mz,_,_,rfl,rfl,_,rfl,?_⟩;show Jw (λc1=>?_) (λc1=>tI ⟨1,rfl,by lia,by lia,Sq,QZ,fin,l5,Kc,k5⟩);show⟨_,rfl,a,3,rfl,l5,by decide,by decide,λr6 H6 Ys Yr oN k6=>⟨rfl,_,rfl,?_⟩⟩;let Qf:=Kc.kp k6 xG;let N5:=k6 N _ (by simpa using N4) Sq;let Sv:=k6 Fa _ (by simpa using N6) QZ;let Jd:=fin.mono (l5.tp k6);show Jw (λc2=>?_) (λc2=>⟨1,rfl,by lia,by lia,N5,Sv,Jd,oN,Qf,k5.trans (up1 k6)⟩);let⟨r7,VG⟩:=id Qf;show⟨_,rfl,b,_,_,_,rfl,rfl,eB.of VG,Mz,_,_,rfl,rfl,_,rfl,b,_,_,_,rfl,rfl,VG,rfl,?_⟩;let flb:Flow (upd H6 b (.lst ([.int r7].set 0 (.int (r7-1))))) a:=by
     let⟨f0,f1,f2,e,z⟩:=oN;show Ψ3 f0 f1 f2 ⟨by rw[AW N1.symm];show e,z⟩
    let Yx:One (upd H6 b (.lst ([.int r7].set 0 (.int (r7-1))))) b:=⟨r7-1,B0⟩;show⟨_,rfl,_,rfl,_,_,rfl,rfl,a,d-1,rfl,flb,by lia,by lia,λr8 H8 r80 r81 N7 k8=>Ψ2 _ _ ⟨rfl,rfl,?_⟩⟩;show⟨1+r8,rfl,by lia,by lia,k8 N _ (by simpa using N4) (by rw[AW So];show N5),k8 Fa _ (by simpa using N6) (by rw[AW Ss];show Sv),(Jd.mono (dL VG _)).mono (flb.tp k8),N7,Yx.kp k8 xG,?_⟩;show((k5.trans (up1 k6)).trans (Kp.set (by simp) _)).trans (up1 k8)
  intro σ H6⟨bl,rfl,bl1,bld,N5,Sv,Jd,oN,Qf,k6⟩
  -- names.append(name)
  show⟨_,rfl,.inl ⟨rfl,_,eB.of N5⟩,_,rfl,_,rfl,a,N,ss,rfl,oN,N5,by lia,U7,λz H7 nz nf N8 k7=>?_⟩;let Xj:=k7 N _ (by simpa using N4) N5;let ZJ:=k7 Fa _ (by simpa using N6) Sv;show Ψ3 N _ _ ⟨rfl,rfl,Xj,?_,?_⟩
  ·rw[Ac,oM];show Bq (by lia)
  -- fields.append((names[k],kind))
  let Yz:=Qf.kp k7 xG;let N7:Flow (upd H7 N (.lst (ss.map V.str++[.str z]))) a:=by
   let⟨f0,f1,f2,e,zz⟩:=N8;show Ψ3 f0 f1 f2 ⟨by rw[AW N4.symm];show e,zz⟩
  let Uh:One (upd H7 N (.lst (ss.map V.str++[.str z]))) b:=by
   let⟨r,e⟩:=Yz;show⟨r,by rw[AW So.symm];show e⟩
  let VC:=(Jd.mono (oN.tp k7)).mono (dL Xj (.lst (ss.map V.str++[.str z])));let Xn:(upd H7 N (.lst (ss.map V.str++[.str z]))) Fa=some (.lst xs):=by rw[AW Su];show ZJ
  let k8:Kp [a,b] H (upd H7 N (.lst (ss.map V.str++[.str z]))):=iR HN (k6.trans (up1 k7));let Zo:Bw (ss.map V.str++[.str z]) (0+(i:Int))=some (.str z):=by
   let e:(0+(i:Int))=((ss.map V.str).length:Nat):=by rw[Ac,oM];lia
   rw[e];show Es (by rw[Fi (Ak _),OD];rfl)
  show⟨_,rfl,.inl ⟨rfl,_,eB.of Xn⟩,_,rfl,_,rfl,N,_,_,_,rfl,rfl,eB.of B0,Zo,?_⟩;show⟨_,rfl,_,rfl,_,rfl,a,b,bl,rfl,N7,Uh,bl1,by lia,by lia,λv k H9 ki kg kd fl9 Yy k9=>?_⟩;let Uu:N∉[a,b]:=by simp[N4,So]
  let Uv:Fa∉[a,b]:=by simp[N6,Ss]
  let Xi:=k9 N _ Uu B0;let Xm:=k9 Fa _ Uv Xn;let VB:=VC.mono (N7.X7 Uh k9);show⟨by show 2≤sizeLine;decide,λp hp=>?_⟩;let Xl:Fa≠p:=Ba Xm hp;let ZI:N≠p:=Ba Xi hp;let Q0:(upd H9 p (.tup [.str z,v])) Fa=some (.lst xs):=by rw[AW Xl];show Xm
  let xl:xs.length=i:=by rw[fin.length,←oM,←NZ,Ac]
  show Ψ3 Fa _ _ ⟨rfl,rfl,Q0,by rw[xl];show Bq (by lia),?_⟩;show Ψ5 _ _ (ss++[z]) (xs++[.ref p]) (fs++[(z,k)]) ⟨rfl,?_,?_,?_,?_,B0,?_,?_,?_,?_,?_,?_,?_⟩
  ·rw[AW Su.symm,AW ZI,Xi,Ao];rfl
  ·rw[B9,oM];rfl
  ·intro y hy
   rcases aaC.mp hy with h|h
   ·show U7 y h
   ·rw[aat.mp h];show nz
  ·show aeD Sg nf
  ·let t1:Tp H9 (upd (upd H9 p (.tup [.str z,v])) Fa (.lst (xs++[.ref p]))):=(Ou hp _).trans (dL Q0 _)
   show(VB.mono t1).snoc (by rw[AW Xl.symm];show B0) (ki.mono t1)
  ·rw[Ao,NZ];rfl
  ·show eU nz kg Sk
  ·show qe Kt (by lia)
  ·let⟨f0,f1,f2,e,zz⟩:=fl9
   let ea:a≠p:=Ba e hp;show Ψ3 f0 f1 f2 ⟨by rw[AW N6.symm,AW ea];show e,zz⟩
  ·let⟨r,e⟩:=Yy
   let eb:b≠p:=Ba e hp;show⟨r,by rw[AW Ss.symm,AW eb];show e⟩
  ·show iR HF ((k8.trans k9).trans (Kp.new hp _))
 rintro σ H5 ⟨o8,o9,ss,xs,fs,rfl,Sq,oM,U7,Sg,QZ,fin,NZ,Sk,Kt,l5,Kc,k5⟩
 -- Bh end
 show⟨_,rfl,_,rfl,Fa,xs,rfl,.inl ⟨eB.of QZ,λl hl=>⟨by show 2≤sizeLine;decide,λp hp=>?_⟩⟩⟩;let lp:l≠p:=Ba B0 hp;let N8:fs.length=(1+r3).toNat:=by rw[←oM,←NZ,Ac]
 let t1:Tp H5 (upd (upd H5 l (.tup xs)) p (.tup [.str word,.ref l])):=(Ou hl _).trans (Ou hp _);let BV:(upd (upd H5 l (.tup xs)) p (.tup [.str word,.ref l])) l=some (.tup xs):=by rw[AW lp];show B0
 let kk:Kp [a,b] H (upd (upd H5 l (.tup xs)) p (.tup [.str word,.ref l])):=(k5.trans (Kp.new hl _)).trans (Kp.new hp _);rcases Y4 with e|e<;>subst e
 ·show q _ (.rec_ fs) _ (by unfold ph;show Ψ3 p l xs ⟨rfl,B0,BV,fin.mono t1⟩) (by unfold Kd.good;show⟨Sk,by lia,by lia,by rw[NZ];show Sg⟩) (by unfold Kd.depth;lia) ((l5.new hl).new hp) ((Kc.new hl).new hp) kk
 ·show q _ (.pick fs) _ (by unfold ph;show Ψ3 p l xs ⟨rfl,B0,BV,fin.mono t1⟩) (by unfold Kd.good;show⟨Sk,by lia,by lia,by rw[NZ];show Sg⟩) (by unfold Kd.depth;lia) ((l5.new hl).new hp) ((Kc.new hl).new hp) kk
end
end Tg
namespace Tg
open PySem L2 L3
variable {H:A7}{Γ Γ':AL}{a p b C f2 f3 f4:Addr}{l:List Addr}{k:Kd}{n m i lv M S:Nat}{Z:Cr}{x e v t y u:T}{r:T→Prop}{lo hi:Option Int}{ss:List Str}{L:Ly}{na:Bool}{fs:al}{ts xs ys us:List T}{pT f dN: Addr}{z:Str×(Kd×Nat)}{te:AX}{Y:Value→AL→Prop}{τ:Bn}{K: W.Frag}{Nl:FuncData}{w: World}{mg: Str→Option Value}{P: Program}{am: Heap}{fd: FuncData}{v1: Value}
mutual
theorem TL{H:A7}:∀{k:Kd} {v:V},ph H v k→R H v k.tr
 |.num w,v,h=>by
  unfold ph at h;let⟨a,rfl,e⟩:=h;show Ea e (CS Em (CS DL D3))
 |.text,v,h=>by
  unfold ph at h;let⟨a,rfl,e⟩:=h;show Ea e (CS Em D3)
 |.row k,v,h=>by
  unfold ph at h;let⟨a,u,rfl,e,q⟩:=h;show Ea e (CS Em (CS (TL q) D3))
 |.rec_ fs,v,h=>by
  unfold ph at h;let⟨a,f,xs,rfl,e,e2,q⟩:=h;show Ea e (CS Em (CS (Ea e2 (Tx q)) D3))
 |.pick fs,v,h=>by
  unfold ph at h;let⟨a,f,xs,rfl,e,e2,q⟩:=h;show Ea e (CS Em (CS (Ea e2 (Tx q)) D3))
theorem Tx{H:A7}:∀{fs:List (Str×Kd)} {xs:List V},ko H xs fs→Rs H xs (CE fs)
 |[],xs,h=>by unfold ko at h;rw[h];show D3
 |(nm,k)::r,xs,h=>by
  unfold ko at h;let⟨p,u,ys,rfl,e,q,z⟩:=h;show CS (Ea e (CS Em (CS (TL q) D3))) (Tx z)
end
abbrev aH(Γ:AL)(a:Addr):Prop:=∃f0 f1 f2:Int,Γ a=some (.lst [.int f0,.int f1,.int f2])∧0≤f0∧0≤f1∧f1<10^40+121
abbrev eD(Γ:AL)(b:Addr):Prop:=∃r:Int,Γ b=some (.lst [.int r])
def aH.kq(h:aH Γ a)(f:Kq l Γ Γ')(n:a∉l):aH Γ' a:=by
 let⟨f0,f1,f2,e,r⟩:=h;show Ψ3 f0 f1 f2 ⟨f a _ n e,r⟩
def aH.new{o:O}(h:aH Γ a)(n:Γ p=none):aH (up Γ p o) a:=h.kq (l:=[]) (Kq.new n o) (by simp)
def aH.up{o:O}(h:aH Γ a)(n:a≠p):aH (up Γ p o) a:=by
 let⟨f0,f1,f2,e,r⟩:=h;show Ψ3 f0 f1 f2 ⟨by rw[B8 n];show e,r⟩
def aH.some(h:aH Γ a):∃o,Γ a=.some o:=by
 let⟨f0,f1,f2,e,r⟩:=h;show⟨_,e⟩
def aH.nn(h:aH Γ a)(n:Γ p=none):p≠a:=by
 let⟨o,e⟩:=h.some;show(CL e n).symm
def eD.fr(h:eD Γ a)(f:Fr l Γ Γ')(n:a∉l):eD Γ' a:=by
 let⟨r,e⟩:=h;show⟨r,by rw[f a n];show e⟩
def eD.kq(h:eD Γ a)(f:Kq l Γ Γ')(n:a∉l):eD Γ' a:=by
 let⟨r,e⟩:=h;show⟨r,f a _ n e⟩
def eD.ne(h:aH Γ a)(h':eD Γ b):b≠a:=by
 let⟨f0,f1,f2,e,_⟩:=h;let⟨r,e'⟩:=h';show rY e' e (λz=>by have:=O.lst.inj z;cases this)
def cq{H':A7}(hr:HR H Γ)(k:Kp l H H')(hl:∀b∈l,∃ts m7 m6,Γ b=some (.lst ts)∧H' b=some (.lst m6)∧Rs H' m6 m7∧Γ' b=some (.lst m7))(fr:Fr l Γ Γ'):fN H Γ H' Γ'∧HR H' Γ':=by
 let nl:∀b∈l,∃vs,H b=some (.lst vs):=λb hb=>by
  let⟨ts,m7,m6,g,_⟩:=hl b hb;let⟨vs,h,_⟩:=hr b _ g;show⟨vs,h⟩
 let tq:Tq H H':=⟨λa vs h=>k a _ (λz=>by let⟨us,h'⟩:=nl a z;rw[h]at h';cases h') h,λa o u h=>k a _ (λz=>by let⟨us,h'⟩:=nl a z;rw[h]at h';cases h') h⟩;show⟨⟨tq,λa h z=>?_,λa h g=>?_,λa o h g=>?_⟩,λa o g=>?_⟩
 ·by_cases m:a∈l
  ·let⟨_,_,m6,_,h',_⟩:=hl a m
   rw[z]at h';cases h'
  ·cases e:H a with
   |none=>show h e
   |some o=>show(by rw[k a o m e]at z;cases z)
 ·let m:a∉l:=λm=>by let⟨ts,_,_,g',_⟩:=hl a m;rw[g]at g';cases g'
  rw[fr a m];show g
 ·let m:a∉l:=λm=>by let⟨ts,_,_,g',_⟩:=hl a m;rw[g]at g';cases g'
  show k a o m h
 ·by_cases m:a∈l
  ·let⟨_,m7,m6,_,h',q,g'⟩:=hl a m
   rw[g]at g';cases g';show⟨m6,h',q⟩
  ·rw[fr a m]at g
   show(hr a o g).mono tq λu h=>k a u m h
def R1(hr:HR H Γ)(h:aH Γ a):Flow H a:=by
 let⟨f0,f1,f2,e,r⟩:=h;let⟨vs,hv,q⟩:=hr a _ e;rw[MM (ns:=[f0,f1,f2]) q]at hv;show Ψ3 f0 f1 f2 ⟨hv,r⟩
def abz(hr:HR H Γ)(h:eD Γ a):One H a:=by
 let⟨r,e⟩:=h;let⟨vs,hv,q⟩:=hr a _ e;rw[MM (ns:=[r]) q]at hv;show⟨r,hv⟩
def J0{H:A7}:∀ns:List Int,Rs H (ns.map V.int) (ns.map T.int)
 |[]=>D3
 |n::r=>CS DL (J0 r)
abbrev Ey:BQ:=λts Γ Z _=>∃(a:Addr) (m:Int),ts=[.ref a,.int m]∧aH Γ a∧0<m∧m<2^200∧∀(r:Int) (Γ':AL),0≤r→r<m→aH Γ' a→Fr [a] Γ Γ'→Z (.int r) Γ'
abbrev Yj(n:Nat):BQ:=λts Γ Z _=>∃(a b:Addr) (d:Int),ts=[.ref a,.int d,.ref b]∧aH Γ a∧eD Γ b∧1≤d∧d<n∧d≤10∧
 ∀(k:Kd) (Γ':AL),k.good→(k.depth:Int)≤d→aH Γ' a→eD Γ' b→Fr [a,b] Γ Γ'→Z k.tr Γ'
section
def Loc{k:Nat}(c:Callee P w K mg am "_law_draw" k ["flow","many"] ON):AV P w K mg am "_law_draw" k ["flow","many"] Ey:=
 c.imp λvs H Q E ⟨ts,Γ,Z,Y,r,hr,⟨a,m,e,fl,m0,m1,q⟩,vr,xr⟩=>by
  subst e;let⟨v,w,rfl,r1,r2⟩:=xC r;show Ψ2 a m ⟨by rw[CH r1,D8 r2],R1 hr fl,m0,m1,λi H' i0 i1 pR k=>?_⟩;let⟨f0,f1,f2,e',b'⟩:=pR;let⟨g0,g1,g2,eg,_⟩:=fl;let fr:Fr [a] Γ (up Γ a (.lst [.int f0,.int f1,.int f2])):=.set (by simp) _;let⟨s,IV⟩:=cq hr k (λb hb=>by rw[aat.mp hb];show Ψ3 _ _ _ ⟨eg,e',J0 [f0,f1,f2],AE⟩) fr;show vr _ _ H' _ s IV DL (q i _ i0 i1 ⟨f0,f1,f2,AE,b'⟩ fr)
def t9{k:Nat}(c:Callee P w K mg am "_law_kind" k ["flow","depth","room"] (OJ n)):AV P w K mg am "_law_kind" k ["flow","depth","room"] (Yj n):=
 c.imp λvs H Q E ⟨ts,Γ,Z,Y,r,hr,⟨a,b,d,e,fl,on,d1,dn,d10,q⟩,vr,xr⟩=>by
  subst e;let⟨v,ws,rfl,r1,r'⟩:=DG r;let⟨w,u,rfl,r2,r3⟩:=xC r';show Ψ3 a b d ⟨by rw[CH r1,D8 r2,CH r3],R1 hr fl,abz hr on,d1,dn,d10,λv k H' ki kg kd pR By kp=>?_⟩;let WD:b≠a:=eD.ne fl on;let⟨f0,f1,f2,e',b'⟩:=pR;let⟨g0,g1,g2,eg,_⟩:=fl;let⟨r0,er⟩:=on;let⟨r',Q9⟩:=By;let fr:Fr [a,b] Γ (up (up Γ a (.lst [.int f0,.int f1,.int f2])) b (.lst [.int r'])):=(Fr.set (by simp) _).trans (Fr.set (by simp) _);let⟨s,IV⟩:=cq hr kp (λc hc=>by
   rcases aah.mp hc with rfl|hc
   ·show Ψ3 _ _ _ ⟨eg,e',J0 [f0,f1,f2],by rw[B8 WD.symm];show AE⟩
   ·rw[aat.mp hc];show Ψ3 _ _ _ ⟨er,Q9,J0 [r'],AE⟩) fr
  show vr _ _ H' _ s IV (TL ki) (q k _ kg (by lia) ⟨f0,f1,f2,by rw[B8 WD.symm];show AE,b'⟩ ⟨r',AE⟩ fr)
end
local macro_rules | `(tactic| left)=>`(tactic| repeat (first
 |(with_reducible first|refine oq ?_|refine zN ?_|refine Nt ?_|refine wZ ?_|refine TA ?_)|((with_reducible apply S7);exact rfl)|(with_reducible first|refine adY ?_|refine z9 ?_|refine SX ?_|refine vN ?_|refine lL ?_|refine Wg ?_|refine jB ?_|refine i9 ?_|refine adU ?_|refine aeg ?_|refine wj ?_|refine vz ?_|refine acJ ?_|refine aeB ?_|refine rD ?_|refine Itm ?_|refine zH ?_|refine uV ?_|refine wN ?_|refine aap ?_|refine uN ?_|refine abc ?_|refine vf ?_|refine adR ?_|refine zd ?_|refine ad8 ?_|refine aa0 ?_|refine uv ?_|refine Gap ?_|refine zK ?_|refine adQ ?_|refine aaI ?_|refine pO ?_|refine acm ?_)|((with_reducible refine vG ?_ ?_);exact rfl)|(with_reducible first|refine aec ?_|refine aba ?_|refine t7 ?_|refine rh ?_|refine wq ?_|refine rF ?_|refine uT ?_|refine aef ?_|refine wO ?_|refine abC ?_|refine wc ?_|refine wM ?_|refine sT ?_|refine adV ?_|refine ach ?_|refine aaa ?_|refine aac ?_|refine X8 ?_|refine X9 ?_|refine vn ?_|refine aaG ?_|refine uo ?_|refine xD ?_|refine zD ?_|refine RM ?_|refine t5 ?_|refine Wf ?_|refine RN ?_|refine S6 ?_|refine rI ?_)|((with_reducible apply Ep);(first|assumption|exact AE);(first|exact Oc|exact ag))|((with_reducible apply uR);(first|assumption|exact AE);exact rfl)
 |with_reducible refine And.intro (rfl:T.non=T.non) ?_|(with_reducible first|refine sf ?_|refine ab4 ?_|refine u0 ?_|refine aeP ?_)|((with_reducible apply ya);exact rfl;exact rfl;exact rfl)|(with_reducible first|refine ac6 ?_|refine Yd ?_|refine zF ?_|refine Tf ?_|refine Th ?_|refine S4 ?_|refine S5 ?_|refine wA ?_|refine aeS ?_)|((with_reducible refine adg ?_ ?_);exact rfl)
 |((with_reducible refine G4 ?_ ?_);(first|exact⟨by decide,by decide,by decide⟩|exact⟨by decide,by decide⟩|exact Or.inl ⟨by decide,by decide⟩|exact Or.inr ⟨by decide,by decide⟩|((show(0:Int)<_);decide)))
 |((with_reducible refine SK ?_ ?_);(first|exact rfl|decide +kernel))|((with_reducible refine gU ?_ ?_);(first|exact rfl|decide +kernel))))
def Lx(fl:aH Γ' a)(k:Kq [a] Γ Γ')(q:∀Γ2,aH Γ2 a→Fr [a] Γ Γ2→Z x Γ2):E3 Z x Γ':=by
 let⟨f0,f1,f2,e,r⟩:=fl;show ael k e (q _ ⟨f0,f1,f2,AE,r⟩ (Fr.set (by simp) _))
def tE(fl:aH Γ' a)(on:eD Γ' b)(k:Kq [a,b] Γ Γ')(q:∀Γ2,aH Γ2 a→eD Γ2 b→Fr [a,b] Γ Γ2→Z x Γ2):E3 Z x Γ':=by
 let n:=eD.ne fl on;let⟨f0,f1,f2,e,r⟩:=fl;let⟨r',e'⟩:=on;show ads k e e' (q _ ⟨f0,f1,f2,by rw[B8 n.symm];show AE,r⟩ ⟨r',AE⟩ ((Fr.set (by simp) _).trans (Fr.set (by simp) _)))
def menu{ns:List Int}{r:Int}(h0:0≤r)(h1:r<ns.length):∃n,n∈ns∧Bw (ns.map T.int) r=some (.int n):=by
 let⟨x,hx,hm⟩:=Qt (xs:=ns.map T.int) h0 (by simpa using h1);let⟨n,hn,rfl⟩:=aau.mp hm;show⟨n,hn,hx⟩
@[reducible]def jz:Str := " !\"#$&'()*+,-./0123456789:;<=>?@ABCDEFGHIJKLMNOPQRSTUVWXYZ[\\]^_`abcdefghijklmnopqrstuvwxyz{|}~"
def iq:jz.cps.toList.length=94:=by decide +kernel
def abJ:∀c∈jz.cps.toList,Dq c=true:=by decide +kernel
def tf{k:Nat}(h:k≤4):(65536:Int)^k≤65536^4:=by
 let c:k=0∨k=1∨k=2∨k=3∨k=4:=by lia
 rcases c with rfl|rfl|rfl|rfl|rfl<;>decide
def abv{k:Nat}(h:k≤4):(65536:Int)^k<2^200:=by
 have:=tf h;let e:(65536:Int)^4<2^200:=by decide
 lia
def pow_mul{k:Nat}(h:1≤k):∃m:Int,(65536:Int)^k=65536*m∧1≤m:=by
 obtain⟨j,rfl⟩:∃j,k=j+1:=⟨k-1,by lia⟩;show⟨65536^j,by rw[Gh,Lm],?_⟩;have:=Mj j;lia
def KZ(d:Nat):(1:Int)≤7^d:=by
 have:(0:Int)<7^d:=Int.pow_pos (by decide);lia
def b8{d e:Nat}(h:d≤e):(7:Int)^d≤7^e:=by
 obtain⟨t,rfl⟩:∃t,e=d+t:=⟨e-d,by lia⟩;rw[Int.pow_add];let h3:=iV (KZ t) (show(0:Int)≤7^d by have:=KZ d;lia);rw[Int.mul_one]at h3;show h3
def sum_in{d:Int}:∀{ns:List Int},(∀x∈ns,1≤x∧x≤d)→(ns.length:Int)≤ns.sum∧ns.sum≤ns.length*d
 |[],_=>by simp
 |x::r,h=>by
  let h1:=h x Gd;let h2:=sum_in λy hy=>h y (ET _ hy);rw[Np,BE];let e:((r.length+1:Nat):Int)*d=r.length*d+d:=by push_cast;rw[Int.add_mul,Int.one_mul]
  rw[e]
  push_cast
  lia
section
@[reducible]def Ui:Stmt:=Bk 45
def oA:BA ["flow","some"] ["flow"] (B4 Ui):=Bm
abbrev Ow:BQ:=λts Γ Z _=>∃a:Addr,ts=[.ref a]∧aH Γ a∧∀(z:Str) (Γ':AL),z.length=1→z.cps.toList.all Dq=true→aH Γ' a→Fr [a] Γ Γ'→Z (.str z) Γ'
def abT(F:dR K "_law_sign" "_law_sign" Ui f fd)(ak:AV P w K mg am "_law_draw" 1 ["flow","many"] Ey):bB P w K mg am BJ 2 f fd ["flow"] (BP Ow):=by
 show Cb F oA (λts Γ Z Y h=>?_) (λcA A outer s H E ts Γ Z Y hr h=>?_)
 ·let⟨a,rfl,_⟩:=h
  rfl
 let⟨a,rfl,fl,q⟩:=h;show⟨_,(A9 (Aa (i:=1) oA.nd Ai)
  (A9 (Af (Yi (A3 1) (AM ak hr (A4 (A3 0) (A4 AB A8)))))
  AD)),?_⟩
 simp only[BW];left;show Ψ2 a 94 ⟨rfl,fl,by decide,by decide,λr Γ1 r0 r1 jk k1=>?_⟩;let⟨c,hc,hm⟩:=Qt (xs:=jz.cps.toList) r0 (by rw[iq];show r1);show Ψ3 jz _ c ⟨rfl,rfl,by show jz.cps.size≤sizeLine;rw[←ED,iq];decide,hc,?_⟩;show Ag .refl (q _ Γ1 rfl ?_ jk k1);show([c].all Dq)=true
 rw[HK,abJ c hm];rfl
@[reducible]def Tj:Stmt:=Bk 46
def ck:BA ["flow","width","span","way","found"] ["flow","width"] (B4 Tj):=Bm
abbrev Wl:BQ:=λts Γ Z _=>∃(a:Addr) (k:Nat),ts=[.ref a,.int (k:Nat)]∧aH Γ a∧1≤k∧k≤4∧∀(n:Int) (Γ':AL),-(65536^k)≤2*n→2*n<65536^k→aH Γ' a→Fr [a] Γ Γ'→Z (.int n) Γ'
def sZ(F:dR K "_law_number" "_law_number" Tj f fd)(ak:AV P w K mg am "_law_draw" 1 ["flow","many"] Ey):bB P w K mg am BJ 2 f fd ["flow","width"] (BP Wl):=by
 show Cb F ck (λts Γ Z Y h=>?_) (λcA A outer s H E ts Γ Z Y hr h=>?_)
 ·let⟨a,k,rfl,_⟩:=h
  rfl
 let⟨a,k,rfl,fl,k1,k4,q⟩:=h;show⟨_,(A9 (Aa (i:=2) ck.nd (AJ (BL (A4 AB (A4 AB (A4 (AN Gb AB AB) (A4 (AN Gb AB AB) (A4 (AN Gb AB AB) A8)))))) (A3 1)))
  (A9 (Aa (i:=3) ck.nd (AM ak hr (A4 (A3 0) (A4 AB A8))))
  (A9 (Aa (i:=4) ck.nd (AM ak hr (A4 (A3 0) (A4 (A3 2) A8))))
  (A9 (Ek (Ah (Aj BH (A3 3) AB) (A9 (Aa (i:=4) ck.nd (AJ (BL (A4 AB (A4 AB (A4 (AN Fe (AN LK (A3 2) AB) AB) (A4 (AN LK (A3 2) AB) (A4 (AN Fe (A3 2) AB) (A4 AB A8))))))) (AM ak hr (A4 (A3 0) (A4 AB A8)))))
  AD) (A9 (Ek (Ah (Aj BH (A3 3) AB) (A9 (Aa (i:=4) ck.nd (AN GG (AN cR (A3 4) AB) (AJ (BL (A4 AB (A4 AB (A4 (AN Gb AB AB) (A4 (AN Gb AB AB) A8))))) (AM ak hr (A4 (A3 0) (A4 (A3 1) A8))))))
  AD) (A9 (Ek (Ah (Aj BH (A3 3) AB) (A9 (Aa (i:=4) ck.nd (AN cR (A3 4) AB))
  AD) AD))
  AD)))
  AD)))
  (A9 (Ek (Ah (Aj Kw (A3 4) (AN LK (A3 2) AB)) (A9 (Aa (i:=4) ck.nd (AN Fe (A3 4) (A3 2)))
  AD) AD))
  (A9 (Af (A3 4))
  AD)))))),?_⟩
 simp only[BW];let⟨m,hm,m1⟩:=pow_mul k1;let hp:=abv k4;left;intro p Cw;let QC:Bw [T.int 1,T.int 65536,T.int (65536^(2:Int).toNat),T.int (65536^(3:Int).toNat),T.int (65536^(4:Int).toNat)] (k:Int)=some (.int (65536^k)):=by
  let c:k=1∨k=2∨k=3∨k=4:=by lia
  rcases c with rfl|rfl|rfl|rfl<;>show Es rfl
 left;show Ep AE QC ?_;let fl0:=fl.new (o:=.lst [T.int 1,T.int 65536,T.int (65536^(2:Int).toNat),T.int (65536^(3:Int).toNat),T.int (65536^(4:Int).toNat)]) Cw;let q0:Kq [a] Γ (up Γ p (.lst [T.int 1,T.int 65536,T.int (65536^(2:Int).toNat),T.int (65536^(3:Int).toNat),T.int (65536^(4:Int).toNat)])):=.new Cw _;left;show Ψ2 a 6 ⟨rfl,fl0,by decide,by decide,λway Γ1 w0 w6 jk q1=>?_⟩;left;show Ψ2 a _ ⟨rfl,jk,by lia,by lia,λfo Γ2 f0 f1 il q2=>?_⟩;let Fd:Kq [a] Γ Γ2:=(q0.trans q1.kq).trans q2.kq;left;show⟨λτ Γ'=>∃fo:Int,τ=[some (.ref a),some (.int k),some (.int (65536^k)),some (.int way),some (.int fo)]∧0≤fo∧fo<65536^k∧aH Γ' a∧Kq [a] Γ Γ',?_,?_⟩
 ·left
  show B5 (λc=>?_) (λc=>?_)
  ·left
   intro p2 iJ;left;show Ψ2 a 6 ⟨rfl,il.new iJ,by decide,by decide,λr Γ3 r0 r6 ik q3=>?_⟩;let⟨n,hn,he⟩:=menu (ns:=[0,1,65536^k/2-1,65536^k/2,65536^k-1,65535]) r0 r6;show Ep (by rw[q3 p2 (by simpa using il.nn iJ)];show AE) he ?_;show⟨n,rfl,?_,?_,ik,(Fd.trans (.new iJ _)).trans q3.kq⟩
   ·simp only[aah,BI,D7]at hn;lia
   ·simp only[aah,BI,D7]at hn;lia
  ·left
   show Ik ?_;left;show B5 (λc=>?_) (λc=>?_)
   ·left
    intro p2 iJ;left;show Ψ2 a _ ⟨rfl,il.new iJ,by lia,by lia,λr Γ3 r0 r6 ik q3=>?_⟩;obtain⟨j,rfl⟩:∃j:Nat,r=j:=⟨r.toNat,by lia⟩;let hj:Bw [T.int 1,T.int 65536,T.int (65536^(2:Int).toNat),T.int (65536^(3:Int).toNat)] (j:Int)=some (.int (65536^j)):=by
     let c:j=0∨j=1∨j=2∨j=3:=by lia
     rcases c with rfl|rfl|rfl|rfl<;>show Es rfl
    show Ep (by rw[q3 p2 (by simpa using il.nn iJ)];show AE) hj ?_;let e1:0≤fo%65536:=JL _ (by decide);let e2:fo%65536<65536:=Jy _ (by decide);let pj:=Mj j;let up:fo%65536*65536^j<65536^k:=by
     let h1:(65536:Int)^(j+1)≤65536^k:=by
      obtain⟨t,rfl⟩:∃t,k=j+1+t:=⟨k-(j+1),by lia⟩;rw[Int.pow_add 65536 (j+1) t];have:=Mj t;let h2:=Mj (j+1);let h3:=iV (show(1:Int)≤65536^t by lia) (Int.le_of_lt h2);rw[Int.mul_one]at h3;show h3
     let h2:fo%65536*65536^j≤65535*65536^j:=TK (by lia) (by lia);rw[Gh]at h1;lia
    show G4 (.inl ⟨by lia,by lia⟩) ?_;show⟨_,rfl,Int.mul_nonneg e1 (Int.le_of_lt pj),up,ik,(Fd.trans (.new iJ _)).trans q3.kq⟩
   ·left
    show Ik ?_;left;show B5 (λc=>?_) (λc=>?_)
    ·left
     show⟨_,rfl,JL _ (by decide),by have:=Jy fo (show(0:Int)<256 by decide);lia,il,Fd⟩
    ·left
     show⟨_,rfl,f0,f1,il,Fd⟩
 intro τ Γ3⟨fo,rfl,f0,f1,ik,q3⟩;left;show⟨λτ Γ'=>∃fo:Int,τ=[some (.ref a),some (.int k),some (.int (65536^k)),some (.int way),some (.int fo)]∧-(65536^k)≤2*fo∧2*fo<65536^k∧aH Γ' a∧Kq [a] Γ Γ',?_,?_⟩
 ·left
  show B5 (λc=>?_) (λc=>?_)
  ·let c':65536^k/2≤fo:=Ec c
   left;show⟨_,rfl,by lia,by lia,ik,q3⟩
  ·let c':¬65536^k/2≤fo:=Fn c
   left;show⟨_,rfl,by lia,by lia,ik,q3⟩
 intro τ Γ4⟨fo,rfl,f0,f1,m9,q4⟩;left;show Lx m9 q4 λΓ5 l5 k5=>q fo Γ5 f0 f1 l5 k5
@[reducible]def Yp:Stmt:=Bk 47
def oB:BA ["flow","way"] ["flow"] (B4 Yp):=Bm
abbrev bz:BQ:=λts Γ Z _=>∃a:Addr,ts=[.ref a]∧aH Γ a∧∀(m:Int) (Γ':AL),0≤m→m≤60→aH Γ' a→Fr [a] Γ Γ'→Z (.int m) Γ'
def acF(F:dR K "_law_many" "_law_many" Yp f fd)(ak:AV P w K mg am "_law_draw" 1 ["flow","many"] Ey):bB P w K mg am BJ 2 f fd ["flow"] (BP bz):=by
 show Cb F oB (λts Γ Z Y h=>?_) (λcA A outer s H E ts Γ Z Y hr h=>?_)
 ·let⟨a,rfl,_⟩:=h
  rfl
 let⟨a,rfl,fl,q⟩:=h;show⟨_,(A9 (Aa (i:=1) oB.nd (AM ak hr (A4 (A3 0) (A4 AB A8))))
  (A9 (Ah (Aj BH (A3 1) AB) (A9 (Af AB)
  AD) AD)
  (A9 (Af (AM ak hr (A4 (A3 0) (A4 (AJ (BL (A4 AB (A4 AB (A4 AB (A4 AB (A4 AB (A4 AB (A4 AB (A4 AB A8))))))))) (AN Fe (A3 1) AB)) A8))))
  AD))),?_⟩
 simp only[BW];left;show Ψ2 a 9 ⟨rfl,fl,by decide,by decide,λway Γ1 w0 w9 jk k1=>?_⟩;left;show B5 (λc=>?_) (λc=>?_)
 ·left
  show Ag .refl (q 60 Γ1 (by decide) (by decide) jk k1)
 ·let c':=dj c
  left;intro p hp;let⟨m,hm,he⟩:=menu (ns:=[61,4,4,2,3,3,4,5]) (r:=way-1) (by lia) (by show way-1<8;lia);left;show Ep AE he ?_;let Vb:0<m∧m≤61:=by
   simp only[aah,BI,D7]at hm;lia
  left;show Ψ2 a m ⟨rfl,jk.new hp,Vb.1,by lia,λr Γ2 r0 r1 il k2=>?_⟩;show Lx il ((k1.kq.trans (.new hp _)).trans k2.kq) λΓ3 ik k3=>q r Γ3 r0 (by lia) ik k3
@[reducible]def S2:Stmt:=Bk 48
def aaL:BA ["kind"] ["kind"] (B4 S2):=Bm
mutual
def Fb:Kd→Int
 |.num _=>1
 |.text=>1
 |.row k=>1+Fb k
 |.rec_ fs=>(Ew fs).sum
 |.pick fs=>(Ew fs).sum
def Ew:List (Str×Kd)→List Int
 |[]=>[]
 |(_,k)::r=>Fb k::Ew r
end
def Kf:∀fs:List (Str×Kd),Ew fs=fs.map λp=>Fb p.2
 |[]=>rfl
 |(_,k)::r=>by rw[Ew,Kf r];rfl
mutual
theorem Yb:∀k:Kd,k.good→1≤Fb k∧Fb k≤7^k.depth
 |.num w,_=>by rw[Fb,Kd.depth];show⟨by decide,by decide⟩
 |.text,_=>by rw[Fb,Kd.depth];show⟨by decide,by decide⟩
 |.row k,g=>by
  unfold Kd.good at g;let h:=Yb k g;rw[Fb,Kd.depth,Gh];have:=KZ k.depth;lia
 |.rec_ fs,g=>by
  unfold Kd.good at g;rw[Fb,Kd.depth,Gh];let h:=sum_in (Ti fs g.1);let hl:(Ew fs).length=fs.length:=by rw[Kf,Ac]
  rw[hl]at h;let h6:(fs.length:Int)*7^B6 fs≤6*7^B6 fs:=TK (by lia) (by have:=KZ (B6 fs);lia);have:=KZ (B6 fs);lia
 |.pick fs,g=>by
  unfold Kd.good at g;rw[Fb,Kd.depth,Gh];let h:=sum_in (Ti fs g.1);let hl:(Ew fs).length=fs.length:=by rw[Kf,Ac]
  rw[hl]at h;let h6:(fs.length:Int)*7^B6 fs≤6*7^B6 fs:=TK (by lia) (by have:=KZ (B6 fs);lia);have:=KZ (B6 fs);lia
theorem Ti:∀fs:List (Str×Kd),Dl fs→∀x∈Ew fs,1≤x∧x≤7^B6 fs
 |[],_,x,h=>by rw[Ew]at h;cases h
 |(n,k)::r,g,x,h=>by
  unfold Dl at g;rw[Ew]at h;rw[B6];rcases aah.mp h with rfl|h
  ·have:=Yb k g.2.1
   show⟨this.1,Int.le_trans this.2 (b8 (RE _ _))⟩
  ·have:=Ti r g.2.2 x h
   show⟨this.1,Int.le_trans this.2 (b8 (Qh _ _))⟩
end
abbrev Ma(n:Nat):BQ:=λts Γ Z _=>∃k:Kd,ts=[k.tr]∧k.good∧k.depth<n∧Z (.int (Fb k)) Γ
def yC(F:dR K "_law_leaves" "_law_leaves" S2 f fd)(gO:AV P w K mg am "_law_leaves" m ["kind"] (Ma n))(eZ:mg "sum" = none):bB P w K mg am BJ (m+1) f fd ["kind"] (BP (Ma (n+1))):=by
 show Cb F aaL (λts Γ Z Y h=>?_) (λcA A outer s H E ts Γ Z Y hr h=>?_)
 ·let⟨k,rfl,_⟩:=h
  rfl
 let⟨k,rfl,kg,kd,q⟩:=h;show⟨_,(A9 (Ah (PW.pt (DX (Aj BH (AJ (A3 0) AB) Ai) (EK (Aj BH (AJ (A3 0) AB) Ai)))) (A9 (Af AB)
  AD) AD)
  (A9 (Ah (Aj BH (AJ (A3 0) AB) Ai) (A9 (Af (AN CI AB (AM gO hr (A4 (AJ (A3 0) AB) A8))))
  AD) AD)
  (A9 (Af (BC (aL rfl) rfl eZ SA (A4 (Ds (own:=["field"]) (cap:=[]) F2 rfl (F1 (AJ (A3 0) AB)) (λ_ _ _ _=>Hx) (λ_ _ _ _=>DF) (λ_ _ _ _=>(AM gO hr (A4 (AJ (A3 0) AB) A8)))) A8)))
  AD))),?_⟩
 simp only[BW];let fld:∀fs:List (Str×Kd),Dl fs→B6 fs<n→fs.length≤6→Z (.int (Ew fs).sum) Γ→∀(C:List T→AL→Prop),(∀Γ',C ((Ew fs).map T.int) Γ')→True:=λ_ _ _ _ _ _ _=>trivial;cases k with
 |num wd=>rw[Kd.tr];left;show Ag .refl q
 |text=>rw[Kd.tr];left;show Ag .refl q
 |row k=>
  unfold Kd.good at kg;rw[Kd.depth]at kd;rw[Kd.tr];left;show⟨k,rfl,kg,by lia,?_⟩;left;show Ag .refl q
 |rec_ fs=>
  unfold Kd.good at kg;rw[Kd.depth]at kd;rw[Kd.tr];left;show⟨by rw[Fl];show B7 (Bq (by lia)),λrest τ ys Γ'=>∃(gs hs:List (Str×Kd)) (o:Option T),τ=[o]∧rest=CE gs∧fs=hs++gs∧ys=(Ew hs).map T.int∧Γ'=Γ,?_,?_,?_⟩
  ·show Ψ3 fs [] none ⟨rfl,rfl,rfl,rfl,rfl⟩
  ·intro τ ys Γ'⟨gs,hs,o,rfl,e,e2,rfl,rfl⟩
   cases gs with
   |cons p r=>cases e
   |nil=>
    rw[Bz]at e2;subst e2;show⟨trivial,λD hD=>?_⟩;show Ψ2 D (Ew fs) ⟨rfl,As AE,?_⟩;left;show Ag (Le.new hD) q
  ·intro x r τ ys Γ'⟨gs,hs,o,rfl,e,e2,rfl,rfl⟩
   cases gs with
   |nil=>cases e
   |cons p gs=>
    obtain⟨nm,k⟩:=p;cases e;let km:(nm,k)∈fs:=by rw[e2];simp
    let dk:k.depth≤B6 fs:=DP km;left;show⟨k,rfl,DW kg.1 km,by lia,?_⟩;show Ψ3 gs (hs++[(nm,k)]) _ ⟨rfl,rfl,by rw[e2];simp,?_,rfl⟩;rw[Kf,Kf,Ao,Ao];rfl
 |pick fs=>
  unfold Kd.good at kg;rw[Kd.depth]at kd;rw[Kd.tr];left;show⟨by rw[Fl];show B7 (Bq (by lia)),λrest τ ys Γ'=>∃(gs hs:List (Str×Kd)) (o:Option T),τ=[o]∧rest=CE gs∧fs=hs++gs∧ys=(Ew hs).map T.int∧Γ'=Γ,?_,?_,?_⟩
  ·show Ψ3 fs [] none ⟨rfl,rfl,rfl,rfl,rfl⟩
  ·intro τ ys Γ'⟨gs,hs,o,rfl,e,e2,rfl,rfl⟩
   cases gs with
   |cons p r=>cases e
   |nil=>
    rw[Bz]at e2;subst e2;show⟨trivial,λD hD=>?_⟩;show Ψ2 D (Ew fs) ⟨rfl,As AE,?_⟩;left;show Ag (Le.new hD) q
  ·intro x r τ ys Γ'⟨gs,hs,o,rfl,e,e2,rfl,rfl⟩
   cases gs with
   |nil=>cases e
   |cons p gs=>
    obtain⟨nm,k⟩:=p;cases e;let km:(nm,k)∈fs:=by rw[e2];simp
    let dk:k.depth≤B6 fs:=DP km;left;show⟨k,rfl,DW kg.1 km,by lia,?_⟩;show Ψ3 gs (hs++[(nm,k)]) _ ⟨rfl,rfl,by rw[e2];simp,?_,rfl⟩;rw[Kf,Kf,Ao,Ao];rfl
end
def Gr{lo:Int}{r:List T}(h:x::r=Dr lo n):∃m,n=m+1∧x=.int lo∧r=Dr (lo+1) m:=by
 cases n with
 |zero=>cases h
 |succ m=>cases h;show⟨m,rfl,rfl,rfl⟩
def Io{lo:Int}(h:[]=Dr lo n):n=0:=by
 cases n with
 |zero=>rfl
 |succ m=>cases h
def iz(ss:List Str):(EO ss).cps.toList=(ss.map (·.cps.toList)).flatten:=rfl
def yi(h:∀z∈ss,z.cps.toList.all Dq=true):(EO ss).cps.toList.all Dq=true:=by
 rw[iz,aaE];intro c hc;let⟨l,hl,Ax⟩:=acQ.mp hc;let⟨z,hz,rfl⟩:=aau.mp hl;show aaE.mp (h z hz) c Ax
def y4(h:∀z∈ss,z.length=1):(EO ss).length=ss.length:=by
 rw[←HX,iz];induction ss with
 |nil=>rfl
 |cons x r ih=>
  rw[Ar,E9,B9,ih λz hz=>h z (ET _ hz),HX,h x Gd,BE];lia
section
@[reducible]def Od:Stmt:=Bk 49
def dU:BA ["flow","kind","room","many","each","name","below"] ["flow","kind","room"] (B4 Od):=Bm
abbrev LJ(n:Nat):BQ:=λts Γ Z _=>∃(a b:Addr) (k:Kd),ts=[.ref a,k.tr,.ref b]∧aH Γ a∧eD Γ b∧k.good∧k.depth<n∧k.depth≤12∧∀(t:T) (Γ':AL),jZ k t→aH Γ' a→eD Γ' b→Fr [a,b] Γ Γ'→Z t Γ'
def abG(F:dR K "_law_worth" "_law_worth" Od f fd)(cJ:AV P w K mg am "_law_worth" m ["flow","kind","room"] (LJ n))(ak:AV P w K mg am "_law_draw" 1 ["flow","many"] Ey)(uX:AV P w K mg am "_law_number" 2 ["flow","width"] Wl)
  (rG:AV P w K mg am "_law_many" 2 ["flow"] bz) (lT:AV P w K mg am "_law_sign" 2 ["flow"] Ow) (gO:AV P w K mg am "_law_leaves" m ["kind"] (Ma 13)) (m2:2≤m)
  (ky:mg "min" = none) (dh:mg "max" = none) (aJ:mg "range" = none) (ar:mg "tuple" = none) (aG:mg "len" = none):bB P w K mg am BJ (m+1) f fd ["flow","kind","room"] (BP (LJ (n+1))):=by
 show Cb F dU (λts Γ Z Y h=>?_) (λcA A outer s H E ts Γ Z Y hr h=>?_)
 ·let⟨a,b,k,rfl,_⟩:=h
  rfl
 let⟨a,b,k,rfl,fl,on,kg,kd,MS,q⟩:=h;show⟨_,(A9 (Ah (Aj BH (AJ (A3 1) AB) Ai) (A9 (Af (AM uX hr (A4 (A3 0) (A4 (AJ (A3 1) AB) A8))))
  AD) AD)
  (A9 (Ah (Aj BH (AJ (A3 1) AB) Ai) (A9 (Aa (i:=3) dU.nd (BC (aW rfl) rfl ky bo (A4 (AM rG hr (A4 (A3 0) A8)) (A4 (BC (Rz rfl) rfl dh Nm (A4 AB (A4 (AJ (A3 2) AB) A8))) A8))))
  (A9 (Iv (AN Fe (AJ (A3 2) AB) (A3 3)) (i5 (A3 2) AB))
  (A9 (Af (HP cS bg c8 dM Ai (A4 (Ds (own:=["k"]) (cap:=[(0,"flow")]) En rfl (HL rfl aJ (A4 (A3 3) A8)) (λ_ _ _ _=>(DT (i:=0) (show List.Nodup (["k","flow"]:List Str)from by decide +kernel) rfl (Or.inl rfl) (Or.inr rfl))) (λ_ _ _ _=>DF) (λ_ _ _ _=>(AM lT hr (A4 (A3 1) A8)))) A8)))
  AD))) AD)
  (A9 (Ah (Aj BH (AJ (A3 1) AB) Ai) (A9 (Aa (i:=4) dU.nd (AM gO hr (A4 (AJ (A3 1) AB) A8)))
  (A9 (Aa (i:=3) dU.nd (BC (aW rfl) rfl ky bo (A4 (AM rG hr (A4 (A3 0) A8)) (A4 (AN LK (BC (Rz rfl) rfl dh Nm (A4 AB (A4 (AJ (A3 2) AB) A8))) (A3 4)) A8))))
  (A9 (Iv (AN Fe (AJ (A3 2) AB) (AN GG (A3 3) (A3 4))) (i5 (A3 2) AB))
  (A9 (Af (E7 Ff rfl ar DK (A4 (Ds (own:=["k"]) (cap:=[(0,"flow"),(2,"room"),(1,"kind")]) En rfl (HL rfl aJ (A4 (A3 3) A8)) (λ_ _ _ _=>(DT (i:=0) (show List.Nodup (["k","flow","room","kind"]:List Str)from by decide +kernel) rfl (Or.inl rfl) (Or.inr rfl))) (λ_ _ _ _=>DF) (λ_ _ _ _=>(AM cJ hr (A4 (A3 1) (A4 (AJ (A3 3) AB) (A4 (A3 2) A8)))))) A8)))
  AD)))) AD)
  (A9 (Ah (Aj BH (AJ (A3 1) AB) Ai) (A9 (Iv (AJ (AJ (A3 1) AB) (AM ak hr (A4 (A3 0) (A4 (BC Cv rfl aG Cd (A4 (AJ (A3 1) AB) A8)) A8)))) (GK (n:=2) rfl (DZ (DE (i:=5) dU.nd) (DZ (DE (i:=6) dU.nd) Ga))))
  (A9 (Af (Bf (A4 (A3 5) (A4 (AM cJ hr (A4 (A3 0) (A4 (A3 6) (A4 (A3 2) A8)))) A8))))
  AD)) AD)
  (A9 (Af (E7 Ff rfl ar DK (A4 (Ds (own:=["field"]) (cap:=[(0,"flow"),(2,"room")]) En rfl (F1 (AJ (A3 1) AB)) (λ_ _ _ _=>(DT (i:=0) (show List.Nodup (["field","flow","room"]:List Str)from by decide +kernel) rfl (Or.inl rfl) (Or.inr rfl))) (λ_ _ _ _=>DF) (λ_ _ _ _=>(AM cJ hr (A4 (A3 1) (A4 (AJ (A3 0) AB) (A4 (A3 2) A8)))))) A8)))
  AD))))),?_⟩
 simp only[BW];let N1:b≠a:=eD.ne fl on;let xG:b∉[a]:=by simpa using N1
 let up1:∀{Γ1 Γ2:AL},Kq [a] Γ1 Γ2→Kq [a,b] Γ1 Γ2:=λk=>k.mono (by simp);let fin:∀{t:T} {Γ':AL},jZ k t→aH Γ' a→eD Γ' b→Kq [a,b] Γ Γ'→E3 Z t Γ':=λh1 h2 h3 h4=>tE h2 h3 h4 λΓ2 a1 a2 a3=>q _ Γ2 h1 a1 a2 a3;cases k with
 |num wd=>
  unfold Kd.good at kg;obtain⟨nn,rfl⟩:∃nn:Nat,wd=nn:=⟨wd.toNat,by lia⟩;rw[Kd.tr];left;show Ψ2 a nn ⟨rfl,fl,by lia,by lia,λi Γ1 i0 i1 jk k1=>?_⟩;show fin (.num i0 i1) jk (on.fr k1 xG) (up1 k1.kq)
 |text=>
  rw[Kd.tr];left;show⟨a,rfl,fl,λmm Γ1 m0 WJ jk k1=>?_⟩;let⟨r,Zc⟩:=on.fr k1 xG;left;obtain⟨M,hM,M0,M60⟩:∃M:Int,(if(if r>0 then r else 0)<mm then(if r>0 then r else 0)else mm)=M∧0≤M∧M≤60:=⟨_,rfl,by split<;>split<;>lia,by split<;>lia⟩
  rw[hM];show⟨M,rfl,by lia,by lia,by rw[Gs];show B7 (Bq (by lia)),λrest τ ys Γ'=>∃(lo:Int) (c:Nat) (o:Option T) (ss:List Str),τ=[o,some (.ref a)]∧rest=Dr lo c∧ys=ss.map T.str∧ss.length+c=M.toNat∧(∀z∈ss,z.length=1∧z.cps.toList.all Dq=true)∧aH Γ' a∧eD Γ' b∧Kq [a,b] Γ Γ',?_,?_,?_⟩
  ·show Ψ4 0 _ none [] ⟨rfl,rfl,rfl,by simp,(λz hz=>nomatch hz),jk.up N1.symm,⟨_,AE⟩,(up1 k1.kq).trans (.set (by simp) _)⟩
  ·intro τ ys Γ'⟨lo,c,o,ss,rfl,e,rfl,sl,sb,pR,By,k'⟩
   let hc:=Io e;show⟨trivial,λD hD=>?_⟩;show Ψ2 D ss ⟨rfl,rfl,As AE,by lia,λy hy=>by rw[(sb y hy).1];decide,?_⟩;show fin (.text ?_ (yi λz hz=>(sb z hz).2)) (pR.new hD) (By.kq (l:=[]) (.new hD _) (by simp)) (k'.trans (.new hD _));rw[y4 λz hz=>(sb z hz).1];lia
  ·intro x rr τ ys Γ'⟨lo,c,o,ss,rfl,e,rfl,sl,sb,pR,By,k'⟩
   let⟨c',rfl,rfl,rfl⟩:=Gr e;left;show⟨a,rfl,pR,λz Γ3 zl zc ik k3=>?_⟩;show Ψ4 (lo+1) c' _ (ss++[z]) ⟨rfl,rfl,by rw[Ao];rfl,by rw[B9];simp;lia,λy hy=>?_,ik,By.fr k3 xG,k'.trans (up1 k3.kq)⟩;rcases aaC.mp hy with h|h
   ·show sb y h
   ·rw[aat.mp h];show⟨zl,zc⟩
 |row k=>
  unfold Kd.good at kg;rw[Kd.depth]at kd MS;rw[Kd.tr];left;show⟨k,rfl,kg,by lia,?_⟩;let lv:=Yb k kg;let XB:Fb k<2^200:=by
   let h1:=b8 (show k.depth≤12 by lia);let h2:(7:Int)^12<2^200:=by decide
   lia
  generalize Fb k=ea at lv XB ⊢;left;show⟨a,rfl,fl,λmm Γ1 m0 WJ jk k1=>?_⟩;let⟨r,Zc⟩:=on.fr k1 xG;left;show G4 ⟨by lia,XB⟩ ?_;left;obtain⟨R,hR,R0⟩:∃R:Int,(if r>0 then r else 0)/ea=R∧0≤R:=⟨_,rfl,Int.ediv_nonneg (by split<;>lia) (by lia)⟩
  obtain⟨M,hM,M0,M60⟩:∃M:Int,(if(if r>0 then r else 0)/ea<mm then(if r>0 then r else 0)/ea else mm)=M∧0≤M∧M≤60:=⟨_,rfl,by rw[hR];split<;>lia,by rw[hR];split<;>lia⟩
  rw[hM];show G4 (.inl ⟨by lia,by lia⟩) ?_;left;show⟨M,rfl,by lia,by lia,by rw[Gs];show B7 (Bq (by lia)),λrest τ ys Γ'=>∃(lo:Int) (c:Nat) (o:Option T),τ=[o,some (.ref a),some (.ref b),some (.tup [.str "row",k.tr])]∧rest=Dr lo c∧ys.length+c=M.toNat∧(∀t∈ys,jZ k t)∧aH Γ' a∧eD Γ' b∧Kq [a,b] Γ Γ',?_,?_,?_⟩
  ·show Ψ3 0 _ none ⟨rfl,rfl,by simp,(λz hz=>nomatch hz),jk.up N1.symm,⟨_,AE⟩,(up1 k1.kq).trans (.set (by simp) _)⟩
  ·intro τ ys Γ'⟨lo,c,o,rfl,e,sl,sb,pR,By,k'⟩
   let hc:=Io e;show⟨trivial,λD hD=>?_⟩;show G5 AE ?_;show fin (.row (by lia) sb) (pR.new hD) (By.kq (l:=[]) (.new hD _) (by simp)) (k'.trans (.new hD _))
  ·intro x rr τ ys Γ'⟨lo,c,o,rfl,e,sl,sb,pR,By,k'⟩
   let⟨c',rfl,rfl,rfl⟩:=Gr e;left;show Ψ3 a b k ⟨rfl,pR,By,kg,by lia,by lia,λt Γ3 ht ik NT k3=>?_⟩;show Ψ3 (lo+1) c' _ ⟨rfl,rfl,by rw[B9];simp;lia,λy hy=>?_,ik,NT,k'.trans k3.kq⟩;rcases aaC.mp hy with h|h
   ·show sb y h
   ·rw[aat.mp h];show ht
 |pick fs=>
  unfold Kd.good at kg;rw[Kd.depth]at kd MS;rw[Kd.tr];left;show Ψ2 a _ ⟨rfl,fl,by rw[Fl];lia,by rw[Fl];have:=kg.2.2.1;lia,λr Γ1 r0 r1 jk k1=>?_⟩;obtain⟨j,rfl⟩:∃j:Nat,r=j:=⟨r.toNat,by lia⟩;let hj:j<fs.length:=by rw[Fl]at r1;lia
  obtain⟨⟨nm,k⟩,hp⟩:∃p,fs[j]?=some p:=⟨fs[j],by simp[hj]⟩;show FK (Hw hp) ?_;let km:=CQ hp;let dk:k.depth≤B6 fs:=DP km;left;show Ψ3 a b k ⟨rfl,jk,on.fr k1 xG,DW kg.1 km,by lia,by lia,λt Γ3 ht ik NT k3=>?_⟩;left;show fin (.pick (Pa kg.2.2.2 hp) ht) ik NT ((up1 k1.kq).trans k3.kq)
 |rec_ fs=>
  unfold Kd.good at kg;rw[Kd.depth]at kd MS;rw[Kd.tr];left;show⟨by rw[Fl];show B7 (Bq (by lia)),λrest τ ys Γ'=>∃(gs hs:List (Str×Kd)) (o:Option T),τ=[o,some (.ref a),some (.ref b)]∧rest=CE gs∧fs=hs++gs∧ys.length=hs.length∧(∀(j:Nat) (nm:Str) (k:Kd) (t:T),hs[j]?=some (nm,k)→ys[j]?=some t→jZ k t)∧aH Γ' a∧eD Γ' b∧Kq [a,b] Γ Γ',?_,?_,?_⟩
  ·show Ψ3 fs [] none ⟨rfl,rfl,rfl,rfl,(λj nm k t h=>by simp at h),fl,on,.refl⟩
  ·intro τ ys Γ'⟨gs,hs,o,rfl,e,e2,sl,sb,pR,By,k'⟩
   cases gs with
   |cons p r=>cases e
   |nil=>
    rw[Bz]at e2;subst e2;show⟨trivial,λD hD=>?_⟩;show G5 AE ?_;show fin (.rec_ sl sb) (pR.new hD) (By.kq (l:=[]) (.new hD _) (by simp)) (k'.trans (.new hD _))
  ·intro x rr τ ys Γ'⟨gs,hs,o,rfl,e,e2,sl,sb,pR,By,k'⟩
   cases gs with
   |nil=>cases e
   |cons p gs=>
    obtain⟨nm,k⟩:=p;cases e;let km:(nm,k)∈fs:=by rw[e2];simp
    let dk:k.depth≤B6 fs:=DP km;left;show Ψ3 a b k ⟨rfl,pR,By,DW kg.1 km,by lia,by lia,λt Γ3 ht ik NT k3=>?_⟩;show Ψ3 gs (hs++[(nm,k)]) _ ⟨rfl,rfl,by rw[e2];simp,by rw[B9,B9,sl];rfl,λj IC k' t' h1 h2=>?_,ik,NT,k'.trans k3.kq⟩;by_cases hj:j<hs.length
    ·rw[G3 hj]at h1
     rw[G3 (by lia)]at h2;show sb j IC k' t' h1 h2
    ·rw[Fi (by lia)]at h1
     rw[Fi (by lia),sl]at h2;cases jj:j-hs.length with
     |zero=>rw[jj]at h1 h2;cases h1;cases h2;show ht
     |succ i=>rw[jj]at h1;simp at h1
end
def LR{H:A7}:∀{ns:List Str} {vs:List V},Rs H vs (ns.map T.str)→vs=ns.map V.str
 |[],vs,h=>DI h
 |n::r,vs,h=>by
  let⟨v,ws,rfl,a,b⟩:=DG h;rw[EH a,LR b];rfl
def qj:∀{gs:List (Str×Kd)} {D:Nat},(∀p∈gs,F3 p.1∧p.2.good∧p.2.depth≤D)→Dl gs∧B6 gs≤D
 |[],D,h=>by unfold Dl B6;show⟨trivial,CV _⟩
 |(m,k)::r,D,h=>by
  let⟨a,b⟩:=qj (gs:=r) (D:=D) λp hp=>h p (by simp[hp]);let⟨x,y,z⟩:=h (m,k) (by simp);unfold Dl B6;show⟨⟨x,y,a⟩,by have z:k.depth≤D:=z;lia⟩
def Fd{Γ4 Γ5:AL}{o:O}(k:Kq [a] Γ Γ4)(hb:Γ4 b=none)(f:Fr [a,b] (up Γ4 b o) Γ5):Kq [a] Γ Γ5:=λx u n e=>by
 let e4:=k x u n e;let nb:=CL e4 hb;rw[f x (by simp only[aah,BI,D7]at n ⊢;exactλh=>h.elim n nb),B8 nb];show e4
def rep1(t:T)(n:Nat):(List.replicate n [t]).flatten=List.replicate n t:=by
 induction n with
 |zero=>rfl
 |succ n ih=>rw[Gg,E9,ih];rfl
section
abbrev Pq:BQ:=λts Γ Z _=>∃(a b:Addr) (ss:List Str),ts=[.ref a,.ref b]∧aH Γ a∧Γ b=some (.lst (ss.map T.str))∧ss.length≤6∧(∀z∈ss,F3 z)∧∀(z:Str) (Γ':AL),F3 z→z∉ss→aH Γ' a→Fr [a] Γ Γ'→Z (.str z) Γ'
def uJ{k:Nat}(c:Callee P w K mg am "_law_name" k ["flow","taken"] NP):AV P w K mg am "_law_name" k ["flow","taken"] Pq:=
 c.imp λvs H Q E ⟨ts,Γ,Z,Y,r,hr,⟨a,b,ss,e,fl,gb,s6,nm,q⟩,vr,xr⟩=>by
  subst e;let⟨v,w,rfl,r1,r2⟩:=xC r;let⟨us,MW,Ua⟩:=hr b _ gb;rw[LR Ua]at MW;show Ψ3 a b ss ⟨by rw[CH r1,CH r2],R1 hr fl,MW,s6,nm,λz H' nz ni pR k=>?_⟩;let⟨f0,f1,f2,e',b'⟩:=pR;let⟨g0,g1,g2,eg,_⟩:=fl;let fr:Fr [a] Γ (up Γ a (.lst [.int f0,.int f1,.int f2])):=.set (by simp) _;let⟨s,IV⟩:=cq hr k (λb hb=>by rw[aat.mp hb];show Ψ3 _ _ _ ⟨eg,e',J0 [f0,f1,f2],AE⟩) fr;show vr _ _ H' _ s IV Em (q z _ nz ni ⟨f0,f1,f2,AE,b'⟩ fr)
@[reducible]def Yg:Stmt:=Bk 50
def dX:BA ["flow","word","within","names","k","kind"] ["flow"] (B4 Yg):=Bm
abbrev qW:BQ:=λts Γ Z _=>∃a:Addr,ts=[.ref a]∧aH Γ a∧∀(k:Kd) (Γ':AL),k.good→k.depth≤5→aH Γ' a→Fr [a] Γ Γ'→Z k.tr Γ'
def aeM(F:dR K "_law_broad" "_law_broad" Yg f fd)(ak:AV P w K mg am "_law_draw" 1 ["flow","many"] Ey)(lU:AV P w K mg am "_law_name" 2 ["flow","taken"] Pq)(eP:AV P w K mg am "_law_kind" 12 ["flow","depth","room"] (Yj 10))(aJ:mg "range" = none)(ar:mg "tuple" = none):bB P w K mg am BJ 13 f fd ["flow"] (BP qW):=by
 show Cb F dX (λts Γ Z Y h=>?_) (λcA A outer s H E ts Γ Z Y hr h=>?_)
 ·let⟨a,rfl,_⟩:=h
  rfl
 let⟨a,rfl,fl,q⟩:=h;show⟨_,(A9 (Aa (i:=1) dX.nd (AJ (BL (A4 Ai (A4 Ai A8))) (AM ak hr (A4 (A3 0) (A4 AB A8)))))
  (A9 (Aa (i:=2) dX.nd (Eo BH (AM ak hr (A4 (A3 0) (A4 AB A8))) AB))
  (A9 (Aa (i:=3) dX.nd (BL A8))
  (A9 (G6 F8 rfl (HL rfl aJ (A4 (AN CI AB (AM ak hr (A4 (A3 0) (A4 AB A8)))) A8)) (DE (i:=4) dX.nd) (A9 (LG (HP HS LQ L0 Rp (A3 3) (A4 (AM lU hr (A4 (A3 0) (A4 (A3 3) A8))) A8)))
  AD))
  (A9 (Aa (i:=5) dX.nd (Bf (A4 (A3 1) (A4 (E7 Ff rfl ar DK (A4 (Ds (own:=["name"]) (cap:=[(0,"flow")]) En rfl (Fj (A3 3)) (λ_ _ _ _=>(DT (i:=0) (show List.Nodup (["name","flow"]:List Str)from by decide +kernel) rfl (Or.inl rfl) (Or.inr rfl))) (λ_ _ _ _=>DF) (λ_ _ _ _=>(Bf (A4 (A3 0) (A4 (AM eP hr (A4 (A3 1) (A4 AB (A4 (BL (A4 AB A8)) A8)))) A8))))) A8)) A8))))
  (A9 (Ah (Bu (A3 2)) (A9 (Af (Bf (A4 Ai (A4 (A3 5) A8))))
  AD) AD)
  (A9 (Af (A3 5))
  AD))))))),?_⟩
 simp only[BW];left;intro L hL;left;show Ψ2 a 2 ⟨rfl,fl.new hL,by decide,by decide,λr Γ1 r0 r1 jk k1=>?_⟩;obtain⟨wd,Y3,hx⟩:∃wd:Str,(wd = "rec" ∨ wd = "pick")∧Bw [T.str "rec",T.str "pick"] r=some (.str wd):=by
  have:r=0∨r=1:=by lia
  rcases this with rfl|rfl
  ·show⟨_,.inl rfl,rfl⟩
  ·show⟨_,.inr rfl,rfl⟩
 let WR:Kq [a] Γ Γ1:=(Kq.new hL _).trans k1.kq;show Ep (by rw[k1 L (by simpa using fl.nn hL)];show AE) hx ?_;left;show Ψ2 a 3 ⟨rfl,jk,by decide,by decide,λr2 Γ2 Ka J9 il k2=>?_⟩;left;intro N hN;left;show Ψ2 a 4 ⟨rfl,il.new hN,by decide,by decide,λr3 Γ3 RT RQ ik k3=>?_⟩;left;let nN:=il.nn hN;obtain⟨n,hn⟩:∃n:Nat,3+r3=n:=⟨(3+r3).toNat,by lia⟩;let n6:3≤n∧n≤6:=by lia
 rw[hn];let YJ:Kq [a] Γ Γ3:=((WR.trans k2.kq).trans (.new hN _)).trans k3.kq;let bN:Γ N=none:=by
  cases e:Γ N with
  |none=>rfl
  |some o=>have:=(WR.trans k2.kq) N o (by simpa using nN) e;rw[hN]at this;cases this
 let g3:Γ3 N=some (.lst []):=by rw[k3 N (by simpa using nN)];show AE
 show⟨n,rfl,by lia,by lia,?_⟩;show⟨λrest τ Γ'=>∃(i c:Nat) (ss:List Str) (o4:Option T),rest=Dr i c∧i+c=n∧τ=[some (.ref a),some (.str wd),some (.bl (decide (V.int r2=V.int 0))),some (.ref N),o4,none]∧ss.length=i∧(∀z∈ss,F3 z)∧ss.Nodup∧Γ' N=some (.lst (ss.map T.str))∧aH Γ' a∧Kq [a] Γ Γ',?_,?_,?_⟩
 ·show Ψ4 0 n [] none ⟨rfl,by lia,rfl,rfl,λ_ h=>(nomatch h),List.nodup_nil,g3,ik,YJ⟩
 rotate_left
 ·intro x rr τ Γ'⟨i,c,ss,o4,er,ic,rfl,sl,RP,snd,gN,pR,UC⟩
  let⟨c',rfl,rfl,rfl⟩:=Gr er;left;show HI gN ?_;left;show Ψ3 a N ss ⟨rfl,pR,gN,by lia,RP,λz Γ4 nz ni m9 k4=>?_⟩;let Nj:Γ4 N=some (.lst (ss.map T.str)):=by rw[k4 N (by simpa using nN)];show gN
  left;show Ψ3 N _ _ ⟨rfl,rfl,Nj,Bq (by rw[Ac];lia),?_⟩;left;show Ψ4 (ss.length+1) c' (ss++[z]) _ ⟨by rw[sl];rfl,by lia,rfl,by rw[B9];rfl,λz' hz=>?_,?_,by rw[Ao];show AE,m9.up nN.symm,(UC.trans k4.kq).DQ bN _⟩
  ·rcases aaC.mp hz with hz|hz
   ·show RP z' hz
   ·rw[aat.mp hz];show nz
  ·rw[ND]
   show⟨snd,by simp,λx hx y hy e=>ni ?_⟩;rw[aat]at hy;rw[←hy,←e];show hx
 intro τ Γ'⟨i,c,ss,o4,er,ic,rfl,sl,RP,snd,gN,pR,UC⟩;show⟨trivial,?_⟩;let Vq:c=0:=by
  cases c with
  |zero=>rfl
  |succ c=>cases er
 subst Vq;left;show Ψ2 N _ ⟨rfl,As gN,B7 (Bq (by rw[Ac];lia)),?_⟩;show⟨λrest τ ys Γ2=>∃(gs:al) (rs:List Str) (o0:Option T),rest=rs.map T.str∧τ=[o0,some (.ref a)]∧ss=gs.map (·.1)++rs∧ys=CE gs∧(∀p∈gs,p.2.good∧p.2.depth≤2)∧Γ2 N=some (.lst (ss.map T.str))∧aH Γ2 a∧Kq [a] Γ Γ2,Ψ3 [] ss none ⟨rfl,rfl,rfl,rfl,λ_ h=>(nomatch h),gN,pR,UC⟩,?_,?_⟩
 ·intro τ ys Γ4⟨gs,rs,o0,Jf,rfl,es,rfl,hg,Nj,m9,UB⟩
  let UX:rs=[]:=by
   cases rs with
   |nil=>rfl
   |cons _ _=>cases Jf
  subst UX;rw[Bz]at es;show⟨As Nj,λD hD=>?_⟩;left;show Ψ2 _ _ ⟨rfl,As AE,?_⟩;left;let gl:gs.length=n:=by rw[←sl,es,Ac]at ic;lia
  let⟨gF,dF⟩:=qj (gs:=gs) (D:=2) (λp hp=>⟨RP _ (by rw[es];show aau.mpr ⟨p,hp,rfl⟩),hg p hp⟩);let nd:(gs.map (·.1)).Nodup:=by rw[←es];show snd
  let l5:=m9.new (o:=.lst (CE gs)) hD;let WQ:Kq [a] Γ (up Γ4 D (.lst (CE gs))):=UB.trans (.new hD _);obtain⟨kk,ek,kg,kd⟩:∃kk:Kd,T.tup [.str wd,.tup (CE gs)]=kk.tr∧kk.good∧kk.depth≤3:=by
   rcases Y3 with rfl|rfl
   ·show⟨.rec_ gs,by rw[Kd.tr],by unfold Kd.good;show⟨gF,by lia,by lia,nd⟩,by rw[Kd.depth];lia⟩
   ·show⟨.pick gs,by rw[Kd.tr],by unfold Kd.good;show⟨gF,by lia,by lia,nd⟩,by rw[Kd.depth];lia⟩
  rw[ek];show B5 (λc=>?_) (λc=>?_)
  ·left
   show Lx l5 WQ λΓ6 oN k6=>?_;have:=q (.row kk) Γ6 (by unfold Kd.good;show kg) (by rw[Kd.depth];lia) oN k6;rw[Kd.tr]at this;show this
  ·left
   show Lx l5 WQ λΓ6 oN k6=>q kk Γ6 kg (by lia) oN k6
 ·intro x rr τ ys Γ4⟨gs,rs,o0,Jf,rfl,es,rfl,hg,Nj,m9,UB⟩
  cases rs with
  |nil=>cases Jf
  |cons z rs=>
   cases Jf;show⟨As Nj,?_⟩;left;intro b hb;left;show Ψ3 a b 2 ⟨rfl,m9.new hb,⟨0,AE⟩,by decide,by decide,by decide,λk3 Γ6 YM YQ oN Qf k6=>?_⟩;let ZU:Γ6 N=some (.lst (ss.map T.str)):=by
    let nb:=CL Nj hb;rw[k6 N (by simp[nN,nb]),B8 nb];show Nj
   left;show Ψ3 (gs++[(z,k3)]) rs _ ⟨rfl,rfl,by rw[es];simp,by rw[wo];rfl,λp hp=>?_,ZU,oN,Fd UB hb k6⟩;rcases aaC.mp hp with hp|hp
   ·show hg p hp
   ·rw[aat.mp hp];show⟨YM,by have:(k3.depth:Int)≤2:=YQ;show k3.depth≤2;lia⟩
end
def wu(vs:List V)(H:A7)(Q:Au)(E:BF)(h:NP vs H Q E):BP Pq vs H Q E:=by
 let⟨a,b,ss,rfl,⟨f0,f1,f2,ea,fb⟩,hb,s6,nm,q⟩:=h;let ab:b≠a:=Flow.ne ⟨f0,f1,f2,ea,fb⟩ hb;let ga:(if a=a then some (O.lst [.int f0,.int f1,.int f2])else if a=b then some (O.lst (ss.map T.str))else none)=some (O.lst [.int f0,.int f1,.int f2]):=AI rfl;let gb:(if b=a then some (O.lst [.int f0,.int f1,.int f2])else if b=b then some (O.lst (ss.map T.str))else none)=some (O.lst (ss.map T.str)):=by rw[AH ab,AI rfl]
 show Ψ4 [.ref a,.ref b] (λc=>if c=a then some (.lst [.int f0,.int f1,.int f2])else if c=b then some (.lst (ss.map T.str))else none) (λx Γ'=>∃z,x=.str z∧F3 z∧z∉ss∧aH Γ' a∧Γ' b=some (.lst (ss.map T.str))) (λ_ _=>False) ⟨CS EV (CS EV D3),λc o h=>?_,Ψ3 a b ss ⟨rfl,Ψ3 f0 f1 f2 ⟨ga,fb⟩,gb,s6,nm,λz Γ' nz ni fl k=>⟨z,rfl,nz,ni,fl,by rw[k b (by simpa using ab)];show gb⟩⟩,λv x H' Γ' s h' r z=>?_,λ_ _ _ _ _ z=>z.elim⟩
 ·dsimp only at h
  by_cases e:c=a
  ·rw[AI e]at h
   cases h;rw[e];show⟨_,ea,J0 [f0,f1,f2]⟩
  ·rw[AH e]at h
   by_cases e2:c=b
   ·rw[AI e2]at h
    cases h;rw[e2];show⟨_,hb,fJ ss⟩
   ·rw[AH e2]at h
    cases h
 ·obtain⟨z,rfl,nz,ni,fl,ZR⟩:=z
  rw[EH r];show q z H' nz ni (R1 h' fl) λc o hc ho=>?_;by_cases e2:c=b
  ·let⟨us,MW,Ua⟩:=h' b _ ZR
   rw[LR Ua]at MW;rw[e2]at ho ⊢;rw[hb]at ho;cases ho;show MW
  ·show s.CB c o ho (by show(if c=a then _ else if c=b then _ else none)=none;rw[AH (by simpa using hc),AH e2])
def zI(z:Str)(r:List Str):EO (z::r)=z++EO r:=by
 apply UH
 rw[cO];simp[EO]
def rR{α:Type}(qs:List α)(p:α):Bw (qs++[p]) (-1)=some p:=by
 unfold Bw FN;rw[AH (by decide),AI (by rw[B9];show -((qs.length+1:Nat):Int)≤-1;lia)];show(qs++[p])[(-1+((qs++[p]).length:Int)).toNat]?=_
 rw[show(-1+((qs++[p]).length:Int)).toNat=qs.length by rw[B9];show(-1+((qs.length+1:Nat):Int)).toNat=qs.length;lia];simp
def oJ:∀{ss:List Str},(∀z∈ss,z.length=1∧Lets z)→(EO ss).length=ss.length∧Lets (EO ss)
 |[],_=>⟨rfl,λc hc=>nomatch (show c∈([]:List Nat)from hc)⟩
 |z::r,h=>by
  let⟨a,b⟩:=oJ (ss:=r) λy hy=>h y (by simp[hy]);let⟨c,d⟩:=h z (by simp);rw[zI];show⟨by rw[ae,a,c,BE];lia,d.app b⟩
section
def yJ(F:dR K "_law_name" "_law_name" PF f fd)(ak:AV P w K mg am "_law_draw" 1 ["flow","many"] Ey)(aJ:mg "range" = none)(aG:mg "len" = none):bB P w K mg am BJ 2 f fd ["flow","taken"] (BP Pq):=by
 show Cb F h8 (λts Γ Z Y h=>?_) (λcA A outer s H E ts Γ Z Y hr h=>?_)
 ·let⟨a,b,ss,rfl,_⟩:=h
  rfl
 let⟨a,b,ss,rfl,fl,gb,s6,nm,q⟩:=h;show⟨_,(A9 (Aa (i:=2) h8.nd (HP cS bg c8 dM Ai (A4 (Ds (own:=["k"]) (cap:=[(0,"flow")]) En rfl (HL rfl aJ (A4 (AN CI AB (AM ak hr (A4 (A3 0) (A4 AB A8)))) A8)) (λ_ _ _ _=>(DT (i:=0) (show List.Nodup (["k","flow"]:List Str)from by decide +kernel) rfl (Or.inl rfl) (Or.inr rfl))) (λ_ _ _ _=>DF) (λ_ _ _ _=>(Yi Ai (AM ak hr (A4 (A3 1) (A4 AB A8)))))) A8)))
  (A9 (Ek (Ah (PW.pt (Iu (Aj (fS hr.kP) (A3 1) (BL A8)) (LM (Aj BH (AM ak hr (A4 (A3 0) (A4 AB A8))) AB)))) (A9 (Aa (i:=2) h8.nd (Ck dq (AN aeL (Ck dq (AJ (A3 1) (FP AB)) DM (CN (AM ak hr (A4 (A3 0) (A4 (AN CI (BC wY rfl aG Cd (A4 (AJ (A3 1) (FP AB)) A8)) AB) A8))))) (A3 2)) DM (CN AB)))
  AD) AD))
  (A9 (Rf (i:=3) (own:=["one"]) (cap:=[(1,"taken")]) En rfl (Fj (BL (A4 (A3 2) (A4 Ai (A4 Ai (A4 Ai (A4 Ai (A4 Ai (A4 Ai (A4 Ai A8)))))))))) (λ_ _ _ _=>(DT (i:=0) (show List.Nodup (["one","taken"]:List Str)from by decide +kernel) rfl (Or.inl rfl) (Or.inr rfl))) (λ_ _ _ _=>(tH (Up aaF (A3 0) (A3 1) (by with_unfolding_all rfl)))) (λ_ _ _ _=>(A3 0)) h8.nd rfl rfl)
  (A9 (Af (AJ (A3 3) AB))
  AD)))),?_⟩
 simp only[BW];let ab:b≠a:=λe=>by
  let⟨f0,f1,f2,ea,_⟩:=fl;rw[e,ea]at gb;have:=O.lst.inj (EC gb);cases ss with
  |nil=>cases this
  |cons x r=>cases this
 left;show Ψ2 a 8 ⟨rfl,fl,by decide,by decide,λr Γ1 r0 r1 jk k1=>?_⟩;left;show⟨_,rfl,by lia,by lia,B7 (Bq (by rw[Gs];lia)),λrest τ ys Γ'=>∃(lo:Int) (c:Nat) (o:Option T) (zs:List Str),rest=Dr lo c∧c+zs.length=(1+r).toNat∧τ=[o,some (.ref a)]∧ys=zs.map T.str∧(∀z∈zs,z.length=1∧Lets z)∧aH Γ' a∧Fr [a] Γ Γ',Ψ4 0 _ none [] ⟨rfl,by simp,rfl,rfl,λz h=>absurd h BI,jk,k1⟩,?_,?_⟩
 ·intro τ ys Γ2⟨lo,c,o,zs,er,ec,rfl,rfl,hz,il,k2⟩
  let hc:=Io er;subst hc;show⟨trivial,λD hD=>?_⟩;left;let⟨lz,lt⟩:=oJ hz;show Ψ2 D zs ⟨rfl,rfl,As AE,by lia,λy hy=>by rw[(hz y hy).1];decide,?_⟩;let nz:F3 (EO zs):=⟨by lia,by lia,lt⟩;let ik:=il.new (o:=.lst (zs.map T.str)) hD;let k3:Kq [a] Γ (up Γ2 D (.lst (zs.map T.str))):=k2.kq.trans (.new hD _);generalize up Γ2 D (.lst (zs.map T.str))=Γ3 at ik k3 ⊢;generalize EO zs=Wy at nz;let Xr:=k3 b _ (by simpa using ab) gb;left;show⟨λτ' Γ'=>∃z:Str,F3 z∧τ'=[some (.ref a),some (.ref b),some (.str z),none]∧aH Γ' a∧Kq [a] Γ Γ',?_,?_⟩
  ·left
   intro p hp;show Ψ3 b p _ ⟨rfl,rfl,by rw[B8 (CL Xr hp)];show Xr,AE,?_⟩;left;let m9:=ik.new (o:=.lst []) hp;let k4:Kq [a] Γ (up Γ3 p (.lst [])):=k3.trans (.new hp _);let Vx:up Γ3 p (.lst []) b=_:=k4 b _ (by simpa using ab) gb;generalize up Γ3 p (.lst [])=Γ4 at m9 k4 Vx ⊢;show B5 (λc1=>?_) (λc1=>?_)
   ·left
    show Ψ2 a 2 ⟨rfl,m9,by decide,by decide,λr5 Γ5 _ _ l5 k5=>?_⟩;left;show B5 (λc2=>?_) (λc2=>?_)
    ·obtain⟨qs,y,es⟩:∃qs y,ss=qs++[y]:=by
      rcases Md ss with e|⟨qs,y,e⟩
      ·rw[e]at c1;cases c1
      ·show Ψ2 qs y (by rw[e,OE])
     let ny:=nm y (by rw[es];simp);let Q4:Γ5 b=some (.lst (ss.map T.str)):=by rw[k5 b (by simpa using ab)];show Vx
     let la:Bw (ss.map T.str) (-1)=some (.str y):=by rw[es,Ao];show rR _ _
     let y8:=ny.2.1;let n8:=nz.2.1;left;show Ep Q4 la ?_;left;show Ep Q4 la ?_;left;show⟨y,rfl,B7 (Bq (by lia)),?_⟩;left;show Ψ2 a _ ⟨rfl,l5,by lia,by lia,λr6 Γ6 Ys Yr oN k6=>?_⟩;show⟨r6,rfl,y,rfl,B7 (Bq (by lia)),λy2 e2=>?_⟩;let q2:=yv e2;left;show Ψ2 _ _ ⟨rfl,rfl,B7 (Bq (by lia)),?_⟩;left;show⟨B7 (Bq (by rw[ae];lia)),λy3 e3=>?_⟩;let h3:=sy (by decide:(0:Int)≤8) e3;rw[ae]at h3;left;show⟨y3,⟨by rw[h3];have:=nz.1;have:(8:Int).toNat=8:=rfl;lia,by rw[h3];have:(8:Int).toNat=8:=rfl;lia,((ny.2.2.cut e2).app nz.2.2).cut e3⟩,rfl,oN,(k4.trans k5.kq).trans k6.kq⟩
    ·left
     show⟨Wy,nz,rfl,l5,k4.trans k5.kq⟩
   ·left
    show⟨Wy,nz,rfl,m9,k4⟩
  ·intro τ Γ4⟨z,nz,rfl,m9,k4⟩
   let Vx:=k4 b _ (by simpa using ab) gb;left;intro p hp;let l5:=m9.new (o:=.lst ((z::fk).map T.str)) hp;let k5:Kq [a] Γ (up Γ4 p (.lst ((z::fk).map T.str))):=k4.trans (.new hp _);let Q4:=k5 b _ (by simpa using ab) gb;let gp:(up Γ4 p (.lst ((z::fk).map T.str))) p=some (.lst ((z::fk).map T.str)):=AE;show Ψ2 p _ ⟨rfl,As gp,B7 (Bq (by show 8≤1000;decide)),?_⟩;show RC _ _ _ _ _ _ _ _ (up Γ4 p (.lst ((z::fk).map T.str)))
   generalize up Γ4 p (.lst ((z::fk).map T.str))=Γ5 at l5 k5 Q4 gp ⊢;show⟨λrest τ ys Γ'=>∃(o:Option T) (ds cs:List Str),z::fk=ds++cs∧rest=cs.map T.str∧τ=[o,some (.ref b)]∧ys=(ds.filter λx=>!decide (x∈ss)).map T.str∧Γ'=Γ5,Ψ3 none [] _ ⟨rfl,rfl,rfl,rfl,rfl⟩,?_,?_⟩
   ·intro τ ys Γ'⟨o,ds,cs,ed,er,rfl,rfl,rfl⟩
    let hc:cs=[]:=by
     cases cs with
     |nil=>rfl
     |cons _ _=>cases er
    subst hc;rw[Bz]at ed;show⟨As gp,λD hD=>?_⟩;let⟨y,r,e,ny,ns⟩:=wI nz s6;rw[←ed,e];left;show Lx (l5.new hD) (k5.trans (.new hD _)) λΓ6 oN k6=>q y Γ6 ny ns oN k6
   ·intro x rr τ ys Γ'⟨o,ds,cs,ed,er,rfl,rfl,rfl⟩
    cases cs with
    |nil=>cases er
    |cons c cs=>
     cases er;show⟨As gp,?_⟩;left;show Ψ3 _ _ _ ⟨rfl,As Q4,Yq ss,rfl,yX ss,?_⟩;rw[AI rfl,mD];left;show B5 (λc1=>?_) (λc1=>?_)
     ·left
      show Ψ3 _ (ds++[c]) cs ⟨by rw[ed];simp,rfl,rfl,by rw[List.filter_append,Ao,List.filter_cons_of_pos (by simpa using c1)];rfl,rfl⟩
     ·show Ψ3 _ (ds++[c]) cs ⟨by rw[ed];simp,rfl,rfl,by rw[List.filter_append,List.filter_cons_of_neg (by simpa using c1),List.filter_nil,Bz],rfl⟩
 ·intro x rr τ ys Γ2⟨lo,c,o,zs,er,ec,rfl,rfl,hz,il,k2⟩
  let⟨c',rfl,rfl,rfl⟩:=Gr er;show⟨trivial,?_⟩;left;show Ψ2 a 26 ⟨rfl,il,by decide,by decide,λr3 Γ3 RT RQ ik k3=>?_⟩;let⟨cc,hc,Zy⟩:=acZ RT RQ;show Ψ3 _ _ cc ⟨rfl,rfl,(by show K1.length≤sizeLine;rw[lA];decide),hc,?_⟩;show Ψ4 (lo+1) c' _ (zs++[⟨#[cc]⟩]) ⟨rfl,by rw[B9];show c'+(zs.length+1)=_;lia,rfl,by rw[Ao];rfl,λz YY=>?_,ik,k2.trans k3⟩;rcases aaC.mp YY with h|h
  ·show hz z h
  ·rw[aat.mp h]
   show⟨rfl,λd hd=>by
    let IZ:d∈[cc]:=hd;rw[aat.mp IZ];show Zy⟩
def rE(F:dR K "_law_name" "_law_name" PF f fd)(ak:AV P w K mg am "_law_draw" 1 ["flow","many"] Ey)(aJ:mg "range" = none)(aG:mg "len" = none):bB P w K mg am BJ 2 f fd ["flow","taken"] NP:=(yJ F ak aJ aG).imp wu
@[reducible]def VT:Stmt:=Bk 51
def kD:BA ["flow","words"] ["flow"] (B4 VT):=Bm
abbrev pV:BQ:=λts Γ Z _=>∃a:Addr,ts=[.ref a]∧aH Γ a∧∀(L:Ly) (Γ':AL),aH Γ' a→Fr [a] Γ Γ'→Z L.tr Γ'
def acN(hi:i<4)(hL:ss=([L.s1,L.s2,L.s3,L.s4]:List Str).take i)(b:Bool):
  ∃(z:Str) (L':Ly),([T.str "low",T.str "high",T.str "count",T.str "end",T.str "array",T.str "chain",T.str "told",T.str "names"]:List T)[2*i+b.toNat]?=some (.str z)∧ss++[z]=([L'.s1,L'.s2,L'.s3,L'.s4]:List Str).take (i+1):=by
 subst hL;match i,hi,b with
 |0,_,false=>show Ψ2 ("low") ({L with hi:=false}) ⟨rfl,rfl⟩
 |0,_,true=>show Ψ2 ("high") ({L with hi:=true}) ⟨rfl,rfl⟩
 |1,_,false=>show Ψ2 ("count") ({L with en:=false}) ⟨rfl,rfl⟩
 |1,_,true=>show Ψ2 ("end") ({L with en:=true}) ⟨rfl,rfl⟩
 |2,_,false=>show Ψ2 ("array") ({L with ch:=false}) ⟨rfl,rfl⟩
 |2,_,true=>show Ψ2 ("chain") ({L with ch:=true}) ⟨rfl,rfl⟩
 |3,_,false=>show Ψ2 ("told") ({L with na:=false}) ⟨rfl,rfl⟩
 |3,_,true=>show Ψ2 ("names") ({L with na:=true}) ⟨rfl,rfl⟩
def aea(F:dR K "_law_laying" "_law_laying" VT f fd)(ak:AV P w K mg am "_law_draw" 1 ["flow","many"] Ey)(aJ:mg "range" = none)(ar:mg "tuple" = none):bB P w K mg am BJ 2 f fd ["flow"] (BP pV):=by
 show Cb F kD (λts Γ Z Y h=>?_) (λcA A outer s H E ts Γ Z Y hr h=>?_)
 ·let⟨a,rfl,_⟩:=h
  rfl
 let⟨a,rfl,fl,q⟩:=h;show⟨_,(A9 (Aa (i:=1) kD.nd (BL (A4 Ai (A4 Ai (A4 Ai (A4 Ai (A4 Ai (A4 Ai (A4 Ai (A4 Ai A8))))))))))
  (A9 (Af (E7 Ff rfl ar DK (A4 (Ds (own:=["k"]) (cap:=[(1,"words"),(0,"flow")]) En rfl (HL rfl aJ (A4 AB A8)) (λ_ _ _ _=>(DT (i:=0) (show List.Nodup (["k","words","flow"]:List Str)from by decide +kernel) rfl (Or.inl rfl) (Or.inr rfl))) (λ_ _ _ _=>DF) (λ_ _ _ _=>(AJ (A3 1) (AN CI (AN GG AB (A3 0)) (AM ak hr (A4 (A3 2) (A4 AB A8))))))) A8)))
  AD)),?_⟩
 simp only[BW];left;intro W hW;left;let nW:=fl.nn hW;show⟨4,rfl,by decide,by decide,?_⟩;show⟨B7 (Bq (by decide)),λrest τ ys Γ2=>∃(i c:Nat) (ss:List Str) (L:Ly) (o0:Option T),rest=Dr i c∧i+c=4∧ss=([L.s1,L.s2,L.s3,L.s4]:List Str).take i∧τ=[o0,some (.ref W),some (.ref a)]∧ys=ss.map T.str∧Γ2 W=some (.lst [.str "low",.str "high",.str "count",.str "end",.str "array",.str "chain",.str "told",.str "names"])∧aH Γ2 a∧Kq [a] Γ Γ2,Ψ5 0 4 [] ⟨true,true,true,true⟩ none ⟨rfl,rfl,rfl,rfl,rfl,AE,fl.new hW,.new hW _⟩,?_,?_⟩
 ·intro τ ys Γ2⟨i,c,ss,L,o0,er,ic,sl,rfl,rfl,gW,il,kk⟩
  let Vq:c=0:=by
   cases c with
   |zero=>rfl
   |succ c=>cases er
  subst Vq;show⟨trivial,λD hD=>?_⟩;left;show Ψ2 _ _ ⟨rfl,As AE,?_⟩;let hi:i=4:=ic;subst hi;let e:ss=[L.s1,L.s2,L.s3,L.s4]:=sl;rw[e];show Lx (il.new hD) (kk.trans (.new hD _)) λΓ3 ik k3=>q L Γ3 ik k3
 ·intro x rr τ ys Γ2⟨i,c,ss,L,o0,er,ic,sl,rfl,rfl,gW,il,kk⟩
  let⟨c',rfl,rfl,rfl⟩:=Gr er;left;show Ψ2 a 2 ⟨rfl,il,by decide,by decide,λr Γ3 r0 r1 ik k3=>?_⟩;let Xs:Γ3 W=some (.lst [.str "low",.str "high",.str "count",.str "end",.str "array",.str "chain",.str "told",.str "names"]):=by rw[k3 W (by simpa using nW)];show gW
  left;obtain⟨b,hb⟩:∃b:Bool,r=(b.toNat:Int):=by
   rcases(show r=0∨r=1 by lia)with h|h
   ·show⟨false,h⟩
   ·show⟨true,h⟩
  let⟨z,L',hz,hs⟩:=acN (by lia) sl b;let e:2*(i:Int)+r=((2*i+b.toNat:Nat):Int):=by rw[hb];lia
  rw[e];show Ep Xs (Es hz) ?_;show Ψ5 (i+1) c' (ss++[z]) L' _ ⟨rfl,by lia,hs,rfl,by rw[Ao];rfl,Xs,ik,kk.trans k3.kq⟩
end
def xY(h:L.s1 = "low"):L.hi=false:=by
 cases e:L.hi with
 |false=>rfl
 |true=>unfold Ly.s1 at h;rw[e]at h;show absurd h (by decide)
def sL(h:L.s1 ≠ "low"):L.hi=true:=by
 cases e:L.hi with
 |true=>rfl
 |false=>unfold Ly.s1 at h;rw[e]at h;show absurd rfl h
def xf(h:L.s2 = "count"):L.en=false:=by
 cases e:L.en with
 |false=>rfl
 |true=>unfold Ly.s2 at h;rw[e]at h;show absurd h (by decide)
def xR(h:L.s2 ≠ "count"):L.en=true:=by
 cases e:L.en with
 |true=>rfl
 |false=>unfold Ly.s2 at h;rw[e]at h;show absurd rfl h
def TZ(h:L.s3 = "array"):L.ch=false:=by
 cases e:L.ch with
 |false=>rfl
 |true=>unfold Ly.s3 at h;rw[e]at h;show absurd h (by decide)
def Tz(h:L.s3 ≠ "array"):L.ch=true:=by
 cases e:L.ch with
 |true=>rfl
 |false=>unfold Ly.s3 at h;rw[e]at h;show absurd rfl h
def iZ(h:L.s4 = "told"):L.na=false:=by
 cases e:L.na with
 |false=>rfl
 |true=>unfold Ly.s4 at h;rw[e]at h;show absurd h (by decide)
def kr(h:L.s4 ≠ "told"):L.na=true:=by
 cases e:L.na with
 |true=>rfl
 |false=>unfold Ly.s4 at h;rw[e]at h;show absurd rfl h
section
variable {KQ: Addr}
@[reducible]def PX:Stmt:=Bk 17
def kU:BA ["kind","head","sizes"] ["kind"] (B4 PX):=Bm
abbrev Hz(n:Nat):BQ:=λts Γ Z _=>∃k:Kd,ts=[k.tr]∧k.good∧k.depth<n∧Z (.int (AF k:Nat)) Γ
def xW(F:dR K "size_of" "size_of" PX f fd)(cC:AV P w K mg am "size_of" lv ["kind"] (Hz n))(eZ:mg "sum" = none)(dh:mg "max" = none):bB P w K mg am BJ (lv+1) f fd ["kind"] (BP (Hz (n+1))):=by
 show Cb F kU (λts Γ Z Y h=>?_) (λcA A outer s H E ts Γ Z Y hr h=>?_)
 ·let⟨k,rfl,_⟩:=h
  rfl
 let⟨k,rfl,kg,kd,q⟩:=h;show⟨_,(A9 (Aa (i:=1) kU.nd (AJ (A3 0) AB))
  (A9 (Ah (Aj BH (A3 1) Ai) (A9 (Af (AJ (A3 0) AB))
  AD) AD)
  (A9 (Ah (Up xI (A3 1) (Bf (A4 Ai (A4 Ai A8))) (by with_unfolding_all rfl)) (A9 (Af AB)
  AD) AD)
  (A9 (Rf (i:=2) (own:=["name","inner"]) (cap:=[]) F2 rfl (F1 (AJ (A3 0) AB)) (λ_ _ _ _=>(GK (n:=2) rfl (DZ (DT (i:=0) (show List.Nodup (["name","inner"]:List Str)from by decide +kernel) rfl (Or.inl rfl) (Or.inr rfl)) (DZ (DT (i:=1) (show List.Nodup (["name","inner"]:List Str)from by decide +kernel) rfl (Or.inl rfl) (Or.inr rfl)) Ga)))) (λ_ _ _ _=>DF) (λ_ _ _ _=>(AM cC hr (A4 (A3 1) A8))) kU.nd rfl rfl)
  (A9 (Ah (Aj BH (A3 1) Ai) (A9 (Af (BC (aL rfl) rfl eZ SA (A4 (A3 2) A8)))
  AD) AD)
  (A9 (Af (AN CI AB (adS rfl rfl dh (A4 (A3 2) A8) AB)))
  AD)))))),?_⟩
 simp only[BW];cases k with
 |num w=>
  rw[Kd.tr];left;unfold Kd.good at kg;rw[AF,show((w.toNat:Nat):Int)=w by lia]at q;show Ag .refl q
 |text=>
  rw[Kd.tr];left;rw[AF]at q;show Ag .refl q
 |row k=>
  rw[Kd.tr];left;rw[AF]at q;show Ag .refl q
 |rec_ fs=>
  unfold Kd.good at kg;rw[Kd.depth]at kd;rw[AF]at q;rw[Kd.tr];left;show⟨by rw[Fl];show B7 (Bq (by lia)),λrest τ ys Γ'=>∃(gs hs:List (Str×Kd)) (o0 o1:Option T),τ=[o0,o1]∧rest=CE gs∧fs=hs++gs∧ys=(hs.map λp=>((AF p.2:Nat):Int)).map T.int∧Γ'=Γ,Ψ4 fs [] none none ⟨rfl,rfl,rfl,rfl,rfl⟩,?_,?_⟩
  ·intro τ ys Γ'⟨gs,hs,o0,o1,rfl,e,e2,rfl,rfl⟩
   cases gs with
   |cons p r=>cases e
   |nil=>
    rw[Bz]at e2;subst e2;show⟨trivial,λD hD=>?_⟩;left;show Ψ2 D _ ⟨rfl,As AE,?_⟩;rw[ng];show Ag (.new hD) q
  ·intro x rr τ ys Γ'⟨gs,hs,o0,o1,rfl,e,e2,rfl,rfl⟩
   cases gs with
   |nil=>cases e
   |cons p gs=>
    obtain⟨nm,k⟩:=p;cases e;let km:(nm,k)∈fs:=by rw[e2];simp
    let dk:k.depth≤B6 fs:=DP km;left;show⟨k,rfl,DW kg.1 km,by lia,?_⟩;show Ψ4 gs (hs++[(nm,k)]) _ _ ⟨rfl,rfl,by rw[e2];simp,by rw[Ao,Ao];rfl,rfl⟩
 |pick fs=>
  unfold Kd.good at kg;rw[Kd.depth]at kd;rw[AF]at q;rw[Kd.tr];left;show⟨by rw[Fl];show B7 (Bq (by lia)),λrest τ ys Γ'=>∃(gs hs:List (Str×Kd)) (o0 o1:Option T),τ=[o0,o1]∧rest=CE gs∧fs=hs++gs∧ys=(hs.map λp=>((AF p.2:Nat):Int)).map T.int∧Γ'=Γ,Ψ4 fs [] none none ⟨rfl,rfl,rfl,rfl,rfl⟩,?_,?_⟩
  ·intro τ ys Γ'⟨gs,hs,o0,o1,rfl,e,e2,rfl,rfl⟩
   cases gs with
   |cons p r=>cases e
   |nil=>
    rw[Bz]at e2;subst e2;show⟨trivial,λD hD=>?_⟩;left;show Ψ2 D _ ⟨rfl,As AE,?_,?_⟩
    ·intro z
     have:=Ca List.length z;rw[Ac]at this;let h1:=kg.2.1;simp at this;rw[this]at h1;show absurd h1 (by decide)
    left;rw[qo (by intro z;rw[z]at kg;show absurd kg.2.1 (by decide))];show Ag (.new hD) q
  ·intro x rr τ ys Γ'⟨gs,hs,o0,o1,rfl,e,e2,rfl,rfl⟩
   cases gs with
   |nil=>cases e
   |cons p gs=>
    obtain⟨nm,k⟩:=p;cases e;let km:(nm,k)∈fs:=by rw[e2];simp
    let dk:k.depth≤B6 fs:=DP km;left;show⟨k,rfl,DW kg.1 km,by lia,?_⟩;show Ψ4 gs (hs++[(nm,k)]) _ _ ⟨rfl,rfl,by rw[e2];simp,by rw[Ao,Ao];rfl,rfl⟩
@[reducible]def L5:Stmt:=Bk 19
def adt:BA ["laying","fields"] ["laying","fields"] (B4 L5):=Bm
@[reducible]def TT:Str:=(("in_order" : Str) ++ ".<locals>.") ++ "<lambda>"
@[reducible]def jq(pT:Addr)(Γ:AL):Prop:=Γ pT=some (.lam TT (c0 L5))
abbrev Pw(pT:Addr):BQ:=λts Γ Z _=>∃(L:Ly) (gs:List (Str×T)),ts=[L.tr,.tup (gs.map HU)]∧gs.length<64∧(gs.map (·.1)).Nodup∧jq pT Γ∧Z (.tup ((Az L.na gs).map HU)) Γ
def aa6(F:dR K "in_order" "in_order" L5 f fd)(yQ:fd.code=.ref KQ)(yR:W.codeHdIn K KQ pT=true)(yS:IG mg am pT)(ar:mg "tuple" = none)(iC:mg "sorted" = none):bB P w K mg am BJ 6 f fd ["laying","fields"] (BP (Pw pT)):=by
 show uk F yQ adt (λts Γ Z Y h=>?_) (λA outer s H E ts Γ Z Y hr h=>?_)
 ·let⟨L,gs,rfl,_⟩:=h
  rfl
 let⟨L,gs,rfl,WN,nd,gl,q⟩:=h;show⟨_,(A9 (Ah (Aj BH (AJ (A3 0) AB) Ai) (A9 (Af (A3 1))
  AD) AD)
  (A9 (Af (E7 Ff rfl ar DK (A4 (xP (hr.mono (by lia)) rfl iC (A4 (A3 1) A8) rfl rfl yR yS ⟨rfl,rfl,rfl,by decide +kernel,rfl,by decide +kernel,by decide +kernel⟩ rfl (λ_ _ _ _=>rfl)) A8)))
  AD)),?_⟩
 simp only[BW,Ly.tr];left;show IM (i:=3) (t:=.str L.s4) rfl ?_;left;show B5 (λc=>?_) (λc=>?_)
 ·rw[iZ (Hs c)]at q
  left;show Ag .refl q
 ·rw[kr (Hh c)]at q
  left;show⟨gs,rfl,WN,gl,λhs a pm u ha=>?_⟩;show Ψ2 _ _ ⟨rfl,As AE,?_⟩;rw[TG nd pm u];show Ag (.new ha) q
end
def aw(fs:al):CE fs=(fs.map λp=>(p.1,p.2.tr)).map HU:=by rw[JS,CT];rfl
def lq(nd:(fs.map (·.1)).Nodup):(Az na (fs.map λp=>(p.1,p.2.tr))).map HU=CE (Az na fs):=by rw[PR nd λp=>p.2.tr,aw]
abbrev IQ:List (Str×Kd)→List T→List (Ap×T)
 |(n,_)::fs,t::ts=>(.inr n,t)::IQ fs ts
 |_,_=>[]
def jC{aQ:List (Ap×T)}{k:Ap}(h:∀x∈aQ,x.1≠k):Jk aQ k v=aQ++[(k,v)]:=by
 unfold Jk;rw[AH];intro z;let⟨x,hx,e⟩:=List.any_eq_true.mp z;show h x hx (Ec e)
abbrev valOf(fs:al)(ts:List T)(n:Str):T:=(DS (IQ fs ts) (.inr n)).getD .non
def mq{n:Str}:DS (IQ ((n,k)::fs) (t::ts)) (.inr n)=some t:=by
 show DS ((Sum.inr n,t)::IQ fs ts) (.inr n)=some t
 unfold DS;rw[ba (by simp)];rfl
def qJ{n m:Str}(h:n≠m):DS (IQ ((n,k)::fs) (t::ts)) (.inr m)=DS (IQ fs ts) (.inr m):=by
 show DS ((Sum.inr n,t)::IQ fs ts) (.inr m)=_
 unfold DS;rw[XF (by simpa using h)]
def qK:∀{fs:List (Str×Kd)} {ts:List T} {p:Str×Kd},(fs.map (·.1)).Nodup→ts.length=fs.length→p∈fs→∃(j:Nat) (t:T),fs[j]?=some p∧ts[j]?=some t∧DS (IQ fs ts) (.inr p.1)=some t
 |(n,k)::fs,t::ts,p,nd,hl,h=>by
  rw[Ar,abo]at nd;rcases aah.mp h with rfl|h
  ·show Ψ2 0 t ⟨rfl,rfl,mq⟩
  ·let ne:n≠p.1:=λe=>nd.1 (by rw[e];show aau.mpr ⟨p,h,rfl⟩)
   let⟨j,t',a,b,c⟩:=qK nd.2 (by simpa using hl) h;show Ψ2 (j+1) t' ⟨a,b,by rw[qJ ne];show c⟩
 |[],_,p,_,_,h=>by cases h
 |_::_,[],p,_,hl,_=>by cases hl
def js(L:Ly):∀{fs:List (Str×Kd)} {ts:List T},(fs.map (·.1)).Nodup→ts.length=fs.length→DV L fs ts=fs.map λp=>(p.1,AP L p.2 (valOf fs ts p.1))
 |[],[],_,_=>by rw[DV];rfl;all_goals (intros;contradiction)
 |(n,k)::fs,t::ts,nd,hl=>by
  rw[Ar,abo]at nd;rw[DV,Ar,js L nd.2 (by simpa using hl)];congr 1
  ·show(n,AP L k t)=(n,AP L k (valOf ((n,k)::fs) (t::ts) n))
   unfold valOf;rw[mq];rfl
  ·show L7 λp hp=>?_
   let ne:n≠p.1:=λe=>nd.1 (by rw[e];show aau.mpr ⟨p,hp,rfl⟩);unfold valOf;rw[qJ ne]
 |[],_::_,_,h=>by cases h
 |_::_,[],_,h=>by cases h
def zU(L:Ly)(nd:(fs.map (·.1)).Nodup)(hl:ts.length=fs.length):((Az L.na fs).map λp=>AP L p.2 (valOf fs ts p.1)).flatten=AP L (.rec_ fs) (.tup ts):=by
 rw[AP,js L nd hl,PR nd λp=>AP L p.2 (valOf fs ts p.1),CT];rfl
def rM:E4 (x::xs) (y::ys)=.tup [x,y]::E4 xs ys:=rfl
def O5{m:Str}:∀{ss:List Str},m∈ss→(∃z,(ss.map V.str)[ss.idxOf m]?=some z∧uM z (.str m)=true)∧∀(i:Nat) (z:V),i<ss.idxOf m→(ss.map V.str)[i]?=some z→uM z (.str m)=false
 |[],h=>by cases h
 |s::ss,h=>by
  by_cases e:s=m
  ·subst e
   rw[List.idxOf_cons_self];show⟨⟨_,rfl,by simp[uM]⟩,λi z hi=>absurd hi (dO _)⟩
  ·let h':m∈ss:=by
    rcases aah.mp h with h|h
    ·show absurd h.symm e
    ·show h
   let⟨⟨z,b1,b2⟩,c⟩:=O5 h';let ei:(s::ss).idxOf m=ss.idxOf m+1:=by rw[List.idxOf_cons,ad2.mpr e];rfl
   rw[ei];show⟨⟨z,by simpa using b1,b2⟩,λi z hi hz=>?_⟩;cases i with
   |zero=>cases hz;simp[uM,e]
   |succ i=>show c i z (by lia) (by simpa using hz)
def ad3(ss:List Str):(ss.map V.str).all EN=true:=by
 rw[aaE];intro v hv;let⟨z,_,rfl⟩:=aau.mp hv;rfl
def jq.new{pT:Addr}{o:O}(g:jq pT Γ)(h:Γ p=none):jq pT (up Γ p o):=by show up Γ p o pT=_;rw[B8 (CL g h)];show g
def zb(h:∀t∈ts,jZ k t)(kg:k.good)(kd:k.depth≤5):(ts.map λt=>AP L k t).flatten.length=ts.length*AF k:=by
 rw[Nw (D:=AF k) λp hp=>?_,Ac];let⟨t,ht,rfl⟩:=aau.mp hp;show(Ex L (h t ht) kg kd).len
def gH{n:Str}{k:Kd}:∀(fs:List (Str×Kd)),Bb (fs++[(n,k)])=Bb fs+AF k
 |[]=>by simp only[IP,Bb];lia
 |(m,q)::r=>by rw[Ig,Bb,Bb,gH r,Nat.add_assoc]
def kO{n:Str}{k:Kd}:∀(fs:List (Str×Kd)),Bc (fs++[(n,k)])=max (Bc fs) (1+AF k)
 |[]=>by simp only[IP,Bc];lia
 |(m,q)::r=>by rw[Ig,Bc,Bc,kO r];lia
def Yh{o:O}(l:Le Γ Γ')(h:Γ' p=none)(z:∀p,Γ p=none→Z (.ref p) (up Γ p o)):E3 Z (.ref p) (up Γ' p o):=by
 let g:Γ p=none:=by
  cases e:Γ p with
  |none=>rfl
  |some u=>have:=l p u e;rw[h]at this;cases this
 show⟨up Γ p o,λb u q=>?_,z p g⟩;by_cases e:b=p
 ·subst e;rw[AE]at q ⊢;show q
 ·rw[B8 e]at q ⊢;show l b u q
abbrev Bl(fs:al):List (Str×(Kd×Nat)):=fs.zipIdx.map λq=>(q.1.1,(q.1.2,q.2))
abbrev CU(na:Bool)(fs:al):List Nat:=(Az na (Bl fs)).map λz=>z.2.2
def Rl(fs:al):(Bl fs).length=fs.length:=by unfold Bl;rw[Ac,List.length_zipIdx]
def jE(fs:al):(Bl fs).map (λz=>(z.1,z.2.1))=fs:=by
 unfold Bl;rw[CT];have:=List.zipIdx_map_fst 0 fs
 conv=>rhs;rw[←this]
 rfl
def PH(fs:al):(Bl fs).map (·.1)=fs.map (·.1):=by
 conv=>rhs;rw[←jE fs]
 rw[CT];rfl
def fe(fs:al):(Bl fs).map (λz=>z.2.2)=List.range fs.length:=by
 unfold Bl;rw[CT,List.range_eq_range',←List.zipIdx_map_snd 0 fs];rfl
def aeo(h:z∈Bl fs):fs[z.2.2]?=some (z.1,z.2.1):=by
 unfold Bl at h;obtain⟨⟨⟨n,k⟩,i⟩,hx,rfl⟩:=aau.mp h;show List.mem_zipIdx_iff_getElem?.mp hx
def vo(fs:al)(n:Str)(k:Kd):Bl (fs++[(n,k)])=Bl fs++[(n,(k,fs.length))]:=by
 unfold Bl;rw[List.zipIdx_append,Ao];simp
def MR(nd:(fs.map (·.1)).Nodup):Az na fs=(Az na (Bl fs)).map λz=>(z.1,z.2.1):=by
 conv=>lhs;rw[←jE fs]
 show PR (xs:=Bl fs) (by rw[PH];show nd) (λz:Str×(Kd×Nat)=>z.2.1)
def K6(h:z∈Az na (Bl fs)):fs[z.2.2]?=some (z.1,z.2.1):=aeo ((FX na _).mem_iff.mp h)
abbrev MC(z:Str×(Kd×Nat)):T:=.tup [.str z.1,.int (z.2.2:Nat)]
section
@[reducible]def Ro:Stmt:=Bk 52
def eR:BA ["kind","size","name","below"] ["kind"] (B4 Ro):=Bm
abbrev IB(n:Nat):BQ:=λts Γ Z _=>∃k:Kd,ts=[k.tr]∧k.good∧k.depth<n∧Z (.int (AF k:Nat)) Γ
def wR(F:dR K "_law_size" "_law_size" Ro f fd)(cy:AV P w K mg am "_law_size" lv ["kind"] (IB n))(dh:mg "max" = none):bB P w K mg am BJ (lv+1) f fd ["kind"] (BP (IB (n+1))):=by
 show Cb F eR (λts Γ Z Y h=>?_) (λcA A outer s H E ts Γ Z Y hr h=>?_)
 ·let⟨k,rfl,_⟩:=h
  rfl
 let⟨k,rfl,kg,kd,q⟩:=h;show⟨_,(A9 (Ah (Aj BH (AJ (A3 0) AB) Ai) (A9 (Af (AJ (A3 0) AB))
  AD) AD)
  (A9 (Ah (PW.pt (DX (Aj BH (AJ (A3 0) AB) Ai) (EK (Aj BH (AJ (A3 0) AB) Ai)))) (A9 (Af AB)
  AD) AD)
  (A9 (Aa (i:=1) eR.nd AB)
  (A9 (G6 F8 rfl (F1 (AJ (A3 0) AB)) (GK (n:=2) rfl (DZ (DE (i:=2) eR.nd) (DZ (DE (i:=3) eR.nd) Ga))) (A9 (Ek (Ah (Aj BH (AJ (A3 0) AB) Ai) (A9 (Aa (i:=1) eR.nd (AN CI (A3 1) (AM cy hr (A4 (A3 3) A8))))
  AD) (A9 (Aa (i:=1) eR.nd (BC (Rz rfl) rfl dh Nm (A4 (A3 1) (A4 (AN CI AB (AM cy hr (A4 (A3 3) A8))) A8))))
  AD)))
  AD))
  (A9 (Af (A3 1))
  AD))))),?_⟩
 simp only[BW];cases k with
 |num w=>
  rw[Kd.tr];left;unfold Kd.good at kg;rw[AF,show((w.toNat:Nat):Int)=w by lia]at q;show Ag .refl q
 |text=>
  rw[Kd.tr];left;rw[AF]at q;show Ag .refl q
 |row k=>
  rw[Kd.tr];left;rw[AF]at q;show Ag .refl q
 |rec_ fs=>
  unfold Kd.good at kg;rw[Kd.depth]at kd;rw[AF]at q;rw[Kd.tr];left;show⟨λrest τ Γ'=>∃(gs hs:List (Str×Kd)) (o2 o3:Option T),rest=CE gs∧fs=hs++gs∧τ=[some (.tup [.str "rec",.tup (CE fs)]),some (.int (Bb hs:Nat)),o2,o3]∧Γ'=Γ,Ψ4 fs [] none none ⟨rfl,rfl,by rw[Bb];rfl,rfl⟩,?_,?_⟩
  ·intro τ Γ'⟨gs,hs,o2,o3,e0,e2,rfl,rfl⟩
   cases gs with
   |cons p r=>cases e0
   |nil=>
    rw[Bz]at e2;subst e2;show⟨trivial,?_⟩;left;show Ag .refl q
  ·intro x rr τ Γ'⟨gs,hs,o2,o3,e0,e2,rfl,rfl⟩
   cases gs with
   |nil=>cases e0
   |cons p gs=>
    obtain⟨nm,k⟩:=p;cases e0;let mem:(nm,k)∈fs:=by rw[e2];simp
    let dk:k.depth≤B6 fs:=DP mem;left;show Ik ?_;left;show⟨k,rfl,DW kg.1 mem,by lia,?_⟩;left;show Ψ4 gs (hs++[(nm,k)]) _ _ ⟨rfl,by rw[e2];simp,by rw[gH];rfl,rfl⟩
 |pick fs=>
  unfold Kd.good at kg;rw[Kd.depth]at kd;rw[AF]at q;rw[Kd.tr];left;show⟨λrest τ Γ'=>∃(gs hs:List (Str×Kd)) (o2 o3:Option T),rest=CE gs∧fs=hs++gs∧τ=[some (.tup [.str "pick",.tup (CE fs)]),some (.int (Bc hs:Nat)),o2,o3]∧Γ'=Γ,Ψ4 fs [] none none ⟨rfl,rfl,by rw[Bc];rfl,rfl⟩,?_,?_⟩
  ·intro τ Γ'⟨gs,hs,o2,o3,e0,e2,rfl,rfl⟩
   cases gs with
   |cons p r=>cases e0
   |nil=>
    rw[Bz]at e2;subst e2;show⟨trivial,?_⟩;left;show Ag .refl q
  ·intro x rr τ Γ'⟨gs,hs,o2,o3,e0,e2,rfl,rfl⟩
   cases gs with
   |nil=>cases e0
   |cons p gs=>
    obtain⟨nm,k⟩:=p;cases e0;let mem:(nm,k)∈fs:=by rw[e2];simp
    let dk:k.depth≤B6 fs:=DP mem;left;show Ik ?_;left;show⟨k,rfl,DW kg.1 mem,by lia,?_⟩;left;show Ψ4 gs (hs++[(nm,k)]) (some (.str nm)) (some k.tr) ⟨rfl,by rw[e2];simp,?_,rfl⟩;rw[kO];have:(if(1:Int)+(AF k:Nat)>(Bc hs:Nat)then(1:Int)+(AF k:Nat)else((Bc hs:Nat):Int))=((max (Bc hs) (1+AF k):Nat):Int):=by split<;>lia
    rw[this];rfl
@[reducible]def bS:Stmt:=Bk 53
def abd:BA ["laying","fields"] ["laying","fields"] (B4 bS):=Bm
abbrev Mo:BQ:=λts Γ Z _=>∃(L:Ly) (fs:al),ts=[L.tr,.tup (CE fs)]∧fs.length≤6∧(fs.map (·.1)).Nodup∧∀p:Addr,Γ p=none→Z (.ref p) (up Γ p (.lst ((CU L.na fs).map λj=>T.int (j:Nat))))
def yk(F:dR K "_law_places" "_law_places" bS f fd)(fi:mg "list" = none)(aJ:mg "range" = none)(aG:mg "len" = none)(iC:mg "sorted" = none):bB P w K mg am BJ 1 f fd ["laying","fields"] (BP Mo):=by
 show Cb F abd (λts Γ Z Y h=>?_) (λcA A outer s H E ts Γ Z Y hr h=>?_)
 ·let⟨L,fs,rfl,_⟩:=h
  rfl
 let⟨L,fs,rfl,l6,nd,q⟩:=h;show⟨_,(A9 (Ah (Aj BH (AJ (A3 0) AB) Ai) (A9 (Af (t4 rfl rfl fi rfl aJ (A4 (BC Cv rfl aG Cd (A4 (A3 1) A8)) A8)))
  AD) AD)
  (A9 (Af (Ds (own:=["name","at"]) (cap:=[]) F2 rfl (Fj (BC (yp MC (·.1) (λ_=>⟨_,rfl⟩)) rfl iC PyProof.Rows.boot_sorted (A4 (Ds (own:=["at"]) (cap:=[(1,"fields")]) En rfl (HL rfl aJ (A4 (BC Cv rfl aG Cd (A4 (A3 1) A8)) A8)) (λ_ _ _ _=>(DT (i:=0) (show List.Nodup (["at","fields"]:List Str)from by decide +kernel) rfl (Or.inl rfl) (Or.inr rfl))) (λ_ _ _ _=>DF) (λ_ _ _ _=>(Bf (A4 (AJ (AJ (A3 1) (A3 0)) AB) (A4 (A3 0) A8))))) A8))) (λ_ _ _ _=>(GK (n:=2) rfl (DZ (DT (i:=0) (show List.Nodup (["name","at"]:List Str)from by decide +kernel) rfl (Or.inl rfl) (Or.inr rfl)) (DZ (DT (i:=1) (show List.Nodup (["name","at"]:List Str)from by decide +kernel) rfl (Or.inl rfl) (Or.inr rfl)) Ga)))) (λ_ _ _ _=>DF) (λ_ _ _ _=>(A3 1))))
  AD)),?_⟩
 simp only[BW,Ly.tr];left;show IM (i:=3) (t:=.str L.s4) rfl ?_;left;show B5 (λc=>?_) (λc=>?_)
 ·unfold CU Az at q
  rw[iZ (Hs c),AH BN,fe]at q;left;unfold jb;left;show⟨(CE fs).length,rfl,by rw[Fl];lia,λp hp=>?_⟩;rw[Fl];show⟨_,.refl,q p hp⟩
 ·unfold CU Az at q
  rw[kr (Hh c),AI rfl]at q;left;rw[Fl];show⟨_,rfl,by lia,by lia,B7 (Bq (by rw[Gs];lia)),?_⟩;show⟨λrest τ ys Γ2=>∃(hs gs:al) (o0:Option T),rest=Dr hs.length gs.length∧fs=hs++gs∧τ=[o0,some (.tup (CE fs))]∧ys=(Bl hs).map MC∧Γ2=Γ,Ψ3 [] fs none ⟨rfl,rfl,rfl,rfl,rfl⟩,?_,?_⟩
  ·intro τ ys Γ2⟨hs,gs,o0,er,ef,rfl,rfl,rfl⟩
   let hg:gs=[]:=by
    cases gs with
    |nil=>rfl
    |cons _ _=>cases er
   subst hg;rw[Bz]at ef;subst ef;show⟨trivial,λD hD=>?_⟩;left;show Ψ2 D (Bl fs) ⟨rfl,AE,by rw[Rl];lia,by rw[PH];show nd,λms l pm u hl=>?_⟩;let em:ms=J5 (Bl fs):=TG (by rw[PH];show nd) pm u;subst em;left;let ml:(J5 (Bl fs)).length≤6:=by rw[pm.length_eq,Rl];show l6
   show Ψ2 l _ ⟨rfl,As AE,B7 (Bq (by rw[Ac];lia)),?_⟩;show⟨λrest τ ys Γ3=>∃(done more:List (Str×(Kd×Nat))) (o0 o1:Option T),rest=more.map MC∧J5 (Bl fs)=done++more∧τ=[o0,o1]∧ys=done.map (λz=>T.int (z.2.2:Nat))∧up (up Γ2 D (.lst ((Bl fs).map MC))) l (.lst ((J5 (Bl fs)).map MC))=Γ3,Ψ4 [] _ none none ⟨rfl,rfl,rfl,rfl,rfl⟩,?_,?_⟩
   ·intro τ ys Γ3⟨done,more,o0,o1,Jf,em,rfl,rfl,rfl⟩
    let hm:more=[]:=by
     cases more with
     |nil=>rfl
     |cons _ _=>cases Jf
    subst hm;rw[Bz]at em;show⟨As AE,λD2 Fy=>?_⟩;show Yh (.trans (.new hD) (.new hl)) Fy λp hp=>?_;have:=q p hp;rw[em,CT]at this;show this
   ·intro x r τ ys Γ3⟨done,more,o0,o1,Jf,em,rfl,rfl,rfl⟩
    cases more with
    |nil=>cases Jf
    |cons y more=>
     cases Jf;show⟨As AE,?_⟩;unfold MC;left;show Ψ4 (done++[y]) more _ _ ⟨rfl,by rw[em];simp,rfl,by rw[Ao];rfl,rfl⟩
  ·intro x r τ ys Γ2⟨hs,gs,o0,er,ef,rfl,rfl,rfl⟩
   cases gs with
   |nil=>cases er
   |cons p gs=>
    obtain⟨nm,k⟩:=p;let⟨c',e1,rfl,rfl⟩:=Gr er;cases e1;let gf:fs[hs.length]?=some (nm,k):=by rw[ef];simp
    left;show FK (Hw gf) ?_;left;show Ψ3 (hs++[(nm,k)]) gs _ ⟨by rw[B9];rfl,by rw[ef];simp,rfl,?_,rfl⟩;rw[vo,Ao];rfl
end
def aeH{α:Type}{xs:List α}{n:Int}(h:0≤n):BB xs none (some n)=xs.take n.toNat:=by
 unfold BB;rw[HT.mn,HQ,OA];let e1:HT.cE xs.length xs.length (some n)=min n.toNat xs.length:=by
  show(if n<0 then _ else min n.toNat _)=_
  rw[AH (by lia)]
 rw[e1];by_cases c:n.toNat≤xs.length
 ·rw[Nx c]
 ·rw[Nat.min_eq_right (by lia),VW,ID (by lia)]
def wF(h:n≤4):([1,65536,65536^2,65536^3]:List Int).take n=(List.range n).map λj=>(65536:Int)^j:=by
 match n,h with
 |0,_=>rfl
 |1,_=>rfl
 |2,_=>rfl
 |3,_=>rfl
 |4,_=>rfl
def gT(h:L.s1 = "high"):L.hi=true:=by
 cases e:L.hi with
 |true=>rfl
 |false=>unfold Ly.s1 at h;rw[e]at h;show absurd h (by decide)
def oH(h:L.s1 ≠ "high"):L.hi=false:=by
 cases e:L.hi with
 |false=>rfl
 |true=>unfold Ly.s1 at h;rw[e]at h;show absurd rfl h
def ad6(h:L.s2 = "end"):L.en=true:=by
 cases e:L.en with
 |true=>rfl
 |false=>unfold Ly.s2 at h;rw[e]at h;show absurd h (by decide)
def sV(h:L.s2 ≠ "end"):L.en=false:=by
 cases e:L.en with
 |false=>rfl
 |true=>unfold Ly.s2 at h;rw[e]at h;show absurd rfl h
abbrev Jj(us:List T)(j:Nat):T:=(us[j]?).getD .non
def abF(L:Ly)(nd:(fs.map (·.1)).Nodup)(hl:ts.length=fs.length):((Az L.na (Bl fs)).map λz=>AP L z.2.1 (Jj ts z.2.2)).flatten=AP L (.rec_ fs) (.tup ts):=by
 rw[←zU L nd hl,MR nd,CT];congr 1
 show L7 λz hz=>?_;let gf:=K6 hz;show AP L z.2.1 (Jj ts z.2.2)=AP L z.2.1 (valOf fs ts z.1)
 let⟨j,t,a,b,c⟩:=qK nd hl (CQ gf);let ej:j=z.2.2:=by
  let h1:(fs.map (·.1))[j]?=some z.1:=by rw[CZ,a];rfl
  let h2:(fs.map (·.1))[z.2.2]?=some z.1:=by rw[CZ,gf];rfl
  obtain⟨i1,_⟩:=aao.mp h1;obtain⟨i2,_⟩:=aao.mp h2;show(List.getElem?_inj i1 nd).mp (h1.trans h2.symm)
 subst ej;unfold Jj valOf;rw[b];let c:DS (IQ fs ts) (.inr z.1)=some t:=c;rw[c]
section
inductive Hp:Kd→T→Prop
 |num {w:Int} {i:Int} (l:-(65536^w.toNat)≤2*i) (h:2*i<65536^w.toNat):Hp (.num w) (.int i)
 |text {z:Str} (l:z.length≤62):Hp .text (.str z)
 |row {k:Kd} {ts:List T} (l:ts.length≤62) (q:∀t∈ts,jZ k t):Hp (.row k) (.tup ts)
 |rec_ {fs:List (Str×Kd)} {ts:List T} (l:ts.length=fs.length) (q:∀(j:Nat) (n:Str) (k:Kd) (t:T),fs[j]?=some (n,k)→ts[j]?=some t→jZ k t):Hp (.rec_ fs) (.tup ts)
 |pick {fs:List (Str×Kd)} {n:Str} {k:Kd} {j:Nat} {t:T} (f:findF fs n=some (j,k)) (q:jZ k t):Hp (.pick fs) (.tup [.str n,t])
def jZ.hx(h:jZ k u):Hp k u:=by
 cases h with
 |num l h=>show .num l h
 |text l h=>show .text (by lia)
 |row l q=>show .row (by lia) q
 |rec_ l q=>show .rec_ l q
 |pick f q=>show .pick f q
@[reducible]def Oh:Stmt:=Bk 54
def aO:BA ["laying","kind","worth","words","numbers","found","one","places","at"] ["laying","kind","worth"] (B4 Oh):=Bm
abbrev Lp(n:Nat):BQ:=λts Γ Z _=>∃(L:Ly) (k:Kd) (u:T),ts=[L.tr,k.tr,u]∧k.good∧k.depth<n∧k.depth≤5∧Hp k u∧Z (.tup (AP L k u)) Γ
abbrev eC(n:Nat):BQ:=λts Γ Z _=>∃(L:Ly) (k:Kd) (u:T),ts=[L.tr,k.tr,u]∧k.good∧k.depth<n∧k.depth≤5∧jZ k u∧Z (.tup (AP L k u)) Γ
def aaW(F:dR K "_law_picture" "_law_picture" Oh f fd)(bH:AV P w K mg am "_law_picture" (lv+7) ["laying","kind","worth"] (eC n))(ja:AV P w K mg am "_law_places" 1 ["laying","fields"] Mo)(cy:AV P w K mg am "_law_size" 6 ["kind"] (IB 6))(ar:mg "tuple" = none)(aG:mg "len" = none)(sR:mg "ord" = none):bB P w K mg am BJ (lv+7+1) f fd ["laying","kind","worth"] (BP (Lp (n+1))):=by
 show Cb F aO (λts Γ Z Y h=>?_) (λcA A outer s H E ts Γ Z Y hr h=>?_)
 ·let⟨L,k,u,rfl,_⟩:=h
  rfl
 let⟨L,k,u,rfl,kg,kd,qX,hs,q⟩:=h;show⟨_,(A9 (Ah (Aj BH (AJ (A3 1) AB) Ai) (A9 (Rf (i:=3) (own:=["one"]) (cap:=[(2,"worth")]) En rfl (Fj (Ck T3 (BL (A4 AB (A4 AB (A4 (AN Gb AB AB) (A4 (AN Gb AB AB) A8))))) DM (CN (AJ (A3 1) AB)))) (λ_ _ _ _=>(DT (i:=0) (show List.Nodup (["one","worth"]:List Str)from by decide +kernel) rfl (Or.inl rfl) (Or.inr rfl))) (λ_ _ _ _=>DF) (λ_ _ _ _=>(AN cR (AN LK (A3 1) (A3 0)) AB)) aO.nd rfl rfl)
  (A9 (Ek (Ah (Aj BH (AJ (A3 0) AB) Ai) (A9 (Aa (i:=3) aO.nd (qw (A3 3) (FP AB)))
  AD) AD))
  (A9 (Af (E7 Ff rfl ar DK (A4 (A3 3) A8)))
  AD))) AD)
  (A9 (Ah (Aj BH (AJ (A3 1) AB) Ai) (A9 (Rf (i:=4) (own:=["sign"]) (cap:=[]) F2 rfl (adv (A3 2)) (λ_ _ _ _=>Hx) (λ_ _ _ _=>DF) (λ_ _ _ _=>(BC (wU) rfl sR PyProof.Rows.boot_ord (A4 (A3 0) A8))) aO.nd rfl rfl)
  (A9 (Ah (Aj BH (AJ (A3 0) AB) Ai) (A9 (Af (Bf (A4 (E7 Ff rfl ar DK (A4 (AN Mt (A3 4) (BL (A4 AB A8))) A8)) A8)))
  AD) AD)
  (A9 (Af (Bf (A4 (E7 Ff rfl ar DK (A4 (AN Mt (BL (A4 (BC Cv rfl aG Cd (A4 (A3 4) A8)) A8)) (A3 4)) A8)) A8)))
  AD))) AD)
  (A9 (Ah (PW.pt (Iu (Aj BH (AJ (A3 1) AB) Ai) (LM (Aj BH (AJ (A3 0) AB) Ai)))) (A9 (Aa (i:=5) aO.nd (Bf (A4 (BC Cv rfl aG Cd (A4 (A3 2) A8)) A8)))
  (A9 (G6 F8 rfl (F1 (A3 2)) (DE (i:=6) aO.nd) (A9 (Aa (i:=5) aO.nd (AN EU (A3 5) (AM bH hr (A4 (A3 0) (A4 (AJ (A3 1) AB) (A4 (A3 6) A8))))))
  AD))
  (A9 (Af (Bf (A4 (A3 5) A8)))
  AD))) AD)
  (A9 (Ah (Aj BH (AJ (A3 1) AB) Ai) (A9 (Aa (i:=5) aO.nd AB)
  (A9 (G6 F8 rfl (F1 (Oi (A3 2) (FP AB))) (DE (i:=6) aO.nd) (A9 (Aa (i:=5) aO.nd (AN EU (Bf (A4 (A3 5) A8)) (AM bH hr (A4 (A3 0) (A4 (AJ (A3 1) AB) (A4 (A3 6) A8))))))
  AD))
  (A9 (Af (Bf (A4 (A3 5) A8)))
  AD))) AD)
  (A9 (Aa (i:=7) aO.nd (AM ja hr (A4 (A3 0) (A4 (AJ (A3 1) AB) A8))))
  (A9 (Ah (Aj BH (AJ (A3 1) AB) Ai) (A9 (Aa (i:=5) aO.nd (Bf A8))
  (A9 (G6 F8 rfl (Fj (A3 7)) (DE (i:=8) aO.nd) (A9 (Aa (i:=5) aO.nd (AN EU (A3 5) (AM bH hr (A4 (A3 0) (A4 (AJ (AJ (AJ (A3 1) AB) (A3 8)) AB) (A4 (AJ (A3 2) (A3 8)) A8))))))
  AD))
  (A9 (Af (A3 5))
  AD))) AD)
  (A9 (Aa (i:=8) aO.nd (HP HS kW PySem.F.type_list_index adk (Ds (own:=["place"]) (cap:=[(1,"kind")]) En rfl (Fj (A3 7)) (λ_ _ _ _=>(DT (i:=0) (show List.Nodup (["place","kind"]:List Str)from by decide +kernel) rfl (Or.inl rfl) (Or.inr rfl))) (λ_ _ _ _=>DF) (λ_ _ _ _=>(AJ (AJ (AJ (A3 1) AB) (A3 0)) AB))) (A4 (AJ (A3 2) AB) A8)))
  (A9 (Aa (i:=5) aO.nd (AN EU (Bf (A4 (A3 8) A8)) (AM bH hr (A4 (A3 0) (A4 (AJ (AJ (AJ (A3 1) AB) (AJ (A3 7) (A3 8))) AB) (A4 (AJ (A3 2) AB) A8))))))
  (A9 (Af (AN EU (A3 5) (AN T2 (Bf (A4 AB A8)) (AN Fe (AM cy hr (A4 (A3 1) A8)) (BC Cv rfl aG Cd (A4 (A3 5) A8))))))
  AD))))))))),?_⟩
 simp only[BW,Ly.tr];cases hs with
 |@num w i l h=>
  rw[Kd.tr];left;intro p hp;left;unfold Kd.good at kg;show Ψ2 p _ ⟨rfl,AE,λp2 iJ=>?_⟩;let ct:BB [T.int 1,.int 65536,.int (65536^Int.toNat 2),.int (65536^Int.toNat 3)] none (some w)=((List.range w.toNat).map λj=>(65536:Int)^j).map T.int:=by rw[aeH (by lia),←wF (by lia),List.map_take];rfl
  rw[ct];show Ψ2 p2 _ ⟨rfl,As AE,B7 (Bq (by rw[Ac,Ac,O4];lia)),?_⟩;show⟨λrest τ ys Γ'=>∃(done more:List Nat) (o0:Option T),List.range w.toNat=done++more∧rest=(more.map λj=>(65536:Int)^j).map T.int∧τ=[o0,some (.int i)]∧ys=(done.map λj=>i/65536^j%65536).map T.int∧Γ' p2=some (.lst (((List.range w.toNat).map λj=>(65536:Int)^j).map T.int))∧Le Γ Γ',Ψ3 [] _ none ⟨rfl,rfl,rfl,rfl,AE,.trans (.new hp) (.new iJ)⟩,?_,?_⟩
  ·intro τ ys Γ2⟨done,more,o0,ed,er,rfl,rfl,g2,le⟩
   let hz:more=[]:=by
    cases more with
    |nil=>rfl
    |cons _ _=>cases er
   subst hz;rw[Bz]at ed;show⟨As g2,λD hD=>?_⟩;rw[←ed];let q:Z (.tup ((GW L.hi w.toNat i).map T.int)) Γ:=by rw[AP]at q;show q
   left;show⟨λτ Γ'=>∃D':Addr,τ=[some (.tup [.str L.s1,.str L.s2,.str L.s3,.str L.s4]),some (.tup [.str "num",.int w]),some (.int i),some (.ref D'),none,none,none,none,none]∧Γ' D'=some (.lst ((GW L.hi w.toNat i).map T.int))∧Le Γ Γ',?_,?_⟩
   ·left
    show B5 (λc=>?_) (λc=>?_)
    ·left
     show⟨rfl,D,_,rfl,As AE,λp3 rS=>?_⟩;left;show⟨p3,rfl,by rw[AE];unfold GW;rw[gT (Hs c),AI rfl,Ub];rfl,le.trans (.trans (.new hD) (.new rS))⟩
    ·left
     show⟨D,rfl,by rw[AE];unfold GW;rw[oH (Hh c),AH BN];rfl,le.trans (.new hD)⟩
   intro τ Γ3⟨D',rfl,g3,BK⟩;left;show Ψ2 _ _ ⟨rfl,As g3,?_⟩;show Ag BK q
  ·intro x r τ ys Γ2⟨done,more,o0,ed,er,rfl,rfl,g2,le⟩
   cases more with
   |nil=>cases er
   |cons d more=>
    cases er;let d4:d<4:=by
     have:d∈List.range w.toNat:=by rw[ed];simp
     have:=acb.mp this;lia
    show⟨As g2,?_⟩;left;show Ψ2 i _ ⟨rfl,rfl,?_,?_⟩
    ·match d,d4 with
     |0,_=>show⟨by decide,by decide⟩
     |1,_=>show⟨by decide,by decide⟩
     |2,_=>show⟨by decide,by decide⟩
     |3,_=>show⟨by decide,by decide⟩
    left;show Ψ3 (done++[d]) more _ ⟨by rw[ed];simp,rfl,rfl,by rw[Ao,Ao];rfl,g2,le⟩
 |@text z l=>
  rw[Kd.tr];left;let lz:z.cps.toList.length≤62:=l;show⟨B7 (Bq (by show(z.cps.toList.map _).length≤1000;rw[Ac];lia)),?_⟩;show⟨λrest τ ys Γ'=>∃(cs ds:List Nat) (o:Option T),rest=cs.map (λc=>T.str ⟨#[c]⟩)∧τ=[o]∧z.cps.toList=ds++cs∧ys=ds.map (λc:Nat=>T.int (c:Int))∧Γ'=Γ,Ψ3 z.cps.toList [] none ⟨rfl,rfl,rfl,rfl,rfl⟩,?_,?_⟩
  ·intro τ ys Γ2⟨cs,ds,o,er,rfl,ez,rfl,rfl⟩
   let hz:cs=[]:=by
    cases cs with
    |nil=>rfl
    |cons _ _=>cases er
   subst hz;rw[Bz]at ez;subst ez;let q:Z (.tup [.tup ((Hn L.en z).map T.int)]) Γ2:=by rw[AP]at q;show q
   let e1:z.cps.toList.map (λc:Nat=>T.int (c:Int))=(z.cps.toList.map (λc:Nat=>(c:Int))).map T.int:=by rw[CT];rfl
   show⟨trivial,λD hD=>?_⟩;left;show B5 (λc=>?_) (λc=>?_)
   ·unfold Hn at q
    rw[ad6 (Hs c),AI rfl,Ao,←e1]at q;left;intro p hp;left;show Ψ4 D p _ _ ⟨rfl,rfl,by rw[B8 (CL AE hp)];show AE,AE,by rw[Ac];show B7 (by rw[CP];show _+1<_;lia),λp2 iJ=>?_⟩;left;show Ψ2 _ _ ⟨rfl,As AE,?_⟩;left;show Ag (.trans (.new hD) (.trans (.new hp) (.new iJ))) q
   ·unfold Hn at q
    rw[sV (Hh c),AH BN,Ar,←e1]at q;left;show G5 AE ?_;rw[Ac];left;intro p hp;left;show Ψ4 p D _ _ ⟨rfl,rfl,AE,by rw[B8 (CL AE hp)];show AE,by rw[Ac];show B7 (by rw[CP];show 1+_<_;lia),λp2 iJ=>?_⟩;left;show Ψ2 _ _ ⟨rfl,As AE,?_⟩;left;show Ag (.trans (.new hD) (.trans (.new hp) (.new iJ))) q
  ·intro x r τ ys Γ2⟨cs,ds,o,er,rfl,ez,rfl,rfl⟩
   cases cs with
   |nil=>cases er
   |cons c cs=>
    cases er;show⟨trivial,?_⟩;left;show⟨_,rfl,rfl,?_⟩;show Ψ3 cs (ds++[c]) _ ⟨rfl,rfl,by rw[ez];simp,by rw[Ao];rfl,rfl⟩
 |@row k2 ts l hq=>
  let Qq:=kg;unfold Kd.good at Qq;rw[Kd.depth]at kd qX;let sm:=J2 Qq (by lia);let q:Z (.tup [if L.ch=true then Cc (ts.map λt=>AP L k2 t)else .tup (.int ts.length::(ts.map λt=>AP L k2 t).flatten)]) Γ:=by rw[AP]at q;show q
  let Bv:∀t∈ts,(AP L k2 t).length=AF k2:=λt ht=>(Ex L (hq t ht) Qq (by lia)).len;rw[Kd.tr];left;show IM (i:=2) (t:=.str L.s3) rfl ?_;left;show B5 (λc=>?_) (λc=>?_)
  ·rw[TZ (Hs c),AH BN]at q
   left;show⟨λrest τ Γ'=>∃(xs ys:List T) (o3 o4 o6 o7 o8:Option T),ts=xs++ys∧rest=ys∧τ=[some (.tup [.str L.s1,.str L.s2,.str L.s3,.str L.s4]),some (.tup [.str "row",k2.tr]),some (.tup ts),o3,o4,some (.tup (.int ts.length::(xs.map λt=>AP L k2 t).flatten)),o6,o7,o8]∧Γ'=Γ,Ψ7 [] ts none none none none none ⟨rfl,rfl,rfl,rfl⟩,?_,?_⟩
   ·intro τ Γ'⟨xs,ys,o3,o4,o6,o7,o8,et,er,rfl,rfl⟩
    subst er;rw[Bz]at et;subst et;show⟨trivial,?_⟩;left;show Ag .refl q
   ·intro x r τ Γ'⟨xs,ys,o3,o4,o6,o7,o8,et,er,rfl,rfl⟩
    subst er;let hx:x∈ts:=by rw[et];simp
    let xl:xs.length<ts.length:=by rw[et,B9,BE];lia
    let hm:xs.length*AF k2≤62*5184:=Hl (by lia) sm;let hf:(xs.map λt=>AP L k2 t).flatten.length=xs.length*AF k2:=by
     rw[Nw (D:=AF k2) λp hp=>?_,Ac];let⟨t,ht,rfl⟩:=aau.mp hp;show Bv t (by rw[et];simp[ht])
    left;show Ψ3 L k2 x ⟨rfl,Qq,by lia,by lia,hq x hx,?_⟩;show EW (B7 (by rw[BE,hf,Bv x hx,CP];lia)) ?_;left;show Ψ7 (xs++[x]) r _ _ _ _ _ ⟨by rw[et];simp,rfl,by simp only[Ao,ax,Ar,GQ,E9,XI,Bz];rfl,rfl⟩
  ·rw[Tz (Hh c),AI rfl]at q
   left;show⟨rfl,ts,rfl,ts.reverse,rfl,?_⟩;show⟨λrest τ Γ'=>∃(xs ys:List T) (o3 o4 o6 o7 o8:Option T),ts=xs++ys∧rest=xs.reverse∧τ=[some (.tup [.str L.s1,.str L.s2,.str L.s3,.str L.s4]),some (.tup [.str "row",k2.tr]),some (.tup ts),o3,o4,some (Cc (ys.map λt=>AP L k2 t)),o6,o7,o8]∧Γ'=Γ,Ψ7 ts [] none none none none none ⟨by simp,rfl,rfl,rfl⟩,?_,?_⟩
   ·intro τ Γ'⟨xs,ys,o3,o4,o6,o7,o8,et,er,rfl,rfl⟩
    let hx:xs=[]:=by
     have:=Ca List.length er;simp at this;show LY this.symm
    subst hx;rw[IP]at et;subst et;show⟨trivial,?_⟩;left;show Ag .refl q
   ·intro x r τ Γ'⟨xs,ys,o3,o4,o6,o7,o8,et,er,rfl,rfl⟩
    rcases Md xs with rfl|⟨zs,z,ez⟩
    ·cases er
    ·rw[OE]at ez
     subst ez;rw[List.reverse_append]at er;let Q9:x::r=z::zs.reverse:=er;cases Q9;let hx:x∈ts:=by rw[et];simp
     left;show Ψ3 L k2 x ⟨rfl,Qq,by lia,by lia,hq x hx,?_⟩;show EW (B7 (by rw[Bv x hx,CP];show 1+_<_;lia)) ?_;left;show Ψ7 zs (x::ys) _ _ _ _ _ ⟨by rw[et];simp,rfl,rfl,rfl⟩
 |@rec_ fs ts l hq=>
  let wD:=kg;unfold Kd.good at kg;let Za:jZ (.rec_ fs) (.tup ts):=.rec_ l hq;let UE:=kd;let Qr:=qX;rw[Kd.depth]at kd qX;let Bv:=(Ex L Za wD Qr).len;let psm:=J2 wD Qr;rw[←abF L kg.2.2.2 l]at q Bv;rw[Kd.tr];left;show Ψ2 L fs ⟨rfl,kg.2.2.1,kg.2.2.2,λp hp=>?_⟩;left;show Ψ2 p _ ⟨rfl,As AE,?_⟩;show⟨λrest τ Γ'=>∃(xs ys:List (Str×(Kd×Nat))) (o3 o4 o6 o8:Option T),Az L.na (Bl fs)=xs++ys∧rest=ys.map (λz=>T.int (z.2.2:Nat))∧τ=[some (.tup [.str L.s1,.str L.s2,.str L.s3,.str L.s4]),some (.tup [.str "rec",.tup (CE fs)]),some (.tup ts),o3,o4,some (.tup (xs.map λz=>AP L z.2.1 (Jj ts z.2.2)).flatten),o6,some (.ref p),o8]∧up Γ p (.lst ((CU L.na fs).map λj=>T.int (j:Nat)))=Γ',Ψ6 [] _ none none none none ⟨rfl,by unfold CU;rw[CT];rfl,rfl,rfl⟩,?_,?_⟩
  ·intro τ Γ'⟨xs,ys,o3,o4,o6,o8,et,er,rfl,rfl⟩
   let hy:ys=[]:=by
    cases ys with
    |nil=>rfl
    |cons _ _=>cases er
   subst hy;rw[Bz]at et;show⟨As AE,?_⟩;left;rw[←et];show Ag (.new hp) q
  ·intro x r τ Γ'⟨xs,ys,o3,o4,o6,o8,et,er,rfl,rfl⟩
   cases ys with
   |nil=>cases er
   |cons y ys=>
    cases er;let gf:fs[y.2.2]?=some (y.1,y.2.1):=K6 (na:=L.na) (by rw[et];simp);let hy:y.2.2<fs.length:=(aao.mp gf).1;obtain⟨t,gt⟩:∃t,ts[y.2.2]?=some t:=⟨ts[y.2.2]'(by lia),by simp[show y.2.2<ts.length by lia]⟩;let ea:Jj ts y.2.2=t:=by unfold Jj;rw[gt];rfl
    let mem:=CQ gf;let dk:y.2.1.depth≤B6 fs:=DP mem;let gk:=DW kg.1 mem;let ht:=hq _ _ _ t gf gt;show⟨As AE,?_⟩;left;show FK (Hw gf) ?_;left;show FK gt ?_;left;show Ψ3 L y.2.1 t ⟨rfl,gk,by show y.2.1.depth<n;lia,by show y.2.1.depth≤5;lia,ht,?_⟩;let fl:(xs.map λz=>AP L z.2.1 (Jj ts z.2.2)).flatten.length+(AP L y.2.1 t).length≤5184:=by
     rw[et,Ao,ax,B9,Ar,E9,B9,ea]at Bv;lia
    show EW (B7 (by rw[CP];lia)) ?_;left;show Ψ6 (xs++[y]) ys _ _ _ _ ⟨by rw[et];simp,rfl,by simp only[Ao,ax,Ar,GQ,E9,XI,Bz,ea];rfl,rfl⟩
 |@pick fs m k2 j t f2 hq=>
  let wD:=kg;unfold Kd.good at kg;let UE:=kd;rw[Kd.depth]at kd qX;let ZQ:=M1 f2;let mem:=CQ ZQ;let dk:k2.depth≤B6 fs:=DP mem;let gk:k2.good:=DW kg.1 mem;let sm:=J2 gk (by lia);let sp:1+AF k2≤Bc fs:=Iz mem;let Pn:Bc fs≤865:=(LI fs 3 kg.1 (by lia)).2;let pl:=(Ex L hq gk (by lia)).len;rw[AP,MO L f2,pl,MR kg.2.2.2,CT]at q;rw[Kd.tr];left;show Ψ2 L fs ⟨rfl,kg.2.2.1,kg.2.2.2,λp hp=>?_⟩;left;let zl:(Az L.na (Bl fs)).length≤6:=by rw[L8,Rl];show kg.2.2.1
  show Ψ2 p _ ⟨rfl,As AE,B7 (Bq (by unfold CU;rw[Ac,Ac];lia)),?_⟩;show⟨λrest τ ys Γ'=>∃(xs more:List (Str×(Kd×Nat))) (o0:Option T),Az L.na (Bl fs)=xs++more∧rest=more.map (λz=>T.int (z.2.2:Nat))∧τ=[o0,some (.tup [.str "pick",.tup (CE fs)])]∧ys=(xs.map (·.1)).map T.str∧up Γ p (.lst ((CU L.na fs).map λj=>T.int (j:Nat)))=Γ',Ψ3 [] _ none ⟨rfl,by unfold CU;rw[CT];rfl,rfl,rfl,rfl⟩,?_,?_⟩
  ·intro τ ys Γ'⟨xs,more,o0,et,er,rfl,rfl,rfl⟩
   let hy:more=[]:=by
    cases more with
    |nil=>rfl
    |cons _ _=>cases er
   subst hy;rw[Bz]at et;rw[←et];show⟨As AE,λD hD=>?_⟩;show HI AE ?_;left;let zm:∃z∈Az L.na (Bl fs),z.1=m∧z.2.1=k2:=by
    have:(m,k2)∈Az L.na fs:=(FX L.na fs).mem_iff.mpr mem;rw[MR kg.2.2.2]at this;let⟨z,hz,e⟩:=aau.mp this;show⟨z,hz,(Prod.mk.inj e).1,(Prod.mk.inj e).2⟩
   let⟨z,hz,VF,ez2⟩:=zm;let mm:m∈(Az L.na (Bl fs)).map (·.1):=by rw[←VF];show aau.mpr ⟨z,hz,rfl⟩
   let⟨i1,i2⟩:=O5 mm;let W9:((Az L.na (Bl fs)).map (·.1)).idxOf m<(Az L.na (Bl fs)).length:=by have:=List.idxOf_lt_length_of_mem mm;rwa[Ac]at this
   let gm:((Az L.na (Bl fs)).map (·.1))[((Az L.na (Bl fs)).map (·.1)).idxOf m]?=some m:=by
    rw[BZ (by rw[Ac];show W9),List.getElem_idxOf]
   let q':Z (.tup (T.int ((((Az L.na (Bl fs)).map (·.1)).idxOf m:Nat):Int)::AP L k2 t++List.replicate (Bc fs-(1+AF k2)) (T.int 0))) Γ:=q;clear q;generalize ((Az L.na (Bl fs)).map (·.1)).idxOf m=j0 at i1 i2 W9 gm q';let nz:((Az L.na (Bl fs)).map (·.1)).Nodup:=JM (by rw[PH];show kg.2.2.2);let gz:(Az L.na (Bl fs))[j0]?=some z:=by
    rw[CZ]at gm;cases e:(Az L.na (Bl fs))[j0]? with
    |none=>rw[e]at gm;cases gm
    |some x=>
     rw[e]at gm;let e1:x.1=m:=EC gm;rw[PZ nz x (CQ e) z hz (e1.trans VF.symm)]
   let gf:=K6 hz;rw[VF,ez2]at gf;show Ψ6 D _ _ _ _ j0 ⟨rfl,rfl,As AE,Yq _,rfl,rfl,ad3 _,i1,i2,?_⟩;left;let gp:(up (up Γ p (.lst ((CU L.na fs).map λj=>T.int (j:Nat)))) D (.lst (((Az L.na (Bl fs)).map (·.1)).map T.str))) p=some (.lst ((CU L.na fs).map λj=>T.int (j:Nat))):=by rw[B8 (CL AE hD)];show AE
   show Ep gp (Es (v:=.int (z.2.2:Nat)) (by unfold CU;rw[CZ,CZ,gz];rfl)) ?_;left;show FK (Hw gf) ?_;left;show Ψ3 L k2 t ⟨rfl,gk,by lia,by lia,hq,?_⟩;show EW (B7 (by rw[pl,CP];show 1+_<_;lia)) ?_;left;show⟨.pick fs,by rw[Kd.tr],wD,by rw[Kd.depth];lia,?_⟩;rw[AF];left;let lu:([T.int (j0:Nat)]++AP L k2 t).length=1+AF k2:=by rw[B9,pl];rfl
   rw[lu];show Ψ2 _ _ ⟨rfl,rfl,by lia,by lia,by show 1≤1000;decide,?_⟩;rw[rep1];left;let e0:((Bc fs:Nat):Int)-((1+AF k2:Nat):Int)=((Bc fs-(1+AF k2):Nat):Int):=by lia
   rw[e0,Jc];show EW (B7 (by rw[lu,Iw,CP];lia)) ?_;show Ag (.trans (.new hp) (.new hD)) q'
  ·intro x r τ ys Γ'⟨xs,more,o0,et,er,rfl,rfl,rfl⟩
   cases more with
   |nil=>cases er
   |cons y more=>
    cases er;let gf:fs[y.2.2]?=some (y.1,y.2.1):=K6 (na:=L.na) (by rw[et];simp);show⟨As AE,?_⟩;left;show FK (Hw gf) ?_;left;show Ψ3 (xs++[y]) more _ ⟨by rw[et];simp,rfl,rfl,by rw[Ao,Ao];rfl,rfl⟩
end
abbrev AY(M:Nat)(xs:List T):Prop:=∀(i:Nat) (y:T),xs[i]?=some y→i+1+Dh y≤M
def AY.one(x:T):AY (1+Dh x) [x]:=λi y h=>by
 cases i with
 |zero=>cases h;lia
 |succ i=>simp at h
def AY.pre(h:AY M (ys++[y])):AY M ys:=λi z hz=>h i z (by rw[G3 (aao.mp hz).1];show hz)
def AY.len(h:AY M (ys++[.tup us])):ys.length+us.length+1≤M:=by
 have:=h ys.length (.tup us) (by simp);rw[Gp]at this;lia
def AY.push(h:AY M (ys++[.tup us])):AY M (ys++us):=λi z hz=>by
 by_cases c:i<ys.length
 ·rw[G3 c]at hz
  show h.pre i z hz
 ·rw[Fi (by lia)]at hz
  let h1:=h ys.length (.tup us) (by simp);rw[Gp]at h1;let h2:=WY (CQ hz);let h3:=(aao.mp hz).1;lia
section
@[reducible]def cB:Stmt:=Bk 56
def h7:BA ["found","due","left","one","other"] ["found","due"] (B4 cB):=Bm
abbrev oh:BQ:=λts Γ Z _=>∃x y:T,ts=[x,y]∧G7 x∧G7 y∧Dh y<sizeLine∧Z (.bl (MK x y)) Γ
abbrev FU(p:T×T):T:=.tup [p.1,p.2]
def eX:∀as bs:List T,E4 as bs=(as.zip bs).map FU
 |[],_=>by rw[List.zip_nil_left];rfl
 |_::_,[]=>rfl
 |a::as,b::bs=>by rw[rM,eX as bs];rfl
def cF:∀{as bs:List T},as.length=bs.length→(as=bs↔∀p∈as.zip bs,p.1=p.2)
 |[],[],_=>⟨λ_ p h=>(by cases h),λ_=>rfl⟩
 |a::as,b::bs,l=>by
  let ih:=cF (as:=as) (bs:=bs) (by simpa using l);rw[Lz];constructor
  ·intro e p hp
   let⟨e1,e2⟩:=D9 e;rcases aah.mp hp with rfl|hp
   ·show e1
   ·show ih.mp e2 p hp
  ·intro h
   rw[ih.mpr λp hp=>h p (by simp[hp]),show a=b from h (a,b) (by simp)]
 |[],_::_,l=>by cases l
 |_::_,[],l=>by cases l
def ye{a:Prop}{qs:List (T×T)}{p:T×T}(h:a↔∀q∈qs++[p],q.1=q.2):(p.1=p.2→(a↔∀q∈qs,q.1=q.2))∧(p.1≠p.2→¬a):=by
 show⟨λe=>h.trans ⟨λz q hq=>z q (by simp[hq]),λz q hq=>?_⟩,λn z=>n (h.mp z p (by simp))⟩;rcases aaC.mp hq with hq|hq
 ·show z q hq
 ·rw[aat.mp hq];show e
def ve(F:dR K "_law_same" "_law_same" cB f fd)(aj:mg "isinstance" = none)(ar:mg "tuple" = none)(zx:mg "str" = none)(eA:mg "int" = none)(iO:mg "bool" = none)(aG:mg "len" = none)(fi:mg "list" = none)(l8:mg "zip" = none):bB P w K mg am BJ 1 f fd ["found","due"] (BP oh):=by
 show Cb F h7 (λts Γ Z Y h=>?_) (λcA A outer s H E ts Γ Z Y hr h=>?_)
 ·let⟨x,y,rfl,_⟩:=h
  rfl
 let⟨x,x2,rfl,px,Yv,sx,q⟩:=h;show⟨_,(A9 (Aa (i:=2) h7.nd (BL (A4 (Bf (A4 (A3 0) (A4 (A3 1) A8))) A8)))
  (A9 (eE F8 (Aj (fS hr.kP) (A3 2) (BL A8)) (A9 (Iv (tY HS PySem.F.slot_list_pop PySem.F.type_list_pop adZ (A3 2)) (GK (n:=2) rfl (DZ (DE (i:=3) h7.nd) (DZ (DE (i:=4) h7.nd) Ga))))
  (A9 (Ek (Ah (Bu (E5 rfl aj rfl ar DK (A3 4))) (A9 (Ah (PW.pt (DX (DJ (Bu (E5 rfl aj rfl ar DK (A3 3)))) (EK (Aj Ei (BC Cv rfl aG Cd (A4 (A3 3) A8)) (BC Cv rfl aG Cd (A4 (A3 4) A8)))))) (A9 (Af JQ)
  AD) AD)
  (A9 (LG (HP HS kY lC lN (A3 2) (A4 (abt rfl rfl fi rfl l8 (A4 (A3 3) (A4 (A3 4) A8))) A8)))
  AD)) (A9 (Ek (Ah (Bu (E5 rfl aj rfl zx lS (A3 4))) (A9 (Ah (PW.pt (DX (DJ (Bu (E5 rfl aj rfl zx lS (A3 3)))) (EK (Aj Ei (A3 3) (A3 4))))) (A9 (Af JQ)
  AD) AD)
  AD) (A9 (Ah (PW.pt (DX (DJ (Bu (E5 rfl aj rfl eA Jn (A3 3)))) (DX (Bu (E5 rfl aj rfl iO WX (A3 3))) (EK (Aj Ei (A3 3) (A3 4)))))) (A9 (Af JQ)
  AD) AD)
  AD)))
  AD)))
  AD)))
  (A9 (Af JQ)
  AD))),?_⟩
 simp only[BW];left;intro L hL;show⟨λm τ Γ'=>∃(xs:List (T×T)) (o3 o4:Option T),τ=[some x,some x2,some (.ref L),o3,o4]∧Γ' L=some (.lst (xs.map FU))∧(∀y∈xs,G7 y.1∧G7 y.2)∧ER (xs.map Prod.snd)=m∧AY (1+Dh x2) (xs.map Prod.snd)∧(x=x2↔∀p∈xs,p.1=p.2)∧Le Γ Γ',Ψ4 (ER [x2]) [(x,x2)] none none ⟨rfl,AE,λy hy=>by rw[aat.mp hy];show⟨px,Yv⟩,rfl,AY.one x2,⟨λe p hp=>by rw[aat.mp hp];show e,λh=>h (x,x2) (by simp)⟩,.new hL⟩,?_⟩;intro m τ Γ1⟨xs,o3,o4,rfl,gL,hp,hm,ml,hx,le⟩;left;intro p Cw;let Sx:(up Γ1 p (.lst [])) L=some (.lst (xs.map FU)):=by rw[B8 (CL gL Cw)];show gL
 show Ψ3 L p _ ⟨rfl,rfl,Sx,AE,?_⟩;let Uz:Le Γ (up Γ1 p (.lst [])):=le.trans (.new Cw);generalize up Γ1 p (.lst [])=Γ2 at Sx Uz ⊢;rcases Md xs with rfl|⟨ys,y,ey⟩
 ·left
  rw[pS.mpr (hx.mpr λp hp=>by cases hp)]at q;show Ag Uz q
 ·rw[OE]at ey
  subst ey;left;show SK (by simp) ?_;obtain⟨y1,y2⟩:=y;let⟨ie,WU⟩:=ye hx;dsimp only at ie WU;show⟨λτ' Γ'=>∃m',m' < m∧∃(xs:List (T×T)) (o3 o4:Option T),τ'=[some x,some x2,some (.ref L),o3,o4]∧Γ' L=some (.lst (xs.map FU))∧(∀y∈xs,G7 y.1∧G7 y.2)∧ER (xs.map Prod.snd)=m'∧AY (1+Dh x2) (xs.map Prod.snd)∧(x=x2↔∀p∈xs,p.1=p.2)∧Le Γ Γ',λ_ _ h=>h,?_⟩;left;show HI Sx ?_;show Ψ3 L _ (.tup [y1,y2]) ⟨rfl,rfl,Sx,by simp[FU],?_⟩;let dl:((ys++[(y1,y2)]).map FU).dropLast=ys.map FU:=by simp
  simp only[dl];rw[Ao,SN,Ar,GQ,ER,ER,Nat.add_zero]at hm;rw[Ao,Ar,GQ]at ml;dsimp only at hm ml;let py:=hp (y1,y2) (by simp);let pos:=fE y2;let BK:Le Γ (up Γ2 L (.lst (ys.map FU))):=λb o g=>by
   have:b≠L:=CL g hL;rw[B8 this];show Uz b o g
  let fin:y1=y2→∃m',m' < m∧∃(xs:List (T×T)) (o3 o4:Option T),[some x,some x2,some (.ref L),some y1,some y2]=[some x,some x2,some (.ref L),o3,o4]∧(up Γ2 L (.lst (ys.map FU))) L=some (.lst (xs.map FU))∧(∀y∈xs,G7 y.1∧G7 y.2)∧ER (xs.map Prod.snd)=m'∧AY (1+Dh x2) (xs.map Prod.snd)∧(x=x2↔∀p∈xs,p.1=p.2)∧Le Γ (up Γ2 L (.lst (ys.map FU))):=λe=>
   ⟨ER (ys.map Prod.snd),by lia,ys,_,_,rfl,AE,λz hz=>hp z (by simp[hz]),rfl,ml.pre,ie e,BK⟩
  let bad:y1≠y2→Z (.bl false) Γ:=λn=>by
   have:=ado (t:=x) (u:=x2) (b:=false) ⟨λh=>(by cases h),λh=>absurd h (WU n)⟩;rwa[this]at q
  let⟨RV,Wm⟩:=py;dsimp only at RV Wm;left;show Ik ?_;left;cases Wm with
  |int i=>
   show Ψ2 _ false ⟨rfl,rfl,?_⟩;left;show Ik ?_;left;show Ψ2 _ false ⟨rfl,rfl,?_⟩;left;cases RV with
   |int i2=>
    show Ψ2 _ true ⟨rfl,rfl,?_⟩;left;show Ψ2 _ false ⟨rfl,rfl,?_⟩;left;show B5 (λc=>?_) (λc=>?_)
    ·left
     show Ag BK (bad λe=>by cases e;simp at c)
    ·left
     show fin (Ca T.int (by simpa using c))
   |str=>
    show Ψ2 _ false ⟨rfl,rfl,?_⟩;left;show Ag BK (bad λe=>by cases e)
   |@tup us hu=>
    show Ψ2 _ false ⟨rfl,rfl,?_⟩;left;show Ag BK (bad λe=>by cases e)
  |@str z=>
   show Ψ2 _ false ⟨rfl,rfl,?_⟩;left;show Ik ?_;left;show Ψ2 _ true ⟨rfl,rfl,?_⟩;left;cases RV with
   |int i2=>
    show Ψ2 _ false ⟨rfl,rfl,?_⟩;left;show Ag BK (bad λe=>by cases e)
   |@str z2=>
    show Ψ2 _ true ⟨rfl,rfl,?_⟩;left;show B5 (λc=>?_) (λc=>?_)
    ·left
     show Ag BK (bad λe=>by cases e;simp at c)
    ·left
     show fin (Ca T.str (by simpa using c))
   |@tup us hu=>
    show Ψ2 _ false ⟨rfl,rfl,?_⟩;left;show Ag BK (bad λe=>by cases e)
  |@tup us hu=>
   show Ψ2 _ true ⟨rfl,rfl,?_⟩;left;cases RV with
   |int i2=>
    show Ψ2 _ false ⟨rfl,rfl,?_⟩;left;show Ag BK (bad λe=>by cases e)
   |str=>
    show Ψ2 _ false ⟨rfl,rfl,?_⟩;left;show Ag BK (bad λe=>by cases e)
   |@tup vs hv=>
    show Ψ2 _ true ⟨rfl,rfl,?_⟩;left;show B5 (λc=>?_) (λc=>?_)
    ·left
     show Ag BK (bad λe=>by cases e;simp at c)
    left;let lv:vs.length=us.length:=by
     have:(vs.length:Int)=us.length:=by simpa using c
     lia
    show HI AE ?_;left;show⟨lv,λp2 iJ=>?_⟩;rw[eX];rw[OH]at hm;let l1:=Tt (ys.map Prod.snd);let l2:=Tt us;let ZV:(up (up Γ2 L (.lst (ys.map FU))) p2 (.lst ((vs.zip us).map FU))) L=some (.lst (ys.map FU)):=by rw[B8 (CL AE iJ)];show AE
    let zs:(vs.zip us).map Prod.snd=us:=List.map_snd_zip (by lia);let zl:(vs.zip us).length=us.length:=by rw[List.length_zip];lia
    show Ψ4 L p2 _ _ ⟨rfl,rfl,ZV,AE,by rw[Ac,Ac,zl];have:=ml.len;rw[Ac]at this;lia,?_⟩;show⟨ER ((ys++vs.zip us).map Prod.snd),by rw[Ao,zs,SN];lia,ys++vs.zip us,_,_,rfl,by rw[AE,Ao],λz hz=>?_,rfl,by rw[Ao,zs];show ml.push,?_,λb o g=>?_⟩
    ·rcases aaC.mp hz with h|h
     ·show hp z (by simp[h])
     ·show⟨hv _ (Hy (a:=z.1) (b:=z.2) h).1,hu _ (Hy (a:=z.1) (b:=z.2) h).2⟩
    ·show hx.trans ⟨λh r hr=>?_,λh r hr=>?_⟩
     ·rcases aaC.mp hr with hr|hr
      ·show h r (by simp[hr])
      ·show(cF lv).mp (T.tup.inj (h (.tup vs,.tup us) (by simp))) r hr
     ·rcases aaC.mp hr with hr|hr
      ·show h r (by simp[hr])
      ·rw[aat.mp hr]
       show T.tup vs=T.tup us
       rw[(cF lv).mpr λr hr=>h r (by simp[hr])]
    ·have:b≠L:=CL g hL
     rw[B8 this];show(BK.trans (.new iJ)) b o g
abbrev dz:BQ:=λts Γ Z _=>∃c:Int,ts=[.int c]∧∀(a:Addr) (Γ':AL),Γ a=none→aH Γ' a→Fr [a] Γ Γ'→Z (.ref a) Γ'
def abX{k:Nat}(c:Callee P w K mg am "_law_flow" k ["cell"] mQ):AV P w K mg am "_law_flow" k ["cell"] dz:=
 c.imp λvs H Q E ⟨ts,Γ,Z,Y,r,hr,⟨c,e,q⟩,vr,xr⟩=>by
  subst e;let⟨v,rfl,r1⟩:=pH r;show⟨c,by rw[D8 r1],λa H' ha sm fl=>?_⟩;let⟨f0,f1,f2,e',b'⟩:=fl;let g:=hr.free ha;let tq:Tq H H':=DA sm;show vr _ _ H' (up Γ a (.lst [.int f0,.int f1,.int f2])) ⟨tq,λx h z=>?_,λx h g'=>?_,λx o h _=>sm x o h⟩ (λx o g'=>?_) EV (q a _ g ⟨f0,f1,f2,AE,b'⟩ (Fr.set (by simp) _))
  ·cases e:H x with
   |none=>show h e
   |some o=>show(by rw[sm x o e]at z;cases z)
  ·have:x≠a:=λz=>h (by rw[z];show ha)
   rw[B8 this];show g'
  ·by_cases z:x=a
   ·subst z;rw[AE]at g';cases g';show⟨_,e',J0 [f0,f1,f2]⟩
   ·rw[B8 z]at g';show(hr x o g').mono tq (sm x)
def abW{ps:List Str}{sp:Dn}{k:Nat}(no:∀vs H Q E,¬sp vs H Q E):bB P w K mg am BJ k f fd ps sp:=
 ⟨λvs H Q E h=>absurd h (no vs H Q E),λA outer s H args us vs Q E _ _ _ _ h=>absurd h (no vs H Q E)⟩
def kind_all(F:dR K "_law_kind" "_law_kind" Px f fd)(m:mg "_law_kind" = some (.ref f))(kp:W.keepIn K (.ref f)=true)(b:Binds K fd ["flow","depth","room"] [])
  (C4:Callee P w K mg am "_law_draw" 1 ["flow","many"] ON) (C5:Callee P w K mg am "_law_name" 2 ["flow","taken"] NP) (aJ:mg "range" = none) (ar:mg "tuple" = none) :
  ∀n:Nat,Callee P w K mg am "_law_kind" (2+n) ["flow","depth","room"] (OJ n)
 |0=>Ψ2 f fd ⟨abW λvs H Q E h=>by let⟨_,_,d,_,_,_,h1,h2,_⟩:=h;let h3:d<0:=h2;lia,m,kp,b⟩
 |n+1=>Ψ2 f fd ⟨zV F C4 C5 (kind_all F m kp b C4 C5 aJ ar n) aJ ar,m,kp,b⟩
def gq(F:dR K "_law_leaves" "_law_leaves" S2 f fd)(m:mg "_law_leaves" = some (.ref f))(kp:W.keepIn K (.ref f)=true)(b:Binds K fd ["kind"] [])(eZ:mg "sum" = none):
  ∀n:Nat,AV P w K mg am "_law_leaves" n ["kind"] (Ma n)
 |0=>Ψ2 f fd ⟨HA λts Γ Z Y h=>by obtain⟨k,_,_,h,_⟩:=h;lia,m,kp,b⟩
 |n+1=>Ψ2 f fd ⟨yC F (gq F m kp b eZ n) eZ,m,kp,b⟩
def qB(F:dR K "_law_worth" "_law_worth" Od f fd)(m:mg "_law_worth" = some (.ref f))(kp:W.keepIn K (.ref f)=true)(b:Binds K fd ["flow","kind","room"] [])
  (C1:AV P w K mg am "_law_draw" 1 ["flow","many"] Ey) (C2:AV P w K mg am "_law_number" 2 ["flow","width"] Wl)
  (Be:AV P w K mg am "_law_many" 2 ["flow"] bz) (C4:AV P w K mg am "_law_sign" 2 ["flow"] Ow) (C5:AV P w K mg am "_law_leaves" 13 ["kind"] (Ma 13))
  (ky:mg "min" = none) (dh:mg "max" = none) (aJ:mg "range" = none) (ar:mg "tuple" = none) (aG:mg "len" = none) :
  ∀n:Nat,AV P w K mg am "_law_worth" (17+n) ["flow","kind","room"] (LJ n)
 |0=>Ψ2 f fd ⟨HA λts Γ Z Y h=>by obtain⟨_,_,k,_,_,_,_,h,_⟩:=h;lia,m,kp,b⟩
 |n+1=>Ψ2 f fd ⟨abG F (qB F m kp b C1 C2 Be C4 C5 ky dh aJ ar aG n) C1 C2 Be C4 (C5.mono (DN (by decide:13≤17) (Mu _ _))) (DN (by decide:2≤17) (Mu _ _)) ky dh aJ ar aG,m,kp,b⟩
def fh(F:dR K "size_of" "size_of" PX f fd)(m:mg "size_of" = some (.ref f))(kp:W.keepIn K (.ref f)=true)(b:Binds K fd ["kind"] [])(eZ:mg "sum" = none)(dh:mg "max" = none):
  ∀n:Nat,AV P w K mg am "size_of" n ["kind"] (Hz n)
 |0=>Ψ2 f fd ⟨HA λts Γ Z Y h=>by obtain⟨k,_,_,h,_⟩:=h;lia,m,kp,b⟩
 |n+1=>Ψ2 f fd ⟨xW F (fh F m kp b eZ dh n) eZ dh,m,kp,b⟩
def iG(F:dR K "_law_size" "_law_size" Ro f fd)(m:mg "_law_size" = some (.ref f))(kp:W.keepIn K (.ref f)=true)(b:Binds K fd ["kind"] [])(dh:mg "max" = none):
  ∀n:Nat,AV P w K mg am "_law_size" n ["kind"] (IB n)
 |0=>Ψ2 f fd ⟨HA λts Γ Z Y h=>by obtain⟨k,_,_,h,_⟩:=h;lia,m,kp,b⟩
 |n+1=>Ψ2 f fd ⟨wR F (iG F m kp b dh n) dh,m,kp,b⟩
def aaK(vs:List V)(H:A7)(Q:Au)(E:BF)(h:BP (eC n) vs H Q E):BP (Lp n) vs H Q E:=by
 let⟨ts,Γ,Z,Y,r,hr,⟨L,k,u,e,kg,kd,qX,hs,q⟩,vr,xr⟩:=h;show Ψ4 ts Γ Z Y ⟨r,hr,Ψ3 L k u ⟨e,kg,kd,qX,hs.hx,q⟩,vr,xr⟩
def fY(F:dR K "_law_picture" "_law_picture" Oh f fd)(m:mg "_law_picture" = some (.ref f))(kp:W.keepIn K (.ref f)=true)(b:Binds K fd ["laying","kind","worth"] [])(C1:AV P w K mg am "_law_places" 1 ["laying","fields"] Mo)(C2:AV P w K mg am "_law_size" 6 ["kind"] (IB 6))(ar:mg "tuple" = none)(aG:mg "len" = none)(sR:mg "ord" = none):
  ∀n:Nat,AV P w K mg am "_law_picture" (n+7) ["laying","kind","worth"] (Lp n)
 |0=>Ψ2 f fd ⟨HA λts Γ Z Y h=>by obtain⟨_,k,_,_,_,h,_⟩:=h;lia,m,kp,b⟩
 |n+1=>Ψ2 f fd ⟨by rw[show n+1+7=n+7+1 by lia];show aaW F ((fY F m kp b C1 C2 ar aG sR n).imp aaK) C1 C2 ar aG sR,m,kp,b⟩
end
inductive In(Γ:AL):T→Prop
 |non:In Γ .non
 |bl (b:Bool):In Γ (.bl b)
 |int (i:Int):In Γ (.int i)
 |str (z:Str):In Γ (.str z)
 |tup {us:List T} (h:∀u∈us,In Γ u):In Γ (.tup us)
 |lst {a:Addr} {ts:List T} (h:Γ a=some (.lst ts)):In Γ (.ref a)
def In.le(l:Le Γ Γ'):∀{t:T},In Γ t→In Γ' t:=λh=>by
 induction h with
 |non=>show .non
 |bl b=>show .bl b
 |int i=>show .int i
 |str z=>show .str z
 |tup h ih=>show .tup ih
 |lst h=>show .lst (l _ _ h)
def Pc.Kn:∀{t:T},Pc t→In Γ t:=λh=>by
 induction h with
 |int i=>show .int i
 |tup h ih=>show .tup ih
def In.mem(h:In Γ (.tup us))(m:u∈us):In Γ u:=by
 cases h with
 |tup h=>show h u m
abbrev acG:T→Bool
 |.int _=>true
 |_=>false
abbrev BY:T→Bool
 |.int i=>decide (0≤i)&&decide (i<65536)
 |_=>false
def FO(h:BY t=true):∃i:Int,t=.int i∧0≤i∧i<65536:=by
 cases t with
 |int i=>
  unfold BY at h;rw[FI,bq,bq]at h;show⟨i,rfl,h.1,h.2⟩
 |_=>cases h
def R5:∀{sl:List T},(∀t∈sl,BY t=true)→∃ws:List Int,sl=ws.map T.int∧∀x∈ws,0≤x∧x<65536
 |[],_=>⟨[],rfl,λ_ h=>nomatch h⟩
 |t::r,h=>by
  let⟨ws,rfl,q⟩:=R5 (sl:=r) λt ht=>h t (by simp[ht]);let⟨i,rfl,i0,i1⟩:=FO (h t (by simp));show⟨i::ws,rfl,λx hx=>by
   rcases aah.mp hx with rfl|hx
   ·show⟨i0,i1⟩
   ·show q x hx⟩
abbrev GR:Int→Bool:=λi=>decide (32≤i)&&decide (i≤126)&&!decide (i=37)
def Pm{c:Nat}:GR (c:Int)=Dq c:=by
 unfold GR Dq;let e1:decide ((32:Int)≤(c:Int))=decide (32≤c):=by rw[NM];lia
 let e2:decide ((c:Int)≤126)=decide (c≤126):=by rw[NM];lia
 let e3:decide ((c:Int)=37)=decide (c=37):=by rw[NM];lia
 rw[e1,e2,e3]
abbrev CF(Z:Cr)(C:Addr)(Y:Value→AL→Prop)(Γ:AL)(r:T→Prop):Prop:=(∀u,r u→Z u Γ)∧((∀u,¬r u)→Y (.ref C) Γ)
def TB{O:List (Str×Kd)}:∀{o:List (Str×Kd)} {n:Str},Ce (o++O) n=if n∈o.map (·.1)then Ce o n else Bb o+Ce O n
 |[],n=>by rw[IP,Bb,F6];rfl
 |(m,k)::o,n=>by
  rw[Ig,Ce,Ce,Bb,TB (o:=o)];by_cases e:m=n
  ·rw[AI e,AI (by rw[←e];simp),AI e]
  ·rw[AH e,AH e]
   by_cases c:n∈o.map (·.1)
   ·rw[AI c,AI (by simp at c ⊢;show .inr c)]
   ·rw[AH c,AH (by simp at c ⊢;show⟨λz=>e z.symm,c⟩)]
    lia
def xV{Y:EM}(h:te Y τ Γ λx Γ1=>∃ns:List Int,x=.tup (ns.map T.int)∧(∀n∈ns,0≤n∧n<128)∧Z (.str ⟨(ns.map Int.toNat).toArray⟩) Γ1):dt te Y τ Γ Z:=h
section
variable {vW v2 v3: Value}
@[reducible]def dS:Stmt:=Bk 16
def rf:BA ["thing"] ["thing"] (B4 dS):=Bm
abbrev Rh:BQ:=λts Γ Z _=>∃t:T,ts=[t]∧In Γ t∧Z (.bl (acG t)) Γ
def yV(F:dR K "is_whole" "is_whole" dS f fd)(aj:mg "isinstance" = none)(eA:mg "int" = none)(iO:mg "bool" = none):bB P w K mg am BJ 1 f fd ["thing"] (BP Rh):=by
 show Cb F rf (λts Γ Z Y h=>?_) (λcA A outer s H E ts Γ Z Y hr h=>?_)
 ·let⟨t,rfl,_⟩:=h
  rfl
 let⟨t,rfl,ht,q⟩:=h;show⟨_,(A9 (Af (Gk (E5 rfl aj rfl eA Jn (A3 0)) (Hi (fm (E5 rfl aj rfl iO WX (A3 0))))))
  AD),?_⟩
 simp only[BW];left;cases ht with
 |non=>show Ψ2 _ false ⟨rfl,rfl,by left;show Ag .refl q⟩
 |bl b=>show Ψ2 _ true ⟨rfl,rfl,by left;show Ψ2 _ true ⟨rfl,rfl,by left;show Ag .refl q⟩⟩
 |int i=>show Ψ2 _ true ⟨rfl,rfl,by left;show Ψ2 _ false ⟨rfl,rfl,by left;show Ag .refl q⟩⟩
 |str z=>show Ψ2 _ false ⟨rfl,rfl,by left;show Ag .refl q⟩
 |tup h=>show Ψ2 _ false ⟨rfl,rfl,by left;show Ag .refl q⟩
 |lst h=>show Ψ2 ("list") false ⟨(HI (A:=True) h trivial).1,rfl,by left;show Ag .refl q⟩
@[reducible]def Yf:Stmt:=Bk 27
def aa4:BA ["number"] ["number"] (B4 Yf):=Bm
abbrev jy:BQ:=λts Γ Z _=>∃i:Int,ts=[.int i]∧Z (.bl (GR i)) Γ
def vL(F:dR K "is_sign" "is_sign" Yf f fd)(i7:mg "FIRST_SIGN" = some v1)(uL:GX v1 (.int 32))(jS:mg "LAST_SIGN" = some v2)(wL:GX v2 (.int 126))(fz:mg "HUNDREDTH_SIGN" = some v3)(oi:GX v3 (.int 37)):bB P w K mg am BJ 1 f fd ["number"] (BP jy):=by
 show Cb F aa4 (λts Γ Z Y h=>?_) (λcA A outer s H E ts Γ Z Y hr h=>?_)
 ·let⟨i,rfl,_⟩:=h
  rfl
 let⟨i,rfl,q⟩:=h;unfold GR at q;show⟨_,(A9 (Af (Gk (og Pe Pe (E8 rfl i7 uL) (A3 0) (E8 rfl jS wL)) (Hi (Eo Ei (A3 0) (E8 rfl fz oi)))))
  AD),?_⟩
 simp only[BW];left;show B5 (λc=>?_) (λc=>?_)
 ·rw[c,Hk]at q
  left;show B5 (λc2=>?_) (λc2=>?_)
  ·rw[c2,Hk]at q
   left;rw[show decide (V.int i=V.int 37)=decide (i=37)from by rw[NM];show⟨V.int.inj,Ca _⟩];show Ag .refl q
  ·rw[c2,FT]at q
   left;show Ag .refl q
 ·rw[c,FT,FT]at q
  left;show Ag .refl q
@[reducible]def aq:Stmt:=Bk 29
def xS:BA ["thing"] ["thing"] (B4 aq):=Bm
abbrev G0:BQ:=λts Γ Z _=>∃t:T,ts=[t]∧In Γ t∧Z (.bl (BY t)) Γ
def uB(F:dR K "is_word" "is_word" aq f fd)(zq:AV P w K mg am "is_whole" 1 ["thing"] Rh)(cW:mg "WORD_NUMBERS" = some vW)(gZ:GX vW (.int 65536)):bB P w K mg am BJ 2 f fd ["thing"] (BP G0):=by
 show Cb F xS (λts Γ Z Y h=>?_) (λcA A outer s H E ts Γ Z Y hr h=>?_)
 ·let⟨t,rfl,_⟩:=h
  rfl
 let⟨t,rfl,ht,q⟩:=h;show⟨_,(A9 (Af (Gk (AM zq hr (A4 (A3 0) A8)) (Hi (og Pe Ml AB (A3 0) (E8 rfl cW gZ)))))
  AD),?_⟩
 simp only[BW];left;show⟨t,rfl,ht,?_⟩;cases ht with
 |int i=>
  dsimp only[BY]at q;left;show B5 (λc=>?_) (λc=>?_)
  ·rw[c,Hk]at q
   left;show Ag .refl q
  ·rw[c,FT]at q
   left;show Ag .refl q
 |_=>left;show Ag .refl q
@[reducible]def au:Stmt:=Bk 30
def bU:BA ["halves","words","number","numbers","word"] ["halves","words"] (B4 au):=Bm
abbrev oI:BQ:=λts Γ Z _=>∃(L:Ly) (ws:List Int),ts=[.str L.s1,.tup (ws.map T.int)]∧ws.length≤4∧(∀x∈ws,0≤x∧x<65536)∧Z (.int (HY ws.length (val (EI L.hi ws)))) Γ
def fu:∀(ws:List Int) (x:Int),val (ws++[x])=val ws+x*65536^ws.length
 |[],x=>by show x+65536*0=0+x*1;lia
 |y::ws,x=>by
  rw[Ig,val,val,fu ws x,BE,Gh,Int.mul_add,Int.add_assoc];congr 2
  rw[Lm 65536,Int.mul_assoc]
def fw{xs:List Int}{t0 t1:T}(l4:xs.length≤4)(rl:∀x∈xs,0≤x∧x<65536)(q:Z (.int (HY xs.length (val xs))) Γ):
  TY FQ (hName 4) (OC (Rj 2 (F0 (Hr vh λi j=>T.int (i*j)) (Ic 4) (Ic 3)) (GF λi j=>T.int (i+j))) (OC (Rj 3 (HZ (T.int 65536)) (Hr vh λi j=>T.int (i*j))) OW)) EG
   {nx:=OC (aC (bR (Lb (F0 (GF λi j=>T.bl (decide (j≤i))) (F0 (Hr vh λi j=>T.int (i*j)) (HZ (T.int 2)) (Ic 2)) (Ic 3))) (F0 (GF λi j=>T.int (i-j)) (Ic 2) (Ic 3)) (Ic 2))) OW EG {nx:=λx Γ'=>E3 Z T.non Γ',rt:=E3 Z},rt:=E3 Z}
   (xs.map T.int) [some t0,some t1,some (.int 0),some (.int 1),none] Γ:=by
 show⟨λrest τ Γ'=>∃(hs gs:List Int) (o:Option T),xs=hs++gs∧rest=gs.map T.int∧τ=[some t0,some t1,some (.int (val hs)),some (.int (65536^hs.length)),o]∧Γ'=Γ,Ψ3 [] xs none ⟨rfl,rfl,rfl,rfl⟩,?_,?_⟩
 ·intro τ Γ'⟨hs,gs,o,ex,er,rfl,rfl⟩
  cases gs with
  |cons g r=>cases er
  |nil=>
   rw[Bz]at ex;subst ex;show⟨trivial,?_⟩;left;unfold HY at q;show B5 (λc=>?_) (λc=>?_)
   ·rw[AI (Ec c)]at q
    left;show Ag .refl q
   ·rw[AH (Fn c)]at q
    left;show Ag .refl q
 ·intro x r τ Γ'⟨hs,gs,o,ex,er,rfl,rfl⟩
  cases gs with
  |nil=>cases er
  |cons g gs=>
   cases er;let gx:=rl g (by rw[ex];simp);show⟨trivial,?_⟩;left;show To rfl ?_;left;show G4 (Or.inl ⟨by lia,by lia⟩) ?_;left;show To rfl ?_;left;show Ψ3 (hs++[g]) gs (some (.int g)) ⟨by rw[ex];simp,rfl,?_,rfl⟩;rw[fu,B9,show hs.length+[g].length=hs.length+1 from rfl,Gh];rfl
def gX{td ty tv:AX}{Y:EM}{D:FC}(h:tv Y τ Γ λv Γ1=>td Y τ Γ1 λx Γ2=>ty Y τ Γ2 λy Γ3=>∃a aQ k,x=.ref a∧y=Mb k∧Γ3 a=some (.dK aQ)∧aQ.length<sizeLine∧D.nx τ (up Γ3 a (.dK (Jk aQ k v)))):oY td ty tv Y D τ Γ:=h
def aaH(F:dR K "number_of_words" "number_of_words" au f fd)(cW:mg "WORD_NUMBERS" = some vW)(gZ:GX vW (.int 65536)):bB P w K mg am BJ 1 f fd ["halves","words"] (BP oI):=by
 show Cb F bU (λts Γ Z Y h=>?_) (λcA A outer s H E ts Γ Z Y hr h=>?_)
 ·let⟨L,ws,rfl,_⟩:=h
  rfl
 let⟨L,ws,rfl,l4,rg,q⟩:=h;show⟨_,(A9 (Aa (i:=2) bU.nd AB)
  (A9 (Aa (i:=3) bU.nd AB)
  (A9 (G6 F8 rfl (F1 (ML (Aj BH (A3 0) Ai) (A3 1) (Oi (A3 1) (FP AB)))) (DE (i:=4) bU.nd) (A9 (bp (i:=2) bU.nd rfl (Or.inl rfl) (AN GG (A3 4) (A3 3)) jG)
  (A9 (bp (i:=3) bU.nd rfl (Or.inl rfl) (E8 rfl cW gZ) ab0)
  AD)))
  (A9 (Af (ML (Aj Kw (AN GG AB (A3 2)) (A3 3)) (AN Fe (A3 2) (A3 3)) (A3 2)))
  AD)))),?_⟩
 simp only[BW];let ll:=WW L.hi ws;rw[←ll]at q l4;let rl:∀x∈EI L.hi ws,0≤x∧x<65536:=λx hx=>rg x (qT.mp hx);left;show B5 (λc=>?_) (λc=>?_)
 ·left
  let el:EI L.hi ws=ws:=by unfold EI;rw[xY (Hs c)];rfl
  rw[el]at l4 rl q;show fw l4 rl q
 ·left
  show⟨rfl,_,rfl,?_⟩;show⟨(EI L.hi ws).map T.int,by unfold EI;rw[sL (Hh c),AI rfl,Ub],?_⟩;show fw l4 rl q
@[reducible]def bZ:Stmt:=Bk 20
def cp:BA ["laying","fields","offsets","ahead","name","inner"] ["laying","fields"] (B4 bZ):=Bm
abbrev VA(pT:Addr):BQ:=λts Γ Z _=>∃(L:Ly) (fs:al),ts=[L.tr,.tup (CE fs)]∧(fs.map (·.1)).Nodup∧fs.length<64∧(∀p∈fs,p.2.good∧p.2.depth<6)∧jq pT Γ∧∀D,Γ D=none→Z (.ref D) (up Γ D (.dK ((Az L.na fs).map λp=>(.inr p.1,.int (Ce (Az L.na fs) p.1:Nat)))))
def vV(F:dR K "field_offsets" "field_offsets" bZ f fd)(lV:AV P w K mg am "in_order" 6 ["laying","fields"] (Pw pT))(cC:AV P w K mg am "size_of" 6 ["kind"] (Hz 6)):bB P w K mg am BJ 7 f fd ["laying","fields"] (BP (VA pT)):=by
 show Cb F cp (λts Γ Z Y h=>?_) (λcA A outer s H E ts Γ Z Y hr h=>?_)
 ·let⟨L,fs,rfl,_⟩:=h
  rfl
 let⟨L,fs,rfl,nd,WN,ok,gl,q⟩:=h;show⟨_,(A9 (Aa (i:=2) cp.nd fT)
  (A9 (Aa (i:=3) cp.nd AB)
  (A9 (G6 F8 rfl (F1 (AM lV hr (A4 (A3 0) (A4 (A3 1) A8)))) (GK (n:=2) rfl (DZ (DE (i:=4) cp.nd) (DZ (DE (i:=5) cp.nd) Ga))) (A9 (oo (O9 (Ql (by decide:1≤64) _) hr.units) (A3 2) (A3 4) (A3 3))
  (A9 (bp (i:=3) cp.nd rfl (Or.inl rfl) (AM cC hr (A4 (A3 5) A8)) jG)
  AD)))
  (A9 (Af (A3 2))
  AD)))),?_⟩
 simp only[BW];let Gv:=JM (na:=L.na) nd;let pm:=FX L.na fs;let lO:=L8 L.na fs;left;intro D hD;left;show Ψ2 L (fs.map λp=>(p.1,p.2.tr)) ⟨by rw[aw],by rw[Ac];lia,by rw[CT];show nd,gl.new hD,?_⟩;rw[lq nd];left;show⟨λrest τ Γ'=>∃(hs gs:al) (o4 o5:Option T),Az L.na fs=hs++gs∧rest=CE gs∧τ=[some L.tr,some (.tup (CE fs)),some (.ref D),some (.int (Bb hs:Nat)),o4,o5]∧Γ'=up Γ D (.dK (hs.map λp=>(.inr p.1,.int (Ce (Az L.na fs) p.1:Nat)))),Ψ4 [] _ none none ⟨rfl,rfl,by rw[Bb];rfl,rfl⟩,?_,?_⟩
 ·intro τ Γ'⟨hs,gs,o4,o5,eo,er,rfl,rfl⟩
  cases gs with
  |cons p r=>cases er
  |nil=>
   rw[Bz]at eo;show⟨trivial,?_⟩;left;rw[←eo];show Ag .refl (q D hD)
 ·intro x r τ Γ'⟨hs,gs,o4,o5,eo,er,rfl,rfl⟩
  cases gs with
  |nil=>cases er
  |cons p gs=>
   obtain⟨nm,k⟩:=p;rw[CE]at er;cases er;let km:=ok (nm,k) (pm.mem_iff.mp (by rw[eo];simp));let nh:nm∉hs.map (·.1):=λz=>by
    rw[eo,Ao,ND]at Gv;show Gv.2.2 nm z nm (by simp) rfl
   let Jg:Ce (Az L.na fs) nm=Bb hs:=by rw[eo,TB,AH nh,Ce,AI rfl];lia
   let hl:hs.length≤fs.length:=by rw[←lO,eo,B9];lia
   show⟨trivial,?_⟩;left;show gX ?_;left;show Ψ3 D _ (.inr nm) ⟨rfl,rfl,AE,by rw[Ac,CP];lia,?_⟩;rw[jC (λy hy z=>by
    let⟨p,hp,rfl⟩:=aau.mp hy;show nh (aau.mpr ⟨p,hp,Sum.inr.inj z⟩)),T7]
   left;show To rfl ?_;left;show⟨k,rfl,km.1,km.2,?_⟩;left;show Ψ4 (hs++[(nm,k)]) gs (some (.str nm)) (some k.tr) ⟨by rw[eo];simp,rfl,?_,?_⟩
   ·let es:Bb (hs++[(nm,k)])=Bb hs+AF k:=by rw[K8,K8,Ao,Vz];simp
    rw[es,Hv];rfl
   ·rw[Ao,←Jg]
    rfl
@[reducible]def TC:Stmt:=Bk 31
def zO:BA ["signs"] ["signs"] (B4 TC):=Bm
abbrev jU:BQ:=λts Γ Z _=>∃cs:List Nat,ts=[.tup (cs.map FE)]∧cs.all Dq=true∧Z (.str ⟨cs.toArray⟩) Γ
def aas(F:dR K "text_of_signs" "text_of_signs" TC f fd)(tU:mg "bytes" = none):bB P w K mg am BJ 1 f fd ["signs"] (BP jU):=by
 show Cb F zO (λts Γ Z Y h=>?_) (λcA A outer s H E ts Γ Z Y hr h=>?_)
 ·let⟨cs,rfl,_⟩:=h
  rfl
 let⟨cs,rfl,ok,q⟩:=h;show⟨_,(A9 (Af (acK rfl rfl tU (A3 0)))
  AD),?_⟩
 simp only[BW];left;show xV ?_;left;let e:cs.map FE=(cs.map λc:Nat=>(c:Int)).map T.int:=by rw[CT];rfl
 show⟨_,Ca T.tup e,λn hn=>?_,?_⟩
 ·let⟨c,hc,rfl⟩:=aau.mp hn
  have:=aaE.mp ok c hc;unfold Dq at this;simp at this;lia
 let e2:(cs.map λc:Nat=>(c:Int)).map Int.toNat=cs:=by
  rw[CT];show(L7 λc _=>rfl).trans (List.map_id cs)
 rw[e2];show Ag .refl q
end
def pB{es:List T}{pl off:Nat}(h:off+m≤S):(((es.drop pl).take S).drop off).take m=(es.drop (pl+off)).take m:=by
 rw[List.drop_take,List.take_take,Ji,Nx (by lia)]
def adp{bs:List T}(kg:k.good)(kd:k.depth≤5)(ch:L.ch=false)(hl:bs.length=m*AF k)(WJ:m≤60):Rd L (.row k) [.tup (.int m::bs)] u↔∃ts:List T,u=.tup ts∧ts.length=m∧∀(j:Nat) (t:T),ts[j]?=some t→Rd L k ((bs.drop (j*AF k)).take (AF k)) t:=by
 rw[Rm ch];constructor
 ·intro⟨ts,rfl,l,hs,e⟩
  let e:=T.tup.inj e;let⟨e1,e2⟩:=D9 e;let e1:m=ts.length:=by have:=T.int.inj e1;lia
  show⟨ts,rfl,e1.symm,λj t ht=>⟨hs t (CQ ht),?_⟩⟩;let c:=chunk (S:=AF k) (ps:=ts.map λt=>AP L k t) (j:=j) (p:=AP L k t) (λp hp=>by let⟨t,ht,rfl⟩:=aau.mp hp;show(Ex L (hs t ht) kg kd).len) (by rw[CZ,ht];rfl);rw[e2,c]
 ·intro⟨ts,rfl,l,h⟩
  let hs:∀t∈ts,jZ k t:=λt ht=>by
   obtain⟨j,hj,rfl⟩:=JN ht;show(h j _ (BZ hj)).1
  show⟨ts,rfl,by lia,hs,?_⟩;rw[Te (S:=AF k) (body:=bs) (by rw[Ac,l];show hl) λj p hp=>?_,l];rw[CZ]at hp;cases e:ts[j]? with
  |none=>rw[e]at hp;cases hp
  |some t=>
   rw[e]at hp;cases hp;show(h j t e).2.symm
def CF.no(h:CF Z C Y Γ r)(n:∀u,¬r u)(l:Le Γ Γ'):∃Γ2,Le Γ2 Γ'∧Y (.ref C) Γ2:=⟨Γ,l,h.2 n⟩
def CF.yes(h:CF Z C Y Γ r)(n:r u)(l:Le Γ Γ'):E3 Z u Γ':=Ag l (h.1 u n)
def He{a b:Int}(h:(!decide (V.int a=V.int b))=true):a≠b:=λe=>by rw[e,Dp rfl]at h;cases h
def Hj{a b:Int}(h:(!decide (V.int a=V.int b))=false):a=b:=by
 by_cases c:a=b
 ·show c
 ·rw[DY λz=>c (V.int.inj z)]at h;cases h
def In.Kl{K:W.Frag}{b:T}(h:In Γ b):∃(n:String) (c:Bool),Gm Γ b=some n∧W.kitOne K (.type n) (.type "tuple")=some c∧((c=true∧∃us,b=.tup us)∨(c=false∧∀us,b≠.tup us)):=by
 cases h with
 |non=>show Ψ2 _ false ⟨rfl,rfl,.inr ⟨rfl,λ_ z=>nomatch z⟩⟩
 |bl b=>show Ψ2 _ false ⟨rfl,rfl,.inr ⟨rfl,λ_ z=>nomatch z⟩⟩
 |int i=>show Ψ2 _ false ⟨rfl,rfl,.inr ⟨rfl,λ_ z=>nomatch z⟩⟩
 |str z=>show Ψ2 _ false ⟨rfl,rfl,.inr ⟨rfl,λ_ z=>nomatch z⟩⟩
 |lst h=>show Ψ2 ("list") false ⟨(HI (A:=True) h trivial).1,rfl,.inr ⟨rfl,λ_ z=>nomatch z⟩⟩
 |@tup us h=>show Ψ2 _ true ⟨rfl,rfl,.inl ⟨rfl,us,rfl⟩⟩
abbrev HC:T→Bool
 |.int i=>BY (.int i)&&GR i
 |_=>false
def aU:∀{sl:List T},(sl.map HC).all id=true→∃cs:List Nat,sl=cs.map FE∧cs.all Dq=true
 |[],_=>⟨[],rfl,rfl⟩
 |t::r,h=>by
  rw[Ar,HK,FI]at h;let⟨cs,rfl,q⟩:=aU h.2;cases t with
  |int i=>
   let h1:(BY (.int i)&&GR i)=true:=h.1;rw[FI]at h1;let⟨j,e,j0,j1⟩:=FO h1.1;cases e;obtain⟨c,rfl⟩:∃c:Nat,i=(c:Int):=⟨i.toNat,by lia⟩;show⟨c::cs,rfl,by rw[HK,q,←Pm,h1.2];rfl⟩
  |_=>cases h.1
def T5:∀{cs:List Nat},cs.all Dq=true→((cs.map FE).map HC).all id=true
 |[],_=>rfl
 |c::cs,h=>by
  rw[HK,FI]at h;rw[Ar,Ar,HK,T5 h.2,aF];let h1:=h.1;let r:32≤c∧c≤126:=by unfold Dq at h1;simp at h1;lia
  simp only[id,FE,HC];rw[Pm,h1,aF];show(decide ((0:Int)≤c)&&decide ((c:Int)<65536))=true
  rw[Dp (by lia),Dp (by lia)];rfl
def kc{α:Type}(qs:List α)(p:α):Bw (qs++[p]) (-1)=some p:=by
 unfold Bw FN;rw[AH (by decide),AI (by rw[B9];show -((qs.length+1:Nat):Int)≤-1;lia)];show(qs++[p])[(-1+((qs++[p]).length:Int)).toNat]?=_
 rw[show(-1+((qs++[p]).length:Int)).toNat=qs.length by rw[B9];show(-1+((qs.length+1:Nat):Int)).toNat=qs.length;lia];simp
def iW{wi:I3}{g:ES}{tc:CY}{own:List Str}{cap:List (Nat×Str)}{Y:EM}(h:wi Y τ Γ λts gd Γ1=>ts.length≤sizeLine∧
 ku gd g tc te (λ_ C Γ'=>Y τ C Γ') (λys Γ2=>∀D,Γ2 D=none→Z (.ref D) (up Γ2 D (.lst ys))) ts (Jz own cap τ) [] Γ1):V0 wi g tc te own cap Y τ Γ Z:=h
section
abbrev Je(pT dN:Addr)(n:Nat):BQ:=λts Γ Z Y=>∃(L:Ly) (k:Kd) (es:List T) (pl:Nat),ts=[L.tr,k.tr,.tup es,.int (pl:Nat)]∧k.good∧k.depth<n∧k.depth≤5∧pl+AF k≤es.length∧In Γ (.tup es)∧jq pT Γ∧CF Z dN Y Γ (Rd L k ((es.drop pl).take (AF k)))
@[reducible]def VZ:Stmt:=Bk 35
def abV:BA ["halves","words"] ["halves","words"] (B4 VZ):=Bm
abbrev bh(dN:Addr):BQ:=λts Γ Z Y=>∃(L:Ly) (sl:List T),ts=[.str L.s1,.tup sl]∧sl.length≤4∧In Γ (.tup sl)∧CF Z dN Y Γ (Rd L (.num sl.length) sl)
def ab2(F:dR K "number_read" "number_read" VZ f fd)(aD:mg "NoPicture" = some (.ref dN))(aS:W.excIn K dN [.type "ValueError",.type "Exception",.type "BaseException",.type "object"] "ValueError.__new__" = true)(cZ:AV P w K mg am "is_word" 2 ["thing"] G0)(mT:AV P w K mg am "number_of_words" 1 ["halves","words"] oI)(di:mg "all" = none):bB P w K mg am (Dd P w) 3 f fd ["halves","words"] (BP (bh dN)):=by
 show JZ F abV (λts Γ Z Y h=>?_) (λcA A outer s H E ts Γ Z Y hr h=>?_)
 ·let⟨L,sl,rfl,_⟩:=h
  rfl
 let⟨L,sl,rfl,l4,hi,q⟩:=h;show⟨_,(A9 (Ah (DJ (Bu (BC (Kg rfl) rfl di KG (A4 (Ds (own:=["word"]) (cap:=[]) F2 rfl (F1 (A3 1)) (λ_ _ _ _=>Hx) (λ_ _ _ _=>DF) (λ_ _ _ _=>(AM cZ hr (A4 (A3 0) A8)))) A8)))) (A9 (HJ rfl rfl aD aS HH (A4 Ai A8) HE)
  AD) AD)
  (A9 (Af (AM mT hr (A4 (A3 0) (A4 (A3 1) A8))))
  AD)),?_⟩
 simp only[BW];left;show⟨B7 (Bq (by lia)),λrest τ ys Γ'=>∃(vs:List T) (o:Option T),sl=vs++rest∧τ=[o]∧ys=(vs.map BY).map T.bl∧Γ'=Γ,Ψ2 [] none ⟨rfl,rfl,rfl,rfl⟩,?_,?_⟩
 ·intro τ ys Γ'⟨vs,o,es,rfl,rfl,rfl⟩
  rw[Bz]at es;subst es;show⟨trivial,λD hD=>?_⟩;left;show Ψ2 D _ ⟨rfl,As AE,?_⟩;left;show B5 (λc=>?_) (λc=>?_)
  ·left
   show q.no (λu r=>?_) (.new hD);let⟨ws,e,h⟩:=gV r;have:(sl.map BY).all id=true:=by
    rw[aaE];intro b hb;let⟨t,ht,rfl⟩:=aau.mp hb;rw[e]at ht;let⟨x,hx,rfl⟩:=aau.mp ht;have:=h x hx;show(decide (0≤x)&&decide (x<65536))=true
    rw[Dp (by lia),Dp (by lia)];rfl
   rw[this]at c;cases c
  ·let c:(sl.map BY).all id=true:=by simpa using c
   let⟨ws,rfl,h⟩:=R5 (sl:=sl) λt ht=>aaE.mp c _ (aau.mpr ⟨t,ht,rfl⟩);rw[Ac]at l4 q;left;show Ψ2 L ws ⟨rfl,l4,h,?_⟩;show q.yes ((nA (by lia) rfl h).mpr rfl) (.new hD)
 ·intro x r τ ys Γ'⟨vs,o,es,rfl,rfl,rfl⟩
  left;show⟨x,rfl,hi.mem (by rw[es];simp),?_⟩;show Ψ2 (vs++[x]) _ ⟨by rw[es];simp,rfl,by rw[Ao,Ao];rfl,rfl⟩
@[reducible]def b9:Stmt:=Bk 36
def gE:BA ["texts","block","counted","signs","mark"] ["texts","block"] (B4 b9):=Bm
abbrev SY(dN:Addr):BQ:=λts Γ Z Y=>∃(L:Ly) (b:T),ts=[.str L.s2,b]∧In Γ b∧CF Z dN Y Γ (Rd L .text [b])
def sQ(F:dR K "text_read" "text_read" b9 f fd)(aD:mg "NoPicture" = some (.ref dN))(aS:W.excIn K dN [.type "ValueError",.type "Exception",.type "BaseException",.type "object"] "ValueError.__new__" = true)(cZ:AV P w K mg am "is_word" 2 ["thing"] G0)(Cm:AV P w K mg am "is_sign" 1 ["number"] jy)(pd:AV P w K mg am "text_of_signs" 1 ["signs"] jU)(i6:mg "MOST_SIGNS" = some v1)(uK:GX v1 (.int 60))(aj:mg "isinstance" = none)(ar:mg "tuple" = none)(aG:mg "len" = none)(di:mg "all" = none):bB P w K mg am (Dd P w) 3 f fd ["texts","block"] (BP (SY dN)):=by
 show JZ F gE (λts Γ Z Y h=>?_) (λcA A outer s H E ts Γ Z Y hr h=>?_)
 ·let⟨L,b,rfl,_⟩:=h
  rfl
 let⟨L,b,rfl,hi,q⟩:=h;show⟨_,(A9 (Ah (PW.pt (DX (DJ (Bu (E5 rfl aj rfl ar DK (A3 1)))) (EK (DJ (pQ (A3 1) (λ_=>rfl)))))) (A9 (HJ rfl rfl aD aS HH (A4 Ai A8) HE)
  AD) AD)
  (A9 (Aa (i:=2) gE.nd (Eo BH (A3 0) Ai))
  (A9 (Aa (i:=3) gE.nd (ML (Bu (A3 2)) (Ck DH (A3 1) (CN AB) DM) (Ck DH (A3 1) DM (CN (FP AB)))))
  (A9 (Aa (i:=4) gE.nd (ML (Bu (A3 2)) (AJ (A3 1) AB) (AJ (A3 1) (FP AB))))
  (A9 (Ah (PW.pt (DX (DJ (Bu (AM cZ hr (A4 (A3 4) A8)))) (EK (Aj Ei (A3 4) (ML (Bu (A3 2)) (BC Cv rfl aG Cd (A4 (A3 3) A8)) AB))))) (A9 (HJ rfl rfl aD aS HH (A4 Ai A8) HE)
  AD) AD)
  (A9 (Ah (PW.pt (DX (Aj Ip (BC Cv rfl aG Cd (A4 (A3 3) A8)) (E8 rfl i6 uK)) (EK (DJ (Bu (BC (Kg rfl) rfl di KG (A4 (Ds (own:=["sign"]) (cap:=[]) F2 rfl (F1 (A3 3)) (λ_ _ _ _=>Hx) (λ_ _ _ _=>DF) (λ_ _ _ _=>(Gk (AM cZ hr (A4 (A3 0) A8)) (Hi (AM Cm hr (A4 (A3 0) A8)))))) A8))))))) (A9 (HJ rfl rfl aD aS HH (A4 Ai A8) HE)
  AD) AD)
  (A9 (Af (AM pd hr (A4 (A3 3) A8)))
  AD))))))),?_⟩
 simp only[BW];left;let bad:(∀us,b≠.tup us)→∀u,¬Rd L .text [b] u:=λn u r=>by
  let⟨bl,e,_⟩:=OI r;show n bl e
 obtain⟨n,c,e1,e2,h|h⟩:=hi.Kl (K:=K)
 ·let⟨rfl,⟨us,rfl⟩⟩:=h
  show Ψ2 n true ⟨e1,e2,?_⟩;left;cases us with
  |nil=>show⟨false,rfl,by left;show q.no (λu r=>by let⟨bl,e,ne⟩:=OI r;cases e;show ne rfl) .refl⟩
  |cons e0 er=>
   show⟨true,rfl,?_⟩;left;obtain⟨signs,mark,eu⟩:∃(signs:List T) (mark:T),e0::er=if L.en=true then signs++[mark]else mark::signs:=by
    cases L.en with
    |false=>show Ψ2 er e0 rfl
    |true=>
     rcases Md (e0::er)with z|⟨zs,z,ez⟩
     ·cases z
     ·show Ψ2 zs z (by rw[AI rfl,ez,OE])
   let W8:In Γ mark:=hi.mem (by rw[eu];split<;>simp)
   let W5:∀t∈signs,In Γ t:=λt ht=>hi.mem (by rw[eu];split<;>simp[ht])
   rw[eu]at q;let rt:∀u,Rd L .text [.tup (if L.en=true then signs++[mark]else mark::signs)] u↔_:=λu=>eG (L:=L) (signs:=signs) (mark:=mark) (u:=u);cases en:L.en with
   |false=>
    rw[en,AH BN]at eu;rw[eu];let s2:L.s2 = "count" := by unfold Ly.s2;rw[en];rfl
    let hn:(if L.en=true then(0:Int)else(signs.length:Int))=signs.length:=by rw[en];rfl
    rw[s2];left;rw[show BB (mark::signs) (some 1) none=signs from Mp (a:=1)];show⟨mark,rfl,W8,?_⟩;by_cases wd:BY mark=true
    ·let⟨m,rfl,m0,m1⟩:=FO wd
     rw[wd];left;show B5 (λc=>?_) (λc=>?_)
     ·left
      show q.no (λu r=>?_) .refl;let⟨cs,x1,_,_,x2,_⟩:=(rt u).mp r;show He c ((T.int.inj x2).trans (Eq.trans (by rw[x1,Ac]) hn))
     ·let c:=Hj c
      left;show B5 (λc2=>?_) (λc2=>?_)
      ·left
       show q.no (λu r=>?_) .refl;let⟨cs,x1,x3,_⟩:=(rt u).mp r;have:=Ec c2;rw[x1,Ac]at this;lia
      ·let MJ:=Fn c2
       left;show⟨B7 (Bq (by lia)),λrest τ ys Γ'=>∃(vs:List T) (o:Option T),signs=vs++rest∧τ=[o]∧ys=(vs.map HC).map T.bl∧Γ'=Γ,Ψ2 [] none ⟨rfl,rfl,rfl,rfl⟩,?_,?_⟩
       ·intro τ ys Γ'⟨vs,o,es,rfl,rfl,rfl⟩
        rw[Bz]at es;subst es;show⟨trivial,λD hD=>?_⟩;left;show Ψ2 D _ ⟨rfl,As AE,?_⟩;left;show B5 (λc3=>?_) (λc3=>?_)
        ·left
         show q.no (λu r=>?_) (.new hD);let⟨cs,x1,_,x4,_⟩:=(rt u).mp r;rw[x1,T5 x4]at c3;cases c3
        ·let c3:(signs.map HC).all id=true:=by simpa using c3
         let⟨cs,x1,x4⟩:=aU c3;left;show⟨cs,by rw[x1],x4,?_⟩;show q.yes ((rt _).mpr ⟨cs,x1,by rw[x1,Ac]at MJ;lia,x4,?_,rfl⟩) (.new hD);show Ca T.int (c.trans (hn.symm.trans (by rw[x1,Ac])))
       ·intro x r τ ys Γ'⟨vs,o,es,rfl,rfl,rfl⟩
        show⟨trivial,?_⟩;left;show⟨x,rfl,W5 x (by rw[es];simp),?_⟩;by_cases xw:BY x=true
        ·let⟨i,rfl,_⟩:=FO xw
         rw[xw];left;show⟨i,rfl,?_⟩;show Ψ2 (vs++[.int i]) _ ⟨by rw[es];simp,rfl,by rw[Ao,Ao];show _=_++[T.bl (BY (.int i)&&GR i)];rw[xw,Hk],rfl⟩
        ·rw[GS]at xw
         rw[xw];left;show Ψ2 (vs++[x]) _ ⟨by rw[es];simp,rfl,?_,rfl⟩;rw[Ao,Ao];have:HC x=false:=by
          cases x with
          |int i=>show(BY (.int i)&&GR i)=false;rw[xw,FT]
          |_=>rfl
         show _=_++[T.bl (HC x)]
         rw[this]
    ·rw[GS]at wd
     rw[wd];left;show q.no (λu r=>?_) .refl;let⟨cs,x1,x3,_,x2,_⟩:=(rt u).mp r;rw[x2]at wd;have:BY (.int (if L.en=true then 0 else(cs.length:Int)))=true:=by
      show(decide (0≤_)&&decide (_<65536))=true
      rw[Dp (by split<;>lia),Dp (by split<;>lia)]
      rfl
     rw[this]at wd;cases wd
   |true=>
    rw[en,AI rfl]at eu;rw[eu];let s2:L.s2 = "end" := by unfold Ly.s2;rw[en];rfl
    let hn:(if L.en=true then(0:Int)else(signs.length:Int))=0:=by rw[en];rfl
    rw[s2];left;rw[show BB (signs++[mark]) none (some (-1))=signs from by rw[fB,List.dropLast_concat]];show IM (kc signs mark) ?_;left;show⟨mark,rfl,W8,?_⟩;by_cases wd:BY mark=true
    ·let⟨m,rfl,m0,m1⟩:=FO wd
     rw[wd];left;show B5 (λc=>?_) (λc=>?_)
     ·left
      show q.no (λu r=>?_) .refl;let⟨cs,x1,_,_,x2,_⟩:=(rt u).mp r;show He c ((T.int.inj x2).trans (Eq.trans (by rw[x1,Ac]) hn))
     ·let c:=Hj c
      left;show B5 (λc2=>?_) (λc2=>?_)
      ·left
       show q.no (λu r=>?_) .refl;let⟨cs,x1,x3,_⟩:=(rt u).mp r;have:=Ec c2;rw[x1,Ac]at this;lia
      ·let MJ:=Fn c2
       left;show⟨B7 (Bq (by lia)),λrest τ ys Γ'=>∃(vs:List T) (o:Option T),signs=vs++rest∧τ=[o]∧ys=(vs.map HC).map T.bl∧Γ'=Γ,Ψ2 [] none ⟨rfl,rfl,rfl,rfl⟩,?_,?_⟩
       ·intro τ ys Γ'⟨vs,o,es,rfl,rfl,rfl⟩
        rw[Bz]at es;subst es;show⟨trivial,λD hD=>?_⟩;left;show Ψ2 D _ ⟨rfl,As AE,?_⟩;left;show B5 (λc3=>?_) (λc3=>?_)
        ·left
         show q.no (λu r=>?_) (.new hD);let⟨cs,x1,_,x4,_⟩:=(rt u).mp r;rw[x1,T5 x4]at c3;cases c3
        ·let c3:(signs.map HC).all id=true:=by simpa using c3
         let⟨cs,x1,x4⟩:=aU c3;left;show⟨cs,by rw[x1],x4,?_⟩;show q.yes ((rt _).mpr ⟨cs,x1,by rw[x1,Ac]at MJ;lia,x4,?_,rfl⟩) (.new hD);show Ca T.int (c.trans (hn.symm.trans (by rw[x1,Ac])))
       ·intro x r τ ys Γ'⟨vs,o,es,rfl,rfl,rfl⟩
        show⟨trivial,?_⟩;left;show⟨x,rfl,W5 x (by rw[es];simp),?_⟩;by_cases xw:BY x=true
        ·let⟨i,rfl,_⟩:=FO xw
         rw[xw];left;show⟨i,rfl,?_⟩;show Ψ2 (vs++[.int i]) _ ⟨by rw[es];simp,rfl,by rw[Ao,Ao];show _=_++[T.bl (BY (.int i)&&GR i)];rw[xw,Hk],rfl⟩
        ·rw[GS]at xw
         rw[xw];left;show Ψ2 (vs++[x]) _ ⟨by rw[es];simp,rfl,?_,rfl⟩;rw[Ao,Ao];have:HC x=false:=by
          cases x with
          |int i=>show(BY (.int i)&&GR i)=false;rw[xw,FT]
          |_=>rfl
         show _=_++[T.bl (HC x)]
         rw[this]
    ·rw[GS]at wd
     rw[wd];left;show q.no (λu r=>?_) .refl;let⟨cs,x1,x3,_,x2,_⟩:=(rt u).mp r;rw[x2]at wd;have:BY (.int (if L.en=true then 0 else(cs.length:Int)))=true:=by
      show(decide (0≤_)&&decide (_<65536))=true
      rw[Dp (by split<;>lia),Dp (by split<;>lia)]
      rfl
     rw[this]at wd;cases wd
 ·obtain⟨rfl,h⟩:=h
  show Ψ2 n false ⟨e1,e2,by left;show q.no (bad h) .refl⟩
end
def Tb{sl:List T}(kg:k.good)(kd:k.depth≤5)(r:Rd L k sl u):sl.length=AF k:=by
 let⟨h,rfl⟩:=r;show(Ex L h kg kd).len
def Ld{i:Int}(h0:0≤i)(h1:i<65536):BY (.int i)=true:=by
 dsimp only[BY];rw[Dp h0,Dp h1];rfl
section
@[reducible]def Ri:Stmt:=Bk 37
def ir:BA ["laying","kind","block","many","size"] ["laying","kind","block"] (B4 Ri):=Bm
abbrev TI(pT dN:Addr)(n:Nat):BQ:=λts Γ Z Y=>∃(L:Ly) (k:Kd) (b:T),ts=[L.tr,k.tr,b]∧k.good∧k.depth<n∧k.depth≤5∧L.ch=false∧In Γ b∧jq pT Γ∧CF Z dN Y Γ (Rd L (.row k) [b])
def abZ(F:dR K "array_read" "array_read" Ri f fd)(aD:mg "NoPicture" = some (.ref dN))(aS:W.excIn K dN [.type "ValueError",.type "Exception",.type "BaseException",.type "object"] "ValueError.__new__" = true)(dc:EJ P w K mg am "worth_at" lv ["laying","kind","entries","place"] (Je pT dN n))(cZ:AV P w K mg am "is_word" 2 ["thing"] G0)(cC:AV P w K mg am "size_of" 6 ["kind"] (Hz 6))(hv:8≤lv)(cg:mg "MOST_ITEMS" = some v1)(c9:GX v1 (.int 60))(aj:mg "isinstance" = none)(ar:mg "tuple" = none)(aG:mg "len" = none)(aJ:mg "range" = none):bB P w K mg am (Dd P w) (lv+1) f fd ["laying","kind","block"] (BP (TI pT dN n)):=by
 show JZ F ir (λts Γ Z Y h=>?_) (λcA A outer s H E ts Γ Z Y hr h=>?_)
 ·let⟨L,k,b,rfl,_⟩:=h
  rfl
 let⟨L,k,b,rfl,kg,kd,qX,ch,hi,gl,q⟩:=h;show⟨_,(A9 (Ah (PW.pt (DX (DJ (Bu (E5 rfl aj rfl ar DK (A3 2)))) (EK (DJ (pQ (A3 2) (λ_=>rfl)))))) (A9 (HJ rfl rfl aD aS HH (A4 Ai A8) HE)
  AD) AD)
  (A9 (Aa (i:=3) ir.nd (AJ (A3 2) AB))
  (A9 (Aa (i:=4) ir.nd (AM cC hr (A4 (A3 1) A8)))
  (A9 (Ah (PW.pt (DX (DJ (Bu (AM cZ hr (A4 (A3 3) A8)))) (DX (Aj Ip (A3 3) (E8 rfl cg c9)) (EK (Aj Ei (BC Cv rfl aG Cd (A4 (A3 2) A8)) (AN CI AB (AN GG (A3 3) (A3 4)))))))) (A9 (HJ rfl rfl aD aS HH (A4 Ai A8) HE)
  AD) AD)
  (A9 (Af (E7 Ff rfl ar DK (A4 (qu (own:=["item"]) (cap:=[(0,"laying"),(1,"kind"),(2,"block"),(4,"size")]) ⟨rfl,rfl⟩ pW En rfl (HL rfl aJ (A4 (A3 3) A8)) (λ_ _ _ _=>(DT (i:=0) (show List.Nodup (["item","laying","kind","block","size"]:List Str)from by decide +kernel) rfl (Or.inl rfl) (Or.inr rfl))) (λ_ _ _ _=>DF) (λ_ _ _ _ _ hx=>(Gq dc hr hx (A4 (A3 1) (A4 (A3 2) (A4 (A3 3) (A4 (AN CI AB (AN GG (A3 0) (A3 4))) A8))))))) A8)))
  AD))))),?_⟩
 simp only[BW];left;obtain⟨nn,c,e1,e2,h|h⟩:=hi.Kl (K:=K)
 ·let⟨rfl,⟨us,rfl⟩⟩:=h
  show Ψ2 nn true ⟨e1,e2,?_⟩;left;cases us with
  |nil=>show⟨false,rfl,by left;show q.no (λu r=>by let⟨ts,_,_,_,e⟩:=(Rm ch).mp r;cases e) .refl⟩
  |cons e0 bs=>
   show⟨true,rfl,?_⟩;left;show⟨k,rfl,kg,by lia,?_⟩;left;show⟨e0,rfl,hi.mem (by simp),?_⟩;let LX:∀u,Rd L (.row k) [.tup (e0::bs)] u→∃m:Nat,e0=.int (m:Int)∧m≤60∧bs.length=m*AF k:=λu r=>by
    let⟨ts,_,l,hs,e⟩:=(Rm ch).mp r;let⟨e1,e2⟩:=D9 (T.tup.inj e);show⟨ts.length,e1,l,by rw[e2];show zb hs kg qX⟩
   by_cases wd:BY e0=true
   ·let⟨m,rfl,m0,m1⟩:=FO wd
    rw[wd];left;show B5 (λc=>?_) (λc=>?_)
    ·let c:=Ec c
     left;show q.no (λu r=>by let⟨m',e,l,_⟩:=LX u r;have:=T.int.inj e;lia) .refl
    ·let c:=Fn c
     obtain⟨mm,rfl⟩:∃mm:Nat,m=(mm:Int):=⟨m.toNat,by lia⟩;left;show G4 (Or.inl ⟨by lia,by lia⟩) ?_;left;show B5 (λc2=>?_) (λc2=>?_)
     ·left
      show q.no (λu r=>?_) .refl;let⟨m',e,_,l⟩:=LX u r;let e:mm=m':=by have:=T.int.inj e;lia
      subst e;show He c2 ?_;rw[BE,l,Hv,JW];lia
     ·let c2:=Hj c2
      let hl:bs.length=mm*AF k:=by
       rw[BE,←JW]at c2;lia
      let ra:∀u,Rd L (.row k) [.tup (.int mm::bs)] u↔_:=λu=>adp (u:=u) kg qX ch hl (by lia);let hb:mm*AF k≤60*AF k:=Ra _ (by lia);let sm:=J2 kg qX;left;show iW ?_;left;show⟨_,rfl,by lia,by lia,B7 (Bq (by rw[Gs];lia)),λrest τ ys Γ'=>∃(j c:Nat) (o:Option T),rest=Dr j c∧j+c=mm∧τ=[o,some L.tr,some k.tr,some (.tup (.int mm::bs)),some (.int (AF k:Nat))]∧ys.length=j∧(∀(i:Nat) (t:T),ys[i]?=some t→Rd L k ((bs.drop (i*AF k)).take (AF k)) t)∧Γ'=Γ,Ψ3 0 mm none ⟨rfl,F6 _,rfl,rfl,λi t h=>by simp at h,rfl⟩,?_,?_⟩
      ·intro τ ys Γ'⟨j,c,o,er,jc,rfl,ly,hy,rfl⟩
       let hc:=Io er;subst hc;show⟨trivial,λD hD=>?_⟩;left;show Ψ2 _ _ ⟨rfl,As AE,?_⟩;show q.yes ((ra _).mpr ⟨ys,rfl,by lia,hy⟩) (.new hD)
      ·intro x rr τ ys Γ'⟨j,c,o,er,jc,rfl,ly,hy,rfl⟩
       let⟨c',rfl,rfl,rfl⟩:=Gr er;show⟨trivial,?_⟩;left;show G4 (Or.inl ⟨by lia,by lia⟩) ?_;left;let jm:(j+1)*AF k≤mm*AF k:=Ra _ (by lia);rw[LB,LN]at jm;let ep:(1:Int)+(j:Int)*((AF k:Nat):Int)=((1+j*AF k:Nat):Int):=by rw[Hv,JW];rfl
       rw[ep];let ed:(T.int (mm:Int)::bs).drop (1+j*AF k)=bs.drop (j*AF k):=by rw[M2];rfl
       show Ψ4 L k _ (1+j*AF k) ⟨rfl,kg,kd,qX,by rw[BE,hl];lia,hi,gl,?_⟩;rw[ed];show⟨λu ru=>?_,λno=>?_⟩
       ·show Ψ3 (j+1) c' _ ⟨rfl,by lia,rfl,by rw[B9,ly];rfl,λi t ht=>?_,rfl⟩
        by_cases ci:i<ys.length
        ·rw[G3 ci]at ht
         show hy i t ht
        ·rw[Fi (by lia)]at ht
         let ei:i=ys.length:=by
          by_cases z:i-ys.length=0
          ·lia
          ·rw[Eh (by show 1≤_;lia)]at ht;cases ht
         subst ei;rw[OD]at ht;cases ht;rw[ly];show ru
       ·show q.no (λu r=>?_) .refl
        let⟨ts,rfl,lt,ht⟩:=(ra u).mp r;show no _ (ht j ts[j] (BZ (by lia)))
   ·rw[GS]at wd
    rw[wd];left;show q.no (λu r=>by let⟨m',rfl,l,_⟩:=LX u r;rw[Ld (by lia) (by lia)]at wd;cases wd) .refl
 ·obtain⟨rfl,h⟩:=h
  show Ψ2 nn false ⟨e1,e2,by left;show q.no (λu r=>by let⟨ts,_,_,_,e⟩:=(Rm ch).mp r;show h _ e) .refl⟩
@[reducible]def OM:Stmt:=Bk 38
def eF:BA ["laying","kind","entry","items","size","rest"] ["laying","kind","entry"] (B4 OM):=Bm
abbrev Sp(pT dN:Addr)(n:Nat):BQ:=λts Γ Z Y=>∃(L:Ly) (k:Kd) (b:T),ts=[L.tr,k.tr,b]∧k.good∧k.depth<n∧k.depth≤5∧L.ch=true∧In Γ b∧jq pT Γ∧CF Z dN Y Γ (Rd L (.row k) [b])
def ab9(F:dR K "chain_read" "chain_read" OM f fd)(aD:mg "NoPicture" = some (.ref dN))(aS:W.excIn K dN [.type "ValueError",.type "Exception",.type "BaseException",.type "object"] "ValueError.__new__" = true)(dc:EJ P w K mg am "worth_at" lv ["laying","kind","entries","place"] (Je pT dN n))(cZ:AV P w K mg am "is_word" 2 ["thing"] G0)(cC:AV P w K mg am "size_of" 6 ["kind"] (Hz 6))(hv:8≤lv)(cg:mg "MOST_ITEMS" = some v1)(c9:GX v1 (.int 60))(aj:mg "isinstance" = none)(ar:mg "tuple" = none)(aG:mg "len" = none):bB P w K mg am (Dd P w) (lv+1) f fd ["laying","kind","entry"] (BP (Sp pT dN n)):=by
 show JZ F eF (λts Γ Z Y h=>?_) (λcA A outer s H E ts Γ Z Y hr h=>?_)
 ·let⟨L,k,b,rfl,_⟩:=h
  rfl
 let⟨L,k,b,rfl,kg,kd,qX,ch,hi,gl,q⟩:=h;show⟨_,(A9 (Aa (i:=3) eF.nd (BL A8))
  (A9 (Aa (i:=4) eF.nd (AM cC hr (A4 (A3 1) A8)))
  (A9 (Aa (i:=5) eF.nd (A3 2))
  (A9 (eE abf (Bu (E5 rfl aj rfl ar DK (A3 5))) (A9 (Ah (PW.pt (DX (Aj Ei (BC Cv rfl aG Cd (A4 (A3 5) A8)) (AN CI AB (A3 4))) (EK (Aj Kw (BC Cv rfl aG Cd (A4 (A3 3) A8)) (E8 rfl cg c9))))) (A9 (HJ rfl rfl aD aS HH (A4 Ai A8) HE)
  AD) AD)
  (A9 (LG (HP HS LQ L0 Rp (A3 3) (A4 (Gq dc hr Iq (A4 (A3 0) (A4 (A3 1) (A4 (A3 5) (A4 AB A8))))) A8)))
  (A9 (Aa (i:=5) eF.nd (AJ (A3 5) AB))
  AD))))
  (A9 (Ah (PW.pt (DX (DJ (Bu (AM cZ hr (A4 (A3 5) A8)))) (EK (Aj Ei (A3 5) AB)))) (A9 (HJ rfl rfl aD aS HH (A4 Ai A8) HE)
  AD) AD)
  (A9 (Af (E7 Ff rfl ar DK (A4 (A3 3) A8)))
  AD)))))),?_⟩
 simp only[BW];left;intro D hD;left;show⟨k,rfl,kg,by lia,?_⟩;left;unfold gJ;show⟨λm τ Γ'=>∃(us:List T) (rest:T),m+us.length=60∧τ=[some L.tr,some k.tr,some b,some (.ref D),some (.int (AF k:Nat)),some rest]∧Γ'=up Γ D (.lst us)∧In Γ rest∧(∀ts,Hd L k b ts↔∃vs,ts=us++vs∧Hd L k rest vs),Ψ3 60 [] b ⟨rfl,rfl,rfl,hi,λts=>⟨λh=>⟨ts,rfl,h⟩,λξ=>Ξ12 ξ λvs e h=>by rw[e];show h⟩⟩,?_⟩;intro m τ Γ'⟨us,rest,mu,rfl,rfl,Sj,hc⟩;let lD:Le Γ (up Γ D (.lst us)):=.new hD;left;obtain⟨nn,c,e1,e2,h|h⟩:=(Sj.le lD).Kl (K:=K)
 ·let⟨rfl,⟨es,rfl⟩⟩:=h
  show Ψ2 nn true ⟨e1,e2,true,rfl,?_⟩;rw[AI rfl];show⟨λτ' Γ'=>∃(tV:List T) (vS:T),tV.length=us.length+1∧tV.length≤60∧τ'=[some L.tr,some k.tr,some b,some (.ref D),some (.int (AF k:Nat)),some vS]∧Γ'=up Γ D (.lst tV)∧In Γ vS∧(∀ts,Hd L k b ts↔∃vs,ts=tV++vs∧Hd L k vS vs),?_,?_⟩
  ·intro τ' Γ'⟨tV,vS,l1,l2,h1,h2,h3,h4⟩
   show⟨60-tV.length,by lia,tV,vS,by lia,h1,h2,h3,h4⟩
  left;let HA:(∀vs,¬Hd L k (.tup es) vs)→∀u,¬Rd L (.row k) [b] u:=λno u r=>by
   let⟨ts,_,_,h⟩:=(P5 ch).mp r;let⟨vs,_,h⟩:=(hc ts).mp h;show no vs h
  show B5 (λc=>?_) (λc=>?_)
  ·left
   show q.no (HA λvs h=>?_) lD;cases es with
   |nil=>show mZ h
   |cons x p=>
    let⟨u,vs,_,r,_⟩:=rC.mp h;show He c ?_;rw[BE,Tb kg qX r];lia
  ·let c:=Hj c
   left;show G5 AE ?_;left;show B5 (λc2=>?_) (λc2=>?_)
   ·let c2:=Ec c2
    left;show q.no (λu r=>?_) lD;let⟨ts,_,MJ,h⟩:=(P5 ch).mp r;obtain⟨vs,rfl,h⟩:=(hc ts).mp h;cases es with
    |nil=>show mZ h
    |cons x p=>
     let⟨v,vs,rfl,_⟩:=rC.mp h;rw[B9,BE]at MJ;lia
   ·let c2:=Fn c2
    cases es with
    |nil=>simp at c;lia
    |cons x p=>
     rw[BE]at c;let lp:p.length=AF k:=by lia
     left;show HI AE ?_;left;show Ψ4 L k (x::p) 1 ⟨rfl,kg,kd,qX,by rw[BE];lia,Sj.le lD,gl.new hD,?_⟩;let ep:((x::p).drop 1).take (AF k)=p:=by rw[List.drop_succ_cons,HQ];show ID (by lia)
     rw[ep];show⟨λu ru=>?_,λno=>?_⟩
     ·show Ψ3 D us u ⟨rfl,rfl,AE,by rw[CP];lia,?_⟩
      rw[T7];left;show Ψ2 (us++[u]) x ⟨by rw[B9];rfl,by rw[B9];show _+1≤60;lia,rfl,rfl,Sj.mem (by simp),λts=>?_⟩;rw[hc ts];constructor
      ·intro⟨vs,rfl,h⟩
       let⟨u',m6,rfl,r',h'⟩:=rC.mp h;have:u'=u:=eh L r'.1 kg qX ru.1 (r'.2.trans ru.2.symm);subst this;show⟨m6,by simp,h'⟩
      ·intro⟨vs,rfl,h⟩
       show⟨u::vs,by simp,rC.mpr ⟨u,vs,rfl,ru,h⟩⟩
     ·show q.no (HA λvs h=>by let⟨u,_,_,r,_⟩:=rC.mp h;show no u r) lD
 ·obtain⟨rfl,h⟩:=h
  show Ψ2 nn false ⟨e1,e2,false,rfl,?_⟩;rw[AH BN];left;show⟨rest,rfl,Sj.le lD,?_⟩;let Wx:rest≠.int 0→∀u,¬Rd L (.row k) [b] u:=λne u r=>by
   let⟨ts,_,_,hh⟩:=(P5 ch).mp r;let⟨vs,_,hh⟩:=(hc ts).mp hh;show ne ((nV h).mp hh).2
  by_cases wd:BY rest=true
  ·let⟨i,rfl,i0,i1⟩:=FO wd
   rw[wd];left;show B5 (λc=>?_) (λc=>?_)
   ·left
    show q.no (Wx λz=>He c (T.int.inj z)) lD
   ·let c:=Hj c
    subst c;left;show Ψ2 _ _ ⟨rfl,As AE,?_⟩;show q.yes ((P5 ch).mpr ⟨us,rfl,by lia,(hc us).mpr ⟨[],by simp,(nV h).mpr ⟨rfl,rfl⟩⟩⟩) lD
  ·rw[GS]at wd
   rw[wd];left;show q.no (Wx λz=>by rw[z]at wd;cases wd) lD
end
abbrev G2:T→Bool
 |.int i=>BY (.int i)&&decide (V.int i=V.int 0)
 |_=>false
def pM:G2 t=true↔t=.int 0:=by
 constructor
 ·intro h
  cases t with
  |int i=>
   let h:(BY (.int i)&&decide (V.int i=V.int 0))=true:=h;rw[FI]at h;rw[V.int.inj (Ec h.2)]
  |_=>cases h
 ·rintro rfl
  decide +kernel
def w8{O:List (Str×Kd)}{g:Str→Nat}{n:Str}(h:(n,k)∈O):DS (O.map λp=>((.inr p.1:Ap),T.int (g p.1:Nat))) (.inr n)=some (.int (g n:Nat)):=by
 induction O with
 |nil=>cases h
 |cons p r ih=>
  unfold DS;rw[Ar];by_cases e:p.1=n
  ·rw[ba (by simpa using e),←e]
   rfl
  ·rw[XF (by simpa using e)]
   show ih (by rcases aah.mp h with z|z;show absurd (by rw[←z]) e;show z)
section
@[reducible]def Qc:Stmt:=Bk 39
def cQ:BA ["laying","kind","entries","place","ordered","chosen","name","inner","behind"] ["laying","kind","entries","place"] (B4 Qc):=Bm
abbrev TU(pT dN:Addr)(n:Nat):BQ:=λts Γ Z Y=>∃(L:Ly) (fs:al) (es:List T) (pl:Nat),ts=[L.tr,(Kd.pick fs).tr,.tup es,.int (pl:Nat)]∧(Kd.pick fs).good∧B6 fs<n∧B6 fs≤4∧pl+Bc fs≤es.length∧In Γ (.tup es)∧jq pT Γ∧CF Z dN Y Γ (Rd L (.pick fs) ((es.drop pl).take (Bc fs)))
def aex(F:dR K "choice_read" "choice_read" Qc f fd)(aD:mg "NoPicture" = some (.ref dN))(aS:W.excIn K dN [.type "ValueError",.type "Exception",.type "BaseException",.type "object"] "ValueError.__new__" = true)(dc:EJ P w K mg am "worth_at" lv ["laying","kind","entries","place"] (Je pT dN n))(cZ:AV P w K mg am "is_word" 2 ["thing"] G0)(cC:AV P w K mg am "size_of" 6 ["kind"] (Hz 6))(lV:AV P w K mg am "in_order" 6 ["laying","fields"] (Pw pT))(hv:8≤lv)(aG:mg "len" = none)(di:mg "all" = none):bB P w K mg am (Dd P w) (lv+1) f fd ["laying","kind","entries","place"] (BP (TU pT dN n)):=by
 show JZ F cQ (λts Γ Z Y h=>?_) (λcA A outer s H E ts Γ Z Y hr h=>?_)
 ·let⟨L,fs,es,pl,rfl,_⟩:=h
  rfl
 let⟨L,fs,es,pl,rfl,wD,kd,YO,gc,hi,gl,q⟩:=h;show⟨_,(A9 (Aa (i:=4) cQ.nd (AM lV hr (A4 (A3 0) (A4 (AJ (A3 1) AB) A8))))
  (A9 (Aa (i:=5) cQ.nd (AJ (A3 2) (A3 3)))
  (A9 (Ah (PW.pt (DX (DJ (Bu (AM cZ hr (A4 (A3 5) A8)))) (EK (Aj Kw (A3 5) (BC Cv rfl aG Cd (A4 (A3 4) A8)))))) (A9 (HJ rfl rfl aD aS HH (A4 Ai A8) HE)
  AD) AD)
  (A9 (Iv (AJ (A3 4) (A3 5)) (GK (n:=2) rfl (DZ (DE (i:=6) cQ.nd) (DZ (DE (i:=7) cQ.nd) Ga))))
  (A9 (Aa (i:=8) cQ.nd (Ck DH (A3 2) (CN (AN CI (AN CI (A3 3) AB) (AM cC hr (A4 (A3 7) A8)))) (CN (AN CI (A3 3) (AM cC hr (A4 (A3 1) A8))))))
  (A9 (Ah (DJ (Bu (BC (Kg rfl) rfl di KG (A4 (Ds (own:=["word"]) (cap:=[]) F2 rfl (F1 (A3 8)) (λ_ _ _ _=>Hx) (λ_ _ _ _=>DF) (λ_ _ _ _=>(Gk (AM cZ hr (A4 (A3 0) A8)) (Hi (Eo BH (A3 0) AB))))) A8)))) (A9 (HJ rfl rfl aD aS HH (A4 Ai A8) HE)
  AD) AD)
  (A9 (Af (Bf (A4 (A3 6) (A4 (Gq dc hr Iq (A4 (A3 0) (A4 (A3 7) (A4 (A3 2) (A4 (AN CI (A3 3) AB) A8))))) A8))))
  AD))))))),?_⟩
 simp only[BW];let kg:=wD;unfold Kd.good at kg;let sp1:1≤Bc fs:=by
  cases fs with
  |nil=>show absurd kg.2.1 (by decide)
  |cons p r=>have:=Iz (fs:=p::r) (p:=p) (by simp);lia
 let Pn:Bc fs≤865:=(LI fs 3 kg.1 (by lia)).2;obtain⟨e0,er,ee⟩:∃e0 er,es.drop pl=e0::er:=by
  cases e:es.drop pl with
  |nil=>have:=Ca List.length e;rw[F4]at this;simp at this;lia
  |cons a b=>show Ψ2 a b rfl
 let Xe:es[pl]?=some e0:=by have:=List.getElem?_drop (xs:=es) (i:=pl) (j:=0);rw[ee]at this;show this.symm
 let Vl:es.drop (pl+1)=er:=by rw[←Ji,ee];rfl
 let YH:(e0::er).length+pl=es.length:=by rw[←ee,F4];lia
 rw[BE]at YH;obtain⟨S,eS⟩:∃S,Bc fs=S+1:=⟨Bc fs-1,by lia⟩;let N9:(es.drop pl).take (Bc fs)=e0::er.take S:=by rw[ee,eS,List.take_succ_cons]
 rw[N9]at q;let rp:∀u,Rd L (.pick fs) (e0::er.take S) u↔_:=λu=>Qv (L:=L) (u:=u) wD (by rw[Kd.depth];lia) (by rw[Er];lia);let pm:=FX L.na fs;let lO:=L8 L.na fs;rw[Kd.tr];left;show Ψ2 L (fs.map λp=>(p.1,p.2.tr)) ⟨by rw[aw],by rw[Ac];lia,by rw[CT];show kg.2.2.2,gl,?_⟩;rw[lq kg.2.2.2];left;show FK Xe ?_;left;show⟨e0,rfl,hi.mem (CQ Xe),?_⟩;by_cases wd:BY e0=true
 ·let⟨m,rfl,m0,m1⟩:=FO wd
  rw[wd];left;rw[Fl,lO];show B5 (λc=>?_) (λc=>?_)
  ·let c:=Ec c
   left;show q.no (λu r=>?_) .refl;let⟨j,nm,k,t,ej,e,_⟩:=(rp u).mp r;have:=(aao.mp ej).1;have:=T.int.inj e;lia
  ·let c:=Fn c
   obtain⟨j,rfl⟩:∃j:Nat,m=(j:Int):=⟨m.toNat,by lia⟩;obtain⟨nm,k,ej⟩:∃nm k,(Az L.na fs)[j]?=some (nm,k):=Ψ2 _ _ (BZ (by lia));let mem:=pm.mem_iff.mp (CQ ej);let dk:k.depth≤B6 fs:=DP mem;let gk:k.good:=DW kg.1 mem;let sp:1+AF k≤Bc fs:=Iz mem;left;show FK (Hw ej) ?_;left;show⟨k,rfl,gk,by lia,?_⟩;left;show⟨.pick fs,by rw[Kd.tr],wD,by rw[Kd.depth];lia,?_⟩;rw[AF];left;let ec:BB es (some (((pl:Nat):Int)+1+((AF k:Nat):Int))) (some (((pl:Nat):Int)+((Bc fs:Nat):Int)))=(er.take S).drop (AF k):=by
    have:=O7 (xs:=es) (a:=pl+1+AF k) (b:=pl+Bc fs);rw[←Ji,Vl]at this;rw[List.drop_take,show S-AF k=pl+Bc fs-(pl+1+AF k)by lia,←this];rfl
   rw[ec];let YI:((er.take S).drop (AF k)).length≤1000:=by rw[F4,Er];lia
   show⟨B7 (Bq YI),λrest τ ys Γ'=>∃(vs:List T) (o:Option T),(er.take S).drop (AF k)=vs++rest∧τ=[o]∧ys=(vs.map G2).map T.bl∧Γ'=Γ,Ψ2 [] none ⟨rfl,rfl,rfl,rfl⟩,?_,?_⟩
   ·intro τ ys Γ'⟨vs,o,yW,rfl,rfl,rfl⟩
    rw[Bz]at yW;show⟨trivial,λD hD=>?_⟩;left;show Ψ2 D _ ⟨rfl,As AE,?_⟩;let one:∀{u},Rd L (.pick fs) (.int (j:Int)::er.take S) u→∃t,u=.tup [.str nm,t]∧Rd L k ((er.take S).take (AF k)) t∧∀x∈(er.take S).drop (AF k),x=.int 0:=λ{u} r=>by
     let⟨j',IC,k',t,Jh,e,eu,r',z⟩:=(rp u).mp r;have:j=j':=by have:=T.int.inj e;lia
     subst this;rw[ej]at Jh;cases Jh;show⟨t,eu,r',z⟩
    left;show B5 (λc3=>?_) (λc3=>?_)
    ·left
     show q.no (λu r=>?_) (.new hD);let⟨t,_,_,z⟩:=one r;have:(vs.map G2).all id=true:=by
      rw[aaE];intro b hb;let⟨x,hx,rfl⟩:=aau.mp hb;show pM.mpr (z x (by rw[yW];show hx))
     rw[this]at c3;cases c3
    ·let c3:(vs.map G2).all id=true:=by simpa using c3
     let zz:∀x∈(er.take S).drop (AF k),x=.int 0:=λx hx=>pM.mp (aaE.mp c3 _ (aau.mpr ⟨x,by rw[←yW];show hx,rfl⟩));left;show Ψ4 L k es (pl+1) ⟨rfl,gk,by lia,by lia,by lia,hi.le (.new hD),gl.new hD,?_⟩;let es2:(es.drop (pl+1)).take (AF k)=(er.take S).take (AF k):=by rw[Vl,List.take_take,Nx (by lia)]
     rw[es2];show⟨λt rt=>?_,λno=>?_⟩
     ·left
      show q.yes ((rp _).mpr ⟨j,nm,k,t,ej,rfl,rfl,rt,zz⟩) (.new hD)
     ·show q.no (λu r=>by let⟨t,_,r',_⟩:=one r;show no t r') (.new hD)
   ·intro x r τ ys Γ'⟨vs,o,yW,rfl,rfl,rfl⟩
    let hx:In Γ' x:=hi.mem (by
     have:x∈(er.take S).drop (AF k):=by rw[yW];simp
     have:=Lu (KN this);rw[←Vl]at this;show KN this)
    show⟨trivial,?_⟩;left;show⟨x,rfl,hx,?_⟩;by_cases xw:BY x=true
    ·let⟨i,rfl,_⟩:=FO xw
     rw[xw];left;show Ψ2 (vs++[.int i]) _ ⟨by rw[yW];simp,rfl,by rw[Ao,Ao];show _=_++[T.bl (BY (.int i)&&decide (V.int i=V.int 0))];rw[xw,Hk],rfl⟩
    ·rw[GS]at xw
     rw[xw];left;show Ψ2 (vs++[x]) _ ⟨by rw[yW];simp,rfl,?_,rfl⟩;have:G2 x=false:=by
      cases x with
      |int i=>show(BY (.int i)&&_)=false;rw[xw,FT]
      |_=>rfl
     rw[Ao,Ao];show _=_++[T.bl (G2 x)]
     rw[this]
 ·rw[GS]at wd
  rw[wd];left;show q.no (λu r=>?_) .refl;let⟨j,nm,k,t,ej,rfl,_⟩:=(rp u).mp r;have:=(aao.mp ej).1;rw[Ld (by lia) (by lia)]at wd;cases wd
@[reducible]def PY:Stmt:=Bk 34
def jA:BA ["laying","kind","entries","place","head","offsets"] ["laying","kind","entries","place"] (B4 PY):=Bm
def vT(F:dR K "worth_at" "worth_at" PY f fd)(dc:EJ P w K mg am "worth_at" lv ["laying","kind","entries","place"] (Je pT dN n))(sN:EJ P w K mg am "number_read" 3 ["halves","words"] (bh dN))(xh:EJ P w K mg am "text_read" 3 ["texts","block"] (SY dN))(uZ:EJ P w K mg am "array_read" (lv+1) ["laying","kind","block"] (TI pT dN n))(uY:EJ P w K mg am "chain_read" (lv+1) ["laying","kind","entry"] (Sp pT dN n))(sO:EJ P w K mg am "choice_read" (lv+1) ["laying","kind","entries","place"] (TU pT dN n))(pf:AV P w K mg am "field_offsets" 7 ["laying","fields"] (VA pT))(hv:8≤lv)(ar:mg "tuple" = none):bB P w K mg am (Dd P w) (lv+1+1) f fd ["laying","kind","entries","place"] (BP (Je pT dN (n+1))):=by
 show JZ F jA (λts Γ Z Y h=>?_) (λcA A outer s H E ts Γ Z Y hr h=>?_)
 ·let⟨L,k,es,pl,rfl,_⟩:=h
  rfl
 let⟨L,k,es,pl,rfl,kg,kd,qX,gc,hi,gl,q⟩:=h;show⟨_,(A9 (Aa (i:=4) jA.nd (AJ (A3 1) AB))
  (A9 (Ah (Aj BH (A3 4) Ai) (A9 (Af (Gq sN hr Iq (A4 (AJ (A3 0) AB) (A4 (Ck DH (A3 2) (CN (A3 3)) (CN (AN CI (A3 3) (AJ (A3 1) AB)))) A8))))
  AD) AD)
  (A9 (Ah (Aj BH (A3 4) Ai) (A9 (Af (Gq xh hr Iq (A4 (AJ (A3 0) AB) (A4 (AJ (A3 2) (A3 3)) A8))))
  AD) AD)
  (A9 (Ah (PW.pt (Iu (Aj BH (A3 4) Ai) (LM (Aj BH (AJ (A3 0) AB) Ai)))) (A9 (Af (Gq uZ hr Iq (A4 (A3 0) (A4 (AJ (A3 1) AB) (A4 (AJ (A3 2) (A3 3)) A8)))))
  AD) AD)
  (A9 (Ah (Aj BH (A3 4) Ai) (A9 (Af (Gq uY hr Iq (A4 (A3 0) (A4 (AJ (A3 1) AB) (A4 (AJ (A3 2) (A3 3)) A8)))))
  AD) AD)
  (A9 (Ah (Aj BH (A3 4) Ai) (A9 (Aa (i:=5) jA.nd (AM pf hr (A4 (A3 0) (A4 (AJ (A3 1) AB) A8))))
  (A9 (Af (E7 Ff rfl ar DK (A4 (qu (own:=["name","inner"]) (cap:=[(0,"laying"),(2,"entries"),(3,"place"),(5,"offsets")]) ⟨rfl,rfl⟩ pW En rfl (F1 (AJ (A3 1) AB)) (λ_ _ _ _=>(GK (n:=2) rfl (DZ (DT (i:=0) (show List.Nodup (["name","inner","laying","entries","place","offsets"]:List Str)from by decide +kernel) rfl (Or.inl rfl) (Or.inr rfl)) (DZ (DT (i:=1) (show List.Nodup (["name","inner","laying","entries","place","offsets"]:List Str)from by decide +kernel) rfl (Or.inl rfl) (Or.inr rfl)) Ga)))) (λ_ _ _ _=>DF) (λ_ _ _ _ _ hx=>(Gq dc hr hx (A4 (A3 2) (A4 (A3 1) (A4 (A3 3) (A4 (AN CI (A3 4) (nQ (O9 (Ql (by decide:1≤64) _) hr.units) (A3 5) (A3 0))) A8))))))) A8)))
  AD)) AD)
  (A9 (Af (Gq sO hr Iq (A4 (A3 0) (A4 (A3 1) (A4 (A3 2) (A4 (A3 3) A8))))))
  AD))))))),?_⟩
 simp only[BW];let q':∀{sl:List T},(es.drop pl).take (AF k)=sl→CF (E3 Z) dN (λC Γ'=>∃Γ2,Le Γ2 Γ'∧Y C Γ2) Γ (Rd L k sl):=λ{sl} e=>by
  subst e;show⟨λu r=>q.yes r .refl,λno=>q.no no .refl⟩
 let one:AF k=1→∃e,es[pl]?=some e∧(es.drop pl).take (AF k)=[e]:=λh1=>by
  show⟨es[pl]'(by lia),BZ (by lia),?_⟩;rw[h1,eT (by lia)];rfl
 cases k with
 |num wd=>
  rw[Kd.tr];unfold Kd.good at kg;rw[AF]at gc q';unfold Ly.tr;left;let ec:BB es (some (pl:Int)) (some ((pl:Int)+wd))=(es.drop pl).take wd.toNat:=by
   rw[show(pl:Int)+wd=((pl+wd.toNat:Nat):Int)by lia,O7,Tu]
  rw[ec];let ll:((es.drop pl).take wd.toNat).length=wd.toNat:=by rw[Er,F4];lia
  show Ψ2 L _ ⟨rfl,by lia,.tup λu hu=>hi.mem (KN (Lu hu)),?_⟩;rw[ll,show((wd.toNat:Nat):Int)=wd by lia];show q' rfl
 |text=>
  rw[Kd.tr];let⟨e,he,N9⟩:=one (by rw[AF]);unfold Ly.tr;left;show FK he ?_;left;show Ψ2 L e ⟨rfl,hi.mem (CQ he),q' N9⟩
 |row k2=>
  rw[Kd.tr];let⟨e,he,N9⟩:=one (by rw[AF]);unfold Kd.good at kg;rw[Kd.depth]at kd qX;let Gz:=hi.mem (CQ he);unfold Ly.tr;left;show IM (i:=2) (t:=.str L.s3) rfl ?_;left;show B5 (λc=>?_) (λc=>?_)
  ·left
   show FK he ?_;left;show Ψ3 L k2 e ⟨rfl,kg,by lia,by lia,TZ (Hs c),Gz,gl,q' N9⟩
  ·left
   show FK he ?_;left;show Ψ3 L k2 e ⟨rfl,kg,by lia,by lia,Tz (Hh c),Gz,gl,q' N9⟩
 |pick fs=>
  rw[Kd.tr];rw[Kd.depth]at kd qX;rw[AF]at gc q';left;show Ψ4 L fs es pl ⟨by rw[Kd.tr],kg,by lia,by lia,gc,hi,gl,q' rfl⟩
 |rec_ fs=>
  let wD:=kg;unfold Kd.good at kg;rw[Kd.depth]at kd qX;rw[AF]at gc q;rw[Kd.tr];let pm:=FX L.na fs;let nd:=kg.2.2.2;let Gv:=JM (na:=L.na) nd;let off:∀{p:Str×Kd},p∈fs→Ce (Az L.na fs) p.1+AF p.2≤Bb fs:=λ{p} hp=>by
   have:=bW Gv (pm.mem_iff.mpr hp);rw[bY pm]at this;show this
  let rr:∀u,Rd L (.rec_ fs) ((es.drop pl).take (Bb fs)) u↔_:=λu=>P7 (L:=L) (u:=u) wD (by rw[Kd.depth];lia) (by rw[Er,F4];lia);left;show Ψ2 L fs ⟨rfl,nd,by lia,λp hp=>⟨DW kg.1 hp,by have:p.2.depth≤B6 fs:=DP hp;lia⟩,gl,λD hD=>?_⟩;left;show iW ?_;left;show⟨by rw[Fl];show B7 (Bq (by lia)),λrest τ ys Γ'=>∃(hs gs:List (Str×Kd)) (o0 o1:Option T),fs=hs++gs∧rest=CE gs∧τ=[o0,o1,some L.tr,some (.tup es),some (.int (pl:Nat)),some (.ref D)]∧ys.length=hs.length∧(∀(i:Nat) (nm:Str) (k:Kd) (t:T),hs[i]?=some (nm,k)→ys[i]?=some t→Rd L k ((es.drop (pl+Ce (Az L.na fs) nm)).take (AF k)) t)∧Γ'=up Γ D (.dK ((Az L.na fs).map λp=>(.inr p.1,.int (Ce (Az L.na fs) p.1:Nat)))),Ψ4 [] fs none none ⟨rfl,rfl,rfl,rfl,λi nm k t h=>by simp at h,rfl⟩,?_,?_⟩
  ·intro τ ys Γ'⟨hs,gs,o0,o1,ef,er,rfl,ly,hy,rfl⟩
   cases gs with
   |cons p r=>cases er
   |nil=>
    rw[Bz]at ef;subst ef;show⟨trivial,λD2 Fy=>?_⟩;left;show Ψ2 _ _ ⟨rfl,As AE,?_⟩;show q.yes ((rr _).mpr ⟨ys,rfl,ly,λi nm k t a b=>?_⟩) (.trans (.new hD) (.new Fy));rw[pB (off (CQ a))];show hy i nm k t a b
  ·intro x r τ ys Γ'⟨hs,gs,o0,o1,ef,er,rfl,ly,hy,rfl⟩
   cases gs with
   |nil=>cases er
   |cons p gs=>
    obtain⟨nm,k⟩:=p;rw[CE]at er;cases er;let mem:(nm,k)∈fs:=by rw[ef];simp
    let dk:k.depth≤B6 fs:=DP mem;let ho:Ce (Az L.na fs) nm+AF k≤Bb fs:=off mem;show⟨trivial,?_⟩;left;show Ψ4 D _ (.inr nm) _ ⟨rfl,rfl,AE,w8 (pm.mem_iff.mpr mem),?_⟩;left;show Ψ4 L k es (pl+Ce (Az L.na fs) nm) ⟨by rw[Hv],DW kg.1 mem,by lia,by lia,by lia,hi.le (.new hD),gl.new hD,?_⟩;show⟨λu ru=>?_,λno=>?_⟩
    ·show Ψ4 (hs++[(nm,k)]) gs _ _ ⟨by rw[ef];simp,rfl,rfl,by rw[B9,B9,ly];rfl,λi IC k' t a b=>?_,rfl⟩
     by_cases ci:i<hs.length
     ·rw[G3 ci]at a
      rw[G3 (by lia)]at b;show hy i IC k' t a b
     ·let ei:i=hs.length:=by
       have:=(aao.mp a).1;rw[B9]at this;have:i<hs.length+1:=this;lia
      subst ei;rw[Fi (Ak _),OD]at a;rw[Fi (by lia),show hs.length-ys.length=0 by lia]at b;cases a;cases b;show ru
    ·show q.no (λu r=>?_) (.new hD)
     let⟨ts,rfl,lt,ht⟩:=(rr u).mp r;obtain⟨i,Na,ei⟩:=JN mem;have:=ht i nm k _ (by rw[BZ Na,ei]) (BZ (by lia));rw[pB ho]at this;show no _ this
end
def v5:bootBuiltins "ValueError" = some (.type "ValueError"):=by decide +kernel
section
variable {dG d1 d2 d3 d4 d5 d6 d7 d8 d9 d10 d11: Addr}
def eN{f2 f3 f4:Addr}{Nl VE VD:FuncData}(F:dR K "worth_at" "worth_at" PY f fd)(m:mg "worth_at" = some (.ref f))(kp:W.keepIn K (.ref f)=true)(b:Binds K fd ["laying","kind","entries","place"] [])
  (m5:dR K "array_read" "array_read" Ri f2 Nl) (mF:mg "array_read" = some (.ref f2)) (kI:W.keepIn K (.ref f2)=true) (mX:Binds K Nl ["laying","kind","block"] [])
  (m4:dR K "chain_read" "chain_read" OM f3 VE) (mE:mg "chain_read" = some (.ref f3)) (kH:W.keepIn K (.ref f3)=true) (mW:Binds K VE ["laying","kind","entry"] [])
  (kN:dR K "choice_read" "choice_read" Qc f4 VD) (kG:mg "choice_read" = some (.ref f4)) (jV:W.keepIn K (.ref f4)=true) (kM:Binds K VD ["laying","kind","entries","place"] [])
  (C1:AV P w K mg am "is_word" 2 ["thing"] G0) (C2:AV P w K mg am "in_order" 6 ["laying","fields"] (Pw pT)) (Be:AV P w K mg am "size_of" 6 ["kind"] (Hz 6)) (C4:EJ P w K mg am "number_read" 3 ["halves","words"] (bh dN)) (C5:EJ P w K mg am "text_read" 3 ["texts","block"] (SY dN)) (C6:AV P w K mg am "field_offsets" 7 ["laying","fields"] (VA pT))
  (aD:mg "NoPicture" = some (.ref dN)) (aS:W.excIn K dN [.type "ValueError",.type "Exception",.type "BaseException",.type "object"] "ValueError.__new__" = true) (cg:mg "MOST_ITEMS" = some v1) (c9:GX v1 (.int 60)) (aj:mg "isinstance" = none) (ar:mg "tuple" = none) (aG:mg "len" = none) (aJ:mg "range" = none) (di:mg "all" = none) :
  ∀n:Nat,EJ P w K mg am "worth_at" (n+n+8) ["laying","kind","entries","place"] (Je pT dN n)
 |0=>Ψ2 f fd ⟨HA λts Γ Z Y h=>by obtain⟨_,k,_,_,_,_,h,_⟩:=h;lia,m,kp,b⟩
 |n+1=>by
  let ih:=eN F m kp b m5 mF kI mX m4 mE kH mW kN kG jV kM C1 C2 Be C4 C5 C6 aD aS cg c9 aj ar aG aJ di n;let D1:EJ P w K mg am "array_read" (n+n+8+1) ["laying","kind","block"] (TI pT dN n):=Ψ2 f2 Nl ⟨abZ m5 aD aS ih C1 Be (by lia) cg c9 aj ar aG aJ,mF,kI,mX⟩;let D2:EJ P w K mg am "chain_read" (n+n+8+1) ["laying","kind","entry"] (Sp pT dN n):=Ψ2 f3 VE ⟨ab9 m4 aD aS ih C1 Be (by lia) cg c9 aj ar aG,mE,kH,mW⟩;let FC:EJ P w K mg am "choice_read" (n+n+8+1) ["laying","kind","entries","place"] (TU pT dN n):=Ψ2 f4 VD ⟨aex kN aD aS ih C1 Be C2 (by lia) aG di,kG,jV,kM⟩;show Ψ2 f fd ⟨by rw[show n+1+(n+1)+8=n+n+8+1+1 by lia];show vT F ih C4 C5 D1 D2 FC C6 (by lia) ar,m,kp,b⟩
@[reducible]def Tc:Stmt:=Bk 33
def aa8:BA ["laying","kind","thing"] ["laying","kind","thing"] (B4 Tc):=Bm
abbrev Ha(L:Ly)(k:Kd)(t u:T):Prop:=∃es,t=.tup es∧Rd L k es u
abbrev ke(pT dN:Addr):BQ:=λts Γ Z Y=>∃(L:Ly) (k:Kd) (t:T),ts=[L.tr,k.tr,t]∧k.good∧k.depth≤5∧In Γ t∧jq pT Γ∧CF Z dN Y Γ (Ha L k t)
def acP(F:dR K "of_picture" "of_picture" Tc f fd)(aD:mg "NoPicture" = some (.ref dN))(aS:W.excIn K dN [.type "ValueError",.type "Exception",.type "BaseException",.type "object"] "ValueError.__new__" = true)(dc:EJ P w K mg am "worth_at" 20 ["laying","kind","entries","place"] (Je pT dN 6))(cC:AV P w K mg am "size_of" 6 ["kind"] (Hz 6))(aj:mg "isinstance" = none)(ar:mg "tuple" = none)(aG:mg "len" = none):bB P w K mg am (Dd P w) 21 f fd ["laying","kind","thing"] (BP (ke pT dN)):=by
 show JZ F aa8 (λts Γ Z Y h=>?_) (λcA A outer s H E ts Γ Z Y hr h=>?_)
 ·let⟨L,k,t,rfl,_⟩:=h
  rfl
 let⟨L,k,t,rfl,kg,kd,hi,gl,q⟩:=h;show⟨_,(A9 (Ah (PW.pt (DX (DJ (Bu (E5 rfl aj rfl ar DK (A3 2)))) (EK (Aj Ei (BC Cv rfl aG Cd (A4 (A3 2) A8)) (AM cC hr (A4 (A3 1) A8)))))) (A9 (HJ rfl rfl aD aS HH (A4 Ai A8) HE)
  AD) AD)
  (A9 (Af (Gq dc hr Iq (A4 (A3 0) (A4 (A3 1) (A4 (A3 2) (A4 AB A8))))))
  AD)),?_⟩
 simp only[BW];left;obtain⟨nn,c,e1,e2,h|h⟩:=hi.Kl (K:=K)
 ·let⟨rfl,⟨es,rfl⟩⟩:=h
  show Ψ2 nn true ⟨e1,e2,?_⟩;left;show⟨k,rfl,kg,by lia,?_⟩;left;show B5 (λc=>?_) (λc=>?_)
  ·left
   show q.no (λu r=>?_) .refl;obtain⟨CC,e,r⟩:=r;cases e;show He c (by rw[Tb kg kd r])
  ·let c:=Hj c
   left;show Ψ4 L k es 0 ⟨rfl,kg,by lia,kd,by lia,hi,gl,?_⟩;rw[HQ,ID (by lia)];show⟨λu r=>q.yes ⟨es,rfl,r⟩ .refl,λno=>q.no (λu r=>by obtain⟨CC,e,r⟩:=r;cases e;show no u r) .refl⟩
 ·obtain⟨rfl,h⟩:=h
  show Ψ2 nn false ⟨e1,e2,by left;show q.no (λu r=>by let⟨es,e,_⟩:=r;show h _ e) .refl⟩
@[reducible]def XC:Stmt:=Bk 57
def dY:BA ["laying","kind","thing","caught","found","e"] ["laying","kind","thing"] (B4 XC):=Bm
abbrev lJ(pT:Addr):BQ:=λts Γ Z _=>∃(L:Ly) (k:Kd) (t:T),ts=[L.tr,k.tr,t]∧k.good∧k.depth≤5∧In Γ t∧jq pT Γ∧(∀u,Ha L k t u→∀p,Γ p=none→Z (.ref p) (up Γ p (.lst [u])))∧((∀u,¬Ha L k t u)→∀p,Γ p=none→Z (.ref p) (up Γ p (.lst [])))
def acL{o:O}(l:Le Γ Γ'):Le (up Γ p o) (up Γ' p o):=λb v h=>by
 by_cases e:b=p
 ·subst e
  rw[AE]at h ⊢;show h
 ·rw[B8 e]at h ⊢
  show l b v h
def xM(F:dR K "_law_asked" "_law_asked" XC f fd)(uW:EJ P w K mg am "of_picture" 21 ["laying","kind","thing"] (ke pT dN))(jT:mg "GateError" = some (.ref dG))(aD:mg "NoPicture" = some (.ref dN))(yD:mg "Full" = some (.ref d1))(nZ:mg "NoBlock" = some (.ref d2))(qS:mg "NoDoor" = some (.ref d3))(qR:mg "NoPart" = some (.ref d4))(jR:mg "NoProgram" = some (.ref d5))(qQ:mg "NoRoom" = some (.ref d6))(qP:mg "NoText" = some (.ref d7))(nY:mg "NoThing" = some (.ref d8))(qO:mg "NoWord" = some (.ref d9))(lG:mg "NoWorths" = some (.ref d10))(jQ:mg "WrongHand" = some (.ref d11))(xm:W.exmOne K (.ref dN) (.ref dG)=some true)(ka:W.kitAny K (.ref dN) [.ref d1,.ref d2,.ref d3,.ref d4,.ref d5,.ref d6,.ref d7,.ref d8]=some false)(kb:W.kitAny K (.ref dN) [.ref d9,.ref d10,.ref d11]=some false)(kn:W.kitOne K (.ref dN) (.ref dN)=some true)(kv:W.kitOne K (.ref dN) (.type "ValueError")=some true)(ex:Fg K dN)(aj:mg "isinstance" = none)(iP:mg "ValueError" = none):bB P w K mg am BJ 22 f fd ["laying","kind","thing"] (BP (lJ pT)):=by
 show Cb F dY (λts Γ Z Y h=>?_) (λcA A outer s H E ts Γ Z Y hr h=>?_)
 ·let⟨L,k,t,rfl,_⟩:=h
  rfl
 let⟨L,k,t,rfl,kg,kd,hi,gl,q,qE⟩:=h;show⟨_,(A9 (Aa (i:=3) dY.nd Ez)
  (A9 (Aa (i:=4) dY.nd Ez)
  (A9 (zj (j:=5) rfl rfl rfl jT dY.nd rfl rfl (λ_ _ _ hx=>(A9 (Aa (i:=4) dY.nd (Gq uW hr hx (A4 (A3 0) (A4 (A3 1) (A4 (A3 2) A8)))))
  AD)) (λ_=>(A9 (Aa (i:=3) dY.nd (A3 5))
  AD)))
  (A9 (Ah (Aj Ux (A3 3) Ez) (A9 (Af (BL (A4 (A3 4) A8)))
  AD) AD)
  (A9 (Ah (Bu (BC qv rfl aj O0 (A4 (A3 3) (A4 (Bf (A4 (E8 rfl yD Gf) (A4 (E8 rfl nZ Gf) (A4 (E8 rfl qS Gf) (A4 (E8 rfl qR Gf) (A4 (E8 rfl jR Gf) (A4 (E8 rfl qQ Gf) (A4 (E8 rfl qP Gf) (A4 (E8 rfl nY Gf) A8))))))))) A8)))) (A9 (Af Ez)
  AD) AD)
  (A9 (Ah (PW.pt (DX (Bu (BC qv rfl aj O0 (A4 (A3 3) (A4 (Bf (A4 (E8 rfl qO Gf) (A4 (E8 rfl lG Gf) (A4 (E8 rfl jQ Gf) A8)))) A8)))) (EK (DJ (Bu (BC kf rfl aj O0 (A4 (A3 3) (A4 (aa7 rfl iP v5 rfl (by decide) (by decide)) A8)))))))) (A9 (Af Ez)
  AD) AD)
  (A9 (Ah (Bu (BC kf rfl aj O0 (A4 (A3 3) (A4 (E8 rfl aD Gf) A8)))) (A9 (Af (BL A8))
  AD) AD)
  (A9 (Af Ez)
  AD)))))))),?_⟩
 simp only[BW];left;show Ψ3 L k t ⟨rfl,kg,kd,hi,gl,λu r=>?_,λno=>?_⟩
 ·left
  intro p hp;left;show Ag .refl (q u r p hp)
 ·show⟨xm,λx hx=>?_⟩
  left;show Ψ5 x dN _ _ false ⟨rfl,rfl,ex,AE,ka,?_⟩;left;show Ψ5 x dN _ _ false ⟨rfl,rfl,ex,AE,kb,?_⟩;left;show Ψ5 x dN _ _ true ⟨rfl,rfl,ex,AE,kv,?_⟩;left;show Ψ5 x dN _ _ true ⟨rfl,rfl,ex,AE,kn,?_⟩;left;intro p hp;left;let Aw:Γ p=none:=by rw[B8 (CL AE hp).symm]at hp;show hp
  show Ag (acL (.new hx)) (qE no p Aw)
end
abbrev K4(Z:Cr)(Γ:AL)(r:T→Prop):Prop:=(∀u,r u→∀p,Γ p=none→Z (.ref p) (up Γ p (.lst [u])))∧((∀u,¬r u)→∀p,Γ p=none→Z (.ref p) (up Γ p (.lst [])))
def K4.yes(h:K4 Z Γ r)(ru:r u)(l:Le Γ Γ')(hp:Γ' p=none):E3 Z (.ref p) (up Γ' p (.lst [u])):=Yh l hp (h.1 u ru)
def K4.no(h:K4 Z Γ r)(n:∀u,¬r u)(l:Le Γ Γ')(hp:Γ' p=none):E3 Z (.ref p) (up Γ' p (.lst [])):=Yh l hp (h.2 n)
def ab1:∀c:Nat,c<128→Dq c=true→Bw jz.cps.toList ((c:Int)-32-(if(37:Int)<c then 1 else 0))=some c:=by decide +kernel
def xJ:∀cs:List Nat,EO (cs.map λc=>(⟨#[c]⟩:Str))=⟨cs.toArray⟩:=λcs=>by
 unfold EO;congr 2
 induction cs with
 |nil=>rfl
 |cons c cs ih=>simp at ih ⊢;show ih
abbrev EZ:Int→Bool:=λi=>if decide ((31:Int)<i)=true then(if decide (i<127)=true then !decide (V.int i=V.int 37)else false)else false
def kR(i:Int):EZ i=GR i:=by
 unfold EZ GR;let e3:decide (V.int i=V.int 37)=decide (i=37):=by rw[NM];show⟨V.int.inj,Ca _⟩
 rw[e3];by_cases a:(31:Int)<i
 ·rw[Dp a,AI rfl,Dp (show(32:Int)≤i by lia),Hk]
  by_cases b:i<127
  ·rw[Dp b,AI rfl,Dp (show i≤126 by lia),Hk]
  ·rw[DY b,AH BN,DY (show ¬i≤126 by lia),FT]
 ·rw[DY a,AH BN,DY (show ¬(32:Int)≤i by lia),FT,FT]
def nE:∀{ns:List Int},(∀n∈ns,0≤n)→(ns.map EZ).all id=true→∃cs:List Nat,ns=cs.map (λc:Nat=>(c:Int))∧cs.all Dq=true
 |[],_,_=>⟨[],rfl,rfl⟩
 |n::ns,h0,h=>by
  rw[Ar,HK,FI]at h;let⟨cs,rfl,q⟩:=nE (ns:=ns) (λm hm=>h0 m (by simp[hm])) h.2;let n0:=h0 n (by simp);obtain⟨c,rfl⟩:∃c:Nat,n=(c:Int):=⟨n.toNat,by lia⟩;let h1:EZ (c:Int)=true:=h.1;rw[kR,Pm]at h1;show⟨c::cs,rfl,by rw[HK,h1,q];rfl⟩
def lX:∀{cs:List Nat},cs.all Dq=true→((cs.map (λc:Nat=>(c:Int))).map EZ).all id=true
 |[],_=>rfl
 |c::cs,h=>by
  rw[HK,FI]at h;rw[Ar,Ar,HK,lX h.2,aF];show EZ (c:Int)=true
  rw[kR,Pm];show h.1
section
@[reducible]def TF:Stmt:=Bk 55
def y6:BA ["thing"] ["thing"] (B4 TF):=Bm
def aad(F:dR K "_law_whole" "_law_whole" TF f fd)(aj:mg "isinstance" = none)(eA:mg "int" = none)(iO:mg "bool" = none):bB P w K mg am BJ 1 f fd ["thing"] (BP Rh):=by
 show Cb F y6 (λts Γ Z Y h=>?_) (λcA A outer s H E ts Γ Z Y hr h=>?_)
 ·let⟨t,rfl,_⟩:=h
  rfl
 let⟨t,rfl,ht,q⟩:=h;show⟨_,(A9 (Af (Gk (E5 rfl aj rfl eA Jn (A3 0)) (Hi (fm (E5 rfl aj rfl iO WX (A3 0))))))
  AD),?_⟩
 simp only[BW];left;cases ht with
 |non=>show Ψ2 _ false ⟨rfl,rfl,by left;show Ag .refl q⟩
 |bl b=>show Ψ2 _ true ⟨rfl,rfl,by left;show Ψ2 _ true ⟨rfl,rfl,by left;show Ag .refl q⟩⟩
 |int i=>show Ψ2 _ true ⟨rfl,rfl,by left;show Ψ2 _ false ⟨rfl,rfl,by left;show Ag .refl q⟩⟩
 |str z=>show Ψ2 _ false ⟨rfl,rfl,by left;show Ag .refl q⟩
 |tup h=>show Ψ2 _ false ⟨rfl,rfl,by left;show Ag .refl q⟩
 |lst h=>show Ψ2 ("list") false ⟨(HI (A:=True) h trivial).1,rfl,by left;show Ag .refl q⟩
@[reducible]def XM:Stmt:=Bk 62
def zA:BA ["thing"] ["thing"] (B4 XM):=Bm
def vH(F:dR K "_law_word" "_law_word" XM f fd)(xi:AV P w K mg am "_law_whole" 1 ["thing"] Rh):bB P w K mg am BJ 2 f fd ["thing"] (BP G0):=by
 show Cb F zA (λts Γ Z Y h=>?_) (λcA A outer s H E ts Γ Z Y hr h=>?_)
 ·let⟨t,rfl,_⟩:=h
  rfl
 let⟨t,rfl,ht,q⟩:=h;show⟨_,(A9 (Af (Gk (AM xi hr (A4 (A3 0) A8)) (Gk (Eo Pe AB (A3 0)) (Hi (Eo Ml (A3 0) AB)))))
  AD),?_⟩
 simp only[BW];left;show⟨t,rfl,ht,?_⟩;cases ht with
 |int i=>
  dsimp only[BY]at q;left;show B5 (λc=>?_) (λc=>?_)
  ·rw[c,Hk]at q
   left;show Ag .refl q
  ·rw[c,FT]at q
   left;show Ag .refl q
 |_=>left;show Ag .refl q
@[reducible]def aV:Stmt:=Bk 63
def dW:BA ["laying","block","some","numbers"] ["laying","block"] (B4 aV):=Bm
abbrev TQ:BQ:=λts Γ Z _=>∃(L:Ly) (b:T),ts=[L.tr,b]∧In Γ b∧K4 Z Γ (Rd L .text [b])
def ze(F:dR K "_law_read_text" "_law_read_text" aV f fd)(de:AV P w K mg am "_law_word" 2 ["thing"] G0)(aj:mg "isinstance" = none)(ar:mg "tuple" = none)(aG:mg "len" = none)(di:mg "all" = none)(fi:mg "list" = none)(eA:mg "int" = none):bB P w K mg am BJ 3 f fd ["laying","block"] (BP TQ):=by
 show Cb F dW (λts Γ Z Y h=>?_) (λcA A outer s H E ts Γ Z Y hr h=>?_)
 ·let⟨L,b,rfl,_⟩:=h
  rfl
 let⟨L,b,rfl,hi,q⟩:=h;show⟨_,(A9 (Aa (i:=2) dW.nd Ai)
  (A9 (Ah (PW.pt (DX (DJ (Bu (E5 rfl aj rfl ar DK (A3 1)))) (DX (Aj (pI hr.kP) (A3 1) (Bf A8)) (DX (Aj Ip (BC Cv rfl aG Cd (A4 (A3 1) A8)) AB) (EK (DJ (Bu (BC (Kg rfl) rfl di KG (A4 (Ds (own:=["one"]) (cap:=[]) F2 rfl (F1 (A3 1)) (λ_ _ _ _=>Hx) (λ_ _ _ _=>DF) (λ_ _ _ _=>(AM de hr (A4 (A3 0) A8)))) A8))))))))) (A9 (Af (BL A8))
  AD) AD)
  (A9 (Aa (i:=3) dW.nd (E7 dZ rfl fi bj (A4 (Ck DH (A3 1) DM (CN (FP AB))) A8)))
  (A9 (Ek (Ah (Aj BH (AJ (A3 0) AB) Ai) (A9 (Aa (i:=3) dW.nd (E7 dZ rfl fi bj (A4 (Ck DH (A3 1) (CN AB) DM) A8)))
  (A9 (Ah (Aj Ei (AJ (A3 1) AB) (BC Cv rfl aG Cd (A4 (A3 3) A8))) (A9 (Af (BL A8))
  AD) AD)
  AD)) (A9 (Ah (Aj Ei (AJ (A3 1) (FP AB)) AB) (A9 (Af (BL A8))
  AD) AD)
  AD)))
  (A9 (Ah (DJ (Bu (BC (Kg rfl) rfl di KG (A4 (Ds (own:=["one"]) (cap:=[]) F2 rfl (Fj (A3 3)) (λ_ _ _ _=>Hx) (λ_ _ _ _=>DF) (λ_ _ _ _=>(Gk (Eo Ml AB (A3 0)) (Gk (Eo Ml (A3 0) AB) (Hi (Eo Ei (A3 0) AB)))))) A8)))) (A9 (Af (BL A8))
  AD) AD)
  (A9 (Af (BL (A4 (HP cS bg c8 dM Ai (A4 (Ds (own:=["one"]) (cap:=[(2,"some")]) En rfl (Fj (A3 3)) (λ_ _ _ _=>(DT (i:=0) (show List.Nodup (["one","some"]:List Str)from by decide +kernel) rfl (Or.inl rfl) (Or.inr rfl))) (λ_ _ _ _=>DF) (λ_ _ _ _=>(Yi (A3 1) (AN Fe (AN Fe (A3 0) AB) (E7 RG rfl eA Jn (A4 (Eo Ip (A3 0) AB) A8)))))) A8)) A8)))
  AD)))))),?_⟩
 simp only[BW,Ly.tr];left;obtain⟨nn,c,e1,e2,h|h⟩:=hi.Kl (K:=K)
 ·let⟨rfl,⟨us,rfl⟩⟩:=h
  show Ψ2 nn true ⟨e1,e2,?_⟩;left;let LX:∀u,Rd L .text [.tup us] u→us≠[]∧us.length≤61∧∀t∈us,BY t=true:=λu r=>by
   let⟨bl,e,ne⟩:=OI r;cases e;let⟨hs,e⟩:=r;cases hs with
   |@text z l h=>
    rw[AP]at e;let e:=T.tup.inj (D9 e).1;show⟨ne,by rw[←e,Ac,bJ];lia,λt ht=>?_⟩;rw[←e]at ht;let⟨n,hn,rfl⟩:=aau.mp ht;let F2:∀c∈z.cps.toList,c<127:=λc hc=>by
     have:=aaE.mp h c hc;unfold Dq at this;simp at this;lia
    have:0≤n∧n<65536:=by
     unfold Hn at hn;split at hn
     ·rcases aaC.mp hn with hn|hn
      ·let⟨c,hc,rfl⟩:=aau.mp hn
       have:=F2 c hc;lia
      ·rw[aat.mp hn];decide
     ·rcases aah.mp hn with rfl|hn
      ·lia
      ·let⟨c,hc,rfl⟩:=aau.mp hn
       have:=F2 c hc;lia
    show Ld this.1 this.2
  show B5 (λc=>?_) (λc=>?_)
  ·left
   intro p hp;left;show q.no (λu r=>(LX u r).1 (by simpa using c)) .refl hp
  let ne:us≠[]:=by simpa using c
  left;show B5 (λc2=>?_) (λc2=>?_)
  ·left
   intro p hp;left;show q.no (λu r=>by have:=Ec c2;have:=(LX u r).2.1;lia) .refl hp
  let R8:=Fn c2;left;show⟨B7 (Bq (by lia)),λrest τ ys Γ'=>∃(vs:List T) (o:Option T),us=vs++rest∧τ=[o]∧ys=(vs.map BY).map T.bl∧Γ'=Γ,Ψ2 [] none ⟨rfl,rfl,rfl,rfl⟩,?_,?_⟩;rotate_left
  ·intro x r τ ys Γ'⟨vs,o,es,rfl,rfl,rfl⟩
   left;show⟨x,rfl,hi.mem (by rw[es];simp),?_⟩;show Ψ2 (vs++[x]) _ ⟨by rw[es];simp,rfl,by rw[Ao,Ao];rfl,rfl⟩
  intro τ ys Γ'⟨vs,o,es,rfl,rfl,rfl⟩;rw[Bz]at es;subst es;show⟨trivial,λD hD=>?_⟩;left;show Ψ2 D _ ⟨rfl,As AE,?_⟩;left;show B5 (λc3=>?_) (λc3=>?_)
  ·left
   intro p hp;left;show q.no (λu r=>?_) (.new hD) hp;have:(us.map BY).all id=true:=aaE.mpr λb hb=>by
    let⟨t,ht,rfl⟩:=aau.mp hb;show(LX u r).2.2 t ht
   rw[this]at c3;cases c3
  let c3:(us.map BY).all id=true:=by simpa using c3
  let⟨ws,rfl,hw⟩:=R5 (sl:=us) λt ht=>aaE.mp c3 _ (aau.mpr ⟨t,ht,rfl⟩);rw[Ac]at R8;let lD:Le Γ' (up Γ' D (.lst (((ws.map T.int).map BY).map T.bl))):=.new hD;generalize up Γ' D (.lst (((ws.map T.int).map BY).map T.bl))=Γ2 at lD ⊢;left;intro p1 Fp;left;let rt:∀{signs:List T} {mark:T},ws.map T.int=(if L.en=true then signs++[mark]else mark::signs)→∀u,Rd L .text [.tup (ws.map T.int)] u↔∃cs:List Nat,signs=cs.map FE∧cs.length≤60∧cs.all Dq=true∧mark=.int (if L.en=true then 0 else(cs.length:Int))∧u=.str ⟨cs.toArray⟩:=λ{signs mark} e u=>by rw[e];show eG
  let V8:ws≠[]:=λe=>ne (by rw[e];rfl);show⟨λτ' Γ3=>∃(FC:Addr) (ns:List Int),τ'=[some (.tup [.str L.s1,.str L.s2,.str L.s3,.str L.s4]),some (.tup (ws.map T.int)),some (.str jz),some (.ref FC)]∧Γ3 FC=some (.lst (ns.map T.int))∧Le Γ' Γ3∧(∀n∈ns,0≤n)∧ns.length≤60∧∀u,Rd L .text [.tup (ws.map T.int)] u↔∃cs:List Nat,ns=cs.map (λc:Nat=>(c:Int))∧cs.all Dq=true∧u=.str ⟨cs.toArray⟩,?_,?_⟩
  ·left
   show B5 (λc4=>?_) (λc4=>?_)
   ·let en:=xf (Hs c4)
    cases ws with
    |nil=>show absurd rfl V8
    |cons m ns=>
     let Pz:=rt (signs:=ns.map T.int) (mark:=.int m) (by rw[en];rfl);rw[BE]at R8;left;rw[show BB ((m::ns).map T.int) (some 1) none=ns.map T.int from Mp (a:=1)];intro p2 iJ;left;show IM (i:=0) (t:=.int m) (show Bw (T.int m::ns.map T.int) 0=_ from Oc) ?_;left;show G5 AE ?_;left;show B5 (λc5=>?_) (λc5=>?_)
     ·left
      intro p3 rS;left;show q.no (λu r=>?_) (lD.trans (.trans (.new Fp) (.new iJ))) rS;let⟨cs,x1,_,_,x2,_⟩:=(Pz u).mp r;rw[en]at x2;show He c5 (by rw[x1,Ac];show T.int.inj x2)
     ·let c5:=Hj c5
      rw[Ac]at c5;left;show Ψ2 p2 ns ⟨rfl,AE,lD.trans (.trans (.new Fp) (.new iJ)),λn hn=>(hw n (by simp[hn])).1,by lia,λu=>(Pz u).trans ?_⟩;constructor
      ·intro⟨cs,x1,_,x4,_,x5⟩
       show⟨cs,NI (by rw[x1,CT];rfl),x4,x5⟩
      ·intro⟨cs,rfl,x4,x5⟩
       rw[Ac]at R8 c5;show⟨cs,by rw[CT];rfl,by lia,x4,by rw[en,c5];rfl,x5⟩
   ·let en:=xR (Hh c4)
    rcases Md ws with e|⟨ns,m,e⟩
    ·show absurd e V8
    rw[OE]at e;subst e;let e0:(ns++[m]).map T.int=ns.map T.int++[.int m]:=by rw[Ao];rfl
    let Pz:=rt (signs:=ns.map T.int) (mark:=.int m) (by rw[en,AI rfl,e0]);rw[B9,aB]at R8;let WO:ns.length≤60:=by lia
    let ec:BB ((ns++[m]).map T.int) none (some (-1))=ns.map T.int:=by rw[e0,fB,List.dropLast_concat]
    left;show IM (i:=-1) (t:=.int m) (by rw[e0];show kc _ _) ?_;left;show B5 (λc5=>?_) (λc5=>?_)
    ·left
     intro p3 rS;left;show q.no (λu r=>?_) (lD.trans (.new Fp)) rS;let⟨cs,x1,_,_,x2,_⟩:=(Pz u).mp r;rw[en]at x2;show He c5 (T.int.inj x2)
    ·let c5:=Hj c5
     subst c5;left;show Ψ2 p1 ns ⟨rfl,by rw[ec];show AE,lD.trans (.new Fp),λn hn=>(hw n (by simp[hn])).1,by lia,λu=>(Pz u).trans ?_⟩;constructor
     ·intro⟨cs,x1,_,x4,_,x5⟩
      show⟨cs,NI (by rw[x1,CT];rfl),x4,x5⟩
     ·intro⟨cs,rfl,x4,x5⟩
      rw[Ac]at WO;show⟨cs,by rw[CT];rfl,WO,x4,by rw[en];rfl,x5⟩
  intro τ Γ3⟨FC,ns,rfl,g3,l3,n0,MJ,iff⟩;left;show Ψ2 FC _ ⟨rfl,As g3,?_⟩;show⟨B7 (Bq (by rw[Ac];lia)),λrest τ ys Γ4=>∃(vs ms:List Int) (o:Option T),ns=vs++ms∧rest=ms.map T.int∧τ=[o]∧ys=(vs.map EZ).map T.bl∧Γ4=Γ3,Ψ3 [] ns none ⟨rfl,rfl,rfl,rfl,rfl⟩,?_,?_⟩;rotate_left
  ·intro x r τ ys Γ4⟨vs,ms,o,es,er,rfl,rfl,rfl⟩
   cases ms with
   |nil=>cases er
   |cons n ms=>
    cases er;let fin:∀b,EZ n=b→∃(m6 WE:List Int) (o:Option T),ns=m6++WE∧ms.map T.int=WE.map T.int∧[some (T.int n)]=[o]∧(vs.map EZ).map T.bl++[T.bl b]=(m6.map EZ).map T.bl∧Γ4=Γ4:=λb e=>Ψ3 (vs++[n]) ms _ ⟨by rw[es];simp,rfl,rfl,by rw[Ao,Ao,←e];rfl,rfl⟩;show⟨As g3,?_⟩;left;show B5 (λd1=>?_) (λd1=>?_)
    ·left
     show B5 (λd2=>?_) (λd2=>?_)
     ·left
      show fin _ (by unfold EZ;rw[d1,AI rfl,d2,AI rfl])
     ·left
      show fin _ (by unfold EZ;rw[d1,AI rfl,d2,AH BN])
    ·left
     show fin _ (by unfold EZ;rw[d1,AH BN])
  intro τ ys Γ4⟨vs,ms,o,es,er,rfl,rfl,rfl⟩;let hm:ms=[]:=by
   cases ms with
   |nil=>rfl
   |cons _ _=>cases er
  subst hm;rw[Bz]at es;subst es;show⟨As g3,λD4 Vv=>?_⟩;left;show Ψ2 D4 _ ⟨rfl,As AE,?_⟩;left;show B5 (λc6=>?_) (λc6=>?_)
  ·left
   intro p hp;left;show q.no (λu r=>?_) (l3.trans (.new Vv)) hp;let⟨cs,rfl,x4,_⟩:=(iff u).mp r;rw[lX x4]at c6;cases c6
  let c6:(ns.map EZ).all id=true:=by simpa using c6
  let⟨cs,rfl,x4⟩:=nE n0 c6;let g4:(up Γ4 D4 (.lst (((cs.map (λc:Nat=>(c:Int))).map EZ).map T.bl))) FC=some (.lst ((cs.map (λc:Nat=>(c:Int))).map T.int)):=by rw[B8 (CL g3 Vv)];show g3
  let l4:Le Γ' (up Γ4 D4 (.lst (((cs.map (λc:Nat=>(c:Int))).map EZ).map T.bl))):=l3.trans (.new Vv);generalize up Γ4 D4 (.lst (((cs.map (λc:Nat=>(c:Int))).map EZ).map T.bl))=Γ5 at g4 l4 ⊢;rw[Ac]at MJ;left;show Ψ2 FC _ ⟨rfl,As g4,?_⟩;show⟨B7 (Bq (by rw[Ac,Ac];lia)),λrest τ ys Γ6=>∃(ds es:List Nat) (o:Option T),cs=ds++es∧rest=es.map FE∧τ=[o,some (.str jz)]∧ys=(ds.map λc=>(⟨#[c]⟩:Str)).map T.str∧Γ6=Γ5,Ψ3 [] cs none ⟨rfl,by rw[CT];rfl,rfl,rfl,rfl⟩,?_,?_⟩
  ·intro τ ys Γ6⟨ds,es,o,ec,er,rfl,rfl,rfl⟩
   let hm:es=[]:=by
    cases es with
    |nil=>rfl
    |cons _ _=>cases er
   subst hm;rw[Bz]at ec;subst ec;show⟨As g4,λD5 ZL=>?_⟩;left;show Ψ2 D5 _ ⟨rfl,rfl,As AE,by rw[Ac];lia,λy hy=>by let⟨c,_,rfl⟩:=aau.mp hy;show 1≤1000;decide,?_⟩;rw[xJ];left;intro p hp;left;show q.yes ((iff _).mpr ⟨cs,rfl,x4,rfl⟩) (l4.trans (.new ZL)) hp
  ·intro x r τ ys Γ6⟨ds,es,o,ec,er,rfl,rfl,rfl⟩
   cases es with
   |nil=>cases er
   |cons c es=>
    cases er;let Mx:Dq c=true:=aaE.mp x4 c (by rw[ec];simp);let lt:c<128:=by unfold Dq at Mx;simp at Mx;lia
    show⟨As g4,?_⟩;unfold FE;left;show⟨_,rfl,?_⟩;left;show Ψ3 _ _ c ⟨rfl,rfl,by show 94≤sizeLine;decide,?_,?_⟩
    ·have:=ab1 c lt Mx
     simpa using this
    left;show Ψ3 (ds++[c]) es _ ⟨by rw[ec];simp,rfl,rfl,by rw[Ao,Ao];rfl,rfl⟩
 ·obtain⟨rfl,h⟩:=h
  show Ψ2 nn false ⟨e1,e2,?_⟩;left;intro p hp;left;show q.no (λu r=>by let⟨bl,e,_⟩:=OI r;show h bl e) .refl hp
end
abbrev El(L:Ly)(S:Nat)(e:T)(its:List (List T)):Prop:=its.length≤60∧(∀p∈its,p.length=S)∧(if L.ch=true then Cc its=e else e=.tup (.int its.length::its.flatten))
def ux(kg:k.good)(kd:k.depth≤5):Rd L (.row k) [e] u↔∃(its:List (List T)) (ts:List T),u=.tup ts∧El L (AF k) e its∧its.length=ts.length∧∀(j:Nat) (p:List T) (t:T),its[j]?=some p→ts[j]?=some t→Rd L k p t:=by
 constructor
 ·intro⟨hs,eq⟩
  cases hs with
  |@row _ ts l q=>
   rw[AP]at eq;let eq:=(D9 eq).1;show Ψ2 (ts.map λt=>AP L k t) ts ⟨rfl,⟨by rw[Ac];show l,λp hp=>?_,?_⟩,by rw[Ac],λj p t a b=>?_⟩
   ·let⟨t,ht,rfl⟩:=aau.mp hp
    show(Ex L (q t ht) kg kd).len
   ·split
    ·rename_i c
     rw[AI c]at eq;show eq
    ·rename_i c
     rw[AH c]at eq;rw[Ac];show eq.symm
   ·rw[CZ,b]at a
    cases a;show⟨q t (CQ b),rfl⟩
 ·intro⟨its,ts,rfl,⟨l,hl,he⟩,ll,h⟩
  let hj:∀(j:Nat) (t:T),ts[j]?=some t→∃p,its[j]?=some p∧Rd L k p t:=λj t ht=>by
   have:=(aao.mp ht).1;obtain⟨p,hp⟩:∃p,its[j]?=some p:=⟨_,BZ (by lia)⟩;show⟨p,hp,h j p t hp ht⟩
  let em:its=ts.map λt=>AP L k t:=by
   apply Jx
   intro j;rw[CZ];cases e:ts[j]? with
   |none=>
    have:=List.getElem?_eq_none_iff.mp e;rw[Eh (by lia)];rfl
   |some t=>
    let⟨p,hp,r⟩:=hj j t e;rw[hp,←r.2];rfl
  show⟨.row (by lia) λt ht=>?_,?_⟩
  ·let⟨j,M9⟩:=P0 ht
   let⟨p,_,r⟩:=hj j t M9;show r.1
  ·rw[AP]
   congr 1
   rw[em,Ac]at he;split
   ·rename_i c
    rw[AI c]at he;show he
   ·rename_i c
    rw[AH c]at he;show he.symm
def yf{a b:List (List T)}(ha:El L S e a)(hb:El L S e b):a=b:=by
 let⟨_,la,ea⟩:=ha;let⟨_,lb,eb⟩:=hb;split at ea
 ·rename_i c
  rw[AI c]at eb;have:∀{ps qs:List (List T)},Cc ps=Cc qs→ps=qs:=λ{ps}=>by
   induction ps with
   |nil=>intro qs e;cases qs with|nil=>rfl|cons _ _=>cases e
   |cons p ps UI=>
    intro qs e;cases qs with
    |nil=>cases e
    |cons r qs=>
     let e:=T.tup.inj e;let⟨e1,e2⟩:=D9 e;rw[UI e1,e2]
  show this (ea.trans eb.symm)
 ·rename_i c
  rw[AH c]at eb;let e:=T.tup.inj (ea.symm.trans eb);let⟨e1,e2⟩:=D9 e;let e1:a.length=b.length:=by have:=T.int.inj e1;lia
  apply Jx
  intro j;by_cases cj:j<a.length
  ·let h1:a[j]?=some a[j]:=BZ cj
   let h2:b[j]?=some (b[j]'(by lia)):=BZ (by lia);let c1:=chunk la h1;let c2:=chunk lb h2;rw[e2]at c1;rw[h1,h2,←c1,←c2]
  ·rw[Eh (by lia),Eh (by lia)]
section
@[reducible]def aA:Stmt:=Bk 64
def gG:BA ["laying","size","entry","items","turn"] ["laying","size","entry"] (B4 aA):=Bm
abbrev VU:BQ:=λts Γ Z _=>∃(L:Ly) (S:Nat) (e:T),ts=[L.tr,.int (S:Nat),e]∧S≤5184∧In Γ e∧(∀its,El L S e its→∀p,Γ p=none→Z (.ref p) (up Γ p (.lst (its.map T.tup))))∧((∀its,¬El L S e its)→Z .non Γ)
def aby(F:dR K "_law_items" "_law_items" aA f fd)(de:AV P w K mg am "_law_word" 2 ["thing"] G0)(aj:mg "isinstance" = none)(ar:mg "tuple" = none)(aG:mg "len" = none)(aJ:mg "range" = none):bB P w K mg am BJ 3 f fd ["laying","size","entry"] (BP VU):=by
 show Cb F gG (λts Γ Z Y h=>?_) (λcA A outer s H E ts Γ Z Y hr h=>?_)
 ·let⟨L,S,e,rfl,_⟩:=h
  rfl
 let⟨L,S,e,rfl,s5,hi,q,qn⟩:=h;show⟨_,(A9 (Ah (Aj BH (AJ (A3 0) AB) Ai) (A9 (Ah (PW.pt (DX (DJ (Bu (E5 rfl aj rfl ar DK (A3 2)))) (DX (Aj (pI hr.kP) (A3 2) (Bf A8)) (DX (DJ (Bu (AM de hr (A4 (AJ (A3 2) AB) A8)))) (EK (Aj Ip (AJ (A3 2) AB) AB)))))) (A9 (Af Ez)
  AD) AD)
  (A9 (Ah (Aj Ei (BC Cv rfl aG Cd (A4 (A3 2) A8)) (AN CI AB (AN GG (AJ (A3 2) AB) (A3 1)))) (A9 (Af Ez)
  AD) AD)
  (A9 (Af (Ds (own:=["k"]) (cap:=[(2,"entry"),(1,"size")]) En rfl (HL rfl aJ (A4 (AJ (A3 2) AB) A8)) (λ_ _ _ _=>(DT (i:=0) (show List.Nodup (["k","entry","size"]:List Str)from by decide +kernel) rfl (Or.inl rfl) (Or.inr rfl))) (λ_ _ _ _=>DF) (λ_ _ _ _=>(Ck DH (A3 1) (CN (AN CI AB (AN GG (A3 0) (A3 2)))) (CN (AN CI AB (AN GG (AN CI (A3 0) AB) (A3 2))))))))
  AD))) AD)
  (A9 (Aa (i:=3) gG.nd (BL A8))
  (A9 (G6 F8 rfl (HL rfl aJ (A4 AB A8)) (DE (i:=4) gG.nd) (A9 (Ah (DJ (Bu (E5 rfl aj rfl ar DK (A3 2)))) (A9 (Ah (PW.pt (Iu (Bu (AM de hr (A4 (A3 2) A8))) (LM (Aj BH (A3 2) AB)))) (A9 (Af (A3 3))
  AD) AD)
  (A9 (Af Ez)
  AD)) AD)
  (A9 (Ah (Aj Ei (BC Cv rfl aG Cd (A4 (A3 2) A8)) (AN CI AB (A3 1))) (A9 (Af Ez)
  AD) AD)
  (A9 (LG (HP HS LQ L0 Rp (A3 3) (A4 (Ck DH (A3 2) (CN AB) DM) A8)))
  (A9 (Aa (i:=2) gG.nd (AJ (A3 2) AB))
  AD)))))
  (A9 (Af Ez)
  AD)))),?_⟩
 simp only[BW,Ly.tr];left;show IM (i:=2) (t:=.str L.s3) rfl ?_;left;show B5 (λc=>?_) (λc=>?_)
 ·let ch:=TZ (Hs c)
  let arr:∀its,El L S e its→e=.tup (.int its.length::its.flatten)∧its.length≤60∧its.flatten.length=its.length*S:=λits h=>by
   let⟨l,hl,he⟩:=h;rw[ch,AH BN]at he;show⟨he,l,Nw hl⟩
  left;obtain⟨nn,c,e1,e2,h|h⟩:=hi.Kl (K:=K)
  ·let⟨rfl,⟨us,rfl⟩⟩:=h
   show Ψ2 nn true ⟨e1,e2,?_⟩;left;cases us with
   |nil=>
    show SK rfl ?_;left;show Ag .refl (qn λits h=>by cases(arr its h).1)
   |cons e0 bs=>
    show gU rfl ?_;left;show⟨e0,rfl,hi.mem (by simp),?_⟩;by_cases wd:BY e0=true
    ·let⟨m,rfl,m0,m1⟩:=FO wd
     rw[wd];left;show B5 (λc2=>?_) (λc2=>?_)
     ·let c2:=Ec c2
      left;show Ag .refl (qn λits h=>by let⟨he,l,_⟩:=arr its h;have:=T.int.inj (D9 (T.tup.inj he)).1;lia)
     ·let c2:=Fn c2
      obtain⟨mm,rfl⟩:∃mm:Nat,m=(mm:Int):=⟨m.toNat,by lia⟩;left;show G4 (Or.inl ⟨by lia,by lia⟩) ?_;left;show B5 (λc3=>?_) (λc3=>?_)
      ·left
       show Ag .refl (qn λits h=>?_);let⟨he,l,lf⟩:=arr its h;let⟨h1,h2⟩:=D9 (T.tup.inj he);let h1:mm=its.length:=by have:=T.int.inj h1;lia
       show He c3 ?_;rw[BE,h2,lf,←h1,Hv,JW];lia
      ·let c3:=Hj c3
       let hl:bs.length=mm*S:=by
        rw[BE,←JW]at c3;lia
       let hb:mm*S≤60*5184:=Hl (by lia) s5;let good:El L S (.tup (.int (mm:Int)::bs)) ((List.range mm).map λj=>(bs.drop (j*S)).take S):=by
        show⟨by rw[Ac,O4];lia,λp hp=>?_,?_⟩
        ·let⟨j,hj,rfl⟩:=aau.mp hp
         let hj:=acb.mp hj;have:(j+1)*S≤mm*S:=Ra _ (by lia);rw[LB,LN]at this;rw[Er,F4];lia
        ·rw[ch,AH BN,Ac,O4,Te (S:=S) (body:=bs) (by rw[Ac,O4];show hl) λj p hp=>?_]
         rw[CZ]at hp;cases e:(List.range mm)[j]? with
         |none=>rw[e]at hp;cases hp
         |some i=>
          rw[e]at hp;cases hp;have:=(aao.mp e).2;rw[List.getElem_range]at this;rw[this]
       left;show⟨_,rfl,by lia,by lia,B7 (Bq (by rw[Gs];lia)),λrest τ ys Γ'=>∃(j c:Nat) (o:Option T),rest=Dr j c∧j+c=mm∧τ=[o,some (.tup (.int (mm:Int)::bs)),some (.int (S:Nat))]∧ys=((List.range j).map λj=>(bs.drop (j*S)).take S).map T.tup∧Γ'=Γ,Ψ3 0 mm none ⟨rfl,F6 _,rfl,rfl,rfl⟩,?_,?_⟩
       ·intro τ ys Γ'⟨j,c,o,er,jc,rfl,rfl,rfl⟩
        let hc:=Io er;subst hc;let jc:j=mm:=jc;subst jc;show⟨trivial,λD hD=>?_⟩;left;show Ag .refl (q _ good D hD)
       ·intro x rr τ ys Γ'⟨j,c,o,er,jc,rfl,rfl,rfl⟩
        let⟨c',rfl,rfl,rfl⟩:=Gr er;show⟨trivial,?_⟩;left;show G4 (Or.inl ⟨by lia,by lia⟩) ?_;left;show G4 (Or.inl ⟨by lia,by lia⟩) ?_;left;let ea:(1:Int)+(j:Int)*(S:Int)=((1+j*S:Nat):Int):=by rw[Hv,JW];rfl
        let eb:(1:Int)+((j:Int)+1)*(S:Int)=((1+(j+1)*S:Nat):Int):=by rw[Hv,JW];rfl
        rw[ea,eb,O7];let e3:(T.int (mm:Int)::bs).drop (1+j*S)=bs.drop (j*S):=by rw[M2];rfl
        let e4:1+(j+1)*S-(1+j*S)=S:=by rw[LB,LN];lia
        rw[e3,e4];show Ψ3 (j+1) c' _ ⟨rfl,by lia,rfl,by rw[List.range_succ,Ao,Ao];rfl,rfl⟩
    ·rw[GS]at wd
     rw[wd];left;show Ag .refl (qn λits h=>by let⟨he,l,_⟩:=arr its h;rw[(D9 (T.tup.inj he)).1,Ld (by lia) (by lia)]at wd;cases wd)
  ·obtain⟨rfl,h⟩:=h
   show Ψ2 nn false ⟨e1,e2,by left;show Ag .refl (qn λits h'=>h _ (arr its h').1)⟩
 ·let ch:=Tz (Hh c)
  let SG:∀{its},El L S e its↔its.length≤60∧(∀p∈its,p.length=S)∧Cc its=e:=by intro its;unfold El;rw[ch,AI rfl]
  left;intro D hD;left;show⟨_,rfl,by decide,by decide,?_⟩;show⟨λrest τ Γ'=>∃(j c:Nat) (o:Option T) (ds:List (List T)) (e':T),rest=Dr j c∧j+c=61∧ds.length=j∧(∀p∈ds,p.length=S)∧τ=[some (.tup [.str L.s1,.str L.s2,.str L.s3,.str L.s4]),some (.int (S:Nat)),some e',some (.ref D),o]∧Γ'=up Γ D (.lst (ds.map T.tup))∧In Γ e'∧∀its,Cc its=e↔∃r,its=ds++r∧Cc r=e',Ψ5 0 61 none [] e ⟨rfl,rfl,rfl,λ_ h=>absurd h BI,rfl,rfl,hi,λits=>⟨λh=>⟨its,rfl,h⟩,λξ=>Ξ12 ξ λr e1 e2=>by rw[e1];show e2⟩⟩,?_,?_⟩
  ·intro τ Γ'⟨j,c,o,ds,e',er,jc,bF,_,rfl,rfl,_,iff⟩
   let hc:=Io er;subst hc;show⟨trivial,?_⟩;left;show Ag (.new hD) (qn λits h=>?_);let⟨l,_,h⟩:=SG.mp h;let⟨r,rfl,_⟩:=(iff its).mp h;rw[B9]at l;lia
  ·intro x rr τ Γ'⟨j,c,o,ds,e',er,jc,bF,WM,rfl,rfl,Gz,iff⟩
   let⟨c',rfl,rfl,rfl⟩:=Gr er;let lD:Le Γ (up Γ D (.lst (ds.map T.tup))):=.new hD;show⟨trivial,?_⟩;left;obtain⟨nn,c,e1,e2,h|h⟩:=(Gz.le lD).Kl (K:=K)
   ·let⟨rfl,⟨us,rfl⟩⟩:=h
    show Ψ2 nn true ⟨e1,e2,?_⟩;left;let no:(us=[]∨us.length≠1+S)→∀its,¬El L S e its:=λhu its h=>by
     let⟨l,hp,h2⟩:=SG.mp h;let⟨r,er,h3⟩:=(iff its).mp h2;cases r with
     |nil=>cases h3
     |cons p r=>
      let h3:=T.tup.inj h3;rw[er]at hp;rcases hu with hu|hu
      ·rw[hu]at h3;cases h3
      ·show hu ?_
       rw[←h3,BE,hp p (by simp)];lia
    show B5 (λc2=>?_) (λc2=>?_)
    ·left
     show Ag lD (qn (no (.inr λz=>He c2 (by rw[z];lia))))
    ·let c2:=Hj c2
     cases us with
     |nil=>simp at c2;lia
     |cons y p=>
      rw[BE]at c2;left;show HI AE ?_;left;rw[show BB (y::p) (some 1) none=p from Mp (a:=1)];show Ψ3 D _ _ ⟨rfl,rfl,AE,by rw[Ac,CP];lia,?_⟩;rw[T7];left;show Ψ5 (j+1) c' _ (ds++[p]) y ⟨rfl,by lia,by rw[B9,bF];rfl,λz hz=>?_,rfl,by rw[Ao];rfl,Gz.mem (by simp),λits=>(iff its).trans ?_⟩
      ·rcases aaC.mp hz with hz|hz
       ·show WM z hz
       ·rw[aat.mp hz];lia
      ·constructor
       ·intro⟨r,rfl,h⟩
        cases r with
        |nil=>cases h
        |cons p' r=>
         let h:=T.tup.inj h;let⟨h1,h2⟩:=D9 h;show⟨r,by rw[h2];simp,h1⟩
       ·intro⟨r,rfl,h⟩
        show⟨p::r,by simp,by show T.tup (Cc r::p)=_;rw[h]⟩
   ·obtain⟨rfl,h⟩:=h
    show Ψ2 nn false ⟨e1,e2,?_⟩;left;show⟨e',rfl,Gz.le lD,?_⟩;let no:e'≠.int 0→∀its,¬El L S e its:=λne its h'=>by
     let⟨l,hp,h2⟩:=SG.mp h';let⟨r,er,h3⟩:=(iff its).mp h2;cases r with
     |nil=>show ne h3.symm
     |cons p r=>show h _ h3.symm
    by_cases wd:BY e'=true
    ·let⟨i,rfl,i0,i1⟩:=FO wd
     rw[wd];left;show B5 (λc2=>?_) (λc2=>?_)
     ·let c2:=kx c2
      subst c2;left;show Ag .refl (q ds (SG.mpr ⟨by lia,WM,(iff ds).mpr ⟨[],by simp,rfl⟩⟩) D hD)
     ·left
      show Ag lD (qn (no λz=>dj c2 (T.int.inj z)))
    ·rw[GS]at wd
     rw[wd];left;show Ag lD (qn (no λz=>by rw[z]at wd;cases wd))
end
def vR(nd:(fs.map (·.1)).Nodup){j:Nat}:(Az L.na fs)[j]? =((Az L.na (Bl fs))[j]?).map λz=>(z.1,z.2.1):=by rw[MR nd,CZ]
def jg(na:Bool)(fs:al):(CU na fs).Nodup∧∀i,i<fs.length→i∈CU na fs:=by
 let p:(CU na fs).Perm (List.range fs.length):=by
  unfold CU;rw[←fe];show(FX na _).map _
 show⟨p.nodup_iff.mpr List.nodup_range,λi hi=>p.mem_iff.mpr (acb.mpr hi)⟩
abbrev Kb(ps:List ((Str×(Kd×Nat))×T)):List (Ap×T):=ps.map λp=>(.inl (p.1.2.2:Int),p.2)
def yc{ps:List ((Str×(Kd×Nat))×T)}(h:∃p∈ps,p.1.2.2=i):∃p∈ps,p.1.2.2=i∧DS (Kb ps) (.inl (i:Int))=some p.2:=by
 induction ps with
 |nil=>let⟨p,hp,_⟩:=h;cases hp
 |cons q r ih=>
  unfold DS Kb;rw[Ar];by_cases e:q.1.2.2=i
  ·show⟨q,by simp,e,?_⟩
   rw[ba (by simp[e])];rfl
  ·let⟨p,hp,e1⟩:=h
   rcases aah.mp hp with rfl|hp
   ·show absurd e1 e
   ·let⟨p',Aw,a,b⟩:=ih ⟨p,hp,e1⟩
    show⟨p',by simp[Aw],a,?_⟩;rw[XF (by simp;lia)];show b
section
abbrev MT(n:Nat):BQ:=λts Γ Z _=>∃(L:Ly) (k:Kd) (sl:List T),ts=[L.tr,k.tr,.tup sl]∧k.good∧k.depth<n∧k.depth≤5∧sl.length=AF k∧In Γ (.tup sl)∧K4 Z Γ (Rd L k sl)
@[reducible]def Pd:Stmt:=Bk 65
def aT:BA ["laying","kind","row","places","name","below","size","parts","at","place","one"] ["laying","kind","row"] (B4 Pd):=Bm
abbrev Vy(n:Nat):BQ:=λts Γ Z _=>∃(L:Ly) (k:Kd) (fs:al) (sl:List T),ts=[L.tr,k.tr,.tup sl]∧(k=.rec_ fs∨k=.pick fs)∧k.good∧B6 fs<n∧B6 fs≤4∧sl.length=AF k∧In Γ (.tup sl)∧K4 Z Γ (Rd L k sl)
def ace(F:dR K "_law_read_fields" "_law_read_fields" Pd f fd)(fA:AV P w K mg am "_law_read" (lv+6) ["laying","kind","row"] (MT n))(ja:AV P w K mg am "_law_places" 1 ["laying","fields"] Mo)(de:AV P w K mg am "_law_word" 2 ["thing"] G0)(cy:AV P w K mg am "_law_size" 6 ["kind"] (IB 6))(aG:mg "len" = none)(di:mg "all" = none)(ar:mg "tuple" = none)(aJ:mg "range" = none):bB P w K mg am BJ (lv+6+1) f fd ["laying","kind","row"] (BP (Vy n)):=by
 show Cb F aT (λts Γ Z Y h=>?_) (λcA A outer s H E ts Γ Z Y hr h=>?_)
 ·let⟨L,k,fs,sl,rfl,_⟩:=h
  rfl
 let⟨L,k,fs,sl,rfl,kk,wD,kd,YO,oM,hi,q⟩:=h;show⟨_,(A9 (Aa (i:=3) aT.nd (AM ja hr (A4 (A3 0) (A4 (AJ (A3 1) AB) A8))))
  (A9 (Ah (Aj BH (AJ (A3 1) AB) Ai) (A9 (Ah (PW.pt (DX (DJ (Bu (AM de hr (A4 (AJ (A3 2) AB) A8)))) (EK (Aj Kw (AJ (A3 2) AB) (BC Cv rfl aG Cd (A4 (A3 3) A8)))))) (A9 (Af (BL A8))
  AD) AD)
  (A9 (Iv (AJ (AJ (A3 1) AB) (AJ (A3 3) (AJ (A3 2) AB))) (GK (n:=2) rfl (DZ (DE (i:=4) aT.nd) (DZ (DE (i:=5) aT.nd) Ga))))
  (A9 (Aa (i:=6) aT.nd (AM cy hr (A4 (A3 5) A8)))
  (A9 (Ah (DJ (Bu (BC (Kg rfl) rfl di KG (A4 (Ds (own:=["one"]) (cap:=[]) F2 rfl (F1 (Ck DH (A3 2) (CN (AN CI AB (A3 6))) DM)) (λ_ _ _ _=>Hx) (λ_ _ _ _=>DF) (λ_ _ _ _=>(Gk (AM de hr (A4 (A3 0) A8)) (Hi (Eo BH (A3 0) AB))))) A8)))) (A9 (Af (BL A8))
  AD) AD)
  (A9 (Af (Ds (own:=["one"]) (cap:=[(4,"name")]) En rfl (Fj (AM fA hr (A4 (A3 0) (A4 (A3 5) (A4 (Ck DH (A3 2) (CN AB) (CN (AN CI AB (A3 6)))) A8))))) (λ_ _ _ _=>(DT (i:=0) (show List.Nodup (["one","name"]:List Str)from by decide +kernel) rfl (Or.inl rfl) (Or.inr rfl))) (λ_ _ _ _=>DF) (λ_ _ _ _=>(Bf (A4 (A3 1) (A4 (A3 0) A8))))))
  AD))))) AD)
  (A9 (Aa (i:=7) aT.nd fT)
  (A9 (Aa (i:=8) aT.nd AB)
  (A9 (G6 F8 rfl (Fj (A3 3)) (DE (i:=9) aT.nd) (A9 (Aa (i:=6) aT.nd (AM cy hr (A4 (AJ (AJ (AJ (A3 1) AB) (A3 9)) AB) A8)))
  (A9 (Aa (i:=10) aT.nd (AM fA hr (A4 (A3 0) (A4 (AJ (AJ (AJ (A3 1) AB) (A3 9)) AB) (A4 (Ck DH (A3 2) (CN (A3 8)) (CN (AN CI (A3 8) (A3 6)))) A8)))))
  (A9 (Ah (Aj (gv hr.kP) (A3 10) (BL A8)) (A9 (Af (BL A8))
  AD) AD)
  (A9 (oo (O9 (Ql (by decide:1≤64) _) hr.units) (A3 7) (A3 9) (AJ (A3 10) AB))
  (A9 (Aa (i:=8) aT.nd (AN CI (A3 8) (A3 6)))
  AD))))))
  (A9 (Af (BL (A4 (E7 Ff rfl ar DK (A4 (Ds (own:=["place"]) (cap:=[(7,"parts")]) En rfl (HL rfl aJ (A4 (BC Cv rfl aG Cd (A4 (A3 3) A8)) A8)) (λ_ _ _ _=>(DT (i:=0) (show List.Nodup (["place","parts"]:List Str)from by decide +kernel) rfl (Or.inl rfl) (Or.inr rfl))) (λ_ _ _ _=>DF) (λ_ _ _ _=>(nQ (O9 (Ql (by decide:1≤64) _) hr.units) (A3 1) (A3 0)))) A8)) A8)))
  AD)))))),?_⟩
 simp only[BW];have kg:Dl fs∧1≤fs.length∧fs.length≤6∧(fs.map (·.1)).Nodup:=by rcases kk with rfl|rfl<;>(unfold Kd.good at wD;show wD)
 let nd:=kg.2.2.2;let pm:=FX L.na fs;let lO:(Az L.na (Bl fs)).length=fs.length:=by rw[L8,Rl]
 rcases kk with rfl|rfl
 ·rw[AF]at oM
  let rr:∀u,Rd L (.rec_ fs) sl u↔_:=λu=>P7 (L:=L) (u:=u) wD (by rw[Kd.depth];lia) oM;let off:∀{p:Str×Kd},p∈fs→Ce (Az L.na fs) p.1+AF p.2≤Bb fs:=λ{p} hp=>by
   have:=bW (JM (na:=L.na) nd) (pm.mem_iff.mpr hp);rw[bY pm]at this;show this
  rw[Kd.tr];left;show Ψ2 L fs ⟨rfl,by lia,nd,λpl gc=>?_⟩;left;intro D hD;let Kz:pl≠D:=CL AE hD;left;let l1:Le Γ (up Γ pl (.lst ((CU L.na fs).map λj=>T.int (j:Nat)))):=.new gc;let g1:(up Γ pl (.lst ((CU L.na fs).map λj=>T.int (j:Nat)))) pl=some (.lst ((CU L.na fs).map λj=>T.int (j:Nat))):=AE;generalize up Γ pl (.lst ((CU L.na fs).map λj=>T.int (j:Nat)))=Γ1 at l1 g1 hD ⊢;show Ψ2 pl _ ⟨rfl,As (by rw[B8 Kz];show g1),?_⟩;show⟨λrest τ Γ'=>∃(ps:List ((Str×(Kd×Nat))×T)) (ys:List (Str×(Kd×Nat))) (o4 o5 o6 o9 Uj:Option T),Az L.na (Bl fs)=ps.map (·.1)++ys∧rest=ys.map (λz=>T.int (z.2.2:Nat))∧(∀p∈ps,Rd L p.1.2.1 ((sl.drop (Ce (Az L.na fs) p.1.1)).take (AF p.1.2.1)) p.2)∧τ=[some L.tr,some (.tup [.str "rec",.tup (CE fs)]),some (.tup sl),some (.ref pl),o4,o5,o6,some (.ref D),some (.int (Bb (ps.map λp=>(p.1.1,p.1.2.1)):Nat)),o9,Uj]∧Γ' D=some (.dK (Kb ps))∧Le Γ1 Γ',Ψ7 [] _ none none none none none ⟨rfl,by unfold CU;rw[CT];rfl,λ_ h=>absurd h BI,by rw[GQ,Bb];rfl,AE,.new hD⟩,?_,?_⟩
  ·intro τ Γ2⟨ps,ys,o4,o5,o6,o9,Uj,eo,er,UZ,rfl,gD,l2⟩
   let hy:ys=[]:=by
    cases ys with
    |nil=>rfl
    |cons _ _=>cases er
   subst hy;rw[Bz]at eo;show⟨As (l2 _ _ g1),?_⟩;left;show G5 (l2 _ _ g1) ?_;rw[Ac,show(CU L.na fs).length=fs.length from by unfold CU;rw[Ac,lO]];left;show⟨_,rfl,by lia,by lia,B7 (Bq (by rw[Gs];lia)),λrest τ ys Γ'=>∃(j c:Nat) (o:Option T),rest=Dr j c∧j+c=fs.length∧τ=[o,some (.ref D)]∧ys.length=j∧(∀(i:Nat) (t:T),ys[i]?=some t→∃p∈ps,p.1.2.2=i∧p.2=t)∧Γ'=Γ2,Ψ3 0 fs.length none ⟨rfl,F6 _,rfl,rfl,λi t h=>by simp at h,rfl⟩,?_,?_⟩
   ·intro τ ys Γ3⟨j,c,o,er,jc,rfl,ly,hy,rfl⟩
    let hc:=Io er;subst hc;show⟨trivial,λD2 Fy=>?_⟩;left;show Ψ2 _ _ ⟨rfl,As AE,?_⟩;left;intro p hp;left;show q.yes ((rr _).mpr ⟨ys,rfl,by lia,λi nm k t a b=>?_⟩) ((l1.trans l2).trans (.new Fy)) hp;let⟨p,hp,e1,e2⟩:=hy i t b;let zm:=K6 (na:=L.na) (fs:=fs) (z:=p.1) (by rw[eo];show aau.mpr ⟨p,hp,rfl⟩);rw[e1,a]at zm;let h1:nm=p.1.1:=Ca Prod.fst (EC zm);let h2:k=p.1.2.1:=Ca Prod.snd (EC zm);rw[h1,h2,←e2];show UZ p hp
   ·intro x rr' τ ys Γ3⟨j,c,o,er,jc,rfl,ly,hy,rfl⟩
    let⟨c',rfl,rfl,rfl⟩:=Gr er;let vm:j∈CU L.na fs:=(jg L.na fs).2 j (by lia);unfold CU at vm;rw[eo,CT]at vm;let⟨p0,Cw,ep0⟩:=aau.mp vm;let⟨p1,Fp,ep1,ev⟩:=yc (ps:=ps) (i:=j) ⟨p0,Cw,ep0⟩;show⟨trivial,?_⟩;left;show Ψ4 D _ (.inl (j:Int)) _ ⟨rfl,rfl,gD,ev,?_⟩;show Ψ3 (j+1) c' _ ⟨rfl,by lia,rfl,by rw[B9,ly];rfl,λi t ht=>?_,rfl⟩;by_cases ci:i<ys.length
    ·rw[G3 ci]at ht
     show hy i t ht
    ·let ei:i=ys.length:=by
      have:=(aao.mp ht).1;rw[B9]at this;have:i<ys.length+1:=this;lia
     subst ei;rw[Fi (Ak _),OD]at ht;cases ht;show⟨p1,Fp,by lia,rfl⟩
  ·intro x r τ Γ2⟨ps,ys,o4,o5,o6,o9,Uj,eo,er,UZ,rfl,gD,l2⟩
   cases ys with
   |nil=>cases er
   |cons z ys=>
    cases er;let zf:=K6 (na:=L.na) (fs:=fs) (z:=z) (by rw[eo];simp);let mem:=CQ zf;let dk:z.2.1.depth≤B6 fs:=DP mem;let gk:=DW kg.1 mem;let eO:Az L.na fs=(ps.map λp=>(p.1.1,p.1.2.1))++(z.1,z.2.1)::ys.map λz=>(z.1,z.2.1):=by rw[MR nd,eo,Ao,CT];rfl
    let nz:z.1∉(ps.map λp=>(p.1.1,p.1.2.1)).map (·.1):=λh=>by
     have:=JM (na:=L.na) nd;rw[eO,Ao,ND]at this;show this.2.2 _ h z.1 (by simp) rfl
    let Jg:Ce (Az L.na fs) z.1=Bb (ps.map λp=>(p.1.1,p.1.2.1)):=by rw[eO,TB,AH nz,Ce,AI rfl];lia
    let ho:Ce (Az L.na fs) z.1+AF z.2.1≤Bb fs:=off mem;let nk:∀y∈Kb ps,y.1≠.inl (z.2.2:Int):=λy hy e=>by
     let⟨p,hp,rfl⟩:=aau.mp hy;let e:(p.1.2.2:Int)=z.2.2:=Sum.inl.inj e;let pn:=(jg L.na fs).1;unfold CU at pn;rw[eo,Ao,ND]at pn;show pn.2.2 p.1.2.2 (by rw[CT];show aau.mpr ⟨p,hp,rfl⟩) z.2.2 (by simp) (by lia)
    show⟨As (l2 _ _ g1),?_⟩;left;show FK (Hw zf) ?_;left;show⟨z.2.1,rfl,gk,by lia,?_⟩;left;show FK (Hw zf) ?_;left;rw[←Jg,show((Ce (Az L.na fs) z.1:Nat):Int)+((AF z.2.1:Nat):Int)=((Ce (Az L.na fs) z.1+AF z.2.1:Nat):Int)from by rw[Hv],O7,Tu];show Ψ3 L z.2.1 _ ⟨rfl,gk,by lia,by lia,by rw[Er,F4];lia,.tup λt ht=>(hi.mem (KN (Lu ht))).le (l1.trans l2),λt rt p hp=>?_,λno p hp=>?_⟩
    ·left
     intro p2 iJ;let gp:(up (up Γ2 p (.lst [t])) p2 (.lst [])) p=some (.lst [t]):=by rw[B8 (CL AE iJ)];show AE
     let l3:Le Γ1 (up (up Γ2 p (.lst [t])) p2 (.lst [])):=l2.trans (.trans (.new hp) (.new iJ));let Q5:(up (up Γ2 p (.lst [t])) p2 (.lst [])) D=some (.dK (Kb ps)):=(Le.trans (.new hp) (.new iJ)) _ _ gD;show Ψ3 p p2 _ ⟨rfl,rfl,gp,AE,?_⟩;generalize up (up Γ2 p (.lst [t])) p2 (.lst [])=Γ3 at gp l3 Q5 ⊢;left;show gX ?_;left;show Ψ3 D _ (.inl (z.2.2:Int)) ⟨rfl,rfl,Q5,by unfold Kb;rw[Ac,CP];have:=Ca List.length eo;rw[lO,B9,Ac]at this;lia,?_⟩;rw[jC nk];left;show Ψ7 (ps++[(z,t)]) ys o4 o5 (some (.int (AF z.2.1:Nat))) (some (.int (z.2.2:Nat))) (some (.ref p)) ⟨by rw[eo,Ao,Oj];rfl,rfl,λp hp=>?_,?_,by rw[AE];unfold Kb;rw[Ao];rfl,λb o hb=>?_⟩
     ·rcases aaC.mp hp with hp|hp
      ·show UZ p hp
      ·rw[aat.mp hp];show rt
     ·let es:Bb ((ps++[(z,t)]).map λp=>(p.1.1,p.1.2.1))=Ce (Az L.na fs) z.1+AF z.2.1:=by rw[Jg,Ao,K8,K8,Ao,Vz];simp
      rw[es,Hv];rfl
     ·have:b≠D:=λe=>by rw[e,hD]at hb;cases hb
      rw[B8 this];show l3 b o hb
    ·left
     intro p2 iJ;show Ψ3 p p2 _ ⟨rfl,rfl,by rw[B8 (CL AE iJ)];show AE,AE,?_⟩;left;intro p3 rS;left;show q.no (λu r=>?_) ((l1.trans l2).trans (.trans (.new hp) (.new iJ))) rS;let⟨ts,rfl,lt,ht⟩:=(rr u).mp r;have:=(aao.mp zf).1;show no _ (ht z.2.2 z.1 z.2.1 _ zf (BZ (by lia)))
 ·rw[AF]at oM
  cases sl with
  |nil=>
   have:1+AF (fs[0]'(by lia)).2≤Bc fs:=Iz (Mc (by lia));rw[TP]at oM;lia
  |cons e0 es=>
   rw[BE]at oM;let rp:∀u,Rd L (.pick fs) (e0::es) u↔_:=λu=>Qv (L:=L) (u:=u) wD (by rw[Kd.depth];lia) oM;rw[Kd.tr];left;show Ψ2 L fs ⟨rfl,by lia,nd,λpl gc=>?_⟩;left;let l1:Le Γ (up Γ pl (.lst ((CU L.na fs).map λj=>T.int (j:Nat)))):=.new gc;let g1:(up Γ pl (.lst ((CU L.na fs).map λj=>T.int (j:Nat)))) pl=some (.lst ((CU L.na fs).map λj=>T.int (j:Nat))):=AE;generalize up Γ pl (.lst ((CU L.na fs).map λj=>T.int (j:Nat)))=Γ1 at l1 g1 ⊢;show⟨e0,rfl,(hi.mem (by simp)).le l1,?_⟩;let WL:((CU L.na fs).map λj=>T.int (j:Nat)).length=fs.length:=by rw[Ac];unfold CU;rw[Ac,lO]
   generalize ePL:((CU L.na fs).map λj=>T.int (j:Nat))=PL at g1 WL;by_cases wd:BY e0=true
   ·let⟨m,rfl,m0,m1⟩:=FO wd
    rw[wd];left;show G5 g1 ?_;rw[WL];left;show B5 (λc=>?_) (λc=>?_)
    ·let c:=Ec c
     left;intro p hp;left;show q.no (λu r=>?_) l1 hp;let⟨j,nm,k,t,ej,e,_⟩:=(rp u).mp r;have:=(aao.mp ej).1;rw[L8]at this;have:=T.int.inj e;lia
    ·let c:=Fn c
     obtain⟨j,rfl⟩:∃j:Nat,m=(j:Int):=⟨m.toNat,by lia⟩;obtain⟨z,ez⟩:∃z,(Az L.na (Bl fs))[j]?=some z:=⟨_,BZ (by lia)⟩;let zf:=K6 (na:=L.na) (fs:=fs) (z:=z) (CQ ez);let ej:(Az L.na fs)[j]?=some (z.1,z.2.1):=by rw[vR nd,ez];rfl
     let mem:=CQ zf;let dk:z.2.1.depth≤B6 fs:=DP mem;let gk:=DW kg.1 mem;let sp:1+AF z.2.1≤Bc fs:=Iz mem;let Pn:Bc fs≤865:=(LI fs 3 kg.1 (by lia)).2;let one:∀{u},Rd L (.pick fs) (.int (j:Int)::es) u→∃t,u=.tup [.str z.1,t]∧Rd L z.2.1 (es.take (AF z.2.1)) t∧∀x∈es.drop (AF z.2.1),x=.int 0:=λ{u} r=>by
      let⟨j',IC,k',t,Jh,e,eu,r',zz⟩:=(rp u).mp r;have:j=j':=by have:=T.int.inj e;lia
      subst this;rw[ej]at Jh;cases Jh;show⟨t,eu,r',zz⟩
     let G1:True→Γ1 pl=some (.lst PL):=λ_=>g1;clear g1;show lL ?_;dsimp only;show oq (pO (Nt (Nt (S7 rfl (TA (i9 (Nt (S7 rfl (Nt (S7 rfl (TA (jB ?_))))))))))));show Ep (G1 trivial) (t:=.int (z.2.2:Nat)) (Es (by rw[←ePL,CZ];unfold CU;rw[CZ,ez];rfl)) ?_;show FK (Hw zf) ?_;left;show⟨z.2.1,rfl,gk,by lia,?_⟩;left;let ec:BB (T.int (j:Int)::es) (some ((1:Int)+((AF z.2.1:Nat):Int))) none=es.drop (AF z.2.1):=by
      rw[show(1:Int)+((AF z.2.1:Nat):Int)=((AF z.2.1+1:Nat):Int)from by lia,Mp];rfl
     rw[ec];show⟨B7 (Bq (by rw[F4];lia)),λrest τ ys Γ'=>∃(vs:List T) (o:Option T),es.drop (AF z.2.1)=vs++rest∧τ=[o]∧ys=(vs.map G2).map T.bl∧Γ'=Γ1,Ψ2 [] none ⟨rfl,rfl,rfl,rfl⟩,?_,?_⟩;rotate_left
     ·intro x r τ ys Γ'⟨vs,o,yW,rfl,rfl,rfl⟩
      show⟨trivial,?_⟩;left;show⟨x,rfl,(hi.mem (by have:x∈es.drop (AF z.2.1):=(by rw[yW];simp);show ET _ (KN this))).le l1,?_⟩;by_cases xw:BY x=true
      ·let⟨i,rfl,_⟩:=FO xw
       rw[xw];left;show Ψ2 (vs++[.int i]) _ ⟨by rw[yW];simp,rfl,by rw[Ao,Ao];show _=_++[T.bl (BY (.int i)&&decide (V.int i=V.int 0))];rw[xw,Hk],rfl⟩
      ·rw[GS]at xw
       rw[xw];left;show Ψ2 (vs++[x]) _ ⟨by rw[yW];simp,rfl,?_,rfl⟩;have:G2 x=false:=by
        cases x with
        |int i=>show(BY (.int i)&&_)=false;rw[xw,FT]
        |_=>rfl
       rw[Ao,Ao];show _=_++[T.bl (G2 x)]
       rw[this]
     intro τ ys Γ'⟨vs,o,yW,rfl,rfl,rfl⟩;rw[Bz]at yW;show⟨trivial,λD hD=>?_⟩;left;show Ψ2 D _ ⟨rfl,As AE,?_⟩;left;show B5 (λc3=>?_) (λc3=>?_)
     ·left
      intro p hp;left;show q.no (λu r=>?_) (l1.trans (.new hD)) hp;let⟨t,_,_,zz⟩:=one r;have:(vs.map G2).all id=true:=by
       rw[aaE];intro b hb;let⟨x,hx,rfl⟩:=aau.mp hb;show pM.mpr (zz x (by rw[yW];show hx))
      rw[this]at c3;cases c3
     let c3:(vs.map G2).all id=true:=by simpa using c3
     let zz:∀x∈es.drop (AF z.2.1),x=.int 0:=λx hx=>pM.mp (aaE.mp c3 _ (aau.mpr ⟨x,by rw[←yW];show hx,rfl⟩));let l2:Le Γ (up Γ' D (.lst ((vs.map G2).map T.bl))):=l1.trans (.new hD);generalize up Γ' D (.lst ((vs.map G2).map T.bl))=Γ2 at l2 ⊢;left;let ec2:BB (T.int (j:Int)::es) (some 1) (some ((1:Int)+((AF z.2.1:Nat):Int)))=es.take (AF z.2.1):=by
      have:=O7 (xs:=T.int (j:Int)::es) (a:=1) (b:=1+AF z.2.1);rw[Tu]at this;show this
     rw[ec2];show Ψ3 L z.2.1 _ ⟨rfl,gk,by lia,by lia,by rw[Er];lia,.tup λt ht=>(hi.mem (ET _ (Lu ht))).le l2,λt rt p hp=>?_,λno p hp=>?_⟩
     ·left
      show Ψ2 p _ ⟨rfl,As AE,B7 (Bq (by show 1≤1000;decide)),λrest τ ys Γ'=>(rest=[t]∧ys=[]∨rest=[]∧ys=[.tup [.str z.1,t]])∧(∃o,τ=[o,some (.str z.1)])∧Γ'=up Γ2 p (.lst [t]),⟨.inl ⟨rfl,rfl⟩,⟨none,rfl⟩,rfl⟩,?_,?_⟩
      ·rintro τ ys Γ' ⟨⟨a,_⟩|⟨_,rfl⟩,⟨o,rfl⟩,rfl⟩
       ·cases a
       ·show⟨As AE,λD2 Fy=>?_⟩
        left;show q.yes ((rp _).mpr ⟨j,z.1,z.2.1,t,ej,rfl,rfl,rt,zz⟩) (l2.trans (.new hp)) Fy
      ·rintro x r τ ys Γ' ⟨⟨a,rfl⟩|⟨a,_⟩,⟨o,rfl⟩,rfl⟩
       ·cases a
        show⟨As AE,?_⟩;left;show⟨.inr ⟨rfl,rfl⟩,⟨_,rfl⟩,rfl⟩
       ·cases a
     ·left
      show Ψ2 p _ ⟨rfl,As AE,B7 (Bq (by show 0≤1000;decide)),λrest τ ys Γ'=>rest=[]∧ys=[]∧Γ'=up Γ2 p (.lst []),⟨rfl,rfl,rfl⟩,?_,?_⟩
      ·intro τ ys Γ'⟨_,rfl,rfl⟩
       show⟨As AE,λD2 Fy=>?_⟩;left;show q.no (λu r=>by let⟨t,_,r',_⟩:=one r;show no t r') (l2.trans (.new hp)) Fy
      ·intro x r τ ys Γ'⟨a,_⟩
       cases a
   ·rw[GS]at wd
    rw[wd];left;intro p hp;left;show q.no (λu r=>?_) l1 hp;let⟨j,nm,k,t,ej,rfl,_⟩:=(rp u).mp r;have:=(aao.mp ej).1;rw[L8]at this;rw[Ld (by lia) (by lia)]at wd;cases wd
end
abbrev Ee:List Int:=[1,65536,65536^Int.toNat 2,65536^Int.toNat 3]
def aaS:∀{xs:List Int},xs.length≤4→(List.zipWith (· * ·) xs Ee).sum=val xs
 |[],_=>rfl
 |[a],_=>by show a*1+0=a+65536*0;lia
 |[a,b],_=>by show a*1+(b*65536+0)=a+65536*(b+65536*0);lia
 |[a,b,c],_=>by show a*1+(b*65536+(c*4294967296+0))=a+65536*(b+65536*(c+65536*0));lia
 |[a,b,c,d],_=>by show a*1+(b*65536+(c*4294967296+(d*281474976710656+0)))=a+65536*(b+65536*(c+65536*(d+65536*0)));lia
 |_::_::_::_::_::_,h=>by simp at h
def adz:∀x∈Ee,-(2^64)<x∧x<2^64:=by decide
def aek(h:E4 xs ys=[]):xs=[]∨ys=[]:=by
 cases xs with
 |nil=>show .inl rfl
 |cons x xs=>
  cases ys with
  |nil=>show .inr rfl
  |cons y ys=>cases h
section
@[reducible]def P6:Stmt:=Bk 66
def dH:BA ["laying","kind","row","items","parts","item","number","span"] ["laying","kind","row"] (B4 P6):=Bm
def yb(F:dR K "_law_read" "_law_read" P6 f fd)(fA:AV P w K mg am "_law_read" (lv+6) ["laying","kind","row"] (MT n))(mU:AV P w K mg am "_law_read_fields" (lv+6+1) ["laying","kind","row"] (Vy n))(pe:AV P w K mg am "_law_read_text" 3 ["laying","block"] TQ)(xn:AV P w K mg am "_law_items" 3 ["laying","size","entry"] VU)(de:AV P w K mg am "_law_word" 2 ["thing"] G0)(cy:AV P w K mg am "_law_size" 6 ["kind"] (IB 6))(aG:mg "len" = none)(di:mg "all" = none)(ar:mg "tuple" = none)(eA:mg "int" = none)(eZ:mg "sum" = none)(l8:mg "zip" = none):bB P w K mg am BJ (lv+6+1+1) f fd ["laying","kind","row"] (BP (MT (n+1))):=by
 show Cb F dH (λts Γ Z Y h=>?_) (λcA A outer s H E ts Γ Z Y hr h=>?_)
 ·let⟨L,k,sl,rfl,_⟩:=h
  rfl
 let⟨L,k,sl,rfl,kg,kd,qX,oM,hi,q⟩:=h;show⟨_,(A9 (Ah (Aj BH (AJ (A3 1) AB) Ai) (A9 (Af (AM pe hr (A4 (A3 0) (A4 (AJ (A3 2) AB) A8))))
  AD) AD)
  (A9 (Ah (Aj BH (AJ (A3 1) AB) Ai) (A9 (Aa (i:=3) dH.nd (AM xn hr (A4 (A3 0) (A4 (AM cy hr (A4 (AJ (A3 1) AB) A8)) (A4 (AJ (A3 2) AB) A8)))))
  (A9 (Ah (Aj Ux (A3 3) Ez) (A9 (Af (BL A8))
  AD) AD)
  (A9 (Aa (i:=4) dH.nd (BL A8))
  (A9 (G6 F8 rfl (Fj (A3 3)) (DE (i:=5) dH.nd) (A9 (LG (HP HS kY lC lN (A3 4) (A4 (AM fA hr (A4 (A3 0) (A4 (AJ (A3 1) AB) (A4 (A3 5) A8)))) A8)))
  AD))
  (A9 (Af (Ck T3 (BL (A4 (E7 Ff rfl ar DK (A4 (A3 4) A8)) A8)) DM (CN (E7 RG rfl eA Jn (A4 (Eo BH (BC Cv rfl aG Cd (A4 (A3 4) A8)) (BC Cv rfl aG Cd (A4 (A3 3) A8))) A8)))))
  AD))))) AD)
  (A9 (Ah (Aj Ei (AJ (A3 1) AB) Ai) (A9 (Af (AM mU hr (A4 (A3 0) (A4 (A3 1) (A4 (A3 2) A8)))))
  AD) AD)
  (A9 (Ah (DJ (Bu (BC (Kg rfl) rfl di KG (A4 (Ds (own:=["one"]) (cap:=[]) F2 rfl (F1 (A3 2)) (λ_ _ _ _=>Hx) (λ_ _ _ _=>DF) (λ_ _ _ _=>(AM de hr (A4 (A3 0) A8)))) A8)))) (A9 (Af (BL A8))
  AD) AD)
  (A9 (Ek (Ah (Aj BH (AJ (A3 0) AB) Ai) (A9 (Aa (i:=2) dH.nd (Oi (A3 2) (FP AB)))
  AD) AD))
  (A9 (Aa (i:=6) dH.nd (BC (aL rfl) rfl eZ SA (A4 (Ds (own:=["word","one"]) (cap:=[]) F2 rfl (yo rfl l8 (A4 (A3 2) (A4 (BL (A4 AB (A4 AB (A4 (AN Gb AB AB) (A4 (AN Gb AB AB) A8))))) A8))) (λ_ _ _ _=>(GK (n:=2) rfl (DZ (DT (i:=0) (show List.Nodup (["word","one"]:List Str)from by decide +kernel) rfl (Or.inl rfl) (Or.inr rfl)) (DZ (DT (i:=1) (show List.Nodup (["word","one"]:List Str)from by decide +kernel) rfl (Or.inl rfl) (Or.inr rfl)) Ga)))) (λ_ _ _ _=>DF) (λ_ _ _ _=>(AN GG (A3 0) (A3 1)))) A8)))
  (A9 (Aa (i:=7) dH.nd (AJ (BL (A4 AB (A4 AB (A4 (AN Gb AB AB) (A4 (AN Gb AB AB) (A4 (AN Gb AB AB) A8)))))) (AJ (A3 1) AB)))
  (A9 (Af (BL (A4 (AN Fe (A3 6) (AN GG (A3 7) (E7 RG rfl eA Jn (A4 (Eo Kw (A3 6) (AN LK (A3 7) AB)) A8)))) A8)))
  AD)))))))),?_⟩
 simp only[BW];let q':K4 (E3 Z) Γ (Rd L k sl):=⟨λu r p hp=>q.yes r .refl hp,λno p hp=>q.no no .refl hp⟩;cases k with
 |text=>
  rw[AF]at oM;obtain⟨e,rfl⟩:∃e,sl=[e]:=by
   cases sl with
   |nil=>cases oM
   |cons e r=>cases r with|nil=>show⟨e,rfl⟩|cons _ _=>cases oM
  rw[Kd.tr];left;show Ψ2 L e ⟨rfl,hi.mem (by simp),q'⟩
 |rec_ fs=>
  let UE:=kd;rw[Kd.depth]at kd qX;rw[Kd.tr];left;show Ψ4 L (.rec_ fs) fs sl ⟨by rw[Kd.tr],.inl rfl,kg,by lia,by lia,oM,hi,q'⟩
 |pick fs=>
  rw[Kd.depth]at kd qX;rw[Kd.tr];left;show Ψ4 L (.pick fs) fs sl ⟨by rw[Kd.tr],.inr rfl,kg,by lia,by lia,oM,hi,q'⟩
 |row k2=>
  rw[AF]at oM;obtain⟨e,rfl⟩:∃e,sl=[e]:=by
   cases sl with
   |nil=>cases oM
   |cons e r=>cases r with|nil=>show⟨e,rfl⟩|cons _ _=>cases oM
  unfold Kd.good at kg;rw[Kd.depth]at kd qX;let ri:∀u,Rd L (.row k2) [e] u↔_:=λu=>ux (L:=L) (e:=e) (u:=u) kg (by lia);rw[Kd.tr];left;show⟨k2,rfl,kg,by lia,?_⟩;left;show Ψ3 L (AF k2) e ⟨rfl,J2 kg (by lia),hi.mem (by simp),λits QO p hp=>?_,λno=>?_⟩
  ·let U3:∀{its'},El L (AF k2) e its'→its'=its:=λh=>yf h QO
   let vm:∀x∈its,∀t∈x,In Γ t:=λx hx t ht=>by
    let⟨_,_,he⟩:=QO;let Gz:In Γ e:=hi.mem (by simp);split at he
    ·let VM:∀{ps:List (List T)},In Γ (Cc ps)→∀x∈ps,∀t∈x,In Γ t:=λ{ps}=>by
      induction ps with
      |nil=>intro _ x hx;cases hx
      |cons p ps ih=>
       intro h x hx t ht;rw[Cc]at h;rcases aah.mp hx with rfl|hx
       ·show h.mem (by simp[ht])
       ·show ih (h.mem (by simp)) x hx t ht
     show VM (by rw[he];show Gz) x hx t ht
    ·rw[he]at Gz
     show Gz.mem (ET _ (acQ.mpr ⟨x,hx,ht⟩))
   left;intro D hD;let pD:p≠D:=CL AE hD;left;show Ψ2 p _ ⟨rfl,As (by rw[B8 pD];show AE),?_⟩;show⟨λrest τ Γ'=>∃(ds es:List (List T)) (us:List T) (o5:Option T),its=ds++es∧rest=es.map T.tup∧us.length≤ds.length∧τ=[some L.tr,some (.tup [.str "row",k2.tr]),some (.tup [e]),some (.ref p),some (.ref D),o5,none,none]∧Γ' D=some (.lst us)∧Γ' p=some (.lst (its.map T.tup))∧Le Γ Γ'∧(us.length=ds.length→∀(j:Nat) (x:List T) (t:T),ds[j]?=some x→us[j]?=some t→Rd L k2 x t)∧(us.length≠ds.length→∃x∈ds,∀t,¬Rd L k2 x t),Ψ4 [] its [] none ⟨rfl,rfl,Ak _,rfl,AE,by rw[B8 pD];show AE,.trans (.new hp) (.new hD),λ_ j x t h=>by simp at h,λh=>absurd rfl h⟩,?_,?_⟩
   ·intro τ Γ'⟨ds,es,us,o5,ei,er,lu,rfl,gD,gp,l2,hy,hn⟩
    let he:es=[]:=by
     cases es with
     |nil=>rfl
     |cons _ _=>cases er
    subst he;rw[Bz]at ei;subst ei;show⟨As gp,?_⟩;left;show Ψ2 _ _ ⟨rfl,As gD,?_⟩;left;intro p3 rS;let Xp:(up Γ' p3 (.lst [.tup us])) p=some (.lst (its.map T.tup)):=by rw[B8 (CL gp rS)];show gp
    let Q5:(up Γ' p3 (.lst [.tup us])) D=some (.lst us):=by rw[B8 (CL gD rS)];show gD
    let l3:Le Γ (up Γ' p3 (.lst [.tup us])):=l2.trans (.new rS);let g3:(up Γ' p3 (.lst [.tup us])) p3=some (.lst [.tup us]):=AE;generalize up Γ' p3 (.lst [.tup us])=Γ3 at Xp Q5 l3 g3 ⊢;left;show G5 Q5 ?_;left;show G5 Xp ?_;rw[Ac];left;show⟨_,rfl,?_⟩;by_cases c:us.length=its.length
    ·rw[Dp (show V.int (us.length:Nat)=V.int (its.length:Nat)by rw[c])]
     show⟨_,rfl,p3,_,rfl,g3,λp4 xE=>?_⟩;rw[show BB [T.tup us] none (some (if true=true then 1 else 0))=[.tup us]from rfl];show q.yes ((ri _).mpr ⟨its,us,rfl,QO,c.symm,λj x t a b=>hy c j x t a b⟩) l3 xE
    ·rw[DY (λz=>c (by have:=V.int.inj z;lia))]
     show⟨_,rfl,p3,_,rfl,g3,λp4 xE=>?_⟩;rw[show BB [T.tup us] none (some (if false=true then 1 else 0))=[]from rfl];show q.no (λu r=>?_) l3 xE;let⟨its',ts,rfl,h1,h2,h3⟩:=(ri u).mp r;have:=U3 h1;subst this;let⟨x,hx,nx⟩:=hn c;let⟨j,hj⟩:=P0 hx;let jl:=(aao.mp hj).1;show nx _ (h3 j x _ hj (BZ (by lia)))
   ·intro x r τ Γ'⟨ds,es,us,o5,ei,er,lu,rfl,gD,gp,l2,hy,hn⟩
    cases es with
    |nil=>cases er
    |cons y es=>
     cases er;let ly:y.length=AF k2:=QO.2.1 y (by rw[ei];simp);let dl:ds.length<60:=by have:=QO.1;rw[ei,B9,BE]at this;lia
     show⟨As gp,?_⟩;left;show HI gD ?_;left;let go:∀(xs:List T) (p4:Addr),Γ' p4=none→(xs.length≤1)→(∀t∈xs,Rd L k2 y t)→(xs=[]→∀t,¬Rd L k2 y t)→∃(Oa CC:List (List T)) (tV:List T) (o5:Option T),its=Oa++CC∧es.map T.tup=CC.map T.tup∧tV.length≤Oa.length∧[some L.tr,some (.tup [.str "row",k2.tr]),some (.tup [e]),some (.ref p),some (.ref D),some (T.tup y),none,none]=[some L.tr,some (.tup [.str "row",k2.tr]),some (.tup [e]),some (.ref p),some (.ref D),o5,none,none]∧(up (up Γ' p4 (.lst xs)) D (.lst (us++xs))) D=some (.lst tV)∧(up (up Γ' p4 (.lst xs)) D (.lst (us++xs))) p=some (.lst (its.map T.tup))∧Le Γ (up (up Γ' p4 (.lst xs)) D (.lst (us++xs)))∧(tV.length=Oa.length→∀(j:Nat) (x:List T) (t:T),Oa[j]?=some x→tV[j]?=some t→Rd L k2 x t)∧(tV.length≠Oa.length→∃x∈Oa,∀t,¬Rd L k2 x t):=λxs p4 xE lx hx Y2=>by
      show Ψ4 (ds++[y]) es (us++xs) _ ⟨by rw[ei];simp,rfl,by rw[B9,B9];show _≤ds.length+1;lia,rfl,AE,by rw[B8 pD,B8 (CL gp xE)];show gp,λb o hb=>?_,λhl=>?_,λhl=>?_⟩
      ·have:b≠D:=λe=>by
        rw[e]at hb;have:(up Γ p (.lst (its.map T.tup))) D=none:=hD;rw[B8 pD.symm]at this;rw[this]at hb;cases hb
       let h2:=l2 b o hb;rw[B8 this,B8 (CL h2 xE)];show h2
      ·rw[B9,B9]at hl
       let hl:us.length+xs.length=ds.length+1:=hl;obtain⟨t0,rfl⟩:∃t0,xs=[t0]:=by
        cases xs with
        |nil=>simp at hl;lia
        |cons t0 r=>cases r with|nil=>show⟨t0,rfl⟩|cons _ _=>simp at lx
       let Uw:us.length=ds.length:=by simp at hl;lia
       intro j x t a b;by_cases cj:j<ds.length
       ·rw[G3 cj]at a
        rw[G3 (by lia)]at b;show hy Uw j x t a b
       ·let ej:j=ds.length:=by
         have:=(aao.mp a).1;rw[B9]at this;have:j<ds.length+1:=this;lia
        subst ej;rw[Fi (Ak _),OD]at a;rw[Fi (by lia),show ds.length-us.length=0 by lia]at b;cases a;cases b;show hx _ (by simp)
      ·rw[B9,B9]at hl
       by_cases Uw:us.length=ds.length
       ·have:xs=[]:=by
         cases xs with
         |nil=>rfl
         |cons t0 r=>cases r with|nil=>show absurd (by simp;lia) hl|cons _ _=>simp at lx
        show⟨y,by simp,Y2 this⟩
       ·let⟨x,UO,nx⟩:=hn Uw
        show⟨x,by simp[UO],nx⟩
     show Ψ3 L k2 y ⟨rfl,kg,by lia,by lia,ly,.tup λt ht=>(vm y (by rw[ei];simp) t ht).le l2,λt rt p4 xE=>?_,λno p4 xE=>?_⟩
     ·show Ψ4 D p4 _ _ ⟨rfl,rfl,by rw[B8 (CL gD xE)];show gD,AE,by show us.length+1≤sizeLine;rw[CP];lia,?_⟩
      show go [t] p4 xE (Ak _) (λt' ht=>by rw[aat.mp ht];show rt) λh=>by cases h
     ·show Ψ4 D p4 _ _ ⟨rfl,rfl,by rw[B8 (CL gD xE)];show gD,AE,by show us.length+0≤sizeLine;rw[CP];lia,?_⟩
      show go [] p4 xE (CV _) (λt' ht=>absurd ht BI) λ_=>no
  ·left
   intro p hp;left;show q.no (λu r=>by let⟨its,_,_,h,_⟩:=(ri u).mp r;show no its h) .refl hp
 |num wd=>
  rw[AF]at oM;unfold Kd.good at kg;let hw:wd=1∨wd=2∨wd=3∨wd=4:=by lia
  rw[Kd.tr];unfold Ly.tr;left;show⟨B7 (Bq (by lia)),λrest τ ys Γ'=>∃(vs:List T) (o:Option T),sl=vs++rest∧τ=[o]∧ys=(vs.map BY).map T.bl∧Γ'=Γ,Ψ2 [] none ⟨rfl,rfl,rfl,rfl⟩,?_,?_⟩;rotate_left
  ·intro x r τ ys Γ'⟨vs,o,es,rfl,rfl,rfl⟩
   left;show⟨x,rfl,hi.mem (by rw[es];simp),?_⟩;show Ψ2 (vs++[x]) _ ⟨by rw[es];simp,rfl,by rw[Ao,Ao];rfl,rfl⟩
  intro τ ys Γ'⟨vs,o,es,rfl,rfl,rfl⟩;rw[Bz]at es;subst es;show⟨trivial,λD hD=>?_⟩;left;show Ψ2 D _ ⟨rfl,As AE,?_⟩;left;show B5 (λc=>?_) (λc=>?_)
  ·left
   intro p hp;left;show q.no (λu r=>?_) (.new hD) hp;let⟨ws,e,h⟩:=gV r;have:(sl.map BY).all id=true:=by
    rw[aaE];intro b hb;let⟨t,ht,rfl⟩:=aau.mp hb;rw[e]at ht;let⟨x,hx,rfl⟩:=aau.mp ht;have:=h x hx;show Ld this.1 this.2
   rw[this]at c;cases c
  let c:(sl.map BY).all id=true:=by simpa using c
  let⟨ws,rfl,h⟩:=R5 (sl:=sl) λt ht=>aaE.mp c _ (aau.mpr ⟨t,ht,rfl⟩);rw[Ac]at oM;let lD:Le Γ' (up Γ' D (.lst (((ws.map T.int).map BY).map T.bl))):=.new hD;generalize up Γ' D (.lst (((ws.map T.int).map BY).map T.bl))=Γ2 at lD ⊢;left;show⟨λτ' Γ3=>τ'=[some (.tup [.str L.s1,.str L.s2,.str L.s3,.str L.s4]),some (.tup [.str "num",.int wd]),some (.tup ((EI L.hi ws).map T.int)),none,none,none,none,none]∧Γ3=Γ2,?_,?_⟩
  ·left
   show B5 (λc=>?_) (λc=>?_)
   ·left
    show⟨rfl,_,rfl,?_⟩;left;show⟨by unfold EI;rw[gT (Hs c),AI rfl,Ub];rfl,rfl⟩
   ·left
    show⟨by unfold EI;rw[oH (Hh c),AH BN],rfl⟩
  intro τ Γ3⟨rfl,rfl⟩;let ll:=WW L.hi ws;let Zh:∀x∈EI L.hi ws,0≤x∧x<65536:=λx hx=>h x (qT.mp hx);let rn:∀u,Rd L (.num wd) (ws.map T.int) u↔_:=λu=>nA (L:=L) (u:=u) (by lia) (by lia:(ws.length:Int)=wd) h;generalize EI L.hi ws=xs at ll Zh rn;left;unfold i3;left;intro p hp;left;show Ψ3 _ p _ ⟨rfl,AE,?_⟩;let gp:(up Γ3 p (.lst (Ee.map T.int))) p=some (.lst (Ee.map T.int)):=AE;let lp:Le Γ' (up Γ3 p (.lst (Ee.map T.int))):=lD.trans (.new hp);show List.length (E4 (xs.map T.int) (Ee.map T.int))≤sizeLine∧RC (λΓ'=>Γ' p=some (.lst (Ee.map T.int))) _ _ _ _ (E4 (xs.map T.int) (Ee.map T.int)) _ _ (up Γ3 p (.lst (Ee.map T.int)))
  generalize up Γ3 p (.lst (Ee.map T.int))=Γ4 at gp lp ⊢;show⟨B7 (Bq (by rw[OY,Ac];lia)),λrest τ ys Γ'=>∃(gs qs ds:List Int) (o0 o1:Option T),rest=E4 (gs.map T.int) (qs.map T.int)∧(∀x∈qs,-(2^64)<x∧x<2^64)∧τ=[o0,o1]∧ys=ds.map T.int∧ds.sum+(List.zipWith (· * ·) gs qs).sum=val xs∧Γ'=Γ4,Ψ5 xs Ee [] none none ⟨rfl,adz,rfl,rfl,by rw[List.sum_nil,Int.zero_add];show aaS (by lia),rfl⟩,?_,?_⟩
  ·intro τ ys Γ5⟨gs,qs,ds,o0,o1,er,_,rfl,rfl,sm,rfl⟩
   let sz:(List.zipWith (· * ·) gs qs).sum=0:=by
    rcases aek er.symm with e|e
    ·rw[List.map_eq_nil_iff.mp e];rfl
    ·rw[List.map_eq_nil_iff.mp e,List.zipWith_nil_right,List.sum_nil]
   rw[sz,Int.add_zero]at sm;show⟨gp,λD2 Fy=>?_⟩;left;show Ψ2 D2 _ ⟨rfl,As AE,?_⟩;rw[sm];left;intro p2 iJ;left;show Ep (t:=.int (65536^wd.toNat)) AE ?_ ?_
   ·rcases hw with rfl|rfl|rfl|rfl<;>rfl
   obtain⟨y,ey⟩:∃y:Int,65536^wd.toNat=2*y:=⟨65536^(wd.toNat-1)*32768,by
    obtain⟨m,em⟩:∃m,wd.toNat=m+1:=⟨wd.toNat-1,by lia⟩;rw[em,Gh,Nat.add_sub_cancel];lia⟩
   let x8:=(rn _).mpr rfl;rw[show ws.length=wd.toNat by lia]at x8;unfold HY at x8;rw[ey]at x8 ⊢;left;show⟨_,rfl,?_⟩;let small:(2:Int)*y<2^200∧0<2*y:=by rw[←ey];rcases hw with rfl|rfl|rfl|rfl<;>show⟨by decide,by decide⟩
   let l9:Le Γ' (up (up Γ5 D2 (.lst (ds.map T.int))) p2 (.lst [.int 1,.int 65536,.int (65536^Int.toNat 2),.int (65536^Int.toNat 3),.int (65536^Int.toNat 4)])):=lp.trans (.trans (.new Fy) (.new iJ));by_cases cc:2*val xs ≥ 2*y
   ·rw[AI cc]at x8
    rw[AI (Dp (by lia))];show G4 (Or.inr ⟨by decide,by decide⟩) ?_;left;intro p3 rS;left;rw[show val xs-2*y*1=val xs-2*y by lia];show q.yes x8 l9 rS
   ·rw[AH cc]at x8
    rw[AH (by rw[DY (by lia)];show BN)];show G4 (Or.inr ⟨by decide,by decide⟩) ?_;left;intro p3 rS;left;rw[show val xs-2*y*0=val xs by lia];show q.yes x8 l9 rS
  ·intro x r τ ys Γ5⟨gs,qs,ds,o0,o1,er,sq,rfl,rfl,sm,rfl⟩
   cases gs with
   |nil=>cases er
   |cons g gs=>
    cases qs with
    |nil=>cases er
    |cons b qs=>
     let Q9:x::r=T.tup [.int g,.int b]::E4 (gs.map T.int) (qs.map T.int):=er;cases Q9;show⟨gp,?_⟩;left;show G4 (Or.inr (sq b (by simp))) ?_;show Ψ5 gs qs (ds++[g*b]) _ _ ⟨rfl,λx hx=>sq x (by simp[hx]),rfl,by rw[Ao];rfl,?_,rfl⟩;rw[List.zipWith_cons_cons,Np]at sm;rw[Vz,Np,List.sum_nil];lia
def fq{f2:Addr}{Nl:FuncData}(F:dR K "_law_read" "_law_read" P6 f fd)(m:mg "_law_read" = some (.ref f))(kp:W.keepIn K (.ref f)=true)(b:Binds K fd ["laying","kind","row"] [])(hU:dR K "_law_read_fields" "_law_read_fields" Pd f2 Nl)(gY:mg "_law_read_fields" = some (.ref f2))(gw:W.keepIn K (.ref f2)=true)(hG:Binds K Nl ["laying","kind","row"] [])
  (C1:AV P w K mg am "_law_read_text" 3 ["laying","block"] TQ) (C2:AV P w K mg am "_law_items" 3 ["laying","size","entry"] VU) (Be:AV P w K mg am "_law_word" 2 ["thing"] G0) (C4:AV P w K mg am "_law_size" 6 ["kind"] (IB 6)) (C5:AV P w K mg am "_law_places" 1 ["laying","fields"] Mo) (aG:mg "len" = none) (di:mg "all" = none) (ar:mg "tuple" = none) (eA:mg "int" = none) (eZ:mg "sum" = none) (l8:mg "zip" = none) (aJ:mg "range" = none) :
  ∀n:Nat,AV P w K mg am "_law_read" (n+n+6) ["laying","kind","row"] (MT n)
 |0=>Ψ2 f fd ⟨HA λts Γ Z Y h=>by obtain⟨_,k,_,_,_,h,_⟩:=h;lia,m,kp,b⟩
 |n+1=>by
  let ih:=fq F m kp b hU gY gw hG C1 C2 Be C4 C5 aG di ar eA eZ l8 aJ n;let D1:AV P w K mg am "_law_read_fields" (n+n+6+1) ["laying","kind","row"] (Vy n):=Ψ2 f2 Nl ⟨ace hU ih C5 Be C4 aG di ar aJ,gY,gw,hG⟩;show Ψ2 f fd ⟨by rw[show n+1+(n+1)+6=n+n+6+1+1 by lia];show yb F ih D1 C1 C2 Be C4 aG di ar eA eZ l8,m,kp,b⟩
end
def SH{α:Type}{xs:List α}{x:α}(h:x∈BB xs lo hi):x∈xs:=KN (Lu h)
def Ya{r:Int}(h0:0≤r)(h1:r<xs.length):∃t,Bw xs r=some t∧t∈xs:=by
 obtain⟨j,rfl⟩:∃j:Nat,r=(j:Int):=⟨r.toNat,by lia⟩;show⟨xs[j]'(by lia),Es (BZ (by lia)),Mc _⟩
section
@[reducible]def T6:Stmt:=Bk 58
def cD:BA ["flow","thing","way","at","some","truth"] ["flow","thing"] (B4 T6):=Bm
abbrev XE:BQ:=λts Γ Z _=>∃(a:Addr) (t:T),ts=[.ref a,t]∧aH Γ a∧Pc t∧Dh t<3000000∧∀(t':T) (Γ':AL),In Γ' t'→aH Γ' a→Kq [a] Γ Γ'→Z t' Γ'
def sY(F:dR K "_law_other" "_law_other" T6 f fd)(ak:AV P w K mg am "_law_draw" 1 ["flow","many"] Ey)(aj:mg "isinstance" = none)(ar:mg "tuple" = none)(aG:mg "len" = none)(fi:mg "list" = none):bB P w K mg am BJ 2 f fd ["flow","thing"] (BP XE):=by
 show Cb F cD (λts Γ Z Y h=>?_) (λcA A outer s H E ts Γ Z Y hr h=>?_)
 ·let⟨a,t,rfl,_⟩:=h
  rfl
 let⟨a,t,rfl,fl,pc,sd,q⟩:=h;show⟨_,(A9 (Aa (i:=2) cD.nd (AM ak hr (A4 (A3 0) (A4 AB A8))))
  (A9 (Ah (Bu (E5 rfl aj rfl ar DK (A3 1))) (A9 (Aa (i:=3) cD.nd (AM ak hr (A4 (A3 0) (A4 (AN CI (BC Cv rfl aG Cd (A4 (A3 1) A8)) AB) A8))))
  (A9 (Aa (i:=4) cD.nd (BL (A4 (AN EU (Ck DH (A3 1) DM (CN (A3 3))) (Ck DH (A3 1) (CN (AN CI (A3 3) AB)) DM)) (A4 (AN EU (AN EU (Ck DH (A3 1) DM (CN (A3 3))) (Ck DH (A3 1) DM (CN AB))) (Ck DH (A3 1) (CN (A3 3)) DM)) (A4 (Oi (A3 1) (FP AB)) (A4 (E7 dZ rfl fi bj (A4 (A3 1) A8)) A8))))))
  (A9 (Aa (i:=4) cD.nd (AN Mt (A3 4) (BL (A4 (AN EU (AN EU (Ck DH (A3 1) DM (CN (A3 3))) (Ck DH (A3 1) DM (CN AB))) (Ck DH (A3 1) (CN (AN CI (A3 3) AB)) DM)) (A4 (AN EU (A3 1) (Bf (A4 AB A8))) (A4 (Bf A8) (A4 Ez (A4 AB (A4 (BC Cv rfl aG Cd (A4 (A3 1) A8)) (A4 Ai (A4 (Bf (A4 (A3 1) A8)) A8)))))))))))
  (A9 (Aa (i:=4) cD.nd (AN Mt (A3 4) (BL (A4 (Ck DH (A3 1) (CN AB) DM) (A4 (Ck DH (A3 1) DM (CN (FP AB))) (A4 (AN EU (Bf (A4 (BC Cv rfl aG Cd (A4 (A3 1) A8)) A8)) (A3 1)) (A4 (AN EU (Bf (A4 AB A8)) (A3 1)) A8)))))))
  (A9 (Af (AJ (A3 4) (A3 2)))
  AD))))) AD)
  (A9 (Aa (i:=5) cD.nd (Eo BH (AM ak hr (A4 (A3 0) (A4 AB A8))) AB))
  (A9 (Aa (i:=4) cD.nd (BL (A4 (AN CI (A3 1) AB) (A4 (AN Fe (A3 1) AB) (A4 AB (A4 (FP AB) (A4 AB (A4 AB (A4 AB (A4 AB (A4 (A3 5) (A4 Ez (A4 (Bf (A4 (A3 1) A8)) (A4 Ai (A4 (Bf A8) (A4 (AN CI (A3 1) AB) A8))))))))))))))))
  (A9 (Af (AJ (AN Mt (A3 4) (BL (A4 (AM ak hr (A4 (A3 0) (A4 AB A8))) (A4 (AN CI AB (AM ak hr (A4 (A3 0) (A4 AB A8)))) A8)))) (A3 2)))
  AD))))),?_⟩
 simp only[BW];left;show Ψ2 a 16 ⟨rfl,fl,by decide,by decide,λway Γ1 w0 w1 jk k1=>?_⟩;left;cases pc with
 |int i=>
  show Ψ2 _ false ⟨rfl,rfl,?_⟩;left;show Ψ2 a 2 ⟨rfl,jk,by decide,by decide,λr2 Γ2 _ _ il k2=>?_⟩;left;intro p hp;left;show Ψ2 a 65536 ⟨rfl,il.new hp,by decide,by decide,λr3 Γ3 _ _ ik k3=>?_⟩;left;show Ψ2 a 95 ⟨rfl,ik,by decide,by decide,λr4 Γ4 _ _ m9 k4=>?_⟩;left;intro p2 iJ;let pa:p≠a:=λe=>by let⟨o,eo⟩:=il.some;rw[←e,hp]at eo;cases eo
  let g4:=((k4 p (by simpa using pa)).trans (k3 p (by simpa using pa))).trans AE;show Ψ4 p p2 _ _ ⟨rfl,rfl,by rw[B8 (CL g4 iJ)];show g4,AE,by show 14+2≤sizeLine;decide,λp3 rS=>?_⟩;left;let⟨x,hx,xm⟩:=Ya (xs:=[T.int (i+1),.int (i-1),.int 0,.int (-1),.int 65536,.int 31,.int 37,.int 127,.bl (decide (V.int r2=V.int 0)),.non,.tup [.int i],.str "a",.tup [],.int (i+65536),.int r3,.int (32+r4)]) w0 w1;show Ep AE hx ?_;show Ag .refl (q x _ ?_ ((m9.new iJ).new rS) ?_)
  ·simp only[aah,BI,D7]at xm
   rcases xm with rfl|rfl|rfl|rfl|rfl|rfl|rfl|rfl|rfl|rfl|rfl|rfl|rfl|rfl|rfl|rfl
   all_goals first|show .int _|show .bl _|show .non|show .str _|show .tup (λu hu=>absurd hu BI)|show .tup (λu hu=>by rw[aat.mp hu];show .int _)
  ·show(((((k1.kq.trans k2.kq).trans (.new hp _)).trans k3.kq).trans k4.kq).trans (.new iJ _)).trans (.new rS _)
 |@tup us hu=>
  rw[Gp]at sd;let ul:us.length<3000000:=by lia
  let cl:∀lo hi,(BB us lo hi).length<3000000:=λlo hi=>by have:=MQ us lo hi;lia
  show Ψ2 _ true ⟨rfl,rfl,?_⟩;left;show Ψ2 a _ ⟨rfl,jk,by lia,by lia,λr2 Γ2 Ka J9 il k2=>?_⟩;left;show EW (B7 (by rw[CP];have:=cl none (some r2);have:=cl (some (r2+1)) none;lia)) ?_;left;show EW (B7 (by rw[CP];have:=cl none (some r2);have:=cl none (some 1);lia)) ?_;left;show EW (B7 (by rw[B9,CP];have:=cl none (some r2);have:=cl none (some 1);have:=cl (some r2) none;lia)) ?_;left;show⟨rfl,us,rfl,?_⟩;left;intro pl gc;let ik:=il.new (o:=.lst us) gc;let Q3:(up Γ2 pl (.lst us)) pl=some (.lst us):=AE;let k3:Kq [a] Γ (up Γ2 pl (.lst us)):=(k1.kq.trans k2.kq).trans (.new gc _);generalize up Γ2 pl (.lst us)=Γ3 at ik Q3 k3 ⊢;left;intro p4 xE;left;show EW (B7 (by rw[CP];have:=cl none (some r2);have:=cl none (some 1);lia)) ?_;left;show EW (B7 (by rw[B9,CP];have:=cl none (some r2);have:=cl none (some 1);have:=cl (some (r2+1)) none;lia)) ?_;left;show EW (B7 (by rw[CP];show us.length+1<_;lia)) ?_;left;intro p5 Sd;show Ψ4 p4 p5 _ _ ⟨rfl,rfl,(B8 (CL AE Sd)).trans AE,AE,by show 4+8≤sizeLine;decide,λp6 MX=>?_⟩;left;show EW (B7 (by rw[CP];show 1+us.length<_;lia)) ?_;left;show EW (B7 (by rw[CP];show 1+us.length<_;lia)) ?_;left;intro p7 Sb;show Ψ4 p6 p7 _ _ ⟨rfl,rfl,(B8 (CL AE Sb)).trans AE,AE,by show 12+4≤sizeLine;decide,λp8 U0=>?_⟩;left;let⟨x,hx,xm⟩:=Ya (xs:=[T.tup (BB us none (some r2)++BB us (some (r2+1)) none),.tup (BB us none (some r2)++BB us none (some 1)++BB us (some r2) none),.tup us.reverse,.ref pl,.tup (BB us none (some r2)++BB us none (some 1)++BB us (some (r2+1)) none),.tup (us++[.int 0]),.tup [],.non,.int 0,.int us.length,.str "a",.tup [.tup us],.tup (BB us (some 1) none),.tup (BB us none (some (-1))),.tup ([.int us.length]++us),.tup ([.int 0]++us)]) w0 w1;show Ep AE hx ?_;show Ag .refl (q x _ ?_ (((((ik.new xE).new Sd).new MX).new Sb).new U0) (k3.trans ((Kq.new xE _).trans ((Kq.new Sd _).trans ((Kq.new MX _).trans ((Kq.new Sb _).trans (Kq.new U0 _)))))));let pi:∀{xs:List T},(∀u∈xs,u∈us∨∃i,u=.int i)→In Γ3 (.tup xs):=λ{xs} h=>.tup λu US=>by
   rcases h u US with h|⟨i,rfl⟩
   ·show(hu u h).Kn
   ·show .int i
  show In.le (.trans (.new xE) (.trans (.new Sd) (.trans (.new MX) (.trans (.new Sb) (.new U0))))) ?_;let mc:∀{lo hi u},u∈BB us lo hi→u∈us:=SH;simp only[aah,BI,D7]at xm;rcases xm with rfl|rfl|rfl|rfl|rfl|rfl|rfl|rfl|rfl|rfl|rfl|rfl|rfl|rfl|rfl|rfl
  ·show pi λu h=>by rcases aaC.mp h with h|h<;>show .inl (mc h)
  ·show pi λu h=>by rcases aaC.mp h with h|h;(rcases aaC.mp h with h|h<;>show .inl (mc h));show .inl (mc h)
  ·show pi λu h=>.inl (List.mem_reverse.mp h)
  ·show .lst Q3
  ·show pi λu h=>by rcases aaC.mp h with h|h;(rcases aaC.mp h with h|h<;>show .inl (mc h));show .inl (mc h)
  ·show pi λu h=>by rcases aaC.mp h with h|h;show .inl h;show .inr ⟨0,aat.mp h⟩
  ·show pi λu h=>absurd h BI
  ·show .non
  ·show .int _
  ·show .int _
  ·show .str _
  ·show .tup λu h=>by rw[aat.mp h];show .tup λv hv=>(hu v hv).Kn
  ·show pi λu h=>.inl (mc h)
  ·show pi λu h=>.inl (mc h)
  ·show pi λu h=>by rcases aaC.mp h with h|h;show .inr ⟨_,aat.mp h⟩;show .inl h
  ·show pi λu h=>by rcases aaC.mp h with h|h;show .inr ⟨_,aat.mp h⟩;show .inl h
end
def u9(p:List T)(n:Nat):Cc (List.replicate (n+1) p)=.tup (Cc (List.replicate n p)::p):=by rw[Gg,Cc]
section
@[reducible]def RA:Stmt:=Bk 59
def kC:BA ["flow","thing","left","at"] ["flow","thing","left"] (B4 RA):=Bm
abbrev MP(n:Nat):BQ:=λts Γ Z _=>∃(a:Addr) (t:T) (l:Int),ts=[.ref a,t,.int l]∧0≤l∧l<n∧aH Γ a∧Pc t∧Dh t<3000000∧∀(t':T) (Γ':AL),In Γ' t'→aH Γ' a→Kq [a] Γ Γ'→Z t' Γ'
def vI(F:dR K "_law_spoilt" "_law_spoilt" RA f fd)(eY:AV P w K mg am "_law_spoilt" (n+3) ["flow","thing","left"] (MP n))(xk:AV P w K mg am "_law_other" 2 ["flow","thing"] XE)(ak:AV P w K mg am "_law_draw" 1 ["flow","many"] Ey)(aj:mg "isinstance" = none)(ar:mg "tuple" = none)(aG:mg "len" = none):bB P w K mg am BJ (n+3+1) f fd ["flow","thing","left"] (BP (MP (n+1))):=by
 show Cb F kC (λts Γ Z Y h=>?_) (λcA A outer s H E ts Γ Z Y hr h=>?_)
 ·let⟨a,t,l,rfl,_⟩:=h
  rfl
 let⟨a,t,l,rfl,l0,ln,fl,pc,sd,q⟩:=h;show⟨_,(A9 (Ah (PW.pt (Iu (Aj Ip (A3 2) AB) (Iu (Bu (E5 rfl aj rfl ar DK (A3 1))) (Iu (Aj (aaT hr.kP) (A3 1) (Bf A8)) (LM (Aj Ip (AM ak hr (A4 (A3 0) (A4 AB A8))) AB)))))) (A9 (Aa (i:=3) kC.nd (AM ak hr (A4 (A3 0) (A4 (BC Cv rfl aG Cd (A4 (A3 1) A8)) A8))))
  (A9 (Af (AN EU (AN EU (Ck DH (A3 1) DM (CN (A3 3))) (Bf (A4 (AM eY hr (A4 (A3 0) (A4 (AJ (A3 1) (A3 3)) (A4 (AN Fe (A3 2) AB) A8)))) A8))) (Ck DH (A3 1) (CN (AN CI (A3 3) AB)) DM)))
  AD)) AD)
  (A9 (Af (AM xk hr (A4 (A3 0) (A4 (A3 1) A8))))
  AD)),?_⟩
 simp only[BW];left;show B5 (λc=>?_) (λc=>?_);rotate_left
 ·left
  show Ψ2 a t ⟨rfl,fl,pc,sd,λt' Γ' h1 h2 h3=>Ag .refl (q t' Γ' h1 h2 h3)⟩
 let c:=Ec c;left;cases pc with
 |int i=>
  show Ψ2 _ false ⟨rfl,rfl,?_⟩;left;show Ψ2 a _ ⟨rfl,fl,.int i,sd,λt' Γ' h1 h2 h3=>Ag .refl (q t' Γ' h1 h2 h3)⟩
 |@tup us hu=>
  show Ψ2 _ true ⟨rfl,rfl,?_⟩;left;show B5 (λc2=>?_) (λc2=>?_);rotate_left
  ·left
   show Ψ2 a _ ⟨rfl,fl,.tup hu,sd,λt' Γ' h1 h2 h3=>Ag .refl (q t' Γ' h1 h2 h3)⟩
  let ne:us≠[]:=by simpa using c2
  left;show Ψ2 a 5 ⟨rfl,fl,by decide,by decide,λr1 Γ1 _ _ jk k1=>?_⟩;left;show B5 (λc3=>?_) (λc3=>?_);rotate_left
  ·left
   show Ψ2 a _ ⟨rfl,jk,.tup hu,sd,λt' Γ' h1 h2 h3=>Ag .refl (q t' Γ' h1 h2 (k1.kq.trans h3))⟩
  let ul:0<us.length:=List.length_pos_iff.mpr ne;let sd0:=sd;rw[Gp]at sd;left;show Ψ2 a _ ⟨rfl,jk,by lia,by lia,λr2 Γ2 Ka J9 il k2=>?_⟩;let⟨x,hx,xm⟩:=Ya (xs:=us) Ka J9;left;show IM hx ?_;left;show Ψ3 a x _ ⟨rfl,by lia,by lia,il,hu x xm,by have:=WY xm;lia,λt' Γ3 h1 h2 h3=>?_⟩;let l1:=MQ us none (some r2);let l2:=MQ us (some (r2+1)) none;left;show EW (B7 (by rw[CP];show _+1<_;lia)) ?_;left;show EW (B7 (by rw[B9,CP];show _+1+_<_;lia)) ?_;show Ag .refl (q _ Γ3 (.tup λu US=>?_) h2 ((k1.kq.trans k2.kq).trans h3));rcases aaC.mp US with h|h
  ·rcases aaC.mp h with h|h
   ·show(hu u (SH h)).Kn
   ·rw[aat.mp h];show h1
  ·show(hu u (SH h)).Kn
def gr(F:dR K "_law_spoilt" "_law_spoilt" RA f fd)(m:mg "_law_spoilt" = some (.ref f))(kp:W.keepIn K (.ref f)=true)(b:Binds K fd ["flow","thing","left"] [])(C1:AV P w K mg am "_law_other" 2 ["flow","thing"] XE)(C2:AV P w K mg am "_law_draw" 1 ["flow","many"] Ey)(aj:mg "isinstance" = none)(ar:mg "tuple" = none)(aG:mg "len" = none):
  ∀n:Nat,AV P w K mg am "_law_spoilt" (n+3) ["flow","thing","left"] (MP n)
 |0=>Ψ2 f fd ⟨HA λts Γ Z Y h=>by let⟨_,_,l,_,h0,h1,_⟩:=h;lia,m,kp,b⟩
 |n+1=>Ψ2 f fd ⟨by rw[show n+1+3=n+3+1 by lia];show vI F (gr F m kp b C1 C2 aj ar aG n) C1 C2 aj ar aG,m,kp,b⟩
@[reducible]def bQ:Stmt:=Bk 60
def bc:BA ["flow","kind","laying","many","one","entry","heads","turn","head"] ["flow","kind","laying"] (B4 bQ):=Bm
abbrev dm:BQ:=λts Γ Z _=>∃(a:Addr) (k:Kd) (L:Ly),ts=[.ref a,k.tr,L.tr]∧aH Γ a∧k.good∧k.depth≤4∧∀(t:T) (Γ':AL),In Γ' t→aH Γ' a→Kq [a] Γ Γ'→Z (.tup [.tup [.str "row",k.tr],t]) Γ'
def xK(F:dR K "_law_in_a_chain" "_law_in_a_chain" bQ f fd)(ak:AV P w K mg am "_law_draw" 1 ["flow","many"] Ey)(cJ:AV P w K mg am "_law_worth" 30 ["flow","kind","room"] (LJ 13))(bH:AV P w K mg am "_law_picture" 13 ["laying","kind","worth"] (Lp 6))(eY:AV P w K mg am "_law_spoilt" 74 ["flow","thing","left"] (MP 71))(aJ:mg "range" = none):bB P w K mg am BJ 75 f fd ["flow","kind","laying"] (BP dm):=by
 show Cb F bc (λts Γ Z Y h=>?_) (λcA A outer s H E ts Γ Z Y hr h=>?_)
 ·let⟨a,k,L,rfl,_⟩:=h
  rfl
 let⟨a,k,L,rfl,fl,kg,kd,q⟩:=h;show⟨_,(A9 (Aa (i:=3) bc.nd (AN CI AB (AM ak hr (A4 (A3 0) (A4 AB A8)))))
  (A9 (Aa (i:=4) bc.nd (AM cJ hr (A4 (A3 0) (A4 (A3 1) (A4 (BL (A4 AB A8)) A8)))))
  (A9 (Aa (i:=5) bc.nd (AJ (AM bH hr (A4 (AN EU (AN EU (Ck DH (A3 2) DM (CN AB)) (Bf (A4 Ai A8))) (Ck DH (A3 2) (CN AB) DM)) (A4 (Bf (A4 Ai (A4 (A3 1) A8))) (A4 (AN T2 (Bf (A4 (A3 4) A8)) (A3 3)) A8)))) AB))
  (A9 (Aa (i:=6) bc.nd (BL A8))
  (A9 (G6 F8 rfl (HL rfl aJ (A4 (AM ak hr (A4 (A3 0) (A4 (AN CI (A3 3) AB) A8))) A8)) (DE (i:=7) bc.nd) (A9 (LG (HP HS LQ L0 Rp (A3 6) (A4 (Ck DH (A3 5) (CN AB) DM) A8)))
  (A9 (Aa (i:=5) bc.nd (AJ (A3 5) AB))
  AD)))
  (A9 (Aa (i:=5) bc.nd (AM eY hr (A4 (A3 0) (A4 (A3 5) (A4 AB A8)))))
  (A9 (G6 F8 rfl (Fj (qw (A3 6) (FP AB))) (DE (i:=8) bc.nd) (A9 (Aa (i:=5) bc.nd (AN EU (Bf (A4 (A3 5) A8)) (A3 8)))
  AD))
  (A9 (Af (Bf (A4 (Bf (A4 Ai (A4 (A3 1) A8))) (A4 (Bf (A4 (A3 5) A8)) A8))))
  AD)))))))),?_⟩
 simp only[BW];left;show Ψ2 a 60 ⟨rfl,fl,by decide,by decide,λm0 Γ1 YF YE jk k1=>?_⟩;left;intro b hb;left;show Ψ3 a b k ⟨rfl,jk.new hb,⟨4,AE⟩,kg,by lia,by lia,λu Γ2 hu il Ws k2=>?_⟩;let Qo:Kq [a] Γ Γ2:=Fd k1.kq hb k2;obtain⟨L',XH⟩:∃L':Ly,L'={L with ch:=true}:=⟨_,rfl⟩;let etr:T.tup (BB [T.str L.s1,.str L.s2,.str L.s3,.str L.s4] none (some 2)++[T.str "chain"]++BB [T.str L.s1,.str L.s2,.str L.s3,.str L.s4] (some 3) none)=L'.tr:=by rw[XH];rfl
 obtain⟨mm,em⟩:∃mm:Nat,1+m0=(mm:Int):=⟨(1+m0).toNat,by lia⟩;let pr:=Ex L' hu kg (by lia);let sm:=J2 kg (by lia);unfold Ly.tr;left;show EW (by show 2+1≤sizeLine;decide) ?_;left;show EW (by show 3+1≤sizeLine;decide) ?_;rw[etr,em];left;show Ψ2 _ _ ⟨rfl,rfl,by lia,by lia,by show 1≤1000;decide,?_⟩;rw[rep1,Jc];left;let e1:AP L' (.row k) (.tup (List.replicate mm u))=[Cc (List.replicate mm (AP L' k u))]:=by
  rw[AP,show L'.ch=true from by rw[XH],AI rfl,List.map_replicate]
 show Ψ3 L' (.row k) _ ⟨by rw[Kd.tr],by unfold Kd.good;show kg,by rw[Kd.depth];lia,by rw[Kd.depth];lia,.row (by rw[Iw];lia) (λt ht=>by rw[(abU.mp ht).2];show hu),?_⟩;rw[e1];let pl:=pr.len;let Wn:=pr.sd;let Uc:=pr.pc;generalize AP L' k u=pk at pl Wn Uc;left;intro R hR;let aR:a≠R:=(il.nn hR).symm;let ZH:Γ R=none:=by
  cases e:Γ R with
  |none=>rfl
  |some o=>have:=Qo R o (by simpa using aR.symm) e;rw[hR]at this;cases this
 left;show Ψ2 a _ ⟨rfl,il.new hR,by lia,by lia,λr Γ3 r0 r1 ik k3=>?_⟩;let ZT:Γ3 R=some (.lst []):=by rw[k3 R (by simpa using aR.symm)];show AE
 let Sa:Kq [a] Γ Γ3:=(Qo.trans (.new hR _)).trans k3.kq;left;show⟨_,rfl,by lia,by lia,?_⟩;show⟨λrest τ Γ'=>∃(j c:Nat) (o7:Option T),rest=Dr j c∧j+c=r.toNat∧τ=[some (.ref a),some k.tr,some (.tup [.str L.s1,.str L.s2,.str L.s3,.str L.s4]),some (.int (mm:Nat)),some u,some (Cc (List.replicate (mm-j) pk)),some (.ref R),o7,none]∧Γ' R=some (.lst (List.replicate j (.tup pk)))∧aH Γ' a∧Kq [a] Γ Γ',Ψ3 0 r.toNat none ⟨rfl,F6 _,rfl,ZT,ik,Sa⟩,?_,?_⟩
 ·intro τ Γ4⟨j,c,o7,er,jc,rfl,Sw,m9,k4⟩
  let hc:=Io er;subst hc;let csd:=S9 (D:=311200*5) (N:=AF k) (ps:=List.replicate (mm-j) pk) λp hp=>by
   rw[(abU.mp hp).2];show⟨pl,DN Wn (NU _ (by lia))⟩
  rw[Iw]at csd;let cm:(mm-j)*(AF k+1)≤60*5185:=Hl (by lia) (by lia);show⟨trivial,?_⟩;left;show Ψ3 a _ 3 ⟨rfl,by decide,by decide,m9,OT λp hp=>by rw[(abU.mp hp).2];show Uc,by lia,λt Γ5 h1 h2 h3=>?_⟩;let ZS:=h3 R _ (by simpa using aR.symm) Sw;left;show⟨rfl,R,_,rfl,As ZS,λp6 MX=>?_⟩;rw[List.reverse_replicate];left;let g6:(up Γ5 p6 (.lst (List.replicate j (.tup pk)))) p6=some (.lst (List.replicate j (.tup pk))):=AE;let oN:=h2.new (o:=.lst (List.replicate j (.tup pk))) MX;let k6:Kq [a] Γ (up Γ5 p6 (.lst (List.replicate j (.tup pk)))):=(k4.trans h3).trans (.new MX _);let WV:In (up Γ5 p6 (.lst (List.replicate j (.tup pk)))) t:=h1.le (.new MX);generalize up Γ5 p6 (.lst (List.replicate j (.tup pk)))=Γ6 at g6 oN k6 WV ⊢;show Ψ2 p6 _ ⟨rfl,As g6,?_⟩;show⟨λrest τ Γ'=>∃(c:Nat) (t':T) (o8:Option T),rest=List.replicate c (.tup pk)∧In Γ6 t'∧τ=[some (.ref a),some k.tr,some (.tup [.str L.s1,.str L.s2,.str L.s3,.str L.s4]),some (.int (mm:Nat)),some u,some t',some (.ref R),o7,o8]∧Γ6=Γ',Ψ3 j t none ⟨rfl,WV,rfl,rfl⟩,?_,?_⟩
  ·intro τ Γ'⟨c,t',o8,_,ht,rfl,rfl⟩
   show⟨As g6,?_⟩;left;show Ag .refl (q (.tup [t']) Γ6 (.tup λv hv=>by rw[aat.mp hv];show ht) oN k6)
  ·intro x rr τ Γ'⟨c,t',o8,er,ht,rfl,rfl⟩
   cases c with
   |zero=>cases er
   |succ c=>
    rw[Gg]at er;cases er;show⟨As g6,?_⟩;left;show EW (B7 (by rw[pl,CP];show 1+_<_;lia)) ?_;left;show Ψ3 c _ _ ⟨rfl,.tup λv hv=>?_,rfl,rfl⟩;rcases aah.mp hv with rfl|hv
    ·show ht
    ·show(Uc v hv).Kn
 ·intro x rr τ Γ4⟨j,c,o7,er,jc,rfl,Sw,m9,k4⟩
  let⟨c',rfl,rfl,rfl⟩:=Gr er;let ej:mm-j=(mm-(j+1))+1:=by lia
  rw[ej,u9];show⟨trivial,?_⟩;left;show HI Sw ?_;left;rw[show BB (Cc (List.replicate (mm-(j+1)) pk)::pk) (some 1) none=pk from Mp (a:=1)];show Ψ3 R _ _ ⟨rfl,rfl,Sw,by rw[Iw,CP];lia,?_⟩;left;show Ψ3 (j+1) c' _ ⟨rfl,by lia,rfl,by rw[AE,List.replicate_succ'],m9.up aR,k4.DQ ZH _⟩
@[reducible]def aZ:Stmt:=Bk 61
def ib:BA ["flow","kind","laying","many"] ["flow","kind","laying"] (B4 aZ):=Bm
abbrev lH:BQ:=λts Γ Z _=>∃(a:Addr) (k:Kd) (L:Ly),ts=[.ref a,k.tr,L.tr]∧aH Γ a∧k.good∧k.depth≤4∧∀(k':Kd) (t:T) (Γ':AL),k'.good→k'.depth≤5→In Γ' t→aH Γ' a→Kq [a] Γ Γ'→Z (.tup [k'.tr,t]) Γ'
def vd(F:dR K "_law_many_items" "_law_many_items" aZ f fd)(ak:AV P w K mg am "_law_draw" 1 ["flow","many"] Ey)(lT:AV P w K mg am "_law_sign" 2 ["flow"] Ow)(cJ:AV P w K mg am "_law_worth" 30 ["flow","kind","room"] (LJ 13))(bH:AV P w K mg am "_law_picture" 13 ["laying","kind","worth"] (Lp 6)):bB P w K mg am BJ 31 f fd ["flow","kind","laying"] (BP lH):=by
 show Cb F ib (λts Γ Z Y h=>?_) (λcA A outer s H E ts Γ Z Y hr h=>?_)
 ·let⟨a,k,L,rfl,_⟩:=h
  rfl
 let⟨a,k,L,rfl,fl,kg,kd,q⟩:=h;show⟨_,(A9 (Aa (i:=3) ib.nd (AN CI AB (AM ak hr (A4 (A3 0) (A4 AB A8)))))
  (A9 (Ah (Aj BH (AM ak hr (A4 (A3 0) (A4 AB A8))) AB) (A9 (Af (Bf (A4 (Bf (A4 Ai A8)) (A4 (AM bH hr (A4 (A3 2) (A4 (Bf (A4 Ai A8)) (A4 (AN Skk (AM lT hr (A4 (A3 0) A8)) (A3 3)) A8)))) A8))))
  AD) AD)
  (A9 (Af (Bf (A4 (Bf (A4 Ai (A4 (A3 1) A8))) (A4 (AM bH hr (A4 (A3 2) (A4 (Bf (A4 Ai (A4 (A3 1) A8))) (A4 (AN T2 (Bf (A4 (AM cJ hr (A4 (A3 0) (A4 (A3 1) (A4 (BL (A4 AB A8)) A8)))) A8)) (A3 3)) A8)))) A8))))
  AD))),?_⟩
 simp only[BW];left;show Ψ2 a 5 ⟨rfl,fl,by decide,by decide,λm0 Γ1 YF YE jk k1=>?_⟩;left;show Ψ2 a 3 ⟨rfl,jk,by decide,by decide,λr2 Γ2 _ _ il k2=>?_⟩;left;show B5 (λc=>?_) (λc=>?_)
 ·left
  show⟨a,rfl,il,λz Γ3 z1 zok ik k3=>?_⟩;left;show Ψ2 z _ ⟨rfl,rfl,by lia,by lia,by lia,?_⟩;left;show Ψ3 L (.text) _ ⟨by rw[Kd.tr],by unfold Kd.good;trivial,by rw[Kd.depth];decide,by rw[Kd.depth];decide,.text (by rw[cM,z1];lia),?_⟩;left;have:=q .text (.tup (AP L .text (.str (FV z (58+m0).toNat)))) Γ3 (by unfold Kd.good;trivial) (by rw[Kd.depth];decide) (.tup λv hv=>?_) ik ((k1.kq.trans k2.kq).trans k3.kq)
  ·rw[Kd.tr]at this
   show Ag .refl this
  ·rw[AP]at hv
   rw[aat.mp hv];show .tup λx hx=>by let⟨n,_,rfl⟩:=aau.mp hx;show .int n
 ·left
  intro b hb;left;show Ψ3 a b k ⟨rfl,il.new hb,⟨2,AE⟩,kg,by lia,by lia,λu Γ3 hu ik NT k3=>?_⟩;left;show Ψ2 _ _ ⟨rfl,rfl,by lia,by lia,by show 1≤1000;decide,?_⟩;rw[rep1];left;show Ψ3 L (.row k) _ ⟨by rw[Kd.tr],by unfold Kd.good;show kg,by rw[Kd.depth];lia,by rw[Kd.depth];lia,.row (by rw[Iw];lia) (λt ht=>by rw[(abU.mp ht).2];show hu),?_⟩;left;have:=q (.row k) (.tup (AP L (.row k) (.tup (List.replicate (58+m0).toNat u)))) Γ3 (by unfold Kd.good;show kg) (by rw[Kd.depth];lia) (.tup λv hv=>?_) ik (Fd (k1.kq.trans k2.kq) hb k3)
  ·rw[Kd.tr]at this
   show Ag .refl this
  ·rw[AP]at hv
   rw[aat.mp hv];let Wq:∀p∈(List.replicate (58+m0).toNat u).map (λt=>AP L k t),∀t∈p,Pc t:=λp hp t ht=>by
    let⟨t',QA,rfl⟩:=aau.mp hp;rw[(abU.mp QA).2]at ht;show(Ex L hu kg (by lia)).pc t ht
   split
   ·show(OT Wq).Kn
   ·show .tup λx hx=>?_
    rcases aah.mp hx with rfl|hx
    ·show .int _
    ·let⟨p,hp,hx⟩:=acQ.mp hx
     show(Wq p hp x hx).Kn
end
def jq.kq{pT:Addr}(g:jq pT Γ)(fl:aH Γ a)(k:Kq [a] Γ Γ'):jq pT Γ':=by
 let g':Γ pT=some (.lam TT (c0 L5)):=g;show k pT _ (by
  intro z;rw[aat.mp z]at g';let⟨f0,f1,f2,e,_⟩:=fl;rw[e]at g';cases g') g'
def mL(h:jZ k t):G7 t:=by
 induction h with
 |num l h=>show .int _
 |text l h=>show .str
 |row l q ih=>show .tup ih
 |@rec_ fs ts l q ih=>
  show .tup λt ht=>?_;let⟨j,hj⟩:=P0 ht;obtain⟨hl,_⟩:=aao.mp hj;let hf:j<fs.length:=by lia
  show ih j fs[j].1 fs[j].2 t (by simp[hf]) hj
 |pick f q ih=>
  show .tup λt ht=>?_;rcases aah.mp ht with rfl|ht
  ·show .str
  ·rw[aat.mp ht];show ih
def mO(z:Str):Dh (.str z)=0:=by rw[Dh];intro us e;cases e
def uq(h:jZ k t):k.good→Dh t≤60*k.depth:=by
 induction h with
 |num l h=>intro g;rw[OZ];show CV _
 |text l h=>intro g;rw[mO];show CV _
 |@row k ts l q ih=>
  intro g;unfold Kd.good at g;rw[Gp,Kd.depth];have:=a9 (D:=60*k.depth) (us:=ts) λu hu=>ih u hu g;lia
 |@rec_ fs ts l q ih=>
  intro g;unfold Kd.good at g;rw[Gp,Kd.depth];have:=a9 (D:=60*B6 fs) (us:=ts) λu hu=>by
   let⟨j,hj⟩:=P0 hu;obtain⟨hl,_⟩:=aao.mp hj;obtain⟨nm,k',hf⟩:∃nm k',fs[j]?=some (nm,k'):=Ψ2 _ _ (BZ (by lia));let m:=CQ hf;let d:k'.depth≤B6 fs:=DP m;have:=ih j _ _ u hf hj (DW g.1 m);lia
  have:fs.length≤6:=g.2.2.1;lia
 |@pick fs n k j t f q ih=>
  intro g;unfold Kd.good at g;let m:=CQ (M1 f);let d:k.depth≤B6 fs:=DP m;have:=ih (DW g.1 m);rw[Gp,Kd.depth,CO,CO,mO,CO];show 2+_≤_
  lia
def vg{K:W.Frag}{bm:List Value}{n:String}(q:W.excIn K C bm n=true):(W.clsIn K C).isSome=true:=by
 unfold W.excIn at q;unfold W.clsIn;split at q
 ·rename_i ho
  rw[ho];rfl
 ·cases q
def ab6{xs:List Int}:BB (xs.map T.int) lo hi=(BB xs lo hi).map T.int:=by
 unfold BB;rw[Ac,List.map_take,List.map_drop]
def sU(kg:k.good)(kd:k.depth≤5)(a:Ha L k t u)(b:Ha L k t v):u=v:=by
 let⟨es,rfl,h1,e1⟩:=a;let⟨CC,e,h2,e2⟩:=b;cases e;show eh L h1 kg kd h2 (e1.trans e2.symm)
section
def zW(hs:jZ k u)(kg:k.good)(kd:k.depth≤5):Pc (.tup (AP L k u))∧Dh (.tup (AP L k u))<3000000:=by
 let o:=Ex L hs kg kd;let sm:=J2 kg kd;show⟨.tup o.pc,?_⟩;rw[Gp,o.len];let h1:=o.sd;have:311200*k.depth≤311200*5:=NU _ kd;lia
@[reducible]def bM:Stmt:=Bk 67
def bb:BA ["flow","choice","laying","kind","thing","by","due","found"] ["flow"] (B4 bM):=Bm
abbrev iw(pT:Addr):BQ:=λts Γ Z _=>∃a:Addr,ts=[.ref a]∧aH Γ a∧jq pT Γ∧∀Γ',Kq [a] Γ Γ'→Z (.bl true) Γ'
def adm(F:dR K "_law_right" "_law_right" bM f fd)(mV:AV P w K mg am "_law_laying" 2 ["flow"] pV)(ak:AV P w K mg am "_law_draw" 1 ["flow","many"] Ey)(eP:AV P w K mg am "_law_kind" 12 ["flow","depth","room"] (Yj 10))(xo:AV P w K mg am "_law_broad" 13 ["flow"] qW)(cJ:AV P w K mg am "_law_worth" 30 ["flow","kind","room"] (LJ 13))(bH:AV P w K mg am "_law_picture" 13 ["laying","kind","worth"] (Lp 6))(om:AV P w K mg am "_law_in_a_chain" 75 ["flow","kind","laying"] dm)(oj:AV P w K mg am "_law_many_items" 31 ["flow","kind","laying"] lH)(eY:AV P w K mg am "_law_spoilt" 74 ["flow","thing","left"] (MP 71))(cy:AV P w K mg am "_law_size" 6 ["kind"] (IB 6))(fA:AV P w K mg am "_law_read" 18 ["laying","kind","row"] (MT 6))(xp:AV P w K mg am "_law_asked" 22 ["laying","kind","thing"] (lJ pT))(zo:AV P w K mg am "_law_same" 1 ["found","due"] oh)(aj:mg "isinstance" = none)(ar:mg "tuple" = none)(eA:mg "int" = none)(aG:mg "len" = none):bB P w K mg am BJ 76 f fd ["flow"] (BP (iw pT)):=by
 show Cb F bb (λts Γ Z Y h=>?_) (λcA A outer s H E ts Γ Z Y hr h=>?_)
 ·let⟨a,rfl,_⟩:=h
  rfl
 let⟨a,rfl,fl,gl,q⟩:=h;show⟨_,(A9 (Aa (i:=1) bb.nd (AM ak hr (A4 (A3 0) (A4 AB A8))))
  (A9 (Aa (i:=2) bb.nd (AM mV hr (A4 (A3 0) A8)))
  (A9 (Ek (Ah (Aj Ml (A3 1) AB) (A9 (Aa (i:=3) bb.nd (AM eP hr (A4 (A3 0) (A4 (AN CI AB (AM ak hr (A4 (A3 0) (A4 AB A8)))) (A4 (BL (A4 AB A8)) A8)))))
  (A9 (Ek (Ah (Aj BH (A3 1) AB) (A9 (Iv (AM om hr (A4 (A3 0) (A4 (A3 3) (A4 (A3 2) A8)))) (GK (n:=2) rfl (DZ (DE (i:=3) bb.nd) (DZ (DE (i:=4) bb.nd) Ga))))
  AD) (A9 (Iv (AM oj hr (A4 (A3 0) (A4 (A3 3) (A4 (A3 2) A8)))) (GK (n:=2) rfl (DZ (DE (i:=3) bb.nd) (DZ (DE (i:=4) bb.nd) Ga))))
  AD)))
  AD)) (A9 (Aa (i:=3) bb.nd (AM eP hr (A4 (A3 0) (A4 (AJ (BL (A4 AB (A4 AB (A4 AB (A4 AB (A4 AB (A4 AB (A4 AB (A4 AB A8))))))))) (AM ak hr (A4 (A3 0) (A4 AB A8)))) (A4 (BL (A4 AB A8)) A8)))))
  (A9 (Ek (Ah (Aj BH (AM ak hr (A4 (A3 0) (A4 AB A8))) AB) (A9 (Aa (i:=3) bb.nd (AM xo hr (A4 (A3 0) A8)))
  AD) AD))
  (A9 (Aa (i:=5) bb.nd (AJ (BL (A4 (A3 2) (A4 (AM mV hr (A4 (A3 0) A8)) A8))) (E7 RG rfl eA Jn (A4 (Eo BH (A3 1) AB) A8))))
  (A9 (Aa (i:=4) bb.nd (AM bH hr (A4 (A3 5) (A4 (A3 3) (A4 (AM cJ hr (A4 (A3 0) (A4 (A3 3) (A4 (BL (A4 AB A8)) A8)))) A8)))))
  AD))))))
  (A9 (Ek (Ah (Aj Ip (A3 1) AB) (A9 (Aa (i:=4) bb.nd (AM eY hr (A4 (A3 0) (A4 (A3 4) (A4 AB A8)))))
  AD) AD))
  (A9 (Aa (i:=6) bb.nd (BL A8))
  (A9 (Ek (Ah (PW.pt (Iu (Bu (E5 rfl aj rfl ar DK (A3 4))) (LM (Aj BH (BC Cv rfl aG Cd (A4 (A3 4) A8)) (AM cy hr (A4 (A3 3) A8)))))) (A9 (Aa (i:=6) bb.nd (AM fA hr (A4 (A3 2) (A4 (A3 3) (A4 (A3 4) A8)))))
  AD) AD))
  (A9 (Aa (i:=7) bb.nd (AM xp hr (A4 (A3 2) (A4 (A3 3) (A4 (A3 4) A8)))))
  (A9 (Ah (PW.pt (DX (Aj Ux (A3 7) Ez) (EK (Aj Ei (BC Cv rfl aG Cd (A4 (A3 7) A8)) (BC Cv rfl aG Cd (A4 (A3 6) A8)))))) (A9 (Af JQ)
  AD) AD)
  (A9 (Af (yu (Eo (gv hr.kP) (A3 6) (BL A8)) (Hi (AM zo hr (A4 (AJ (A3 7) AB) (A4 (AJ (A3 6) AB) A8))))))
  AD))))))))),?_⟩
 simp only[BW];left;show Ψ2 a 8 ⟨rfl,fl,by decide,by decide,λch Γ1 _ _ jk k1=>?_⟩;left;show⟨a,rfl,jk,λL Γ2 il k2=>?_⟩;let Qo:Kq [a] Γ Γ2:=k1.kq.trans k2.kq;left;show⟨λτ Γ'=>∃(k:Kd) (t:T) (o5:Option T),τ=[some (.ref a),some (.int ch),some L.tr,some k.tr,some t,o5,none,none]∧k.good∧k.depth≤5∧In Γ' t∧(3<ch→Pc t∧Dh t<3000000)∧aH Γ' a∧Kq [a] Γ Γ',?_,?_⟩
 ·left
  show B5 (λc=>?_) (λc=>?_)
  ·let c:=Ec c
   left;show Ψ2 a 2 ⟨rfl,il,by decide,by decide,λr3 Γ3 RT RQ ik k3=>?_⟩;left;intro b hb;left;show Ψ3 a b _ ⟨rfl,ik.new hb,⟨0,AE⟩,by lia,by lia,by lia,λk Γ4 kg kd m9 RW k4=>?_⟩;let Ki:Kq [a] Γ Γ4:=Qo.trans (Fd k3.kq hb k4);left;show Ik ?_;left;show B5 (λc2=>?_) (λc2=>?_)
   ·left
    show Ψ3 a k L ⟨rfl,m9,kg,by lia,λt Γ5 ht l5 k5=>?_⟩;left;show Ψ3 (.row k) t none ⟨by rw[Kd.tr];rfl,by unfold Kd.good;show kg,by rw[Kd.depth];lia,ht,λh=>by lia,l5,Ki.trans k5⟩
   ·left
    show Ψ3 a k L ⟨rfl,m9,kg,by lia,λk' t Γ5 YN YR ht l5 k5=>?_⟩;left;show Ψ3 k' t none ⟨rfl,YN,YR,ht,λh=>by lia,l5,Ki.trans k5⟩
  ·left
   intro W hW;left;show Ψ2 a 8 ⟨rfl,il.new hW,by decide,by decide,λr2 Γ4 Ka J9 m9 k4=>?_⟩;let Ki:Kq [a] Γ Γ4:=(Qo.trans (.new hW _)).trans k4.kq;let⟨dd,Zx,hx⟩:=menu (ns:=[1,2,3,4,5,2,3,2]) Ka (by simpa using J9);show Ep (by rw[k4 W (by simpa using il.nn hW)];show AE) hx ?_;let hd5:1≤dd∧dd≤5:=by
    simp only[aah,BI,D7]at Zx;lia
   left;intro b hb;left;show Ψ3 a b dd ⟨rfl,m9.new hb,⟨1,AE⟩,by lia,by lia,by lia,λk0 Γ5 wD UE l5 Kc k5=>?_⟩;let Qn:Kq [a] Γ Γ5:=Fd Ki hb k5;left;show⟨λτ Γ'=>∃k:Kd,τ=[some (.ref a),some (.int ch),some L.tr,some k.tr,none,none,none,none]∧k.good∧k.depth≤5∧aH Γ' a∧Kq [a] Γ Γ',?_,?_⟩
   ·left
    show Ψ2 a 6 ⟨rfl,l5,by decide,by decide,λr3 Γ6 _ _ oN k6=>?_⟩;let R9:Kq [a] Γ Γ6:=Qn.trans k6.kq;left;show B5 (λc=>?_) (λc=>?_)
    ·left
     show⟨a,rfl,oN,λk Γ7 kg kd N8 k7=>?_⟩;left;show⟨k,rfl,kg,kd,N8,R9.trans k7.kq⟩
    ·left
     show⟨k0,rfl,wD,by lia,oN,R9⟩
   intro τ Γ6⟨k,rfl,kg,kd,oN,R9⟩;left;show⟨a,rfl,oN,λM Γ7 N8 k7=>?_⟩;let YL:Kq [a] Γ Γ7:=R9.trans k7.kq;left;intro V9 hV;left;show⟨_,rfl,?_⟩;obtain⟨N,hN⟩:∃N:Ly,Bw [L.tr,M.tr] (if decide (V.int ch=V.int 2)=true then 1 else 0)=some N.tr:=by
    split
    ·show⟨M,ag⟩
    ·show⟨L,Oc⟩
   show Ep AE hN ?_;left;intro b2 Xd;left;show Ψ3 a b2 k ⟨rfl,(N8.new hV).new Xd,⟨60,AE⟩,kg,by lia,by lia,λu Γ8 hu N7 Uh k8=>?_⟩;let YK:Kq [a] Γ Γ8:=Fd (YL.trans (.new hV _)) Xd k8;left;show Ψ3 N k u ⟨rfl,kg,by lia,kd,hu.hx,?_⟩;let⟨p1,p2⟩:=zW (L:=N) hu kg kd;left;show Ψ3 k _ _ ⟨rfl,kg,kd,p1.Kn,λ_=>⟨p1,p2⟩,N7,YK⟩
 intro τ Γ3⟨k,t,o5,rfl,kg,kd,vm,W6,ik,Sa⟩;left;show⟨λτ Γ'=>∃(t:T),τ=[some (.ref a),some (.int ch),some L.tr,some k.tr,some t,o5,none,none]∧In Γ' t∧Kq [a] Γ Γ',?_,?_⟩
 ·left
  show B5 (λc=>?_) (λc=>?_)
  ·let c:=Ec c
   left;show Ψ3 a t 70 ⟨rfl,by decide,by decide,ik,(W6 c).1,(W6 c).2,λt' Γ4 h1 h2 h3=>?_⟩;left;show⟨t',rfl,h1,Sa.trans h3⟩
  ·left
   show⟨t,rfl,vm,Sa⟩
 intro τ Γ4⟨t,rfl,vm,Ki⟩;left;intro D hD;left;show⟨λτ Γ'=>∃(D':Addr) (ds:List T),τ=[some (.ref a),some (.int ch),some L.tr,some k.tr,some t,o5,some (.ref D'),none]∧Γ' D'=some (.lst ds)∧((∃u,Ha L k t u∧ds=[u])∨((∀u,¬Ha L k t u)∧ds=[]))∧In Γ' t∧Kq [a] Γ Γ',?_,?_⟩
 ·let KY:(∀u,¬Ha L k t u)→∃(D':Addr) (ds:List T),[some (.ref a),some (.int ch),some L.tr,some k.tr,some t,o5,some (.ref D),none]=[some (.ref a),some (.int ch),some L.tr,some k.tr,some t,o5,some (.ref D'),none]∧(up Γ4 D (.lst [])) D'=some (.lst ds)∧((∃u,Ha L k t u∧ds=[u])∨((∀u,¬Ha L k t u)∧ds=[]))∧In (up Γ4 D (.lst [])) t∧Kq [a] Γ (up Γ4 D (.lst [])):=λno=>Ψ2 D [] ⟨rfl,AE,.inr ⟨no,rfl⟩,vm.le (.new hD),Ki.trans (.new hD _)⟩
  left;obtain⟨nn,c,e1,e2,h|h⟩:=(vm.le (.new (o:=.lst []) hD)).Kl (K:=K)
  ·let⟨rfl,⟨es,rfl⟩⟩:=h
   show Ψ2 nn true ⟨e1,e2,?_⟩;left;show⟨k,rfl,kg,by lia,?_⟩;left;show B5 (λc=>?_) (λc=>?_)
   ·let c:=kx c
    left;show Ψ3 L k es ⟨rfl,kg,by lia,kd,by lia,vm.le (.new hD),λu r p hp=>?_,λno p hp=>?_⟩
    ·left
     show Ψ2 p [u] ⟨rfl,AE,.inl ⟨u,⟨es,rfl,r⟩,rfl⟩,(vm.le (.new hD)).le (.new hp),(Ki.trans (.new hD _)).trans (.new hp _)⟩
    ·left
     show Ψ2 p [] ⟨rfl,AE,.inr ⟨λu r=>by obtain⟨CC,e,r⟩:=r;cases e;show no u r,rfl⟩,(vm.le (.new hD)).le (.new hp),(Ki.trans (.new hD _)).trans (.new hp _)⟩
   ·left
    show KY λu r=>by obtain⟨CC,e,r⟩:=r;cases e;show dj c (by rw[Tb kg kd r])
  ·obtain⟨rfl,h⟩:=h
   show Ψ2 nn false ⟨e1,e2,?_⟩;left;show KY λu r=>by let⟨CC,e,_⟩:=r;show h _ e
 intro τ Γ5⟨D',ds,rfl,gD,BX,Vf,Qn⟩;let ZP:jq pT Γ5:=gl.kq fl Qn;left;show Ψ3 L k t ⟨rfl,kg,kd,Vf,ZP,λv rv p hp=>?_,λno p hp=>?_⟩
 ·rcases BX with⟨u,ru,rfl⟩|⟨no,rfl⟩
  ·have:=sU kg kd ru rv
   subst this;let hu:jZ k u:=by let⟨_,_,h,_⟩:=ru;show h
   let Nk:(up Γ5 p (.lst [u])) D'=some (.lst [u]):=by rw[B8 (CL gD hp)];show gD
   left;show G5 AE ?_;left;show G5 Nk ?_;left;intro p2 iJ;let Xt:(up (up Γ5 p (.lst [u])) p2 (.lst [])) D'=some (.lst [u]):=by rw[B8 (CL Nk iJ)];show Nk
   let ZN:(up (up Γ5 p (.lst [u])) p2 (.lst [])) p=some (.lst [u]):=by rw[B8 (CL AE iJ)];show AE
   let Xq:Kq [a] Γ (up (up Γ5 p (.lst [u])) p2 (.lst [])):=(Qn.trans (.new hp _)).trans (.new iJ _);show Ψ3 D' p2 _ ⟨rfl,rfl,Xt,AE,?_⟩;generalize up (up Γ5 p (.lst [u])) p2 (.lst [])=Γ7 at Xt ZN Xq ⊢;left;show Ψ2 _ _ ⟨rfl,mL hu,mL hu,by have:=uq hu kg;rw[CP];lia,?_⟩;rw[pS.mpr rfl];show Ag .refl (q _ Xq)
  ·show absurd rv (no v)
 ·rcases BX with⟨u,ru,rfl⟩|⟨_,rfl⟩
  ·show absurd ru (no u)
  ·let Nk:(up Γ5 p (.lst [])) D'=some (.lst []):=by rw[B8 (CL gD hp)];show gD
   left;show G5 AE ?_;left;show G5 Nk ?_;left;intro p2 iJ;show Ψ3 D' p2 _ ⟨rfl,rfl,by rw[B8 (CL Nk iJ)];show Nk,AE,?_⟩;left;show Ag .refl (q _ ((Qn.trans (.new hp _)).trans (.new iJ _)))
@[reducible]def VL:Stmt:=Bk 68
def DU:BA ["script","cell"] ["script"] (B4 VL):=Bm
abbrev qx(K:W.Frag)(pT:Addr):BQ:=λts Γ Z _=>∃(a:Addr) (ns:List Int),ts=[.scr K a (ns.map T.int)]∧ns.length≤63∧jq pT Γ∧∀Γ',Z (.bl true) Γ'
def acW(F:dR K "law" "law" VL f fd)(xj:AV P w K mg am "_law_right" 76 ["flow"] (iw pT))(zp:AV P w K mg am "_law_flow" 1 ["cell"] dz)(dh:mg "max" = none)(ky:mg "min" = none)(aG:mg "len" = none):bB P w K mg am BJ 77 f fd ["script"] (BP (qx K pT)):=by
 show Cb F DU (λts Γ Z Y h=>?_) (λcA A outer s H E ts Γ Z Y hr h=>?_)
 ·let⟨a,ns,rfl,_⟩:=h
  rfl
 let⟨a,ns,rfl,Xo,gl,q⟩:=h;show⟨_,(A9 (G6 F8 rfl (Fj (Ck T3 (AN ack (A3 0) (BL (A4 AB A8))) DM (CN (BC (Rz rfl) rfl dh Nm (A4 AB (A4 (BC (aW rfl) rfl ky bo (A4 (BC acO rfl aG Cd (A4 (A3 0) A8)) (A4 AB A8))) A8)))))) (DE (i:=1) DU.nd) (A9 (Ah (DJ (Bu (AM xj hr (A4 (AM zp hr (A4 (A3 1) A8)) A8)))) (A9 (Af JQ)
  AD) AD)
  AD))
  (A9 (Af JQ)
  AD)),?_⟩
 simp only[BW];left;intro b hb;left;show Ψ4 a b _ _ ⟨rfl,rfl,AE,by rw[Ac,CP];show _+1≤_;lia,λp hp=>?_⟩;left;show Ψ2 a _ ⟨rfl,?_⟩;left;show Ψ2 p _ ⟨rfl,AE,λp3 rS=>?_⟩;let e0:ns.map T.int++[T.int 0]=(ns++[0]).map T.int:=by rw[Ao];rfl
 let lp:=rS;rw[e0,ab6];rw[e0]at rS;generalize BB (ns++[0]) none _=cs;show Ψ2 p3 _ ⟨rfl,As AE,?_⟩;let g3:(up (up (up Γ b (.lst [.int 0])) p (.lst ((ns++[0]).map T.int))) p3 (.lst (cs.map T.int))) p3=some (.lst (cs.map T.int)):=AE;let Q3:jq pT (up (up (up Γ b (.lst [.int 0])) p (.lst ((ns++[0]).map T.int))) p3 (.lst (cs.map T.int))):=((gl.new hb).new hp).new rS;generalize up (up (up Γ b (.lst [.int 0])) p (.lst ((ns++[0]).map T.int))) p3 (.lst (cs.map T.int))=Γ3 at g3 Q3 ⊢;show⟨λrest τ Γ'=>∃(ms:List Int) (o:Option T),rest=ms.map T.int∧τ=[some (.scr K a (ns.map T.int)),o]∧Le Γ3 Γ',Ψ2 cs none ⟨rfl,rfl,.refl⟩,?_,?_⟩
 ·intro τ Γ'⟨ms,o,_,rfl,l⟩
  show⟨As (l _ _ g3),?_⟩;left;show Ag .refl (q _)
 ·intro x r τ Γ'⟨ms,o,er,rfl,l⟩
  cases ms with
  |nil=>cases er
  |cons m ms=>
   cases er;show⟨As (l _ _ g3),?_⟩;left;show⟨m,rfl,λa2 Γ2 Xf il fr2=>?_⟩;let l2:Le Γ' Γ2:=λc o hc=>by rw[fr2 c (by simpa using CL hc Xf)];show hc
   left;show⟨a2,rfl,il,l2 _ _ (l _ _ Q3),λΓ4 k4=>?_⟩;left;show Ψ2 ms _ ⟨rfl,rfl,λc o hc=>k4 c o (by simpa using CL (l _ _ hc) Xf) (l2 _ _ (l _ _ hc))⟩
end
abbrev OV(K:W.Frag)(pT:Addr):Dn:=λvs H Q _=>∃(a:Addr) (ns:List Int),vs=[.ref a]∧R4 pT H∧eB K H a (ns.map V.int)∧ns.length≤63∧∀H',Q (.bl true) H'
def vP{K:W.Frag}{pT:Addr}(vs:List V)(H:A7)(Q:Au)(E:BF)(h:OV K pT vs H Q E):BP (qx K pT) vs H Q E:=by
 let⟨a,ns,rfl,hO,hS,Xo,q⟩:=h;let sc:JD K H a (ns.map V.int):=by
  rcases hS with(h|⟨o,h⟩)|h
  ·by_cases e:a=pT
   ·rw[e,hO.1]at h;cases h
   rcases hO.2 a e with z|⟨o,xs,z⟩
   ·rw[h]at z;cases z
   ·rw[h]at z;cases z
  ·show .inl ⟨o,h⟩
  ·show .inr h
 show Ψ4 [.scr K a (ns.map T.int)] (λb=>if b=pT then some (.lam TT (c0 L5))else none) (λx _=>x=.bl true) (λ_ _=>False) ⟨CS (tC sc (J0 ns)) D3,λb o h=>?_,Ψ2 a ns ⟨rfl,Xo,AI rfl,λ_=>rfl⟩,λv x H' Γ' _ _ r z=>?_,λ_ _ _ _ _ z=>z.elim⟩
 ·by_cases e:b=pT
  ·subst e
   let h':=(AI rfl).symm.trans h;cases h';show .inl hO.1
  ·let h':=(AH e).symm.trans h
   cases h'
 ·subst z
  rw[GU r];show q H'
def all_mk{l:W.OpenLaw}{w:World}{K:W.Frag}{h:Heap}{mg:ac}{fa f1 f5 f6 f7 f8 f9 f10 f11 f12 f13 f14 f15 f16 f17 f18 f19 f20 f21 f22 f23 f24 f25 f26 f27 f28 f29 f30 f31 f32 f33 f34 f35 f36 f37 f38 f39 f40 f41 f42 f43:Addr}{g1 g2 g3 g4 g5 g6 g7 g8 g9 g10 g11 g12 g13 g14 g15 g16 g17 g18 g19 g20 g21 g22 g23 g24 g25 g26 g27 g28 Z9 Z8 Z7 Z6 Z5 Z4 Z3 Z2 Z1 Z0 ZZ ZY ZX ZW Xv:FuncData}(X:K.In h)(G:h.Ns mainGlobals mg)(Zt:mg "law" = some (.ref fa))
  (d1:Dg K "is_whole" dS f1 g1) (d2:Dg K "size_of" PX f2 g2) (d3:Dg K "in_order" L5 f3 g3) (d4:Dg K "field_offsets" bZ f4 g4) (d5:Dg K "is_sign" Yf f5 g5) (d6:Dg K "is_word" aq f6 g6) (d7:Dg K "number_of_words" au f7 g7) (d8:Dg K "text_of_signs" TC f8 g8) (d9:Dg K "of_picture" Tc f9 g9) (d10:Dg K "worth_at" PY f10 g10) (d11:Dg K "number_read" VZ f11 g11) (d12:Dg K "text_read" b9 f12 g12) (d13:Dg K "array_read" Ri f13 g13) (d14:Dg K "chain_read" OM f14 g14) (d15:Dg K "choice_read" Qc f15 g15) (d16:Dg K "_law_flow" c7 f16 g16) (d17:Dg K "_law_draw" cb f17 g17) (d18:Dg K "_law_name" PF f18 g18) (d19:Dg K "_law_kind" Px f19 g19) (d20:Dg K "_law_sign" Ui f20 g20) (d21:Dg K "_law_number" Tj f21 g21) (d22:Dg K "_law_many" Yp f22 g22) (d23:Dg K "_law_leaves" S2 f23 g23) (d24:Dg K "_law_worth" Od f24 g24) (d25:Dg K "_law_broad" Yg f25 g25) (d26:Dg K "_law_laying" VT f26 g26) (d27:Dg K "_law_size" Ro f27 g27) (d28:Dg K "_law_places" bS f28 g28) (d29:Dg K "_law_picture" Oh f29 Z9) (d30:Dg K "_law_whole" TF f30 Z8) (d31:Dg K "_law_same" cB f31 Z7) (d32:Dg K "_law_asked" XC f32 Z6) (d33:Dg K "_law_other" T6 f33 Z5) (d34:Dg K "_law_spoilt" RA f34 Z4) (d35:Dg K "_law_in_a_chain" bQ f35 Z3) (d36:Dg K "_law_many_items" aZ f36 Z2) (d37:Dg K "_law_word" XM f37 Z1) (d38:Dg K "_law_read_text" aV f38 Z0) (d39:Dg K "_law_items" aA f39 ZZ) (d40:Dg K "_law_read_fields" Pd f40 ZY) (d41:Dg K "_law_read" P6 f41 ZX) (d42:Dg K "_law_right" bM f42 ZW) (d43:Dg K "law" VL f43 Xv)
  (zs:Zs K ["len","max","min","range","tuple","isinstance","int","bool","str","list","zip","sum","sorted","ord","all","bytes","ValueError"])
  {u1:Value} (gk1:W.nsIn K mainGlobals "WORD_NUMBERS" = some (some u1)) (q1:RelV (.int 65536) u1)
  {u2:Value} (gk2:W.nsIn K mainGlobals "MOST_ITEMS" = some (some u2)) (q2:RelV (.int 60) u2)
  {u3:Value} (gk3:W.nsIn K mainGlobals "MOST_SIGNS" = some (some u3)) (q3:RelV (.int 60) u3)
  {u4:Value} (gk4:W.nsIn K mainGlobals "FIRST_SIGN" = some (some u4)) (q4:RelV (.int 32) u4)
  {u5:Value} (gk5:W.nsIn K mainGlobals "LAST_SIGN" = some (some u5)) (q5:RelV (.int 126) u5)
  {u6:Value} (gk6:W.nsIn K mainGlobals "HUNDREDTH_SIGN" = some (some u6)) (q6:RelV (.int 37) u6)
  {rK:Addr} (gcGateError:W.nsIn K mainGlobals "GateError" = some (some (.ref rK)))
  {bP:Addr} (gcNoPicture:W.nsIn K mainGlobals "NoPicture" = some (some (.ref bP)))
  {KR:Addr} (gcFull:W.nsIn K mainGlobals "Full" = some (some (.ref KR)))
  {xt:Addr} (gcNoBlock:W.nsIn K mainGlobals "NoBlock" = some (some (.ref xt)))
  {AU:Addr} (gcNoDoor:W.nsIn K mainGlobals "NoDoor" = some (some (.ref AU)))
  {AS:Addr} (gcNoPart:W.nsIn K mainGlobals "NoPart" = some (some (.ref AS)))
  {rJ:Addr} (gcNoProgram:W.nsIn K mainGlobals "NoProgram" = some (some (.ref rJ)))
  {AR:Addr} (gcNoRoom:W.nsIn K mainGlobals "NoRoom" = some (some (.ref AR)))
  {AQ:Addr} (gcNoText:W.nsIn K mainGlobals "NoText" = some (some (.ref AQ)))
  {xq:Addr} (gcNoThing:W.nsIn K mainGlobals "NoThing" = some (some (.ref xq)))
  {AO:Addr} (gcNoWord:W.nsIn K mainGlobals "NoWord" = some (some (.ref AO)))
  {tN:Addr} (gcNoWorths:W.nsIn K mainGlobals "NoWorths" = some (some (.ref tN)))
  {rH:Addr} (gcWrongHand:W.nsIn K mainGlobals "WrongHand" = some (some (.ref rH)))
  (xNoPicture:W.excIn K bP [.type "ValueError",.type "Exception",.type "BaseException",.type "object"] "ValueError.__new__" = true)
  (xm:W.exmOne K (.ref bP) (.ref rK)=some true)
  (ka:W.kitAny K (.ref bP) [.ref KR,.ref xt,.ref AU,.ref AS,.ref rJ,.ref AR,.ref AQ,.ref xq]=some false)
  (kb:W.kitAny K (.ref bP) [.ref AO,.ref tN,.ref rH]=some false)
  (kn:W.kitOne K (.ref bP) (.ref bP)=some true)
  (kv:W.kitOne K (.ref bP) (.type "ValueError")=some true)
  (e1:W.findIn K (.ref bP) "__getattribute__" = some (some (.builtin "BaseException.__getattribute__")))
  (e2:W.findIn K (.ref bP) "__getattr__" = some none)
  (e3:W.findIn K (.ref bP) "__class__" = some (some (.builtin "object.__class__")))
  (e4:W.specialIn K (.builtin "object.__class__") "__get__" = some (some (.builtin "getset_descriptor.__get__")))
  (e5:W.takesIn K (.builtin "object.__class__")=some true)
  (e6:W.mroIn K bP (.type "object")=some true)
  (e7:W.mroIn K bP (.type "BaseException")=some true)
  {KQ pT:Addr} (yQ:g3.code=.ref KQ) (yR:W.codeHdIn K KQ pT=true) :
  ∃fd:FuncData,(∀(s:Shared) (v:Value),BindsTo s fd ⟨[v],[]⟩ [("script",v)])∧∀am:Heap,K.In am→am.Ns mainGlobals mg→IG mg am pT→bB l.prog w K mg am BJ 77 fa fd ["script"] (OV K pT):=by
 let d1:=d1.df (ps:=["thing"]) X G λ_ _ _ _ _ _=>L3.xB (λ_=>rfl);let d2:=d2.df (ps:=["kind"]) X G λ_ _ _ _ _ _=>L3.xB (λ_=>rfl);let d3:=d3.df (ps:=["laying","fields"]) X G λ_ _ _ _ _ _=>L3.Cs (λ_ _=>rfl);let d4:=d4.df (ps:=["laying","fields"]) X G λ_ _ _ _ _ _=>L3.Cs (λ_ _=>rfl);let d5:=d5.df (ps:=["number"]) X G λ_ _ _ _ _ _=>L3.xB (λ_=>rfl);let d6:=d6.df (ps:=["thing"]) X G λ_ _ _ _ _ _=>L3.xB (λ_=>rfl);let d7:=d7.df (ps:=["halves","words"]) X G λ_ _ _ _ _ _=>L3.Cs (λ_ _=>rfl);let d8:=d8.df (ps:=["signs"]) X G λ_ _ _ _ _ _=>L3.xB (λ_=>rfl);let d9:=d9.df (ps:=["laying","kind","thing"]) X G λ_ _ _ _ _ _=>L3.Bd (λ_ _ _=>rfl);let d10:=d10.df (ps:=["laying","kind","entries","place"]) X G λ_ _ _ _ _ _=>L3.Wa (λ_ _ _ _=>rfl);let d11:=d11.df (ps:=["halves","words"]) X G λ_ _ _ _ _ _=>L3.Cs (λ_ _=>rfl);let d12:=d12.df (ps:=["texts","block"]) X G λ_ _ _ _ _ _=>L3.Cs (λ_ _=>rfl);let d13:=d13.df (ps:=["laying","kind","block"]) X G λ_ _ _ _ _ _=>L3.Bd (λ_ _ _=>rfl);let d14:=d14.df (ps:=["laying","kind","entry"]) X G λ_ _ _ _ _ _=>L3.Bd (λ_ _ _=>rfl);let d15:=d15.df (ps:=["laying","kind","entries","place"]) X G λ_ _ _ _ _ _=>L3.Wa (λ_ _ _ _=>rfl);let d16:=d16.df (ps:=["cell"]) X G λ_ _ _ _ _ _=>L3.xB (λ_=>rfl);let d17:=d17.df (ps:=["flow","many"]) X G λ_ _ _ _ _ _=>L3.Cs (λ_ _=>rfl);let d18:=d18.df (ps:=["flow","taken"]) X G λ_ _ _ _ _ _=>L3.Cs (λ_ _=>rfl);let d19:=d19.df (ps:=["flow","depth","room"]) X G λ_ _ _ _ _ _=>L3.Bd (λ_ _ _=>rfl);let d20:=d20.df (ps:=["flow"]) X G λ_ _ _ _ _ _=>L3.xB (λ_=>rfl);let d21:=d21.df (ps:=["flow","width"]) X G λ_ _ _ _ _ _=>L3.Cs (λ_ _=>rfl);let d22:=d22.df (ps:=["flow"]) X G λ_ _ _ _ _ _=>L3.xB (λ_=>rfl);let d23:=d23.df (ps:=["kind"]) X G λ_ _ _ _ _ _=>L3.xB (λ_=>rfl);let d24:=d24.df (ps:=["flow","kind","room"]) X G λ_ _ _ _ _ _=>L3.Bd (λ_ _ _=>rfl);let d25:=d25.df (ps:=["flow"]) X G λ_ _ _ _ _ _=>L3.xB (λ_=>rfl);let d26:=d26.df (ps:=["flow"]) X G λ_ _ _ _ _ _=>L3.xB (λ_=>rfl);let d27:=d27.df (ps:=["kind"]) X G λ_ _ _ _ _ _=>L3.xB (λ_=>rfl);let d28:=d28.df (ps:=["laying","fields"]) X G λ_ _ _ _ _ _=>L3.Cs (λ_ _=>rfl);let d29:=d29.df (ps:=["laying","kind","worth"]) X G λ_ _ _ _ _ _=>L3.Bd (λ_ _ _=>rfl);let d30:=d30.df (ps:=["thing"]) X G λ_ _ _ _ _ _=>L3.xB (λ_=>rfl);let d31:=d31.df (ps:=["found","due"]) X G λ_ _ _ _ _ _=>L3.Cs (λ_ _=>rfl);let d32:=d32.df (ps:=["laying","kind","thing"]) X G λ_ _ _ _ _ _=>L3.Bd (λ_ _ _=>rfl);let d33:=d33.df (ps:=["flow","thing"]) X G λ_ _ _ _ _ _=>L3.Cs (λ_ _=>rfl);let d34:=d34.df (ps:=["flow","thing","left"]) X G λ_ _ _ _ _ _=>L3.Bd (λ_ _ _=>rfl);let d35:=d35.df (ps:=["flow","kind","laying"]) X G λ_ _ _ _ _ _=>L3.Bd (λ_ _ _=>rfl);let d36:=d36.df (ps:=["flow","kind","laying"]) X G λ_ _ _ _ _ _=>L3.Bd (λ_ _ _=>rfl);let d37:=d37.df (ps:=["thing"]) X G λ_ _ _ _ _ _=>L3.xB (λ_=>rfl);let d38:=d38.df (ps:=["laying","block"]) X G λ_ _ _ _ _ _=>L3.Cs (λ_ _=>rfl);let d39:=d39.df (ps:=["laying","size","entry"]) X G λ_ _ _ _ _ _=>L3.Bd (λ_ _ _=>rfl);let d40:=d40.df (ps:=["laying","kind","row"]) X G λ_ _ _ _ _ _=>L3.Bd (λ_ _ _=>rfl);let d41:=d41.df (ps:=["laying","kind","row"]) X G λ_ _ _ _ _ _=>L3.Bd (λ_ _ _=>rfl);let d42:=d42.df (ps:=["flow"]) X G λ_ _ _ _ _ _=>L3.xB (λ_=>rfl);let d43:=d43.df (ps:=["script"]) X G λ_ _ _ _ _ _=>L3.xB (λ_=>rfl);let e:=Zt.symm.trans d43.m;cases e;obtain⟨aG,dh,ky,aJ,ar,aj,eA,iO,zx,fi,l8,eZ,iC,sR,di,tU,iP,_⟩:=zs.m X G;show⟨Xv,λs v=>?_,λam _ _ yS=>?_⟩
 ·let⟨_,_,_,_,_,_,_,_,_,rfl,_⟩:=d43.F.ex
  show .of_eq rfl
 let cW:=EB X G gk1;let cg:=EB X G gk2;let i6:=EB X G gk3;let i7:=EB X G gk4;let jS:=EB X G gk5;let fz:=EB X G gk6;let jT:=EB X G gcGateError;let aD:=EB X G gcNoPicture;let yD:=EB X G gcFull;let nZ:=EB X G gcNoBlock;let qS:=EB X G gcNoDoor;let qR:=EB X G gcNoPart;let jR:=EB X G gcNoProgram;let qQ:=EB X G gcNoRoom;let qP:=EB X G gcNoText;let nY:=EB X G gcNoThing;let qO:=EB X G gcNoWord;let lG:=EB X G gcNoWorths;let jQ:=EB X G gcWrongHand;let ex:Fg K bP:=⟨e1,e2,e3,e4,e5,e6,e7,vg xNoPicture⟩;let D16:=d16.cl (yH (P:=l.prog) (w:=w) (am:=am) d16.F dh);let XT:=d17.cl (rZ (P:=l.prog) (w:=w) (am:=am) d17.F);let CG:=Loc XT;let XX:=d20.cl (abT (P:=l.prog) (w:=w) (am:=am) d20.F CG);let C21:=d21.cl (sZ (P:=l.prog) (w:=w) (am:=am) d21.F CG);let C22:=d22.cl (acF (P:=l.prog) (w:=w) (am:=am) d22.F CG);let XS:=d18.cl (rE (P:=l.prog) (w:=w) (am:=am) d18.F CG aJ aG);let C26:=d26.cl (aea (P:=l.prog) (w:=w) (am:=am) d26.F CG aJ ar);let Be:=d3.cl (aa6 (P:=l.prog) (w:=w) (am:=am) d3.F yQ yR yS ar iC);let XW:=d28.cl (yk (P:=l.prog) (w:=w) (am:=am) d28.F fi aJ aG iC);let C31:=d31.cl (ve (P:=l.prog) (w:=w) (am:=am) d31.F aj ar zx eA iO aG fi l8);let C16:=abX D16;let D19:=kind_all (P:=l.prog) (w:=w) (am:=am) d19.F d19.m d19.k d19.b XT XS aJ ar 10;let C23:=gq (P:=l.prog) (w:=w) (am:=am) d23.F d23.m d23.k d23.b eZ 13;let V7:=qB (P:=l.prog) (w:=w) (am:=am) d24.F d24.m d24.k d24.b CG C21 C22 XX C23 ky dh aJ ar aG 13;let C2:=fh (P:=l.prog) (w:=w) (am:=am) d2.F d2.m d2.k d2.b eZ dh 6;let V6:=iG (P:=l.prog) (w:=w) (am:=am) d27.F d27.m d27.k d27.b dh 6;let V5:=fY (P:=l.prog) (w:=w) (am:=am) d29.F d29.m d29.k d29.b XW V6 ar aG sR 6;let C1:=d1.cl (yV (P:=l.prog) (w:=w) (am:=am) d1.F aj eA iO);let C5:=d5.cl (vL (P:=l.prog) (w:=w) (am:=am) d5.F i7 (gl_int q4) jS (gl_int q5) fz (gl_int q6));let C6:=d6.cl (uB (P:=l.prog) (w:=w) (am:=am) d6.F C1 cW (gl_int q1));let C7:=d7.cl (aaH (P:=l.prog) (w:=w) (am:=am) d7.F cW (gl_int q1));let C4:=d4.cl (vV (P:=l.prog) (w:=w) (am:=am) d4.F Be C2);let C8:=d8.cl (aas (P:=l.prog) (w:=w) (am:=am) d8.F tU);let C11:=d11.cx (ab2 (P:=l.prog) (w:=w) (am:=am) d11.F aD xNoPicture C6 C7 di);let C12:=d12.cx (sQ (P:=l.prog) (w:=w) (am:=am) d12.F aD xNoPicture C6 C5 C8 i6 (gl_int q3) aj ar aG di);let C10:=eN (P:=l.prog) (w:=w) (am:=am) d10.F d10.m d10.k d10.b d13.F d13.m d13.k d13.b d14.F d14.m d14.k d14.b d15.F d15.m d15.k d15.b C6 Be C2 C11 C12 C4 aD xNoPicture cg (gl_int q2) aj ar aG aJ di 6;let C9:=d9.cx (acP (P:=l.prog) (w:=w) (am:=am) d9.F aD xNoPicture C10 C2 aj ar aG);let C32:=d32.cl (xM (P:=l.prog) (w:=w) (am:=am) d32.F C9 jT aD yD nZ qS qR jR qQ qP nY qO lG jQ xm ka kb kn kv ex aj iP);let C30:=d30.cl (aad (P:=l.prog) (w:=w) (am:=am) d30.F aj eA iO);let V4:=d37.cl (vH (P:=l.prog) (w:=w) (am:=am) d37.F C30);let C38:=d38.cl (ze (P:=l.prog) (w:=w) (am:=am) d38.F V4 aj ar aG di fi eA);let C39:=d39.cl (aby (P:=l.prog) (w:=w) (am:=am) d39.F V4 aj ar aG aJ);let C41:=fq (P:=l.prog) (w:=w) (am:=am) d41.F d41.m d41.k d41.b d40.F d40.m d40.k d40.b C38 C39 V4 V6 XW aG di ar eA eZ l8 aJ 6;let C33:=d33.cl (sY (P:=l.prog) (w:=w) (am:=am) d33.F CG aj ar aG fi);let XU:=gr (P:=l.prog) (w:=w) (am:=am) d34.F d34.m d34.k d34.b C33 CG aj ar aG 71;let C35:=d35.cl (xK (P:=l.prog) (w:=w) (am:=am) d35.F CG V7 V5 XU aJ);let C36:=d36.cl (vd (P:=l.prog) (w:=w) (am:=am) d36.F CG XX V7 V5);let XY:=t9 D19;let C18:=uJ XS;let C25:=d25.cl (aeM (P:=l.prog) (w:=w) (am:=am) d25.F CG C18 XY aJ ar);let C42:=d42.cl (adm (P:=l.prog) (w:=w) (am:=am) d42.F C26 CG XY C25 V7 V5 C35 C36 XU V6 C41 C32 C31 aj ar eA aG);show(acW d43.F C42 C16 dh ky aG).imp vP
def walk{l:W.OpenLaw}{q:Program}{loose:List Str}{XP:(ac)→Heap→Prop}{YP:World→Heap→Prop}{d:DefRec}{K:Params→W.Frag}{c P:Addr}(hn:l.most=some 63)(Kt:d.params.defaults=[])
  (hY:∀(w:World) (h:Heap),YP w h→(K w.params).In h) (hT:∀(w:World) (h:Heap),YP w h→h.get? P=some (W.tabObj #[])) (hC:∀w:World,W.codeHdIn (K w.params) c P=true) (QY:∀w:World,(K w.params).lookup P=none)
  (F:∀(w:World) (mg:ac) (fa:Addr) (h:Heap),(K w.params).In h→h.Ns mainGlobals mg→mg d.name=some (.ref fa)→
   ∃fd:FuncData,(∀(s:Shared) (u:Value),BindsTo s fd ⟨[u],[]⟩ [("script",u)])∧∀am:Heap,(K w.params).In am→am.Ns mainGlobals mg→IG mg am P→bB l.prog w (K w.params) mg am BJ 77 fa fd ["script"] (OV (K w.params) P)) :
  W.WalkO q loose XP YP l.row.toRowW d [] (λf vs=>PySem.call f vs):=
 L2.Dc (n:=63) (k:=77) (x := "script") (CX:=λ_=>BJ) (sp:=λw=>OV (K w.params) P) hn (by decide) Kt ⟨rfl,by decide,by decide⟩ hY hT hC QY F (λ_ _ a ns hl hO hS=>Ψ2 a ns ⟨rfl,hO,hS,hl,λ_=>rfl⟩) λ_ _ _ _ _ z=>z
end Tg
open PySem PySem.W PyProof.Rows
def PySem.W.Fast.tw6403753690423043384:=()
def PySem.W.Fast.tw9466657388066628460:=()
def PySem.W.Fast.tw9005007690243563246:=()
def PySem.W.Fast.tw5883261240359900234:=()
def PySem.W.Fast.tw6207925290444101566:=()
def PySem.W.Fast.tw7999473470168199087:=()
def PySem.W.Fast.tw2043536811081467289:=()
def PySem.W.Fast.tw2178612170959846935:=()
def PySem.W.Fast.tw6843337795219869138:=()
def PySem.W.Fast.tw1430102408297922995:=()
def PySem.W.Fast.tw599285255873987710:=()
def PySem.W.Fast.tw13403699896132983462:=()
def PySem.W.Fast.tw13151872227550934423:=()
def PySem.W.Fast.tw11745249321337684071:=()
def PySem.W.Fast.tw11485357493070337606:=()
def PySem.W.Fast.tw8283030098271499832:=()
def PySem.W.Fast.tw6177778794769457157:=()
def PySem.W.Fast.tw17420474834805779782:=()
def PySem.W.Fast.tw16241577425901057823:=()
def PySem.W.Fast.tw4235030985385408841:=()
def PySem.W.Fast.tw7164039189872692782:=()
def PySem.W.Fast.tw1019588090812403354:=()
def PySem.W.Fast.tw2566411075253573912:=()
def PySem.W.Fast.tw664345727375470312:=()
def PySem.W.Fast.tw14857548811957903165:=()
def PySem.W.Fast.tw2956669861066179678:=()
def PySem.W.Fast.tw12108588390338369846:=()
def PySem.W.Fast.tw10744393735078569324:=()
def PySem.W.Fast.tw10509690033203363150:=()
def PySem.W.Fast.tw10634930504113648068:=()
def PySem.W.Fast.tw3419726681106768409:=()
def PySem.W.Fast.tw12353856966672722047:=()
def PySem.W.Fast.tw6983335232892150331:=()
def PySem.W.Fast.tw8588061465199519182:=()
def PySem.W.Fast.tw10207802167997252917:=()
def PySem.W.Fast.tw18415955115574466779:=()
def PySem.W.Fast.tw16816832373612450174:=()
def PySem.W.Fast.tw14658414705747755708:=()
def PySem.W.Fast.tw10527742783198636083:=()
def PySem.W.Fast.tw15532083603769786698:=()
def PySem.W.Fast.tw15515911131897106717:=()
def PySem.W.Fast.tw3095980353532611967:=()
def PySem.W.Fast.tw16645123358176066900:=()
def PySem.W.Fast.tw3880885016619200420:=()
def PySem.W.Fast.tw15668519091539969510:=()
def PySem.W.Fast.tw10507876566073292649:=()
def PySem.W.Fast.tw3753434301765477546:=()
def PySem.W.Fast.tw10025904241544453942:=()
def PySem.W.Fast.tw11729124400948738642:=()
def PySem.W.Fast.tw5055443837600495369:=()
def PySem.W.Fast.tw13156413561033269094:=()
def PySem.W.Fast.tw2559246968034940404:=()
def PySem.W.Fast.tw13643248021609082274:=()
def PySem.W.Fast.tw11915099214524892147:=()
def PySem.W.Fast.tw10985949729706712193:=()
def PySem.W.Fast.tw8630887115698843287:=()
def PySem.W.Fast.tw9477474406372846871:=()
def PySem.W.Fast.tw13701407507865532923:=()
def PySem.W.Fast.tw3865686488676250733:=()
def PySem.W.Fast.tw10191398860495729096:=()
def PySem.W.Fast.tw14513507305132972503:=()
def PySem.W.Fast.tw11816432336426257410:=()
def PySem.W.Fast.tw2639515339054757580:=()
def PySem.W.Fast.tw16907698957328597544:=()
def PySem.W.Fast.tw18390567441000113980:=()
def PySem.W.Fast.tw3481252102733700005:=()
def PySem.W.Fast.tw8928460631325253905:=()
def PySem.W.Fast.tw3702559979160151319:=()
def PySem.W.Fast.tw6235330041659884619:=()
def PySem.W.Fast.tw15621938714693036525:=()
def PySem.W.Fast.tw1773651109469218448:=()
def PySem.W.Fast.tw13804009826502041663:=()
def PySem.W.Fast.tw15693284882596734998:=()
def PySem.W.Fast.tw17669793114890399207:=()
def PySem.W.Fast.tw5345590087671233351:=()
def PySem.W.Fast.tw12038402541955886176:=()
def PySem.W.Fast.tw15934790250663625120:=()
def PySem.W.Fast.tw16973483511002375936:=()
def PySem.W.Fast.tw8548019539858082784:=()
def PySem.W.Fast.tw17333488697915480065:=()
def PySem.W.Fast.tw7231288355799515650:=()
def PySem.W.Fast.tw5467859966748261186:=()
def PySem.W.Fast.tw659702656587016899:=()
def PySem.W.Fast.tw13185692738966626852:=()
def PySem.W.Fast.tw3667442693031259301:=()
def PySem.W.Fast.tw14178267197763155686:=()
def PySem.W.Fast.tw15304067526237756103:=()
def PySem.W.Fast.tw8194059817574410568:=()
def PySem.W.Fast.tw350141988010090634:=()
def PySem.W.Fast.tw5691323312807416747:=()
def PySem.W.Fast.tw6199804341746276430:=()
def PySem.W.Fast.tw12668657091618766287:=()
def PySem.W.Fast.tw6418509407909565360:=()
def PySem.W.Fast.tw13128138406537843825:=()
def PySem.W.Fast.tw18019519750174075441:=()
def PySem.W.Fast.tw7258984093687211985:=()
def PySem.W.Fast.tw13495711157608011059:=()
def PySem.W.Fast.tw13785146379706212211:=()
def PySem.W.Fast.tw17842406937629093012:=()
def PySem.W.Fast.tw12614913015480309204:=()
def PySem.W.Fast.tw7513468875366483125:=()
def PySem.W.Fast.tw5075326192798107445:=()
def PySem.W.Fast.tw3981481281365072054:=()
def PySem.W.Fast.tw15105352869410301015:=()
def PySem.W.Fast.tw13393305965035070167:=()
def PySem.W.Fast.tw8049275884554367767:=()
def PySem.W.Fast.tw15504458452985939896:=()
def PySem.W.Fast.tw4993515638719421817:=()
def PySem.W.Fast.tw1028937527397777817:=()
def PySem.W.Fast.tw12264427379649927961:=()
def PySem.W.Fast.tw13252471556034706361:=()
def PySem.W.Fast.tw5030805936177440378:=()
def PySem.W.Fast.tw2352579879586888474:=()
def PySem.W.Fast.tw4033557537273592829:=()
def PySem.W.Fast.tw14154807906649354089:=()
set_option maxRecDepth 100000 in
set_option maxHeartbeats 0 in
theorem PySem.Challenge.cw_tonguegate_k12_no_picture_holds : PySem.Challenge.rw_tonguegate_k12_no_picture.Holds := by
 w_on;o_law;k_head;(case hw=>w_witness2)
 k_fill
 show Tg.walk (l:=PySem.Challenge.rw_tonguegate_k12_no_picture) (c:=189) (P:=185) rfl rfl (λw h Y=>PySem.W.km_in_of Y) (λw h Y=>PySem.W.km_tabs_of Y 185 (by simp)) (λw=>by kernel_rfl) (λw=>by kernel_rfl) ?F
 case F=>
  intro w mg fa h KX G QK;refine' Tg.all_mk KX G QK ?d1 ?d2 ?d3 ?d4 ?d5 ?d6 ?d7 ?d8 ?d9 ?d10 ?d11 ?d12 ?d13 ?d14 ?d15 ?d16 ?d17 ?d18 ?d19 ?d20 ?d21 ?d22 ?d23 ?d24 ?d25 ?d26 ?d27 ?d28 ?d29 ?d30 ?d31 ?d32 ?d33 ?d34 ?d35 ?d36 ?d37 ?d38 ?d39 ?d40 ?d41 ?d42 ?d43 ?zs ?gk1 ?q1 ?gk2 ?q2 ?gk3 ?q3 ?gk4 ?q4 ?gk5 ?q5 ?gk6 ?q6 ?gcGateError ?gcNoPicture ?gcFull ?gcNoBlock ?gcNoDoor ?gcNoPart ?gcNoProgram ?gcNoRoom ?gcNoText ?gcNoThing ?gcNoWord ?gcNoWorths ?gcWrongHand ?xNoPicture ?xm ?ka ?kb ?kn ?kv ?e1 ?e2 ?e3 ?e4 ?e5 ?e6 ?e7     ?tb1 ?tb2
  (case d1|d2|d3|d4|d5|d6|d7|d8|d9|d10|d11|d12|d13|d14|d15|d16|d17|d18|d19|d20|d21|d22|d23|d24|d25|d26|d27|d28|d29|d30|d31|d32|d33|d34|d35|d36|d37|d38|d39|d40|d41|d42|d43=>refine' L3.dg ?a ?l ?c ?k;(case a|l|c|k=>k_is))
  (case zs=>(iterate 17 (show L3.zc ?_ ?_;k_is));show trivial)
  (case gk1=>k_is);(case q1=>show⟨_,rfl⟩)
  (case gk2=>k_is);(case q2=>show⟨_,rfl⟩)
  (case gk3=>k_is);(case q3=>show⟨_,rfl⟩)
  (case gk4=>k_is);(case q4=>show⟨_,rfl⟩)
  (case gk5=>k_is);(case q5=>show⟨_,rfl⟩)
  (case gk6=>k_is);(case q6=>show⟨_,rfl⟩)
  (case gcGateError|gcNoPicture|gcFull|gcNoBlock|gcNoDoor|gcNoPart|gcNoProgram|gcNoRoom|gcNoText|gcNoThing|gcNoWord|gcNoWorths|gcWrongHand=>k_is)
  (case xNoPicture=>k_exc)
  (case xm=>kts_exm)
  (case ka=>kit_is)
  (case kb=>kit_is)
  (case kn=>kit_is)
  (case kv=>kit_is)
  (case e1=>k_is)
  (case e2=>k_is)
  (case e3=>k_is)
  (case e4=>k_is)
  (case e5=>k_is)
  (case e6=>k_is)
  (case e7=>k_is)
  (case tb1=>show rfl);(case tb2=>kernel_rfl)

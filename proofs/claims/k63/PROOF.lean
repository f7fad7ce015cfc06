import PyProof.Rows.All
import Wide.All
import OpenK.AllK
import Wide.FinOn
import Lean
import PyProof.EqAt
import PyProof.EqKinds
import PyProof.TupleCall
import PySem.Challenge.RW_tonguegate_k63_worths_in_programs
section
variable{r:Prop}{α β γ δ ε η ι κ μ:Type}
section
variable{A B C D E F G H I J:Prop}
theorem Ξ02(h:A∧B)(k:A→B→r):r:=k h.1 h.2
theorem Ξ03(h:A∧B∧C)(k:A→B→C→r):r:=k h.1 h.2.1 h.2.2
theorem Ξ04(h:A∧B∧C∧D)(k:A→B→C→D→r):r:=k h.1 h.2.1 h.2.2.1 h.2.2.2
theorem Ξ05(h:A∧B∧C∧D∧E)(k:A→B→C→D→E→r):r:=k h.1 h.2.1 h.2.2.1 h.2.2.2.1 h.2.2.2.2
theorem Ξ06(h:A∧B∧C∧D∧E∧F)(k:A→B→C→D→E→F→r):r:=k h.1 h.2.1 h.2.2.1 h.2.2.2.1 h.2.2.2.2.1 h.2.2.2.2.2
theorem Ξ07(h:A∧B∧C∧D∧E∧F∧G)(k:A→B→C→D→E→F→G→r):r:=k h.1 h.2.1 h.2.2.1 h.2.2.2.1 h.2.2.2.2.1 h.2.2.2.2.2.1 h.2.2.2.2.2.2
theorem Ξ08(h:A∧B∧C∧D∧E∧F∧G∧H)(k:A→B→C→D→E→F→G→H→r):r:=k h.1 h.2.1 h.2.2.1 h.2.2.2.1 h.2.2.2.2.1 h.2.2.2.2.2.1 h.2.2.2.2.2.2.1 h.2.2.2.2.2.2.2
theorem Ξ09(h:A∧B∧C∧D∧E∧F∧G∧H∧I)(k:A→B→C→D→E→F→G→H→I→r):r:=k h.1 h.2.1 h.2.2.1 h.2.2.2.1 h.2.2.2.2.1 h.2.2.2.2.2.1 h.2.2.2.2.2.2.1 h.2.2.2.2.2.2.2.1 h.2.2.2.2.2.2.2.2
theorem Ξ010(h:A∧B∧C∧D∧E∧F∧G∧H∧I∧J)(k:A→B→C→D→E→F→G→H→I→J→r):r:=k h.1 h.2.1 h.2.2.1 h.2.2.2.1 h.2.2.2.2.1 h.2.2.2.2.2.1 h.2.2.2.2.2.2.1 h.2.2.2.2.2.2.2.1 h.2.2.2.2.2.2.2.2.1 h.2.2.2.2.2.2.2.2.2
end
section
variable{A B C D E:α→Prop}
theorem Ξ11(h:∃x,A x)(k:∀x,A x→r):r:=h.elim k
theorem Ξ12(h:∃x,A x∧B x)(k:∀x,A x→B x→r):r:=Ξ11 h λx h=>Ξ02 h (k x)
theorem Ξ13(h:∃x,A x∧B x∧C x)(k:∀x,A x→B x→C x→r):r:=Ξ11 h λx h=>Ξ03 h (k x)
theorem Ξ14(h:∃x,A x∧B x∧C x∧D x)(k:∀x,A x→B x→C x→D x→r):r:=Ξ11 h λx h=>Ξ04 h (k x)
theorem Ξ15(h:∃x,A x∧B x∧C x∧D x∧E x)(k:∀x,A x→B x→C x→D x→E x→r):r:=Ξ11 h λx h=>Ξ05 h (k x)
end
section
variable{A B C D E F:α→β→Prop}
theorem Ξ21(h:∃x y,A x y)(k:∀x y,A x y→r):r:=h.elim λx h=>Ξ11 h (k x)
theorem Ξ22(h:∃x y,A x y∧B x y)(k:∀x y,A x y→B x y→r):r:=Ξ21 h λx y h=>Ξ02 h (k x y)
theorem Ξ23(h:∃x y,A x y∧B x y∧C x y)(k:∀x y,A x y→B x y→C x y→r):r:=Ξ21 h λx y h=>Ξ03 h (k x y)
theorem Ξ24(h:∃x y,A x y∧B x y∧C x y∧D x y)(k:∀x y,A x y→B x y→C x y→D x y→r):r:=Ξ21 h λx y h=>Ξ04 h (k x y)
theorem Ξ25(h:∃x y,A x y∧B x y∧C x y∧D x y∧E x y)(k:∀x y,A x y→B x y→C x y→D x y→E x y→r):r:=Ξ21 h λx y h=>Ξ05 h (k x y)
theorem Ξ26(h:∃x y,A x y∧B x y∧C x y∧D x y∧E x y∧F x y)(k:∀x y,A x y→B x y→C x y→D x y→E x y→F x y→r):r:=Ξ21 h λx y h=>Ξ06 h (k x y)
end
section
variable{A B C D E F G H:α→β→γ→Prop}
theorem Ξ31(h:∃x y z,A x y z)(k:∀x y z,A x y z→r):r:=h.elim λx h=>Ξ21 h (k x)
theorem Ξ32(h:∃x y z,A x y z∧B x y z)(k:∀x y z,A x y z→B x y z→r):r:=Ξ31 h λx y z h=>Ξ02 h (k x y z)
theorem Ξ33(h:∃x y z,A x y z∧B x y z∧C x y z)(k:∀x y z,A x y z→B x y z→C x y z→r):r:=Ξ31 h λx y z h=>Ξ03 h (k x y z)
theorem Ξ34(h:∃x y z,A x y z∧B x y z∧C x y z∧D x y z)(k:∀x y z,A x y z→B x y z→C x y z→D x y z→r):r:=Ξ31 h λx y z h=>Ξ04 h (k x y z)
theorem Ξ35(h:∃x y z,A x y z∧B x y z∧C x y z∧D x y z∧E x y z)(k:∀x y z,A x y z→B x y z→C x y z→D x y z→E x y z→r):r:=Ξ31 h λx y z h=>Ξ05 h (k x y z)
theorem Ξ38(h:∃x y z,A x y z∧B x y z∧C x y z∧D x y z∧E x y z∧F x y z∧G x y z∧H x y z)(k:∀x y z,A x y z→B x y z→C x y z→D x y z→E x y z→F x y z→G x y z→H x y z→r):r:=Ξ31 h λx y z h=>Ξ08 h (k x y z)
end
section
variable{A B C D E F G H:α→β→γ→δ→Prop}
theorem Ξ41(h:∃x y z w,A x y z w)(k:∀x y z w,A x y z w→r):r:=h.elim λx h=>Ξ31 h (k x)
theorem Ξ42(h:∃x y z w,A x y z w∧B x y z w)(k:∀x y z w,A x y z w→B x y z w→r):r:=Ξ41 h λx y z w h=>Ξ02 h (k x y z w)
theorem Ξ44(h:∃x y z w,A x y z w∧B x y z w∧C x y z w∧D x y z w)(k:∀x y z w,A x y z w→B x y z w→C x y z w→D x y z w→r):r:=Ξ41 h λx y z w h=>Ξ04 h (k x y z w)
theorem Ξ45(h:∃x y z w,A x y z w∧B x y z w∧C x y z w∧D x y z w∧E x y z w)(k:∀x y z w,A x y z w→B x y z w→C x y z w→D x y z w→E x y z w→r):r:=Ξ41 h λx y z w h=>Ξ05 h (k x y z w)
theorem Ξ46(h:∃x y z w,A x y z w∧B x y z w∧C x y z w∧D x y z w∧E x y z w∧F x y z w)(k:∀x y z w,A x y z w→B x y z w→C x y z w→D x y z w→E x y z w→F x y z w→r):r:=Ξ41 h λx y z w h=>Ξ06 h (k x y z w)
theorem Ξ48(h:∃x y z w,A x y z w∧B x y z w∧C x y z w∧D x y z w∧E x y z w∧F x y z w∧G x y z w∧H x y z w)(k:∀x y z w,A x y z w→B x y z w→C x y z w→D x y z w→E x y z w→F x y z w→G x y z w→H x y z w→r):r:=Ξ41 h λx y z w h=>Ξ08 h (k x y z w)
end
section
variable{A B C D E F G H:α→β→γ→δ→ε→Prop}
theorem Ξ51(h:∃x y z w u,A x y z w u)(k:∀x y z w u,A x y z w u→r):r:=h.elim λx h=>Ξ41 h (k x)
theorem Ξ52(h:∃x y z w u,A x y z w u∧B x y z w u)(k:∀x y z w u,A x y z w u→B x y z w u→r):r:=Ξ51 h λx y z w u h=>Ξ02 h (k x y z w u)
theorem Ξ55(h:∃x y z w u,A x y z w u∧B x y z w u∧C x y z w u∧D x y z w u∧E x y z w u)(k:∀x y z w u,A x y z w u→B x y z w u→C x y z w u→D x y z w u→E x y z w u→r):r:=Ξ51 h λx y z w u h=>Ξ05 h (k x y z w u)
theorem Ξ56(h:∃x y z w u,A x y z w u∧B x y z w u∧C x y z w u∧D x y z w u∧E x y z w u∧F x y z w u)(k:∀x y z w u,A x y z w u→B x y z w u→C x y z w u→D x y z w u→E x y z w u→F x y z w u→r):r:=Ξ51 h λx y z w u h=>Ξ06 h (k x y z w u)
theorem Ξ57(h:∃x y z w u,A x y z w u∧B x y z w u∧C x y z w u∧D x y z w u∧E x y z w u∧F x y z w u∧G x y z w u)(k:∀x y z w u,A x y z w u→B x y z w u→C x y z w u→D x y z w u→E x y z w u→F x y z w u→G x y z w u→r):r:=Ξ51 h λx y z w u h=>Ξ07 h (k x y z w u)
theorem Ξ58(h:∃x y z w u,A x y z w u∧B x y z w u∧C x y z w u∧D x y z w u∧E x y z w u∧F x y z w u∧G x y z w u∧H x y z w u)(k:∀x y z w u,A x y z w u→B x y z w u→C x y z w u→D x y z w u→E x y z w u→F x y z w u→G x y z w u→H x y z w u→r):r:=Ξ51 h λx y z w u h=>Ξ08 h (k x y z w u)
end
section
variable{A:α→β→γ→δ→ε→η→Prop}
theorem Ξ61(h:∃x y z w u v,A x y z w u v)(k:∀x y z w u v,A x y z w u v→r):r:=h.elim λx h=>Ξ51 h (k x)
end
section
variable{A B C D E F G:α→β→γ→δ→ε→η→ι→Prop}
theorem Ξ71(h:∃x y z w u v s,A x y z w u v s)(k:∀x y z w u v s,A x y z w u v s→r):r:=h.elim λx h=>Ξ61 h (k x)
theorem Ξ77(h:∃x y z w u v s,A x y z w u v s∧B x y z w u v s∧C x y z w u v s∧D x y z w u v s∧E x y z w u v s∧F x y z w u v s∧G x y z w u v s)(k:∀x y z w u v s,A x y z w u v s→B x y z w u v s→C x y z w u v s→D x y z w u v s→E x y z w u v s→F x y z w u v s→G x y z w u v s→r):r:=Ξ71 h λx y z w u v s h=>Ξ07 h (k x y z w u v s)
end
section
variable{A:α→β→γ→δ→ε→η→ι→κ→Prop}
theorem Ξ81(h:∃x y z w u v s t,A x y z w u v s t)(k:∀x y z w u v s t,A x y z w u v s t→r):r:=h.elim λx h=>Ξ71 h (k x)
end
section
variable{A:α→β→γ→δ→ε→η→ι→κ→μ→Prop}
theorem Ξ91(h:∃x y z w u v s t p,A x y z w u v s t p)(k:∀x y z w u v s t p,A x y z w u v s t p→r):r:=h.elim λx h=>Ξ81 h (k x)
end
theorem Ψ2{P:α→β→Prop}(x:α)(y:β)(h:P x y):∃x y,P x y:=⟨x,y,h⟩
theorem Ψ3{P:α→β→γ→Prop}(x:α)(y:β)(z:γ)(h:P x y z):∃x y z,P x y z:=⟨x,y,z,h⟩
theorem Ψ4{P:α→β→γ→δ→Prop}(x:α)(y:β)(z:γ)(w:δ)(h:P x y z w):∃x y z w,P x y z w:=⟨x,y,z,w,h⟩
theorem Ψ5{P:α→β→γ→δ→ε→Prop}(x:α)(y:β)(z:γ)(w:δ)(u:ε)(h:P x y z w u):∃x y z w u,P x y z w u:=⟨x,y,z,w,u,h⟩
theorem Ψ6{P:α→β→γ→δ→ε→η→Prop}(x:α)(y:β)(z:γ)(w:δ)(u:ε)(v:η)(h:P x y z w u v):∃x y z w u v,P x y z w u v:=⟨x,y,z,w,u,v,h⟩
theorem Ψ7{P:α→β→γ→δ→ε→η→ι→Prop}(x:α)(y:β)(z:γ)(w:δ)(u:ε)(v:η)(s:ι)(h:P x y z w u v s):∃x y z w u v s,P x y z w u v s:=⟨x,y,z,w,u,v,s,h⟩
theorem Ψ8{P:α→β→γ→δ→ε→η→ι→κ→Prop}(x:α)(y:β)(z:γ)(w:δ)(u:ε)(v:η)(s:ι)(t:κ)(h:P x y z w u v s t):∃x y z w u v s t,P x y z w u v s t:=⟨x,y,z,w,u,v,s,t,h⟩
theorem Ψ9{P:α→β→γ→δ→ε→η→ι→κ→μ→Prop}(x:α)(y:β)(z:γ)(w:δ)(u:ε)(v:η)(s:ι)(t:κ)(p:μ)(h:P x y z w u v s t p):∃x y z w u v s t p,P x y z w u v s t p:=⟨x,y,z,w,u,v,s,t,p,h⟩
end
open Lean in
local macro_rules
|`(tactic|let ⟨$ps,*⟩:=$h)=>do
 let mut b:Array Term:=#[];let mut t←`(tactic|skip)
 for p in ps.getElems do
  if p.raw.isOfKind ``Parser.Term.anonymousCtor||p.raw.getId==`rfl then
   let z←withFreshMacroScope `(z);b:=b.push z
   if p.raw.isIdent then t←`(tactic|($t;subst $z:term))else t←`(tactic|($t;let $p:term:=$z))
  else b:=b.push p
 unless b.any (·.raw.getId==h.raw.getId)||!h.raw.isIdent do t←`(tactic|((try clear $(⟨h⟩));$t))
 let mut a←`(tactic|fail)
 let g(n m:Nat):=mkIdent (.mkSimple s!"Ξ{n}{m}")
 for i in [0:b.size]do
  let m:=b.size-i
  if m*i==0||m==1||[(1,2),(1,3),(1,4),(1,5),(2,2),(2,3),(2,4),(2,5),(2,6),(3,2),(3,3),(3,4),(3,5),(3,8),(4,2),(4,4),(4,5),(4,6),(4,8),(5,2),(5,5),(5,6),(5,7),(5,8),(7,7)].contains (i,m)then a←`(tactic|first|refine $(g i m) $h fun $b* =>?_|$a:tactic)
  else a←`(tactic|first|(refine $(g i 1) $h fun $(b[:i])* z=>$(g 0 m) z fun $(b[i:])* =>?_;clear z)|$a:tactic)
 `(tactic|($a;$t))
|`(tactic|intro $ps*)=>do
 unless ps.any fun p=>p.raw.isOfKind ``Parser.Term.anonymousCtor||p.raw.getId==`rfl do Macro.throwUnsupported
 let mut t←`(tactic|skip)
 for p in ps do
  if p.raw.isOfKind ``Parser.Term.anonymousCtor then t←`(tactic|($t;intro z;let $p:term:=z))
  else if p.raw.getId==`rfl then t←`(tactic|($t;intro z;subst z))
  else t←`(tactic|($t;intro $p:term))
 return t
|`(tactic|show $e)=>`(tactic|first|refine $e|change $e)
|`($m:declModifiers def $i $b* :$t $v:declVal)=>do if m.raw.getArgs.any (·.getNumArgs != 0)then Macro.throwUnsupported else`($m:declModifiers theorem $i $b* :$t $v:declVal)
|`($_:declModifiers abbrev $i $b* :$t $v:declVal)=>`(noncomputable def $i $b* :$t $v:declVal)
|`(tactic|let $d:letDecl)=>`(tactic|have $d:letDecl)
noncomputable section
open PySem in abbrev xz:=Value→Shared→Prop
open PySem in abbrev KK:=Str→Option Value
open PySem in abbrev ac:=List (Addr×Obj)
def AE:=@PySem.wpAny_bind
def Ag:=@List.length_map
def B9:=@PySem.Heap.get?_push_of_some
def B3:=@List.length_append
def Au:=@List.map_append
def aaf:=@List.mem_cons
def Af:=@PySem.wpAny_pure
def BD:=@PySem.boot_len
def Av:=@Nat.le_refl
def BE:=@decide_eq_true
def Bd:=@of_decide_eq_true
def Bf:=@List.size_toArray
def aam:=@List.mem_singleton
def D0:=@List.getElem?_eq_getElem
def Bg:=@List.append_nil
def aap:=@List.mem_map
def D2:=@List.mem_append_right
def BM:=@Bool.true_and
def BF:=@PySem.Heap.lt_size
def CD:=@List.not_mem_nil
def Cf:=@Bool.false_ne_true
def CA:=@decide_eq_false
def D3:=@Nat.lt_of_le_of_lt
def DP:=@PySem.Heap.get?_push_size
def Dm:=@List.mem_cons_of_mem
def DC:=@of_decide_eq_false
def Cq:=@Bool.and_eq_true
def DQ:=@Nat.add_le_add_left
def Bm:=@Nat.ne_of_lt
def Bu:=@Nat.le_of_lt
def CZ:=@Bool.false_and
def AV:=@if_neg
def D7:=@List.length_cons
def Dj:=@Int.emod_lt_of_pos
def Aa:=@if_pos
def CT:=@List.map_cons
def aaK:=@List.mem_append
def EE:=@Nat.lt_of_lt_of_le
def DN:=@Int.emod_nonneg
def CE:=@Nat.le_succ
def Ci:=@Nat.le_trans
def Bt:=@PySem.wpAny_mono
def FY:=@PyProof.Rows.boot_all
def EH:=@List.length_take
def ET:=@List.length_drop
def G5:=@PySem.F.plainAttrs_list
def HZ:=@List.getD_eq_getElem?_getD
def aaV:=@PyProof.Rows.slot_tuple_getitem
def aaW:=@List.all_eq_true
def ED:=@PySem.W.mg_of
def Er:=@Bool.and_false
def Fc:=@Nat.le_succ_of_le
def aa0:=@beq_eq_false_iff_ne
def FE:=@Option.some.inj
def F8:=@List.cons.injEq
def IS:=@PySem.F.type_list_append
def Ia:=@PySem.F.slot_list_append
def Dd:=@PySem.sizeLine_eq
def F4:=@List.all_cons
def GP:=@PySem.wpAny_newObj_type
def GJ:=@List.getElem_mem
def aa9:=@List.nodup_append
def aba:=@List.getElem?_eq_some_iff
def IT:=@List.mem_of_getElem?
def J2:=@PySem.F.slot_dict_get
def FJ:=@List.map_map
def GO:=@Bool.eq_iff_iff
def He:=@List.getElem?_map
def Hr:=@PySem.wpAny_truthy_bool
def F5:=@PySem.wpAny_field
def DH:=@or_false
def abj:=@decide_eq_decide
def HA:=@List.lookup_cons
def FI:=@Nat.zero_le
def Ig:=@Array.length_toList
def IX:=@decide_eq_true_eq
def Gh:=@PySem.PassesOwn.never
def FZ:=@List.all_map
def G6:=@PySem.Heap.size_push
def Hp:=@PySem.W.kia_one
def Il:=@List.mem_cons_self
def Hf:=@List.find?_cons
def abv:=@List.any_eq_true
def K3:=@PySem.wpAny_callSpecial?_slot
def Iz:=@Nat.lt_succ_of_lt
def GD:=@List.map_nil
def K6:=@List.mem_append_left
def LM:=@PySem.wpAny_comprehension_free
def Jh:=@PySem.wpAny_Call_Name_kw
def abC:=@List.mem_range
def MP:=@PyProof.Rows.callWith_type1
def EJ:=@congrArg
def Hc:=@PySem.wpAny_holding
def IW:=@PySem.wpAny_seqItems
def JT:=@Nat.lt_succ_self
def JM:=@List.drop_length
def IQ:=@Nat.lt_irrefl
def L9:=@List.length_singleton
def K0:=@List.filter_append
def JW:=@PySem.wpAny_call_entry
def Lh:=@List.mem_of_mem_drop
def IK:=@PySem.wpAny_standAt
def K5:=@PySem.tupleKind_room_in1
def abQ:=@List.mem_filter
def FH:=@and_true
def Mo:=@PySem.F.plainAttrs_dict
def Mp:=@PySem.F.entry_dict_get
def MB:=@List.take_of_length_le
def abV:=@List.mem_filterMap
def Lo:=@PyProof.Rows.boot_max
def Jx:=@Nat.not_lt_zero
def abY:=@List.nodup_cons
def abZ:=@beq_iff_eq
def Ld:=@Option.isSome_map
def Jg:=@List.any_cons
def L0:=@PySem.wpAny_pyIter_tuple
def MU:=@List.mem_of_mem_take
def K8:=@PySem.wpAny_passesOwn
def Na:=@List.getElem?_append_left
def LU:=@Nat.succ_le_succ
def Mg:=@PySem.mem_of_lookup
def Lx:=@List.length_reverse
def Mr:=@List.filterMap_cons
def Q7:=@PySem.F.slot_tuple_iterator_next
def MG:=@PySem.wpAny_newFunctionEnv
def MA:=@PySem.W.callWith_K
def Mx:=@List.getElem?_cons_succ
def Np:=@PySem.F.plainAttrs_str
def acg:=@List.filter_eq_nil_iff
def Oi:=@PySem.AutoSeq1.wpAny_loadPart'
def ON:=@PySem.F.type_dict_get
def NK:=@List.getElem?_toArray
def QT:=@List.eq_nil_of_length_eq_zero
def LL:=@Bool.and_true
def GF:=@Ne.symm
def Me:=@List.all_append
def Rc:=@PySem.F.excBase_ValueError
def QJ:=@Nat.eq_zero_or_pos
def TS:=@PySem.F.args_tuple_add_2
def QG:=@List.reverse_cons
def OY:=@List.length_range
def ND:=@List.append_assoc
def TO:=@PySem.F.entry_tuple_add
def Rh:=@PySem.F.args_dict_get_2
def Rw:=@List.filter_cons_of_pos
def Rv:=@List.filter_cons_of_neg
def Lc:=@PySem.call_meetsIn
def Nk:=@beq_self_eq_true
def Nx:=@Nat.min_eq_right
def VZ:=@PySem.F.slot_tuple_add
def acE:=@Option.map_eq_some_iff
def Oa:=@PySem.wpAny_setState_of
def O5:=@PySem.wpAny_pyIter_list
def Qn:=@PySem.F.type_str_join
def Su:=@PySem.F.type_list_pop
def Qd:=@PySem.F.slot_str_join
def U2:=@PySem.F.slot_list_pop
def R5:=@PyProof.Rows.boot_min
def M2:=@Nat.ne_of_gt
def Ph:=@Nat.min_eq_left
def QA:=@List.of_mem_zip
def NT:=@List.forIn_cons
def Nu:=@Bool.or_eq_true
def V6:=@Array.getElem?_toList
def R6:=@Nat.pow_le_pow_right
def O1:=@List.forIn_nil
def QR:=@Bool.and_assoc
def JB:=@if_true
def M3:=@Sum.inr.inj
def TA:=@PySem.W.plainGet_of
def Ql:=@PySem.Calls.callWith_builtin
def MY:=@PySem.wpAny_typeOf
def Pn:=@PySem.wpAny_execs_nil
def Mb:=@PySem.codeAny_mono
def RY:=@List.zip_cons_cons
def RC:=@List.filterMap_map
def Ny:=@PySem.F.slot_zip_next
def Kn:=@PySem.wpAny_rule
def Ky:=@PySem.wpAny_Name
def LO:=@PySem.typeIs_str
def Um:=@PySem.wpAny_updateSeq_pair
def Ru:=@PySem.wpAny_loadName_local
def fZ:=@List.eraseIdx_eq_take_drop_succ
def YU:=@List.eraseIdxIfInBounds_toArray
def TL:=@Int.toNat_natCast
def Rf:=@PySem.Calls.evalArgs_plain
def QI:=@Int.ediv_one
def U3:=@PySem.wpAny_loadName_cell
def TN:=@Nat.succ_ne_self
def To:=@PySem.Heap.SameBut.update
def Lf:=@if_false
def h8:=@PySem.F.slot_dict_setdefault
def Nj:=@PySem.wpAny_onRaise
def QS:=@PySem.Paired.length
def VY:=@List.range_succ
def S6:=@List.foldl_cons
def fJ:=@List.getElem?_append_right
def Sv:=@PySem.wpAny_sequenceKey
def adt:=@PySem.F.slot_dict_getitem
def Se:=@List.take_zero
def VM:=@List.nodup_nil
def V7:=@List.drop_zero
def Pu:=@PySem.codeAny_loop
def bD:=@PyProof.noPylong_of_log2
def adA:=@Option.isSome_iff_exists
def N6:=@PyProof.Rows.slicePart_none
def U9:=@PySem.noFill_tuple_add
def gE:=@PySem.F.args_dict_get_3
def Qw:=@List.take_nil
def cf:=@List.getElem?_replicate
def VP:=@Bool.or_false
def UY:=@Bool.false_or
set_option Elab.async false
set_option linter.all false
set_option maxRecDepth 100000
set_option maxHeartbeats 1000000
set_option maxHeartbeats 4000000
local macro_rules|`(tactic|done)=>`(tactic|decide +kernel)
local macro_rules|`(term|nofun)=>`(term|⟨rfl,rfl,rfl,by decide +kernel,rfl,by decide +kernel,by decide +kernel⟩)
namespace L2
open PySem PySem.Spec PyProof.Rows
variable {xs vs:List V}{us:List Value}{x qual:Str}{u:Value}{H:AA}{a b it C:Addr}{o:HO}{P:Program}{w:World}{h base:Heap}{g':Array GenState}{t' i j k n:Nat}{d':Drawn}{ch fp:List Addr}{e c tg l:Expr}{N ps:List Str}{M:Model}{A:Around}{E Q:xz}{v y:V}{s' s:Shared}{X: Cx}{t: CY}{pos p: Pos}{v4:ac}{σ:St}{K:W.Frag}{f:Value→Value→Sem Value}{tc:Cr}{es: List Expr}{te tl:Al}{g:Int→Int→Int}{pos':Pos}{body:List Stmt}{tb ta: Al}{H': AA}{pl:Sem Bool}{r r':E2}{BW:CmpOp}{dx: Addr}{mA mg:KK}{kw:List (Str×Value)}{CX:HE}{fd:FuncData}{sp:EI}{outer:List Env}{kindOf:Str→Option NameKind}{scope:Scope}{h': Heap}
abbrev AI:=Sum Int Str
abbrev LA:AI→Value→Bool
 |.inl k,v=>Value.isInt k v
 |.inr x,v=>Value.isStrOf x v
abbrev xR(w:World):AI→Int
 |.inl k=>hashInt k
 |.inr x=>hashStr w x
def IP:∀{k:AI} {v:Value},LA k v=true→(∃i t,k=Sum.inl i∧v=Value.int i t)∨(∃x t,k=Sum.inr x∧v=Value.str x t)
 |.inl i,v,h=>by
  let⟨t,e⟩:=Value.isInt_shape (k:=i) (v:=v) h;show .inl ⟨i,t,rfl,e⟩
 |.inr x,v,h=>by
  let⟨t,e⟩:=Value.isStrOf_shape (x:=x) (v:=v) h;show .inr ⟨x,t,rfl,e⟩
def acH(i:Int)(t:Tok):LA (.inl i) (.int i t)=true:=by simp[LA,Value.isInt]
def pV(x:Str)(t:Tok):LA (.inr x) (.str x t)=true:=by simp[LA,Value.isStrOf]
def zi(a b:Int):decide ((Sum.inl a:AI)=Sum.inl b)=(a==b):=by
 by_cases e:a=b
 ·subst e;simp
 ·let h:¬(Sum.inl a:AI)=Sum.inl b:=λq=>e (Sum.inl.inj q)
  rw[CA h];show(aa0.mpr e).symm
def xq(a b:Str):decide ((Sum.inr a:AI)=Sum.inr b)=decide (a=b):=by
 by_cases e:a=b
 ·subst e;simp
 ·let h:¬(Sum.inr a:AI)=Sum.inr b:=λq=>e (M3 q)
  rw[CA h,CA e]
def mr(a:Int)(b:Str):decide ((Sum.inl a:AI)=Sum.inr b)=false:=CA (λq=>nomatch q)
def t5(a:Str)(b:Int):decide ((Sum.inr a:AI)=Sum.inl b)=false:=CA (λq=>nomatch q)
abbrev Ai(prog:Program)(w:World):PySem.KeyKind prog w AI where
 is:=LA
 hash:=xR w
 inj:=λv a b ha hb=>by
  rcases IP ha with⟨i,t,rfl,rfl⟩|⟨x,t,rfl,rfl⟩
  ·rcases IP hb with⟨j,u,rfl,e⟩|⟨y,u,rfl,e⟩
   ·injection e with e1 _;rw[e1]
   ·show nomatch e
  ·rcases IP hb with⟨j,u,rfl,e⟩|⟨y,u,rfl,e⟩
   ·show nomatch e
   ·injection e with e1 _;rw[e1]
 byValue:=λk v h=>by
  rcases IP h with⟨i,t,rfl,rfl⟩|⟨x,t,rfl,rfl⟩<;>rfl
 pyHash:=λhv h=>by
  rcases IP hv with⟨i,t,rfl,rfl⟩|⟨x,t,rfl,rfl⟩
  ·show wpAny_pyHash_int h
  ·show wpAny_pyHash_str h
 eqBool:=λhu hv h=>by
  rcases IP hu with⟨i,t,rfl,rfl⟩|⟨x,t,rfl,rfl⟩
  ·rcases IP hv with⟨j,u,rfl,rfl⟩|⟨y,u,rfl,rfl⟩
   ·rw[zi]at h;show wpAny_eqBool_int h
   ·rw[mr]at h;show SeqAt.EqAt.int_str i t y u _ _ _ _ h
  ·rcases IP hv with⟨j,u,rfl,rfl⟩|⟨y,u,rfl,rfl⟩
   ·rw[t5]at h;show SeqAt.EqAt.str_int x t j u _ _ _ _ h
   ·rw[xq]at h;show wpAny_eqBool_str h
 «strs»:=λk x t v h=>by
  rcases IP h with⟨i,u,rfl,e⟩|⟨y,u,rfl,e⟩
  ·show nomatch e
  ·injection e with e1 _
   subst e1;cases v<;>rfl
def zX(prog:Program)(w:World)(i:Int)(t:Tok):(Ai prog w).is (.inl i) (.int i t)=true:=acH i t
def Rm(prog:Program)(w:World)(x:Str)(t:Tok):(Ai prog w).is (.inr x) (.str x t)=true:=pV x t
inductive V where
 |non|bl (b:Bool)|int (i:Int)|str (x:Str)|byt (b:Array UInt8)|flt (b:UInt64)|ref (a:Addr)|ty (n:String)
 deriving DecidableEq
abbrev RelV:V→Value→Prop
 |.non,u=>u=Value.none
 |.bl b,u=>u=Value.bool b
 |.int i,u=>∃t,u=Value.int i t
 |.str x,u=>∃t,u=Value.str x t
 |.byt b,u=>∃t,u=Value.bytes b t
 |.flt b,u=>∃t,u=Value.float b t
 |.ref a,u=>u=Value.ref a
 |.ty n,u=>u=Value.type n
@[reducible]def Vals:List V→List Value→Prop:=Paired RelV
def Vals.length(r:Vals xs us):xs.length=us.length:=QS r
def Vals.get:∀{xs:List V} {us:List Value} {i:Nat} {x:V},Vals xs us→xs[i]?=some x→∃u,us[i]?=some u∧RelV x u
 |_,_,_,_,.nil,e=>by simp at e
 |_,_,0,_,.cons r _,e=>by simp at e;subst e;show⟨_,rfl,r⟩
 |_,_,i+1,x,.cons _ t,e=>by
  let⟨u,h1,h2⟩:=Vals.get (i:=i) (x:=x) t (by simpa using e);show⟨u,by simpa using h1,h2⟩
def Vals.set{x:V}(r:RelV x u):∀{xs:List V} {us:List Value} (i:Nat),Vals xs us→Vals (xs.set i x) (us.set i u)
 |_,_,_,.nil=>.nil
 |_,_,0,.cons _ t=>.cons r t
 |_,_,i+1,.cons q t=>.cons q (Vals.set r i t)
def Vals.append:∀{xs ys:List V} {us ws:List Value},Vals xs us→Vals ys ws→Vals (xs++ys) (us++ws)
 |_,_,_,_,.nil,s=>s
 |_,_,_,_,.cons r t,s=>.cons r (Vals.append t s)
def Vals.take:∀{xs:List V} {us:List Value} (n:Nat),Vals xs us→Vals (xs.take n) (us.take n)
 |_,_,0,_=>.nil
 |_,_,_+1,.nil=>.nil
 |_,_,n+1,.cons r t=>.cons r (Vals.take n t)
def Vals.drop:∀{xs:List V} {us:List Value} (n:Nat),Vals xs us→Vals (xs.drop n) (us.drop n)
 |_,_,0,r=>r
 |_,_,_+1,.nil=>.nil
 |_,_,n+1,.cons _ t=>Vals.drop n t
abbrev lH:Option V→Option Value→Prop
 |some v,some u=>RelV v u
 |none,none=>True
 |_,_=>False
abbrev KV{κ:Type}:List (κ×V)→List (κ×Value)→Prop:=Paired λ(p:κ×V) (q:κ×Value)=>p.1=q.1∧RelV p.2 q.2
abbrev BV:AI→V
 |.inl i=>.int i
 |.inr x=>.str x
inductive HO where
 /-- a list -/
 |lst (xs:List V)
 /-- a tuple (never changes) -/
 |tup (xs:List V)
 /-- a dict PX keys are ints and texts;one PX keys are tuples of ints and texts (Bx empty one is both) -/
 |dK (aF:List (AI×V))|dT (aF:List (List AI×V))
 /-- a set of ints: aV members,aV size -/
 |set (S:Int→Bool) (n:Nat)
 /-- an instance of Bx class at C,aV dict at dx,aV attributes -/
 |ins (C dx:Addr) (fs:List (Str×V))
 /-- Bx dict of Bx instance at x -/
 |own (x:Addr)
 /-- Bx dict of an exception -/
 |xd (fs:List (Str×V))
 /-- a bound method,f of x -/
 |met (f x:Addr)
 /-- a range object lo,lo+1,.. below hi -/
 |rng (lo hi:Int)
 /-- a P9 Qa is known to Bx object (Bx Ae;a dict while a loop walks it): read,never written while it is so -/
 |frz (o:Obj) (u:HO)
 /-- a code R4 table -/
 |tbl (ps:Array Value)
 /-- any other P9,by Vi is true of aV one object (a def of YK own: SetO a S n:=HO.ext λh=>..) -/
 |ext (φ:Heap→Prop)
abbrev AA:=Addr→Option HO
abbrev Ac(H:AA)(a:Addr)(o:HO):AA:=λb=>if b=a then some o else H b
def Bz:Ac H a o a=some o:=by unfold Ac;rw[Aa rfl]
def BC(h:b≠a):Ac H a o b=H b:=by unfold Ac;rw[AV h]
def aab{u:HO}(h:H a=some o)(h':H b=some u)(d:o≠u):a≠b:=by
 intro e;subst e;rw[h]at h';show d (FE h')
def Ga(h:H a=some o)(h':H b=none):a≠b:=by
 intro e;subst e;rw[h]at h';cases h'
section
variable (P: Program)(w: World)
abbrev cA(H:AA)(h:Heap)(a:Addr):HO→Prop
 |.lst xs=>xs.length≤sizeLine∧∃(aV:List Value) (n:Nat),Vals xs aV∧h.get? a=some {cls:=.type "list",data:=.seq aV.toArray n}
 |.tup xs=>xs.length≤sizeLine∧∃aV:List Value,Vals xs aV∧IsTup h a aV.toArray
 |.dK aF=>aF.length≤sizeLine∧(a==sysModules)=false∧∃vs,KV aF vs∧h.DictOf (Ai P w) a vs
 |.dT aF=>aF.length≤sizeLine∧(a==sysModules)=false∧∃xs:List (List AI×Addr×Value),
   Paired (λ(p:List AI×V) (q:List AI×Addr×Value)=>p.1=q.1∧H q.2.1=some (.tup (p.1.map BV))∧RelV p.2 q.2.2) aF xs∧
   ∃o es ep,h.get? a=some o∧o.ExactDict∧o.data=.dict es ep∧es.toList=xs.map (entryOfKey (tupleKind (Ai P w)))∧(xs.map (·.1)).Nodup
 |.set S n=>h.SetOf (intKind P w) a S n
 |.ins C dx fs=>H dx=some (.own a)∧fs.length≤1000∧dx≠a∧h.get? a=some (W.instObj C dx)∧
   ∃mA,h.Ns1 dx mA∧(∀f,lH (fs.lookup f) (mA f))∧PySem.Within mA (fs.map (·.1))
 |.own _=>∃o,h.get? a=some o
 |.xd fs=>∃mA,h.Ns1 a mA∧∀f,lH (fs.lookup f) (mA f)
 |.rng lo hi=>∃t u v,h.get? a=some {cls:=.type "range",data:=.fields #[.int lo t,.int hi u,.int 1 v]}
 |.frz o u=>h.get? a=some o∧cA H h a u
 |.tbl ps=>h.get? a=some {cls:=.none,data:=.fields ps}
 |.met f x=>h.get? a=some (W.methodObj (.ref f) (.ref x))
 |.ext φ=>φ h∧(∃o,h.get? a=some o)∧∀h1 h2:Heap,φ h1→(∀o,h1.get? a=some o→h2.get? a=some o)→φ h2
abbrev oM(H:AA)(h:Heap):Prop:=∀a o,H a=some o→cA P w H h a o
end
section
variable {P: Program}{w: World}{H: AA}{h: Heap}{a: Addr}{o: HO}
def cA.lt(x:cA P w H h a o):a<h.objs.size:=by
 cases o with
 |lst xs=>let⟨_,⟨_,_,_,e⟩⟩:=x;show BF e
 |tup xs=>let⟨_,⟨_,_,p⟩⟩:=x;show p.lt
 |dK aF=>let⟨_,_,⟨_,_,⟨o,_,_,e,_⟩⟩⟩:=x;show BF e
 |dT aF=>let⟨_,_,⟨_,_,⟨o,_,_,e,_⟩⟩⟩:=x;show BF e
 |set S n=>let⟨o,_,_,_,e,_⟩:=x;show BF e
 |ins C dx fs=>let⟨_,_,_,e,_⟩:=x;show BF e
 |own y=>let⟨_,e⟩:=x;show BF e
 |xd fs=>let⟨_,⟨_,_,_,e,_⟩,_⟩:=x;show BF e
 |rng lo hi=>let⟨_,_,_,e⟩:=x;show BF e
 |frz ob u=>let⟨e,_⟩:=x;show BF e
 |tbl ps=>show BF (show h.get? a=some _ from x)
 |met f y=>show BF (show h.get? a=some _ from x)
 |ext φ=>let⟨_,⟨_,e⟩,_⟩:=x;show BF e
def Paired.N8{α β:Type}{F G:α→β→Prop}:∀{l₁:List α} {l₂:List β},Paired F l₁ l₂→(∀a b,F a b→G a b)→Paired G l₁ l₂
 |_,_,.nil,_=>.nil
 |_,_,.cons r t,f=>.cons (f _ _ r) (Paired.N8 t f)
def cA.uT(x:cA P w H h a o)(k:∀b u,(b=a∨H b=some (.own a))→h.get? b=some u→h'.get? b=some u)
  (ho:∀b,H b=some (.own a)→H' b=some (.own a)) (ht:∀b xs,H b=some (.tup xs)→H' b=some (.tup xs)):cA P w H' h' a o:=by
 induction o with
 |lst xs=>let⟨z,⟨aV,n,r,e⟩⟩:=x;show⟨z,aV,n,r,k _ _ (.inl rfl) e⟩
 |tup xs=>let⟨z,⟨aV,r,⟨ob,e,c⟩⟩⟩:=x;show⟨z,aV,r,ob,k _ _ (.inl rfl) e,c⟩
 |dK aF=>let⟨z,y,⟨vs,r,⟨ob,es,ep,e,c⟩⟩⟩:=x;show⟨z,y,vs,r,ob,es,ep,k _ _ (.inl rfl) e,c⟩
 |dT aF=>
  let⟨z,y,⟨xs,r,⟨ob,es,ep,e,c⟩⟩⟩:=x;show⟨z,y,xs,Paired.N8 r λp q z=>⟨z.1,ht _ _ z.2.1,z.2.2⟩,ob,es,ep,k _ _ (.inl rfl) e,c⟩
 |set S n=>let⟨ob,es,ep,t,e,c⟩:=x;show Ψ4 ob es ep t ⟨k _ _ (.inl rfl) e,c⟩
 |ins C dx fs=>
  let⟨d,z,ne,e,⟨mA,⟨od,es,ep,e2,c⟩,r⟩⟩:=x;show⟨ho _ d,z,ne,k _ _ (.inl rfl) e,mA,Ψ3 od es ep ⟨k _ _ (.inr d) e2,c⟩,r⟩
 |own y=>let⟨ob,e⟩:=x;show⟨ob,k _ _ (.inl rfl) e⟩
 |xd fs=>let⟨mA,⟨od,es,ep,e,c⟩,r⟩:=x;show⟨mA,Ψ3 od es ep ⟨k _ _ (.inl rfl) e,c⟩,r⟩
 |rng lo hi=>let⟨t,u,v,e⟩:=x;show Ψ3 t u v (k _ _ (.inl rfl) e)
 |frz ob u ih=>let⟨e,q⟩:=x;show⟨k _ _ (.inl rfl) e,ih q⟩
 |tbl ps=>
  let e:h.get? a=some {cls:=.none,data:=.fields ps}:=x;show h'.get? a=some {cls:=.none,data:=.fields ps}
  show k a _ (.inl rfl) e
 |met f y=>
  let e:h.get? a=some (W.methodObj (.ref f) (.ref y)):=x;show h'.get? a=some (W.methodObj (.ref f) (.ref y))
  show k a _ (.inl rfl) e
 |ext φ=>let⟨p,⟨o,e⟩,st⟩:=x;show⟨st _ _ p λo q=>k _ _ (.inl rfl) q,⟨o,k _ _ (.inl rfl) e⟩,st⟩
def oM.lt(x:oM P w H h)(e:H a=some o):a<h.objs.size:=(x a o e).lt
def oM.fresh(x:oM P w H h)(e:h.objs.size≤a):H a=none:=by
 cases q:H a with
 |none=>rfl
 |some u=>show absurd (EE (x.lt q) e) (IQ _)
def oM.kept(x:oM P w H h)(k:∀b u,h.get? b=some u→h'.get? b=some u):oM P w H h':=λa o e=>
 (x a o e).uT (λb u _ q=>k b u q) (λ_ q=>q) λ_ _ q=>q
def oM.laid(x:oM P w H h)(k:∀b u,h.get? b=some u→h'.get? b=some u)(hp:h.objs.size≤a)(new:cA P w (Ac H a o) h' a o):oM P w (Ac H a o) h':=λb u e=>by
 let hn:=x.fresh hp;by_cases hb:b=a
 ·subst hb;rw[Bz]at e;cases e;show new
 ·rw[BC hb]at e
  show(x b u e).uT (λc v _ q=>k c v q) (λc q=>by rw[BC (Ga q hn)];show q) λc xs q=>by rw[BC (Ga q hn)];show q
end
abbrev Rd(H:AA)(a:Addr)(u:HO):Prop:=H a=some u∨∃o,H a=some (.frz o u)
def Rd.ok{u:HO}(r:Rd H a u)(x:oM P w H h):cA P w H h a u:=by
 rcases r with r|⟨o,r⟩
 ·show x a u r
 ·let⟨_,q⟩:=x a _ r
  show q
abbrev Mu:Option HO→Prop
 |some (.lst _)=>True
 |some (.dK _)=>True
 |some (.dT _)=>True
 |some (.set _ _)=>True
 |some (.ins _ _ _)=>True
 |some (.ext _)=>True
 |_=>False
section
variable {P: Program}{w: World}{H: AA}{h: Heap}{x e: Addr}{o': HO}
def oM.write(ok:oM P w H h)(mu:Mu (H x))(he:e=x∨H e=some (.own x))(k:∀b u,b≠e→h.get? b=some u→h'.get? b=some u)(PB:∃u,h'.get? e=some u)
  (new:cA P w (Ac H x o') h' x o'):oM P w (Ac H x o') h':=λb u q=>by
 let R7:∀c y,H c=some (.own y)→c≠x:=λc y r z=>by subst z;rw[r]at mu;show mu
 let Wl:∀c xs,H c=some (.tup xs)→c≠x:=λc xs r z=>by subst z;rw[r]at mu;show mu
 by_cases hb:b=x
 ·subst hb;rw[Bz]at q;cases q;show new
 ·rw[BC hb]at q
  by_cases OI:b=e
  ·let q':H b=some (.own x):=by
    rcases he with z|z
    ·show absurd (OI.trans z) hb
    ·rw[OI];show z
   rw[q]at q';cases q';let⟨v,hv⟩:=PB;show⟨v,by rw[OI];show hv⟩
  ·show(ok b u q).uT (λc v hc r=>k c v ?_ r) (λc r=>by rw[BC (R7 c b r)];show r) λc xs r=>by rw[BC (Wl c xs r)];show r
   rcases hc with rfl|hc
   ·show OI
   ·rintro rfl
    rcases he with z|z
    ·show R7 c b hc z
    ·rw[hc]at z;cases z;show hb rfl
end
structure Un(fs ex:List Addr)(H H':AA)(h h':Heap):Prop where
 keep:∀b o,h.get? b=some o→H b=none→b∉fs→b∉ex→h'.get? b=some o
 slot:∀b o,h.get? b=some o→H b=none→b∈fs→b∉ex→∃sl,h'.get? b=some {o with slots:=sl}
 free:∀b o,h.get? b=some o→H b=none→b∉ex→H' b=none
 there:∀b o,h.get? b=some o→b∉ex→∃o',h'.get? b=some o'
 oQ:∀b xs,H b=some (.tup xs)→H' b=some (.tup xs)
 oI:∀b o u,H b=some (.frz o u)→H' b=some (.frz o u)
 oT:∀b ps,H b=some (.tbl ps)→∃more,H' b=some (.tbl (ps++more))
section
variable {fs ex: List Addr}{H H1: AA}{h h1: Heap}{a x e: Addr}{o: HO}
def Un.any(u:Un fs ex H H1 h h1){ob:Obj}(q:h.get? b=some ob)(n:H b=none)(hx:b∉ex):∃sl,h1.get? b=some {ob with slots:=sl}:=by
 by_cases hb:b∈fs
 ·show u.slot b ob q n hb hx
 ·show⟨ob.slots,u.keep b ob q n hb hx⟩
def Un.kept(k:∀b u,h.get? b=some u→h'.get? b=some u):Un fs ex H H h h':=
 ⟨λb ob q _ _ _=>k b ob q,λb ob q _ _ _=>⟨ob.slots,k b ob q⟩,λ_ _ _ n _=>n,λb ob q _=>⟨ob,k b ob q⟩,λ_ _ q=>q,λ_ _ _ q=>q,λ_ ps q=>⟨#[],by rw[q];simp⟩⟩
def Un.refl:Un fs ex H H h h:=Un.kept λ_ _ q=>q
def Un.laid(k:∀b u,h.get? b=some u→h'.get? b=some u)(hp:h.objs.size≤a)(hn:H a=none):Un fs ex H (Ac H a o) h h' where
 keep:=λb u q _ _ _=>k b u q
 slot:=λb u q _ _ _=>⟨u.slots,k b u q⟩
 free:=λb u q n _=>by rw[BC (Bm (EE (BF q) hp))];show n
 there:=λb u q _=>⟨u,k b u q⟩
 oQ:=λb xs q=>by rw[BC (Ga q hn)];show q
 oI:=λb u xs q=>by rw[BC (Ga q hn)];show q
 oT:=λb ps q=>⟨#[],by rw[BC (Ga q hn),q];simp⟩
def Un.write(mu:Mu (H x))(he:e=x∨H e=some (.own x))(k:∀b u,b≠e→h.get? b=some u→h'.get? b=some u)(PB:∃u,h'.get? e=some u):Un fs ex H (Ac H x o) h h':=by
 let hx:∀b,H b=none→b≠x:=λb n z=>by subst z;rw[n]at mu;show mu
 let hb:∀b,H b=none→b≠e:=λb n z=>by
  subst z;rcases he with r|r
  ·show hx b n r
  ·rw[n]at r;cases r
 let hm:∀b u,H b=some u→¬Mu (some u)→b≠x:=λb u q nm z=>by subst z;rw[q]at mu;show nm mu
 show⟨λb u q n _ _=>k b u (hb b n) q,λb u q n _ _=>⟨u.slots,k b u (hb b n) q⟩,λb u q n _=>by rw[BC (hx b n)];show n,λb u q _=>?_,
  λb xs q=>by rw[BC (hm b _ q λz=>z)];show q,λb u xs q=>by rw[BC (hm b _ q λz=>z)];show q,λb ps q=>⟨#[],by rw[BC (hm b _ q λz=>z),q];simp⟩⟩
 by_cases OI:b=e
 ·subst OI;show PB
 ·show⟨u,k b u OI q⟩
end
abbrev QK(h:Heap)(H:AA):List Addr:=(List.range h.objs.size).filter λa=>(H a).isSome
abbrev Ik(h:Heap)(H:AA):Heap:=W.hideAll h (QK h H)
def yu(h:Heap)(H:AA):(Ik h H).objs.size=h.objs.size:=W.hideAll_size _ _
def kn{o:Obj}(e:h.get? b=some o)(n:H b=none):(Ik h H).get? b=some o:=
 W.hideAll_get _ e λhm=>by
  let q:(H b).isSome=true:=(abQ.mp hm).2;rw[n]at q;simp at q
def rP{o:Obj}(e:(Ik h H).get? b=some o):h.get? b=some o∧H b=none:=by
 let e':h.get? b=some o:=W.of_hideAll (QK h H) e;show⟨e',?_⟩;cases q:H b with
 |none=>rfl
 |some x=>
  let hm:b∈QK h H:=abQ.mpr ⟨abC.mpr (BF e'),by simp[q]⟩;let z:(Ik h H).get? b=none:=W.hideAll_none (QK h H) hm;rw[z]at e;cases e
abbrev tO(g h:Heap)(L:Addr):ac:=(List.range h.objs.size).filterMap λa=>if a=L∨(g.get? a).isSome=true then none else(h.get? a).map λo=>(a,o)
abbrev v6(g h:Heap)(L d:Addr):ac:=(tO g h L).filter λp=>decide (p.1≠d)
structure Mod(K:W.Frag)(mg:KK)(base:Heap):Prop where
 LD:K.In base
 glob:base.Ns mainGlobals mg
 blt:∃mb,base.Ns builtinsNs mb∧∀x:Str,x ≠ "__name__" → mb x=bootBuiltins x
 nolimit:base.NoLimit
structure Cx where
 prog:Program
 w:World
 K:W.Frag
 mg:KK
 base:Heap
 A:Around
 N:List Str
 s₀:Shared
 H₀:AA
 env:Env
 outer:List Env
 stack:List Env
 ex:List Addr
 fn:Str→Bool
 calm:Bool
 pn:ac
 xe:xz
abbrev E4(l:List Env):List Addr:=l.filterMap (·.frame)
@[reducible]def Cx.fs(X:Cx):List Addr:=E4 X.outer
abbrev JL(sc:Scope)(x:Str):Prop:=sc.names.lookup x=some .local∨sc.names.lookup x=some .cell∨sc.names.lookup x=some .free
abbrev HD(sc:Scope)(x:Str):Prop:=sc.names.lookup x=some .local∨sc.names.lookup x=some .cell
@[reducible]def Fk(X:Cx)(x:Str):Prop:=X.fn x=true∨X.env.scope.names.lookup x=some .local
abbrev Look(env:Env)(h:Heap)(m:KK)(x:Str)(u:Value):Prop:=
 (env.kindOf x=some .local∧m x=some u)∨((env.kindOf x=some .cell∨env.kindOf x=some .free)∧∃c,env.cells.lookup x=some c∧h.IsCell c (some u))
structure Cx.Ok(X:Cx):Prop where
 mod:Mod X.K X.mg X.base
 kind:X.env.scope.kind=.function
 glob:X.env.globals=mainGlobals
 blt:X.env.builtins=builtinsNs
 above:X.s₀.heap.objs.size≤X.env.locals
 inj:∀x y c,X.env.cells.lookup x=some c→X.env.cells.lookup y=some c→x=y
 has:∀x,(X.env.kindOf x=some .cell∨X.env.kindOf x=some .free)→∃c,X.env.cells.lookup x=some c
 LW:∀x c,X.fn x=true→X.env.cells.lookup x=some c→X.s₀.heap.objs.size≤c
 hd:X.calm=true→X.A.handled=none
 frames:X.A.frames=some X.stack
 MJ:X.stack=X.outer∨(X.stack=X.env::X.outer∧X.env.frame=some X.env.locals)
 HX:∀b∈X.ex,b≠X.env.locals∧∀x c,X.env.cells.lookup x=some c→c≠b
 bs:∀b o,X.base.get? b=some o→X.s₀.heap.get? b=some o∧X.H₀ b=none
 Hy:X.base.objs.size≤X.s₀.heap.objs.size
 yO:∀b o,X.base.get? b=some o→b∉X.ex
 sE:∀b∈X.ex,b∉X.fs
 nE:X.s₀.heap.FunFrames X.base X.outer
 HW:∀b∈X.fs,X.H₀ b=none
structure Inv(X:Cx)(v4:ac)(σ:List (Option V))(H:AA)(s:Shared):Prop where
 ok:X.Ok
 os:s.os=X.s₀.os
 bare:AllBare s.gens
 base:Un X.fs X.ex X.H₀ H X.s₀.heap s.heap
 loc:∃m,s.heap.Ns X.env.locals m∧∀(i:Nat) (x:Str) (v:V),X.N[i]?=some x→σ[i]?=some (some v)→JL X.env.scope x→∃u,RelV v u∧Look X.env s.heap m x u
 cell:∀x c,X.env.cells.lookup x=some c→∃v,s.heap.IsCell c v
 free:H X.env.locals=none
 jy:∀x c,X.env.cells.lookup x=some c→H c=none
 pin:∀p∈X.pn++v4,s.heap.get? p.1=some p.2∧H p.1=none∧p.1≠X.env.locals∧p.1∉X.fs∧∀v,p.2.data≠.cell v
 cg:oM X.prog X.w H s.heap
 len:σ.length=X.N.length
section
variable {v4: List (Addr×Obj)}{σ: List (Option V)}{H: AA}{s: Shared}
def Cx.Ok.Wo(ok:X.Ok){o:Obj}(e:X.base.get? b=some o):b∉X.fs:=λhb=>by
 have:=(ok.nE.mem hb).1;rw[e]at this;cases this
def Inv.bs(I:Inv X v4 σ H s):∀b o,X.base.get? b=some o→s.heap.get? b=some o∧H b=none:=λb o e=>
 ⟨I.base.keep b o (I.ok.bs b o e).1 (I.ok.bs b o e).2 (I.ok.Wo e) (I.ok.yO b o e),I.base.free b o (I.ok.bs b o e).1 (I.ok.bs b o e).2 (I.ok.yO b o e)⟩
def Inv.bk(I:Inv X v4 σ H s):∀b o,X.base.get? b=some o→s.heap.get? b=some o:=λb o e=>(I.bs b o e).1
def Inv.mod(I:Inv X v4 σ H s):Mod X.K X.mg X.base:=I.ok.mod
def Inv.pL(I:Inv X v4 σ H s):X.K.In s.heap:=I.ok.mod.LD.keeps I.bk
def Inv.lt(I:Inv X v4 σ H s):X.env.locals<s.heap.objs.size:=let⟨_,hn,_⟩:=I.loc;hn.lt
def Inv.sz(I:Inv X v4 σ H s):X.s₀.heap.objs.size≤s.heap.objs.size:=Ci I.ok.above (Bu I.lt)
def Inv.Wn(I:Inv X v4 σ H s)(h:s.heap.objs.size≤a):a∉X.fs:=λhb=>by
 let⟨_,⟨o,ho,_⟩⟩:=I.ok.nE.mem hb;show absurd (EE (BF ho) (Ci I.sz h)) (IQ _)
def Inv.O2(I:Inv X v4 σ H s):∀x c,X.env.cells.lookup x=some c→c≠X.env.locals:=λx c e z=>by
 let⟨v,o,ho,hd⟩:=I.cell x c e;let⟨m,⟨o',es,ep,sU,hd',_⟩,_⟩:=I.loc;rw[z,sU]at ho;cases ho;rw[hd']at hd;cases hd
def Inv.nE(I:Inv X v4 σ H s):s.heap.FunFrames X.base X.outer:=by
 let all:∀(l:List Env),(∀b∈E4 l,b∈X.fs)→X.s₀.heap.FunFrames X.base l→s.heap.FunFrames X.base l:=by
  intro l;induction l with
  |nil=>intro _ _;trivial
  |cons env r ih=>
   intro hs hl;let⟨hk,⟨L,o,hf,hn,ho,hd⟩,hr⟩:=hl;let hL:L∈X.fs:=hs L (by unfold E4;rw[Mr,hf];show Il);let⟨sl,e⟩:=I.base.slot L o ho (I.ok.HW L hL) hL λz=>I.ok.sE L z hL;show⟨hk,Ψ2 L _ ⟨hf,hn,e,hd⟩,ih (λb hb=>hs b (by unfold E4;rw[Mr,hf];show Dm _ hb)) hr⟩
 show all X.outer (λ_ hb=>hb) I.ok.nE
def Inv.stack(I:Inv X v4 σ H s):s.heap.FunFrames X.base X.stack:=by
 rcases I.ok.MJ with e|⟨e,hf⟩
 ·rw[e];show I.nE
 ·rw[e]
  let⟨m,hn,_⟩:=I.loc;show .cons (by rw[I.ok.kind];decide) hf hn ?_ I.nE;show Heap.get?_none_of_le (Ci I.ok.Hy I.ok.above)
def Inv.wx(I:Inv X v4 σ H s):∀b∈E4 X.stack,b∈X.env.locals::X.fs:=λb hb=>by
 rcases I.ok.MJ with e|⟨e,hf⟩
 ·rw[e]at hb;show Dm _ hb
 ·rw[e]at hb
  unfold E4 at hb;rw[Mr,hf]at hb;show hb
def Inv.sM(I:Inv X v4 σ H s):∀b∈E4 X.stack,H b=none:=λb hb=>by
 rcases aaf.mp (I.wx b hb)with e|hb
 ·rw[e];show I.free
 ·let⟨_,⟨o,ho,_⟩⟩:=I.ok.nE.mem hb
  show I.base.free b o ho (I.ok.HW b hb) λz=>I.ok.sE b z hb
def Inv.step(I:Inv X v4 σ H s)
  (HQ:∀b∈ch,(b∈X.ex∨X.s₀.heap.objs.size≤b)∧b≠X.env.locals∧(∀x c,X.env.cells.lookup x=some c→c≠b)∧∀p∈X.pn++v4,p.1≠b)
  (keep:∀b o,b≠X.env.locals→b∉X.fs→b∉ch→s.heap.get? b=some o→H b=none→h'.get? b=some o)
  (slot:∀b o,b≠X.env.locals→b∈X.fs→b∉ch→s.heap.get? b=some o→H b=none→∃sl,h'.get? b=some {o with slots:=sl}) (free:∀b o,b∉ch→s.heap.get? b=some o→H b=none→H' b=none)
  (there:∀b o,b∉ch→s.heap.get? b=some o→∃o',h'.get? b=some o')
  (oQ:∀b xs,H b=some (.tup xs)→H' b=some (.tup xs)) (oI:∀b o u,H b=some (.frz o u)→H' b=some (.frz o u)) (oT:∀b ps,H b=some (.tbl ps)→∃more,H' b=some (.tbl (ps++more)))
  (ns:∀m,s.heap.Ns X.env.locals m→h'.Ns X.env.locals m) (cg:oM X.prog X.w H' h') (hg:AllBare g') :
  Inv X v4 σ H' {s with heap:=h',gens:=g',drawn:=d',toks:=t'}:=by
 let YY:∀b o,X.s₀.heap.get? b=some o→b≠X.env.locals:=λb o e=>Bm (EE (BF e) I.ok.above);let UD:∀b o,X.s₀.heap.get? b=some o→b∉X.ex→b∉ch:=λb o e hx hb=>by
  rcases(HQ b hb).1 with z|z
  ·show hx z
  ·show absurd (EE (BF e) z) (IQ _)
 let cellK:∀x c,X.env.cells.lookup x=some c→∀v,s.heap.IsCell c v→h'.IsCell c v:=λx c e v ξ=>Ξ12 ξ λo ho hd=>by
  let Gk:c∉ch:=λz=>(HQ c z).2.2.1 x c e rfl;by_cases hc:c∈X.fs
  ·let⟨sl,q⟩:=slot c o (I.O2 x c e) hc Gk ho (I.jy x c e)
   show⟨_,q,hd⟩
  ·show⟨o,keep c o (I.O2 x c e) hc Gk ho (I.jy x c e),hd⟩
 show⟨I.ok,I.os,hg,⟨λb o e n hb hx=>?_,λb o e n hb hx=>?_,λb o e n hx=>?_,λb o e hx=>?_,λb xs e=>oQ b xs (I.base.oQ b xs e),λb o xs e=>oI b o xs (I.base.oI b o xs e),λb ps e=>?_⟩,?_,λx c e=>?_,?_,λx c e=>?_,λp hp=>?_,cg,I.len⟩
 ·show keep b o (YY b o e) hb (UD b o e hx) (I.base.keep b o e n hb hx) (I.base.free b o e n hx)
 ·let⟨sl,e1⟩:=I.base.slot b o e n hb hx
  let⟨sl',e2⟩:=slot b _ (YY b o e) hb (UD b o e hx) e1 (I.base.free b o e n hx);show⟨sl',e2⟩
 ·let⟨o',e1⟩:=I.base.there b o e hx
  show free b o' (UD b o e hx) e1 (I.base.free b o e n hx)
 ·let⟨o',e1⟩:=I.base.there b o e hx
  show there b o' (UD b o e hx) e1
 ·let⟨m1,e1⟩:=I.base.oT b ps e
  let⟨m2,e2⟩:=oT b _ e1;show⟨m1++m2,by rw[e2,Array.append_assoc]⟩
 ·let⟨m,hn,hl⟩:=I.loc
  show⟨m,ns m hn,λi x v e1 e2 e3=>?_⟩;let⟨u,r,l⟩:=hl i x v e1 e2 e3;show⟨u,r,?_⟩;rcases l with l|⟨k,c,e,z⟩
  ·show .inl l
  ·show .inr ⟨k,c,e,cellK x c e _ z⟩
 ·let⟨v,z⟩:=I.cell x c e
  show⟨v,cellK x c e v z⟩
 ·let⟨m,⟨o,_,_,ho,_⟩,_⟩:=I.loc
  show free _ o (λz=>(HQ _ z).2.1 rfl) ho I.free
 ·let⟨v,o,ho,hd⟩:=I.cell x c e
  show free c o (λz=>(HQ c z).2.2.1 x c e rfl) ho (I.jy x c e)
 ·let⟨e,n,ne,nf,d⟩:=I.pin p hp
  let Gk:p.1∉ch:=λz=>(HQ p.1 z).2.2.2 p hp rfl;show⟨keep p.1 p.2 ne nf Gk e n,free p.1 p.2 Gk e n,ne,nf,d⟩
def Inv.un(I:Inv X v4 σ H s)(u:Un X.fs [] H H' s.heap h')(cg:oM X.prog X.w H' h'):Inv X v4 σ H' {s with heap:=h',toks:=t'}:=by
 let⟨m,⟨o,es,ep,ho,r⟩,_⟩:=id I.loc;let⟨sl,hL⟩:=u.any ho I.free (by simp);show I.step (g':=s.gens) (d':=s.drawn) (ch:=[]) (λ_ z=>nomatch z) (λb o _ hb _ e n=>u.keep b o e n hb (by simp)) (λb o _ hb _ e n=>u.slot b o e n hb (by simp)) (λb o _ e n=>u.free b o e n (by simp)) (λb o _ e=>u.there b o e (by simp)) u.oQ u.oI u.oT (λm' hm=>by
  let⟨o',XH,XN,sU,r'⟩:=hm;rw[ho]at sU;cases sU;show Ψ3 _ XH XN ⟨hL,r'⟩) cg I.bare
def Inv.call(I:Inv X v4 σ H s)(u:Un (E4 X.stack) ch H H' s.heap h')(cg:oM X.prog X.w H' h')(hg:AllBare g')
  (HQ:∀b∈ch,(b∈X.ex∨X.s₀.heap.objs.size≤b)∧b≠X.env.locals∧(∀x c,X.env.cells.lookup x=some c→c≠b)∧∀p∈X.pn++v4,p.1≠b) :
  Inv X v4 σ H' {s with heap:=h',gens:=g',drawn:=d',toks:=t'}:=by
 let⟨m,⟨o,es,ep,ho,r⟩,_⟩:=id I.loc;let⟨sl,hL⟩:=u.any ho I.free λz=>(HQ _ z).2.1 rfl;show I.step (ch:=ch) HQ (λb o hL hb hc e n=>u.keep b o e n (λz=>(aaf.mp (I.wx b z)).elim hL hb) hc) (λb o _ _ hc e n=>u.any e n hc) (λb o hc e n=>u.free b o e n hc) (λb o hc e=>u.there b o e hc) u.oQ u.oI u.oT (λm' hm=>by
  let⟨o',XH,XN,sU,r'⟩:=hm;rw[ho]at sU;cases sU;show Ψ3 _ XH XN ⟨hL,r'⟩) cg hg
def Inv.turned(I:Inv X v4 σ H s)(k:∀b o,b≠it→s.heap.get? b=some o→h'.get? b=some o)(hn:H it=none)(hL:it≠X.env.locals)
  (h1:it∈X.ex∨X.s₀.heap.objs.size≤it) (h2:∀x c,X.env.cells.lookup x=some c→c≠it) (h3:∀p∈X.pn++v4,p.1≠it):Inv X v4 σ H {s with heap:=h',toks:=t'}:=by
 let YX:∀b u,H b=some u→b≠it:=λb u e z=>by rw[z,hn]at e;cases e
 show I.step (g':=s.gens) (d':=s.drawn) (ch:=[it]) (λb hb=>?_) (λb o _ _ hc e _=>k b o (λz=>hc (by simp[z])) e) (λb o _ _ hc e _=>⟨o.slots,k b o (λz=>hc (by simp[z])) e⟩) (λ_ _ _ _ n=>n)
  (λb o hc e=>⟨o,k b o (λz=>hc (by simp[z])) e⟩) (λ_ _ e=>e) (λ_ _ _ e=>e) (λb ps e=>⟨#[],by rw[e];simp⟩) (λm hm=>?_) (λb u e=>?_) I.bare
 ·let e:b=it:=by simpa using hb
  subst e;show⟨h1,hL,h2,h3⟩
 ·let⟨o,es,ep,ho,r⟩:=hm
  show Ψ3 o es ep ⟨k _ o (GF hL) ho,r⟩
 ·show(I.cg b u e).uT (λc v hc q=>k c v ?_ q) (λ_ q=>q) λ_ _ q=>q
  rcases hc with z|z
  ·rw[z];show YX b u e
  ·show YX c _ z
def Inv.tok(I:Inv X v4 σ H s)(t:Nat):Inv X v4 σ H {s with toks:=t}:=I.un (h':=s.heap) (t':=t) Un.refl I.cg
def Inv.kept(I:Inv X v4 σ H s)(k:∀b u,s.heap.get? b=some u→h'.get? b=some u):Inv X v4 σ H {s with heap:=h',toks:=t'}:=I.un (Un.kept k) (I.cg.kept k)
def Inv.laid(I:Inv X v4 σ H s)(k:∀b u,s.heap.get? b=some u→h'.get? b=some u)(hp:s.heap.objs.size≤a)(new:cA X.prog X.w (Ac H a o) h' a o):
  Inv X v4 σ (Ac H a o) {s with heap:=h',toks:=t'}:=I.un (Un.laid k hp (I.cg.fresh hp)) (I.cg.laid k hp new)
def Inv.write{x e:Addr}(I:Inv X v4 σ H s)(mu:Mu (H x))(he:e=x∨H e=some (.own x))(k:∀b u,b≠e→s.heap.get? b=some u→h'.get? b=some u)(PB:∃u,h'.get? e=some u)
  (new:cA X.prog X.w (Ac H x o) h' x o):Inv X v4 σ (Ac H x o) {s with heap:=h',toks:=t'}:=I.un (Un.write mu he k PB) (I.cg.write mu he k PB new)
def Inv.BO{tV:ac}(I:Inv X v4 σ H s)(h:∀p∈tV,s.heap.get? p.1=some p.2∧H p.1=none∧p.1≠X.env.locals∧p.1∉X.fs∧∀v,p.2.data≠.cell v):Inv X tV σ H s:=
 ⟨I.ok,I.os,I.bare,I.base,I.loc,I.cell,I.free,I.jy,λp hp=>(aaK.mp hp).elim (λz=>I.pin p (K6 _ z)) (h p),I.cg,I.len⟩
def Wa(hN:N.Nodup)(a:N[i]?=some x)(b:N[j]?=some x):i=j:=by
 obtain⟨h1,e1⟩:=aba.mp a;obtain⟨h2,e2⟩:=aba.mp b;show(List.getElem_inj hN).mp (e1.trans e2.symm)
def dh{Q:Unit→Shared→Prop}(I:Inv X v4 σ H s)(hN:X.N.Nodup)(hi:X.N[i]?=some x)(hx:HD X.env.scope x)(r:RelV v u)
  (h:∀s',Inv X v4 (σ.set i (some v)) H s'→(∃a,Heap.SameBut a s.heap s'.heap∧(a=X.env.locals∨X.env.cells.lookup x=some a))→Q () s') (hf:Fk X x:=by first|show .inl rfl|show .inr rfl|assumption):wpAny M A (storeName X.env x u) Q E s:=by
 let⟨m,hn,hl⟩:=id I.loc;have Xm:(X.env.scope.kind == .class||(X.env.scope.kind == .module&&X.env.locals != X.env.globals))=false:=by rw[I.ok.kind];rfl
 let Zx:i<σ.length:=by rw[I.len];show(aba.mp hi).1
 let O2:=I.O2;let tracked:∀{a:Addr} {h':Heap},(∃o,s.heap.get? a=some o∧H a=none)→Heap.SameBut a s.heap h'→oM X.prog X.w H h':=λ{a h'} ha hs b ob e=>by
  let⟨_,_,LI⟩:=ha;show(I.cg b ob e).uT (λc w' hc q=>(hs.2 c ?_).trans q) (λ_ q=>q) λ_ _ q=>q;rintro rfl;rcases hc with rfl|hc
  ·rw[LI]at e;cases e
  ·rw[LI]at hc;cases hc
 rcases hx with hk|hk
 ·show wpAny_storeName_local hk hn (λh' Xd hs=>?_) Xm
  let⟨oL,_,_,hoL,_⟩:=id hn;show h _ ⟨I.ok,I.os,I.bare,⟨λb o e n hb hx=>?_,λb o e n hb hx=>?_,I.base.free,λb o e hx=>?_,I.base.oQ,I.base.oI,I.base.oT⟩,⟨_,Xd,λj y v' e1 e2 e3=>?_⟩,λy c e=>?_,I.free,I.jy,λp hp=>?_,tracked ⟨oL,hoL,I.free⟩ hs,by simpa using I.len⟩ ⟨_,hs,.inl rfl⟩
  ·show(hs.2 b (Bm (EE (BF e) I.ok.above))).trans (I.base.keep b o e n hb hx)
  ·let⟨sl,e1⟩:=I.base.slot b o e n hb hx
   show⟨sl,(hs.2 b (Bm (EE (BF e) I.ok.above))).trans e1⟩
  ·let⟨o',e1⟩:=I.base.there b o e hx
   show⟨o',(hs.2 b (Bm (EE (BF e) I.ok.above))).trans e1⟩
  ·by_cases hj:j=i
   ·subst hj
    rw[hi]at e1;cases e1;rw[List.getElem?_set_self Zx]at e2;cases e2;show⟨u,r,.inl ⟨hk,by simp⟩⟩
   ·rw[List.getElem?_set_ne (GF hj)]at e2
    let⟨u',r',q⟩:=hl j y v' e1 e2 e3;show⟨u',r',?_⟩;rcases q with⟨k,e⟩|⟨k,c,e,z⟩
    ·show .inl ⟨k,?_⟩
     have:y≠x:=λe=>hj (Wa hN e1 (e ▸ hi));simp[this,e]
    ·show .inr ⟨k,c,e,z.sameBut hs (O2 y c e)⟩
  ·let⟨w',z⟩:=I.cell y c e
   show⟨w',z.sameBut hs (O2 y c e)⟩
  ·let⟨e,n,ne,nf,d⟩:=I.pin p hp
   show⟨(hs.2 p.1 ne).trans e,n,ne,nf,d⟩
 ·let Xj:X.fn x=true:=by
   rcases hf with z|z
   ·show z
   ·rw[z]at hk;cases hk
  let⟨c,hc⟩:=I.ok.has x (.inl hk);let⟨w',z⟩:=I.cell x c hc;show wpAny_storeName_cell I.ok.kind hk hc z (λh' HS hs=>?_);let⟨oc,UO,Xb⟩:=id z;show h {s with heap:=h'} ⟨I.ok,I.os,I.bare,⟨λb o e n hb hx=>?_,λb o e n hb hx=>?_,I.base.free,λb o e hx=>?_,I.base.oQ,I.base.oI,I.base.oT⟩,⟨m,hn.sameBut hs (GF (O2 x c hc)),λj y v' e1 e2 e3=>?_⟩,λy c' e=>?_,I.free,I.jy,λp hp=>?_,tracked ⟨oc,UO,I.jy x c hc⟩ hs,by simpa using I.len⟩ ⟨c,hs,.inr hc⟩
  ·show(hs.2 b (Bm (EE (BF e) (I.ok.LW x c Xj hc)))).trans (I.base.keep b o e n hb hx)
  ·let⟨sl,e1⟩:=I.base.slot b o e n hb hx
   show⟨sl,(hs.2 b (Bm (EE (BF e) (I.ok.LW x c Xj hc)))).trans e1⟩
  ·let⟨o',e1⟩:=I.base.there b o e hx
   show⟨o',(hs.2 b (Bm (EE (BF e) (I.ok.LW x c Xj hc)))).trans e1⟩
  ·by_cases hj:j=i
   ·subst hj
    rw[hi]at e1;cases e1;rw[List.getElem?_set_self Zx]at e2;cases e2;show⟨u,r,.inr ⟨.inl hk,c,hc,HS⟩⟩
   ·rw[List.getElem?_set_ne (GF hj)]at e2
    let⟨u',r',q⟩:=hl j y v' e1 e2 e3;show⟨u',r',?_⟩;rcases q with q|⟨k,c',e,z'⟩
    ·show .inl q
    ·show .inr ⟨k,c',e,z'.sameBut hs ?_⟩
     rintro rfl;show hj (Wa hN e1 (I.ok.inj _ _ _ e hc ▸ hi))
  ·by_cases ZD:c'=c
   ·subst ZD;show⟨_,HS⟩
   ·let⟨w2,z2⟩:=I.cell y c' e
    show⟨w2,z2.sameBut hs ZD⟩
  ·let⟨e,n,ne,nf,d⟩:=I.pin p hp
   show⟨(hs.2 p.1 ?_).trans e,n,ne,nf,d⟩;intro q;rw[q,UO]at e;let q':oc=p.2:=FE e;show d w' (by rw[←q'];show Xb)
def Sl{Q:Unit→Shared→Prop}(I:Inv X v4 σ H s)(hN:X.N.Nodup)(hi:X.N[i]?=some x)(hx:HD X.env.scope x)(r:RelV v u)
  (h:∀s',Inv X v4 (σ.set i (some v)) H s'→Q () s') (hf:Fk X x:=by first|show .inl rfl|show .inr rfl|assumption):wpAny M A (storeName X.env x u) Q E s:=
 dh I hN hi hx r (λs' I' _=>h s' I') hf
def Inv.LV(I:Inv X v4 σ H s)(ho:s'.os=s.os)(u:Un (E4 X.stack) ch H H' s.heap s'.heap)(cg:oM X.prog X.w H' s'.heap)(hg:AllBare s'.gens)
  (HQ:∀b∈ch,(b∈X.ex∨X.s₀.heap.objs.size≤b)∧b≠X.env.locals∧(∀x c,X.env.cells.lookup x=some c→c≠b)∧∀p∈X.pn++v4,p.1≠b):Inv X v4 σ H' s':=by
 obtain⟨h',g',d',t',o'⟩:=s';let e:o'=s.os:=ho;subst e;show I.call (g':=g') (t':=t') (d':=d') u cg hg HQ
end
abbrev BS:=Value→Option Addr→AA→Prop
abbrev St:=List (Option V)
abbrev B1:=V→AA→Prop
abbrev Al:=St→AA→B1→Prop
abbrev Cr:=St→AA→(Bool→AA→Prop)→Prop
abbrev CY:=St→AA→(List V→AA→Prop)→Prop
structure Ends where
 nx:St→AA→Prop
 rt:B1
 bk:St→AA→Prop:=λ_ _=>False
 ct:St→AA→Prop:=λ_ _=>False
abbrev CI:=Ends→St→AA→Prop
abbrev Bw(X:Cx)(v4:ac)(σ:St)(Q:B1)(u:Value)(s':Shared):Prop:=∃v H',Inv X v4 σ H' s'∧RelV v u∧Q v H'
abbrev KU(X:Cx)(v4:ac)(σ:St)(Q:Bool→AA→Prop)(b:Bool)(s':Shared):Prop:=∃H',Inv X v4 σ H' s'∧Q b H'
abbrev O4(X:Cx)(v4:ac)(σ:St)(Q:List V→AA→Prop)(us:List Value)(s':Shared):Prop:=∃vs H',Inv X v4 σ H' s'∧Vals vs us∧Q vs H'
abbrev SP(X:Cx)(v4:ac)(D:Ends)(f:Flow)(s':Shared):Prop:=
 match f with
 |.next=>∃σ' H',Inv X v4 σ' H' s'∧D.nx σ' H'
 |.brk=>∃σ' H',Inv X v4 σ' H' s'∧D.bk σ' H'
 |.cont=>∃σ' H',Inv X v4 σ' H' s'∧D.ct σ' H'
 |.ret u=>∃v σ' H',Inv X v4 σ' H' s'∧RelV v u∧D.rt v H'
structure PE(X:Cx)(e:Expr)(t:Al):Prop where
 run:∀v4 s σ H (Q:B1),Inv X v4 σ H s→t σ H Q→wpAny (model X.prog X.w) X.A (eval e X.env) (Bw X v4 σ Q) X.xe s
instance {X:Cx}{e:Expr}{t:Al}:CoeFun (PE X e t) λ_=>∀v4 s σ H (Q:B1),Inv X v4 σ H s→t σ H Q→wpAny (model X.prog X.w) X.A (eval e X.env) (Bw X v4 σ Q) X.xe s:=⟨PE.run⟩
structure PT(X:Cx)(e:Expr)(t:Cr):Prop where
 run:∀v4 s σ H (Q:Bool→AA→Prop),Inv X v4 σ H s→t σ H Q→wpAny (model X.prog X.w) X.A (isTrue e X.env (eval e X.env)) (KU X v4 σ Q) X.xe s
instance {X:Cx}{e:Expr}{t:Cr}:CoeFun (PT X e t) λ_=>∀v4 s σ H (Q:Bool→AA→Prop),Inv X v4 σ H s→t σ H Q→wpAny (model X.prog X.w) X.A (isTrue e X.env (eval e X.env)) (KU X v4 σ Q) X.xe s:=⟨PT.run⟩
structure PW(X:Cx)(e:Expr)(t:Cr):Prop where
 run:∀(whole:Sem Value) v4 s σ H (Q:Bool→AA→Prop),Inv X v4 σ H s→t σ H Q→wpAny (model X.prog X.w) X.A (isTrue e X.env whole) (KU X v4 σ Q) X.xe s
instance {X:Cx}{e:Expr}{t:Cr}:CoeFun (PW X e t) λ_=>∀(whole:Sem Value) v4 s σ H (Q:Bool→AA→Prop),Inv X v4 σ H s→t σ H Q→wpAny (model X.prog X.w) X.A (isTrue e X.env whole) (KU X v4 σ Q) X.xe s:=⟨PW.run⟩
def PW.pt{X:Cx}{t:Cr}(h:PW X e t):PT X e t:=⟨h.run _⟩
structure PA(X:Cx)(es:List Expr)(t:CY):Prop where
 run:∀(pos:Pos) v4 s σ H (Q:List V→AA→Prop),Inv X v4 σ H s→t σ H Q→wpAny (model X.prog X.w) X.A (spliced (backTo pos (starEach es X.env))) (O4 X v4 σ Q) X.xe s
instance {X:Cx}{es:List Expr}{t:CY}:CoeFun (PA X es t) λ_=>∀(pos:Pos) v4 s σ H (Q:List V→AA→Prop),Inv X v4 σ H s→t σ H Q→wpAny (model X.prog X.w) X.A (spliced (backTo pos (starEach es X.env))) (O4 X v4 σ Q) X.xe s:=⟨PA.run⟩
structure PS(X:Cx)(st:Stmt)(t:CI):Prop where
 run:∀v4 s σ H (D:Ends),Inv X v4 σ H s→t D σ H→wpAny (model X.prog X.w) X.A (exec st X.env) (SP X v4 D) X.xe s
instance {X:Cx}{st:Stmt}{t:CI}:CoeFun (PS X st t) λ_=>∀v4 s σ H (D:Ends),Inv X v4 σ H s→t D σ H→wpAny (model X.prog X.w) X.A (exec st X.env) (SP X v4 D) X.xe s:=⟨PS.run⟩
structure nH(X:Cx)(st:List Stmt)(t:CI):Prop where
 run:∀v4 s σ H (D:Ends),Inv X v4 σ H s→t D σ H→wpAny (model X.prog X.w) X.A (execs st X.env) (SP X v4 D) X.xe s
instance {X:Cx}{st:List Stmt}{t:CI}:CoeFun (nH X st t) λ_=>∀v4 s σ H (D:Ends),Inv X v4 σ H s→t D σ H→wpAny (model X.prog X.w) X.A (execs st X.env) (SP X v4 D) X.xe s:=⟨nH.run⟩
def AQ{α:Type}{t:Sem α}{Q Q':α→Shared→Prop}(h:wpAny M A t Q E s)(hQ:∀a s,Q a s→Q' a s):wpAny M A t Q' E s:=Bt h hQ λ_ _ x=>x
section
abbrev cu(i:Nat):Al:=λσ H Q=>∃v,σ[i]?=some (some v)∧Q v H
abbrev JR(v:V):Al:=λ_ H Q=>Q v H
def gV{pos:Pos}(hN:X.N[i]?=some x)(hv:JL X.env.scope x)(hd:(x ==("__debug__" : Str))=false:=by decide)(xu:(x ==("__classdict__" : Str))=false:=by decide):PE X (.Name x pos) (cu i):=by
 show .mk ?_;intro v4 s σ H Q I h;obtain⟨v,e,h⟩:=h;let⟨m,hn,hl⟩:=I.loc;let⟨u,r,l⟩:=hl i x v hN e hv;let fin:Bw X v4 σ Q u s:=Ψ2 v H ⟨I,r,h⟩;rcases l with⟨hk,hm⟩|⟨hk,c,hc,uj⟩
 ·show Ky (Ru I.ok.kind hk hn hm fin) hd
 ·rcases hk with hk|hk
  ·show Ky (U3 I.ok.kind hk hc uj fin) hd
  ·show Ky (wpAny_loadName_free I.ok.kind hk hc uj fin xu) hd
def abm{i j pos}:PE X (.Constant (.int i) j pos) (JR (.int i)):=.mk λ_ _ _ H _ I h=>wpAny_Constant_int ⟨.int i,H,I.tok _,⟨_,rfl⟩,h⟩
def t4{b j pos}:PE X (.Constant (.bool b) j pos) (JR (.bl b)):=.mk λ_ _ _ H _ I h=>Constant_bool ⟨.bl b,H,I,rfl,h⟩
def md{j pos}:PE X (.Constant .none j pos) (JR .non):=.mk λ_ _ _ H _ I h=>Constant_none ⟨.non,H,I,rfl,h⟩
def rC{x j pos}:PE X (.Constant (.str x) j pos) (JR (.str x)):=.mk λ_ _ _ H _ I h=>Calls.Constant_str ⟨.str x,H,I.tok _,⟨_,rfl⟩,h⟩
abbrev CF(X:Cx)(x:Str):Prop:=X.env.kindOf x=some .globalImplicit
def Ln{pos:Pos}(I:Inv X v4 σ H s)(hg:CF X x)(hm:X.mg x=some u)(h:Q u s)
  (hd:(x ==("__debug__" : Str))=false:=by decide):wpAny (model X.prog X.w) X.A (eval (.Name x pos) X.env) Q E s:=
 Calls.Name_function_global I.ok.kind hg (Calls.loadGlobal_global (by rw[I.ok.glob];show I.mod.glob.keeps I.bk) hm h) hd
def KP{pos:Pos}(I:Inv X v4 σ H s)(hg:CF X x)(hm:X.mg x=none)(hv:bootBuiltins x=some u)(h:Q u s)
  (hn:x ≠ "__name__" := by decide) (hd:(x ==("__debug__" : Str))=false:=by decide):wpAny (model X.prog X.w) X.A (eval (.Name x pos) X.env) Q E s:=by
 let⟨mb,h1,h2⟩:=I.mod.blt;show Calls.Name_function_global I.ok.kind hg (Calls.loadGlobal_builtin (by rw[I.ok.glob];show I.mod.glob.keeps I.bk) hm (by rw[I.ok.blt];show h1.keeps I.bk) ((h2 x hn).trans hv) h) hd
def rIx{pos:Pos}(hg:CF X x)(hm:X.mg x=some u)(r:RelV v u)(hd:(x ==("__debug__" : Str))=false:=by decide):PE X (.Name x pos) (JR v):=
 .mk λ_ _ _ H _ I h=>Ln I hg hm ⟨v,H,I,r,h⟩ hd
def acu{pos:Pos}(hg:CF X x)(hm:X.mg x=none)(hv:bootBuiltins x=some u)(r:RelV v u)(hn:x ≠ "__name__" := by decide)(hd:(x ==("__debug__" : Str))=false:=by decide):PE X (.Name x pos) (JR v):=
 .mk λ_ _ _ H _ I h=>KP I hg hm hv ⟨v,H,I,r,h⟩ hn hd
variable {a b: Expr}
structure PC(X:Cx)(op:CmpOp)(a b:Expr)(t:Al):Prop where
 run:∀v4 s σ H (Q:B1),Inv X v4 σ H s→t σ H Q→
  wpAny (model X.prog X.w) X.A (eval a X.env) (λv s₁=>wpAny (model X.prog X.w) X.A (eval b X.env) (λu s₂=>wpAny (model X.prog X.w) X.A (compareOp op v u) (Bw X v4 σ Q) X.xe s₂) X.xe s₁) X.xe s
instance {X:Cx}{op:CmpOp}{a b:Expr}{t:Al}:CoeFun (PC X op a b t) λ_=>∀v4 s σ H (Q:B1),Inv X v4 σ H s→t σ H Q→wpAny (model X.prog X.w) X.A (eval a X.env) (λv s₁=>wpAny (model X.prog X.w) X.A (eval b X.env) (λu s₂=>wpAny (model X.prog X.w) X.A (compareOp op v u) (Bw X v4 σ Q) X.xe s₂) X.xe s₁) X.xe s:=⟨PC.run⟩
abbrev LS(t:Al):Cr:=λσ H Q=>t σ H λx H1=>∃c,x=.bl c∧Q c H1
def ug{t:Al}(h:PE X e t)(he:∀whole,isTrue e X.env whole=(do let v ←whole;standAt e.pos;holding [v] (truthy v)):=by intro _;rfl):PT X e (LS t):=by
 show .mk ?_;intro v4 s σ H Q I hw;show isTrue_plain (AQ (h v4 s σ H _ I hw) λv s1 ξ=>Ξ23 ξ λx H1 I1 r1 q1=>?_) (he _);let⟨d,rfl,q⟩:=q1;cases r1;show Hr ⟨H1,I1,q⟩
variable {tA Us: Cr}{v6: List Expr}
abbrev acQ(t u:Cr):Cr:=λσ H Q=>t σ H λc H1=>if c=true then u σ H1 Q else Q false H1
abbrev qw(t u:Cr):Cr:=λσ H Q=>t σ H λc H1=>if c=true then Q true H1 else u σ H1 Q
abbrev sg(t:Cr):Cr:=λσ H Q=>t σ H λc H1=>Q (!c) H1
def wm(ha:PT X a tA):PW X (.BoolOp .And [a] pos) tA:=by
 show .mk ?_;intro wh v4 s σ H Q I h;show isTrue_and (AQ (ha v4 s σ H Q I h) λc s1 e=>?_);cases c with
 |true=>show isTrue_and_nil e
 |false=>show e
def adH(ha:PT X a tA):PW X (.BoolOp .Or [a] pos) tA:=by
 show .mk ?_;intro wh v4 s σ H Q I h;show isTrue_or (AQ (ha v4 s σ H Q I h) λc s1 e=>?_);cases c with
 |false=>show isTrue_or_nil e
 |true=>show e
def kT(ha:PT X a tA)(hb:PW X (.BoolOp .And (b::v6) pos) Us):PW X (.BoolOp .And (a::b::v6) pos) (acQ tA Us):=by
 show .mk ?_;intro wh v4 s σ H Q I h;show isTrue_and (AQ (ha v4 s σ H _ I h) λc s1 ξ=>Ξ12 ξ λH1 I1 q1=>?_);cases c with
 |true=>show hb wh v4 s1 σ H1 Q I1 q1
 |false=>show⟨H1,I1,q1⟩
def xN(ha:PT X a tA)(hb:PW X (.BoolOp .Or (b::v6) pos) Us):PW X (.BoolOp .Or (a::b::v6) pos) (qw tA Us):=by
 show .mk ?_;intro wh v4 s σ H Q I h;show isTrue_or (AQ (ha v4 s σ H _ I h) λc s1 ξ=>Ξ12 ξ λH1 I1 q1=>?_);cases c with
 |true=>show⟨H1,I1,q1⟩
 |false=>show hb wh v4 s1 σ H1 Q I1 q1
def xH(ha:PT X a tA):PT X (.UnaryOp .Not a pos) (sg tA):=by
 show .mk ?_;intro v4 s σ H Q I h;show isTrue_not (ha v4 s σ H (λc H1=>Q (!c) H1) I h)
abbrev kY(ta tb:Al):Al:=λσ H Q=>ta σ H λx H1=>∃c,x=.bl c∧if c=true then tb σ H1 Q else Q (.bl false) H1
abbrev aaZ(ta tb:Al):Al:=λσ H Q=>ta σ H λx H1=>∃c,x=.bl c∧if c=true then Q (.bl true) H1 else tb σ H1 Q
abbrev sv(ta:Al):Al:=λσ H Q=>ta σ H λx H1=>∃c,x=.bl c∧Q (.bl (!c)) H1
def yt{op}{t:Al}(h:PE X a t):PE X (.BoolOp op [a] pos) t:=.mk λv4 s σ H Q I hw=>BoolOp_one (h v4 s σ H Q I hw)
def vG(ha:PE X a ta)(hb:PE X (.BoolOp .And (b::v6) pos) tb):PE X (.BoolOp .And (a::b::v6) pos) (kY ta tb):=by
 show .mk ?_;intro v4 s σ H Q I h;show BoolOp_and (AQ (ha v4 s σ H _ I h) λv s1 ξ=>Ξ23 ξ λx H1 I1 r1 q1=>?_);obtain⟨c,rfl,q1⟩:=q1;cases r1;show Hr ?_;cases c with
 |true=>show hb v4 s1 σ H1 Q I1 q1
 |false=>show Ψ2 (.bl false) H1 ⟨I1,rfl,q1⟩
def tD(ha:PE X a ta)(hb:PE X (.BoolOp .Or (b::v6) pos) tb):PE X (.BoolOp .Or (a::b::v6) pos) (aaZ ta tb):=by
 show .mk ?_;intro v4 s σ H Q I h;show BoolOp_or (AQ (ha v4 s σ H _ I h) λv s1 ξ=>Ξ23 ξ λx H1 I1 r1 q1=>?_);obtain⟨c,rfl,q1⟩:=q1;cases r1;show Hr ?_;cases c with
 |false=>show hb v4 s1 σ H1 Q I1 q1
 |true=>show Ψ2 (.bl true) H1 ⟨I1,rfl,q1⟩
def abE(ha:PE X a ta):PE X (.UnaryOp .Not a pos) (sv ta):=by
 show .mk ?_;intro v4 s σ H Q I h;show UnaryOp_ (AQ (ha v4 s σ H _ I h) λv s1 ξ=>Ξ23 ξ λx H1 I1 r1 q1=>?_);obtain⟨c,rfl,q1⟩:=q1;cases r1;show not_of (Hr ⟨.bl (!c),H1,I1,rfl,q1⟩)
end
abbrev lG(K:W.Frag)(H:AA)(a:Addr)(xs:List V):Prop:=
 Rd H a (.lst xs) ∨
  ∃(o:Obj) (aV:Array Value) (n:Nat),K.lookup a=some o∧o.cls=.type "list" ∧ o.dict=none∧o.data=.seq aV n∧aV.size≤sizeLine∧Vals xs aV.toList
abbrev eJ(K:W.Frag)(H:AA)(a:Addr)(xs:List V):Prop:=
 Rd H a (.tup xs) ∨
  ∃(o:Obj) (aV:Array Value) (n:Nat),K.lookup a=some o∧o.cls=.type "tuple" ∧ o.data=.seq aV n∧aV.size≤sizeLine∧Vals xs aV.toList
abbrev xS:Value→Option V
 |.none=>some .non
 |.bool b=>some (.bl b)
 |.int i _=>some (.int i)
 |.str x _=>some (.str x)
 |.bytes b _=>some (.byt b)
 |.float b _=>some (.flt b)
 |.ref a=>some (.ref a)
 |.type n=>some (.ty n)
 |_=>none
def RelV.abs{x:V}(r:RelV x u):xS u=some x:=by
 cases x with
 |non=>cases r;rfl
 |bl _=>cases r;rfl
 |int _=>let⟨t,rfl⟩:=r;rfl
 |str _=>let⟨t,rfl⟩:=r;rfl
 |byt _=>let⟨t,rfl⟩:=r;rfl
 |flt _=>let⟨t,rfl⟩:=r;rfl
 |ref _=>cases r;rfl
 |ty _=>cases r;rfl
def RelV.inj{x:V}(r:RelV x u)(q:RelV y u):x=y:=FE (r.abs.symm.trans q.abs)
def Vals.inj:∀{xs ys:List V} {us:List Value},Vals xs us→Vals ys us→xs=ys
 |_,_,_,.nil,.nil=>rfl
 |_,_,_,.cons r t,.cons r' t'=>by rw[r.inj r',Vals.inj t t']
section
variable {v4: List (Addr×Obj)}{σ: St}{H: AA}{s: Shared}{a: Addr}{xs ys: List V}
def lG.of(h:H a=some (.lst xs)):lG K H a xs:=.inl (.inl h)
def eJ.of(h:H a=some (.tup xs)):eJ K H a xs:=.inl (.inl h)
def Inv.list(I:Inv X v4 σ H s)(h:lG X.K H a xs):∃aV:List Value,Vals xs aV∧PlainL s.heap a aV.toArray∧xs.length≤sizeLine:=by
 rcases h with h|⟨o,aV,n,hk,hc,hd,hs,hz,r⟩
 ·let⟨z,⟨aV,n,r,e⟩⟩:=h.ok I.cg
  show⟨aV,r,Ψ2 _ n ⟨e,rfl,rfl,rfl⟩,z⟩
 ·show⟨aV.toList,r,Ψ2 o n ⟨I.pL a o hk,hc,hd,by simpa using hs⟩,?_⟩
  let e:=r.length;simp only[Ig]at e;lia
def Inv.tuple(I:Inv X v4 σ H s)(h:eJ X.K H a xs):∃aV:List Value,Vals xs aV∧IsTup s.heap a aV.toArray∧xs.length≤sizeLine:=by
 rcases h with h|⟨o,aV,n,hk,hc,hs,hz,r⟩
 ·let⟨z,⟨aV,r,p⟩⟩:=h.ok I.cg
  show⟨aV,r,p,z⟩
 ·show⟨aV.toList,r,⟨o,I.pL a o hk,hc,n,by simpa using hs⟩,?_⟩
  let e:=r.length;simp only[Ig]at e;lia
def Inv.Gz(I:Inv X v4 σ H s)(h:lG X.K H a xs)(h':lG X.K H a ys):xs=ys:=by
 let⟨aV,r,⟨o,n,e,_,_,d⟩,_⟩:=I.list h;let⟨t3',r',⟨o',n',e',_,_,d'⟩,_⟩:=I.list h';rw[e]at e';cases e';rw[d]at d';injection d' with d1 _
 have:aV=t3':=by simpa using EJ Array.toList d1
 subst this;show r.inj r'
def Inv.m6(I:Inv X v4 σ H s)(h:eJ X.K H a xs)(h':eJ X.K H a ys):xs=ys:=by
 let⟨aV,r,⟨o,e,_,⟨n,d⟩⟩,_⟩:=I.tuple h;let⟨t3',r',⟨o',e',_,⟨n',d'⟩⟩,_⟩:=I.tuple h';rw[e]at e';cases e';rw[d]at d';injection d' with d1 _
 have:aV=t3':=by simpa using EJ Array.toList d1
 subst this;show r.inj r'
end
@[reducible]def Cx.uS(X:Cx)(E:xz):Cx:={X with xe:=E}
@[reducible]def Cx.jI(X:Cx):Cx:=X.uS λ_ _=>False
def Cx.Ok.uS{X:Cx}(ok:X.Ok)(E:xz):(X.uS E).Ok:=
 ⟨ok.mod,ok.kind,ok.glob,ok.blt,ok.above,ok.inj,ok.has,ok.LW,ok.hd,ok.frames,ok.MJ,ok.HX,ok.bs,ok.Hy,ok.yO,ok.sE,ok.nE,ok.HW⟩
def Cx.Ok.lN{X:Cx}(ok:(X.uS E).Ok):X.Ok:=
 ⟨ok.mod,ok.kind,ok.glob,ok.blt,ok.above,ok.inj,ok.has,ok.LW,ok.hd,ok.frames,ok.MJ,ok.HX,ok.bs,ok.Hy,ok.yO,ok.sE,ok.nE,ok.HW⟩
section
variable {v4: List (Addr×Obj)}{σ: St}{H: AA}{s: Shared}{E: Value→Shared→Prop}
def Inv.uS(I:Inv X v4 σ H s)(E:xz):Inv (X.uS E) v4 σ H s:=⟨I.ok.uS E,I.os,I.bare,I.base,I.loc,I.cell,I.free,I.jy,I.pin,I.cg,I.len⟩
def Inv.lN(I:Inv (X.uS E) v4 σ H s):Inv X v4 σ H s:=⟨I.ok.lN,I.os,I.bare,I.base,I.loc,I.cell,I.free,I.jy,I.pin,I.cg,I.len⟩
def SP.lN{D:Ends}{f:Flow}(h:SP (X.uS E) v4 D f s'):SP X v4 D f s':=by
 cases f with
 |next=>let⟨σ',H',I,q⟩:=h;show Ψ2 σ' H' ⟨I.lN,q⟩
 |brk=>let⟨σ',H',I,q⟩:=h;show Ψ2 σ' H' ⟨I.lN,q⟩
 |cont=>let⟨σ',H',I,q⟩:=h;show Ψ2 σ' H' ⟨I.lN,q⟩
 |ret u=>let⟨v,σ',H',I,r,q⟩:=h;show Ψ3 v σ' H' ⟨I.lN,r,q⟩
def nH.jI{st:List Stmt}{t:CI}(h:nH X.jI st t):nH X st t:=.mk λv4 s σ H D I hw=>
 Bt (h v4 s σ H D (I.uS _) hw) (λ_ _ q=>q.lN) λ_ _ z=>False.elim z
end
section
variable {st: Stmt}{v6: List Stmt}{t u: CI}{e: Expr}{te: Al}
abbrev tJ:CI:=λD σ H=>D.nx σ H
abbrev rV(t u:CI):CI:=λD σ H=>t {D with nx:=u D} σ H
def acY:nH X [] tJ:=.mk λ_ _ σ H _ I h=>Pn ⟨σ,H,I,h⟩
def abD(h1:PS X st t)(h2:nH X v6 u):nH X (st::v6) (rV t u):=by
 show .mk ?_;intro v4 s σ H D I h;show wpAny_execs_cons (AQ (h1 v4 s σ H {D with nx:=u D} I h) λf s1 q=>?_);cases f with
 |next=>
  obtain⟨σ',H',I',q⟩:=q;show h2 v4 s1 σ' H' D I' q
 |ret v=>show q
 |brk=>show q
 |cont=>show q
def Inv.quiet(I:Inv X v4 σ H s):interactive X.env=false:=by simp[interactive,I.ok.kind]
abbrev zw(te:Al):CI:=λD σ H=>te σ H λ_ H1=>D.nx σ H1
def mq(he:PE X e te)(hs:swapsWith e none pos.line X.env=pure false:=by rfl):PS X (.Expr e pos) (zw te):=by
 show .mk ?_;intro v4 s σ H D I h;show wpAny_Expr_any (AQ (he v4 s σ H _ I h) λv s1 ξ=>Ξ23 ξ λx H1 I1 r1 q1=>Ψ2 σ H1 ⟨I1,q1⟩) I.quiet hs
abbrev kI(te:Al):CI:=λD σ H=>te σ H D.rt
def ac5(he:PE X e te):PS X (.Return (some e) pos) (kI te):=by
 show .mk ?_;intro v4 s σ H D I h;show wpAny_Return_some (AQ (he v4 s σ H _ I h) λv s1 ξ=>Ξ23 ξ λx H1 I1 r1 q1=>Ψ3 x σ H1 ⟨I1,r1,q1⟩)
abbrev yc(c:Cr)(t u:CI):CI:=λD σ H=>c σ H λb H1=>if b=true then t D σ H1 else u D σ H1
def uc{a b:List Stmt}(hc:PT X c tc)(ha:nH X a t)(hb:nH X b u):PS X (.If c a b pos) (yc tc t u):=by
 show .mk ?_;intro v4 s σ H D I h;show wpAny_If (AQ (hc v4 s σ H _ I h) λd s1 ξ=>Ξ12 ξ λH1 I1 q1=>?_);cases d with
 |true=>show ha v4 s1 σ H1 D I1 q1
 |false=>show hb v4 s1 σ H1 D I1 q1
end
abbrev Dv:=V→St→AA→(St→AA→Prop)→Prop
abbrev Hl:=List V→St→AA→(St→AA→Prop)→Prop
structure PG(X:Cx)(target:Expr)(t:Dv):Prop where
 run:∀v4 s σ H (v:V) (u:Value) (Q:St→AA→Prop),Inv X v4 σ H s→RelV v u→t v σ H Q→
  wpAny (model X.prog X.w) X.A (assign target X.env u) (λ_ s'=>∃σ' H',Inv X v4 σ' H' s'∧Q σ' H') X.xe s
instance {X:Cx}{target:Expr}{t:Dv}:CoeFun (PG X target t) λ_=>∀v4 s σ H (v:V) (u:Value) (Q:St→AA→Prop),Inv X v4 σ H s→RelV v u→t v σ H Q→wpAny (model X.prog X.w) X.A (assign target X.env u) (λ_ s'=>∃σ' H',Inv X v4 σ' H' s'∧Q σ' H') X.xe s:=⟨PG.run⟩
structure Cw(X:Cx)(ts:List Expr)(t:Hl):Prop where
 run:∀v4 s σ H (vs:List V) (us:List Value) (Q:St→AA→Prop),Inv X v4 σ H s→Vals vs us→t vs σ H Q→
  wpAny (model X.prog X.w) X.A (assignInOrder ((assignEach ts X.env).map (·.2)) us) (λ_ s'=>∃σ' H',Inv X v4 σ' H' s'∧Q σ' H') X.xe s
instance {X:Cx}{ts:List Expr}{t:Hl}:CoeFun (Cw X ts t) λ_=>∀v4 s σ H (vs:List V) (us:List Value) (Q:St→AA→Prop),Inv X v4 σ H s→Vals vs us→t vs σ H Q→wpAny (model X.prog X.w) X.A (assignInOrder ((assignEach ts X.env).map (·.2)) us) (λ_ s'=>∃σ' H',Inv X v4 σ' H' s'∧Q σ' H') X.xe s:=⟨Cw.run⟩
abbrev Qy:=V→V→AA→B1→Prop
abbrev pO(X:Cx)(op:Operator)(t:Qy):Prop:=
 ∀v4 s σ H (x y:V) (v u:Value) (Q:B1),Inv X v4 σ H s→RelV x v→RelV y u→t x y H Q→
  wpAny (model X.prog X.w) X.A (inplaceOp op v u) (Bw X v4 σ Q) X.xe s
section
abbrev hX(i:Nat):Dv:=λv σ H Q=>Q (σ.set i (some v)) H
def aaA(hN:X.N.Nodup)(hi:X.N[i]?=some x)(hx:HD X.env.scope x)(hf:Fk X x:=by first|show .inl rfl|show .inr rfl|assumption):PG X (.Name x pos) (hX i):=by
 show .mk ?_;intro v4 s σ H v u Q I r h;show wpAny_assign_Name (Sl I hN hi hx r (λs' I'=>Ψ2 _ H ⟨I',h⟩) hf)
abbrev Fc3:Hl:=λvs σ H Q=>vs=[]∧Q σ H
abbrev wB(t:Dv)(u:Hl):Hl:=λvs σ H Q=>∃v r,vs=v::r∧t v σ H λσ' H'=>u r σ' H' Q
def xO:Cw X [] Fc3:=by
 show .mk ?_;intro v4 s σ H vs us Q I r h;obtain⟨e,h⟩:=h;subst e;cases r;show assignInOrder_nil ⟨σ,H,I,h⟩
def tg8{es:List Expr}{t:Dv}{u:Hl}(h1:PG X e t)(h2:Cw X es u)
  (hs:(assignEach (e::es) X.env).map (·.2)=assign e X.env::(assignEach es X.env).map (·.2):=by rfl):Cw X (e::es) (wB t u):=by
 show .mk ?_;intro v4 s σ H vs us Q I r h;obtain⟨v,vr,e1,h⟩:=h;subst e1;cases r with
 |cons r rr=>
  rw[hs];show assignInOrder_cons (AQ (h1 v4 s σ H _ _ _ I r h) λ_ s1 ξ=>Ξ22 ξ λσ1 H1 I1 q1=>?_);show h2 v4 s1 σ1 H1 _ _ Q I1 rr q1
abbrev y9(K:W.Frag)(n:Nat)(t:Hl):Dv:=λv σ H Q=>∃a xs,v=.ref a∧eJ K H a xs∧xs.length=n∧t xs σ H Q
def qh{es:List Expr}{t:Hl}(hc:X.calm=true)(h:Cw X es t)
  (hn:(assignEach es X.env).length=n:=by rfl) (zO:(assignEach es X.env).findIdx? (·.1)=none:=by rfl):PG X (.Tuple es k pos) (y9 X.K n t):=by
 show .mk ?_;intro v4 s σ H v u Q I r hw;obtain⟨a,xs,e1,hq,hl,hw⟩:=hw;subst e1;cases r;let⟨aV,rv,ht,hz⟩:=I.tuple hq;show assign_Tuple_tuple (I.ok.hd hc) ht (by simp[hn,←hl,rv.length]) zO λh' hx=>?_;let I1:Inv X v4 σ H {s with heap:=h'}:=I.kept (t':=s.toks) λb o e=>hx b o (Bm (BF e)) e;show h v4 _ σ H xs _ Q I1 (by simpa using rv) hw
abbrev RF(te:Al)(g:Dv):CI:=λD σ H=>te σ H λx H1=>g x σ H1 D.nx
def qo{g:Dv}(he:PE X e te)(hg:PG X tg g)(hs:swapsWithSole [tg] e pos.line X.env=pure false:=by rfl)(hw:swappedStores [tg] e X.env=pure none:=by rfl)
  (h1:(assignEach [tg] X.env).map (·.2)=[assign tg X.env]:=by rfl):PS X (.Assign [tg] e pos) (RF te g):=by
 show .mk ?_;intro v4 s σ H D I h;show wpAny_Assign_stores (AQ (he v4 s σ H _ I h) λv s1 ξ=>Ξ23 ξ λx H1 I1 r1 q1=>?_) hs hw;rw[h1];show AQ (hg v4 s1 σ H1 x v _ I1 r1 q1) λ_ s2 q=>q
def rI(hN:X.N.Nodup)(hi:X.N[i]?=some x)(hx:HD X.env.scope x)(he:PE X e te)(hs:swapsWith e (some (.Name x pos')) pos.line X.env=pure false:=by rfl)(hf:Fk X x:=by first|show .inl rfl|show .inr rfl|assumption):
  PS X (.Assign [.Name x pos'] e pos) (RF te (hX i)):=by
 show .mk ?_;intro v4 s σ H D I h;show wpAny_Assign_Name (AQ (he v4 s σ H _ I h) λv s1 ξ=>Ξ23 ξ λy H1 I1 r1 q1=>?_) hs;show Sl I1 hN hi hx r1 (λs2 I2=>Ψ2 _ H1 ⟨I2,q1⟩) hf
abbrev xj(i:Nat)(te:Al)(ti:Qy):CI:=λD σ H=>∃x,σ[i]?=some (some x)∧te σ H λy H1=>ti x y H1 λz H2=>D.nx (σ.set i (some z)) H2
def sC{op:Operator}{ti:Qy}(hN:X.N.Nodup)(hi:X.N[i]?=some x)(hx:HD X.env.scope x)(he:PE X e te)(ho:pO X op ti)(hf:Fk X x:=by first|show .inl rfl|show .inr rfl|assumption):
  PS X (.AugAssign (.Name x pos') op e pos) (xj i te ti):=by
 show .mk ?_;intro v4 s σ H D I h;obtain⟨v,e1,h⟩:=h;let⟨m,hn,hl⟩:=I.loc;have vis:JL X.env.scope x:=by rcases hx with k|k;show .inl k;show .inr (.inl k)
 let⟨u,r,l⟩:=hl i x v hi e1 vis;show wpAny_AugAssign_Name ?_;let go:wpAny (model X.prog X.w) X.A (eval e X.env) (λw s₂=>wpAny (model X.prog X.w) X.A (inplaceOp op u w) (λr s₃=>wpAny (model X.prog X.w) X.A (storeName X.env x r) (λ_=>SP X v4 D .next) X.xe s₃) X.xe s₂) X.xe s:=by
  show AQ (he v4 s σ H _ I h) λw s1 ξ=>Ξ23 ξ λy H1 I1 r1 q1=>?_;show AQ (ho v4 s1 σ H1 v y u w _ I1 r r1 q1) λz s2 ξ=>Ξ23 ξ λzv H2 I2 r2 q2=>?_;show Sl I2 hN hi hx r2 (λs3 I3=>Ψ2 _ H2 ⟨I3,q2⟩) hf
 rcases l with⟨hk,hm⟩|⟨hk,c,hc,uj⟩
 ·show Ru I.ok.kind hk hn hm go
 ·rcases hk with hk|hk
  ·show U3 I.ok.kind hk hc uj go
  ·rcases hx with k|k
   ·have:X.env.scope.names.lookup x=some .free:=hk
    rw[k]at this;cases this
   ·have:X.env.scope.names.lookup x=some .free:=hk
    rw[k]at this;cases this
abbrev wo(c:Cr)(tb:CI):CI:=λD σ H=>∃W:Nat→St→AA→Prop,(∃m,W m σ H)∧∀m σ H,W m σ H→
 c σ H λb H1=>if b=true then ∃N:St→AA→Prop,(∀σ' H',N σ' H'→∃m',m' < m∧W m' σ' H')∧tb {D with nx:=N,ct:=N,bk:=D.nx} σ H1 else D.nx σ H1
def aaG{tb:CI}(hp:PassesOwn (model X.prog X.w) X.A X.env X.xe)(hc:PT X c tc)(hb:nH X body tb):PS X (.While c body [] pos) (wo tc tb):=by
 show .mk ?_;intro v4 s σ H D I h;let⟨W,⟨m0,w0⟩,turn⟩:=h;show wpAny_While (codeAny_whileLoop (λn s'=>∃σ' H',Inv X v4 σ' H' s'∧W n σ' H') ?_ m0 ⟨σ,H,I,w0⟩);intro n s1⟨σ1,H1,I1,w1⟩;show K8 hp (AQ (hc v4 s1 σ1 H1 _ I1 (turn n σ1 H1 w1)) λb s2 ξ=>Ξ12 ξ λH2 I2 q2=>?_);cases b with
 |true=>
  obtain⟨N,hN,q2⟩:=q2;rw[Aa rfl];show K8 hp (AQ (hb v4 s2 σ1 H2 _ I2 q2) λf s3 q3=>?_);cases f with
  |next=>
   let⟨σ3,H3,I3,n3⟩:=q3;let⟨m',hm,w3⟩:=hN σ3 H3 n3;show⟨m',hm,σ3,H3,I3,w3⟩
  |cont=>
   let⟨σ3,H3,I3,n3⟩:=q3;let⟨m',hm,w3⟩:=hN σ3 H3 n3;show⟨m',hm,σ3,H3,I3,w3⟩
  |brk=>show q3
  |ret v=>show q3
 |false=>
  rw[AV Cf];show Pn ⟨σ1,H2,I2,q2⟩
end
structure FT where
 go:Nat→AA→Prop
 rK:Nat→AA→V→AA→Prop
 stop:Nat→AA→Prop
abbrev Dq(X:Cx)(v4:ac)(H:AA)(b:Addr):Prop:=
 H b=none∧b≠X.env.locals∧b∉X.fs∧(b∈X.ex∨X.s₀.heap.objs.size≤b)∧(∀x c,X.env.cells.lookup x=some c→c≠b)∧∀p∈X.pn++v4,p.1≠b
def Inv.zg{X:Cx}{H':AA}(I:Inv X v4 σ H s)(hb:s.heap.objs.size≤b)(hn:H' b=none):Dq X v4 H' b:=by
 show⟨hn,M2 (EE I.lt hb),I.Wn hb,.inr (Ci I.sz hb),λx c e z=>?_,λp hp z=>?_⟩
 ·let⟨v,q⟩:=I.cell x c e
  show absurd (EE q.lt (by rw[z];show hb)) (IQ _)
 ·show absurd (EE (BF (I.pin p hp).1) (by rw[z];show hb)) (IQ _)
structure Turn(P:Program)(w:World)(K:W.Frag)(tg:Expr)(J:FT)(fp:List Addr)(it:Addr)(tn:Nat→Heap→Prop):Prop where
 mem:it∈fp
 obj:∀i h,tn i h→∀b∈fp,∃o,h.get? b=some o∧∀v,o.data≠.cell v
 keep:∀i h h',tn i h→(∀b∈fp,∀o,h.get? b=some o→h'.get? b=some o)→tn i h'
 item:∀(X:Cx),X.prog=P→X.w=w→X.K=K→X.calm=true→∀(i:Nat) v4 s σ H (E:xz),Inv X v4 σ H s→(∀b∈fp,Dq X v4 H b)→tn i s.heap→J.go i H→
  wpAny (model P w) X.A (pyNext (.ref it)) (λr s1=>∃u,r=some u∧
   wpAny (model P w) X.A (letOwnedTupleGo tg (.ref it) u) (λ_ s2=>∃x H',Inv X v4 σ H' s2∧RelV x u∧J.rK i H x H'∧tn (i+1) s2.heap∧∀b∈fp,H' b=none) E s1) E s
 done:∀(X:Cx),X.prog=P→X.w=w→X.K=K→X.calm=true→∀(i:Nat) v4 s σ H (E:xz),Inv X v4 σ H s→(∀b∈fp,Dq X v4 H b)→tn i s.heap→J.stop i H→
  wpAny (model P w) X.A (pyNext (.ref it)) (λr s1=>r=none∧Inv X v4 σ H s1) E s
 self:∀(A:Around) (i:Nat) (s:Shared) (Q:xz) (E:xz),tn i s.heap→Q (.ref it) s→wpAny (model P w) A (pyIter (.ref it)) Q E s
abbrev Dc:=St→AA→(FT→AA→Prop)→Prop
abbrev NH(X:Cx)(v4:ac)(σ:St)(tg:Expr)(R:FT→AA→Prop)(LG:Value)(s2:Shared):Prop:=
 ∃(it:Addr) (fp:List Addr) (tn:Nat→Heap→Prop) (J:FT) (H':AA),LG=.ref it∧Inv X v4 σ H' s2∧Turn X.prog X.w X.K tg J fp it tn∧tn 0 s2.heap∧(∀b∈fp,Dq X v4 H' b)∧R J H'
structure PI(X:Cx)(tg iter:Expr)(wi:Dc):Prop where
 run:∀v4 s σ H (R:FT→AA→Prop),Inv X v4 σ H s→wi σ H R→
  wpAny (model X.prog X.w) X.A (eval iter X.env) (λv s1=>wpAny (model X.prog X.w) X.A (pyIter v) (NH X v4 σ tg R) X.xe s1) X.xe s
instance {X:Cx}{tg iter:Expr}{wi:Dc}:CoeFun (PI X tg iter wi) λ_=>∀v4 s σ H (R:FT→AA→Prop),Inv X v4 σ H s→wi σ H R→wpAny (model X.prog X.w) X.A (eval iter X.env) (λv s1=>wpAny (model X.prog X.w) X.A (pyIter v) (NH X v4 σ tg R) X.xe s1) X.xe s:=⟨PI.run⟩
def MO{o:Obj}{n:String}{vs:Array Value}{Q:Unit→Shared→Prop}(ho:s.heap.get? it=some o)(hc:o.cls=.type n)(hd:o.data=.fields vs)
    (hn:["enumerate","zip","dict_itemiterator","dict_reverseitemiterator","odict_iterator","itertools.zip_longest","itertools.pairwise"].contains n=false) (hQ:Q () s):wpAny M A (letOwnedTupleGo tg (.ref it) u) Q E s:=by
  unfold letOwnedTupleGo;cases tg<;>first
    |show Af hQ
    | (cases u<;>first
        |show Af hQ
        | (show AE (wpAny_load ho ?_)
           rw[hc,hd];show wpAny M A (if(["enumerate","zip","dict_itemiterator","dict_reverseitemiterator","odict_iterator","itertools.zip_longest","itertools.pairwise"].contains n&&vs[0]? == some (rawInt _))=true then _ else _) Q E s
           rw[AV (by intro h;rw[hn,CZ]at h;cases h)];show Af hQ))
abbrev Rk(K:W.Frag)(a:Addr):FT:=
 ⟨λi H=>∃xs x,lG K H a xs∧xs[i]?=some x,λi H x H'=>H'=H∧∀xs,lG K H a xs→xs[i]?=some x,λi H=>∃xs,lG K H a xs∧xs.length≤i⟩
abbrev RG(K:W.Frag)(a:Addr):FT:=
 ⟨λi H=>∃xs x,eJ K H a xs∧xs[i]?=some x,λi H x H'=>H'=H∧∀xs,eJ K H a xs→xs[i]?=some x,λi H=>∃xs,eJ K H a xs∧xs.length≤i⟩
abbrev P5(lo:Int)(n:Nat):FT:=⟨λi _=>i<n,λi H x H'=>H'=H∧x=.int (lo+i),λi _=>n≤i⟩
def ach(a it:Addr):Turn P w K tg (Rk K a) [it] it (λi h=>h.IsListIter it a i) where
 mem:=by simp
 obj:=λi h st b hb=>by
  let e:b=it:=by simpa using hb
  subst e;let⟨o,e,c,d⟩:=st;show⟨o,e,λv z=>by rw[d]at z;cases z⟩
 keep:=λi h h' st k=>st.at λo e=>k it (by simp) o e
 item:=by
  intro X hP hw hK hc i v4 s σ H E I hf st hg;subst hP hw hK;let⟨xs,x,hq,hx⟩:=hg;let⟨aV,rv,p,hz⟩:=I.list hq;let⟨u,hu,ru⟩:=rv.get hx;let⟨f0,f1,f2,f3,f4,f5⟩:=hf it (by simp);show wpAny_pyNext_list_item st p.isList (x:=u) (by simpa using hu) λh' BB sb=>?_;let I1:Inv X v4 σ H {s with heap:=h'}:=I.turned (t':=s.toks) (λb o hb e=>(sb.2 b hb).trans e) f0 f1 f3 f4 f5;let⟨o,e,c,d⟩:=id BB;show⟨u,rfl,MO (s:={s with heap:=h'}) e c d (by decide) ⟨x,H,I1,ru,⟨rfl,λys hy=>by rw[I.Gz hy hq];show hx⟩,BB,λb hb=>(hf b hb).1⟩⟩
 done:=by
  intro X hP hw hK hc i v4 s σ H E I hf st hg;subst hP hw hK;let⟨xs,hq,hx⟩:=hg;let⟨aV,rv,p,hz⟩:=I.list hq;let⟨f0,f1,f2,f3,f4,f5⟩:=hf it (by simp);let hl:=rv.length;show wpAny_pyNext_list_end (I.ok.hd hc) st p.isList (by simp;lia) λh' eb=>⟨rfl,I.turned (t':=s.toks) (λb o hb e=>eb b o hb e) f0 f1 f3 f4 f5⟩
 self:=λ_ _ _ _ _ st h=>wpAny_pyIter_listiter st h
def xP(a it:Addr):Turn P w K tg (RG K a) [it] it (λi h=>h.IsTupleIter it a i) where
 mem:=by simp
 obj:=λi h st b hb=>by
  let e:b=it:=by simpa using hb
  subst e;let⟨o,e,c,d⟩:=st;show⟨o,e,λv z=>by rw[d]at z;cases z⟩
 keep:=λi h h' st k=>st.at λo e=>k it (by simp) o e
 item:=by
  intro X hP hw hK hc i v4 s σ H E I hf st hg;subst hP hw hK;let⟨xs,x,hq,hx⟩:=hg;let⟨aV,rv,p,hz⟩:=I.tuple hq;let⟨u,hu,ru⟩:=rv.get hx;let⟨f0,f1,f2,f3,f4,f5⟩:=hf it (by simp);show wpAny_pyNext_tuple_item st (show s.heap.IsTuple a aV.toArray from p) (x:=u) (by simpa using hu) λh' BB sb=>?_;let I1:Inv X v4 σ H {s with heap:=h'}:=I.turned (t':=s.toks) (λb o hb e=>(sb.2 b hb).trans e) f0 f1 f3 f4 f5;let⟨o,e,c,d⟩:=id BB;show⟨u,rfl,MO (s:={s with heap:=h'}) e c d (by decide) ⟨x,H,I1,ru,⟨rfl,λys hy=>by rw[I.m6 hy hq];show hx⟩,BB,λb hb=>(hf b hb).1⟩⟩
 done:=by
  intro X hP hw hK hc i v4 s σ H E I hf st hg;subst hP hw hK;let⟨xs,hq,hx⟩:=hg;let⟨aV,rv,p,hz⟩:=I.tuple hq;let⟨f0,f1,f2,f3,f4,f5⟩:=hf it (by simp);let hl:=rv.length;show wpAny_pyNext_tuple_end (I.ok.hd hc) st (show s.heap.IsTuple a aV.toArray from p) (by simp;lia) λh' eb=>⟨rfl,I.turned (t':=s.toks) (λb o hb e=>eb b o hb e) f0 f1 f3 f4 f5⟩
 self:=λ_ _ _ _ _ st h=>wpAny_pyIter_tupleiter st h
def vL(it:Addr)(lo:Int)(n:Nat):Turn P w K tg (P5 lo n) [it] it (λi h=>IsRangeIter h it (lo+(i:Nat)*1) ((n:Int)-(i:Nat)) 1) where
 mem:=by simp
 obj:=λi h st b hb=>by
  let e:b=it:=by simpa using hb
  subst e;show⟨_,st,λv z=>by
   let z':Data.fields _=Data.cell v:=z;cases z'⟩
 keep:=λi h h' st k=>k it (by simp) _ st
 item:=by
  intro X hP hw hK hc i v4 s σ H E I hf st hg;subst hP hw hK;let⟨f0,f1,f2,f3,f4,f5⟩:=hf it (by simp);let W:=Walks.range (prog:=X.prog) (w:=X.w) (I.ok.hd hc) it lo 1 n;show W.item i s _ _ hg st λv h' tk hv BB kk=>?_;let⟨t,rfl⟩:=hv;let I1:Inv X v4 σ H {s with heap:=h',toks:=tk}:=I.turned (λb o hb e=>kk b o (by simpa using hb) e) f0 f1 f3 f4 f5;show⟨_,rfl,MO (s:={s with heap:=h',toks:=tk}) (n := "range_iterator") BB rfl rfl (by decide) ⟨.int (lo+i),H,I1,⟨t,?_⟩,⟨rfl,rfl⟩,BB,λb hb=>(hf b hb).1⟩⟩;rw[Int.mul_one]
 done:=by
  intro X hP hw hK hc i v4 s σ H E I hf st hg;subst hP hw hK;let⟨f0,f1,f2,f3,f4,f5⟩:=hf it (by simp);show wpAny_pyNext_range_end (I.ok.hd hc) st (by have:n≤i:=hg;lia) λh' eb=>⟨rfl,I.turned (t':=s.toks) (λb o hb e=>eb b o hb e) f0 f1 f3 f4 f5⟩
 self:=λ_ _ _ _ _ st h=>wpAny_pyIter_rangeiter st h
section
variable {tg: Expr}
abbrev acq(K:W.Frag)(tl:Al):Dc:=λσ H R=>tl σ H λx H1=>∃a,x=.ref a∧(∃xs,lG K H1 a xs)∧R (Rk K a) H1
abbrev qq(K:W.Frag)(tl:Al):Dc:=λσ H R=>tl σ H λx H1=>∃a,x=.ref a∧(∃xs,eJ K H1 a xs)∧R (RG K a) H1
def kV(hl:PE X l tl):PI X tg l (acq X.K tl):=by
 show .mk ?_;intro v4 s σ H R I h;show AQ (hl v4 s σ H _ I h) λv s1 ξ=>Ξ23 ξ λx H1 I1 r1 q1=>?_;let⟨a,e,⟨xs,hq⟩,q⟩:=q1;subst e;cases r1;let⟨aV,rv,p,hz⟩:=I1.list hq;show O5 p.isList ?_;show Ψ5 s1.heap.objs.size [s1.heap.objs.size] _ _ H1 ⟨rfl,I1.kept (t':=s1.toks) λb o e=>B9 _ e,ach a _,⟨_,DP _ rfl,rfl,rfl⟩,λb hb=>?_,q⟩;let e:b=s1.heap.objs.size:=by simpa using hb
 subst e;show I1.zg (Av _) (I1.cg.fresh (Av _))
def zS(hl:PE X l tl):PI X tg l (qq X.K tl):=by
 show .mk ?_;intro v4 s σ H R I h;show AQ (hl v4 s σ H _ I h) λv s1 ξ=>Ξ23 ξ λx H1 I1 r1 q1=>?_;let⟨a,e,⟨xs,hq⟩,q⟩:=q1;subst e;cases r1;let⟨aV,rv,p,hz⟩:=I1.tuple hq;show L0 (show s1.heap.IsTuple a aV.toArray from p) ?_;show Ψ5 s1.heap.objs.size [s1.heap.objs.size] _ _ H1 ⟨rfl,I1.kept (t':=s1.toks) λb o e=>B9 _ e,xP a _,⟨_,DP _ rfl,rfl,rfl⟩,λb hb=>?_,q⟩;let e:b=s1.heap.objs.size:=by simpa using hb
 subst e;show I1.zg (Av _) (I1.cg.fresh (Av _))
def uo{R:FT→AA→Prop}{lo hi:Int}{t u v:Tok}{tk:Nat}(I:Inv X v4 σ H s)(h1:-(2^62)≤lo)(h2:lo<2^62)(h3:-(2^62)≤hi)(h4:hi<2^62)
  (q:R (P5 lo (hi-lo).toNat) H):wpAny (model X.prog X.w) X.A (pyIter (.ref s.heap.objs.size)) (NH X v4 σ tg R) E {s with heap:=s.heap.push {cls:=.type "range",data:=.fields #[.int lo t,.int hi u,.int 1 v]},toks:=tk}:=by
 show wpAny_pyIter_range (IsRange.new ..) (small_one h1 h2 h3 h4) ?_;let I1:Inv X v4 σ H {s with heap:=s.heap.push {cls:=.type "range",data:=.fields #[.int lo t,.int hi u,.int 1 v]},toks:=tk}:=I.kept λb o e=>B9 _ e;show Ψ5 ((s.heap.push {cls:=.type "range",data:=.fields #[.int lo t,.int hi u,.int 1 v]}).objs.size) ([(s.heap.push {cls:=.type "range",data:=.fields #[.int lo t,.int hi u,.int 1 v]}).objs.size]) _ _ H ⟨rfl,
  I1.kept (t':=tk) λb o e=>B9 _ e,vL _ lo (hi-lo).toNat,?_,λb hb=>?_,q⟩
 ·let e1:lo+((0:Nat):Int)*1=lo:=by simp
  let e2:(((hi-lo).toNat:Nat):Int)-((0:Nat):Int)=Builtin.Range.rangeSize lo hi 1:=by rw[rangeSize_one];split<;>lia
  show IsRangeIter _ _ (lo+((0:Nat):Int)*1) ((((hi-lo).toNat:Nat):Int)-((0:Nat):Int)) 1
  rw[e1,e2];show DP _ rfl
 ·let e:b=(s.heap.push {cls:=.type "range",data:=.fields #[.int lo t,.int hi u,.int 1 v]}).objs.size:=by simpa using hb
  subst e;show I1.zg (Av _) (I1.cg.fresh (Av _))
abbrev oa(ta:CY):Dc:=λσ H R=>ta σ H λvs H1=>∃j:Int,vs=[.int j]∧-(2^62)≤j∧j<2^62∧R (P5 0 j.toNat) H1
def ab5{a:Expr}{ta:CY}{p pos:Pos}(hg:CF X "range")(hm:X.mg "range" = none)(ha:PA X [a] ta)(hs:starEach [a] X.env=[(false,eval a X.env)]:=by rfl):PI X tg (.Call (.Name "range" p) [a] [] pos) (oa ta):=by
 show .mk ?_;intro v4 s σ H R I h;show Call_ (KP I hg hm boot_range (MP (AQ (ha pos v4 s σ H _ I h) λus s1 ξ=>Ξ23 ξ λvs H1 I1 r1 q1=>?_) hs rfl));obtain⟨j,e,q1,q2,q⟩:=q1;subst e;cases r1 with
 |cons r rr=>
  cases rr;let⟨t,rfl⟩:=r;show call_range_1 (uo I1 (by lia) (by lia) q1 q2 (by simpa using q))
abbrev tC(wi:Dc)(g:Dv)(tb:CI):CI:=λD σ H=>wi σ H λJ H1=>∃W:Nat→Nat→St→AA→Prop,(∃m,W 0 m σ H1)∧∀i m σ H,W i m σ H→
 (J.stop i H∧D.nx σ H)∨(J.go i H∧∃N:St→AA→Prop,(∀σ' H',N σ' H'→∃m',m' < m∧W (i+1) m' σ' H')∧∀x H',J.rK i H x H'→g x σ H' λσ2 H2=>tb {D with nx:=N,ct:=N,bk:=D.nx} σ2 H2)
abbrev Im(fp:List Addr)(h:Heap):ac:=fp.filterMap λb=>(h.get? b).map λo=>(b,o)
def Gy{o:Obj}(hb:b∈fp)(e:h.get? b=some o):(b,o)∈Im fp h:=abV.mpr ⟨b,hb,by rw[e];rfl⟩
def adk{p:Addr×Obj}(hp:p∈Im fp h):p.1∈fp∧h.get? p.1=some p.2:=by
 let⟨b,hb,e⟩:=abV.mp hp;cases q:h.get? b with
 |none=>rw[q]at e;cases e
 |some o=>
  rw[q]at e;let e':(b,o)=p:=FE e;subst e';show⟨hb,q⟩
def Inv.pinned(I:Inv X v4 σ H s)(hf:∀b∈fp,Dq X v4 H b)(ho:∀b∈fp,∃o,s.heap.get? b=some o∧∀v,o.data≠.cell v):Inv X (v4++Im fp s.heap) σ H s:=
 I.BO λp hp=>(aaK.mp hp).elim (λz=>I.pin p (D2 _ z)) λz=>by
  let⟨hb,e⟩:=adk z;let⟨f0,f1,f2,_⟩:=hf p.1 hb;let⟨o,e',d⟩:=ho p.1 hb;rw[e]at e';cases e';show⟨e,f0,f1,f2,d⟩
def Inv.iM{pl:ac}(I:Inv X (v4++pl) σ H s):Inv X v4 σ H s:=I.BO λp hp=>I.pin p (D2 _ (K6 _ hp))
def adG{iter:Expr}{wi:Dc}{g:Dv}{tb:CI}{pos:Pos}(hp:PassesOwn (model X.prog X.w) X.A X.env X.xe)(hc:X.calm=true)(hi:PI X tg iter wi)(hg:PG X tg g)(hb:nH X body tb)
  (hs:∀x,foldedSetIterable iter X.env x=pure x:=by intro _;rfl):PS X (.For tg iter body [] pos) (tC wi g tb):=by
 show .mk ?_;intro v4 s σ H D I h;show wpAny_For (AQ (hi v4 s σ H _ I h) λv s1 h1=>AQ h1 λLG s2 h2=>?_) hs;let⟨it,fp,tn,J,H2,e,I2,T,qm,f2,⟨W,⟨m0,w0⟩,turn⟩⟩:=h2;subst e
 -- Vi stays true of Bx Oo objects through Bx loop
 let MK:∀{H':AA},(∀b∈fp,H' b=none)→∀b∈fp,Dq X v4 H' b:=λhn b hb=>⟨hn b hb,(f2 b hb).2⟩;show codeAny_forLoop_any (λn s'=>∃i σ' H',Inv X v4 σ' H' s'∧tn i s'.heap∧(∀b∈fp,H' b=none)∧W i n σ' H') ?_ m0 ⟨0,σ,H2,I2,qm,λb hb=>(f2 b hb).1,w0⟩;intro n s3⟨i,σ3,H3,I3,yq,zf,w3⟩;rcases turn i n σ3 H3 w3 with⟨stop,qn⟩|⟨go,N,hN,step⟩
 ·show K8 hp (AQ (T.done X rfl rfl rfl hc i v4 s3 σ3 H3 X.xe I3 (MK zf) yq stop) λr s4 ξ=>Ξ02 ξ λhr I4=>?_)
  subst hr;show Pn ⟨σ3,H3,I4,qn⟩
 ·show K8 hp (AQ (T.item X rfl rfl rfl hc i v4 s3 σ3 H3 X.xe I3 (MK zf) yq go) λr s4 ξ=>Ξ12 ξ λu hr h4=>?_)
  subst hr;show K8 hp (AQ h4 λ_ s5 ξ=>Ξ25 ξ λx H5 I5 r5 y5 tI G4=>?_);let HG:=I5.pinned (MK G4) (T.obj _ _ tI);show K8 hp (AQ (hg _ s5 σ3 H5 x u _ HG r5 (step x H5 y5)) λ_ s6 ξ=>Ξ22 ξ λσ6 H6 I6 q6=>?_);show K8 hp (AQ (hb _ s6 σ6 H6 _ I6 q6) λf s7 q7=>?_);let again:∀{σ7:St} {H7:AA},Inv X (v4++Im fp s5.heap) σ7 H7 s7→N σ7 H7→∃m,m<n∧∃i σ' H',Inv X v4 σ' H' s7∧tn i s7.heap∧(∀b∈fp,H' b=none)∧W i m σ' H':=λ{σ7 H7} I7 n7=>by
   let⟨m',hm,w7⟩:=hN σ7 H7 n7;show⟨m',hm,i+1,σ7,H7,I7.iM,T.keep _ _ _ tI λb hb o e=>(I7.pin (b,o) (D2 _ (D2 _ (Gy hb e)))).1,λb hb=>?_,w7⟩;let⟨o,e,d⟩:=T.obj _ _ tI b hb;show(I7.pin (b,o) (D2 _ (D2 _ (Gy hb e)))).2.1
  cases f with
  |next=>let⟨σ7,H7,I7,n7⟩:=q7;show again I7 n7
  |cont=>let⟨σ7,H7,I7,n7⟩:=q7;show again I7 n7
  |brk=>obtain⟨σ7,H7,I7,q7⟩:=q7;show Ψ2 σ7 H7 ⟨I7.iM,q7⟩
  |ret v=>obtain⟨x7,σ7,H7,I7,r7,q7⟩:=q7;show Ψ3 x7 σ7 H7 ⟨I7.iM,r7,q7⟩
end
abbrev E2:=V→V→AA→B1→Prop
abbrev jB(X:Cx)(f:Value→Value→Sem Value)(r:E2):Prop:=
 ∀v4 s σ H (x y:V) (v u:Value) (Q:B1),Inv X v4 σ H s→RelV x v→RelV y u→r x y H Q→
  wpAny (model X.prog X.w) X.A (f v u) (Bw X v4 σ Q) X.xe s
abbrev Qq(X:Cx)(f:Value→Sem Value)(r:V→AA→B1→Prop):Prop:=
 ∀v4 s σ H (x:V) (v:Value) (Q:B1),Inv X v4 σ H s→RelV x v→r x H Q→
  wpAny (model X.prog X.w) X.A (f v) (Bw X v4 σ Q) X.xe s
abbrev EK(X:Cx)(f:Value)(r:List V→AA→B1→Prop):Prop:=
 ∀v4 s σ H (xs:List V) (us:List Value) (Q:B1),Inv X v4 σ H s→Vals xs us→r xs H Q→
  wpAny (model X.prog X.w) X.A (call f us) (Bw X v4 σ Q) X.xe s
abbrev ow(X:Cx)(r:V→AA→(Bool→AA→Prop)→Prop):Prop:=
 ∀v4 s σ H (x:V) (v:Value) (Q:Bool→AA→Prop),Inv X v4 σ H s→RelV x v→r x H Q→
  wpAny (model X.prog X.w) X.A (truthy v) (KU X v4 σ Q) X.xe s
abbrev Mk(r:E2)(ta tb:Al):Al:=λσ H Q=>ta σ H λx H1=>tb σ H1 λy H2=>r x y H2 Q
abbrev aaQ(r:V→AA→B1→Prop)(ta:Al):Al:=λσ H Q=>ta σ H λx H1=>r x H1 Q
abbrev KI(C:Int→Int→Prop)(g:Int→Int→V):E2:=λx y H Q=>∃i j,x=.int i∧y=.int j∧C i j∧Q (g i j) H
abbrev Ih(g:Int→Int→V):E2:=λx y H Q=>∃i j,x=.int i∧y=.int j∧Q (g i j) H
abbrev dE(g:Int→V):V→AA→B1→Prop:=λx H Q=>∃i,x=.int i∧Q (g i) H
section
variable {a b: Expr}
def RW(ha:PE X a ta)(hb:PE X b tb){R:V→V→AA→Prop}(I:Inv X v4 σ H s)
  (h:ta σ H λx H1=>tb σ H1 λy H2=>R x y H2)  
  (hf:∀v u s2 x y H2,Inv X v4 σ H2 s2→RelV x v→RelV y u→R x y H2→wpAny (model X.prog X.w) X.A (f v u) Q X.xe s2) :
  wpAny (model X.prog X.w) X.A (eval a X.env) (λv s₁=>wpAny (model X.prog X.w) X.A (eval b X.env) (λu s₂=>wpAny (model X.prog X.w) X.A (f v u) Q X.xe s₂) X.xe s₁) X.xe s:=by
 show AQ (ha v4 s σ H _ I h) λv s1 ξ=>Ξ23 ξ λx H1 I1 r1 q1=>?_;show AQ (hb v4 s1 σ H1 _ I1 q1) λu s2 ξ=>Ξ23 ξ λy H2 I2 r2 q2=>?_;show hf v u s2 x y H2 I2 r1 r2 q2
def aah{op:Operator}(ho:jB X (binaryOp op) r)(ha:PE X a ta)(hb:PE X b tb):PE X (.BinOp a op b pos) (Mk r ta tb):=by
 show .mk ?_;intro v4 s σ H Q I h;show wpAny_BinOp (RW ha hb I h λv u s2 x y H2 I2 rx ry q=>ho v4 s2 σ H2 x y v u Q I2 rx ry q)
def abp{op:UnaryOp}{r:V→AA→B1→Prop}(ho:Qq X (unaryOp op) r)(ha:PE X a ta):PE X (.UnaryOp op a pos) (aaQ r ta):=by
 show .mk ?_;intro v4 s σ H Q I h;show UnaryOp_ (AQ (ha v4 s σ H _ I h) λv s1 ξ=>Ξ23 ξ λx H1 I1 r1 q1=>ho v4 s1 σ H1 x v Q I1 r1 q1)
def Lq{C:Int→Int→Prop}
  (rule:∀(i j:Int) (t u:Tok) (s:Shared) (Q:xz) (E:xz),C i j→Q (.int (g i j) s.toks) {s with toks:=s.toks+1}→wpAny (model X.prog X.w) X.A (f (.int i t) (.int j u)) Q E s) :
  jB X f (KI C λi j=>.int (g i j)):=by
 intro v4 s σ H x y v u Q I rx ry h;let⟨i,j,rfl,rfl,hc,q⟩:=h;let⟨t,rfl⟩:=rx;let⟨t',rfl⟩:=ry;show rule i j t t' s _ _ hc ⟨.int (g i j),H,I.tok _,⟨_,rfl⟩,q⟩
def kE
  (rule:∀(i j:Int) (t u:Tok) (s:Shared) (Q:xz) (E:xz),Q (.int (g i j) s.toks) {s with toks:=s.toks+1}→wpAny (model X.prog X.w) X.A (f (.int i t) (.int j u)) Q E s) :
  jB X f (Ih λi j=>.int (g i j)):=by
 intro v4 s σ H x y v u Q I rx ry h;let⟨i,j,rfl,rfl,q⟩:=h;let⟨t,rfl⟩:=rx;let⟨t',rfl⟩:=ry;show rule i j t t' s _ _ ⟨.int (g i j),H,I.tok _,⟨_,rfl⟩,q⟩
def O6{g:Int→Int→Bool}
  (rule:∀(i j:Int) (t u:Tok) (s:Shared) (Q:xz) (E:xz),Q (.bool (g i j)) s→wpAny (model X.prog X.w) X.A (f (.int i t) (.int j u)) Q E s) :
  jB X f (Ih λi j=>.bl (g i j)):=by
 intro v4 s σ H x y v u Q I rx ry h;let⟨i,j,rfl,rfl,q⟩:=h;let⟨t,rfl⟩:=rx;let⟨t',rfl⟩:=ry;show rule i j t t' s _ _ ⟨.bl (g i j),H,I,rfl,q⟩
abbrev Qk(i j:Int):Prop:=0≤j∧j≤1000000∧i.natAbs<2^64
abbrev DZ(i j:Int):Prop:=(-(2^64)<i∧i<2^64)∨(-(2^64)<j∧j<2^64)
def DZ.ok{i j:Int}(h:DZ i j):IntMulOk i j:=by
 rcases h with⟨h1,h2⟩|⟨h1,h2⟩
 ·show .of_left (intBits_le_64 h1 h2)
 ·show .of_right (intBits_le_64 h1 h2)
def oF:jB X (binaryOp .Add) (Ih λi j=>.int (i+j)):=kE λ_ _ _ _ _ _ _ q=>add_int q
def qD:jB X (binaryOp .Sub) (Ih λi j=>.int (i-j)):=kE λ_ _ _ _ _ _ _ q=>sub_int q
def acm:jB X (binaryOp .Mult) (KI DZ λi j=>.int (i*j)):=Lq λ_ _ _ _ _ _ _ hc q=>mul_int q hc.ok
def aak:jB X (binaryOp .Mod) (KI (λ_ j=>0<j) λi j=>.int (i%j)):=Lq λi j _ _ _ _ _ hc q=>by
 let h1:(0:Int)<j:=hc;show mod_int' (by lia) (by rw[Int.fmod_eq_emod_of_nonneg i (by lia)];show q)
def ma:jB X (binaryOp .Pow) (KI Qk λi j=>.int (i^j.toNat)):=Lq λ_ _ _ _ _ _ _ hc q=>pow_int_small hc.1 hc.2.1 hc.2.2 q
def wM:jB X (inplaceOp .Mult) (KI DZ λi j=>.int (i*j)):=Lq λ_ _ _ _ _ _ _ hc q=>imul_int q hc.ok
def tBM{f:Value→Sem Value}{g:Int→Int}
  (rule:∀(i:Int) (t:Tok) (s:Shared) (Q:xz) (E:xz),Q (.int (g i) s.toks) {s with toks:=s.toks+1}→wpAny (model X.prog X.w) X.A (f (.int i t)) Q E s) :
  Qq X f (dE λi=>.int (g i)):=by
 intro v4 s σ H x v Q I rx h;let⟨i,rfl,q⟩:=h;let⟨t,rfl⟩:=rx;show rule i t s _ _ ⟨.int (g i),H,I.tok _,⟨_,rfl⟩,q⟩
def uI:Qq X (unaryOp .USub) (dE λi=>.int (-i)):=tBM λ_ _ _ _ _ q=>neg_int q
end
abbrev Pd:V→V→Bool
 |.non,.non=>true|.non,.int _=>true|.int _,.non=>true|.non,.bl _=>true|.bl _,.non=>true|.non,.str _=>true|.str _,.non=>true
 |.int _,.int _=>true|.bl _,.bl _=>true|.str _,.str _=>true|.byt _,.byt _=>true
 |.int _,.str _=>true|.str _,.int _=>true|.bl _,.str _=>true|.str _,.bl _=>true
 |_,_=>false
abbrev acz:E2:=λx y H Q=>Pd x y=true∧Q (.bl (decide (x=y))) H
abbrev mw:E2:=λx y H Q=>Pd x y=true∧Q (.bl (!decide (x=y))) H
def Vt{i j:Int}:decide (V.int i=V.int j)=(i==j):=by
 rw[GO];simp
def eT{i j:Bool}:decide (V.bl i=V.bl j)=(i==j):=by
 rw[GO];simp
def ik{i j:Str}:decide (V.str i=V.str j)=(i==j):=by
 rw[GO];simp
def iD{i j:Array UInt8}:decide (V.byt i=V.byt j)=(i.toList==j.toList):=by
 rw[GO];cases i;cases j;simp
section
variable {a b c: Expr}{tc: Al}
def CU{Q:B1}{k k':Bool}(I:Inv X v4 σ H s)(q:Q (.bl k) H)(e:k=k'):Bw X v4 σ Q (.bool k') s:=by
 subst e;show Ψ2 (.bl k) H ⟨I,rfl,q⟩
def zV:jB X (compareOp .Eq) acz:=by
 intro v4 s σ H x y v u Q I rx ry h;let⟨hs,q⟩:=h;cases x with
 |non=>
  cases rx;cases y with
  |non=>cases ry;show PySem.EqNone.eq_none_none (CU I q (by simp))
  |bl j=>cases ry;show PySem.EqNone.eq_none_bool (CU I q (by simp))
  |int j=>let⟨t',rfl⟩:=ry;show PySem.EqNone.eq_none_int (CU I q (by simp))
  |str j=>let⟨t',rfl⟩:=ry;show PySem.EqNone.eq_none_str (CU I q (by simp))
  |_=>show absurd (show false=true from hs) Cf
 |bl i=>
  cases rx;cases y with
  |non=>cases ry;show PySem.EqNone.eq_bool_none (CU I q (by simp))
  |bl j=>cases ry;show eq_bool (CU I q eT)
  |str j=>let⟨t',rfl⟩:=ry;show PySem.EqMixed.eq_bool_str (CU I q (by simp))
  |_=>show absurd (show false=true from hs) Cf
 |int i=>
  let⟨t,rfl⟩:=rx;cases y with
  |non=>cases ry;show PySem.EqNone.eq_int_none (CU I q (by simp))
  |int j=>let⟨t',rfl⟩:=ry;show eq_int (CU I q Vt)
  |str j=>let⟨t',rfl⟩:=ry;show PySem.EqMixed.eq_int_str (CU I q (by simp))
  |_=>show absurd (show false=true from hs) Cf
 |str i=>
  let⟨t,rfl⟩:=rx;cases y with
  |non=>cases ry;show PySem.EqNone.eq_str_none (CU I q (by simp))
  |bl j=>cases ry;show PySem.EqMixed.eq_str_bool (CU I q (by simp))
  |int j=>let⟨t',rfl⟩:=ry;show PySem.EqMixed.eq_str_int (CU I q (by simp))
  |str j=>let⟨t',rfl⟩:=ry;show eq_str (CU I q ik)
  |_=>show absurd (show false=true from hs) Cf
 |byt i=>
  let⟨t,rfl⟩:=rx;cases y with
  |byt j=>let⟨t',rfl⟩:=ry;show W.eq_bytes (CU I q iD)
  |_=>show absurd (show false=true from hs) Cf
 |_=>cases y<;>show absurd (show false=true from hs) Cf
def zR:jB X (compareOp .NotEq) mw:=by
 intro v4 s σ H x y v u Q I rx ry h;let⟨hs,q⟩:=h;cases x with
 |non=>
  cases rx;cases y with
  |non=>cases ry;show PySem.EqNone.ne_none_none (CU I q (by simp))
  |bl j=>cases ry;show PySem.EqNone.ne_none_bool (CU I q (by simp))
  |int j=>let⟨t',rfl⟩:=ry;show PySem.EqNone.ne_none_int (CU I q (by simp))
  |str j=>let⟨t',rfl⟩:=ry;show PySem.EqNone.ne_none_str (CU I q (by simp))
  |_=>show absurd (show false=true from hs) Cf
 |bl i=>
  cases rx;cases y with
  |non=>cases ry;show PySem.EqNone.ne_bool_none (CU I q (by simp))
  |bl j=>cases ry;show ne_bool (CU I q (EJ not eT))
  |str j=>let⟨t',rfl⟩:=ry;show PySem.EqMixed.ne_bool_str (CU I q (by simp))
  |_=>show absurd (show false=true from hs) Cf
 |int i=>
  let⟨t,rfl⟩:=rx;cases y with
  |non=>cases ry;show PySem.EqNone.ne_int_none (CU I q (by simp))
  |int j=>let⟨t',rfl⟩:=ry;show ne_int (CU I q (EJ not Vt))
  |str j=>let⟨t',rfl⟩:=ry;show PySem.EqMixed.ne_int_str (CU I q (by simp))
  |_=>show absurd (show false=true from hs) Cf
 |str i=>
  let⟨t,rfl⟩:=rx;cases y with
  |non=>cases ry;show PySem.EqNone.ne_str_none (CU I q (by simp))
  |bl j=>cases ry;show PySem.EqMixed.ne_str_bool (CU I q (by simp))
  |int j=>let⟨t',rfl⟩:=ry;show PySem.EqMixed.ne_str_int (CU I q (by simp))
  |str j=>let⟨t',rfl⟩:=ry;show ne_str (CU I q (EJ not ik))
  |_=>show absurd (show false=true from hs) Cf
 |byt i=>
  let⟨t,rfl⟩:=rx;cases y with
  |byt j=>let⟨t',rfl⟩:=ry;show W.ne_bytes (CU I q (EJ not iD))
  |_=>show absurd (show false=true from hs) Cf
 |_=>cases y<;>show absurd (show false=true from hs) Cf
def rg:jB X (compareOp .Lt) (Ih λi j=>.bl (decide (i<j))):=O6 λ_ _ _ _ _ _ _ q=>lt_int q
def xM:jB X (compareOp .LtE) (Ih λi j=>.bl (decide (i≤j))):=O6 λ_ _ _ _ _ _ _ q=>le_int q
def tX:jB X (compareOp .Gt) (Ih λi j=>.bl (decide (j<i))):=O6 λ_ _ _ _ _ _ _ q=>gt_int q
def abd:jB X (compareOp .GtE) (Ih λi j=>.bl (decide (j≤i))):=O6 λ_ _ _ _ _ _ _ q=>ge_int q
def uf:jB X (compareOp .In) (λx y H Q=>∃i j,x=.str i∧y=.str j∧Q (.bl (!(Builtin.Str.occurrences j i 0 j.length 1).isEmpty)) H):=by
 intro v4 s σ H x y v u Q I rx ry h;let⟨i,j,rfl,rfl,q⟩:=h;let⟨t,rfl⟩:=rx;let⟨t',rfl⟩:=ry;show in_str (CU I q rfl)
def kP:jB X (compareOp .Is) (λx y H Q=>y=.non∧Q (.bl (decide (x=.non))) H):=by
 intro v4 s σ H x y v u Q I rx ry h;let⟨rfl,q⟩:=h;cases ry;show is_none_gen (CU I q ?_);cases x<;>first
  |(cases rx;rfl)
  |(let⟨t,rfl⟩:=rx;rfl)
def sf:jB X (compareOp .IsNot) (λx y H Q=>y=.non∧Q (.bl (!decide (x=.non))) H):=by
 intro v4 s σ H x y v u Q I rx ry h;let⟨rfl,q⟩:=h;cases ry;show isnot_none_gen (CU I q ?_);cases x<;>first
  |(cases rx;rfl)
  |(let⟨t,rfl⟩:=rx;rfl)
def lW:jB X (compareOp .NotIn) (λx y H Q=>∃i j,x=.str i∧y=.str j∧Q (.bl (!(!(Builtin.Str.occurrences j i 0 j.length 1).isEmpty))) H):=by
 intro v4 s σ H x y v u Q I rx ry h;let⟨i,j,rfl,rfl,q⟩:=h;let⟨t,rfl⟩:=rx;let⟨t',rfl⟩:=ry;show notIn_str (CU I q rfl)
def jB.or(h:jB X f r)(h':jB X f r'):jB X f (λx y H Q=>r x y H Q∨r' x y H Q):=by
 intro v4 s σ H x y v u Q I rx ry q;rcases q with q|q
 ·show h v4 s σ H x y v u Q I rx ry q
 ·show h' v4 s σ H x y v u Q I rx ry q
def X3(b:Expr){op:CmpOp}(h:op≠.In:=by decide)(h2:op≠.NotIn:=by decide):behindInMarks op b=false:=by
 let e1:(op==CmpOp.In)=false:=by cases op<;>first|rfl|show absurd rfl h
 let e2:(op==CmpOp.NotIn)=false:=by cases op<;>first|rfl|show absurd rfl h2
 cases b<;>simp[behindInMarks,e1,e2]
def kG{op:CmpOp}(ho:jB X (compareOp op) r)(ha:PE X a ta)(hb:PE X b tb)(hm:behindInMarks op b=false):PE X (.Compare a [op] [b] pos) (Mk r ta tb):=by
 show .mk ?_;intro v4 s σ H Q I h;show wpAny_Compare1 (RW ha hb I h λv u s2 x y H2 I2 rx ry q=>ho v4 s2 σ H2 x y v u Q I2 rx ry q) hm
abbrev QW(t:Al):Cr:=λσ H Q=>t σ H λx H'=>∃k,x=.bl k∧Q k H'
def tL{op:CmpOp}(ho:jB X (compareOp op) r)(ha:PE X a ta)(hb:PE X b tb)(hm:behindInMarks op b=false):PT X (.Compare a [op] [b] pos) (QW (Mk r ta tb)):=by
 show .mk ?_;intro v4 s σ H Q I h;show wpAny_isTrue_Compare1 (AQ (ha v4 s σ H _ I h) λv s1 ξ=>Ξ23 ξ λx H1 I1 r1 q1=>AQ (hb v4 s1 σ H1 _ I1 q1) λu s2 ξ=>Ξ23 ξ λy H2 I2 r2 q2=>
  AQ (ho v4 s2 σ H2 x y v u _ I2 r1 r2 q2) λc s3⟨z,H3,I3,r3,k,e,q3⟩=>?_) hm
 subst e;cases r3;show Hr ⟨H3,I3,q3⟩
abbrev Tw(r r':E2)(ta tb tc:Al):Al:=λσ H Q=>ta σ H λx H1=>tb σ H1 λy H2=>r x y H2 λz H3=>∃k,z=.bl k∧
 (if k=true then tc σ H3 λw' H4=>r' y w' H4 Q else Q (.bl false) H3)
def rN{op:CmpOp}(ho:jB X (compareOp op) r)(sU:jB X (compareOp BW) r')(ha:PE X a ta)(hb:PE X b tb)(hc:PE X c tc)
  (hm:lastMarks [op,BW] [b,c]=false:=by with_unfolding_all rfl):PE X (.Compare a [op,BW] [b,c] pos) (Tw r r' ta tb tc):=by
 show .mk ?_;intro v4 s σ H Q I h;show Compare_chain (AQ (ha v4 s σ H _ I h) λv s1 ξ=>Ξ23 ξ λx H1 I1 r1 q1=>chain_link (AQ (hb v4 s1 σ H1 _ I1 q1) λu s2 ξ=>Ξ23 ξ λy H2 I2 r2 q2=>
  AQ (ho v4 s2 σ H2 x y v u _ I2 r1 r2 q2) λd s3⟨z,H3,I3,r3,k,e,q3⟩=>?_)) hm
 subst e;cases r3;show Hr ?_;cases k with
 |false=>show ite_ff ⟨.bl false,H3,I3,rfl,q3⟩
 |true=>show ite_tt (chain_last (AQ (hc v4 s3 σ H3 _ I3 q3) λw' s4 ξ=>Ξ23 ξ λz' H4 I4 r4 q4=>sU v4 s4 σ H4 y z' u w' Q I4 r2 r4 q4))
def nT{op:CmpOp}(ho:jB X (compareOp op) r)(sU:jB X (compareOp BW) r')(ha:PE X a ta)(hb:PE X b tb)(hc:PE X c tc)
  (hm:lastMarks [op,BW] [b,c]=false:=by with_unfolding_all rfl):PT X (.Compare a [op,BW] [b,c] pos) (QW (Tw r r' ta tb tc)):=by
 show .mk ?_;intro v4 s σ H Q I h;show isTrue_chain (AQ (ha v4 s σ H _ I h) λv s1 ξ=>Ξ23 ξ λx H1 I1 r1 q1=>test_link (AQ (hb v4 s1 σ H1 _ I1 q1) λu s2 ξ=>Ξ23 ξ λy H2 I2 r2 q2=>
  AQ (ho v4 s2 σ H2 x y v u _ I2 r1 r2 q2) λd s3⟨z,H3,I3,r3,k,e,q3⟩=>?_)) hm
 subst e;cases r3;show Hr ?_;cases k with
 |false=>
  let⟨k',e',q'⟩:=q3;cases e';show ite_ff ⟨H3,I3,q'⟩
 |true=>
  show ite_tt (test_last (AQ (hc v4 s3 σ H3 _ I3 q3) λw' s4 ξ=>Ξ23 ξ λz' H4 I4 r4 q4=>AQ (sU v4 s4 σ H4 y z' u w' _ I4 r2 r4 q4) λd' s5⟨z2,H5,I5,r5,k2,e2,q5⟩=>?_));subst e2;cases r5;show Hr ⟨H5,I5,q5⟩
abbrev Rb(K:W.Frag)(x:V)(H:AA)(k:Bool):Prop:=
 match x with
 |.non=>k=false
 |.bl b=>k=b
 |.int i=>k=(i != 0)
 |.str y=>y.length≤sizeLine∧k=((y.length:Int) != 0)
 |.byt y=>y.size≤sizeLine∧k=((y.size:Int) != 0)
 |.ref p=>(∃xs,lG K H p xs∧k=!xs.isEmpty)∨(∃xs,eJ K H p xs∧k=!xs.isEmpty)∨∃aF,H p=some (.dK aF)∧k=!aF.isEmpty
 |_=>False
def yJ{κ:Type}{aF:List (κ×V)}{vs:List (κ×Value)}(r:KV aF vs):(!vs.isEmpty)=!aF.isEmpty:=by
 cases r<;>rfl
def eO{aV:List Value}(r:Vals xs aV):(!aV.toArray.isEmpty)=!xs.isEmpty:=by
 cases r<;>simp
def Lk:(sizeLine:Nat)<2^63:=by rw[Dd];decide
def vt:ow X (λx H Q=>∃k,Rb X.K x H k∧Q k H):=by
 intro v4 s σ H x v Q I rx h;let⟨k,e,q⟩:=h;let hl:=Lk;let hs:sizeLine=16777216:=Dd;cases x with
 |non=>
  cases rx;let e':k=false:=e;subst e';show truthy_none ⟨H,I,q⟩
 |bl b=>
  cases rx;let e':k=b:=e;subst e';show Hr ⟨H,I,q⟩
 |int i=>
  let⟨t,rfl⟩:=rx;let e':k=(i != 0):=e;subst e';show PySem.P.truthy_int ⟨H,I,q⟩
 |str y=>
  let⟨t,rfl⟩:=rx;obtain⟨hy,e'⟩:y.length≤sizeLine∧k=((y.length:Int) != 0):=e;subst e';show PySem.P.truthy_str (by lia) ⟨H,I.tok _,q⟩
 |byt y=>
  let⟨t,rfl⟩:=rx;obtain⟨hy,e'⟩:y.size≤sizeLine∧k=((y.size:Int) != 0):=e;subst e';show W.truthy_bytes (by lia) ⟨H,I.tok _,q⟩
 |ref p=>
  cases rx;let e':(∃xs,lG X.K H p xs∧k=!xs.isEmpty)∨(∃xs,eJ X.K H p xs∧k=!xs.isEmpty)∨∃aF,H p=some (.dK aF)∧k=!aF.isEmpty:=e;rcases e' with⟨xs,hx,e'⟩|⟨xs,hx,e'⟩|⟨aF,hx,e'⟩
  ·subst e'
   let⟨aV,r,pl,hz⟩:=I.list hx;let hlen:=r.length;show wpAny_truthy_list pl.isList (by simp only[Bf];lia) ⟨H,I.tok _,by rw[eO r];show q⟩
  ·subst e'
   let⟨aV,r,pl,hz⟩:=I.tuple hx;let hlen:=r.length;show truthy_tuple pl (by simp only[Bf];lia) ⟨H,I.tok _,by rw[eO r];show q⟩
  ·subst e'
   obtain⟨hz,hS,vs,r,m⟩:aF.length≤sizeLine∧(p==sysModules)=false∧∃vs,KV aF vs∧s.heap.DictOf (Ai X.prog X.w) p vs:=I.cg p _ hx;let hlen:aF.length=vs.length:=QS r;show wpAny_truthy_dict hS m (by lia) ⟨H,I.tok _,by rw[yJ r];show q⟩
 |_=>show(show False from e).elim
def abc(ha:PE X a ta)(he:∀whole,isTrue a X.env whole=(do let v ←whole;standAt a.pos;holding [v] (truthy v))):
  PT X a (λσ H Q=>ta σ H λx H'=>∃k,Rb X.K x H' k∧Q k H'):=by
 show .mk ?_;intro v4 s σ H Q I h;show isTrue_plain (AQ (ha v4 s σ H _ I h) λv s1 ξ=>Ξ23 ξ λx H1 I1 r1 q1=>vt v4 s1 σ H1 x v Q I1 r1 q1) (he _)
def aan:jB X (binaryOp .Add) (λx y H Q=>∃i j,x=.str i∧y=.str j∧i.length+j.length≤sizeLine∧Q (.str (i++j)) H):=by
 intro v4 s σ H x y v u Q I rx ry h;let⟨i,j,rfl,rfl,hz,q⟩:=h;let⟨t,rfl⟩:=rx;let⟨t',rfl⟩:=ry;show add_str (λt' tk=>Ψ2 (.str (i++j)) H ⟨I.tok _,⟨_,rfl⟩,q⟩) hz
def vals1{x:V}(r:Vals [x] us):∃u,us=[u]∧RelV x u:=by
 cases r with
 |cons r1 r2=>cases r2;show⟨_,rfl,r1⟩
def vals2{x:V}(r:Vals [x,y] us):∃u w',us=[u,w']∧RelV x u∧RelV y w':=by
 cases r with
 |cons r1 r2=>
  cases r2 with
  |cons r3 r4=>cases r4;show Ψ2 _ _ ⟨rfl,r1,r3⟩
def zQ(hc:X.calm=true):EK X (.builtin "max") (λxs H Q=>∃i j,xs=[.int i,.int j]∧Q (.int (if j>i then j else i)) H):=by
 intro v4 s σ H xs us Q I r h;let⟨i,j,rfl,q⟩:=h;let⟨u,w',rfl,⟨t,rfl⟩,⟨t',rfl⟩⟩:=vals2 r;show max_two_ints (I.ok.hd hc) λh' tk k=>Ψ2 _ H ⟨I.kept k,?_,q⟩;by_cases hj:j>i
 ·rw[Aa hj,Aa hj];show⟨_,rfl⟩
 ·rw[AV hj,AV hj];show⟨_,rfl⟩
def yE(hc:X.calm=true):EK X (.builtin "min") (λxs H Q=>∃i j,xs=[.int i,.int j]∧Q (.int (if j<i then j else i)) H):=by
 intro v4 s σ H xs us Q I r h;let⟨i,j,rfl,q⟩:=h;let⟨u,w',rfl,⟨t,rfl⟩,⟨t',rfl⟩⟩:=vals2 r;show min_two_ints (I.ok.hd hc) λh' tk k=>Ψ2 _ H ⟨I.kept k,?_,q⟩;by_cases hj:j<i
 ·rw[Aa hj,Aa hj];show⟨_,rfl⟩
 ·rw[AV hj,AV hj];show⟨_,rfl⟩
def tU:EK X (.type "str") (λxs H Q=>∃i,xs=[.int i]∧i.natAbs.log2<1920∧Q (.str (toString i)) H):=by
 intro v4 s σ H xs us Q I r h;let⟨i,rfl,hz,q⟩:=h;let⟨u,rfl,⟨t,rfl⟩⟩:=vals1 r;show PySem.P.str_of_int hz ⟨.str _,H,I.tok _,⟨_,rfl⟩,q⟩
def wb:EK X (.builtin "ord") (λxs H Q=>∃x,xs=[.str x]∧x.length=1∧Q (.int (x.cps.getD 0 0:Nat)) H):=by
 intro v4 s σ H xs us Q I r h;let⟨x,rfl,hz,q⟩:=h;let⟨u,rfl,⟨t,rfl⟩⟩:=vals1 r;show ord_of_one hz ⟨.int _,H,I.tok _,⟨_,rfl⟩,q⟩
end
structure Bo(h:Heap)(x dx C:Addr)(mA:KK):Prop where
 obj:h.get? x=some (W.instObj C dx)
 ns:h.Ns1 dx mA
 ne:dx≠x
def yi{dx:Addr}(n:h.Ns1 dx mA):∃od,h.get? dx=some od∧∀name,W.lookIn name od=some (mA name):=by
 let⟨o,es,ep,ho,hd,hk,_,hm⟩:=n;show⟨o,ho,λname=>?_⟩;let e:=hm name;unfold nsFind findBy at e;rw[←Array.find?_toList]at e;unfold W.lookIn;rw[hd];dsimp only;split
 ·rename_i y q
  rw[q]at e;show EJ some e
 ·rename_i q
  rw[q]at e;let a:es.toList.any (·.refKey)=false:=by
   rw[List.any_eq_false];intro y hy;let⟨z,t,Xg⟩:=hk y (Array.mem_toList_iff.mp hy);simp[DictEntry.refKey,Xg]
  let a':¬es.toList.any (·.refKey)=true:=by rw[a];show Cf
  rw[AV a'];show EJ some e
def Bo.look{x dx:Addr}(I:Bo h x dx C mA):∃od,W.InstAt h x (W.instObj C dx) C (some od)∧∀name,W.lookIn name od=some (mA name):=
 let⟨od,ho,hl⟩:=yi I.ns
 ⟨od,⟨I.obj,rfl,rfl,ho⟩,hl⟩
section
variable {prog: Program}{w: World}{A: Around}{E: Value→Shared→Prop}{s: Shared}{K: W.Frag}{x C f: Addr}{mA: Str→Option Value}{name: Str}{v: Value}
def get_map{expr:Bool}(X:K.In s.heap)(I:Bo s.heap x dx C mA)(hg:W.plainGet K C name=true)(hh:W.hasDictIn K C=true)
  (ha:W.findIn K (.ref C) name=some none) (hv:mA name=some v) (Dx:W.handedIn v=true) (h:Q v {s with toks:=s.toks+1}) :
  wpAny (model prog w) A (getAttr (.ref x) name expr) Q E s:=by
 let⟨od,J,hl⟩:=I.look;show W.get_value X J (TA hg).1 (W.findObj_own hh ha rfl (by rw[hl,hv])) Dx h
def acC{Q:Value×List Value→Shared→Prop}(X:K.In s.heap)(I:Bo s.heap x dx C mA)(hg:W.plainGet K C name=true)
  (hf:W.findIn K (.ref C) name=some (some (.ref f))) (ht:W.isFn K (.ref f)=true) (hv:mA name=none) (h:Q (.ref f,[.ref x]) s) :
  wpAny (model prog w) A (getMethod (.ref x) name pl) Q E s:=by
 let⟨od,J,hl⟩:=I.look;show W.method_fn X J (TA hg).1 (TA hg).2 hf (abZ.mp ht) (by show(W.lookIn name od).map (·.isSome)=some false;rw[hl,hv];rfl) h
def adF{ns:List Str}{Q:Unit→Shared→Prop}(X:K.In s.heap)(I:Bo s.heap x dx C mA)
  (hs:W.findIn K (.ref C) "__setattr__" = some (some (.builtin "object.__setattr__"))) (hp:W.plainOver K C=true) (ht:W.takerIn K C name=some none) (hh:W.hasDictIn K C=true)
  (hw:PySem.Within mA ns) (hsz:ns.length≤sizeLine)
  (h:∀h',Bo h' x dx C (λy=>if y=name then some v else mA y)→Heap.SameBut dx s.heap h'→Q () {s with heap:=h',toks:=s.toks+2}) :
  wpAny (model prog w) A (setAttr (.ref x) name v) Q E s:=by
 let⟨od,J,hl⟩:=I.look;show W.set_plain X J hs (W.osa_open (s:={s with toks:=s.toks+1}) (r:=none) X J hp ht λb=>?_);let⟨cd,hc,hd'⟩:=W.any_some hh;let hx:s.heap.get? x=some ⟨.ref C,some dx,.plain,#[]⟩:=I.obj;show AE (Af (AE (AE (wpAny_loadPart hx (AE (W.Looks.here (s:={s with toks:=s.toks+1}) (W.looks_clsIn X hc) ?_))))));rw[hd'];show Af (a:=some dx) (AE (Af (AE ?_)));show wpAny_nsSet1 (s:={s with toks:=s.toks+1}) I.ns λh' UQ sT=>?_;let⟨oD,esD,epD,hoD,hdD,hcD⟩:=UQ.count (PySem.Within.cons name v hw);show AE (wpAny_lookBehind hoD (by rw[hdD];show pastItsLine_dict (Ci hcD (by rw[D7];lia))) ?_);show Af (h _ ⟨(sT.2 _ (GF I.ne)).trans I.obj,UQ,I.ne⟩ sT)
def pq{R:Result→Shared→Prop}{vs:List Value}(X:K.In s.heap)(hm:W.makesIn K C=true)
  (hi:W.findIn K (.ref C) "__init__" = some (some (.ref f))) (hf:W.typeIn K (.ref f)=some (.type "function"))
  (h:codeAny (model prog w) (A.under (.builtin "type.__call__" ⟨.ref C::vs,kw⟩)) (.call (.ref f) ⟨.ref (s.heap.objs.size+1)::vs,kw⟩) (W.InitBack (s.heap.objs.size+1) R)
   {s with heap:=(s.heap.push W.emptyDict).push (W.instObj C s.heap.objs.size)}) :
  codeAny (model prog w) A (.call (.ref C) ⟨vs,kw⟩) R s:=by
 obtain⟨hh,g,d,t,os⟩:=s;show W.make_core (W.makes_of X hm) (W.looks_findIn X hi) (λself=>W.bind_fn X self hf) (.inl rfl) h
end
abbrev Em(f:Str)(v:V):List (Str×V)→List (Str×V)
 |[]=>[(f,v)]
 |(g,x)::r=>if g=f then(g,v)::r else(g,x)::Em f v r
def bg(f g:Str)(v:V):∀fs:List (Str×V),(Em f v fs).lookup g=if g=f then some v else fs.lookup g
 |[]=>by
  show List.lookup g [(f,v)]=_
  by_cases h:g=f
  ·let hb:(g==f)=true:=abZ.mpr h
   simp only[List.lookup,hb,Aa h]
  ·let hb:(g==f)=false:=aa0.mpr h
   simp only[List.lookup,hb,AV h]
 |(k,x)::r=>by
  let ih:=bg f g v r;rw[show Em f v ((k,x)::r)=(if k=f then(k,v)::r else(k,x)::Em f v r)from rfl];by_cases hk:k=f
  ·rw[Aa hk]
   by_cases h:g=k
   ·let hb:(g==k)=true:=abZ.mpr h
    simp only[List.lookup,hb,Aa (h.trans hk)]
   ·let hb:(g==k)=false:=aa0.mpr h
    simp only[List.lookup,hb,AV (λe:g=f=>h (e.trans hk.symm))]
  ·rw[AV hk]
   by_cases h:g=k
   ·let hb:(g==k)=true:=abZ.mpr h
    simp only[List.lookup,hb,AV (λe:g=f=>hk (h.symm.trans e))]
   ·let hb:(g==k)=false:=aa0.mpr h
    simp only[List.lookup,hb];show ih
def TG(f:Str)(v:V):∀fs:List (Str×V),f∈(Em f v fs).map (·.1)∧∀g,g∈fs.map (·.1)→g∈(Em f v fs).map (·.1)
 |[]=>⟨by simp[Em],λg h=>by simp at h⟩
 |(k,x)::r=>by
  let⟨i1,i2⟩:=TG f v r;rw[show Em f v ((k,x)::r)=(if k=f then(k,v)::r else(k,x)::Em f v r)from rfl];by_cases hk:k=f
  ·rw[Aa hk]
   subst hk;show⟨by simp,λg h=>by simpa using h⟩
  ·rw[AV hk]
   show⟨?_,λg h=>?_⟩
   ·rw[CT]
    show Dm _ i1
   ·rw[CT]at h ⊢
    rcases aaf.mp h with e|e
    ·show aaf.mpr (.inl e)
    ·show Dm _ (i2 g e)
def eP(f:Str)(v:V):∀fs:List (Str×V),(Em f v fs).length≤fs.length+1
 |[]=>by simp[Em]
 |(k,x)::r=>by
  let ih:=eP f v r;rw[show Em f v ((k,x)::r)=(if k=f then(k,v)::r else(k,x)::Em f v r)from rfl];by_cases hk:k=f
  ·rw[Aa hk,D7,D7];lia
  ·rw[AV hk,D7,D7];lia
def lH.some_of{o:Option Value}(r:lH (some v) o):∃u,o=some u∧RelV v u:=by
 cases o with
 |none=>show(show False from r).elim
 |some u=>show⟨u,rfl,r⟩
def lH.none_of{o:Option Value}(r:lH none o):o=none:=by
 cases o with
 |none=>rfl
 |some u=>show(show False from r).elim
def mf(r:RelV v u):W.handedIn u=true:=by
 cases v with
 |non=>cases(show u=Value.none from r);rfl
 |bl b=>cases(show u=Value.bool b from r);rfl
 |int i=>let⟨t,e⟩:=(show ∃t,u=Value.int i t from r);cases e;rfl
 |str x=>let⟨t,e⟩:=(show ∃t,u=Value.str x t from r);cases e;rfl
 |byt b=>let⟨t,e⟩:=(show ∃t,u=Value.bytes b t from r);cases e;rfl
 |flt b=>let⟨t,e⟩:=(show ∃t,u=Value.float b t from r);cases e;rfl
 |ref a=>cases(show u=Value.ref a from r);rfl
 |ty n=>cases(show u=Value.type n from r);rfl
section
variable {P: Program}{w: World}{H: AA}{h: Heap}{a C: Addr}{fs: List (Str×V)}
def P4(cg:oM P w H h)(e:H a=some (.ins C dx fs)):∃mA,Bo h a dx C mA∧(∀f,lH (fs.lookup f) (mA f))∧PySem.Within mA (fs.map (·.1))∧fs.length≤1000∧H dx=some (.own a):=by
 let⟨d,z,ne,ob,⟨mA,n,r,q⟩⟩:=(show cA P w H h a (.ins C dx fs)from cg a _ e);show⟨mA,⟨ob,n,ne⟩,r,q,z,d⟩
end
structure qX(K:W.Frag)(C:Addr):Prop where
 pg:W.plainGet K C Str.empty=true
 hd:W.hasDictIn K C=true
 po:W.plainOver K C=true
 sa:W.findIn K (.ref C) "__setattr__" = some (some (.builtin "object.__setattr__"))
def qX.get(c:qX K C)(f:Str):W.plainGet K C f=true:=c.pg
abbrev bW(K:W.Frag)(C:Addr)(f:Str):Prop:=W.findIn K (.ref C) f=some none
def bW.Qb{f:Str}(n:bW K C f):W.takerIn K C f=some none:=by
 unfold W.takerIn;rw[show W.findIn K (.ref C) f=some none from n];rfl
structure Meth(K:W.Frag)(C:Addr)(m:Str)(f:Addr):Prop where
 at_:W.findIn K (.ref C) m=some (some (.ref f))
 fn:W.isFn K (.ref f)=true
 kp:W.keepIn K (.ref f)=true
section
variable {v4: List (Addr×Obj)}{σ: St}{H: AA}{s: Shared}{a C: Addr}{fs: List (Str×V)}{f: Str}{v: V}{A: Around}{E: Value→Shared→Prop}
def uy{b:Bool}(I:Inv X v4 σ H s)(e:H a=some (.ins C dx fs))(c:qX X.K C)(n:bW X.K C f)(l:fs.lookup f=some v)
  (h:∀u s',Inv X v4 σ H s'→RelV v u→Q u s'):wpAny (model X.prog X.w) A (getAttr (.ref a) f b) Q E s:=by
 let⟨mA,O,r,_,_,_⟩:=P4 I.cg e;let⟨u,hu,ru⟩:=lH.some_of (v:=v) (o:=mA f) (by rw[←l];show r f);show get_map I.pL O (c.get f) c.hd n hu (mf ru) (h u _ (I.tok _) ru)
def aaI{m:Str}{g:Addr}{Q:Value×List Value→Shared→Prop}(I:Inv X v4 σ H s)(e:H a=some (.ins C dx fs))(c:qX X.K C)(k:Meth X.K C m g)(l:fs.lookup m=none)
  (h:Q (.ref g,[.ref a]) s):wpAny (model X.prog X.w) A (getMethod (.ref a) m pl) Q E s:=by
 let⟨mA,O,r,_,_,_⟩:=P4 I.cg e;let hn:mA m=none:=lH.none_of (by rw[←l];show r m);show acC I.pL O (c.get m) k.at_ k.fn hn h
def aaz{Q:Unit→Shared→Prop}(I:Inv X v4 σ H s)(e:H a=some (.ins C dx fs))(c:qX X.K C)(n:bW X.K C f)(hl:fs.length<1000)(ry:RelV y u)
  (h:∀s',Inv X v4 σ (Ac H a (.ins C dx (Em f y fs))) s'→Q () s'):wpAny (model X.prog X.w) A (setAttr (.ref a) f u) Q E s:=by
 let⟨mA,O,r,wi,_,ho⟩:=P4 I.cg e;let hz:(fs.map (·.1)).length≤sizeLine:=by rw[Ag,Dd];lia
 show adF I.pL O c.sa c.po n.Qb c.hd wi hz λh' O' sb=>h _ ?_;let hd:∃o,h'.get? dx=some o:=let⟨o,_,_,e',_⟩:=O'.ns;⟨o,e'⟩
 show I.write (x:=a) (e:=dx) (by rw[e];show True.intro) (.inr ho) (λb q hb z=>(sb.2 b hb).trans z) hd ?_;show⟨by rw[BC O.ne];show ho,?_,O.ne,O'.obj,_,O'.ns,λg=>?_,λg hg=>?_⟩
 ·have:=eP f y fs;lia
 ·show lH ((Em f y fs).lookup g) (if g=f then some u else mA g)
  rw[bg];by_cases q:g=f
  ·rw[Aa q,Aa q];show ry
  ·rw[AV q,AV q];show r g
 ·by_cases q:g=f
  ·rw[q];show(TG f y fs).1
  ·show(TG f y fs).2 g (wi g λz=>hg ?_)
   show(if g=f then some u else mA g)=none
   rw[AV q];show z
def Inv.made(I:Inv X v4 σ H s):Inv X v4 σ (Ac (Ac H s.heap.objs.size (.own (s.heap.objs.size+1))) (s.heap.objs.size+1) (.ins C s.heap.objs.size []))
  {s with heap:=(s.heap.push W.emptyDict).push (W.instObj C s.heap.objs.size)}:=by
 let e1:(s.heap.push W.emptyDict).get? s.heap.objs.size=some W.emptyDict:=DP s.heap rfl;let e2:((s.heap.push W.emptyDict).push (W.instObj C s.heap.objs.size)).get? (s.heap.objs.size+1)=some (W.instObj C s.heap.objs.size):=by
  have:=DP (s.heap.push W.emptyDict) (o:=W.instObj C s.heap.objs.size) rfl;rwa[G6]at this
 let e3:(s.heap.push W.emptyDict).Ns s.heap.objs.size (λ_=>none):=Ψ3 W.emptyDict (#[]) _ ⟨e1,rfl,(λe he=>absurd he (by simp)),λ_=>rfl⟩;let I1:=I.laid (a:=s.heap.objs.size) (o:=.own (s.heap.objs.size+1)) (h':=s.heap.push W.emptyDict) (t':=s.toks) (λb u q=>B9 _ q) (Av _) ⟨_,e1⟩;show I1.laid (a:=s.heap.objs.size+1) (o:=.ins C s.heap.objs.size []) (t':=s.toks) (λb u q=>B9 _ q) (Nat.le_of_eq (G6 _ _)) ?_;let ne:s.heap.objs.size≠s.heap.objs.size+1:=Bm (JT _);show⟨by rw[BC ne,Bz],FI _,ne,e2,λ_=>none,(Heap.Ns1.of_empty e3).at λo q=>B9 _ q,λ_=>True.intro,λy hy=>absurd rfl hy⟩
def tE{prog:Program}{env:Env}{f:Str}{pos:Pos}(hb:attributeBase e f env (eval e env)=eval e env)
  (h:wpAny (model prog w) A (eval e env) (λo s₁=>wpAny (model prog w) A (getAttr o f true) Q E s₁) E s):wpAny (model prog w) A (eval (.Attribute e f pos) env) Q E s:=
 Attribute_any_ h (by rw[arm_eval_Attribute,hb])
end
abbrev vi(K:W.Frag)(ta:Al)(f:Str):Al:=λσ H Q=>ta σ H λx H1=>∃a C dx fs v,x=.ref a∧H1 a=some (.ins C dx fs)∧qX K C∧bW K C f∧fs.lookup f=some v∧Q v H1
abbrev Loc(K:W.Frag)(ta tv:Al)(f:Str):CI:=λD σ H=>tv σ H λy H1=>ta σ H1 λx H2=>∃a C dx fs,x=.ref a∧H2 a=some (.ins C dx fs)∧qX K C∧bW K C f∧fs.length<1000∧
 D.nx σ (Ac H2 a (.ins C dx (Em f y fs)))
section
variable {o e value: Expr}{f: Str}{pos': Pos}{tv: Al}
def kh(he:PE X e ta)(hb:attributeBase e f X.env (eval e X.env)=eval e X.env):PE X (.Attribute e f pos) (vi X.K ta f):=by
 show .mk ?_;intro v4 s σ H Q I h;show tE hb (AQ (he v4 s σ H _ I h) λu s1⟨x,H1,I1,rx,a,C,dx,fs,v,ex,ea,c,n,l,q⟩=>?_);subst ex;obtain rfl:u=Value.ref a:=rx;show uy I1 ea c n l λu' s2 I2 ru=>Ψ2 v H1 ⟨I2,ru,q⟩
def abK(ha:PE X o ta)(hv:PE X value tv)(hs:swapsWith value (some (.Attribute o f pos')) pos.line X.env=pure false):PS X (.Assign [.Attribute o f pos'] value pos) (Loc X.K ta tv f):=by
 show .mk ?_;intro v4 s σ H D I h;show plainObj_wpAny_Assign_Attribute (AQ (hv v4 s σ H _ I h) λu s1 ξ=>Ξ23 ξ λy H1 I1 ry q=>AQ (ha v4 s1 σ H1 _ I1 q) λov s2⟨x,H2,I2,rx,a,C,dx,fs,ex,ea,c,n,l,q2⟩=>?_) hs;subst ex;obtain rfl:ov=Value.ref a:=rx;show aaz I2 ea c n l ry λs3 I3=>Ψ2 σ _ ⟨I3,q2⟩
end
section
variable {v4: List (Addr×Obj)}{σ: St}{H: AA}{s: Shared}{A: Around}{E: Value→Shared→Prop}{Q: Value→Shared→Prop}{c: Value}{b: Bool}
inductive Fd(K:W.Frag)(H:AA):V→Value→Prop where
 |non:Fd K H .non (.type "NoneType")
 |bl (x:Bool):Fd K H (.bl x) (.type "bool")
 |int (i:Int):Fd K H (.int i) (.type "int")
 |str (x:Str):Fd K H (.str x) (.type "str")
 |flt (x:UInt64):Fd K H (.flt x) (.type "float")
 |lst {a:Addr} {xs:List V} (e:H a=some (.lst xs)):Fd K H (.ref a) (.type "list")
 |frz {a:Addr} {o:Obj} {xs:List V} (e:H a=some (.frz o (.lst xs))):Fd K H (.ref a) (.type "list")
 |tup {a:Addr} {xs:List V} (e:H a=some (.tup xs)):Fd K H (.ref a) (.type "tuple")
 |dK {a:Addr} {aF:List (AI×V)} (e:H a=some (.dK aF)):Fd K H (.ref a) (.type "dict")
 |dT {a:Addr} {aF:List (List AI×V)} (e:H a=some (.dT aF)):Fd K H (.ref a) (.type "dict")
 |ins {a C dx:Addr} {fs:List (Str×V)} (e:H a=some (.ins C dx fs)) (cl:qX K C) (ha:W.findIn K (.ref C) "__class__" = some (some (.builtin "object.__class__")))
   (hn:W.specialIn K (.builtin "object.__class__") "__get__" = some (some (.builtin "getset_descriptor.__get__"))) (Zo:W.takesIn K (.builtin "object.__class__")=some true)
   (hm:W.mroIn K C (.type "object")=some true):Fd K H (.ref a) (.ref C)
def yW{x:V}{t:Value}(I:Inv X v4 σ H s)(rx:RelV x u)(ty:Fd X.K H x t)(e:W.kitOne X.K t c=some b)(h:∀tk,Q (.bool b) {s with toks:=tk}):
  wpAny (model X.prog X.w) A (call (.builtin "isinstance") [u,c]) Q E s:=by
 cases ty with
 |non=>cases(show u=Value.none from rx);show Hp W.kitx_none I.pL True.intro e (λz=>nomatch z) h
 |bl y=>cases(show u=Value.bool y from rx);show Hp W.kitx_bool I.pL True.intro e (λz=>nomatch z) h
 |int i=>let⟨t,q⟩:=(show ∃t,u=Value.int i t from rx);cases q;show Hp W.kitx_int I.pL True.intro e (λz=>nomatch z) h
 |str y=>let⟨t,q⟩:=(show ∃t,u=Value.str y t from rx);cases q;show Hp W.kitx_str I.pL True.intro e (λz=>nomatch z) h
 |flt y=>let⟨t,q⟩:=(show ∃t,u=Value.float y t from rx);cases q;show Hp W.kitx_float I.pL True.intro e (λz=>nomatch z) h
 |@lst a xs ea=>
  cases(show u=Value.ref a from rx);let⟨_,⟨_,n,_,h1⟩⟩:=(show cA X.prog X.w H s.heap a (.lst xs)from I.cg a _ ea);show Hp W.kitx_list I.pL ⟨_,h1,rfl⟩ e (λz=>nomatch z) h
 |@frz a ob xs ea=>
  cases(show u=Value.ref a from rx);let⟨_,_,⟨_,n,_,h1⟩⟩:=(show cA X.prog X.w H s.heap a (.frz ob (.lst xs))from I.cg a _ ea);show Hp W.kitx_list I.pL ⟨_,h1,rfl⟩ e (λz=>nomatch z) h
 |@tup a xs ea=>
  cases(show u=Value.ref a from rx);let⟨_,⟨_,_,p⟩⟩:=(show cA X.prog X.w H s.heap a (.tup xs)from I.cg a _ ea);let⟨o,h1,h2,_⟩:=p;show Hp W.kitx_tuple I.pL ⟨o,h1,h2⟩ e (λz=>nomatch z) h
 |@dK a aF ea=>
  cases(show u=Value.ref a from rx);let⟨_,_,⟨vs,_,p⟩⟩:=(show cA X.prog X.w H s.heap a (.dK aF)from I.cg a _ ea);let⟨o,es,ep,h1,h2,_⟩:=p;show Hp W.kitx_dict I.pL ⟨o,h1,h2.1⟩ e (λz=>nomatch z) h
 |@dT a aF ea=>
  cases(show u=Value.ref a from rx);let⟨_,_,⟨xs,_,⟨o,es,ep,h1,h2,_⟩⟩⟩:=(show cA X.prog X.w H s.heap a (.dT aF)from I.cg a _ ea);show Hp W.kitx_dict I.pL ⟨o,h1,h2.1⟩ e (λz=>nomatch z) h
 |@ins a C dx fs ea cl ha hn Zo hm=>
  cases(show u=Value.ref a from rx);let⟨mA,O,_⟩:=P4 I.cg ea;let⟨od,J,_⟩:=O.look;show Hp (W.kitx_own (cl.get _) cl.hd ha hn Zo hm) I.pL J e (λz=>nomatch z) h
end
structure eh(k:Nat)(A:Around):Prop where
 hd:A.handled=none
 dp:A.depth+3*k+5<recursionLimit
 un:A.units+16*k+200<cLine
def eh.mono(r:eh k A)(h:j≤k):eh j A:=⟨r.hd,by have:=r.dp;lia,by have:=r.un;lia⟩
def eh.deeper(r:eh (k+1) A)(env:Env):eh k (A.deeper env):=
 ⟨r.hd,by have:=r.dp;show A.depth+1+3*k+5<_;lia,by have:=r.un;show A.units+3+16*k+200<_;lia⟩
def acf:(A.under (.builtin "type.__call__" ⟨.ref C::us,kw⟩)).depth=A.depth+1:=by
 first|rfl|simp[Around.under,Code.weight,Code.isCreation,Code.isGuard,Code.isCaller,Code.frames,Code.isFrame,guardIds]
def zp:(A.under (.builtin "type.__call__" ⟨.ref C::us,kw⟩)).units=A.units+1:=by
 first|rfl|simp[Around.under,Code.cUnits,Code.frames,Code.isFrame]
def eh.make(r:eh (k+1) A)(C:Addr)(us:List Value)(kw:List (Str×Value)):eh k (A.under (.builtin "type.__call__" ⟨.ref C::us,kw⟩)):=
 ⟨r.hd,by have:=r.dp;rw[acf];lia,by have:=r.un;rw[zp];lia⟩
def eh.depth(r:eh k A):A.depth<recursionLimit:=by have:=r.dp;lia
def eh.units(r:eh k A):A.units+64<cLine:=by have:=r.un;lia
def eh.EA(r:eh k A):A.units<cLine:=by have:=r.un;lia
abbrev fK:CY:=λ_ H Q=>Q [] H
abbrev Uk(ta:Al)(tr:CY):CY:=λσ H Q=>ta σ H λx H1=>tr σ H1 λxs H2=>Q (x::xs) H2
section
variable {e: Expr}{te: Al}
def aQ:PA X [] fK:=.mk λ_ _ _ _ H Q I h=>Calls.spliced_nil ⟨[],H,I,.nil,h⟩
def Qv(ha:PE X e te)(hr:PA X es t)(hs:starEach (e::es) X.env=(false,eval e X.env)::starEach es X.env:=by rfl):PA X (e::es) (Uk te t):=by
 show .mk ?_;intro pos v4 s σ H Q I h;rw[hs];show wpAny _ _ (spliced ((false,eval e X.env)::backTo pos (starEach es X.env))) _ _ s
 show Calls.spliced_cons (AQ (ha v4 s σ H _ I h) λu s1 ξ=>Ξ23 ξ λx H1 I1 r1 q1=>?_);show AQ (hr pos v4 s1 σ H1 _ I1 q1) λus s2 ξ=>Ξ23 ξ λxs H2 I2 r2 q2=>Ψ2 (x::xs) H2 ⟨I2,.cons r1 r2,q2⟩
abbrev ac6(t:CY):Al:=λσ H Q=>t σ H λxs H1=>xs.length≤sizeLine∧∀p,H1 p=none→Q (.ref p) (Ac H1 p (.tup xs))
abbrev rat(t:CY):Al:=λσ H Q=>t σ H λxs H1=>xs.length≤sizeLine∧∀p,H1 p=none→Q (.ref p) (Ac H1 p (.lst xs))
def vQ{x1}(h:PA X es t):PE X (.Tuple es x1 pos) (ac6 t):=by
 show .mk ?_;intro v4 s σ H Q I hq;show wpAny_Tuple_spliced (AQ (h pos v4 s σ H _ I hq) λus s1 ξ=>Ξ24 ξ λxs H1 I1 r z q=>⟨by rw[←r.length];show z,?_⟩);let hf:H1 s1.heap.objs.size=none:=I1.cg.fresh (Av _);show Ψ2 (.ref s1.heap.objs.size) (Ac H1 s1.heap.objs.size (.tup xs)) ⟨I1.laid (t':=s1.toks) (λb u e=>B9 _ e) (Av _) ?_,rfl,q _ hf⟩;show⟨z,us,r,⟨_,DP _ rfl,rfl,_,rfl⟩⟩
def rU(h:PA X es t):PE X (.List es pos) (rat t):=by
 show .mk ?_;intro v4 s σ H Q I hq;show wpAny_List_spliced (AQ (h pos v4 s σ H _ I hq) λus s1 ξ=>Ξ24 ξ λxs H1 I1 r z q=>⟨by rw[←r.length];show z,?_⟩);let hf:H1 s1.heap.objs.size=none:=I1.cg.fresh (Av _);show Ψ2 (.ref s1.heap.objs.size) (Ac H1 s1.heap.objs.size (.lst xs)) ⟨I1.laid (t':=s1.toks) (λb u e=>B9 _ e) (Av _) ?_,rfl,q _ hf⟩;show⟨z,us,0,r,DP _ rfl⟩
end
abbrev EI:=List V→AA→B1→BS→Prop
abbrev HE:=List Env→AA→Shared→BS→xz
structure Bp(P:Program)(w:World)(K:W.Frag)(mg:KK)(base:Heap)(A:Around)(outer:List Env)(s:Shared)(H:AA):Prop where
 frames:A.frames=some outer
 mod:Mod K mg base
 bs:∀b o,base.get? b=some o→s.heap.get? b=some o∧H b=none
 Hy:base.objs.size≤s.heap.objs.size
 nE:s.heap.FunFrames base outer
 HW:∀b∈E4 outer,H b=none
 cg:oM P w H s.heap
 bare:AllBare s.gens
abbrev RU(outer:List Env)(P:Program)(w:World)(H:AA)(s:Shared)(Q:B1)(u:Value)(s':Shared):Prop:=
 ∃v H',s'.os=s.os∧AllBare s'.gens∧Un (E4 outer) [] H H' s.heap s'.heap∧oM P w H' s'.heap∧RelV v u∧Q v H'
abbrev sI(CX:HE)(outer:List Env)(P:Program)(w:World)(H:AA)(s:Shared)(Q:B1)(E:BS)(r:Result)(s':Shared):Prop:=
 match r with
 |.ok (.ret u)=>RU outer P w H s Q u s'
 |.ok _=>False
 |.error e=>CX outer H s E e s'
structure bq(P:Program)(w:World)(K:W.Frag)(mg:KK)(base:Heap)(CX:HE)(k:Nat)(f:Addr)(fd:FuncData)(ps:List Str)(sp:EI):Prop where
 len:∀vs H Q E,sp vs H Q E→vs.length=ps.length
 run:∀(A:Around) (outer:List Env) (s:Shared) (H:AA) (args:Args) (us:List Value) (vs:List V) (Q:B1) (E:BS),eh k A→Bp P w K mg base A outer s H→BindsTo s fd args (ps.zip us)→Vals vs us→sp vs H Q E→
  codeAny (model P w) A (.call (.ref f) args) (sI CX outer P w H s Q E) s
def bq.mono{f:Addr}(F:bq P w K mg base CX j f fd ps sp)(h:j≤k):
  bq P w K mg base CX k f fd ps sp:=⟨F.len,λA outer s H args us vs Q E hr=>F.run A outer s H args us vs Q E (hr.mono h)⟩
def bq.imp{f:Addr}{YD:EI}(F:bq P w K mg base CX k f fd ps sp)
  (h:∀vs H Q E,YD vs H Q E→sp vs H Q E):bq P w K mg base CX k f fd ps YD:=
 ⟨λvs H Q E q=>F.len vs H Q E (h _ _ _ _ q),λA outer s H args us vs Q E hr he hb hv hs=>F.run A outer s H args us vs Q E hr he hb hv (h _ _ _ _ hs)⟩
def Bp.make(e:Bp P w K mg base A outer s H)(C:Addr)(us:List Value)(kw:List (Str×Value)):
  Bp P w K mg base (A.under (.builtin "type.__call__" ⟨.ref C::us,kw⟩)) outer s H:=⟨by first|show e.frames|(simpa[Around.under,Code.envs,Code.isFrame,pushEnvs]using e.frames),e.mod,e.bs,e.Hy,e.nE,e.HW,e.cg,e.bare⟩
section
variable {v4: List (Addr×Obj)}{σ: St}{H: AA}{s s': Shared}
def Inv.OU(I:Inv X v4 σ H s):Bp X.prog X.w X.K X.mg X.base X.A X.stack s H:=
 ⟨I.ok.frames,I.ok.mod,I.bs,Ci I.ok.Hy I.sz,I.stack,I.sM,I.cg,I.bare⟩
def Inv.after{Q:B1}(I:Inv X v4 σ H s)(h:RU X.stack X.prog X.w H s Q u s'):Bw X v4 σ Q u s':=by
 let⟨v,H',os,bare,un,cg,r,q⟩:=h;obtain⟨hh,g,d,t,os'⟩:=s';obtain rfl:os'=s.os:=os;show Ψ2 v H' ⟨I.call (h':=hh) (g':=g) (d':=d) (t':=t) (ch:=[]) un cg bare (λb z=>absurd z (by simp)),r,q⟩
end
abbrev cj(sp:EI)(xJ:List V)(E:BS)(t:CY):Al:=λσ H Q=>t σ H λvs H1=>sp (vs++xJ) H1 Q E
abbrev sP(C:Addr)(m:Str)(sp:EI)(xJ:List V)(E:BS)(ta:Al)(t:CY):Al:=λσ H Q=>ta σ H λx H1=>∃a dx fs,x=.ref a∧H1 a=some (.ins C dx fs)∧fs.lookup m=none∧
 t σ H1 λvs H2=>sp (x::(vs++xJ)) H2 Q E
abbrev uh(C:Addr)(sp:EI)(xJ:List V)(E:BS)(t:CY):Al:=λσ H Q=>t σ H λvs H1=>∀x dx,H1 x=none→H1 dx=none→dx≠x→
 sp (.ref x::(vs++xJ)) (Ac (Ac H1 dx (.own x)) x (.ins C dx [])) (λv H2=>v=.non∧Q (.ref x) H2) E
abbrev Binds(K:W.Frag)(fd:FuncData)(ps:List Str)(ds:List Value):Prop:=
 ∀(s:Shared) (us:List Value),K.In s.heap→(us++ds).length=ps.length→BindsTo s fd ⟨us,[]⟩ (ps.zip (us++ds))
def Binds.all(h:∀us:List Value,us.length=ps.length→bindArgs fd ⟨us,[]⟩=pure (ps.zip us)):Binds K fd ps []:=λs us _ hl=>by
 rw[Bg]at hl ⊢;show .of_eq (h us hl)
abbrev Passes(CX:HE)(X:Cx)(E:BS):Prop:=∀(v4:ac) (σ:St) (H:AA) (s:Shared) (e:Value) (s':Shared),Inv X v4 σ H s→CX X.stack H s E e s'→X.xe e s'
section
variable {CX: HE}{k: Nat}{f C: Addr}{fd: FuncData}{ps: List Str}{sp: EI}{xJ: List V}{ds: List Value}{E: BS}{x m: Str}{apos: Pos}{e o: Expr}
def TX{Q:B1}(F:bq X.prog X.w X.K X.mg X.base CX k f fd ps sp)(hr:eh k X.A)(hb:Binds X.K fd ps ds)(hd:Vals xJ ds)(hx:Passes CX X E)
  (I:Inv X v4 σ H s) (r:Vals vs us) (h:sp (vs++xJ) H Q E):wpAny (model X.prog X.w) X.A (call (.ref f) us) (Bw X v4 σ Q) X.xe s:=by
 let r2:Vals (vs++xJ) (us++ds):=r.append hd;let hl:(us++ds).length=ps.length:=by rw[←r2.length];show F.len _ _ _ _ h
 show wpAny_call (Mb (F.run X.A X.stack s H ⟨us,[]⟩ (us++ds) (vs++xJ) Q E hr I.OU (hb s us I.pL hl) r2 h) λr s' hq=>?_);cases r with
 |error e=>show hx v4 σ H s e s' I hq
 |ok fl=>
  cases fl with
  |ret u=>show I.after hq
  |next=>show False.elim hq
  |brk=>show False.elim hq
  |cont=>show False.elim hq
def lS(F:bq X.prog X.w X.K X.mg X.base CX k f fd ps sp)(hr:eh k X.A)(hg:CF X x)(hm:X.mg x=some (.ref f))(hk:W.keepIn X.K (.ref f)=true)(hb:Binds X.K fd ps ds)(hd:Vals xJ ds)(hx:Passes CX X E)
  (ha:PA X (e::es) t) (sD:(x ==("__debug__" : Str))=false:=by decide) (he:starEach (e::es) X.env=(false,eval e X.env)::starEach es X.env:=by rfl) (jw:(backTo pos (starEach es X.env)).any (·.1)=false:=by rfl) :
  PE X (.Call (.Name x p) (e::es) [] pos) (cj sp xJ E t):=by
 show .mk ?_;intro v4 s σ H Q I h;show Jh (Ln I hg hm ?_ sD);show MA (h₀:=X.base) I.ok.mod.LD hk (AQ (ha pos v4 s σ H _ I h) λus s1 ξ=>Ξ23 ξ λvs H1 I1 r q=>⟨I1.pL,?_⟩) he jw;show TX F hr hb hd hx I1 r q
def yv(he:PE X o ta)(c:qX X.K C)(hm:Meth X.K C m f)(F:bq X.prog X.w X.K X.mg X.base CX k f fd ps sp)(hr:eh k X.A)(hb:Binds X.K fd ps ds)(hd:Vals xJ ds)(hx:Passes CX X E)(ha:PA X (e::es) t)
  (zO:starEach (e::es) X.env=(false,eval e X.env)::starEach es X.env:=by rfl) (jw:(backTo pos (starEach es X.env)).any (·.1)=false:=by rfl)
  (ht:eval (.Call (.Attribute o m apos) (e::es) [] pos) X.env=(do
   let ov ←eval o X.env
   standAt apos.atName
   let(f,first) ←holding [ov] (getMethod ov m pl)
   callWith pos f first (backTo pos (starEach (e::es) X.env)) (backToKw pos (keywordEach [] X.env))):=by rfl) :
  PE X (.Call (.Attribute o m apos) (e::es) [] pos) (sP C m sp xJ E ta t):=by
 show .mk ?_;intro v4 s σ H Q I h;show W.methodCall_KW (pl:=pl) (AQ (he v4 s σ H _ I h) λu s1⟨x,H1,I1,rx,a,dx,fs,ex,ea,l,q⟩=>?_) ht;subst ex;obtain rfl:u=Value.ref a:=rx;show aaI I1 ea c hm l ?_;show MA (first:=[.ref a]) (h₀:=X.base) I.ok.mod.LD hm.kp (AQ (ha pos v4 s1 σ H1 _ I1 q) λus s2 ξ=>Ξ23 ξ λvs H2 I2 r q2=>⟨I2.pL,?_⟩) zO jw;show TX (us:=.ref a::us) (vs:=.ref a::vs) F hr hb hd hx I2 (.cons rfl r) q2
structure PZ(K:W.Frag)(C f:Addr):Prop where
 makes:W.makesIn K C=true
 init:W.findIn K (.ref C) "__init__" = some (some (.ref f))
 fn:W.isFn K (.ref f)=true
 kp:W.keepIn K (.ref C)=true
def bOr{Q:B1}(M:PZ X.K C f)(F:bq X.prog X.w X.K X.mg X.base CX k f fd ps sp)(hr:eh (k+1) X.A)(hb:Binds X.K fd ps ds)(hd:Vals xJ ds)
  (hx:Passes CX X E) (I:Inv X v4 σ H s) (r:Vals vs us)
  (h:∀x dx,H x=none→H dx=none→dx≠x→sp (.ref x::(vs++xJ)) (Ac (Ac H dx (.own x)) x (.ins C dx [])) (λv H2=>v=.non∧Q (.ref x) H2) E) :
  wpAny (model X.prog X.w) X.A (call (.ref C) us) (Bw X v4 σ Q) X.xe s:=by
 let hq:=h (s.heap.objs.size+1) s.heap.objs.size (I.cg.fresh (CE _)) (I.cg.fresh (Av _)) (Bm (JT _));let I2:=Inv.made (C:=C) I;let r2:Vals (V.ref (s.heap.objs.size+1)::(vs++xJ)) (Value.ref (s.heap.objs.size+1)::(us++ds)):=.cons rfl (r.append hd);let hl:(Value.ref (s.heap.objs.size+1)::us++ds).length=ps.length:=by
  let e:=r2.length;rw[F.len _ _ _ _ hq]at e;show e.symm
 show wpAny_call (pq (f:=f) I.pL M.makes M.init (abZ.mp M.fn) (Mb (F.run _ X.stack _ _ ⟨Value.ref (s.heap.objs.size+1)::us,[]⟩ (Value.ref (s.heap.objs.size+1)::(us++ds)) _ _ E (hr.make C us [])
  (I2.OU.make C us []) (hb _ (Value.ref (s.heap.objs.size+1)::us) I2.pL hl) r2 hq) λr s' SF=>?_))
 cases r with
 |error e=>show hx v4 σ _ _ e s' I2 SF
 |ok fl=>
  cases fl with
  |ret u=>
   let⟨v,H',I3,rv,ev,q3⟩:=I2.after SF;subst ev;show⟨rv,Ψ2 (V.ref (s.heap.objs.size+1)) H' ⟨I3,rfl,q3⟩⟩
  |next=>show False.elim SF
  |brk=>show False.elim SF
  |cont=>show False.elim SF
def tR(M:PZ X.K C f)(F:bq X.prog X.w X.K X.mg X.base CX k f fd ps sp)(hr:eh (k+1) X.A)(hg:CF X x)(hm:X.mg x=some (.ref C))(hb:Binds X.K fd ps ds)(hd:Vals xJ ds)(hx:Passes CX X E)
  (ha:PA X (e::es) t) (sD:(x ==("__debug__" : Str))=false:=by decide) (he:starEach (e::es) X.env=(false,eval e X.env)::starEach es X.env:=by rfl) (jw:(backTo pos (starEach es X.env)).any (·.1)=false:=by rfl) :
  PE X (.Call (.Name x p) (e::es) [] pos) (uh C sp xJ E t):=by
 show .mk ?_;intro v4 s σ H Q I h;show Jh (Ln I hg hm ?_ sD);show MA (h₀:=X.base) I.ok.mod.LD M.kp (AQ (ha pos v4 s σ H _ I h) λus s1 ξ=>Ξ23 ξ λvs H1 I1 r q=>⟨I1.pL,?_⟩) he jw;show bOr M F hr hb hd hx I1 r q
end
structure PK(X:Cx)(UJ:List Keyword)(t:CY):Prop where
 run:∀(pos:Pos) v4 s σ H (Q:List V→AA→Prop),Inv X v4 σ H s→t σ H Q→wpAny (model X.prog X.w) X.A (evalAll ((backToKw pos (keywordEach UJ X.env)).map (·.2))) (O4 X v4 σ Q) X.xe s
instance {X:Cx}{UJ:List Keyword}{t:CY}:CoeFun (PK X UJ t) λ_=>∀(pos:Pos) v4 s σ H (Q:List V→AA→Prop),Inv X v4 σ H s→t σ H Q→wpAny (model X.prog X.w) X.A (evalAll ((backToKw pos (keywordEach UJ X.env)).map (·.2))) (O4 X v4 σ Q) X.xe s:=⟨PK.run⟩
structure B0(N P:List Str)(sc:Scope):Prop where
 kind:sc.kind=.function
 co:sc.isCoroutine=false
 gen:sc.isGenerator=false
 nd:N.Nodup
 pre:N.take P.length=P
 par:∀x∈P,sc.names.lookup x=some .local∨sc.names.lookup x=some .cell
 N1:∀y∈sc.names,y.2≠.free
def eE{kindOf:Str→Option NameKind}{x:Str}:∀{binds:List (Str×Value)} {m:KK},(∀v,(x,v)∉binds)→bindL kindOf binds m x=m x
 |[],_,_=>rfl
 |(n,v)::r,m,h=>by
  unfold bindL;rw[eE λw hw=>h w (Dm _ hw)];split
  ·have:x≠n:=by rintro rfl;show h v Il
   simp[this]
  ·rfl
def jc{kindOf:Str→Option NameKind}{x:Str}:∀{binds:List (Str×Value)} {m:KK},(∀v,(x,v)∉binds)→bindC kindOf binds m x=m x
 |[],_,_=>rfl
 |(n,v)::r,m,h=>by
  unfold bindC;rw[jc λw hw=>h w (Dm _ hw)];split
  ·rfl
  ·have:x≠n:=by rintro rfl;show h v Il
   simp[this]
def de{kindOf:Str→Option NameKind}{x:Str}{v:Value}:∀{P:List Str} {vs:List Value} {i:Nat} {m:KK},P.Nodup→P[i]?=some x→vs[i]?=some v→kindOf x=some .local→
  bindL kindOf (P.zip vs) m x=some v
 |[],_,_,_,_,h,_,_=>by simp at h
 |_::_,[],_,_,_,_,h,_=>by simp at h
 |p::P,w::vs,0,m,nd,h1,h2,hk=>by
  simp at h1 h2;subst h1;subst h2;show bindL kindOf ((p,w)::P.zip vs) m p=_
  unfold bindL;rw[eE λv hv=>(abY.mp nd).1 (QA hv).1,Aa hk];simp
 |p::P,w::vs,i+1,m,nd,h1,h2,hk=>by
  show bindL kindOf ((p,w)::P.zip vs) m x=_
  unfold bindL;show de (i:=i) (abY.mp nd).2 (by simpa using h1) (by simpa using h2) hk
def dC{kindOf:Str→Option NameKind}{x:Str}{v:Value}:∀{P:List Str} {vs:List Value} {i:Nat} {m:KK},P.Nodup→P[i]?=some x→vs[i]?=some v→kindOf x≠some .local→
  bindC kindOf (P.zip vs) m x=some v
 |[],_,_,_,_,h,_,_=>by simp at h
 |_::_,[],_,_,_,_,h,_=>by simp at h
 |p::P,w::vs,0,m,nd,h1,h2,hk=>by
  simp at h1 h2;subst h1;subst h2;show bindC kindOf ((p,w)::P.zip vs) m p=_
  unfold bindC;rw[jc λv hv=>(abY.mp nd).1 (QA hv).1,AV hk];simp
 |p::P,w::vs,i+1,m,nd,h1,h2,hk=>by
  show bindC kindOf ((p,w)::P.zip vs) m x=_
  unfold bindC;show dC (i:=i) (abY.mp nd).2 (by simpa using h1) (by simpa using h2) hk
abbrev start(N:List Str)(vs:List V):St:=vs.map some++List.replicate (N.length-vs.length) none
abbrev Ja(CX:HE)(P:Program)(w:World)(K:W.Frag)(mg:KK)(base:Heap)(N:List Str)(qual:Str)(scope:Scope)(f:Addr)(cd:Value)(A:Around)(outer:List Env)(s:Shared)(H:AA)(E:BS):Cx where
 prog:=P
 w:=w
 K:=K
 mg:=mg
 base:=base
 A:=A.deeper (envOfC qual scope s.heap.objs.size f cd)
 N:=N
 s₀:=s
 H₀:=H
 env:=envOfC qual scope s.heap.objs.size f cd
 outer:=outer
 stack:=envOfC qual scope s.heap.objs.size f cd::outer
 ex:=[]
 calm:=true
 fn:=λ_=>true
 pn:=[]
 xe:=λe s'=>wpAny (model P w) (A.deeper (envOfC qual scope s.heap.objs.size f cd)) (leaving (envOfC qual scope s.heap.objs.size f cd) e) (λ_ CQ=>CX outer H s E e CQ) (λe' CQ=>CX outer H s E e' CQ) s'
def iQ{sc:Scope}(h:sc.names.lookup x=some .cell):∃c,(cellsFrom n sc.names []).lookup x=some c:=by
 let q:=W.cellsFrom_some sc.names n [] (.inl h);show adA.mp q
def uz{f:Addr}{cd:Value}{s1:Shared}{E:BS}
  (S:B0 N ps scope) (hd:A.handled=none) (e0:Bp P w K mg base A outer s H) (hl:vs.length=ps.length) (r:Vals vs us)
  (x:InCallC s s.heap.objs.size (bindL (envOfC qual scope s.heap.objs.size f cd).kindOf (ps.zip us) λ_=>none) (cellsFrom (s.heap.objs.size+1) scope.names []) (bindC (envOfC qual scope s.heap.objs.size f cd).kindOf (ps.zip us) λ_=>none) s1) :
  Inv (Ja CX P w K mg base N qual scope f cd A outer s H E) [] (start N vs) H s1:=by
 let jw:ps.length≤N.length:=by have:=EJ List.length S.pre;rw[EH]at this;lia
 let⟨h1,tk,rfl,hk⟩:=x.done;let R8:∀b:Addr,b∉(Ja CX P w K mg base N qual scope f cd A outer s H E).ex:=λb z=>absurd (show b∈([]:List Addr)from z) (by simp);show⟨⟨e0.mod,S.kind,rfl,rfl,Av _,λy z c h1 h2=>?_,λy hy=>?_,λy c _ h=>?_,λ_=>hd,Around.frames_deeper e0.frames,.inr ⟨rfl,rfl⟩,λb z=>absurd z (R8 b),e0.bs,e0.Hy,λb _ _=>R8 b,λb z=>absurd z (R8 b),e0.nE,e0.HW⟩,
  rfl,e0.bare,Un.kept hk,⟨_,x.toInCall.ns,λi y v h1 h2 h3=>?_⟩,λy c h=>⟨_,x.cell y c h⟩,e0.cg.fresh (Av _),λy c h=>?_,λp hp=>absurd (show p∈([]:ac)from hp) (by simp),e0.cg.kept hk,?_⟩
 ·show name_of_addr x.apart (Mg h1) (Mg h2)
 ·let hy:scope.names.lookup y=some .cell∨scope.names.lookup y=some .free:=hy
  rcases hy with hy|hy
  ·show iQ hy
  ·show absurd rfl (S.N1 _ (Mg hy))
 ·show Bu (x.above y c (Mg h))
 ·let hi:i<vs.length:=by
   unfold start at h2;by_cases hi:i<vs.length
   ·show hi
   ·rw[fJ (by simpa using hi)]at h2
    rw[cf]at h2;split at h2<;>cases h2
  let ha:vs[i]?=some v:=by
   unfold start at h2;rw[Na (by simpa using hi),He]at h2;cases e:vs[i]? with
   |none=>rw[e]at h2;cases h2
   |some a=>rw[e]at h2;cases h2;rfl
  let⟨u,hu,rv⟩:=r.get ha;let hp:ps[i]?=some y:=by
   rw[←S.pre,List.getElem?_take_of_lt (by lia)];show h1
  let Y1:ps.Nodup:=by rw[←S.pre];show S.nd.sublist (List.take_sublist _ _)
  show⟨u,rv,?_⟩;rcases S.par y (IT hp)with k|k
  ·show .inl ⟨k,de Y1 hp hu k⟩
  ·let⟨c,e⟩:=iQ (n:=s.heap.objs.size+1) k
   show .inr ⟨.inl k,c,e,?_⟩;let q:=x.cell y c e;rw[dC Y1 hp hu (by show scope.names.lookup y≠_;rw[k];decide)]at q;show q
 ·show e0.cg.fresh (Bu (x.above y c (Mg h)))
 ·unfold start
  show _=N.length
  rw[B3,Ag,List.length_replicate];lia
def bt{f:Addr}{name:Str}{params:Arguments}{dV BV doc pm cy ct oc:Value}{an od:Option Addr}
  {De:Array (Option Value)}   (lk:K.lookup f=some ⟨oc,od,.func (W.fnOf name qual params body scope dV BV doc pm an cy ct),De⟩) (xu:W.codeIn K cy qual=true) (S:B0 N ps scope)
  (len:∀vs H Q E,sp vs H Q E→vs.length=ps.length)
  (pN:∀(A:Around) (outer:List Env) (s:Shared) (H:AA) (vs:List V) (Q:B1) (E:BS),eh k (A.deeper (envOfC qual scope s.heap.objs.size f cy))→sp vs H Q E→
   ∃t,nH (Ja CX P w K mg base N qual scope f cy A outer s H E) body t∧t {nx:=λ_ H'=>Q .non H',rt:=Q} (start N vs) H) :
  bq P w K mg base CX (k+1) f (W.fnOf name qual params body scope dV BV doc pm an cy ct) ps sp:=by
 show⟨len,λA outer s H args us vs Q E hr e0 hb r zP=>?_⟩;let hl:=len _ _ _ _ zP;let KX:K.In s.heap:=e0.mod.LD.keeps λb o e=>(e0.bs b o e).1;let lim:s.heap.NoLimit:=e0.mod.nolimit.keeps λb o e=>(e0.bs b o e).1;let SU:∀y∈ps.zip us,scope.names.lookup y.1=some .local∨(scope.names.lookup y.1=some .cell∧((cellsFrom (s.heap.objs.size+1) scope.names []).lookup y.1).isSome=true):=λ⟨n,v⟩ hy=>by
  rcases S.par n (QA hy).1 with q|q
  ·show .inl q
  ·show .inr ⟨q,W.cellsFrom_some _ _ _ (.inl q)⟩
 show codeAny_call_function hr.depth (KX _ _ lk) rfl S.co S.gen rfl (W.codeRec_of KX xu) (hb _ _ _ _ ?_);show wpAny_newFunctionEnv_cells S.kind SU λenv he s1 x=>?_;subst he;show⟨lim.keeps x.toInCall.keep,codeAny_func ?_⟩;let⟨t,ht,hq⟩:=pN A outer s H vs Q E (hr.deeper _) zP;let I:Inv (Ja CX P w K mg base N qual scope f cy A outer s H E) [] (start N vs) H s1:=uz S hr.hd e0 hl r x;show Bt (ht [] s1 (start N vs) H _ I hq) (λfl s' hs=>?_) λe s' hs=>hs;let fin:∀{σ':St} {H':AA} {v:V} {u:Value},Inv (Ja CX P w K mg base N qual scope f cy A outer s H E) [] σ' H' s'→RelV v u→Q v H'→RU outer P w H s Q u s':=
  λ{σ' H' v u} J rv q=>Ψ2 v H' ⟨J.os,J.bare,J.base,J.cg,rv,q⟩
 cases fl with
 |ret u=>
  let⟨v,σ',H',J,rv,q⟩:=hs;show fin J rv q
 |next=>
  let⟨σ',H',J,q⟩:=hs;show fin (v:=V.non) (u:=Value.none) J rfl q
 |brk=>
  let⟨_,_,_,q⟩:=hs;show False.elim q
 |cont=>
  let⟨_,_,_,q⟩:=hs;show False.elim q
section
variable {x: Str}{e: Expr}{id T: String}{r: List V→AA→B1→Prop}
abbrev QU(r:List V→AA→B1→Prop)(t:CY):Al:=λσ H Q=>t σ H λvs H1=>r vs H1 Q
def YG(hc:EK X (.builtin id) r)(hg:CF X x)(hm:X.mg x=none)(hv:bootBuiltins x=some (.builtin id))(ha:PA X (e::es) t)(hn:x ≠ "__name__" := by decide)(sD:(x ==("__debug__" : Str))=false:=by decide)
  (he:starEach (e::es) X.env=(false,eval e X.env)::starEach es X.env:=by rfl) (jw:(backTo pos (starEach es X.env)).any (·.1)=false:=by rfl):PE X (.Call (.Name x p) (e::es) [] pos) (QU r t):=by
 show .mk ?_;intro v4 s σ H Q I h;show Jh (KP I hg hm hv ?_ hn sD);show PyProof.Rows.callWith_builtin1 (AQ (ha pos v4 s σ H _ I h) λus s1 ξ=>Ξ23 ξ λvs H1 I1 r1 q1=>hc v4 s1 σ H1 vs us Q I1 r1 q1) he jw
def qL(hc:EK X (.type T) r)(hg:CF X x)(hm:X.mg x=none)(hv:bootBuiltins x=some (.type T))(ha:PA X (e::es) t)(hn:x ≠ "__name__" := by decide)(sD:(x ==("__debug__" : Str))=false:=by decide)
  (he:starEach (e::es) X.env=(false,eval e X.env)::starEach es X.env:=by rfl) (jw:(backTo pos (starEach es X.env)).any (·.1)=false:=by rfl):PE X (.Call (.Name x p) (e::es) [] pos) (QU r t):=by
 show .mk ?_;intro v4 s σ H Q I h;show Jh (KP I hg hm hv ?_ hn sD);show MP (AQ (ha pos v4 s σ H _ I h) λus s1 ξ=>Ξ23 ξ λvs H1 I1 r1 q1=>hc v4 s1 σ H1 vs us Q I1 r1 q1) he jw
end
end L2
namespace HT
open PySem PyProof.Rows
variable {t sl:Addr}{Q:xz}{vl vu:Value}{lo hi:Option Int}
section
open PySem.SeqAt
open PySem.AutoSeq1 (wpAny_loadPart')
open PySem.MeetsSeq PySem.MeetsSeq2 PySem.MeetsSeq3
end
section
variable {prog: Program}{w: World}{A: Around}{E: Value→Shared→Prop}{s: Shared}
def KA{b:Addr}{vs ws:List Value}(ht:IsTup s.heap t vs.toArray)(hb:IsTup s.heap b ws.toArray)(hv:vs≠[])
  (h1:ws=[]→Q (.ref t) s) (h2:ws≠[]→Q (.ref s.heap.objs.size) {s with heap:=s.heap.push {cls:=.type "tuple",data:=.seq (vs++ws).toArray}})
  (hsz:vs.length+ws.length≤sizeLine):wpAny (model prog w) A (binaryOp .Add (.ref t) (.ref b)) Q E s:=by
 obtain⟨⟨cls,dd,data,sl⟩,ho,hc,n,hd⟩:=id ht;obtain⟨⟨XT,U5,data2,IE⟩,J5,S2,n2,hd2⟩:=id hb;simp only at hc hd S2 hd2;subst hc hd S2 hd2;let e:vs.toArray++ws.toArray=(vs++ws).toArray:=by simp
 by_cases hw:ws=[]
 ·show concat_meets ⟨_,ho,rfl⟩ ⟨_,J5,rfl⟩ U9 seq_tuple_add VZ TO (TS _ _)
   (tuple_addW1 t b vs.toArray ws.toArray n n2 dd U5 sl IE (by simpa using hv) (by simp[hw])) ⟨ho,J5,h1 hw⟩
 ·show concat_meets ⟨_,ho,rfl⟩ ⟨_,J5,rfl⟩ U9 seq_tuple_add VZ TO (TS _ _)
   (tuple_addW2 t b vs.toArray ws.toArray n n2 dd U5 sl IE (by simpa using hv) (by simpa using hw) (by rw[Bf,Bf];show hsz)) ⟨ho,J5,?_⟩
  rw[e];show h2 hw
abbrev dz(n d:Nat):Option Int→Nat
 |none=>d
 |some v=>if v<0 then(v+(n:Int)).toNat else min v.toNat n
def oZ(n d:Nat):dz n d none=d:=rfl
def wH(n d:Nat)(hd:d≤n)(o:Option Int):dz n d o≤n:=by
 cases o with
 |none=>show hd
 |some v=>
  show(if v<0 then(v+(n:Int)).toNat else min v.toNat n)≤n
  by_cases hv:v<0
  ·rw[Aa hv];lia
  ·rw[AV hv];show Nat.min_le_right _ _
def WS(v:Int)(n d:Nat):(if v<0 then max (v+(n:Int)) 0 else min v (n:Int))=((dz n d (some v):Nat):Int):=by
 show(if v<0 then max (v+(n:Int)) 0 else min v (n:Int))=(((if v<0 then(v+(n:Int)).toNat else min v.toNat n):Nat):Int)
 by_cases hv:v<0
 ·simp only[Aa hv];lia
 ·simp only[AV hv];lia
def adC(lo hi:Option Int)(n:Nat):Builtin.Slice.sliceAdjust lo hi 1 (n:Int)=(((dz n 0 lo:Nat):Int),((dz n n hi:Nat):Int)):=by
 let h1:¬((1:Int)<0):=by lia
 unfold Builtin.Slice.sliceAdjust;simp only[h1,Lf];show Prod.ext ?_ ?_
 ·cases lo with
  |none=>rfl
  |some v=>show WS v n 0
 ·cases hi with
  |none=>rfl
  |some v=>show WS v n n
def zZ(i j:Nat):Builtin.Slice.slicePlaces (i:Int) (j:Int) 1=j-i:=by
 unfold Builtin.Slice.slicePlaces;let h1:(1:Int)>0:=by lia
 simp only[h1,JB,QI];split<;>lia
def oi{v:Value}{o:Option Int}{Q:Option Int→Shared→Prop}(p:IsPart v o)(h:Q o s):wpAny (model prog w) A (Builtin.Slice.slicePartIndex v) Q E s:=by
 cases p with
 |none=>show N6 h
 |int i t=>show slicePart_int h
def j6{n:Nat}{Q:Int×Int×Nat→Shared→Prop}(hs:s.heap.IsSliceOf sl vl vu .none)(pl:IsPart vl lo)(pu:IsPart vu hi)
  (h:Q (((dz n 0 lo:Nat):Int),1,dz n n hi-dz n 0 lo) s):wpAny (model prog w) A (Builtin.Slice.sliceApplied (.ref sl) (pure (n:Int))) Q E s:=by
 let⟨os,Dz,Ka,D8⟩:=id hs;unfold Builtin.Slice.sliceApplied Builtin.Slice.sliceFields;show AE (AE (F5 Dz D8 (x:=vl) rfl (AE (F5 Dz D8 (x:=vu) rfl (AE (F5 Dz D8 (x:=.none) rfl (Af ?_)))))));show AE (N6 ?_);show wpAny _ _ (if((1:Int)==0)=true then _ else _) _ _ s
 rw[AV (by decide)];show AE (oi pl (AE (oi pu (AE (Af ?_)))));show wpAny _ _ (match Builtin.Slice.sliceAdjust lo hi 1 (n:Int)with|(lo,hi)=>pure (lo,(1:Int),Builtin.Slice.slicePlaces lo hi 1)) _ _ s
 rw[adC lo hi n];show wpAny _ _ (pure (((dz n 0 lo:Nat):Int),(1:Int),Builtin.Slice.slicePlaces ((dz n 0 lo:Nat):Int) ((dz n n hi:Nat):Int) 1)) _ _ s
 rw[zZ];show Af h
def nt(xs:Array Value)(i k:Nat):((List.range k).filterMap λ(m:Nat)=>xs[((i:Int)+(m:Int)*1).toNat]?).toArray=((xs.toList.drop i).take k).toArray:=by
 let e:(λ(m:Nat)=>xs[((i:Int)+(m:Int)*1).toNat]?)=λm=>xs[i+m]? := by
  funext m
  have:((i:Int)+(m:Int)*1).toNat=i+m:=by lia
  rw[this]
 rw[e];have:=pick_run xs i k;rw[RC]at this;let e2:((λx=>xs[x]?) ∘ λx=>i+x)=λm=>xs[i+m]? := rfl;rw[e2]at this;rw[this]
def pP{items:Array Value}(ht:IsTup s.heap t items)(hs:s.heap.IsSliceOf sl vl vu .none)(pl:IsPart vl lo)(pu:IsPart vu hi)
  (hw:¬(dz items.size 0 lo=0∧dz items.size items.size hi=items.size))
  (h:Q (.ref s.heap.objs.size) {s with heap:=s.heap.push {cls:=.type "tuple",data:=.seq ((items.toList.drop (dz items.size 0 lo)).take (dz items.size items.size hi-dz items.size 0 lo)).toArray}})
  (hsz:items.size≤sizeLine):wpAny (model prog w) A (getItem (.ref t) (.ref sl)) Q E s:=by
 let pM:sizeOk (.seq ((items.toList.drop (dz items.size 0 lo)).take (dz items.size items.size hi-dz items.size 0 lo)).toArray):=by
  show((items.toList.drop (dz items.size 0 lo)).take (dz items.size items.size hi-dz items.size 0 lo)).toArray.size≤sizeLine
  rw[Bf,EH,ET,Ig];lia
 let hj:dz items.size items.size hi≤items.size:=wH _ _ (Av _) hi;let⟨os,Dz,Ka,D8⟩:=id hs;let S7:s.TypeIs (.ref sl) "slice" :=⟨os,Dz,Ka⟩;unfold getItem
 try with_reducible refine Hc ?_
 first|refine AE (Af ?_)|skip
 show AE (Sv ht.typeIs (by decide) ?_);show AE (K3 (name:=Str.ofString "__getitem__") ht.typeIs aaV
  (JW aaV ht.typeIs entry_tuple_getitem ?_ (args_tuple_getitem _ _)))
 show wpAny _ _ (Builtin.Tuple.tupleItemsOf (.ref t) >>= _) _ _ s
 show AE (tupleItemsOf_ ht ?_);show AE (MY S7 ?_);rw[Aa (by decide)];show AE (j6 hs pl pu ?_);let Pz:¬((((dz items.size 0 lo:Nat):Int)==0&&(1:Int)==1&&(dz items.size items.size hi-dz items.size 0 lo)==items.size)=true):=by
  intro q;rw[Cq,Cq]at q;let q1:((dz items.size 0 lo:Nat):Int)=0:=eq_of_beq q.1.1;let q2:dz items.size items.size hi-dz items.size 0 lo=items.size:=eq_of_beq q.2;show hw ⟨by lia,by lia⟩
 show wpAny _ _ (if(((dz items.size 0 lo:Nat):Int)==0&&(1:Int)==1&&(dz items.size items.size hi-dz items.size 0 lo)==items.size)=true then _ else _) _ _ s
 rw[AV Pz,nt];first
  |show AE (m:=Builtin.Tuple.tupleExact _) (GP (Af ⟨_,rfl,Af h⟩) pM)
  |show AE (m:=Builtin.Tuple.tupleExact _) (GP (AE (Af (Af ⟨_,rfl,Af h⟩))) pM)
  |show AE (AE (m:=Builtin.Tuple.tupleExact _) (GP (Af (Af ⟨_,rfl,Af h⟩)) pM))
  |show AE (AE (m:=Builtin.Tuple.tupleExact _) (GP (Af ⟨_,rfl,Af h⟩) pM))
end
end HT
namespace L2
open PySem PySem.Spec PyProof.Rows
variable {xs:List V}{us aV:List Value}{n j t':Nat}{i:Int}{A:Around}{s:Shared}{y x:V}{u v:Value}{X: Cx}{e: Expr}{pos: Pos}
abbrev Iy:=St→AA→(Option Int→AA→Prop)→Prop
structure PO(X:Cx)(e:Option Expr)(t:Iy):Prop where
 run:∀v4 s σ H (Q:Option Int→AA→Prop),Inv X v4 σ H s→t σ H Q→
  wpAny (model X.prog X.w) X.A (evalPart e X.env) (λu s'=>∃o H',Inv X v4 σ H' s'∧IsPart u o∧Q o H') X.xe s
instance {X:Cx}{e:Option Expr}{t:Iy}:CoeFun (PO X e t) λ_=>∀v4 s σ H (Q:Option Int→AA→Prop),Inv X v4 σ H s→t σ H Q→wpAny (model X.prog X.w) X.A (evalPart e X.env) (λu s'=>∃o H',Inv X v4 σ H' s'∧IsPart u o∧Q o H') X.xe s:=⟨PO.run⟩
abbrev ac0:Iy:=λ_ H Q=>Q none H
abbrev aa8(t:Al):Iy:=λσ H Q=>t σ H λx H1=>∃i,x=.int i∧Q (some i) H1
def intsAre_of{ns:List Int}:∀{us:List Value},Vals (ns.map V.int) us→IntsAre us ns:=by
 induction ns with
 |nil=>intro us r;rw[GD]at r;cases r;show .nil
 |cons n ns ih=>
  intro us r;rw[CT]at r;cases r with
  |cons r1 r2=>
   let⟨t,e⟩:=r1;subst e;show .cons n t (ih r2)
section
variable {te: Al}{lo hi: Option Expr}{tl th: Iy}{p2: Pos}
def uB:PO X none ac0:=by
 show .mk ?_;intro v4 s σ H Q I h;rw[evalPart_none];show Af ⟨none,H,I,.none,h⟩
def aaR(h:PE X e te):PO X (some e) (aa8 te):=by
 show .mk ?_;intro v4 s σ H Q I hw;rw[evalPart_some];show AQ (h v4 s σ H _ I hw) λu s1 ξ=>Ξ23 ξ λx H1 I1 r1 q1=>?_;let⟨i,rfl,q⟩:=q1;let⟨t,rfl⟩:=r1;show Ψ2 (some i) H1 ⟨I1,.int i t,q⟩
abbrev KJ(X:Cx)(r:V→Option Int→Option Int→AA→B1→Prop):Prop:=
 ∀v4 s σ H (x:V) (v vl vu:Value) (lo hi:Option Int) (sl:Addr) (Q:B1),Inv X v4 σ H s→RelV x v→s.heap.IsSliceOf sl vl vu .none→IsPart vl lo→IsPart vu hi→r x lo hi H Q→
  ∃T id,typeLookup (.type T) "__getitem__" = pure (some (.builtin id))∧s.TypeIs v T∧wpAny (model X.prog X.w) X.A (getItem v (.ref sl)) (Bw X v4 σ Q) X.xe s
abbrev adf(r:V→Option Int→Option Int→AA→B1→Prop)(te:Al)(tl th:Iy):Al:=λσ H Q=>te σ H λx H1=>tl σ H1 λl H2=>th σ H2 λu H3=>r x l u H3 Q
def uA{r:V→Option Int→Option Int→AA→B1→Prop}(hr:KJ X r)(he:PE X e te)(hl:PO X lo tl)(hu:PO X hi th):PE X (.Subscript e (.Slice lo hi none p2) pos) (adf r te tl th):=by
 show .mk ?_;intro v4 s σ H Q I h;show Subscript_ (AQ (he v4 s σ H _ I h) λv s1 ξ=>Ξ23 ξ λx H1 I1 r1 q1=>?_);show wpAny_Slice (AQ (hl v4 s1 σ H1 _ I1 q1) λvl s2 ξ=>Ξ23 ξ λl H2 I2 pl q2=>AQ (hu v4 s2 σ H2 _ I2 q2) λvu s3 ξ=>Ξ23 ξ λu H3 I3 pu q3=>?_);rw[evalPart_none];show Af ?_;let I4:Inv X v4 σ H3 {s3 with heap:=s3.heap.push {cls:=.type "slice",data:=.fields #[vl,vu,.none]}}:=I3.kept (t':=s3.toks) λb ob q=>B9 _ q;let⟨T,id,hT,ht,hg⟩:=hr v4 {s3 with heap:=s3.heap.push {cls:=.type "slice",data:=.fields #[vl,vu,.none]}} σ H3 x v vl vu l u s3.heap.objs.size Q I4 r1 (Heap.IsSliceOf.new ..) pl pu q3;show wpAny (model X.prog X.w) X.A (subscriptTail e (.Slice lo hi none p2) v (.ref s3.heap.objs.size)) (Bw X v4 σ Q) X.xe {s3 with heap:=s3.heap.push {cls:=.type "slice",data:=.fields #[vl,vu,.none]}}
 show tail_any (ops:=[.ref s3.heap.objs.size,v]) ht hT hg (by with_unfolding_all rfl)
abbrev G8(xs:List V)(lo hi:Option Int):List V:=(xs.drop (HT.dz xs.length 0 lo)).take (HT.dz xs.length xs.length hi-HT.dz xs.length 0 lo)
def cN(xs:List V)(lo hi:Option Int):(G8 xs lo hi).length≤xs.length:=by
 unfold G8;rw[EH,ET];lia
abbrev sA(K:W.Frag):V→Option Int→Option Int→AA→B1→Prop:=λx lo hi H Q=>∃a xs,x=.ref a∧eJ K H a xs∧
 ¬(HT.dz xs.length 0 lo=0∧HT.dz xs.length xs.length hi=xs.length)∧∀p,H p=none→Q (.ref p) (Ac H p (.tup (G8 xs lo hi)))
def aa3:KJ X (sA X.K):=by
 intro v4 s σ H x v vl vu lo hi sl Q I rx hs pl pu h;let⟨a,xs,rfl,hx,hw,q⟩:=h;cases rx;let⟨aV,r,ht,hz⟩:=I.tuple hx;let hlen:aV.toArray.size=xs.length:=by rw[Bf];show r.length.symm
 show Ψ2 ("tuple") _ ⟨aaV.lookup,ht.typeIs,?_⟩;show HT.pP ht hs pl pu (by rw[hlen];show hw) ?_ (by rw[hlen];show hz);rw[hlen];show Ψ2 (.ref s.heap.objs.size) _ ⟨I.laid (t':=s.toks) (o:=.tup (G8 xs lo hi)) (λb ob q=>B9 _ q) (Av _) ?_,rfl,q _ (I.cg.fresh (Av _))⟩;show⟨Ci (cN xs lo hi) hz,_,(r.drop (HT.dz xs.length 0 lo)).take (HT.dz xs.length xs.length hi-HT.dz xs.length 0 lo),IsTup.new _ _⟩
abbrev kr(K:W.Frag):E2:=λx y H Q=>∃a b xs ys,x=.ref a∧y=.ref b∧eJ K H a xs∧eJ K H b ys∧xs≠[]∧xs.length+ys.length≤sizeLine∧
 (ys=[]→Q (.ref a) H)∧(ys≠[]→∀p,H p=none→Q (.ref p) (Ac H p (.tup (xs++ys))))
def Vals.xa(r:Vals xs us):us=[]↔xs=[]:=by
 cases r with
 |nil=>simp
 |cons _ _=>simp
def u0:jB X (binaryOp .Add) (kr X.K):=by
 intro v4 s σ H x y v u Q I rx ry h;let⟨a,b,xs,ys,rfl,rfl,ha,hb,hx,hz,q1,q2⟩:=h;cases rx;cases ry;let⟨aV,r1,p1,_⟩:=I.tuple ha;let⟨oH,r2,p2,_⟩:=I.tuple hb;show HT.KA p1 p2 (λz=>hx (r1.xa.mp z)) (λz=>Ψ2 (.ref a) H ⟨I,rfl,q1 (r2.xa.mp z)⟩) (λz=>?_) (by rw[←r1.length,←r2.length];show hz);show Ψ2 (.ref s.heap.objs.size) _ ⟨I.laid (t':=s.toks) (o:=.tup (xs++ys)) (λb ob q=>B9 _ q) (Av _) ?_,rfl,q2 (λw=>z (r2.xa.mpr w)) _ (I.cg.fresh (Av _))⟩;show⟨by rw[B3];show hz,_,r1.append r2,IsTup.new _ _⟩
end
abbrev GY(n:Nat)(i:Int):Option Nat:=if 0≤i then(if i<n then some i.toNat else none)else if -(n:Int)≤i then some (i+n).toNat else none
abbrev C0{α:Type}(xs:List α)(i:Int):Option α:=(GY xs.length i).bind λj=>xs[j]?
def hW(h:GY n i=some j):seqIndex? i n=some j∧j<n∧-(n:Int)≤i∧i<n:=by
 unfold GY at h;by_cases h0:0≤i
 ·rw[Aa h0]at h
  by_cases h1:i<n
  ·rw[Aa h1]at h
   let e:i.toNat=j:=FE h;show⟨by rw[seqIndex_of h0 h1,e],by lia,by lia,h1⟩
  ·rw[AV h1]at h;cases h
 ·rw[AV h0]at h
  by_cases h1:-(n:Int)≤i
  ·rw[Aa h1]at h
   let e:(i+n).toNat=j:=FE h;show⟨by rw[seqIndex_neg (by lia) h1,e],by lia,h1,by lia⟩
  ·rw[AV h1]at h;cases h
def TH{α:Type}{xs:List α}{v:α}(h:C0 xs i=some v):∃j,seqIndex? i xs.length=some j∧xs[j]?=some v∧j<xs.length∧-(xs.length:Int)≤i∧i<xs.length:=by
 unfold C0 at h;cases e:GY xs.length i with
 |none=>rw[e]at h;cases h
 |some j=>
  rw[e]at h;let⟨h1,h2,h3,h4⟩:=hW e;show⟨j,h1,h,h2,h3,h4⟩
def Fv{α:Type}{xs:List α}{v:α}(h:xs[j]?=some v):C0 xs (j:Int)=some v:=by
 let hj:j<xs.length:=(aba.mp h).1;let e:GY xs.length (j:Int)=some j:=by
  unfold GY;rw[Aa (by lia),Aa (by lia)];simp
 unfold C0;rw[e];show h
def P2{α:Type}(xs:List α)(v:α):C0 (xs++[v]) (-1)=some v:=by
 let hl:(xs++[v]).length=xs.length+1:=by simp
 let e:GY (xs++[v]).length (-1)=some xs.length:=by
  unfold GY;rw[hl,AV (by decide),Aa (by lia)];congr 1
  lia
 unfold C0;rw[e];show(xs++[v])[xs.length]?=some v
 simp
abbrev M6(b:Expr):Prop:=∀o i,subscripted b false o i=operate [o,i] (getItem o i)
abbrev K2(X:Cx)(r:E2):Prop:=
 ∀(value slice:Expr) v4 s σ H (x y:V) (v u:Value) (Q:B1),Inv X v4 σ H s→RelV x v→RelV y u→r x y H Q→
  subscripted slice false v u=operate [v,u] (getItem v u)→wpAny (model X.prog X.w) X.A (subscriptTail value slice v u) (Bw X v4 σ Q) X.xe s
abbrev JK(X:Cx)(id:String)(r:V→List V→AA→B1→Prop):Prop:=
 ∀v4 s σ H (x:V) (xs:List V) (v:Value) (us:List Value) (Q:B1),Inv X v4 σ H s→RelV x v→Vals xs us→r x xs H Q→
  wpAny (model X.prog X.w) X.A (call (.builtin id) (v::us)) (Bw X v4 σ Q) X.xe s
section
variable {a b: Expr}{ta tb: Al}
def K2.or{r r':E2}(h:K2 X r)(h':K2 X r'):K2 X (λx y H Q=>r x y H Q∨r' x y H Q):=by
 intro value slice v4 s σ H x y v u Q I rx ry q hs;rcases q with q|q
 ·show h value slice v4 s σ H x y v u Q I rx ry q hs
 ·show h' value slice v4 s σ H x y v u Q I rx ry q hs
def gY{r:E2}(hr:K2 X r)(ha:PE X a ta)(hb:PE X b tb)(hs:M6 b):PE X (.Subscript a b pos) (Mk r ta tb):=by
 show .mk ?_;intro v4 s σ H Q I h;show Subscript_ (RW ha hb I h λv u s2 x y H2 I2 rx ry q=>hr a b v4 s2 σ H2 x y v u Q I2 rx ry q (hs _ _))
abbrev cR(K:W.Frag):E2:=λx y H Q=>∃p xs i v,x=.ref p∧y=.int i∧lG K H p xs∧C0 xs i=some v∧Q v H
abbrev bG(K:W.Frag):E2:=λx y H Q=>∃p xs i v,x=.ref p∧y=.int i∧eJ K H p xs∧C0 xs i=some v∧Q v H
abbrev fN:E2:=λx y H Q=>∃z i c,x=.str z∧y=.int i∧z.length≤sizeLine∧C0 z.cps.toList i=some c∧Q (.str ⟨#[c]⟩) H
def J0:K2 X (cR X.K):=by
 intro value slice v4 s σ H x y v u Q I rx ry h hs;let⟨p,xs,i,z,rfl,rfl,hq,he,q⟩:=h;cases rx;let⟨t,rfl⟩:=ry;let⟨aV,r,pl,hz⟩:=I.list hq;let⟨j,h1,h2,h3,h4,h5⟩:=TH he;let⟨w,ew,rR⟩:=r.get h2;let hl:=r.length;let hn:=Lk;let fin:Bw X v4 σ Q w s:=Ψ2 z H ⟨I,rR,q⟩;by_cases h0:0≤i
 ·let hj:i.toNat=j:=by
   rw[seqIndex_of h0 h5]at h1;show FE h1
  show item_listR pl.isList h0 (by lia) (by rw[hj];simpa using ew) fin hs
 ·let hj:(i+(aV.toArray.size:Int)).toNat=j:=by
   rw[seqIndex_neg (by lia) h4]at h1;rw[Bf,←hl];show FE h1
  show subscriptTail_builtinR (x:=w) pl.isList.typeIs slot_list_getitem.lookup
   (wpAny_getItem_list_neg (Q:=λr s'=>r=w∧Bw X v4 σ Q r s') pl.isList (by lia) (by rw[Bf]<;>lia) (by lia) (by rw[hj];simpa using ew) ⟨rfl,fin⟩) hs
def Ol:K2 X (bG X.K):=by
 intro value slice v4 s σ H x y v u Q I rx ry h hs;let⟨p,xs,i,z,rfl,rfl,hq,he,q⟩:=h;cases rx;let⟨t,rfl⟩:=ry;let⟨aV,r,pl,hz⟩:=I.tuple hq;let⟨j,h1,h2,h3,h4,h5⟩:=TH he;let⟨w,ew,rR⟩:=r.get h2;let hl:=r.length;let hn:=Lk;let fin:Bw X v4 σ Q w s:=Ψ2 z H ⟨I,rR,q⟩;show subscriptTail_builtinR (x:=w) pl.typeIs slot_tuple_getitem.lookup
  (getItem_tuple (j:=j) (Q:=λr s'=>r=w∧Bw X v4 σ Q r s') pl (by lia) (by lia) (by rw[Bf,←hl];show h1) (by simpa using ew) ⟨rfl,fin⟩) hs
def Zj:K2 X fN:=by
 intro value slice v4 s σ H x y v u Q I rx ry h hs;let⟨z,i,c,rfl,rfl,hz,he,q⟩:=h;let⟨t,rfl⟩:=rx;let⟨t',rfl⟩:=ry;let⟨j,h1,h2,h3,h4,h5⟩:=TH he;let hl:z.cps.toList.length=z.length:=by simp[Str.length]
 rw[hl]at h1 h4 h5;let hn:=Lk;show tail_any (LO s z t) slot_str_getitem.lookup (getItem_str (c:=c) (by
  let e1:decide (i < -(2^63:Int))=false:=CA (by lia);let e2:decide (i ≥ 2^63)=false:=CA (by lia);rw[e1,e2,VP]) (by rw[h1];simpa using h2) ⟨.str ⟨#[c]⟩,H,I.tok _,⟨_,rfl⟩,q⟩) hs
abbrev adl(K:W.Frag):E2:=λx y H Q=>cR K x y H Q∨bG K x y H Q∨fN x y H Q
def oy:K2 X (adl X.K):=J0.or (Ol.or Zj)
def rQ(lo hi:Option Int)(n:Nat):(sliceBounds lo hi none n).1=((HT.dz n 0 lo:Nat):Int)∧(sliceBounds lo hi none n).2.1=((HT.dz n n hi:Nat):Int)∧(sliceBounds lo hi none n).2.2=1:=by
 show⟨?_,?_,rfl⟩
 ·cases lo with
  |none=>simp[sliceBounds,HT.dz]
  |some i=>
   simp only[sliceBounds,HT.dz,Option.getD_none,show(1:Int)>0 by decide,JB];by_cases h:i<0
   ·simp only[h,JB]<;>lia
   ·simp only[h,Lf]<;>lia
 ·cases hi with
  |none=>simp[sliceBounds,HT.dz]
  |some i=>
   simp only[sliceBounds,HT.dz,Option.getD_none,show(1:Int)>0 by decide,JB];by_cases h:i<0
   ·simp only[h,JB]<;>lia
   ·simp only[h,Lf]<;>lia
def oh(aV:List Value)(lo hi:Option Int):slicePick aV.toArray lo hi none=((aV.drop (HT.dz aV.length 0 lo)).take (HT.dz aV.length aV.length hi-HT.dz aV.length 0 lo)).toArray:=by
 let⟨h1,h2,h3⟩:=rQ lo hi aV.toArray.size;unfold slicePick;rw[h1,h2,h3];simp only[sliceRange_one,pick_run,Bf]<;>rfl
abbrev unI(K:W.Frag):V→Option Int→Option Int→AA→B1→Prop:=λx lo hi H Q=>∃a xs,x=.ref a∧lG K H a xs∧∀p,H p=none→Q (.ref p) (Ac H p (.lst (G8 xs lo hi)))
def kB:KJ X (unI X.K):=by
 intro v4 s σ H x v vl vu lo hi sl Q I rx hs pl pu h;let⟨a,xs,rfl,hx,q⟩:=h;cases rx;let⟨aV,r,ht,hz⟩:=I.list hx;let hlen:=r.length;show Ψ2 ("list") _ ⟨slot_list_getitem.lookup,ht.isList.typeIs,?_⟩;show wpAny_getItem_list_slice ht.isList hs pl pu .none (by simp) ?_ (by rw[Bf]<;>lia)
 rw[oh,←hlen];show Ψ2 (.ref s.heap.objs.size) _ ⟨I.laid (t':=s.toks) (o:=.lst (G8 xs lo hi)) (λb ob q=>B9 _ q) (Av _) ?_,rfl,q _ (I.cg.fresh (Av _))⟩;show⟨Ci (cN xs lo hi) hz,_,0,(r.drop (HT.dz xs.length 0 lo)).take (HT.dz xs.length xs.length hi-HT.dz xs.length 0 lo),DP _ rfl⟩
abbrev EO:V→Bool
 |.non=>true
 |.bl _=>true
 |.int _=>true
 |.str _=>true
 |_=>false
abbrev Ex:V→V→Bool
 |.non,.non=>true
 |.bl a,.bl b=>a==b
 |.bl a,.int b=>(if a then 1 else 0)==b
 |.int a,.bl b=>a ==(if b then 1 else 0)
 |.int a,.int b=>a==b
 |.str a,.str b=>a==b
 |_,_=>false
def Mn(ry:RelV y u)(rx:RelV x v)(fy:EO y=true)(fx:EO x=true):SeqAt.EqAt A s u v (Ex y x):=by
 cases y with
 |non=>
  cases ry;cases x with
  |non=>cases rx;show SeqAt.EqAt.same _
  |bl b=>cases rx;show SeqAt.EqAt.none_bool b
  |int b=>let⟨t,rfl⟩:=rx;show SeqAt.EqAt.none_int b t
  |str b=>let⟨t,rfl⟩:=rx;show SeqAt.EqAt.none_str b t
  |_=>show absurd (show false=true from fx) Cf
 |bl a=>
  cases ry;cases x with
  |non=>cases rx;show SeqAt.EqAt.bool_none a
  |bl b=>cases rx;show SeqAt.EqAt.bool_bool a b
  |int b=>let⟨t,rfl⟩:=rx;show SeqAt.EqAt.bool_int a b t
  |str b=>let⟨t,rfl⟩:=rx;show SeqAt.EqAt.bool_str a b t
  |_=>show absurd (show false=true from fx) Cf
 |int a=>
  let⟨t',rfl⟩:=ry;cases x with
  |non=>cases rx;show SeqAt.EqAt.int_none a t'
  |bl b=>cases rx;show SeqAt.EqAt.int_bool a t' b
  |int b=>let⟨t,rfl⟩:=rx;show SeqAt.EqAt.int_int a t' b t
  |str b=>let⟨t,rfl⟩:=rx;show SeqAt.EqAt.int_str a t' b t
  |_=>show absurd (show false=true from fx) Cf
 |str a=>
  let⟨t',rfl⟩:=ry;cases x with
  |non=>cases rx;show SeqAt.EqAt.str_none a t'
  |bl b=>cases rx;show SeqAt.EqAt.str_bool a t' b
  |int b=>let⟨t,rfl⟩:=rx;show SeqAt.EqAt.str_int a t' b t
  |str b=>let⟨t,rfl⟩:=rx;show SeqAt.EqAt.str_str a t' b t
  |_=>show absurd (show false=true from fx) Cf
 |_=>show absurd (show false=true from fy) Cf
abbrev Fh(x:V)(u:Value):Bool:=match u with
 |.none=>Ex .non x
 |.bool b=>Ex (.bl b) x
 |.int i _=>Ex (.int i) x
 |.str z _=>Ex (.str z) x
 |_=>false
def WQ(r:RelV y u)(f:EO y=true):Fh x u=Ex y x:=by
 cases y with
 |non=>cases r;rfl
 |bl b=>cases r;rfl
 |int i=>let⟨t,rfl⟩:=r;rfl
 |str z=>let⟨t,rfl⟩:=r;rfl
 |_=>show absurd (show false=true from f) Cf
def Mc{x:V}:∀{xs:List V} {us:List Value},Vals xs us→xs.all EO=true→us.any (Fh x)=xs.any λy=>Ex y x
 |_,_,.nil,_=>rfl
 |y::xs,u::us,.cons r t,f=>by
  rw[F4,Cq]at f;rw[Jg,Jg,WQ r f.1,Mc t f.2]
def Lz{A:Around}{s:Shared}{x:V}{v:Value}(rx:RelV x v)(fx:EO x=true):∀{xs:List V} {us:List Value},Vals xs us→xs.all EO=true→∀u∈us,SeqAt.EqAt A s u v (Fh x u)
 |_,_,.nil,_=>λu hu=>by cases hu
 |y::xs,u::us,.cons r t,f=>λu' hu=>by
  rw[F4,Cq]at f;rcases aaf.mp hu with rfl|hu
  ·rw[WQ r f.1];show Mn r rx f.1 fx
  ·show Lz rx fx t f.2 u' hu
abbrev E0(x:V)(xs:List V):Bool:=xs.any λy=>Ex y x
abbrev S8(K:W.Frag)(neg:Bool):E2:=λx y H Q=>∃p xs,y=.ref p∧(lG K H p xs∨eJ K H p xs)∧EO x=true∧xs.all EO=true∧Q (.bl (if neg then !E0 x xs else E0 x xs)) H
def X7:jB X (compareOp .In) (S8 X.K false):=by
 intro v4 s σ H x y v u Q I rx ry h;let⟨p,xs,rfl,hq,fx,fs,q⟩:=h;cases ry;rcases hq with hq|hq
 ·let⟨aV,r,pl,hz⟩:=I.list hq
  show SeqAt.in_listAt (Fh x) pl.isList (λw hw=>Lz rx fx r fs w (by simpa using hw)) ⟨.bl _,H,I,rfl,?_⟩;rw[show aV.toArray.any (Fh x)=aV.any (Fh x)by simp,Mc r fs];show q
 ·let⟨aV,r,pl,hz⟩:=I.tuple hq
  show SeqAt.in_tupleAt (Fh x) pl (λw hw=>Lz rx fx r fs w (by simpa using hw)) ⟨.bl _,H,I,rfl,?_⟩;rw[show aV.toArray.any (Fh x)=aV.any (Fh x)by simp,Mc r fs];show q
def X0:jB X (compareOp .NotIn) (S8 X.K true):=by
 intro v4 s σ H x y v u Q I rx ry h;let⟨p,xs,rfl,hq,fx,fs,q⟩:=h;cases ry;rcases hq with hq|hq
 ·let⟨aV,r,pl,hz⟩:=I.list hq
  show SeqAt.notIn_listAt (Fh x) pl.isList (λw hw=>Lz rx fx r fs w (by simpa using hw)) ⟨.bl _,H,I,rfl,?_⟩;rw[show aV.toArray.any (Fh x)=aV.any (Fh x)by simp,Mc r fs];show q
 ·let⟨aV,r,pl,hz⟩:=I.tuple hq
  show SeqAt.notIn_tupleAt (Fh x) pl (λw hw=>Lz rx fx r fs w (by simpa using hw)) ⟨.bl _,H,I,rfl,?_⟩;rw[show aV.toArray.any (Fh x)=aV.any (Fh x)by simp,Mc r fs];show q
def VD:EK X (.builtin "len") (λxs H Q=>∃p ys,xs=[.ref p]∧(lG X.K H p ys∨eJ X.K H p ys)∧Q (.int ys.length) H):=by
 intro v4 s σ H xs us Q I r h;let⟨p,ys,rfl,hq,q⟩:=h;let⟨u,rfl,rx⟩:=vals1 r;cases rx;let hn:=Lk;rcases hq with hq|hq
 ·let⟨aV,r',pl,hz⟩:=I.list hq
  let hlen:=r'.length;show Calls.call_len_list pl.isList (by simp only[Bf]<;>lia) ⟨.int ys.length,H,I.tok _,⟨s.toks+1,by rw[Bf,hlen]⟩,q⟩
 ·let⟨aV,r',pl,hz⟩:=I.tuple hq
  let hlen:=r'.length;show len_tuple pl (by simp only[Bf]<;>lia) ⟨.int ys.length,H,I.tok _,⟨s.toks+1,by rw[Bf,hlen]⟩,q⟩
def uC:EK X (.builtin "len") (λxs H Q=>∃z,xs=[.str z]∧z.length≤sizeLine∧Q (.int z.length) H):=by
 intro v4 s σ H xs us Q I r h;let⟨z,rfl,hz,q⟩:=h;let⟨u,rfl,⟨t,rfl⟩⟩:=vals1 r;let hn:=Lk;show len_str (by lia) ⟨.int z.length,H,I.tok _,⟨_,rfl⟩,q⟩
def wC:EK X (.type "list") (λxs H Q=>∃p ys,xs=[.ref p]∧(lG X.K H p ys∨eJ X.K H p ys)∧∀l,H l=none→Q (.ref l) (Ac H l (.lst ys))):=by
 intro v4 s σ H xs us Q I r h;let⟨p,ys,rfl,hq,q⟩:=h;let⟨u,rfl,rx⟩:=vals1 r;cases rx;let fin:∀(aV:List Value),Vals ys aV→ys.length≤sizeLine→∀(h':Heap) (c':Nat),(∀b o',s.heap.get? b=some o'→h'.get? b=some o')→
   h'.get? s.heap.objs.size=some {cls:=.type "list",dict:=none,data:=.seq aV.toArray c',slots:=#[]}→Bw X v4 σ Q (.ref s.heap.objs.size) {s with heap:=h'}:=λaV r' hz h' c' kp e=>
  ⟨.ref s.heap.objs.size,_,I.laid (t':=s.toks) kp (Av _) (show cA X.prog X.w _ h' _ (.lst ys)from⟨hz,aV,c',r',e⟩),rfl,q _ (I.cg.fresh (Av _))⟩
 rcases hq with hq|hq
 ·let⟨aV,r',pl,hz⟩:=I.list hq
  let hlen:=r'.length;let⟨o,ho,hc,⟨n,hd⟩⟩:=pl.isList;show call_list_seq p (.inl rfl) ho hc hd (λh' c' kp e=>fin aV r' hz h' c' kp e) (by simp only[Bf]<;>lia)
 ·let⟨aV,r',pl,hz⟩:=I.tuple hq
  let hlen:=r'.length;let⟨o,ho,hc,⟨n,hd⟩⟩:=pl;show call_list_seq p (.inr rfl) ho hc hd (λh' c' kp e=>fin aV r' hz h' c' kp e) (by simp only[Bf]<;>lia)
def wO:EK X (.type "tuple") (λxs H Q=>∃p ys,xs=[.ref p]∧((lG X.K H p ys∧∀l,H l=none→Q (.ref l) (Ac H l (.tup ys)))∨(eJ X.K H p ys∧Q (.ref p) H))):=by
 intro v4 s σ H xs us Q I r h;obtain⟨p,ys,rfl,h⟩:=h;let⟨u,rfl,rx⟩:=vals1 r;cases rx;rcases h with⟨hq,q⟩|⟨hq,q⟩
 ·let⟨aV,r',pl,hz⟩:=I.list hq
  let hlen:=r'.length;show call_tuple_list pl.isList (λh' kp=>?_) (by simp only[Bf]<;>lia)
  let I1:Inv X v4 σ H {s with heap:=h'}:=I.kept (t':=s.toks) kp;let I2:Inv X v4 σ (Ac H h'.objs.size (.tup ys)) {s with heap:=h'.push {cls:=.type "tuple",data:=.seq aV.toArray}}:=
   I1.laid (t':=s.toks) (λb o e=>B9 _ e) (Av _) (show cA X.prog X.w _ _ _ (.tup ys)from⟨hz,aV,r',IsTup.new _ _⟩)
  show Ψ2 (.ref h'.objs.size) _ ⟨I2,rfl,q _ (I1.cg.fresh (Av _))⟩
 ·let⟨aV,r',pl,hz⟩:=I.tuple hq
  show call_tuple_same pl ⟨.ref p,H,I,rfl,q⟩
abbrev Pa(K:W.Frag)(T:String)(x:V)(H:AA):Prop:=match x with
 |.str _=>T = "str"
 |.int _=>T = "int"
 |.ref p=>(T = "list" ∧ ∃xs,lG K H p xs)∨(T = "tuple" ∧ ∃o,K.lookup p=some o∧o.cls=.type "tuple" ∧ o.dict=none) ∨
   (T = "dict" ∧((∃aF,H p=some (.dK aF))∨∃aF,H p=some (.dT aF)))∨(T = "set" ∧ ∃S n,H p=some (.set S n))
 |_=>False
def ir{v4:ac}{σ:St}{H:AA}{T:String}(I:Inv X v4 σ H s)(r:RelV x v)(ty:Pa X.K T x H):
  s.TypeIs v T∧∀a,v=.ref a→∃ob,s.heap.get? a=some ob∧ob.dict=none:=by
 cases x with
 |str z=>
  let⟨t,rfl⟩:=r;cases(show T = "str" from ty);show⟨LO s z t,λ_ e=>nomatch e⟩
 |int i=>
  let⟨t,rfl⟩:=r;cases(show T = "int" from ty);show⟨typeIs_int s i t,λ_ e=>nomatch e⟩
 |ref p=>
  cases r;rcases ty with⟨rfl,xs,hq⟩|⟨rfl,o,hk,hc,hd⟩|⟨rfl,hk⟩|⟨rfl,S,n,hk⟩
  ·let⟨aV,_,pl,_⟩:=I.list hq
   show⟨pl.isList.typeIs,λa e=>?_⟩;cases e;let⟨o,n,e,c,hd,_⟩:=pl;show⟨o,e,hd⟩
  ·show⟨⟨o,I.pL p o hk,hc⟩,λa e=>?_⟩
   cases e;show⟨o,I.pL _ o hk,hd⟩
  ·let z:∃o,s.heap.get? p=some o∧o.ExactDict:=by
    rcases hk with⟨aF,hk⟩|⟨aF,hk⟩
    ·let⟨_,_,⟨_,_,⟨o,_,_,e,ex,_⟩⟩⟩:=I.cg p _ hk
     show⟨o,e,ex⟩
    ·let⟨_,_,⟨_,_,⟨o,_,_,e,ex,_⟩⟩⟩:=I.cg p _ hk
     show⟨o,e,ex⟩
   let⟨o,e,ex⟩:=z;show⟨⟨o,e,ex.1⟩,λa e2=>?_⟩;cases e2;show⟨o,e,ex.2.1⟩
  ·let⟨o,_,_,_,e,ex,_⟩:=I.cg p _ hk
   show⟨⟨o,e,ex.1⟩,λa e2=>?_⟩;cases e2;show⟨o,e,ex.2.1⟩
 |_=>show False.elim ty
abbrev tg1(K:W.Frag)(T:String)(r:V→List V→AA→B1→Prop)(to:Al):Al:=λσ H Q=>to σ H λx H1=>Pa K T x H1∧r x [] H1 Q
abbrev wJ(K:W.Frag)(T:String)(r:V→List V→AA→B1→Prop)(to:Al)(t:CY):Al:=λσ H Q=>to σ H λx H1=>Pa K T x H1∧t σ H1 λxs H2=>r x xs H2 Q
variable {o: Expr}{es: List Expr}{to: Al}{t: CY}{name: Str}{apos dS: Pos}{T id: String}{r: V→List V→AA→B1→Prop}
def PIp(pa:PlainAttrs T)(slot:Slot T name id)(Ca:typeOf (.builtin id)=pure (.type "method_descriptor"))(hm:JK X id r)(ho:PE X o to)
  (uk:attributeBase o name X.env (eval o X.env)=eval o X.env:=by rfl) (ui:(apos.endLine==dS.line)=true:=by rfl):PE X (.Call (.Attribute o name apos) [] [] dS) (tg1 X.K T r to):=by
 show .mk ?_;intro v4 s σ H Q I h;show wpAny_Call_method0_late uk ui (AQ (ho v4 s σ H _ I h) λv s1 ξ=>Ξ24 ξ λx H1 I1 r1 ty q1=>?_);let⟨h1,h2⟩:=ir I1 r1 ty;show Ψ2 T id ⟨pa,slot,Ca,h1,h2,Ql rfl (PySem.evalArgs_none (hm v4 s1 σ H1 x [] v [] Q I1 r1 .nil q1))⟩
def abP(pa:PlainAttrs T)(slot:Slot T name id)(Ca:typeOf (.builtin id)=pure (.type "method_descriptor"))(hm:JK X id r)(ho:PE X o to)(ha:PA X (e::es) t)
  (uk:attributeBase o name X.env (eval o X.env)=eval o X.env:=by rfl)
  (OF:((backTo dS (starEach (e::es) X.env)).all (λx=>!x.1)&&(backToKw dS (keywordEach [] X.env)).all (λx=>x.1.isSome)
   && decide ((e::es).length+([]:List Keyword).length+(if([]:List Keyword).isEmpty then 0 else 1)<30))=true:=by rfl)
  (ui:(apos.endLine==dS.line)=true:=by rfl) (hs:starEach (e::es) X.env=(false,eval e X.env)::starEach es X.env:=by rfl) (AY:(backTo dS (starEach es X.env)).any (·.1)=false:=by rfl) :
  PE X (.Call (.Attribute o name apos) (e::es) [] dS) (wJ X.K T r to t):=by
 show .mk ?_;intro v4 s σ H Q I h;show wpAny_Call_method_late uk OF ui rfl (AQ (ho v4 s σ H _ I h) λv s1 ξ=>Ξ24 ξ λx H1 I1 r1 ty q1=>?_);let⟨h1,h2⟩:=ir I1 r1 ty;show Ψ2 T id ⟨pa,slot,Ca,h1,h2,?_⟩;let hA:=ha dS v4 s1 σ H1 _ I1 q1;rw[hs]at hA ⊢;show Ql (by show(false||(backTo dS (starEach es X.env)).any (·.1))=false;rw[AY]<;>rfl) (Rf ?_)
 show AQ hA λus s2 ξ=>Ξ23 ξ λvs H2 I2 r2 q2=>hm v4 s2 σ H2 x vs v us Q I2 r1 r2 q2
end
abbrev VX(X:Cx)(id:String)(r:V→List V→AA→B1→Prop):Prop:=
 ∀v4 s σ H (x:V) (xs:List V) (v:Value) (us:List Value) (Q:B1),Inv X v4 σ H s→RelV x v→Vals xs us→r x xs H Q→
  wpAny (model X.prog X.w) X.A (call (.builtin id) (v::us)) (Bw X v4 σ Q) X.xe s
def Vals.one:∀{x:V} {us:List Value},Vals [x] us→∃u,us=[u]∧RelV x u
 |_,_,.cons r .nil=>⟨_,rfl,r⟩
def Vals.two:∀{x y:V} {us:List Value},Vals [x,y] us→∃u v,us=[u,v]∧RelV x u∧RelV y v
 |_,_,_,.cons r (.cons q .nil)=>Ψ2 _ _ ⟨rfl,r,q⟩
def Vals.zero:∀{us:List Value},Vals [] us→us=[]
 |_,.nil=>rfl
def Vals.dropLast(h:Vals xs us):Vals xs.dropLast us.dropLast:=by
 induction h with
 |nil=>show .nil
 |cons r t ih=>
  cases t with
  |nil=>show .nil
  |cons q t'=>show .cons r ih
def Vals.eraseIdx:∀{xs:List V} {us:List Value} (i:Nat),Vals xs us→Vals (xs.eraseIdx i) (us.eraseIdx i)
 |_,_,_,.nil=>.nil
 |_,_,0,.cons _ t=>t
 |_,_,i+1,.cons r t=>.cons r (Vals.eraseIdx i t)
def yZ{α:Type}(l:List α):l.eraseIdx (l.length-1)=l.dropLast:=by
 induction l with
 |nil=>rfl
 |cons a r ih=>
  cases r with
  |nil=>rfl
  |cons b r=>
   let e:(a::b::r).length-1=((b::r).length-1)+1:=by
    let h1:(a::b::r).length=r.length+2:=rfl;let h2:(b::r).length=r.length+1:=rfl;lia
   rw[e,List.eraseIdx_cons_succ,ih]
   all_goals rfl
def cQ{α:Type}:∀(l:List α) (i:Nat),(l.eraseIdx i).length≤l.length
 |[],_=>Av _
 |_::_,0=>CE _
 |_::r,i+1=>LU (cQ r i)
section
variable {v4: List (Addr×Obj)}{σ: St}{H: AA}{s: Shared}{l: Addr}{xs ys: List V}
def Inv.N9{t3':List Value}{f:Array Value→Array Value}(I:Inv X v4 σ H s)(hH:H l=some (.lst xs))
  (e:s.heap.get? l=some {cls:=.type "list",data:=.seq aV.toArray n}) (hf:f aV.toArray=t3'.toArray) (hv:Vals ys t3') (hz:ys.length≤sizeLine) :
  Inv X v4 σ (Ac H l (.lst ys)) {s with heap:=s.heap.update l (Obj.mapSeq f),toks:=t'}:=by
 let q:=PySem.IsL.update e f;rw[hf]at q;show I.write (x:=l) (e:=l) (by rw[hH];show trivial) (.inl rfl) (λb' u hb hu=>(Heap.get?_update_other s.heap (Obj.mapSeq f) (GF hb)).trans hu) ⟨_,q⟩ ?_;show⟨hz,t3',_,hv,q⟩
def Inv.Ww(I:Inv X v4 σ H s)(hv:Vals ys aV)(hz:ys.length≤sizeLine):
  Inv X v4 σ (Ac H s.heap.objs.size (.lst ys)) {s with heap:=s.heap.push {cls:=.type "list",data:=.seq aV.toArray},toks:=t'}:=
 I.laid (λ_ _ q=>B9 _ q) (Av _) ⟨hz,aV,0,hv,DP _ rfl⟩
def Inv.fresh(I:Inv X v4 σ H s):H s.heap.objs.size=none:=I.cg.fresh (Av _)
def Inv.Gx(I:Inv X v4 σ H s)(hH:H l=some (.lst xs)):xs.length≤sizeLine∧∃(aV:List Value) (n:Nat),Vals xs aV∧xs.length=aV.length∧s.heap.get? l=some {cls:=.type "list",data:=.seq aV.toArray n}:=by
 let⟨z,⟨aV,n,r,e⟩⟩:=I.cg l _ hH;show⟨z,aV,n,r,r.length,e⟩
end
section
abbrev kM:V→List V→AA→B1→Prop:=λx vs H Q=>∃l xs y,x=.ref l∧vs=[y]∧H l=some (.lst xs)∧xs.length<sizeLine∧Q .non (Ac H l (.lst (xs++[y])))
def WR:VX X "list.append" kM:=by
 intro v4 s σ H x vs v us Q I rx rv h;let⟨l,xs,y,rfl,rfl,hH,hz,q⟩:=h;cases rx;let⟨u,rfl,ru⟩:=rv.one;let⟨z,⟨aV,n,r,hl,e⟩⟩:=I.Gx hH;show call_meets F.slot_list_append ⟨_,e,rfl⟩ F.entry_list_append (F.args_list_append_2 _ _) (PySem.list_append l aV.toArray n u (by rw[Bf];lia)) ⟨e,?_⟩;show Ψ2 (.non) _ ⟨I.N9 (t3':=aV++[u]) hH e (by simp) (r.append (.cons ru .nil)) ?_,rfl,q⟩;rw[B3,L9];lia
abbrev o9:V→List V→AA→B1→Prop:=λx vs H Q=>∃l xs y,x=.ref l∧vs=[]∧H l=some (.lst xs)∧xs[xs.length-1]?=some y∧Q y (Ac H l (.lst xs.dropLast))
def acM:VX X "list.pop" o9:=by
 intro v4 s σ H x vs v us Q I rx rv h;let⟨l,xs,y,rfl,rfl,hH,hy,q⟩:=h;cases rx;let hus:=rv.zero;subst hus;let⟨z,⟨aV,n,r,hl,e⟩⟩:=I.Gx hH;let⟨u,hu,ru⟩:=r.get hy;let hy':aV.toArray[aV.toArray.size-1]?=some u:=by
  show aV.toArray[aV.length-1]?=some u
  rw[←V6,←hl];show hu
 show call_meets F.slot_list_pop ⟨_,e,rfl⟩ F.entry_list_pop (F.args_list_pop_1 _) (MeetsSeq.list_pop_last l aV.toArray n u hy' (by rw[Bf];lia)) ⟨e,?_⟩;show Ψ2 y _ ⟨I.N9 (t3':=aV.dropLast) hH e ?_ r.dropLast ?_,ru,q⟩
 ·show aV.toArray.eraseIdxIfInBounds (aV.toArray.size-1)=aV.dropLast.toArray
  rw[Bf,YU,yZ]
 ·rw[List.length_dropLast]
  lia
abbrev vN:V→List V→AA→B1→Prop:=λx vs H Q=>∃l xs i k y,x=.ref l∧vs=[.int i]∧H l=some (.lst xs)∧-(2^63)≤i∧i<2^63∧seqIndex? i xs.length=some k∧xs[k]?=some y∧Q y (Ac H l (.lst (xs.eraseIdx k)))
def kH:VX X "list.pop" vN:=by
 intro v4 s σ H x vs v us Q I rx rv h;let⟨l,xs,i,k,y,rfl,rfl,hH,h1,h2,hk,hy,q⟩:=h;cases rx;let⟨u,rfl,ru⟩:=rv.one;let⟨t,rfl⟩:=ru;let⟨z,⟨aV,n,r,hl,e⟩⟩:=I.Gx hH;let⟨w,hw,rR⟩:=r.get hy;show call_meets F.slot_list_pop ⟨_,e,rfl⟩ F.entry_list_pop (F.args_list_pop_2 _ _)
  (MeetsSeq.list_pop_at l aV.toArray n i t k w (fitsIndex_both h1 h2) (by rw[Bf,←hl];show hk) (by rw[←V6];show hw) (by rw[Bf];lia)) ⟨e,?_⟩
 show Ψ2 y _ ⟨I.N9 (t3':=aV.eraseIdx k) hH e ?_ (r.eraseIdx k) ?_,rR,q⟩
 ·show aV.toArray.eraseIdxIfInBounds k=(aV.eraseIdx k).toArray
  rw[YU]
 ·have:=cQ xs k
  lia
abbrev abt:E2:=λx y H Q=>∃l b xs zs,x=.ref l∧y=.ref b∧H l=some (.lst xs)∧H b=some (.lst zs)∧xs.length+zs.length≤sizeLine∧∀p,H p=none→Q (.ref p) (Ac H p (.lst (xs++zs)))
def tOr:jB X (binaryOp .Add) abt:=by
 intro v4 s σ H x y v u Q I rx ry h;let⟨l,b,xs,zs,rfl,rfl,hH,hB,hz,q⟩:=h;cases rx;cases ry;let⟨z,⟨aV,n,r,hl,e⟩⟩:=I.Gx hH;let⟨z2,⟨oH,n2,r2,Zw,e2⟩⟩:=I.Gx hB;show PySem.P.add_list e e2 ?_ (by rw[Bf,Bf];lia);let ea:aV.toArray++oH.toArray=(aV++oH).toArray:=by simp
 rw[ea];show Ψ2 (.ref _) _ ⟨I.Ww (t':=s.toks) (r.append r2) (by rw[B3];lia),rfl,q _ I.fresh⟩
end
section
set_option maxRecDepth 100000 in
end
end L2
namespace Vd
open PySem PySem.W PySem.Calls PyProof.Rows
variable {P:Params}{h:Heap}{l:OpenLaw}{n:Nat}
def yo:∀(ns:List Int) (vs:List Value),WellAll P h vs (ns.map WData.int)→IntsAre vs ns:=by
 intro ns;induction ns with
 |nil=>
  intro vs w;rw[GD]at w;cases w;show .nil
 |cons n ns ih=>
  intro vs w;rw[CT]at w;cases w with
  |cons a b=>
   cases a;show .cons _ _ (ih _ b)
def vj(hn:l.most=some n){args:List WData}{vals:List Value}
  (J4:l.row.toRowW.claim.pre args=true) (WY:WellAll P h vals args) :
  ∃a vs ns,vals=[Value.ref a]∧args=[WData.list (ns.map WData.int)]∧h.get? a=some {cls:=.type "list",data:=.seq vs.toArray}∧IntsAre vs ns∧ns.length≤n:=by
 let hsh:WShape.hasAll [] args [.list .int]=true:=(pre_splitW J4).1;let hc:l.pre.holds [] {args:=args}=true:=(pre_splitW J4).2;let⟨d,r,rfl,h1,h2⟩:=hasAllW_cons hsh;obtain rfl:=hasAllW_nil h2;let⟨xs,rfl,h3⟩:=hasW_list h1;let⟨ns,rfl⟩:=items_int h3;let hlen:ns.length≤n:=by
  unfold OpenLaw.pre at hc;let h4:(WTm.not (.lt (.lit (.int (n:Int))) (.len (.arg 0)))).holds [] {args:=[.list (ns.map .int)]}=true:=by
   let h4:=(holds_andW hc).1;rw[hn]at h4;show h4
  let h5:=condW_of h4 (w_not (w_lt w_lit (w_len_list (w_arg rfl))));rw[Ag]at h5;show Nat.le_of_not_lt λq=>?_;let q':(n:Int)<((ns.length:Nat):Int):=by lia
  first
   |(rw[BE q']at h5;show absurd h5 (by decide))
   |(simp at h5;lia)
 cases WY with
 |cons w1 w2=>
  cases w2;cases w1 with
  |list ho xv=>show Ψ3 _ _ ns ⟨rfl,rfl,ho,yo ns _ xv,hlen⟩
def acs(l:OpenLaw)(args:List WData):l.row.toRowW.claim.post args (.bool true) args=true:=
 postW_of (r:=l.row.toRowW) (X:=(true==true))
  (show WShape.has [] (.bool true) .bool=true by first|rfl|decide|simp[WShape.has,WShape.arms,WShape.armsAll])
  (show(WTm.eq .res (.lit (.bool true))).value [] {args:=args,res:=some (.bool true),after:=args}=some (.bool (true==true))from w_eq_bool (w_res rfl) w_lit) rfl
def zK{q:Program}{loose:List Str}{XP:(KK)→Heap→Prop}{YP:World→Heap→Prop}{d:DefRec}
  (hn:l.most=some n) (PD:d.params.defaults=[])
  (call:∀(w:World) (s₀ s₁:Shared) (mg mb:KK) (fa:Addr) (o:Obj) (pm cd doc:Value) (a:Addr) (vs:List Value) (ns:List Int),
   Ground q loose [] XP w s₀ mg mb s₁.heap→YP w s₁.heap→
   s₁.heap.get? fa=some o→o.data=.func (docDef d.name d.params d.body d.scope pm cd doc)→s₁.heap.CodeRec cd d.name→mg d.name=some (.ref fa)→
   s₁.heap.get? a=some {cls:=.type "list",data:=.seq vs.toArray}→IntsAre vs ns→ns.length≤n→s₁.gens=#[]→
   codeAny (model l.prog w) callerA (.call (.ref fa) ⟨[.ref a],[]⟩) (λr s'=>r=.ok (.ret (.bool true))∧OldK s₁.heap s'.heap∧s'.os=s₁.os∧AllBare s'.gens) s₁) :
  WalkO q loose XP YP l.row.toRowW d [] (λf vs=>PySem.call f vs):=by
 intro w s₀ s₁ mg mb G Y fa o pm cd doc dV BV ho hd xu hD SQ hg args vals as J4 hlay hrd WY Zv;obtain rfl:dV=.none:=Dflts.none hD PD;obtain rfl:BV=.none:=Dflts.noKw hD;let⟨a,vs,ns,rfl,rfl,OB,hints,hlen⟩:=vj hn J4 WY;show enter_call (Mb (call w s₀ s₁ mg mb fa o pm cd doc a vs ns G Y ho (fd_plain hd) xu SQ OB hints hlen hg) λr s' hq=>?_);let⟨rfl,h2,h3,h4⟩:=hq;show⟨.inl ⟨.bool true,.bool true,[],rfl,λ_=>rfl,.bool true,acs l _,λ_=>⟨List.Pairwise.nil,λ_ hm=>(nomatch hm)⟩⟩,h2,h3,h4⟩
end Vd
namespace L2
open PySem PySem.Spec PyProof.Rows
variable {w:World}{k n i:Nat}{fd:FuncData}{x qual:Str}{sp:EI}{ns:List Int}{l:List Addr}{X: Cx}{st:Stmt}{f C:Addr}{ps:List Str}{pos p: Pos}{scope: Scope}{env:Env}{own: List Str}{cap: List (Nat×Str)}{σ:St}{s2:Shared}{cl: List (Str×Addr)}{te: Al}
def jd:∀{vs:List Value} {ns:List Int},IntsAre vs ns→Vals (ns.map V.int) vs
 |_,_,.nil=>.nil
 |_,_,.cons n t h=>.cons ⟨t,rfl⟩ (jd h)
abbrev Ou(H:AA):Prop:=∀b,H b=none∨∃o xs,H b=some (.frz o (.lst xs))
def aaN{P:Program}{K:W.Frag}{mg mb:KK}{CX:HE}{fa a:Addr}{s₁:Shared}{vs:List Value}
  (KX:K.In s₁.heap) (Zu:s₁.heap.Ns mainGlobals mg) (hb:s₁.heap.Ns builtinsNs mb) (hbb:∀x:Str,x ≠ "__name__" → mb x=bootBuiltins x) (Xe:s₁.heap.NoLimit) (hg:s₁.gens=#[])
  (ha:s₁.heap.get? a=some {cls:=.type "list",data:=.seq vs.toArray}) (hi:IntsAre vs ns) (hl:ns.length≤sizeLine) (hr:eh k callerA)
  (F:∀base:Heap,K.In base→base.Ns mainGlobals mg→bq P w K mg base CX k fa fd [x] sp) (S4:∀(s:Shared) (u:Value),BindsTo s fd ⟨[u],[]⟩ [(x,u)])
  (zP:∀H:AA,Ou H→lG K H a (ns.map V.int)→sp [.ref a] H (λv _=>v=.bl true) λ_ _ _=>False)
  (Xq:∀H e s',CX [] H s₁ (λ_ _ _=>False) e s'→False) :
  codeAny (model P w) callerA (.call (.ref fa) ⟨[.ref a],[]⟩) (λr s'=>r=.ok (.ret (.bool true))∧OldK s₁.heap s'.heap∧s'.os=s₁.os∧AllBare s'.gens) s₁:=by
 let rv:=jd hi;let Wx:=hi.length
 -- from an abstract heap in Yk nothing but Bx Ae may be tracked
 let core:∀H:AA,Ou H→lG K H a (ns.map V.int)→oM P w H s₁.heap→(∀b,H b≠none→b=a)→(H a≠none→K.lookup a=none)→
   codeAny (model P w) callerA (.call (.ref fa) ⟨[.ref a],[]⟩) (λr s'=>r=.ok (.ret (.bool true))∧OldK s₁.heap s'.heap∧s'.os=s₁.os∧AllBare s'.gens) s₁:=by
  intro H hO hS cg hA hK;let Cv:∀{b:Addr} {o:Obj},s₁.heap.get? b=some o→H b=none→(Ik s₁.heap H).get? b=some o:=λe n=>kn e n;let R8:∀{b:Addr} {o:Obj} {es:Array DictEntry} {ep:Nat},s₁.heap.get? b=some o→o.data=.dict es ep→H b=none:=λ{b o es ep} e d=>by
   cases q:H b with
   |none=>rfl
   |some u=>
    let e':b=a:=hA b (by rw[q];simp);subst e';rw[ha]at e;cases e;let d':Data.seq vs.toArray _=Data.dict es ep:=d;cases d'
  let UA:∀{b:Addr} {m:KK},s₁.heap.Ns b m→(Ik s₁.heap H).Ns b m:=λ{b m} ⟨o,es,ep,e,d,r⟩=>Ψ3 o es ep ⟨Cv e (R8 e d),d,r⟩;let ZH:K.In (Ik s₁.heap H):=λb o e=>Cv (KX b o e) (by
   cases q:H b with
   |none=>rfl
   |some u=>
    let e':b=a:=hA b (by rw[q];simp);subst e';rw[hK (by rw[q];simp)]at e;cases e)
  let hM:Mod K mg (Ik s₁.heap H):=⟨ZH,UA Zu,⟨mb,UA hb,hbb⟩,let⟨mc,h1,h2⟩:=Xe;⟨mc,UA h1,h2⟩⟩;let e0:Bp P w K mg (Ik s₁.heap H) callerA [] s₁ H:=⟨rfl,hM,λb o e=>rP e,Nat.le_of_eq (yu _ _),trivial,λb hb=>absurd (show b∈([]:List Addr)from hb) (by simp),cg,.of_eq hg⟩;show Mb ((F _ ZH (UA Zu)).run callerA [] s₁ H ⟨[.ref a],[]⟩ [.ref a] [.ref a] _ _ hr e0 (S4 s₁ (.ref a)) (.cons rfl .nil) (zP H hO hS)) λr s' h=>?_;cases r with
  |error e=>show(Xq H e s' h).elim
  |ok fl=>
   cases fl with
   |next=>show False.elim h
   |brk=>show False.elim h
   |cont=>show False.elim h
   |ret u=>
    let⟨v,H',os,bare,un,Xa,r',q⟩:=h;let q':v=.bl true:=q;subst q';obtain rfl:u=Value.bool true:=r';show⟨rfl,OldK.of_keep λb o e=>?_,os,bare⟩;cases q:H b with
    |none=>show un.keep b o e q (by intro z;show absurd (show b∈([]:List Addr)from z) (by simp)) (by simp)
    |some u=>
     rcases hO b with z|⟨ob,xs,z⟩
     ·rw[q]at z;cases z
     ·let z2:=un.oI b ob _ z
      let⟨e1,_⟩:=cg b _ z;let⟨e2,_⟩:=Xa b _ z2;rw[e]at e1;cases e1;show e2
 cases hk:K.lookup a with
 |some o=>
  -- Bx Ae is one of Bx Sd own objects
  let e:=KX a o hk;rw[ha]at e;cases e;show core (λ_=>none) (λ_=>.inl rfl) (.inr ⟨_,vs.toArray,_,hk,rfl,rfl,rfl,by rw[Bf,Wx];show hl,by simpa using rv⟩) (λb u z=>by have z':(none:Option HO)=some u:=z;cases z') (λb z=>absurd rfl z) λz=>absurd rfl z
 |none=>
  show core (λb=>if b=a then some (.frz {cls:=.type "list",data:=.seq vs.toArray} (.lst (ns.map V.int)))else none) (λb=>?_) (.inl (.inr ⟨{cls:=.type "list",data:=.seq vs.toArray},Aa rfl⟩)) (λb u z=>?_) (λb z=>?_) λ_=>hk
  ·by_cases hb:b=a
   ·show .inr ⟨_,_,Aa hb⟩
   ·show .inl (AV hb)
  ·by_cases hb:b=a
   ·let z':=(Aa hb).symm.trans z
    cases z';subst hb;show⟨ha,by rw[Ag];show hl,vs,_,rv,ha⟩
   ·let z':=(AV hb).symm.trans z
    cases z'
  ·by_cases hb:b=a
   ·show hb
   ·show absurd (AV hb) z
def Ib{l:W.OpenLaw}{q:Program}{loose:List Str}{XP:(KK)→Heap→Prop}{YP:World→Heap→Prop}{d:DefRec}{K:Params→W.Frag}{CX:World→HE}{sp:World→EI}
  (hn:l.most=some n) (UQ:n≤sizeLine) (PD:d.params.defaults=[]) (hr:eh k callerA)
  (hY:∀(w:World) (h:Heap),YP w h→(K w.params).In h)
  (F:∀(w:World) (mg:KK) (fa:Addr) (h:Heap),(K w.params).In h→h.Ns mainGlobals mg→mg d.name=some (.ref fa)→
   ∃fd:FuncData,(∀(s:Shared) (u:Value),BindsTo s fd ⟨[u],[]⟩ [(x,u)])∧
    ∀base:Heap,(K w.params).In base→base.Ns mainGlobals mg→bq l.prog w (K w.params) mg base (CX w) k fa fd [x] (sp w))
  (zP:∀(w:World) (H:AA) (a:Addr) (ns:List Int),ns.length≤n→Ou H→lG (K w.params) H a (ns.map V.int)→sp w [.ref a] H (λv _=>v=.bl true) λ_ _ _=>False)
  (Xq:∀(w:World) (H:AA) (s:Shared) (e:Value) (s':Shared),CX w [] H s (λ_ _ _=>False) e s'→False) :
  W.WalkO q loose XP YP l.row.toRowW d [] (λf vs=>PySem.call f vs):=by
 show Vd.zK hn PD λw s₀ s₁ mg mb fa o pm cd doc a vs ns G Y ho hd xu SQ OB hints hlen hg=>?_;let KX:=hY w _ Y;let⟨fd,hb,hF⟩:=F w mg fa _ KX G.T.g SQ;show aaN KX G.T.g G.T.b G.T.builtins G.T.nolimit hg OB hints (Ci hlen UQ) hr hF hb (λH hO hS=>zP w H a ns hlen hO hS) λH e s'=>Xq w H s₁ e s'
abbrev JI(s:Stmt):Arguments:=match s with
 |.FunctionDef _ a _ _ _ _ _ _ _ _=>a
 |_=>{posonlyargs:=[],args:=[],vararg:=none,kwonlyargs:=[],kw_defaults:=[],kwarg:=none,defaults:=[]}
abbrev GG(s:Stmt):List Stmt:=match s with
 |.FunctionDef _ _ b _ _ _ _ _ _ _=>b
 |_=>[]
abbrev An(s:Stmt):Scope:=match s with
 |.FunctionDef _ _ _ _ _ _ sc _ _ _=>sc
 |_=>{kind:=.function,names:=[],isGenerator:=false,isCoroutine:=false}
@[reducible]def Ax:HE:=λ_ _ _ _ _ _=>False
@[reducible]def Ji:BS:=λ_ _ _=>False
def ah{X:Cx}:Passes Ax X Ji:=λ_ _ _ _ _ _ _ h=>h.elim
structure cH(K:W.Frag)(x qual:Str)(st:Stmt)(f:Addr)(fd:FuncData):Prop where
 ex:∃(oc:Value) (od:Option Addr) (BV doc pm:Value) (an:Option Addr) (cy ct:Value) (De:Array (Option Value)),
  fd=W.fnOf x qual (JI st) (GG st) (An st) .none BV doc pm an cy ct∧K.lookup f=some ⟨oc,od,.func fd,De⟩∧W.codeIn K cy qual=true
 kp:W.keepIn K (.ref f)=true
section
variable {P: Program}{w: World}{K: W.Frag}{mg: Str→Option Value}{base: Heap}
def cH.ok{N:List Str}(F:cH K x qual st f fd)(S:B0 N ps (An st))(len:∀vs H Q E,sp vs H Q E→vs.length=ps.length)
  (pN:∀(cy:Value) (A:Around) (outer:List Env) (s:Shared) (H:AA) (vs:List V) (Q:B1) (E:BS),eh k (A.deeper (envOfC qual (An st) s.heap.objs.size f cy))→sp vs H Q E→
   ∃t,nH (Ja Ax P w K mg base N qual (An st) f cy A outer s H E).jI (GG st) t∧t {nx:=λ_ H'=>Q .non H',rt:=Q} (start N vs) H):bq P w K mg base Ax (k+1) f fd ps sp:=by
 let⟨oc,od,BV,doc,pm,an,cy,ct,De,rfl,lk,xu⟩:=F.ex;show bt lk xu S len λA outer s H vs Q E hr zP=>?_;let⟨t,h,q⟩:=pN cy A outer s H vs Q E hr zP;show⟨t,h.jI,q⟩
def cH.binds(F:cH K x qual st f fd)
  (h:∀(BV doc pm:Value) (an:Option Addr) (cy ct:Value) (us:List Value),us.length=ps.length→bindArgs (W.fnOf x qual (JI st) (GG st) (An st) .none BV doc pm an cy ct) ⟨us,[]⟩=pure (ps.zip us)):Binds K fd ps []:=by
 let⟨oc,od,BV,doc,pm,an,cy,ct,De,rfl,lk,xu⟩:=F.ex;show .all (h BV doc pm an cy ct)
def cO{oc:Value}{od an:Option Addr}{De:Array (Option Value)}{BV doc pm cy ct:Value}(l:K.lookup f=some ⟨oc,od,.func (W.fnOf x qual (JI st) (GG st) (An st) .none BV doc pm an cy ct),De⟩)
  (c:W.codeIn K cy qual=true) (k:W.keepIn K (.ref f)=true):cH K x qual st f (W.fnOf x qual (JI st) (GG st) (An st) .none BV doc pm an cy ct):=⟨Ψ9 oc od BV doc pm an cy ct De ⟨rfl,l,c⟩,k⟩
end
def BU(h:n≤1000):n<sizeLine:=D3 h (by decide)
section
def pv(i:Nat){pos:Pos}(hN:X.N[i]?=some x:=by rfl)(hv:JL X.env.scope x:=by first|show Or.inl rfl|show Or.inr (Or.inl rfl)|show Or.inr (Or.inr rfl))(hd:(x ==("__debug__" : Str))=false:=by decide)
  (xu:(x ==("__classdict__" : Str))=false:=by decide):PE X (.Name x pos) (cu i):=gV hN hv hd xu
end
def aa7{prog:Program}{A:Around}{R:Result→Shared→Prop}{s:Shared}{elt target iter:Expr}{ifs:List Expr}{scope:Scope}{pos:Pos}{it acc:Value}(I:Nat→Shared→Prop)
  (turn:∀n s,I n s→wpAny (model prog w) A (pyNext it) (λr s₁=>match r with
   |none=>R (.ok .next) s₁
   |some v=>wpAny (model prog w) A (letOwnedTupleGo target it v) (λ_ EM=>wpAny (model prog w) A (assign target env v) (λ_ s₂=>
     wpAny (model prog w) A (forIn ifs true λc r=>if r=true then do let ok ←isTrue c env (eval c env);pure (ForInStep.yield ok)else pure (ForInStep.yield r)) (λok s₃=>
      if ok=true then wpAny (model prog w) A (eval elt env) (λx s₄=>
       wpAny (model prog w) A (call (.builtin "list.append") [acc,x]) (λ_ s₅=>∃m,m<n∧I m s₅) (notedBy (model prog w) A env λe s'=>R (.error e) s') s₄) (notedBy (model prog w) A env λe s'=>R (.error e) s') s₃
      else ∃m,m<n∧I m s₃) (notedBy (model prog w) A env λe s'=>R (.error e) s') s₂) (notedBy (model prog w) A env λe s'=>R (.error e) s') EM) (notedBy (model prog w) A env λe s'=>R (.error e) s') s₁) (notedBy (model prog w) A env λe s'=>R (.error e) s') s)
  (n:Nat) (h:I n s) :
  codeAny (model prog w) A (.compLoop (.ListComp elt [⟨target,iter,ifs,0⟩] scope pos) 0 it acc env) R s:=by
 show Pu rfl I (λn s hI=>?_) n h;show wpAny _ A ((compTurn (.ListComp elt [⟨target,iter,ifs,0⟩] scope pos) 0 it acc env).onRaise (λx=>do noteFrame x env;theTreesLotGoes x)) _ _ s
 show wpAny_noted ?_;rw[compTurn_list];show AE (IK (AE (Bt (turn n s hI) (λr s₁ h₁=>?_) λ_ _ h'=>h')));cases r with
 |none=>show Af h₁
 |some v=>
  show AE (Bt h₁ (λ_ EM Ox=>?_) λ_ _ h'=>h');show AE (Bt Ox (λ_ s₂ h₂=>AE (Bt h₂ (λok s₃ h₃=>?_) λ_ _ h'=>h')) λ_ _ h'=>h');cases ok with
  |false=>show Af ⟨rfl,h₃⟩
  |true=>
   show AE (AE (Bt h₃ (λx s₄ h₄=>AE (Bt h₄ (λ_ s₅ h₅=>Af (Af ⟨rfl,h₅⟩)) λ_ _ h'=>h')) λ_ _ h'=>h'))
structure ye(X:Cx)(ifs:List Expr)(t:Cr):Prop where
 run:∀v4 s σ H (Q:Bool→AA→Prop),Inv X v4 σ H s→t σ H Q→
  wpAny (model X.prog X.w) X.A (forIn ifs true λc r=>if r=true then do let ok ←isTrue c X.env (eval c X.env);pure (ForInStep.yield ok)else pure (ForInStep.yield r)) (KU X v4 σ Q) X.xe s
instance {X:Cx}{ifs:List Expr}{t:Cr}:CoeFun (ye X ifs t) λ_=>∀v4 s σ H (Q:Bool→AA→Prop),Inv X v4 σ H s→t σ H Q→wpAny (model X.prog X.w) X.A (forIn ifs true λc r=>if r=true then do let ok ←isTrue c X.env (eval c X.env);pure (ForInStep.yield ok)else pure (ForInStep.yield r)) (KU X v4 σ Q) X.xe s:=⟨ye.run⟩
abbrev lE:Cr:=λ_ H Q=>Q true H
def pt5{X:Cx}:ye X [] lE:=.mk λ_ _ _ H _ I h=>wpAny_tests_nil ⟨H,I,h⟩
def vD{X:Cx}{c:Expr}{t:Cr}(h:PT X c t):ye X [c] t:=.mk λv4 s σ H Q I q=>wpAny_tests_one (h v4 s σ H Q I q)
abbrev Ba(X:Cx)(Nc:List Str)(scope:Scope)(cl:List (Str×Addr))(C:Addr)(s:Shared)(H:AA)(fp:List Addr)(E:xz):Cx where
 prog:=X.prog
 w:=X.w
 K:=X.K
 mg:=X.mg
 base:=X.base
 A:=X.A
 N:=Nc
 s₀:=s
 H₀:=H
 env:=compEnvC scope cl C X.env
 outer:=X.stack
 stack:=X.stack
 ex:=fp
 calm:=X.calm
 fn:=λ_=>false
 pn:=[]
 xe:=E
abbrev me(X:Cx)(scope:Scope)(cl:List (Str×Addr))(j:Nat)(x:Str):Prop:=
 X.N[j]?=some x∧JL X.env.scope x∧X.env.kindOf x≠some .local∧(relabel scope X.env).names.lookup x≠some .local∧((relabel scope X.env).names.lookup x=some .cell∨(relabel scope X.env).names.lookup x=some .free)
structure dB(X:Cx)(scope:Scope)(cl:List (Str×Addr))(own:List Str)(cap:List (Nat×Str)):Prop where
 zt:closureFor scope X.env=pure cl
 cell:∀y∈scope.names,y.2≠.cell
 kind:scope.kind=.function
 names:∀y∈scope.names,y.2=.local→scope.names.lookup y.1=some .local
 sub:∀x c,cl.lookup x=some c→X.env.cells.lookup x=some c
 has:∀p∈(relabel scope X.env).names,p.2=.cell∨p.2=.free→(cl.lookup p.1).isSome=true
 KC:∀p∈cap,me X scope cl p.1 p.2
abbrev Fn(own:List Str)(cap:List (Nat×Str))(σ:St):St:=List.replicate own.length none++cap.map λp=>(σ[p.1]?).getD none
def lookup_mem{α:Type}:∀{l:List (Str×α)} {n:Str} {c:α},l.lookup n=some c→(n,c)∈l:=λh=>mem_of_lookup h
section
variable {v4: List (Addr×Obj)}{σ: St}{H: AA}{s: Shared}{fp: List Addr}{E: Value→Shared→Prop}
def dB.OJ(c:dB X scope cl own cap)(x:Str)(h:(relabel scope X.env).names.lookup x=some .cell∨(relabel scope X.env).names.lookup x=some .free):∃a,cl.lookup x=some a:=by
 have:(cl.lookup x).isSome=true:=by
  rcases h with h|h
  ·show c.has (x,.cell) (lookup_mem h) (.inl rfl)
  ·show c.has (x,.free) (lookup_mem h) (.inr rfl)
 show adA.mp this
def Gi(c:dB X scope cl own cap)(I:Inv X v4 σ H s)(hf:∀b∈fp,Dq X v4 H b)(eQ:∀b∈fp,b<s.heap.objs.size)(hC:s.heap.objs.size≤C):
  (Ba X (own++cap.map (·.2)) scope cl C s H fp E).Ok where
 mod:=I.ok.mod
 kind:=c.kind
 glob:=I.ok.glob
 blt:=I.ok.blt
 above:=hC
 inj:=λx y a h1 h2=>I.ok.inj x y a (c.sub x a h1) (c.sub y a h2)
 has:=λx h=>c.OJ x h
 LW:=λx a h=>absurd h (by intro z;show Bool.noConfusion z)
 hd:=I.ok.hd
 frames:=I.ok.frames
 MJ:=.inl rfl
 HX:=λb hb=>⟨λz=>by
   have:=eQ b hb;rw[z]at this;show absurd (EE this hC) (IQ _),λx a h=>(hf b hb).2.2.2.2.1 x a (c.sub x a h)⟩
 bs:=I.bs
 Hy:=Ci I.ok.Hy I.sz
 yO:=λb o e hb=>by
  rcases(hf b hb).2.2.2.1 with z|z
  ·show I.ok.yO b o e z
  ·show absurd (EE (BF (I.ok.bs b o e).1) z) (IQ _)
 sE:=λb hb hs=>by
  rcases aaf.mp (I.wx b hs)with z|z
  ·show(hf b hb).2.1 z
  ·show(hf b hb).2.2.1 z
 nE:=I.stack
 HW:=I.sM
def aN{own:List Str}{cap:List (Nat×Str)}{v:V}(h1:(own++cap.map (·.2))[i]?=some x)(h2:(Fn own cap σ)[i]?=some (some v)):∃p∈cap,p.2=x∧σ[p.1]?=some (some v):=by
 unfold Fn at h2;by_cases hi:i<own.length
 ·rw[Na (by simpa using hi),cf]at h2
  split at h2<;>cases h2
 ·rw[fJ (by simpa using hi)]at h2 h1
  rw[List.length_replicate,He]at h2;rw[He]at h1;cases e:cap[i-own.length]? with
  |none=>rw[e]at h2;cases h2
  |some p=>
   rw[e]at h1 h2;show⟨p,IT e,FE h1,?_⟩;let h3:(σ[p.1]?).getD none=some v:=FE h2;cases q:σ[p.1]? with
   |none=>rw[q]at h3;cases h3
   |some z=>rw[q]at h3;show EJ some h3
def rY(c:dB X scope cl own cap)(I:Inv X v4 σ H s)(hf:∀b∈fp,Dq X v4 H b)(eQ:∀b∈fp,b<s.heap.objs.size){h₁:Heap}{tk:Nat}{m:KK}
  (hk:∀b o,s.heap.get? b=some o→h₁.get? b=some o) (hD:h₁.get? s.heap.objs.size=some {cls:=.type "list",data:=.seq ([]:List Value).toArray}) (hn:h₁.Ns (s.heap.objs.size+1) m) :
  Inv (Ba X (own++cap.map (·.2)) scope cl (s.heap.objs.size+1) s H fp E) [] (Fn own cap σ) (Ac H s.heap.objs.size (.lst [])) {s with heap:=h₁,toks:=tk}:=by
 let J8:H s.heap.objs.size=none:=I.fresh;let OE:H (s.heap.objs.size+1)=none:=I.cg.fresh (CE _);let OD:cA X.prog X.w (Ac H s.heap.objs.size (.lst [])) h₁ s.heap.objs.size (.lst []):=⟨FI _,[],0,.nil,hD⟩;show⟨Gi c I hf eQ (CE _),rfl,I.bare,Un.laid hk (Av _) J8,⟨m,hn,λi x v e1 e2 _=>?_⟩,λx a e=>?_,?_,λx a e=>?_,λp hp=>absurd (show p∈([]:ac)from hp) (by simp),I.cg.laid hk (Av _) OD,?_⟩
 ·let⟨p,hp,ex,es⟩:=aN e1 e2
  let⟨q1,q2,q3,q4,q5⟩:=c.KC p hp;rw[ex]at q1 q2 q3 q4 q5;let⟨m',Xd,hl⟩:=I.loc;let⟨u,r,l⟩:=hl p.1 x v q1 es q2;show⟨u,r,?_⟩;rcases l with l|⟨k,a,e,z⟩
  ·show absurd l.1 q3
  ·let⟨a',e'⟩:=c.OJ x q5
   let ea:=c.sub x a' e';rw[e]at ea;cases ea;show .inr ⟨q5,a,e',z.keeps hk⟩
 ·let⟨v,z⟩:=I.cell x a (c.sub x a e)
  show⟨v,z.keeps hk⟩
 ·show Ac H s.heap.objs.size (.lst []) (s.heap.objs.size+1)=none
  rw[BC (TN _)];show OE
 ·let⟨v,z⟩:=I.cell x a (c.sub x a e)
  show Ac H s.heap.objs.size (.lst []) a=none
  rw[BC (Bm z.lt)];show I.jy x a (c.sub x a e)
 ·show(Fn own cap σ).length=(own++cap.map (·.2)).length
  simp[Fn]
def Ms{H':AA}{σ':St}{Nc:List Str}{tV:ac}(I:Inv X v4 σ H s)(hf:∀b∈fp,Dq X v4 H b)(hC:s.heap.objs.size≤C)(J:Inv (Ba X Nc scope cl C s H fp E) tV σ' H' s2):
  Inv X v4 σ H' s2∧Dq X v4 H' C:=by
 let os:s2.os=s.os:=J.os;let un:Un (E4 X.stack) fp H H' s.heap s2.heap:=J.base;show⟨I.LV os un J.cg J.bare λb hb=>⟨(hf b hb).2.2.2.1,(hf b hb).2.1,(hf b hb).2.2.2.2.1,(hf b hb).2.2.2.2.2⟩,I.zg hC J.free⟩
end
abbrev Rn(wi:Dc)(g:Dv)(tc:Cr)(te:Al)(own:List Str)(cap:List (Nat×Str)):Al:=λσ H Q=>wi σ H λJ H1=>∀D,H1 D=none→
 ∃W:Nat→Nat→St→List V→AA→Prop,(∃m,W 0 m (Fn own cap σ) [] (Ac H1 D (.lst [])))∧∀i m σ' ys H',W i m σ' ys H'→H' D=some (.lst ys)∧
  ((J.stop i H'∧Q (.ref D) H')∨(J.go i H'∧ys.length<sizeLine∧∃N:St→List V→AA→Prop,(∀σ ys H,N σ ys H→∃m',m' < m∧W (i+1) m' σ ys H)∧∀x H2,J.rK i H' x H2→g x σ' H2 λσ3 H3=>tc σ3 H3 λb H4=>if b=true then te σ3 H4 λy H5=>H5 D=some (.lst ys)∧N σ3 (ys++[y]) (Ac H5 D (.lst (ys++[y])))
   else N σ3 ys H4))
section
variable {tg iter elt: Expr}{ifs: List Expr}{wi: Dc}{g: Dv}{tc: Cr}
def eW{v4:ac}{H2:AA}{it:Addr}{fp:List Addr}{tn:Nat→Heap→Prop}{J:FT}{Q:B1}{RR:Value→Addr→Result→Shared→Prop}{E':xz}
  (c:dB X scope cl own cap) (hc:X.calm=true)
  (hg:∀C s H fp,PG (Ba X (own++cap.map (·.2)) scope cl C s H fp λ_ _=>False) tg g) (ht:∀C s H fp,ye (Ba X (own++cap.map (·.2)) scope cl C s H fp λ_ _=>False) ifs tc)
  (he:∀C s H fp,PE (Ba X (own++cap.map (·.2)) scope cl C s H fp λ_ _=>False) elt te)
  (I2:Inv X v4 σ H2 s2) (T:Turn X.prog X.w X.K tg J fp it tn) (qm:tn 0 s2.heap) (f2:∀b∈fp,Dq X v4 H2 b)
  (hw:∀D,H2 D=none→∃W:Nat→Nat→St→List V→AA→Prop,(∃m,W 0 m (Fn own cap σ) [] (Ac H2 D (.lst [])))∧∀i m σ' ys H',W i m σ' ys H'→H' D=some (.lst ys)∧
   ((J.stop i H'∧Q (.ref D) H')∨(J.go i H'∧ys.length<sizeLine∧∃N:St→List V→AA→Prop,(∀σ ys H,N σ ys H→∃m',m' < m∧W (i+1) m' σ ys H)∧∀x H2,J.rK i H' x H2→g x σ' H2 λσ3 H3=>tc σ3 H3 λb H4=>if b=true then te σ3 H4 λy H5=>H5 D=some (.lst ys)∧N σ3 (ys++[y]) (Ac H5 D (.lst (ys++[y])))
    else N σ3 ys H4)))
  (Kb:∀D C s' H' m,Inv X v4 σ H' s'→Dq X v4 H' C→s'.heap.Ns C m→Q (.ref D) H'→RR (.ref D) C (.ok .next) s') :
  wpAny (model X.prog X.w) X.A (newList []) (λacc s₃=>wpAny (model X.prog X.w) X.A (newFunctionEnv scope X.env.globals cl [] X.env.qual none .none (some X.env)) (λTV s₄=>
   codeAny (model X.prog X.w) X.A (.compStart (.ListComp elt [⟨tg,iter,ifs,0⟩] scope pos) 0 (.ref it) acc {TV with scope:=relabel scope X.env}) (RR acc TV.locals) s₄) E' s₃) E' s2:=by
 show GP (MG c.cell (by intro y hy;simp at hy) (λh₁ jx iZ=>?_) c.kind);dsimp only at jx iZ ⊢;let hsz:(s2.heap.push {cls:=.type "list",dict:=none,data:=.seq ([]:List Value).toArray}).objs.size=s2.heap.objs.size+1:=G6 _ _;let kk:∀b o,s2.heap.get? b=some o→h₁.get? b=some o:=λb o e=>iZ.extBut b o (by rw[hsz];show Bm (Iz (BF e))) (B9 _ (B9 _ e));let hD:h₁.get? s2.heap.objs.size=some {cls:=.type "list",data:=.seq ([]:List Value).toArray}:=
  iZ.extBut _ _ (by rw[hsz];show Bm (JT _)) (B9 _ (DP _ rfl))
 rw[hsz]at jx ⊢;let eQ:∀b∈fp,b<s2.heap.objs.size:=λb hb=>by
  let⟨o,e,_⟩:=T.obj _ _ qm b hb;show BF e
 let⟨W,⟨m0,w0⟩,turn⟩:=hw s2.heap.objs.size I2.fresh;let J1:=rY (E:=λ_ _=>False) c I2 f2 eQ (tk:=s2.toks+([]:List (Str×Value)).length) kk hD jx;generalize fP:Ba X (own++cap.map (·.2)) scope cl (s2.heap.objs.size+1) s2 H2 fp (λ_ _=>False)=X' at J1;let J7:PG X' tg g:=fP ▸ hg _ _ _ _;let WZ:ye X' ifs tc:=fP ▸ ht _ _ _ _;let SY:PE X' elt te:=fP ▸ he _ _ _ _;let pX:X'.prog=X.prog:=by rw[←fP];rfl
 let wX:X'.w=X.w:=by rw[←fP];rfl
 let kX:X'.K=X.K:=by rw[←fP];rfl
 let aX:X'.A=X.A:=by rw[←fP];rfl
 let cX:X'.calm=true:=by rw[←fP];show hc
 let Cj:X'.env=compEnvC scope cl (s2.heap.objs.size+1) X.env:=by rw[←fP];rfl
 let xX:X'.xe=λ_ _=>False:=by rw[←fP];rfl
 let fX:∀b∈fp,∀{H':AA},H' b=none→Dq X' [] H' b:=λb hb {H'} hn=>by
  let o1:=(Gi (E:=λ_ _=>False) c I2 f2 eQ (C:=s2.heap.objs.size+1) (CE _)).HX b hb;let o2:=(Gi (E:=λ_ _=>False) c I2 f2 eQ (C:=s2.heap.objs.size+1) (CE _)).sE b hb;rw[←fP];show⟨hn,o1.1,o2,.inl hb,o1.2,λp hp=>absurd (show p∈([]:ac)from hp) (by simp)⟩
 let fin:∀{σ':St} {H':AA} {s':Shared},Inv X' [] σ' H' s'→Q (.ref s2.heap.objs.size) H'→RR (.ref s2.heap.objs.size) (s2.heap.objs.size+1) (.ok .next) s':=λ{σ' H' s'} J' q=>by
  rw[←fP]at J';let⟨A1,A2⟩:=Ms I2 f2 (CE _) J';let⟨m,hm,_⟩:=J'.loc;show Kb _ _ s' H' m A1 A2 hm q
 let loop:codeAny (model X.prog X.w) X.A (.compLoop (.ListComp elt [⟨tg,iter,ifs,0⟩] scope pos) 0 (.ref it) (.ref s2.heap.objs.size) (compEnvC scope cl (s2.heap.objs.size+1) X.env)) (RR (.ref s2.heap.objs.size) (s2.heap.objs.size+1))
   {s2 with heap:=h₁,toks:=s2.toks+([]:List (Str×Value)).length}:=by
  show aa7 (λn s'=>∃i σ' ys H',Inv X' [] σ' H' s'∧tn i s'.heap∧(∀b∈fp,H' b=none)∧W i n σ' ys H') ?_ m0
   ⟨0,_,[],_,J1,T.keep _ _ _ qm λb _ o e=>kk b o e,λb hb=>by rw[BC (Bm (eQ b hb))];show(f2 b hb).1,w0⟩
  intro n s3⟨i,σ3,ys,H3,I3,yq,zf,w3⟩;let⟨PH,w4⟩:=turn i n σ3 ys H3 w3;rw[←Cj,←aX,←pX,←wX];let jI:∀{α:Type} {t:Sem α} {Q1:α→Shared→Prop} {E1:xz} {s:Shared},wpAny (model X'.prog X'.w) X'.A t Q1 X'.xe s→wpAny (model X'.prog X'.w) X'.A t Q1 E1 s:=λ{α t Q1 E1 s} h=>by
   rw[xX]at h;show Bt h (λ_ _ q=>q) λ_ _ f=>f.elim
  rcases w4 with⟨stop,qn⟩|⟨go,Py,N,hN,step⟩
  ·let d:=T.done X' pX wX kX cX i [] s3 σ3 H3 X'.xe I3 (λb hb=>fX b hb (zf b hb)) yq stop
   rw[←pX,←wX]at d;show jI (AQ d λr s4 ξ=>Ξ02 ξ λhr I4=>?_);subst hr;show fin I4 qn
  ·let d:=T.item X' pX wX kX cX i [] s3 σ3 H3 X'.xe I3 (λb hb=>fX b hb (zf b hb)) yq go
   rw[←pX,←wX]at d;show jI (AQ d λr s4 ξ=>Ξ12 ξ λu hr h4=>?_);subst hr;show jI (AQ h4 λ_ s5 ξ=>Ξ25 ξ λx H5 I5 r5 y5 tI G4=>?_);let HG:=I5.pinned (λb hb=>fX b hb (G4 b hb)) (T.obj _ _ tI);let again:∀{σ7:St} {H7:AA} {s7:Shared} {Vf:List V},Inv X' ([]++Im fp s5.heap) σ7 H7 s7→N σ7 Vf H7→
     ∃m,m<n∧∃i σ' ys H',Inv X' [] σ' H' s7∧tn i s7.heap∧(∀b∈fp,H' b=none)∧W i m σ' ys H':=λ{σ7 H7 s7 Vf} I7 n7=>by
    let⟨m',hm,w7⟩:=hN _ _ _ n7;show⟨m',hm,i+1,σ7,Vf,H7,I7.iM,T.keep _ _ _ tI λb hb o e=>(I7.pin (b,o) (D2 _ (D2 _ (Gy hb e)))).1,λb hb=>?_,w7⟩;let⟨o,e,d⟩:=T.obj _ _ tI b hb;show(I7.pin (b,o) (D2 _ (D2 _ (Gy hb e)))).2.1
   show jI (AQ (J7 _ s5 σ3 H5 x u _ HG r5 (step x H5 y5)) λ_ s6 ξ=>Ξ22 ξ λσ6 H6 I6 q6=>?_);show jI (AQ (WZ _ s6 σ6 H6 _ I6 q6) λb s7 ξ=>Ξ12 ξ λH7 I7 q7=>?_);cases b with
   |false=>
    rw[AV Cf]at q7 ⊢;show again I7 q7
   |true=>
    rw[Aa rfl]at q7 ⊢;show jI (AQ (SY _ s7 σ6 H7 _ I7 q7) λu8 s8 ξ=>Ξ24 ξ λy8 H8 I8 r8 d8 q8=>?_);show jI (AQ (WR _ s8 σ6 H8 (.ref s2.heap.objs.size) [y8] (.ref s2.heap.objs.size) [u8] (λ_ H9=>N σ6 (ys++[y8]) H9) I8 rfl (.cons r8 .nil) ⟨_,ys,y8,rfl,rfl,d8,Py,q8⟩) λ_ s9 ξ=>Ξ23 ξ λ_ H9 I9 _ q9=>?_);show again I9 q9
 show codeAny_compStart_list loop (T.self X.A 0 _ _ _ (T.keep _ _ _ qm λb _ o e=>kk b o e) loop)
def abo(c:dB X scope cl own cap)(hc:X.calm=true)(hi:PI X tg iter wi)
  (hg:∀C s H fp,PG (Ba X (own++cap.map (·.2)) scope cl C s H fp λ_ _=>False) tg g) (ht:∀C s H fp,ye (Ba X (own++cap.map (·.2)) scope cl C s H fp λ_ _=>False) ifs tc)
  (he:∀C s H fp,PE (Ba X (own++cap.map (·.2)) scope cl C s H fp λ_ _=>False) elt te) (hs:∀x,foldedSetIterable iter X.env x=pure x:=by intro _;rfl) :
  PE X (.ListComp elt [⟨tg,iter,ifs,0⟩] scope pos) (Rn wi g tc te own cap):=by
 show .mk ?_;intro v4 s σ H Q I h;rw[eval_ListComp];show LM (use:=none) rfl hs c.zt c.kind c.names (AQ (hi v4 s σ H _ I h) λv s1 h1=>AQ h1 λLG s2 h2=>?_);let⟨it,fp,tn,J,H2,e,I2,T,qm,f2,hw⟩:=h2;subst e;show eW (Q:=Q) (RR:=λacc C=>compPost (model X.prog X.w) X.A X.xe none (Bw X v4 σ Q) acc C) c hc hg ht he I2 T qm f2 hw ?_;intro D C s' H' m I' hC hm q;show⟨m,hm,λh' i0=>Ψ2 (.ref D) H' ⟨?_,rfl,q⟩⟩;show I'.turned (t':=s'.toks) (λb o hb e=>(i0.2 b hb).trans e) hC.1 hC.2.1 hC.2.2.2.1 hC.2.2.2.2.1 hC.2.2.2.2.2
abbrev yp(i:Nat)(t:Al):CI:=λD σ H=>t σ H λx H1=>D.nx (σ.set i (some x)) H1
def vJ{y:Str}{py EY:Pos}(c:dB X scope cl own cap)(hc:X.calm=true)(hi:PI X tg iter wi)
  (hg:∀C s H fp,PG (Ba X (own++cap.map (·.2)) scope cl C s H fp λ_ _=>False) tg g) (ht:∀C s H fp,ye (Ba X (own++cap.map (·.2)) scope cl C s H fp λ_ _=>False) ifs tc)
  (he:∀C s H fp,PE (Ba X (own++cap.map (·.2)) scope cl C s H fp λ_ _=>False) elt te)
  (hN:X.N.Nodup) (hy:X.N[i]?=some y) (hl:X.env.scope.names.lookup y=some .local)
  (W0:swapsWith (.ListComp elt [⟨tg,iter,ifs,0⟩] scope pos) (some (.Name y py)) EY.line X.env=pure true:=by rfl) (hs:∀x,foldedSetIterable iter X.env x=pure x:=by intro _;rfl) :
  PS X (.Assign [.Name y py] (.ListComp elt [⟨tg,iter,ifs,0⟩] scope pos) EY) (yp i (Rn wi g tc te own cap)):=by
 show .mk ?_;intro v4 s σ H D I h;rw[exec_Assign_Name_used _ _ _ _ W0];show AE (IK (AE ?_));show wpAny _ X.A (do let _ ←comprehension (.ListComp elt [⟨tg,iter,ifs,0⟩] scope pos) scope X.env _ (newList []) false (eval iter X.env) (some (assign (.Name y py) X.env))) _ _ s
 show AE (Bt (LM (use:=some (assign (.Name y py) X.env)) (Q:=λ_ s'=>SP X v4 D .next s') rfl hs c.zt c.kind c.names (AQ (hi v4 s σ H _ I h) λv s1 h1=>AQ h1 λLG s2 h2=>?_)) (λ_ s' hq=>Af (Af hq)) λ_ _ e=>e);let⟨it,fp,tn,J,H2,e,I2,T,qm,f2,hw⟩:=h2;subst e;show eW (Q:=λx H1=>D.nx (σ.set i (some x)) H1) (RR:=λacc C=>compPost (model X.prog X.w) X.A X.xe (some (assign (.Name y py) X.env)) (λ_ s'=>SP X v4 D .next s') acc C) c hc hg ht he I2 T qm f2 hw ?_;intro D' C s' H' m I' hC hm q;show wpAny _ X.A (assign (.Name y py) X.env (.ref D')) _ _ _
 show wpAny_assign_Name (dh (v:=.ref D') I' hN hy (.inl hl) rfl (λCQ I'' ch=>?_) (.inr hl));let⟨a,sb,ha⟩:=ch;let hCa:C≠a:=by
  rcases ha with ha|ha
  ·rw[ha];show hC.2.1
  ·exactλz=>hC.2.2.2.2.1 _ _ ha z.symm
 show⟨m,hm.sameBut sb hCa,λh' i0=>Ψ2 _ H' ⟨?_,q⟩⟩;show I''.turned (t':=CQ.toks) (λb o hb e=>(i0.2 b hb).trans e) hC.1 hC.2.1 hC.2.2.2.1 hC.2.2.2.2.1 hC.2.2.2.2.2
end
abbrev F7:List Int→Int
 |[]=>0
 |[x]=>x
 |x::y::r=>max x (F7 (y::r))
def iE:∀{ns:List Int},ns≠[]→F7 ns∈ns
 |[x],_=>by simp[F7]
 |x::y::r,_=>by
  let ih:=iE (ns:=y::r) (by simp);rw[F7];by_cases h:x≤F7 (y::r)
  ·rw[Int.max_eq_right h];show Dm _ ih
  ·rw[Int.max_eq_left (by lia)];show Il
def M4:∀{ns:List Int} {a:Int},a∈ns→a≤F7 ns
 |[x],a,h=>by simp at h;subst h;simp[F7]
 |x::y::r,a,h=>by
  rw[F7];rcases aaf.mp h with rfl|h
  ·show Int.le_max_left _ _
  ·show Int.le_trans (M4 h) (Int.le_max_right _ _)
def yd{M:Int}(h1:M∈ns)(h2:∀a∈ns,a≤M):M=F7 ns:=
 Int.le_antisymm (M4 h1) (h2 _ (iE (by intro z;rw[z]at h1;cases h1)))
abbrev Bb{α:Type}(xs:List α)(lo hi:Option Int):List α:=(xs.drop (HT.dz xs.length 0 lo)).take (HT.dz xs.length xs.length hi-HT.dz xs.length 0 lo)
def LJ{α:Type}(xs:List α)(lo hi:Option Int):(Bb xs lo hi).length≤xs.length:=by
 unfold Bb;rw[EH,ET];lia
def NS(v:Int)(n d:Nat):max (0:Int) (min (if v<0 then v+(n:Int)else v) (n:Int))=((HT.dz n d (some v):Nat):Int):=by
 show _=(((if v<0 then(v+(n:Int)).toNat else min v.toNat n):Nat):Int)
 by_cases hv:v<0
 ·rw[Aa hv,Aa hv];lia
 ·rw[AV hv,AV hv];lia
def bQ(lo hi:Option Int)(n:Nat):Builtin.Str.strSliceIndices lo hi 1 n=Builtin.Str.strSliceIndices (some ((HT.dz n 0 lo:Nat):Int)) (some ((HT.dz n n hi:Nat):Int)) 1 n:=by
 let a1:=HT.wH n 0 (FI _) lo;let a2:=HT.wH n n (Av _) hi;let n1:¬(((HT.dz n 0 lo:Nat):Int)<0):=by lia
 let n2:¬(((HT.dz n n hi:Nat):Int)<0):=by lia
 let e1:max (0:Int) (min ((HT.dz n 0 lo:Nat):Int) (n:Int))=((HT.dz n 0 lo:Nat):Int):=by lia
 let e2:max (0:Int) (min ((HT.dz n n hi:Nat):Int) (n:Int))=((HT.dz n n hi:Nat):Int):=by lia
 let p1:((1:Int)>0)=True:=by simp
 simp only[Builtin.Str.strSliceIndices,n1,n2,Lf,e1,e2,p1,JB];cases lo with
 |none=>
  cases hi with
  |none=>rfl
  |some v=>simp only[NS v n n];rfl
 |some u=>
  cases hi with
  |none=>simp only[NS u n 0];rfl
  |some v=>simp only[NS u n 0,NS v n n]
def qz{a b:Nat}(h:b≤a):Builtin.Str.strSliceIndices (some (a:Int)) (some (b:Int)) 1 n=[]:=by
 let n1:¬((a:Int)<0):=by lia
 let n2:¬((b:Int)<0):=by lia
 let p1:((1:Int)>0)=True:=by simp
 let p2:¬(max (0:Int) (min (a:Int) (n:Int))<max (0:Int) (min (b:Int) (n:Int))):=by lia
 simp only[Builtin.Str.strSliceIndices,PySem.sliceRange,n1,n2,Lf,p1,JB,p2];rfl
def v7(x:Str)(lo hi:Option Int):(StrLaws.sliceText x lo hi).cps.toList=Bb x.cps.toList lo hi:=by
 let hn:x.cps.toList.length=x.length:=by simp[Str.length]
 unfold Bb;rw[hn];let a2:=HT.wH x.length x.length (Av _) hi;by_cases h:HT.dz x.length 0 lo≤HT.dz x.length x.length hi
 ·let q:=StrLaws.sliceText_nat x h a2
  let e:StrLaws.sliceText x lo hi=StrLaws.sliceText x (some ((HT.dz x.length 0 lo:Nat):Int)) (some ((HT.dz x.length x.length hi:Nat):Int)):=by
   unfold StrLaws.sliceText;rw[bQ lo hi x.length]
  rw[e,q]
 ·let z:HT.dz x.length x.length hi-HT.dz x.length 0 lo=0:=by lia
  rw[z,Se];unfold StrLaws.sliceText;rw[bQ lo hi x.length,qz (by lia)];split
  ·rename_i c
   let c':(0:Nat)=x.length:=by simpa using c
   show QT (by rw[hn];show c'.symm)
  ·rfl
abbrev aao:V→Option Int→Option Int→AA→B1→Prop:=λx lo hi H Q=>∃z:Str,x=.str z∧z.length≤sizeLine∧∀y:Str,y.cps.toList=Bb z.cps.toList lo hi→Q (.str y) H
def xG{X:Cx}:KJ X aao:=by
 intro v4 s σ H x v vl vu lo hi sl Q I rx hs pl pu h;let⟨z,rfl,hz,q⟩:=h;let⟨t,rfl⟩:=rx;show Ψ2 ("str") _ ⟨F.slot_str_getitem.lookup,LO _ z t,?_⟩;let fin:∀(l u:Option (Int×Tok)),l.map (·.1)=lo→u.map (·.1)=hi→s.heap.IsSlice sl l u none→wpAny (model X.prog X.w) X.A (getItem (.str z t) (.ref sl)) (Bw X v4 σ Q) X.xe s:=λl u el eu hq=>by
  show wpAny_getItem_str_slice hq rfl ?_;let hc:=v7 z lo hi;unfold StrLaws.sliceText at hc;unfold sliceMade slicePicked;rw[el,eu];show(if((1:Int)==1&&(Builtin.Str.strSliceIndices lo hi 1 z.length).length==z.length)=true then Made.val (.str z t)else .str ⟨((Builtin.Str.strSliceIndices lo hi 1 z.length).filterMap (z.cps[·]?)).toArray⟩).post (Bw X v4 σ Q) s
  split
  ·rename_i c
   rw[Aa c]at hc;show Ψ2 (.str z) H ⟨I,⟨t,rfl⟩,q z hc⟩
  ·rename_i c
   rw[AV c]at hc;let hl:(Str.mk ((Builtin.Str.strSliceIndices lo hi 1 z.length).filterMap (z.cps[·]?)).toArray).length≤z.length:=by
    let e:=LJ z.cps.toList lo hi;rw[←hc]at e;simpa[Str.length]using e
   show⟨Ci hl hz,.str ⟨((Builtin.Str.strSliceIndices lo hi 1 z.length).filterMap (z.cps[·]?)).toArray⟩,H,I.tok _,⟨_,rfl⟩,q _ hc⟩
 cases pl with
 |none=>
  cases pu with
  |none=>show fin none none rfl rfl hs
  |int j t'=>show fin none (some (j,t')) rfl rfl hs
 |int i MH=>
  cases pu with
  |none=>show fin (some (i,MH)) none rfl rfl hs
  |int j t'=>show fin (some (i,MH)) (some (j,t')) rfl rfl hs
section
variable {x: Expr}{p2: Pos}{T: Str}{Ty: String}
abbrev acG(K:W.Frag)(Ty:String)(te:Al):Al:=λσ H Q=>te σ H λv H1=>∃v',[v,V.ty Ty]=[v',V.ty Ty]∧∃t b,Fd K H1 v' t∧W.kitOne K t (.type Ty)=some b∧Q (.bl b) H1
def eUn(hg:CF X "isinstance")(hm:X.mg "isinstance" = none)(SW:CF X T)(SR:X.mg T=none)(SD:bootBuiltins T=some (.type Ty))(he:PE X x te)(hn:T ≠ "__name__" := by decide)(S1:(T ==("__debug__" : Str))=false:=by decide)
  (hs:starEach [x,.Name T p2] X.env=(false,eval x X.env)::starEach [.Name T p2] X.env:=by rfl) (sT:starEach [.Name T p2] X.env=[(false,eval (.Name T p2) X.env)]:=by rfl)
  (jw:(backTo pos (starEach [.Name T p2] X.env)).any (·.1)=false:=by rfl) :
  PE X (.Call (.Name "isinstance" p) [x,.Name T p2] [] pos) (acG X.K Ty te):=by
 let c:EK X (.builtin "isinstance") (λxs H Q=>∃v,xs=[v,.ty Ty]∧∃t b,Fd X.K H v t∧W.kitOne X.K t (.type Ty)=some b∧Q (.bl b) H):=by
  intro v4 s σ H xs us Q I r h;let⟨v,rfl,⟨t,b,ty,e,q⟩⟩:=h;let⟨u,w',rfl,ru,rR⟩:=vals2 r;cases(show w'=Value.type Ty from rR);show yW I ru ty e λtk=>Ψ2 (.bl b) H ⟨I.tok tk,rfl,q⟩
 let pa:PA X [x,.Name T p2] (Uk te (Uk (JR (.ty Ty)) fK)):=Qv he (Qv (acu SW SR SD rfl hn S1) aQ sT) hs;show YG (p:=p) (pos:=pos) c hg hm PyProof.Rows.boot_isinstance pa (by decide) (by decide) hs jw
end
abbrev Callee(P:Program)(w:World)(K:W.Frag)(mg:KK)(base:Heap)(x:Str)(k:Nat)(ps:List Str)(sp:EI):Prop:=
 ∃f fd,bq P w K mg base Ax k f fd ps sp∧mg x=some (.ref f)∧W.keepIn K (.ref f)=true∧Binds K fd ps []
section
variable {x: Str}{k j: Nat}{ps: List Str}{sp: EI}{e: Expr}{es: List Expr}{t: CY}
def wt(c:Callee X.prog X.w X.K X.mg X.base x k ps sp)(hr:eh j X.A)(hk:k≤j)(hg:CF X x)(ha:PA X (e::es) t)(sD:(x ==("__debug__" : Str))=false:=by decide)
  (he:starEach (e::es) X.env=(false,eval e X.env)::starEach es X.env:=by rfl) (jw:(backTo pos (starEach es X.env)).any (·.1)=false:=by rfl):PE X (.Call (.Name x p) (e::es) [] pos) (cj sp [] Ji t):=by
 let⟨f,fd,F,m,kp,b⟩:=c;show lS F (hr.mono hk) hg m kp b .nil ah ha sD he jw
end
section
def sZ{p:Str×NameKind}(h:p∈(relabel scope env).names):∃q∈scope.names,q.1=p.1∧(p.2=q.2∨(q.2=.free∧p.2=.cell)):=by
 let⟨q,hq,e⟩:=aap.mp (show p∈scope.names.map _ from h);show⟨q,hq,?_⟩;obtain⟨n,k⟩:=q;dsimp only at e;split at e
 ·rename_i c
  subst e;show⟨rfl,.inr ⟨?_,rfl⟩⟩;simp only[Cq,abZ]at c;show c.1.1
 ·subst e
  show⟨rfl,.inl rfl⟩
def ac4(hk:scope.kind=.function)(hn:∀y∈scope.names,y.2≠.free∧y.2≠.cell)(hl:∀y∈scope.names,y.2=.local→scope.names.lookup y.1=some .local):dB X scope [] own [] where
 zt:=closureFor_none λy hy=>(hn y hy).1
 cell:=λy hy=>(hn y hy).2
 kind:=hk
 names:=hl
 sub:=λx c h=>nomatch h
 has:=λp hp h=>by
  let⟨q,hq,e1,e2⟩:=sZ hp;let n:=hn q hq;rcases e2 with e2|⟨e2,_⟩
  ·rw[e2]at h
   rcases h with h|h
   ·show absurd h n.2
   ·show absurd h n.1
  ·show absurd e2 n.1
 KC:=λp hp=>nomatch hp
abbrev zM(cells:List (Str×Addr)):List (Str×Addr)→Prop
 |[]=>True
 |p::r=>cells.lookup p.1=some p.2∧zM cells r
def zM.mem{cells:List (Str×Addr)}:∀{cl:List (Str×Addr)},zM cells cl→∀p∈cl,cells.lookup p.1=some p.2
 |[],_,p,h=>nomatch h
 |q::r,h,p,hp=>by
  rcases aaf.mp hp with rfl|hp
  ·show h.1
  ·show zM.mem h.2 p hp
abbrev uN(X:Cx)(scope:Scope):List (Nat×Str)→Prop
 |[]=>True
 |p::r=>(X.N[p.1]?=some p.2∧X.env.kindOf p.2=some .cell∧(relabel scope X.env).names.lookup p.2=some .cell)∧uN X scope r
def uN.mem:∀{cap:List (Nat×Str)},uN X scope cap→∀p∈cap,X.N[p.1]?=some p.2∧X.env.kindOf p.2=some .cell∧(relabel scope X.env).names.lookup p.2=some .cell
 |[],_,p,h=>nomatch h
 |q::r,h,p,hp=>by
  rcases aaf.mp hp with rfl|hp
  ·show h.1
  ·show uN.mem h.2 p hp
def FK{cl:List (Str×Addr)}{cap:List (Nat×Str)}(hk:scope.kind=.function)(hn:∀y∈scope.names,y.2≠.cell)(hl:∀y∈scope.names,y.2=.local→scope.names.lookup y.1=some .local)
  (hc:closureFor scope X.env=pure cl) (ha:zM X.env.cells cl) (hh:((relabel scope X.env).names.all λp=>!(p.2 == .cell||p.2 == .free)||(cl.lookup p.1).isSome)=true) (Xo:uN X scope cap):dB X scope cl own cap where
 zt:=hc
 cell:=hn
 kind:=hk
 names:=hl
 sub:=λx c h=>ha.mem _ (mem_of_lookup h)
 has:=λp hp h=>by
  let q:=aaW.mp hh p hp;rcases h with h|h<;>· rw[h]at q;simpa using q
 KC:=λp hp=>by
  let⟨h1,h2,h3⟩:=Xo.mem p hp;show⟨h1,.inr (.inl h2),by rw[h2];decide,by rw[h3];decide,.inl h3⟩
end
def RZ:bootBuiltins "bool" = some (.type "bool"):=by done
def Mi:bootBuiltins "int" = some (.type "int"):=by done
def G7:bootBuiltins "str" = some (.type "str"):=by done
def DS:bootBuiltins "tuple" = some (.type "tuple"):=by done
def Zh:bootBuiltins "list" = some (.type "list"):=by done
def top:bootBuiltins "dict" = some (.type "dict"):=by done
abbrev Kp(l:List Addr)(H H':AA):Prop:=∀b o,b∉l→H b=some o→H' b=some o
def Kp.refl(H:AA):Kp l H H:=λ_ _ _ h=>h
def Kp.new{H:AA}{p:Addr}(h:H p=none)(o:HO):Kp l H (Ac H p o):=λb u _ q=>by rw[BC (Ga q h)];show q
end L2
namespace L2
open PySem PySem.Spec PyProof.Rows PySem.W
variable {h:Heap}{H: AA}{v4:ac}{σ:St}{H1:AA}{s1:Shared}{b:Addr}{o:Obj}{P:Program}{w:World}{x: Str}{X: Cx}{np pos: Pos}{t: CY}{E: BS}{s: Shared}
def vR{K:Frag}{C:Addr}{L4:List Value}{newId:String}(X:K.In h)(q:excIn K C L4 newId=true):
  ∃bm N nm q bs hdct sn sub ab col dd k0 k1 k2 k3 k5 mN,h.get? C=some (excClassObj nm q C N bs bm hdct sn sub ab col dd k0 k1 k2 k3 k5 newId)∧h.Ns N mN∧mN "__init__" = none∧OwnTail h L4 bm:=by
 unfold excIn at q;split at q
 ·rename_i dd cd sl ho
  split at q
  ·rename_i C' bm k0 k1 k2 k3 n k5 hm hs
   simp only[Cq,abZ,Bool.not_eq_true']at q;let⟨⟨⟨⟨⟨rfl,rfl⟩,S0⟩,ht⟩,cg⟩,UP⟩:=q;obtain⟨nm,bs,mro,ns,qn,hd,sn,sub,ab,col,del⟩:=cd;dsimp only at hm S0 cg UP;subst hm S0;let hsl:sl=#[k0,k1,k2,k3,some (.builtin n),k5]:=by
    obtain⟨l⟩:=sl;simp only at hs;rw[hs]
   subst hsl;show⟨bm,ns,nm,qn,bs,hd,sn,sub,ab,col,dd,k0,k1,k2,k3,k5,_,X _ _ ho,.of_isNs (isNs_of_in X cg),nsMap_none_of_in X cg UP,tail_of_in X ht⟩
  ·cases q
 ·cases q
structure U7(fs:List Addr)(H H':AA)(h B h':Heap):Prop where
 keep:∀b o,h.get? b=some o→H b=none→b∉fs→B.get? b=some o
 slot:∀b o,h.get? b=some o→H b=none→b∈fs→∃sl,h'.get? b=some {o with slots:=sl}
 free:∀b o,h.get? b=some o→H b=none→H' b=none
 there:∀b o,h.get? b=some o→b∉fs→∃o',B.get? b=some o'
 oQ:∀b xs,H b=some (.tup xs)→H' b=some (.tup xs)
 oI:∀b o u,H b=some (.frz o u)→H' b=some (.frz o u)
 oT:∀b ps,H b=some (.tbl ps)→∃more,H' b=some (.tbl (ps++more))
def U7.un{fs:List Addr}{H H':AA}{B h':Heap}(u:U7 fs H H' h B h')(st:B.StaysIn h')(hf:∀b∈fs,H b=none):Un fs [] H H' h h':=
 ⟨λb o e n hb _=>st b o (u.keep b o e n hb),λb o e n hb _=>u.slot b o e n hb,λb o e n _=>u.free b o e n,λb o e _=>by
  by_cases hb:b∈fs
  ·let⟨sl,q⟩:=u.slot b o e (hf b hb) hb
   show⟨_,q⟩
  ·let⟨o',q⟩:=u.there b o e hb
   show⟨o',st b o' q⟩,u.oQ,u.oI,u.oT⟩
abbrev FF(P:Program)(w:World):HE:=λouter H s E e s'=>∃(x:Addr) (C a0:Value) (H':AA) (B:Heap),e=.ref x∧s'.os=s.os∧AllBare s'.gens∧
 Heap.FlyingW B outer x C a0 s'.heap∧oM P w H' B∧U7 (E4 outer) H H' s.heap B s'.heap∧E C none H'
abbrev Raises(X:Cx)(E:BS):Prop:=∀(v4:ac) (σ:St) (H:AA) (s:Shared) (h':Heap) (x:Addr) (C:Value) (vs:List Value),Inv X v4 σ H s→Heap.MadeExcOf s.heap h' x C vs→E C none H→X.xe (.ref x) {s with heap:=h'}
section
variable {C: Addr}{L4: List Value}{B newId AW: String}{dS: Pos}{e₀: Expr}{v6: List Expr}
abbrev ab3(E:BS)(C:Addr)(t:CY):CI:=λ_ σ H=>t σ H λvs H1=>vs.length≤sizeLine∧E (.ref C) none H1
def abR(hc:X.calm=true)(hg:CF X x)(hm:X.mg x=some (.ref C))(hx:excIn X.K C L4 newId=true)(FB:ExcBaseFacts B newId AW L4)(ha:PA X (e₀::v6) t)(hE:Raises X E)
  (hd:(x ==("__debug__" : Str))=false:=by decide) (he:starEach (e₀::v6) X.env=(false,eval e₀ X.env)::starEach v6 X.env:=by rfl) (jw:(backTo dS (starEach v6 X.env)).any (·.1)=false:=by rfl) :
  PS X (.Raise (some (.Call (.Name x np) (e₀::v6) [] dS)) none pos) (ab3 E C t):=by
 show .mk ?_;intro v4 s σ H D I h;obtain⟨bm,N,nm,q,bs,hdct,sn,sub,ab,col,dd,k0,k1,k2,k3,k5,mN,hC,hN,UP,T⟩:=vR I.mod.LD hx;show wpAny_Raise_call_subT (C:=C) (nm:=nm) (q:=q) (N:=N) (bs:=bs) (bm:=bm) (hdct:=hdct) (sn:=sn) (sub:=sub) (ab:=ab) (col:=col) (dd:=dd) (k0:=k0) (k1:=k1) (k2:=k2) (k3:=k3) (k5:=k5)
  FB (mN:=mN) (T.hasType FB.hasBase) (I.ok.hd hc) (by rw[he];show(false||(backTo dS (starEach v6 X.env)).any (·.1))=false;rw[jw];rfl) UP (Ln I hg hm ⟨rfl,?_⟩ hd)
 let hA:=ha dS v4 s σ H _ I h;rw[he]at hA ⊢;show Rf (AQ hA λus s2 ξ=>Ξ24 ξ λvs H1 I1 r1 hz q1=>?_);show⟨rfl,by rw[←r1.length];show hz,I1.bk _ _ hC,hN.keeps I1.bk,T.keeps I1.bk,λh' e hM=>hE v4 σ H1 s2 h' e _ _ I1 hM q1⟩
end
section
variable {P: Program}{w: World}{K: W.Frag}{mg: Str→Option Value}{base: Heap}{N: List Str}{qual: Str}{scope: Scope}{f: Addr}{cd: Value}{A: Around}{outer: List Env}
@[reducible]def JE(P:Program)(w:World)(K:W.Frag)(mg:KK)(base:Heap)(N:List Str)(qual:Str)(scope:Scope)(f:Addr)(cd:Value)(A:Around)(outer:List Env)(s:Shared)(H:AA)(E:BS):Cx:=
 Ja (FF P w) P w K mg base N qual scope f cd A outer s H E
def Ni(I:Inv (JE P w K mg base N qual scope f cd A outer s H E) v4 σ H1 s1)(e:s.heap.get? b=some o)(hb:b∉E4 outer):
  b∉E4 (envOfC qual scope s.heap.objs.size f cd::outer):=λhm=>by
 rcases aaf.mp (I.wx b hm)with z|z
 ·show absurd (BF e) (by rw[z];show IQ _)
 ·show hb z
def fL(I:Inv (JE P w K mg base N qual scope f cd A outer s H E) v4 σ H1 s1)(e:s.heap.get? b=some o)(hb:b∈E4 outer):∀vs,o.data≠.fields vs:=by
 let⟨_,⟨o',sU,hd'⟩⟩:=I.ok.nE.mem hb;let e':s.heap.get? b=some o':=sU;rw[e]at e';cases e';show hd'
def Ur:Raises (JE P w K mg base N qual scope f cd A outer s H E) E:=by
 intro v4 σ H1 s1 h' x C vs I M hE;show wpAny (model P w) (A.deeper (envOfC qual scope s.heap.objs.size f cd)) (leaving (envOfC qual scope s.heap.objs.size f cd) (.ref x)) (λ_ CQ=>FF P w outer H s E (.ref x) CQ) (λe' CQ=>FF P w outer H s E e' CQ) {s1 with heap:=h'}
 let Zy:∀Ha∈envOfC qual scope s.heap.objs.size f cd::outer,∀a,Ha.frame=some a→a∈E4 (envOfC qual scope s.heap.objs.size f cd::outer):=λHa he a ha=>abV.mpr ⟨Ha,he,ha⟩;show wpAny_leaves_madeW (base:=hideAll s1.heap (E4 (envOfC qual scope s.heap.objs.size f cd::outer))) (h:=s1.heap) I.ok.frames rfl (λb o q=>of_hideAll _ q) (funFrames_hide I.stack Zy) M λh2 t x1 x2 x3 x4=>?_;let nf:∀b u,H1 b=some u→b∉E4 (envOfC qual scope s.heap.objs.size f cd::outer):=λb u q hm=>by
  let z:=I.sM b hm;rw[q]at z;cases z
 show Ψ5 x C (.ref t) H1 _ ⟨rfl,I.os,I.bare,x1,λa o q=>?_,⟨λb o q n hb=>?_,λb o q n hb=>?_,λb o q n=>?_,λb o q hb=>?_,I.base.oQ,I.base.oI,I.base.oT⟩,hE⟩
 ·show(I.cg a o q).uT (λb u hb z=>hideAll_get _ z ?_) (λ_ z=>z) λ_ _ z=>z
  rcases hb with rfl|hb
  ·show nf _ _ q
  ·show nf _ _ hb
 ·show hideAll_get _ (I.base.keep b o q n hb (by show CD)) (Ni I q hb)
 ·let⟨sl,z⟩:=I.base.slot b o q n hb (by show CD)
  let⟨IE,z2⟩:=x4 b _ (M.keeps _ _ z) (have fd:=fL I q hb;λvs=>fd vs);show⟨IE,z2⟩
 ·show I.base.free b o q n (by show CD)
 ·let⟨o',z⟩:=I.base.there b o q (by show CD)
  show⟨o',hideAll_get _ z (Ni I q hb)⟩
def kC:Passes (FF P w) (JE P w K mg base N qual scope f cd A outer s H E) E:=by
 intro v4 σ H1 s1 e s2 I h;let⟨x,C,a0,H',B,rfl,os,bare,fl,cg,u,hE⟩:=h;show wpAny (model P w) (A.deeper (envOfC qual scope s.heap.objs.size f cd)) (leaving (envOfC qual scope s.heap.objs.size f cd) (.ref x)) (λ_ CQ=>FF P w outer H s E (.ref x) CQ) (λe' CQ=>FF P w outer H s E e' CQ) s2
 show wpAny_leaves_onW I.ok.frames rfl fl λh2 f2 AF=>?_;show Ψ5 x C a0 H' B ⟨rfl,os.trans I.os,bare,f2,cg,⟨λb o q n hb=>?_,λb o q n hb=>?_,λb o q n=>?_,λb o q hb=>?_,λb xs q=>u.oQ b xs (I.base.oQ b xs q),λb o v q=>u.oI b o v (I.base.oI b o v q),λb ps q=>?_⟩,hE⟩
 ·show u.keep b o (I.base.keep b o q n hb (by show CD)) (I.base.free b o q n (by show CD)) (Ni I q hb)
 ·let⟨sl,z⟩:=I.base.slot b o q n hb (by show CD)
  let hm:b∈E4 (envOfC qual scope s.heap.objs.size f cd::outer):=by
   let⟨Ha,he,ha⟩:=abV.mp hb;show abV.mpr ⟨Ha,Dm _ he,ha⟩
  let⟨IE,z2⟩:=u.slot b _ z (I.base.free b o q n (by show CD)) hm;let⟨sl3,z3⟩:=AF b _ z2 (have fd:=fL I q hb;λvs=>fd vs);show⟨sl3,z3⟩
 ·let⟨o',z⟩:=I.base.there b o q (by show CD)
  show u.free b o' z (I.base.free b o q n (by show CD))
 ·let⟨o',z⟩:=I.base.there b o q (by show CD)
  show u.there b o' z (Ni I q hb)
 ·let⟨m1,z1⟩:=I.base.oT b ps q
  let⟨m2,z2⟩:=u.oT b _ z1;show⟨m1++m2,by rw[z2,Array.append_assoc]⟩
def cS:PassesOwn (model P w) (JE P w K mg base N qual scope f cd A outer s H E).A (JE P w K mg base N qual scope f cd A outer s H E).env (JE P w K mg base N qual scope f cd A outer s H E).xe:=PassesOwn.leaving
end
def cH.okX{K:W.Frag}{mg:KK}{base:Heap}{x qual:Str}{st:Stmt}{f:Addr}{fd:FuncData}{N ps:List Str}{k:Nat}{sp:EI}(F:cH K x qual st f fd)(S:B0 N ps (An st))(len:∀vs H Q E,sp vs H Q E→vs.length=ps.length)
  (pN:∀(cy:Value) (A:Around) (outer:List Env) (s:Shared) (H:AA) (vs:List V) (Q:B1) (E:BS),eh k (A.deeper (envOfC qual (An st) s.heap.objs.size f cy))→sp vs H Q E→
   ∃t,nH (JE P w K mg base N qual (An st) f cy A outer s H E) (GG st) t∧t {nx:=λ_ H'=>Q .non H',rt:=Q} (start N vs) H):bq P w K mg base (FF P w) (k+1) f fd ps sp:=by
 let⟨oc,od,BV,doc,pm,an,cy,ct,De,rfl,lk,xu⟩:=F.ex;show bt lk xu S len λA outer s H vs Q E hr zP=>pN cy A outer s H vs Q E hr zP
abbrev U8(P:Program)(w:World)(K:W.Frag)(mg:KK)(base:Heap)(x:Str)(k:Nat)(ps:List Str)(sp:EI):Prop:=
 ∃f fd,bq P w K mg base (FF P w) k f fd ps sp∧mg x=some (.ref f)∧W.keepIn K (.ref f)=true∧Binds K fd ps []
def cA.got{H:AA}{a:Addr}{o:HO}(x:cA P w H h a o):∃u,h.get? a=some u:=by
 cases o with
 |lst xs=>let⟨_,⟨_,_,_,e⟩⟩:=x;show⟨_,e⟩
 |tup xs=>let⟨_,⟨_,_,⟨o,e,_⟩⟩⟩:=x;show⟨_,e⟩
 |dK aF=>let⟨_,_,⟨_,_,⟨o,_,_,e,_⟩⟩⟩:=x;show⟨_,e⟩
 |dT aF=>let⟨_,_,⟨_,_,⟨o,_,_,e,_⟩⟩⟩:=x;show⟨_,e⟩
 |set S n=>let⟨o,_,_,_,e,_⟩:=x;show⟨_,e⟩
 |ins C dx fs=>let⟨_,_,_,e,_⟩:=x;show⟨_,e⟩
 |own y=>show x
 |xd fs=>let⟨_,⟨_,_,_,e,_⟩,_⟩:=x;show⟨_,e⟩
 |rng lo hi=>let⟨_,_,_,e⟩:=x;show⟨_,e⟩
 |frz ob u=>let⟨e,_⟩:=x;show⟨_,e⟩
 |tbl ps=>show⟨_,(show h.get? a=some _ from x)⟩
 |met f y=>show⟨_,(show h.get? a=some _ from x)⟩
 |ext φ=>let⟨_,e,_⟩:=x;show e
section
variable {v4: List (Addr×Obj)}{σ: St}
@[reducible]def Cx.tr(X:Cx)(E':xz)(pn:ac):Cx:={X with xe:=E',pn:=pn}
@[reducible]def Cx.su(X:Cx)(x:Addr):Cx:={X with A:=X.A.mark (some (.ref x)),calm:=false,xe:=λ_ _=>False}
def Cx.Ok.tr(ok:X.Ok)(E':xz)(pn:ac):(X.tr E' pn).Ok:=
 ⟨ok.mod,ok.kind,ok.glob,ok.blt,ok.above,ok.inj,ok.has,ok.LW,ok.hd,ok.frames,ok.MJ,ok.HX,ok.bs,ok.Hy,ok.yO,ok.sE,ok.nE,ok.HW⟩
def Cx.Ok.su(ok:X.Ok)(x:Addr):(X.su x).Ok:=
 ⟨ok.mod,ok.kind,ok.glob,ok.blt,ok.above,ok.inj,ok.has,ok.LW,(λz=>absurd (show false=true from z) (by decide)),ok.frames,ok.MJ,ok.HX,ok.bs,ok.Hy,ok.yO,ok.sE,ok.nE,ok.HW⟩
def Inv.tr(I:Inv X v4 σ H s)(E':xz):Inv (X.tr E' (X.pn++v4)) [] σ H s:=
 ⟨I.ok.tr E' _,I.os,I.bare,I.base,I.loc,I.cell,I.free,I.jy,λp hp=>I.pin p (by simpa using hp),I.cg,I.len⟩
def Inv.Ez{E':xz}{tV:ac}(ok:X.Ok)(I:Inv (X.tr E' (X.pn++v4)) tV σ H s):Inv X v4 σ H s:=
 ⟨ok,I.os,I.bare,I.base,I.loc,I.cell,I.free,I.jy,λp hp=>I.pin p (K6 _ hp),I.cg,I.len⟩
def Inv.su(I:Inv X v4 σ H s)(x:Addr):Inv (X.su x) v4 σ H s:=⟨I.ok.su x,I.os,I.bare,I.base,I.loc,I.cell,I.free,I.jy,I.pin,I.cg,I.len⟩
def Inv.Ie{x:Addr}(ok:X.Ok)(I:Inv (X.su x) v4 σ H s):Inv X v4 σ H s:=⟨ok,I.os,I.bare,I.base,I.loc,I.cell,I.free,I.jy,I.pin,I.cg,I.len⟩
end
section
abbrev aK(X:Cx)(v4:ac)(D:Ends)(hs:List ExceptHandler):xz:=λe s₁=>
 wpAny (model X.prog X.w) X.A (noteFrame e X.env) (λ_ s₂=>wpAny (model X.prog X.w) X.A (setFlight e none) (λ_ s₃=>wpAny (model X.prog X.w) X.A (handleBy e X.env hs) (SP X v4 D) X.xe s₃) X.xe s₂) X.xe s₁
end
section
variable {k j: Nat}{ps: List Str}{sp: EI}{p: Pos}{e: Expr}{es: List Expr}{W: St→BS}
abbrev oY(sp:EI)(W:St→BS)(t:CY):Al:=λσ H Q=>t σ H λvs H1=>sp vs H1 Q (W σ)
abbrev RD(X:Cx)(W:St→BS):Prop:=∀(v4:ac) (σ:St) (H:AA) (s:Shared) (e:Value) (s':Shared),Inv X v4 σ H s→FF X.prog X.w X.stack H s (W σ) e s'→X.xe e s'
def vY(c:U8 X.prog X.w X.K X.mg X.base x k ps sp)(hr:eh j X.A)(hk:k≤j)(hg:CF X x)(hx:RD X W)(ha:PA X (e::es) t)(sD:(x ==("__debug__" : Str))=false:=by decide)
  (he:starEach (e::es) X.env=(false,eval e X.env)::starEach es X.env:=by rfl) (jw:(backTo pos (starEach es X.env)).any (·.1)=false:=by rfl):PE X (.Call (.Name x p) (e::es) [] pos) (oY sp W t):=by
 show .mk ?_;let⟨f,fd,F,m,kp,b⟩:=c;intro v4 s σ H Q I h;show Jh (Ln I hg m ?_ sD);show MA (h₀:=X.base) I.ok.mod.LD kp (AQ (ha pos v4 s σ H _ I h) λus s1 ξ=>Ξ23 ξ λvs H1 I1 r q=>⟨I1.pL,?_⟩) he jw;let hl:us.length=ps.length:=by rw[←r.length];show F.len _ _ _ _ q
 let hb:=b s1 us I1.pL (by rw[Bg];show hl);rw[Bg]at hb;show wpAny_call (Mb (F.run X.A X.stack s1 H1 ⟨us,[]⟩ us vs Q (W σ) (hr.mono hk) I1.OU hb r q) λr' s' hq=>?_);cases r' with
 |error e=>show hx v4 σ H1 s1 e s' I1 hq
 |ok fl=>
  cases fl with
  |ret u=>show I1.after hq
  |next=>show False.elim hq
  |brk=>show False.elim hq
  |cont=>show False.elim hq
end
section
variable {body qY: List Stmt}{b₀: Stmt}{y: Str}{AX: Pos}{Cy: Addr}{tb:(St→BS)→CI}{ts: CI}
abbrev Uo(K:W.Frag)(Cy:Addr)(ts:CI)(D:Ends):St→BS:=λσ C _ H'=>exmOne K C (.ref Cy)=some true∧ts D σ H'
abbrev w6(K:W.Frag)(Cy:Addr)(tb:(St→BS)→CI)(ts:CI):CI:=λD σ H=>tb (Uo K Cy ts D) D σ H
def yj{D:Ends}(ok:X.Ok)(zO:X.stack=X.env::X.outer)(J8:X.env.frame=some X.env.locals)(hy:CF X y)(SN:X.mg y=some (.ref Cy))
  (hs:∀x,nH (X.su x) (b₀::qY) ts) (hd:(y ==("__debug__" : Str))=false) {σ1:St}   {e:Value} {s2:Shared} (J1:Inv X v4 σ1 H1 s1) (Xl:FF X.prog X.w X.stack H1 s1 (Uo X.K Cy ts D σ1) e s2) :
  aK X v4 D [.ExceptHandler (some (.Name y np)) none (b₀::qY) AX] e s2:=by
 let⟨x,C,a0,H',B,rfl,os,bare,fl,cg,u,hm,hw⟩:=Xl;let Xi:X.A.frames=some (X.env::X.outer):=by rw[←zO];show ok.frames
 let ZS:Heap.FlyingW B (X.env::X.outer) x C a0 s2.heap:=by rw[←zO];show fl
 let data:∀b∈E4 X.stack,∀o,s1.heap.get? b=some o→∀vs,o.data≠.fields vs:=λb hb o q=>by
  let⟨_,⟨o',sU,hd'⟩⟩:=J1.stack.mem hb;rw[q]at sU;cases sU;show hd'
 let Y8:∀h5:Heap,B.StaysIn h5→s2.heap.UpToSlots h5→Inv X v4 σ1 H' {s2 with heap:=h5}:=λh5 st AF=>by
  let u5:U7 (E4 X.stack) H1 H' s1.heap B h5:=⟨u.keep,λb o q n' hb=>by
   let⟨sl,z⟩:=u.slot b o q n' hb;let⟨IE,z2⟩:=AF b _ z (have dd:=data b hb o q;λvs=>dd vs);show⟨IE,z2⟩,u.free,u.there,u.oQ,u.oI,u.oT⟩
  show J1.LV (s':={s2 with heap:=h5}) (ch:=[]) os (u5.un st J1.sM) (cg.kept st) bare (λb hb=>nomatch hb)
 let hxB:B.get? x=none:=ZS.2.1;let Hx:H' x=none:=by
  cases q:H' x with
  |none=>rfl
  |some o=>
   let⟨z,hz⟩:=(cg x o q).got;rw[hxB]at hz;cases hz
 show wpAny_looks_onW Xi J8 ZS λh4 SX Yn=>?_;show wpAny_landsW SX λh5 Xy Ym=>?_;let I5:=Y8 h5 Xy.1 (Yn.trans Ym);let⟨ob,hob,UO⟩:=Xy.there;let LT:Looks (model X.prog X.w) h5 (typeOf (.ref x)) C:=by rw[←UO];show(Looks.ld hob).andThen .now
 show wpAny_handleBy_cons (codeAny_handlers_test (Ln (X:=X.su x) (I5.su x) hy SN ?_ hd)) (by intro q;cases q);show(exm_one I5.pL LT hm).here ?_;show codeAny_handlers_suite ?_;show lands_againW Xy λh6 fl6 up6=>?_;let I6:=Y8 h6 fl6.1 ((Yn.trans Ym).trans up6);show Bt ((hs x).run v4 {s2 with heap:=h6} _ _ _ (I6.su x) hw) (λf s8 q=>?_) (λ_ _ z=>z.elim);cases f with
 |next=>obtain⟨σ2,H2,I8,q⟩:=q;show Ψ2 _ _ ⟨Inv.Ie ok I8,q⟩
 |brk=>obtain⟨σ2,H2,I8,q⟩:=q;show Ψ2 _ _ ⟨Inv.Ie ok I8,q⟩
 |cont=>obtain⟨σ2,H2,I8,q⟩:=q;show Ψ2 _ _ ⟨Inv.Ie ok I8,q⟩
 |ret v=>obtain⟨v',σ2,H2,I8,r,q⟩:=q;show Ψ3 v' _ _ ⟨Inv.Ie ok I8,r,q⟩
def tSl(zO:X.stack=X.env::X.outer)(J8:X.env.frame=some X.env.locals)(hy:CF X y)(SN:X.mg y=some (.ref Cy))
  (hb:∀(E':xz) (pn:ac) (W:St→BS),(∀v4 σ H s e s',Inv (X.tr E' pn) v4 σ H s→FF X.prog X.w X.stack H s (W σ) e s'→E' e s')→nH (X.tr E' pn) body (tb W))
  (hs:∀x,nH (X.su x) (b₀::qY) ts) (hd:(y ==("__debug__" : Str))=false:=by decide) :
  PS X (.Try body [.ExceptHandler (some (.Name y np)) none (b₀::qY) AX] [] [] pos) (w6 X.K Cy tb ts):=by
 show .mk ?_;intro v4 s σ H D I h;let ok:=I.ok;show wpAny_Try_except ?_;let fin:=(hb (aK X v4 D [.ExceptHandler (some (.Name y np)) none (b₀::qY) AX]) (X.pn++v4) (Uo X.K Cy ts D) (λtV σ1 H1 s1 e s2 J Xl=>yj ok zO J8 hy SN hs hd (Inv.Ez ok J) Xl)).run [] s σ H D (I.tr _) h;show Bt fin (λf s1 q=>?_) λe s1 q=>q;cases f with
 |next=>
  obtain⟨σ',H',I',q⟩:=q;show Pn ⟨σ',H',Inv.Ez ok I',q⟩
 |brk=>obtain⟨σ',H',I',q⟩:=q;show Ψ2 σ' H' ⟨Inv.Ez ok I',q⟩
 |cont=>obtain⟨σ',H',I',q⟩:=q;show Ψ2 σ' H' ⟨Inv.Ez ok I',q⟩
 |ret v=>obtain⟨v',σ',H',I',r,q⟩:=q;show Ψ3 v' σ' H' ⟨Inv.Ez ok I',r,q⟩
end
end L2
namespace L2
open PySem PySem.Spec PyProof.Rows
variable {i t':Nat}{j sl t a u z p j1 j2 u1 u2:Addr}{pos:Pos}{xs:List V}{us:List Value}{prog P:Program}{w:World}{A:Around}{E Q:xz}{s:Shared}{vs ws:Array Value}{bs:List Bool}{ss:List Str}{ch:List Addr}{K:W.Frag}{b:Value}{X: Cx}
def VG{α β:Type}{f g:α→Option β}:∀{l:List α},(∀x∈l,f x=g x)→l.filterMap f=l.filterMap g
 |[],_=>rfl
 |x::r,h=>by rw[Mr,Mr,h x Il,VG λy hy=>h y (Dm _ hy)]
section
abbrev CB(i j:Int):Prop:=0<j∧j<2^200
def CB.Wr{i j:Int}(h:CB i j):Builtin.divisionGoesByPylong i j=false:=by
 show bD ?_;let h1:j.natAbs<2^200:=by have:=h.1;have:=h.2;lia
 let h2:j.natAbs≠0:=by have:=h.1;lia
 have:=(Nat.log2_lt h2).mpr h1;lia
def Gap:jB X (binaryOp .FloorDiv) (KI CB λi j=>.int (i/j)):=Lq λi j _ _ _ _ _ hc q=>by
 let h1:(0:Int)<j:=hc.1;show floordiv_int (by lia) (by rw[Int.fdiv_eq_ediv_of_nonneg i (by lia)];show q) (.inl hc.Wr)
abbrev V9(X:Cx)(r:V→AA→B1→Prop):Prop:=
 ∀v4 s σ H (x:V) (v vs:Value) (sl:Addr) (Q:B1),Inv X v4 σ H s→RelV x v→s.heap.IsSliceOf sl .none .none vs→IsPart vs (some (-1))→r x H Q→
  ∃T id,typeLookup (.type T) "__getitem__" = pure (some (.builtin id))∧s.TypeIs v T∧wpAny (model X.prog X.w) X.A (getItem v (.ref sl)) (Bw X v4 σ Q) X.xe s
def Zi{r:V→AA→B1→Prop}{e st:Expr}{te ts:Al}{p2:Pos}(hr:V9 X r)(he:PE X e te)(hs:PE X st ts):
  PE X (.Subscript e (.Slice none none (some st) p2) pos) (λσ H Q=>te σ H λx H1=>ts σ H1 λy H2=>y=.int (-1)∧r x H2 Q):=by
 show .mk ?_;intro v4 s σ H Q I h;show Subscript_ (AQ (he v4 s σ H _ I h) λv s1 ξ=>Ξ23 ξ λx H1 I1 r1 q1=>?_);show wpAny_Slice ?_;rw[evalPart_none];show Af ?_;show Af ?_;rw[evalPart_some];show AQ (hs v4 s1 σ H1 _ I1 q1) λvs s2 ξ=>Ξ23 ξ λy H2 I2 r2 q2=>?_;let⟨rfl,q3⟩:=q2;let⟨t,rfl⟩:=r2;let I4:Inv X v4 σ H2 {s2 with heap:=s2.heap.push {cls:=.type "slice",data:=.fields #[.none,.none,.int (-1) t]}}:=I2.kept (t':=s2.toks) λb ob q=>B9 _ q;let⟨T,id,hT,ht,hg⟩:=hr v4 {s2 with heap:=s2.heap.push {cls:=.type "slice",data:=.fields #[.none,.none,.int (-1) t]}} σ H2 x v _ s2.heap.objs.size Q I4 r1 (Heap.IsSliceOf.new ..) (.int (-1) t) q3;show wpAny (model X.prog X.w) X.A (subscriptTail e (.Slice none none (some st) p2) v (.ref s2.heap.objs.size)) (Bw X v4 σ Q) X.xe {s2 with heap:=s2.heap.push {cls:=.type "slice",data:=.fields #[.none,.none,.int (-1) t]}}
 show tail_any (ops:=[v,.ref s2.heap.objs.size]) ht hT hg (by with_unfolding_all rfl)
def wD(aV:List Value):((List.range aV.length).map λk=>aV.length-1-k).filterMap (aV.toArray[·]?)=aV.reverse:=by
 apply List.ext_getElem?
 intro i;let e:((List.range aV.length).map λk=>aV.length-1-k).filterMap (aV.toArray[·]?)=(List.range aV.length).map λk=>aV.getD (aV.length-1-k) .none:=by
  rw[RC];rw[←List.filterMap_eq_map];apply VG
  intro k hk;let hk':k<aV.length:=abC.mp hk;show aV.toArray[aV.length-1-k]?=some (aV.getD (aV.length-1-k) .none)
  let h2:aV.length-1-k<aV.length:=by lia
  simp[List.getD,D0 h2]
 rw[e,He];by_cases h:i<aV.length
 ·rw[List.getElem?_range h,List.getElem?_reverse h]
  let h2:aV.length-1-i<aV.length:=by lia
  simp[List.getD,D0 h2]
 ·rw[List.getElem?_eq_none (by simpa using h),List.getElem?_eq_none (by simpa using h)]
  rfl
def Vals.rev(r:Vals xs us):Vals xs.reverse us.reverse:=by
 induction r with
 |nil=>show .nil
 |cons r1 r2 ih=>
  rw[QG,QG];show ih.append (.cons r1 .nil)
abbrev yR(K:W.Frag):V→AA→B1→Prop:=λx H Q=>∃a xs,x=.ref a∧eJ K H a xs∧∀p,H p=none→Q (.ref p) (Ac H p (.tup xs.reverse))
def xB{vs:Value}{n:Nat}{Q:Int×Int×Nat→Shared→Prop}(hs:s.heap.IsSliceOf sl .none .none vs)(ps:IsPart vs (some (-1)))
  (h:Q ((n:Int)-1,-1,n) s):wpAny (model prog w) A (Builtin.Slice.sliceApplied (.ref sl) (pure (n:Int))) Q E s:=by
 let⟨os,Dz,Ka,D8⟩:=id hs;unfold Builtin.Slice.sliceApplied Builtin.Slice.sliceFields;show AE (AE (F5 Dz D8 (x:=.none) rfl (AE (F5 Dz D8 (x:=.none) rfl (AE (F5 Dz D8 (x:=vs) rfl (Af ?_)))))));show AE (HT.oi ps ?_);show wpAny _ _ (if((-1:Int)==0)=true then _ else _) _ _ s
 rw[AV (by decide)];show AE (N6 (AE (N6 (AE (Af ?_)))));show wpAny _ _ (match Builtin.Slice.sliceAdjust none none (-1) (n:Int)with|(lo,hi)=>pure (lo,(-1:Int),Builtin.Slice.slicePlaces lo hi (-1))) _ _ s
 let e:Builtin.Slice.sliceAdjust none none (-1) (n:Int)=((n:Int)-1,-1):=rfl;rw[e];show wpAny _ _ (pure ((n:Int)-1,(-1:Int),Builtin.Slice.slicePlaces ((n:Int)-1) (-1) (-1))) _ _ s
 let e2:Builtin.Slice.slicePlaces ((n:Int)-1) (-1) (-1)=n:=by
  unfold Builtin.Slice.slicePlaces;let h1:¬((-1:Int)>0):=by lia
  let h3:(-(-1):Int)=1:=rfl;simp only[h1,Lf,h3,QI];split<;>lia
 rw[e2];show Af h
def ac2{aV:List Value}{vs:Value}(ht:IsTup s.heap t aV.toArray)(hs:s.heap.IsSliceOf sl .none .none vs)(ps:IsPart vs (some (-1)))
  (h:Q (.ref s.heap.objs.size) {s with heap:=s.heap.push {cls:=.type "tuple",data:=.seq aV.reverse.toArray}})
  (hsz:aV.length≤sizeLine):wpAny (model prog w) A (getItem (.ref t) (.ref sl)) Q E s:=by
 let pM:sizeOk (.seq aV.reverse.toArray):=by
  show aV.reverse.toArray.size≤sizeLine
  rw[Bf,Lx];show hsz
 let⟨os,Dz,Ka,D8⟩:=id hs;let S7:s.TypeIs (.ref sl) "slice" :=⟨os,Dz,Ka⟩;unfold getItem
 try with_reducible refine Hc ?_
 first|refine AE (Af ?_)|skip
 show AE (Sv ht.typeIs (by decide) ?_);show AE (K3 (name:=Str.ofString "__getitem__") ht.typeIs aaV
  (JW aaV ht.typeIs entry_tuple_getitem ?_ (args_tuple_getitem _ _)))
 show wpAny _ _ (Builtin.Tuple.tupleItemsOf (.ref t) >>= _) _ _ s
 show AE (tupleItemsOf_ ht ?_);show AE (MY S7 ?_);rw[Aa (by decide)];show AE (xB hs ps ?_);let Pz:¬(((((aV.toArray.size:Nat):Int)-1)==0&&(-1:Int)==1&&aV.toArray.size==aV.toArray.size)=true):=by
  have:((-1:Int)==1)=false:=rfl;rw[this,Er,CZ];show Cf
 show wpAny _ _ (if((((aV.toArray.size:Nat):Int)-1)==0&&(-1:Int)==1&&aV.toArray.size==aV.toArray.size)=true then _ else _) _ _ s
 rw[AV Pz];let e:((List.range aV.toArray.size).filterMap λ(m:Nat)=>aV.toArray[((((aV.toArray.size:Nat):Int)-1)+(m:Int)*(-1)).toNat]?).toArray=aV.reverse.toArray:=by
  rw[←wD aV,RC,Bf];congr 1
  apply VG
  intro k hk;let hk':k<aV.length:=abC.mp hk;let e1:(((aV.length:Nat):Int)-1+(k:Int)*(-1)).toNat=aV.length-1-k:=by lia
  show aV.toArray[(((aV.length:Nat):Int)-1+(k:Int)*(-1)).toNat]?=aV.toArray[aV.length-1-k]?
  rw[e1]
 rw[e];first
  |show AE (m:=Builtin.Tuple.tupleExact _) (GP (Af ⟨_,rfl,Af h⟩) pM)
  |show AE (m:=Builtin.Tuple.tupleExact _) (GP (AE (Af (Af ⟨_,rfl,Af h⟩))) pM)
  |show AE (AE (m:=Builtin.Tuple.tupleExact _) (GP (Af (Af ⟨_,rfl,Af h⟩)) pM))
  |show AE (AE (m:=Builtin.Tuple.tupleExact _) (GP (Af ⟨_,rfl,Af h⟩) pM))
def aca:V9 X (yR X.K):=by
 intro v4 s σ H x v vs sl Q I rx hs ps h;let⟨a,xs,rfl,hx,q⟩:=h;cases rx;let⟨aV,r,ht,hz⟩:=I.tuple hx;let hlen:=r.length;show Ψ2 ("tuple") _ ⟨aaV.lookup,ht.typeIs,?_⟩;show ac2 ht hs ps ?_ (by lia);show Ψ2 (.ref s.heap.objs.size) _ ⟨I.laid (t':=s.toks) (o:=.tup xs.reverse) (λb ob q=>B9 _ q) (Av _) ?_,rfl,q _ (I.cg.fresh (Av _))⟩;show⟨by rw[Lx];show hz,_,Vals.rev r,IsTup.new _ _⟩
def dO:∀{us:List Value},Vals (bs.map V.bl) us→us=bs.map Value.bool:=by
 induction bs with
 |nil=>intro us r;rw[GD]at r;cases r;rfl
 |cons n ns ih=>
  intro us r;rw[CT]at r;cases r with
  |cons r1 r2=>
   rw[ih r2];cases r1;rfl
def range_all:(List.range bs.length).all (λi=>bs.getD i true)=bs.all id:=by
 rw[GO,aaW,aaW];constructor
 ·intro h b hb
  obtain⟨i,hi,rfl⟩:=List.getElem_of_mem hb;have:=h i (abC.mpr hi);simpa[List.getD,D0 hi]using this
 ·intro h i hi
  let J6:=abC.mp hi;have:=h bs[i] (GJ J6);simpa[List.getD,D0 J6]using this
def Qi{o₀:Obj}{h':Heap}(hk:∀b o,b∉[s.heap.objs.size]→(s.heap.push o₀).get? b=some o→h'.get? b=some o):∀b o,s.heap.get? b=some o→h'.get? b=some o:=λb o e=>by
 show hk b o (λhm=>?_) (B9 _ e);show absurd ((aam.mp hm) ▸ BF e) (IQ _)
def yU(hc:X.calm=true):EK X (.builtin "all") (λxs H Q=>∃(p:Addr) (bs:List Bool),xs=[.ref p]∧lG X.K H p (bs.map V.bl)∧Q (.bl (bs.all id)) H):=by
 intro v4 s σ H xs us Q I r h;let⟨p,bs,rfl,hq,q⟩:=h;let⟨u,rfl,ru⟩:=vals1 r;cases ru;let⟨aV,rv,pl,hz⟩:=I.list hq;let eb:=dO rv;let hl:s.heap.IsList p aV.toArray:=pl.isList;let eQ:p<s.heap.objs.size:=by let⟨_,e,_⟩:=hl;show BF e
 show call_all_walk (O5 hl ?_);show Ψ7 s.heap.objs.size _ _ _ _ _ (λi=>bs.getD i true) ⟨rfl,Walks.list (prog:=X.prog) (w:=X.w) (A:=X.A.in1) (I.ok.hd hc) s.heap.objs.size p (Bm eQ) aV.toArray,⟨⟨_,DP _ rfl,rfl,rfl⟩,hl.push _⟩,?_,?_⟩
 ·intro i v s' Q' E' hP hQ
  let e:v=.bool (bs.getD i true):=by
   rw[eb]at hP;simp only[NK,He,acE]at hP;let⟨b,hb,rfl⟩:=hP;simp[List.getD,hb]
  rw[e];show Hr hQ
 ·intro h' tk hk
  show Ψ2 (.bl (bs.all id)) H ⟨I.kept (Qi hk),?_,q⟩;let e2:aV.toArray.size=bs.length:=by rw[eb];simp
  rw[e2,range_all];rfl
def Vals.at(r:Vals xs us):∀{j:Nat} (h:j<us.length),RelV (xs.getD j .non) us[j]:=by
 induction r with
 |nil=>intro j h;show absurd h (Jx _)
 |cons r1 r2 ih=>
  intro j h;cases j with
  |zero=>show r1
  |succ j=>show ih (Nat.lt_of_succ_lt_succ h)
def acW{items:Array Value}{vl vu:Value}{lo hi:Option Int}(ht:IsTup s.heap t items)(hs:s.heap.IsSliceOf sl vl vu .none)(pl:IsPart vl lo)(pu:IsPart vu hi)
  (h0:HT.dz items.size 0 lo=0) (h1:HT.dz items.size items.size hi=items.size) (h:Q (.ref t) s):wpAny (model prog w) A (getItem (.ref t) (.ref sl)) Q E s:=by
 let⟨os,Dz,Ka,D8⟩:=id hs;let S7:s.TypeIs (.ref sl) "slice" :=⟨os,Dz,Ka⟩;unfold getItem
 try with_reducible refine Hc ?_
 first|refine AE (Af ?_)|skip
 show AE (Sv ht.typeIs (by decide) ?_);show AE (K3 (name:=Str.ofString "__getitem__") ht.typeIs aaV
  (JW aaV ht.typeIs entry_tuple_getitem ?_ (args_tuple_getitem _ _)))
 show wpAny _ _ (Builtin.Tuple.tupleItemsOf (.ref t) >>= _) _ _ s
 show AE (tupleItemsOf_ ht ?_);show AE (MY S7 ?_);rw[Aa (by decide)];show AE (HT.j6 hs pl pu ?_);let WU:((((HT.dz items.size 0 lo:Nat):Int)==0&&(1:Int)==1&&(HT.dz items.size items.size hi-HT.dz items.size 0 lo)==items.size)=true):=by
  rw[h0,h1];simp
 show wpAny _ _ (if(((HT.dz items.size 0 lo:Nat):Int)==0&&(1:Int)==1&&(HT.dz items.size items.size hi-HT.dz items.size 0 lo)==items.size)=true then _ else _) _ _ s
 rw[Aa WU];unfold Builtin.Tuple.tupleIsExact;show AE (AE (MY ht.typeIs ?_));show Af ?_;rw[Aa (by decide)];show AE (Kn ?_);show Af ⟨_,rfl,Af h⟩
abbrev yD(K:W.Frag):V→Option Int→Option Int→AA→B1→Prop:=λx lo hi H Q=>∃a xs,x=.ref a∧eJ K H a xs∧
 ((HT.dz xs.length 0 lo=0∧HT.dz xs.length xs.length hi=xs.length)→Q (.ref a) H)∧(¬(HT.dz xs.length 0 lo=0∧HT.dz xs.length xs.length hi=xs.length)→∀p,H p=none→Q (.ref p) (Ac H p (.tup (G8 xs lo hi))))
def adi:KJ X (yD X.K):=by
 intro v4 s σ H x v vl vu lo hi sl Q I rx hs pl pu h;let⟨a,xs,rfl,hx,q1,q2⟩:=h;by_cases hw:HT.dz xs.length 0 lo=0∧HT.dz xs.length xs.length hi=xs.length
 ·cases rx
  let⟨aV,r,ht,hz⟩:=I.tuple hx;let hlen:aV.toArray.size=xs.length:=by rw[Bf];show r.length.symm
  show Ψ2 ("tuple") _ ⟨aaV.lookup,ht.typeIs,?_⟩;show acW ht hs pl pu (by rw[hlen];show hw.1) (by rw[hlen];show hw.2) ⟨.ref a,H,I,rfl,q1 hw⟩
 ·show aa3 v4 s σ H _ v vl vu lo hi sl Q I rx hs pl pu ⟨a,xs,rfl,hx,hw,q2 hw⟩
end
section
def range_any:(List.range bs.length).any (λi=>bs.getD i true)=bs.any id:=by
 rw[GO,abv,abv];constructor
 ·intro⟨i,hi,h⟩
  let J6:=abC.mp hi;show⟨bs[i],GJ J6,?_⟩;simpa[List.getD,D0 J6]using h
 ·intro⟨b,hb,h⟩
  obtain⟨i,hi,rfl⟩:=List.getElem_of_mem hb;show⟨i,abC.mpr hi,?_⟩;simpa[List.getD,D0 hi]using h
def qg(hc:X.calm=true):EK X (.builtin "any") (λxs H Q=>∃(p:Addr) (bs:List Bool),xs=[.ref p]∧lG X.K H p (bs.map V.bl)∧Q (.bl (bs.any id)) H):=by
 intro v4 s σ H xs us Q I r h;let⟨p,bs,rfl,hq,q⟩:=h;let⟨u,rfl,ru⟩:=vals1 r;cases ru;let⟨aV,rv,pl,hz⟩:=I.list hq;let eb:=dO rv;let hl:s.heap.IsList p aV.toArray:=pl.isList;let eQ:p<s.heap.objs.size:=by let⟨_,e,_⟩:=hl;show BF e
 show call_any_walk (O5 hl ?_);show Ψ7 s.heap.objs.size _ _ _ _ _ (λi=>bs.getD i true) ⟨rfl,Walks.list (prog:=X.prog) (w:=X.w) (A:=X.A.in1) (I.ok.hd hc) s.heap.objs.size p (Bm eQ) aV.toArray,⟨⟨_,DP _ rfl,rfl,rfl⟩,hl.push _⟩,?_,?_⟩
 ·intro i v s' Q' E' hP hQ
  let e:v=.bool (bs.getD i true):=by
   rw[eb]at hP;simp only[NK,He,acE]at hP;let⟨b,hb,rfl⟩:=hP;simp[List.getD,hb]
  rw[e];show Hr hQ
 ·intro h' tk hk
  show Ψ2 (.bl (bs.any id)) H ⟨I.kept (Qi hk),?_,q⟩;let e2:aV.toArray.size=bs.length:=by rw[eb];simp
  rw[e2,range_any];rfl
abbrev oj:E2:=λx y H Q=>∃a b xs ys,x=.ref a∧y=.ref b∧H a=some (.tup xs)∧H b=some (.tup ys)∧xs.length+ys.length≤sizeLine∧∀c H',Kp [] H H'→H' c=some (.tup (xs++ys))→Q (.ref c) H'
def yk:jB X (binaryOp .Add) oj:=by
 intro v4 s σ H x y v u Q I rx ry h;let⟨a,b,xs,ys,rfl,rfl,ha,hb,hz,q⟩:=h;by_cases e:xs=[]
 ·subst e
  cases rx;cases ry;let⟨aV,r1,p1,z1⟩:=I.tuple (eJ.of (K:=X.K) ha);let⟨oH,r2,p2,z2⟩:=I.tuple (eJ.of (K:=X.K) hb);cases r1;obtain⟨⟨cls,dd,data,sl⟩,ho,hc,n,hd⟩:=id p1;obtain⟨⟨XT,U5,data2,IE⟩,J5,S2,n2,hd2⟩:=id p2;simp only at hc hd S2 hd2;subst hc hd S2 hd2;show concat_meets ⟨_,ho,rfl⟩ ⟨_,J5,rfl⟩ U9 seq_tuple_add VZ TO (TS _ _)
   (tuple_addW0 a b [].toArray oH.toArray n n2 dd U5 sl IE rfl) ⟨ho,J5,Ψ2 (.ref b) H ⟨I,rfl,q b H (Kp.refl _) hb⟩⟩
 ·show u0 v4 s σ H _ _ v u Q I rx ry ⟨a,b,xs,ys,rfl,rfl,eJ.of ha,eJ.of hb,e,hz,λz=>by subst z;show q a H (Kp.refl _) (by rw[Bg];show ha),λ_ p hp=>q p _ (Kp.new hp _) Bz⟩
abbrev abA:V→Option Int→Option Int→AA→B1→Prop:=λx lo hi H Q=>∃a xs,x=.ref a∧H a=some (.tup xs)∧∀c H',Kp [] H H'→H' c=some (.tup (G8 xs lo hi))→Q (.ref c) H'
def oX:KJ X abA:=by
 intro v4 s σ H x v vl vu lo hi sl Q I rx hs pl pu h;let⟨a,xs,rfl,ha,q⟩:=h;show adi v4 s σ H _ v vl vu lo hi sl Q I rx hs pl pu ⟨a,xs,rfl,eJ.of ha,λz=>q a H (Kp.refl _) ?_,λ_ p hp=>q p _ (Kp.new hp _) Bz⟩;unfold G8;rw[z.1,z.2,V7,Nat.sub_zero,List.take_length];show ha
abbrev kS:Al:=λ_ H Q=>∀p,H p=none→Q (.ref p) (Ac H p (.dK []))
def acV:PE X (.Dict [] [] pos) kS:=by
 show .mk ?_;intro v4 s σ H Q I h;show wpAny_Dict_empty ⟨.ref s.heap.objs.size,_,I.laid (a:=s.heap.objs.size) (o:=.dK []) (t':=s.toks) (λ_ _ q=>B9 _ q) (Av _) ?_,rfl,h _ (I.cg.fresh (Av _))⟩;let hb:sysModules<s.heap.objs.size:=Nat.lt_trans (by decide) (I.mod.glob.keeps I.bk).lt;show⟨FI _,aa0.mpr λz=>Bm hb z.symm,[],.nil,Heap.DictOf.new s.heap⟩
def abn:∀{us:List Value},Vals (ss.map V.str) us→∃l:List (Str×Tok),us=strValues l∧l.map (·.1)=ss:=by
 induction ss with
 |nil=>intro us r;rw[GD]at r;cases r;show⟨[],rfl,rfl⟩
 |cons x r ih=>
  intro us rv;rw[CT]at rv;cases rv with
  |cons r1 r2=>
   let⟨t,rfl⟩:=r1;let⟨l,rfl,e⟩:=ih r2;show⟨(x,t)::l,rfl,by rw[CT,e]⟩
abbrev Jc(ss:List Str):Str:=⟨(ss.map (·.cps.toList)).flatten.toArray⟩
def jV:∀(ss:List Str) (x:Array Nat),ss.foldl (λacc (p:Str)=>acc++(Str.empty).cps++p.cps) x=(x.toList++(ss.map (·.cps.toList)).flatten).toArray
 |[],x=>by simp
 |y::r,x=>by
  rw[S6,jV r];simp[Str.empty,Array.toList_append,ND]
def pG:∀ss:List Str,Builtin.Str.glued Str.empty ss=Jc ss
 |[]=>rfl
 |y::r=>by
  show(⟨r.foldl (λacc (p:Str)=>acc++(Str.empty).cps++p.cps) y.cps⟩:Str)=_
  rw[jV];rfl
def jK(sep:Nat):∀(ss:List Str) (n B:Nat),(∀y∈ss,y.length≤B)→ss.foldl (λa (p:Str)=>a+p.length+sep) n≤n+ss.length*(B+sep)
 |[],n,B,_=>by simp
 |y::r,n,B,h=>by
  rw[S6];let h1:=jK sep r (n+y.length+sep) B λz hz=>h z (Dm _ hz);let h2:=h y Il;rw[D7,Nat.succ_mul];lia
def gT{α:Type}(B:Nat):∀ls:List (List α),(∀l∈ls,l.length≤B)→ls.flatten.length≤ls.length*B
 |[],_=>by simp
 |l::r,h=>by
  rw[List.flatten_cons,B3,D7,Nat.succ_mul];let h1:=gT B r λz hz=>h z (Dm _ hz);let h2:=h l Il;lia
def vA{B:Nat}(h:∀y∈ss,y.length≤B):(Jc ss).length≤ss.length*B:=by
 show(ss.map (·.cps.toList)).flatten.toArray.size≤_
 rw[Bf];have:=gT B (ss.map (·.cps.toList)) λl hl=>by
  let⟨y,hy,rfl⟩:=aap.mp hl;rw[Ig];show h y hy
 rwa[Ag]at this
def yB:JK X "str.join" (λx vs H Q=>∃(p:Addr) (ss:List Str),x=.str Str.empty∧vs=[.ref p]∧lG X.K H p (ss.map V.str)∧ss.length≤1000∧(∀y∈ss,y.length≤1000)∧Q (.str (Jc ss)) H):=by
 intro v4 s σ H x vs v us Q I rx rv h;let⟨p,ss,rfl,rfl,hq,l1,l2,q⟩:=h;let⟨t,rfl⟩:=rx;let⟨u,rfl,ru⟩:=rv.one;cases ru;let⟨aV,r,pl,hz⟩:=I.list hq;let⟨l,rfl,rfl⟩:=abn r;let hs:(1000*1000:Nat)≤sizeLine:=by decide
 let hlen:(l.map (·.1)).foldl (λa (p:Str)=>a+p.length+(Str.empty).length) 0≤1000*1000:=by
  let h1:=jK (Str.empty).length (l.map (·.1)) 0 1000 l2;let h2:(Str.empty).length=0:=rfl;rw[h2]at h1 ⊢;let h3:(l.map (·.1)).length*(1000+0)≤1000*1000:=Nat.mul_le_mul l1 (by lia);lia
 let hl:Builtin.Str.tooLong ((l.map (·.1)).toArray.foldl (· + ·.length+(Str.empty).length) 0)=false:=by
  unfold Builtin.Str.tooLong;rw[List.foldl_toArray];show CA (by lia)
 show call_meets F.slot_str_join (LO s _ t) F.entry_str_join (F.args_str_join_2 _ _) (meets_str_join_list Str.empty t p l hl) ⟨pl.isList,?_⟩;let fin:∀z:Str,z=Jc (l.map (·.1))→Q (.str z) H:=λz e=>by rw[e];show q
 match l,pG (l.map (·.1)),fin,l1,l2 with
 |[],_,fin,_,_=>show⟨by decide,.str Str.empty,H,I.tok _,⟨_,rfl⟩,fin _ rfl⟩
 |[y],_,fin,_,_=>show Ψ2 (.str y.1) H ⟨I,⟨y.2,rfl⟩,fin _ (by simp[Jc])⟩
 |y::z::r,e,fin,l1,l2=>
  show⟨?_,.str (Builtin.Str.glued Str.empty ((y::z::r).map (·.1))),H,I.tok _,⟨_,rfl⟩,fin _ e⟩;show(Builtin.Str.glued Str.empty ((y::z::r).map (·.1))).length≤sizeLine
  rw[e];let h1:=vA (B:=1000) l2;let h2:((y::z::r).map (·.1)).length*1000≤1000*1000:=Nat.mul_le_mul l1 (Av _);lia
end
section
variable {v4: List (Addr×Obj)}{σ: St}{H: AA}{s: Shared}{h': Heap}
def Inv.vz{o:HO}(I:Inv X v4 σ H s)(k:∀b u,b∉ch→s.heap.get? b=some u→h'.get? b=some u)(hf:∀b∈ch,Dq X v4 H b)(ha:s.heap.objs.size≤a)
  (new:cA X.prog X.w (Ac H a o) h' a o):Inv X v4 σ (Ac H a o) {s with heap:=h',toks:=t'}:=by
 let hn:H a=none:=I.cg.fresh ha;let Gk:∀b u,H b=some u→b∉ch:=λb u e z=>by rw[(hf b z).1]at e;cases e
 show I.step (g':=s.gens) (d':=s.drawn) (ch:=ch) (λb hb=>?_) (λb o _ _ hc e _=>k b o hc e) (λb o _ _ hc e _=>⟨o.slots,k b o hc e⟩) (λb o _ e n=>?_)
  (λb o hc e=>⟨o,k b o hc e⟩) (λb xs e=>by rw[BC (Ga e hn)];show e) (λb u v e=>by rw[BC (Ga e hn)];show e) (λb ps e=>⟨#[],by rw[BC (Ga e hn),e];simp⟩) (λm hm=>?_) (λb u e=>?_) I.bare
 ·let⟨f0,f1,f2,f3,f4,f5⟩:=hf b hb
  show⟨f3,f1,f4,f5⟩
 ·rw[BC (Bm (EE (BF e) ha))]
  show n
 ·let⟨o,es,ep,ho,r⟩:=hm
  show Ψ3 o es ep ⟨k _ o (λz=>(hf _ z).2.1 rfl) ho,r⟩
 ·by_cases hb:b=a
  ·subst hb;rw[Bz]at e;cases e;show new
  ·rw[BC hb]at e
   show(I.cg b u e).uT (λc v hc q=>k c v ?_ q) (λc q=>by rw[BC (Ga q hn)];show q) λc xs q=>by rw[BC (Ga q hn)];show q
   rcases hc with z|z
   ·rw[z];show Gk b u e
   ·show Gk c _ z
def Inv.CH(I:Inv X v4 σ H s)(k:∀b u,b∉ch→s.heap.get? b=some u→h'.get? b=some u)(hf:∀b∈ch,Dq X v4 H b):Inv X v4 σ H {s with heap:=h',toks:=t'}:=by
 let Gk:∀b u,H b=some u→b∉ch:=λb u e z=>by rw[(hf b z).1]at e;cases e
 show I.step (g':=s.gens) (d':=s.drawn) (ch:=ch) (λb hb=>?_) (λb o _ _ hc e _=>k b o hc e) (λb o _ _ hc e _=>⟨o.slots,k b o hc e⟩) (λb o _ e n=>n)
  (λb o hc e=>⟨o,k b o hc e⟩) (λb xs e=>e) (λb u v e=>e) (λb ps e=>⟨#[],by rw[e];simp⟩) (λm hm=>?_) (λb u e=>?_) I.bare
 ·let⟨f0,f1,f2,f3,f4,f5⟩:=hf b hb
  show⟨f3,f1,f4,f5⟩
 ·let⟨o,es,ep,ho,r⟩:=hm
  show Ψ3 o es ep ⟨k _ o (λz=>(hf _ z).2.1 rfl) ho,r⟩
 ·show(I.cg b u e).uT (λc v hc q=>k c v ?_ q) (λ_ q=>q) λ_ _ q=>q
  rcases hc with z|z
  ·rw[z];show Gk b u e
  ·show Gk c _ z
end
abbrev YO(c:Nat):V:=.str ⟨#[c]⟩
abbrev NC(x:Str):FT:=⟨λi _=>i<x.cps.size,λi H v H'=>H'=H∧∃c,x.cps[i]?=some c∧v=YO c,λi _=>x.cps.size≤i⟩
def qF{tg:Expr}(it:Addr)(x:Str)(t:Tok)(ty:String)(Ca:ty = "str_ascii_iterator" ∨ ty = "str_iterator"):Turn P w K tg (NC x) [it] it (λi h=>h.IsStrIter it ty x t i) where
 mem:=by simp
 obj:=λi h st b hb=>by
  let e:b=it:=by simpa using hb
  subst e;let⟨o,e,c,d⟩:=st;show⟨o,e,λv z=>by rw[d]at z;cases z⟩
 keep:=λi h h' st k=>by
  let⟨o,e,r⟩:=st;show⟨o,k it (by simp) o e,r⟩
 item:=by
  intro X hP hw hK hc i v4 s σ H E I hf st hg;subst hP hw hK;let⟨f0,f1,f2,f3,f4,f5⟩:=hf it (by simp);let key:∀v h' tk,SignAt x i v→h'.IsStrIter it ty x t (i+1)→(∀b o,b∉[it]→s.heap.get? b=some o→h'.get? b=some o)→∃u,some v=some u∧
    wpAny (model X.prog X.w) X.A (letOwnedTupleGo tg (.ref it) u) (λ_ s2=>∃y H',Inv X v4 σ H' s2∧RelV y u∧(NC x).rK i H y H'∧s2.heap.IsStrIter it ty x t (i+1)∧∀b∈[it],H' b=none) E {s with heap:=h',toks:=tk}:=by
   intro v h' tk hv BB kk;let⟨c,u,HS,rfl⟩:=hv;let I1:Inv X v4 σ H {s with heap:=h',toks:=tk}:=I.turned (λb o hb e=>kk b o (by simpa using hb) e) f0 f1 f3 f4 f5;let⟨o,e,ec,ed⟩:=id BB;show⟨_,rfl,MO (s:={s with heap:=h',toks:=tk}) e ec ed (by rcases Ca with rfl|rfl<;>decide) ⟨YO c,H,I1,⟨u,rfl⟩,⟨rfl,c,HS,rfl⟩,BB,λb hb=>(hf b hb).1⟩⟩
  rcases Ca with rfl|rfl
  ·show(Walks.strAscii (prog:=X.prog) (w:=X.w) (I.ok.hd hc) it x t).item i s _ _ hg st key
  ·show(Walks.strWide (prog:=X.prog) (w:=X.w) (I.ok.hd hc) it x t).item i s _ _ hg st key
 done:=by
  intro X hP hw hK hc i v4 s σ H E I hf st hg;subst hP hw hK;let⟨f0,f1,f2,f3,f4,f5⟩:=hf it (by simp);let hx:x.cps[i]?=none:=Array.getElem?_eq_none hg;rcases Ca with rfl|rfl
  ·show wpAny_pyNext_ascii_end (I.ok.hd hc) st hx λh' eb=>⟨rfl,I.turned (t':=s.toks) (λb o hb e=>eb b o hb e) f0 f1 f3 f4 f5⟩
  ·show wpAny_pyNext_wide_end (I.ok.hd hc) st hx λh' eb=>⟨rfl,I.turned (t':=s.toks) (λb o hb e=>eb b o hb e) f0 f1 f3 f4 f5⟩
 self:=λ_ _ _ _ _ st h=>by
  rcases Ca with rfl|rfl
  ·show wpAny_pyIter_striter_ascii st h
  ·show wpAny_pyIter_striter_wide st h
section
variable {tg: Expr}
abbrev abI(tl:Al):Dc:=λσ H R=>tl σ H λx H1=>∃z,x=.str z∧R (NC z) H1
def qW{l:Expr}{tl:Al}(hl:PE X l tl):PI X tg l (abI tl):=by
 show .mk ?_;intro v4 s σ H R I h;show AQ (hl v4 s σ H _ I h) λv s1 ξ=>Ξ23 ξ λx H1 I1 r1 q1=>?_;let⟨z,e,q⟩:=q1;subst e;let⟨t,rfl⟩:=r1;let fin:∀ty:String,(ty = "str_ascii_iterator" ∨ ty = "str_iterator")→NH X v4 σ tg R (.ref s1.heap.objs.size) {s1 with heap:=s1.heap.push {cls:=.type ty,data:=.fields #[.str z t,.int 0 0]}}:=by
  intro ty Ca;show Ψ5 s1.heap.objs.size [s1.heap.objs.size] _ _ H1 ⟨rfl,I1.kept (t':=s1.toks) λb o e=>B9 _ e,qF s1.heap.objs.size z t ty Ca,⟨_,DP _ rfl,rfl,rfl⟩,λb hb=>?_,q⟩;let e:b=s1.heap.objs.size:=by simpa using hb
  subst e;show I1.zg (Av _) (I1.cg.fresh (Av _))
 cases ha:z.cps.all (· < 128)
 ·show wpAny_pyIter_wide ha (fin _ (.inr rfl))
 ·show wpAny_pyIter_ascii ha (fin _ (.inl rfl))
end
section
variable {prog: Program}{w: World}{A: Around}{E: Value→Shared→Prop}{s: Shared}
def P1{v:Value}(hj:s.heap.IsTupleIter j u i)(hu:s.heap.IsTuple u vs)(hv:vs[i]?=some v)
  (q:∀h',h'.IsTupleIter j u (i+1)→Heap.SameBut j s.heap h'→Q v {s with heap:=h'}):wpAny (model prog w) A (Builtin.SmallTypes.nextOf (.ref j)) Q E s:=by
 let⟨ob,b1,b2,b3⟩:=id hj;let⟨ou,c1,_,⟨nu,c3⟩⟩:=hu;unfold Builtin.SmallTypes.nextOf;show AE (K3 (name:=Str.ofString "__next__") hj.typeIs Q7 (JW Q7 hj.typeIs F.entry_tuple_iterator_next ?_ (F.args_tuple_iterator_next_1 _)));show wpAny _ _ (field (.ref j) 0 >>= _) _ _ s
 show AE (F5 b1 b3 (x:=.ref u) rfl ?_);show wpAny _ _ (if(Value.ref u==Value.none)=true then _ else _) _ _ s
 rw[AV (show ¬((Value.ref u==Value.none)=true)from Cf)];show wpAny _ _ (field (.ref j) 1 >>= _) _ _ s
 show AE (F5 b1 b3 (x:=.int i 0) rfl ?_);show wpAny _ _ (seqItems? (.ref u) >>= _) _ _ s
 show AE (IW c1 c3 ?_);simp only[TL,hv];show AE (wpAny_setField b1 b3 (by simp) (Af ⟨v,rfl,Af (q _ ?_ (To ..))⟩));show⟨_,Heap.get?_update_self _ b1 (Obj.isFreed_of_fields (Obj.data_mapFields b3 _)),(Obj.cls_mapFields ..).trans b2,by rw[Obj.data_mapFields b3];simp[rawInt]⟩
def VV(hh:A.handled=none)(hj:s.heap.IsTupleIter j u i)(hu:s.heap.IsTuple u vs)(hv:vs[i]?=none)
  (q:∀h' e,Heap.ExtBut j s.heap h'→(∃o,h'.get? e=some o∧o.cls=.type "StopIteration")→E (.ref e) {s with heap:=h'}):wpAny (model prog w) A (Builtin.SmallTypes.nextOf (.ref j)) Q E s:=by
 let⟨ob,b1,b2,b3⟩:=id hj;let⟨ou,c1,_,⟨nu,c3⟩⟩:=hu;unfold Builtin.SmallTypes.nextOf;show AE (K3 (name:=Str.ofString "__next__") hj.typeIs Q7 (JW Q7 hj.typeIs F.entry_tuple_iterator_next ?_ (F.args_tuple_iterator_next_1 _)));show wpAny _ _ (field (.ref j) 0 >>= _) _ _ s
 show AE (F5 b1 b3 (x:=.ref u) rfl ?_);show wpAny _ _ (if(Value.ref u==Value.none)=true then _ else _) _ _ s
 rw[AV (show ¬((Value.ref u==Value.none)=true)from Cf)];show wpAny _ _ (field (.ref j) 1 >>= _) _ _ s
 show AE (F5 b1 b3 (x:=.int i 0) rfl ?_);show wpAny _ _ (seqItems? (.ref u) >>= _) _ _ s
 show AE (IW c1 c3 ?_);simp only[TL,hv];show AE (Kn (AE (wpAny_setField b1 b3 (by simp) ?_)));show wpAny _ _ (newExc (.type "StopIteration") [] >>= _) _ _ _
 show AE ?_;simp only[newExc,newTuple];show AE (GP ?_ (by show 0≤sizeLine;show FI _));show AE (m:=firstArgMember _ _) (wpAny_of_eq (a:=Value.none) (by first|rfl|(simp only[firstArgMember]<;>rfl)) ?_)
 show GP ?_ (by size_fits);simp only[raiseNew];show AE (wpAny_handled ?_);first|rw[show A.in1.handled=none from hh]|rw[hh]
 show AE (Af (wpAny_throw ?_));show q _ _ (((To ..).extBut.push _).push _) ⟨_,DP _ rfl,rfl⟩
structure Apart(z p r j1 j2 u1 u2:Addr):Prop where
 pz:p≠z
 rz:r≠z
 LF:j1≠z
 Px:j2≠z
 pr:p≠r
 pj1:p≠j1
 pj2:p≠j2
 Uw:r≠j1
 Uv:r≠j2
 WL:j1≠j2
 Vj:u1≠z
 u1r:u1≠r
 u1j1:u1≠j1
 u1j2:u1≠j2
 Yo:u2≠z
 Yp:u2≠r
 P7:u2≠j1
 u2j2:u2≠j2
def Jw{h h':Heap}(x:h.IsTupleIter a t i)(e:∀o,h.get? a=some o→h'.get? a=some o):h'.IsTupleIter a t i:=let⟨o,ho,r⟩:=x;⟨o,e o ho,r⟩
def vW{r:Addr}{x y a:Value}(D:Apart z p r j1 j2 u1 u2)
  (hz:IsZip s.heap z p r .none) (hp:IsPair s.heap p (.ref j1) (.ref j2)) (hr:IsPair s.heap r a b)
  (h1:s.heap.IsTupleIter j1 u1 i) (h2:s.heap.IsTupleIter j2 u2 i) (l1:s.heap.IsTuple u1 vs) (l2:s.heap.IsTuple u2 ws) (hx:vs[i]?=some x) (hy:ws[i]?=some y)
  (q:∀h',IsZip h' z p r (rawInt s.heap.objs.size)→IsPair h' r x y→h'.IsTupleIter j1 u1 (i+1)→h'.IsTupleIter j2 u2 (i+1)→IsPair h' s.heap.objs.size x y→h'.objs.size=s.heap.objs.size+1→
   (∀c o,c≠z→c≠r→c≠j1→c≠j2→s.heap.get? c=some o→h'.get? c=some o)→Q (.ref s.heap.objs.size) {s with heap:=h'}) :
  wpAny (model prog w) A (Builtin.«zip.__next__» ⟨[.ref z],[]⟩) (λfin s'=>∃v,fin=.done (.ret v)∧Q v s') E s:=by
 show wpAny _ _ (field (.ref z) 2 >>= _) _ _ _
 show AE (F5 hz rfl (x:=.bool false) rfl ?_);show wpAny _ _ (field (.ref z) 3 >>= _) _ _ _
 show AE (F5 hz rfl (x:=.ref p) rfl ?_);show AE (IW hp rfl ?_);show wpAny _ _ (Builtin.SmallTypes.ownedTupleIsFree (.ref z) >>= _) _ _ _
 show AE ?_;unfold Builtin.SmallTypes.ownedTupleIsFree;show AE (F5 hz rfl (x:=.none) rfl (Af ?_));simp only[JB];show AE (Kn ?_);show AE (F5 hz rfl (x:=.ref r) rfl ?_);show AE (wpAny_setField_rec hz (by simp) λg1 z1 e1=>?_)
 replace z1:IsZip g1 z p r .ellipsis:=z1
 show AE ?_;simp only[List.zipIdx_cons,List.zipIdx_nil,NT,O1];show AE (AE (Nj ?_));show wpAny _ _ (Builtin.SmallTypes.nextOf (.ref j1) >>= _) _ _ _
 show AE (P1 (h1.extBut e1.extBut D.LF) (l1.extBut e1.extBut D.Vj) hx λg2 a2 e2=>Af ?_);let r2:IsPair g2 r a b:=e2.extBut _ _ D.Uw (e1.extBut _ _ D.rz hr);show AE (IW r2 rfl ?_);show AE (Um r2 λg3 r3 e3=>?_)
 replace r3:IsPair g3 r x b:=r3
 show AE (wpAny_letGo (Af ?_));show AE (AE (Nj ?_));show wpAny _ _ (Builtin.SmallTypes.nextOf (.ref j2) >>= _) _ _ _
 show AE (P1 (((h2.extBut e1.extBut D.Px).extBut e2.extBut D.WL.symm).extBut e3.extBut D.Uv.symm) (((l2.extBut e1.extBut D.Yo).extBut e2.extBut D.P7).extBut e3.extBut D.Yp) hy λg4 a4 e4=>Af ?_);let r4:IsPair g4 r x b:=e4.extBut _ _ D.Uv r3;show AE (IW r4 rfl ?_);show AE (Um r4 λg5 r5 e5=>?_)
 replace r5:IsPair g5 r x y:=r5
 show AE (wpAny_letGo (Af (Af ?_)));show AE (IW r5 rfl ?_);show AE (wpAny_newTuple ?_);let sz:g5.objs.size=s.heap.objs.size:=by rw[e5.1,e4.1,e3.1,e2.1,e1.1]
 let z5:IsZip g5 z p r .ellipsis:=e5.extBut _ _ D.rz.symm (e4.extBut _ _ D.Px.symm (e3.extBut _ _ D.rz.symm (e2.extBut _ _ D.LF.symm z1)));let k5:∀c o,c≠z→c≠r→c≠j1→c≠j2→s.heap.get? c=some o→g5.get? c=some o:=λc o n1 n2 n3 n4 e=>
  e5.extBut _ _ n2 (e4.extBut _ _ n4 (e3.extBut _ _ n2 (e2.extBut _ _ n3 (e1.extBut _ _ n1 e))))
 let b1:g5.IsTupleIter j1 u1 (i+1):=((a2.extBut e3.extBut D.Uw.symm).extBut e4.extBut D.WL).extBut e5.extBut D.Uw.symm;let b2:g5.IsTupleIter j2 u2 (i+1):=a4.extBut e5.extBut D.Uv.symm;let zl:z<g5.objs.size:=BF z5;show wpAny _ _ (Builtin.SmallTypes.ownedTupleHandOut (.ref z) (.ref g5.objs.size) >>= _) _ _ _
 show AE ?_;unfold Builtin.SmallTypes.ownedTupleHandOut;let z6:IsZip (g5.push {cls:=.type "tuple",data:=.seq #[x,y]}) z p r .ellipsis:=B9 _ z5;show AE (wpAny_setField_rec z6 (by simp) λg7 z7 e7=>?_)
 replace z7:IsZip g7 z p r (rawInt g5.objs.size):=z7
 show wpAny_setField_rec z7 (by simp) λg8 z8 e8=>?_
 replace z8:IsZip g8 z p r (rawInt g5.objs.size):=z8
 let AF:∀c o,c≠z→g5.get? c=some o→g8.get? c=some o:=λc o n1 e=>e8.extBut _ _ n1 (e7.extBut _ _ n1 (B9 _ e));let t8:IsPair g8 g5.objs.size x y:=e8.extBut _ _ (M2 zl) (e7.extBut _ _ (M2 zl) (DP _ rfl));let s8:g8.objs.size=g5.objs.size+1:=by rw[e8.1,e7.1,G6]
 rw[sz]at z8 t8 s8;show Af ⟨_,rfl,?_⟩;show Q (.ref g5.objs.size) _
 rw[sz];show q g8 z8 (AF _ _ D.rz r5) (Jw b1 λo e=>AF _ o D.LF e) (Jw b2 λo e=>AF _ o D.Px e) t8 s8 λc o n1 n2 n3 n4 e=>AF c o n1 (k5 c o n1 n2 n3 n4 e)
def acZ{r:Addr}{a:Value}{Q:Fin→Shared→Prop}(hh:A.handled=none)(D:Apart z p r j1 j2 u1 u2)
  (hz:IsZip s.heap z p r .none) (hp:IsPair s.heap p (.ref j1) (.ref j2)) (hr:IsPair s.heap r a b)
  (h1:s.heap.IsTupleIter j1 u1 i) (h2:s.heap.IsTupleIter j2 u2 i) (l1:s.heap.IsTuple u1 vs) (l2:s.heap.IsTuple u2 ws) (OG:vs[i]?=none∨ws[i]?=none)
  (q:∀h' e,(∀c o,c≠z→c≠r→c≠j1→c≠j2→s.heap.get? c=some o→h'.get? c=some o)→(∃o,h'.get? e=some o∧o.cls=.type "StopIteration")→E (.ref e) {s with heap:=h'}) :
  wpAny (model prog w) A (Builtin.«zip.__next__» ⟨[.ref z],[]⟩) Q E s:=by
 show wpAny _ _ (field (.ref z) 2 >>= _) _ _ _
 show AE (F5 hz rfl (x:=.bool false) rfl ?_);show wpAny _ _ (field (.ref z) 3 >>= _) _ _ _
 show AE (F5 hz rfl (x:=.ref p) rfl ?_);show AE (IW hp rfl ?_);show wpAny _ _ (Builtin.SmallTypes.ownedTupleIsFree (.ref z) >>= _) _ _ _
 show AE ?_;unfold Builtin.SmallTypes.ownedTupleIsFree;show AE (F5 hz rfl (x:=.none) rfl (Af ?_));simp only[JB];show AE (Kn ?_);show AE (F5 hz rfl (x:=.ref r) rfl ?_);show AE (wpAny_setField_rec hz (by simp) λg1 z1 e1=>?_)
 replace z1:IsZip g1 z p r .ellipsis:=z1
 show AE ?_;simp only[List.zipIdx_cons,List.zipIdx_nil,NT,O1];show AE (AE (Nj ?_));show wpAny _ _ (Builtin.SmallTypes.nextOf (.ref j1) >>= _) _ _ _
 cases hx:vs[i]? with
 |none=>
  show AE (VV hh (h1.extBut e1.extBut D.LF) (l1.extBut e1.extBut D.Vj) hx λg2 e e2 he=>?_);let⟨oe,OH,J9⟩:=he;let z2:IsZip g2 z p r .ellipsis:=e2 _ _ D.LF.symm z1;let Wt:e≠z:=λx=>by subst x;rw[z2]at OH;cases OH;simp at J9
  show wpAny_setField_rec z2 (by simp) λg3 _ e3=>q g3 e (λc o n1 _ n3 _ x=>e3.extBut _ _ n1 (e2 _ _ n3 (e1.extBut _ _ n1 x))) ⟨oe,e3.extBut _ _ Wt OH,J9⟩
 |some x=>
  have hy:ws[i]?=none:=by rcases OG with h|h;rw[hx]at h;cases h;show h
  show AE (P1 (h1.extBut e1.extBut D.LF) (l1.extBut e1.extBut D.Vj) hx λg2 a2 e2=>Af ?_);let r2:IsPair g2 r a b:=e2.extBut _ _ D.Uw (e1.extBut _ _ D.rz hr);show AE (IW r2 rfl ?_);show AE (Um r2 λg3 r3 e3=>?_);show AE (wpAny_letGo (Af ?_));show AE (AE (Nj ?_));show wpAny _ _ (Builtin.SmallTypes.nextOf (.ref j2) >>= _) _ _ _
  show AE (VV hh (((h2.extBut e1.extBut D.Px).extBut e2.extBut D.WL.symm).extBut e3.extBut D.Uv.symm) (((l2.extBut e1.extBut D.Yo).extBut e2.extBut D.P7).extBut e3.extBut D.Yp) hy λg4 e e4 he=>?_);let⟨oe,OH,J9⟩:=he;let z4:IsZip g4 z p r .ellipsis:=e4 _ _ D.Px.symm (e3.extBut _ _ D.rz.symm (e2.extBut _ _ D.LF.symm z1));let Wt:e≠z:=λx=>by subst x;rw[z4]at OH;cases OH;simp at J9
  show wpAny_setField_rec z4 (by simp) λg5 _ e5=>q g5 e (λc o n1 n2 n3 n4 x=>e5.extBut _ _ n1 (e4 _ _ n4 (e3.extBut _ _ n2 (e2.extBut _ _ n3 (e1.extBut _ _ n1 x))))) ⟨oe,e5.extBut _ _ Wt OH,J9⟩
end
abbrev QM(K:W.Frag)(a b:Addr):FT:=
  ⟨λi H=>∃xs ys x y,eJ K H a xs∧eJ K H b ys∧xs[i]?=some x∧ys[i]?=some y,
   λi H v H'=>∃p x y,H p=none∧v=.ref p∧H'=Ac H p (.tup [x,y])∧(∀xs,eJ K H a xs→xs[i]?=some x)∧(∀ys,eJ K H b ys→ys[i]?=some y),
   λi H=>∃xs ys,eJ K H a xs∧eJ K H b ys∧(xs.length≤i∨ys.length≤i)⟩
def t9{elts:List Expr}{kk:Nat}(a b z p r j1 j2:Addr)(D:Apart z p r j1 j2 a b):
  Turn P w K (.Tuple elts kk pos) (QM K a b) [z,p,r,j1,j2] z (λi h=>IsZip h z p r .none∧IsPair h p (.ref j1) (.ref j2)∧(∃u v,IsPair h r u v)∧h.IsTupleIter j1 a i∧h.IsTupleIter j2 b i) where
 mem:=by simp
 obj:=λi h st c hc=>by
  let⟨hz,hp,⟨u,v,hr⟩,⟨o1,e1,_,d1⟩,⟨o2,e2,_,d2⟩⟩:=st;simp only[aaf,CD,DH]at hc;rcases hc with rfl|rfl|rfl|rfl|rfl
  ·show⟨_,hz,λv z=>by have z':Data.fields _=Data.cell v:=z;cases z'⟩
  ·show⟨_,hp,λv z=>by have z':Data.seq _ _=Data.cell v:=z;cases z'⟩
  ·show⟨_,hr,λv z=>by have z':Data.seq _ _=Data.cell v:=z;cases z'⟩
  ·show⟨o1,e1,λv z=>by rw[d1]at z;cases z⟩
  ·show⟨o2,e2,λv z=>by rw[d2]at z;cases z⟩
 keep:=λi h h' st k=>by
  let⟨hz,hp,⟨u,v,hr⟩,h1,h2⟩:=st;show⟨k z (by simp) _ hz,k p (by simp) _ hp,Ψ2 u v (k r (by simp) _ hr),Jw h1 λo e=>k j1 (by simp) o e,Jw h2 λo e=>k j2 (by simp) o e⟩
 item:=by
  intro X hP hw hK hc i v4 s σ H E I hf st hg;subst hP hw hK;let⟨hz,hp,⟨u,v,hr⟩,h1,h2⟩:=st;let⟨xs,ys,x,y,Dw,Py,hx,hy⟩:=hg;let⟨aV,rv,pl,_⟩:=I.tuple Dw;let⟨oH,yy,wK,_⟩:=I.tuple Py;let⟨Ck,ex,rx⟩:=rv.get hx;let⟨vy,ey,ry⟩:=yy.get hy;let hT:s.TypeIs (.ref z) "zip" :=⟨_,hz,rfl⟩;let n0:H s.heap.objs.size=none:=I.cg.fresh (Av _);unfold pyNext;show AE (wpAny_attempt (K3 (name:=Str.ofString "__next__") hT Ny (JW Ny hT F.entry_zip_next
   (vW D hz hp hr h1 h2 pl wK (by simpa using ex) (by simpa using ey) λg a1 a2 a3 a4 a5 a6 a7=>Af ?_) (F.args_zip_next_1 _))))
  show⟨_,rfl,?_⟩;show wpAny_letOwnedTupleGo_zip a1 λg2 b1 b2=>?_;let zl:z<s.heap.objs.size:=BF hz;let lt:∀c∈[z,p,r,j1,j2],c<s.heap.objs.size:=λc hc=>by
   simp only[aaf,CD,DH]at hc;let⟨_,q1,_⟩:=h1;let⟨_,q2,_⟩:=h2;rcases hc with rfl|rfl|rfl|rfl|rfl
   ·show zl
   ·show BF hp
   ·show BF hr
   ·show BF q1
   ·show BF q2
  show Ψ2 (.ref s.heap.objs.size) (Ac H s.heap.objs.size (.tup [x,y])) ⟨?_,rfl,Ψ3 _ x y ⟨n0,rfl,rfl,λzs Sw=>by rw[I.m6 Sw Dw];show hx,λzs Sw=>by rw[I.m6 Sw Py];show hy⟩,⟨b1,?_,Ψ2 Ck vy ?_,?_,?_⟩,λc hc=>?_⟩
  ·show I.vz (t':=s.toks) (ch:=[z,r,j1,j2]) (λc o hc e=>?_) (λc hc=>hf c ?_) (Av _) ⟨by show 2≤sizeLine;decide,[Ck,vy],.cons rx (.cons ry .nil),?_⟩
   ·simp only[aaf,CD,DH,not_or]at hc
    show b2.extBut _ _ hc.1 (a7 c o hc.1 hc.2.1 hc.2.2.1 hc.2.2.2 e)
   ·simp only[aaf,CD,DH]at hc ⊢
    rcases hc with rfl|rfl|rfl|rfl<;>simp
   ·show⟨_,b2.extBut _ _ (M2 zl) a5,rfl,0,rfl⟩
  ·show b2.extBut _ _ D.pz (a7 _ _ D.pz D.pr D.pj1 D.pj2 hp)
  ·show b2.extBut _ _ D.rz a2
  ·show a3.extBut b2.extBut D.LF
  ·show a4.extBut b2.extBut D.Px
  ·rw[BC (Bm (lt c hc))]
   show(hf c hc).1
 done:=by
  intro X hP hw hK hc i v4 s σ H E I hf st hg;subst hP hw hK;let⟨hz,hp,⟨u,v,hr⟩,h1,h2⟩:=st;let⟨xs,ys,Dw,Py,he⟩:=hg;let⟨aV,rv,pl,_⟩:=I.tuple Dw;let⟨oH,yy,wK,_⟩:=I.tuple Py;let l1:=rv.length;let l2:=yy.length;let OG:aV.toArray[i]?=none∨oH.toArray[i]?=none:=he.imp (λe=>by simp;lia) (λe=>by simp;lia);let hT:s.TypeIs (.ref z) "zip" :=⟨_,hz,rfl⟩;unfold pyNext;show AE (wpAny_attempt (K3 (name:=Str.ofString "__next__") hT Ny (JW Ny hT F.entry_zip_next
   (acZ (I.ok.hd hc) D hz hp hr h1 h2 pl wK OG λg e kk he=>?_) (F.args_zip_next_1 _))))
  let⟨o,ho,Xn⟩:=he;show AE (wpAny_isInstance (T := "StopIteration") (b:=true) ⟨o,ho,Xn⟩ isSubtype_stop ?_);show Af ⟨rfl,I.CH (t':=s.toks) (ch:=[z,r,j1,j2]) (λc o hc e=>?_) (λc hc=>hf c ?_)⟩
  ·simp only[aaf,CD,DH,not_or]at hc
   show kk c o hc.1 hc.2.1 hc.2.2.1 hc.2.2.2 e
  ·simp only[aaf,CD,DH]at hc ⊢
   rcases hc with rfl|rfl|rfl|rfl<;>simp
 self:=λ_ _ _ _ _ st h=>wpAny_pyIter_zip st.1 h
@[reducible]def N7(h:Heap)(a:Addr):Heap:=h.push {cls:=.type "tuple_iterator",data:=.fields #[.ref a,.int 0 0]}
@[reducible]def QC(h:Heap)(a b:Addr):Heap:=(N7 h a).push {cls:=.type "tuple_iterator",data:=.fields #[.ref b,.int 0 0]}
@[reducible]def P0(h:Heap)(a b:Addr):Heap:=(QC h a b).push {cls:=.type "tuple",data:=.seq #[.ref h.objs.size,.ref (N7 h a).objs.size]}
@[reducible]def Nh(h:Heap)(a b:Addr):Heap:=(P0 h a b).push {cls:=.type "tuple",data:=.seq #[.none,.none]}
@[reducible]def Kv(h:Heap)(a b:Addr):Heap:=(Nh h a b).push {cls:=.type "zip",data:=.fields #[.none,.bool false,.bool false,.ref (QC h a b).objs.size,.ref (P0 h a b).objs.size]}
def wR(a b:Addr)(vs ws:Array Value):
  Meets (Builtin.«zip.__new__» ⟨[.type "zip",.ref a,.ref b],[]⟩) (λ_ R s=>s.heap.IsTuple a vs∧s.heap.IsTuple b ws∧R (.ok (.ret (.ref (Nh s.heap a b).objs.size))) {s with heap:=Kv s.heap a b}):=
 .of_wp λprog w A R s h=>by
  obtain⟨hp,g,d,tk,os⟩:=s;obtain⟨la,lb,h⟩:=h;let W2:=sub_zip;let L1:Heap.IsTuple (Shared.heap ⟨hp,g,d,tk,os⟩) a vs:=la;let L2:Heap.IsTuple (Shared.heap ⟨hp.push {cls:=.type "tuple_iterator",data:=.fields #[.ref a,.int 0 0]},g,d,tk,os⟩) b ws:=Heap.IsTuple.push lb _
  wp_walk using L0 L1,L0 L2
  show⟨_,rfl,h⟩
def oS{b:Addr}(la:s.heap.IsTuple a vs)(lb:s.heap.IsTuple b ws)
  (q:∀h',IsZip h' (s.heap.objs.size+4) (s.heap.objs.size+2) (s.heap.objs.size+3) .none→IsPair h' (s.heap.objs.size+2) (.ref s.heap.objs.size) (.ref (s.heap.objs.size+1))→
   IsPair h' (s.heap.objs.size+3) .none .none→h'.IsTupleIter s.heap.objs.size a 0→h'.IsTupleIter (s.heap.objs.size+1) b 0→(∀c o,s.heap.get? c=some o→h'.get? c=some o)→Q (.ref (s.heap.objs.size+4)) {s with heap:=h'}) :
  wpAny (model prog w) A (call (.type "zip") [.ref a,.ref b]) Q E s:=by
 show callType_new F.called_zip (by decide) (F.typeCall_zip_2 _ _) (F.newCall_zip_2 _ _) (λobj=>F.args_object_init_3 obj _ _) F.entry_zip_new (wR a b vs ws) ⟨la,lb,?_⟩;let z1:(N7 s.heap a).objs.size=s.heap.objs.size+1:=G6 ..;let z2:(QC s.heap a b).objs.size=s.heap.objs.size+2:=by rw[G6,z1]
 let z3:(P0 s.heap a b).objs.size=s.heap.objs.size+3:=by rw[G6,z2]
 let z4:(Nh s.heap a b).objs.size=s.heap.objs.size+4:=by rw[G6,z3]
 let g5:(Kv s.heap a b).get? (Nh s.heap a b).objs.size=some _:=DP _ rfl;let g4:(Kv s.heap a b).get? (P0 s.heap a b).objs.size=some _:=B9 _ (DP _ rfl);let g3:(Kv s.heap a b).get? (QC s.heap a b).objs.size=some _:=B9 _ (B9 _ (DP _ rfl));let g2:(Kv s.heap a b).get? (N7 s.heap a).objs.size=some _:=B9 _ (B9 _ (B9 _ (DP _ rfl)));let g1:(Kv s.heap a b).get? s.heap.objs.size=some _:=B9 _ (B9 _ (B9 _ (B9 _ (DP _ rfl))));show _∧_
 rw[z2,z3,z4]at g5;rw[z1,z2]at g3;rw[z3]at g4;rw[z1]at g2;rw[z4];show⟨⟨_,g5,rfl⟩,q _ g5 g3 g4 ⟨_,g1,rfl,rfl⟩ ⟨_,g2,rfl,rfl⟩ λc o x=>B9 _ (B9 _ (B9 _ (B9 _ (B9 _ x))))⟩
def apart_new{n b:Addr}(ha:a<n)(hb:b<n):Apart (n+4) (n+2) (n+3) n (n+1) a b:=by
 let ne:∀i j:Nat,i≠j→(Nat.add n i:Addr)≠Nat.add n j:=λi j h e=>h (Nat.add_left_cancel e);let lo:∀(c:Addr) (i:Nat),c<n→c≠Nat.add n i:=λc i h=>Bm (EE h (Nat.le_add_right n i));show⟨ne 2 4 (by decide),ne 3 4 (by decide),ne 0 4 (by decide),ne 1 4 (by decide),ne 2 3 (by decide),ne 2 0 (by decide),ne 2 1 (by decide),ne 3 0 (by decide),ne 3 1 (by decide),ne 0 1 (by decide),
  lo a 4 ha,lo a 3 ha,lo a 0 ha,lo a 1 ha,lo b 4 hb,lo b 3 hb,lo b 0 hb,lo b 1 hb⟩
section
variable {elts: List Expr}{kk: Nat}{wq: Pos}
abbrev qr(K:W.Frag)(ta:CY):Dc:=λσ H R=>ta σ H λvs H1=>∃a b xs ys,vs=[.ref a,.ref b]∧eJ K H1 a xs∧eJ K H1 b ys∧R (QM K a b) H1
def fW{a b:Expr}{ta:CY}{p:Pos}(hg:CF X "zip")(hm:X.mg "zip" = none)(ha:PA X [a,b] ta)(hs:starEach [a,b] X.env=[(false,eval a X.env),(false,eval b X.env)]:=by rfl)(sT:starEach [b] X.env=[(false,eval b X.env)]:=by rfl):
  PI X (.Tuple elts kk wq) (.Call (.Name "zip" p) [a,b] [] pos) (qr X.K ta):=by
 show .mk ?_;intro v4 s σ H R I h;show Call_ (KP I hg hm boot_zip (MP (AQ (ha pos v4 s σ H _ I h) λus s1 ξ=>Ξ23 ξ λvs H1 I1 r1 q1=>?_) (by rw[hs,sT]) (by rw[sT];rfl)));let⟨u1,u2,xs,ys,e,hx,hy,q⟩:=q1;subst e;cases r1 with
 |cons r rr=>
  cases rr with
  |cons r' rr=>
   cases rr;cases r;cases r';let⟨aV,rv,pl,_⟩:=I1.tuple hx;let⟨oH,yy,wK,_⟩:=I1.tuple hy;let⟨o1,e1,_⟩:=id pl;let⟨o2,e2,_⟩:=id wK;show oS pl wK λh' hz hp hr j1 j2 k=>?_;show wpAny_pyIter_zip hz ?_;show Ψ5 (s1.heap.objs.size+4) [s1.heap.objs.size+4,s1.heap.objs.size+2,s1.heap.objs.size+3,s1.heap.objs.size,s1.heap.objs.size+1] _ _ H1 ⟨rfl,I1.kept (t':=s1.toks) k,t9 u1 u2 _ _ _ _ _ (apart_new (BF e1) (BF e2)),⟨hz,hp,Ψ2 _ _ hr,j1,j2⟩,λc hc=>?_,q⟩;let HS:s1.heap.objs.size≤c:=by
    simp only[aaf,CD,DH]at hc;rcases hc with rfl|rfl|rfl|rfl|rfl<;>first|show Av _|show Nat.le_add_right _ _
   show I1.zg HS (I1.cg.fresh HS)
end
end L2
namespace L2
open PySem PySem.Spec PyProof.Rows
variable {prog P:Program}{w:World}{A:Around}{s:Shared}{scope: Scope}{pos:Pos}{X: Cx}{cl: List (Str×Addr)}{own: List Str}{cap: List (Nat×Str)}
def vO(elt target iter:Expr)(ifs:List Expr)(scope:Scope)(pos:Pos)(it acc:Value)(env:Env):
  compTurn (.SetComp elt [⟨target,iter,ifs,0⟩] scope pos) 0 it acc env=(do
   standAt iter.pos
   match ←pyNext it with
   |none=>pure (.done .next)
   |some v=>
    letOwnedTupleGo target it v
    assign target env v
    let mut ok:=true
    for c in ifs do
     if ok then ok ←isTrue c env (eval c env)
    if ok then
     (do let v ←eval elt env;standAt elt.pos;let _ ←call (.builtin "set.add") [acc,v])
    again (.compLoop (.SetComp elt [⟨target,iter,ifs,0⟩] scope pos) 0 it acc env)):=by rfl
def cG{R:Result→Shared→Prop}{elt target iter ifs v6 scope pos it acc env}
  (h0:codeAny (model prog w) A (.compLoop (.SetComp elt (⟨target,iter,ifs,0⟩::v6) scope pos) 0 it acc env) R s)
  (h:wpAny (model prog w) A (pyIter it) (λWM s'=>codeAny (model prog w) A (.compLoop (.SetComp elt (⟨target,iter,ifs,0⟩::v6) scope pos) 0 WM acc env) R s')
   (notedBy (model prog w) A env λx s'=>R (.error x) s') s) :
  codeAny (model prog w) A (.compStart (.SetComp elt (⟨target,iter,ifs,0⟩::v6) scope pos) 0 it acc env) R s:=by
 show codeAny_of_tree ?_;show wpAny _ _ ((compStart (.SetComp elt (⟨target,iter,ifs,0⟩::v6) scope pos) 0 it acc env).onRaise (λx=>do noteFrame x env;standAt theWindowsPlace)) _ _ s
 show wpAny_notedAt ?_;unfold compStart;show wpAny _ _ (ask >>= _) _ _ s
 show AE (wpAny_askSetting (wpAny_ite ?_));split
 ·first
   |show AE (Af (Af (And.intro rfl h0)))
   |show Af (And.intro rfl h0)
 ·first
   |show AE (Kn (AE (IK (AE (Bt h (λWM s' h'=>Af (And.intro rfl h')) λ_ _ x=>x)))))
   |(show AE (Kn ?_);show wpAny _ _ (standAt iter.pos >>= _) _ _ s;show AE (IK (AE (Bt h (λWM s' h'=>Af (And.intro rfl h')) λ_ _ x=>x))))
def eY{R:Result→Shared→Prop}{elt target iter:Expr}{scope:Scope}{it acc:Value}{env:Env}(I:Nat→Shared→Prop)
  (turn:∀n s,I n s→wpAny (model prog w) A (pyNext it) (λr s₁=>match r with
   |none=>R (.ok .next) s₁
   |some v=>wpAny (model prog w) A (letOwnedTupleGo target it v) (λ_ EM=>wpAny (model prog w) A (assign target env v) (λ_ s₂=>
      wpAny (model prog w) A (eval elt env) (λx s₄=>
       wpAny (model prog w) A (call (.builtin "set.add") [acc,x]) (λ_ s₅=>∃m,m<n∧I m s₅) (notedBy (model prog w) A env λe s'=>R (.error e) s') s₄) (notedBy (model prog w) A env λe s'=>R (.error e) s') s₂) (notedBy (model prog w) A env λe s'=>R (.error e) s') EM) (notedBy (model prog w) A env λe s'=>R (.error e) s') s₁) (notedBy (model prog w) A env λe s'=>R (.error e) s') s)
  (n:Nat) (h:I n s) :
  codeAny (model prog w) A (.compLoop (.SetComp elt [⟨target,iter,[],0⟩] scope pos) 0 it acc env) R s:=by
 show Pu rfl I (λn s hI=>?_) n h;show wpAny _ A ((compTurn (.SetComp elt [⟨target,iter,[],0⟩] scope pos) 0 it acc env).onRaise (λx=>do noteFrame x env;theTreesLotGoes x)) _ _ s
 show wpAny_noted ?_;rw[vO];show AE (IK (AE (Bt (turn n s hI) (λr s₁ h₁=>?_) λ_ _ h'=>h')));cases r with
 |none=>show Af h₁
 |some v=>
  show AE (Bt h₁ (λ_ EM Ox=>?_) λ_ _ h'=>h');show AE (Bt Ox (λ_ s₂ h₂=>AE (wpAny_tests_nil ?_)) λ_ _ h'=>h');show AE (AE (Bt h₂ (λx s₄ h₄=>AE (IK (AE (Bt h₄ (λ_ s₅ h₅=>Af (Af ⟨rfl,h₅⟩)) λ_ _ h'=>h')))) λ_ _ h'=>h'))
abbrev setAt(P:Program)(w:World)(a:Addr)(S:Str→Bool)(n:Nat):Heap→Prop:=λh=>h.SetOf (strKind P w) a S n
def iC{H:AA}{h:Heap}{a:Addr}{S:Str→Bool}{n:Nat}(q:h.SetOf (strKind P w) a S n):cA P w H h a (.ext (setAt P w a S n)):=by
 show⟨q,?_,λh1 h2 q1 k=>?_⟩
 ·let⟨o,_,_,_,e,_⟩:=q
  show⟨o,e⟩
 ·let⟨o,es,ep,t,e,r⟩:=q1
  show Ψ4 o es ep t ⟨k o e,r⟩
section
variable {v4: List (Addr×Obj)}{σ: St}{H: AA}{s: Shared}{fp: List Addr}{E: Value→Shared→Prop}
def QL{o:HO}(c:dB X scope cl own cap)(I:Inv X v4 σ H s)(hf:∀b∈fp,Dq X v4 H b)(eQ:∀b∈fp,b<s.heap.objs.size){h₁:Heap}{tk:Nat}{m:KK}
  (hk:∀b o,s.heap.get? b=some o→h₁.get? b=some o) (OD:cA X.prog X.w (Ac H s.heap.objs.size o) h₁ s.heap.objs.size o) (hn:h₁.Ns (s.heap.objs.size+1) m) :
  Inv (Ba X (own++cap.map (·.2)) scope cl (s.heap.objs.size+1) s H fp E) [] (Fn own cap σ) (Ac H s.heap.objs.size o) {s with heap:=h₁,toks:=tk}:=by
 let J8:H s.heap.objs.size=none:=I.fresh;let OE:H (s.heap.objs.size+1)=none:=I.cg.fresh (CE _);show⟨Gi c I hf eQ (CE _),rfl,I.bare,Un.laid hk (Av _) J8,⟨m,hn,λi x v e1 e2 _=>?_⟩,λx a e=>?_,?_,λx a e=>?_,λp hp=>absurd (show p∈([]:ac)from hp) (by simp),I.cg.laid hk (Av _) OD,?_⟩
 ·let⟨p,hp,ex,es⟩:=aN e1 e2
  let⟨q1,q2,q3,q4,q5⟩:=c.KC p hp;rw[ex]at q1 q2 q3 q4 q5;let⟨m',Xd,hl⟩:=I.loc;let⟨u,r,l⟩:=hl p.1 x v q1 es q2;show⟨u,r,?_⟩;rcases l with l|⟨k,a,e,z⟩
  ·show absurd l.1 q3
  ·let⟨a',e'⟩:=c.OJ x q5
   let ea:=c.sub x a' e';rw[e]at ea;cases ea;show .inr ⟨q5,a,e',z.keeps hk⟩
 ·let⟨v,z⟩:=I.cell x a (c.sub x a e)
  show⟨v,z.keeps hk⟩
 ·show Ac H s.heap.objs.size o (s.heap.objs.size+1)=none
  rw[BC (TN _)];show OE
 ·let⟨v,z⟩:=I.cell x a (c.sub x a e)
  show Ac H s.heap.objs.size o a=none
  rw[BC (Bm z.lt)];show I.jy x a (c.sub x a e)
 ·show(Fn own cap σ).length=(own++cap.map (·.2)).length
  simp[Fn]
end
abbrev more(S:Str→Bool)(n:Nat)(k:Str):Nat:=if S k then n else n+1
abbrev dv(P:Program)(w:World)(wi:Dc)(g:Dv)(te:Al)(own:List Str)(cap:List (Nat×Str)):Al:=λσ H Q=>wi σ H λJ H1=>∀D,H1 D=none→
 ∃W:Nat→Nat→St→(Str→Bool)→Nat→AA→Prop,(∃m,W 0 m (Fn own cap σ) (λ_=>false) 0 (Ac H1 D (.ext (setAt P w D (λ_=>false) 0))))∧∀i m σ' S n H',W i m σ' S n H'→H' D=some (.ext (setAt P w D S n))∧
  ((J.stop i H'∧Q (.ref D) H')∨(J.go i H'∧n<1000∧∃N:St→(Str→Bool)→Nat→AA→Prop,(∀σ S n H,N σ S n H→∃m',m' < m∧W (i+1) m' σ S n H)∧∀x H2,J.rK i H' x H2→g x σ' H2 λσ3 H3=>te σ3 H3 λy H5=>∃k,y=.str k∧H5 D=some (.ext (setAt P w D S n))∧
   N σ3 (λk'=>S k'||decide (k'=k)) (more S n k) (Ac H5 D (.ext (setAt P w D (λk'=>S k'||decide (k'=k)) (more S n k))))))
section
variable {tg iter elt: Expr}{wi: Dc}{g: Dv}{te: Al}{pos: Pos}
def vZ(c:dB X scope cl own cap)(hc:X.calm=true)(hi:PI X tg iter wi)
  (hg:∀C s H fp,PG (Ba X (own++cap.map (·.2)) scope cl C s H fp λ_ _=>False) tg g)
  (he:∀C s H fp,PE (Ba X (own++cap.map (·.2)) scope cl C s H fp λ_ _=>False) elt te) (hs:∀x,foldedSetIterable iter X.env x=pure x:=by intro _;rfl) :
  PE X (.SetComp elt [⟨tg,iter,[],0⟩] scope pos) (dv X.prog X.w wi g te own cap):=by
 show .mk ?_;intro v4 s σ H Q I h;show wpAny _ X.A (comprehension (.SetComp elt [⟨tg,iter,[],0⟩] scope pos) scope X.env _ (newSet (.type "set")) false (eval iter X.env)) _ _ s
 show LM (use:=none) rfl hs c.zt c.kind c.names (AQ (hi v4 s σ H _ I h) λv s1 h1=>AQ h1 λLG s2 h2=>?_);let⟨it,fp,tn,J,H2,e,I2,T,qm,f2,hw⟩:=h2;subst e;show wpAny_newSet_of (knd:=strKind X.prog X.w) λled hS=>MG c.cell (by intro y hy;simp at hy) (λh₁ jx iZ=>?_) c.kind;dsimp only at jx iZ ⊢;generalize hO:({cls:=.type "set",dict:=none,data:=.set #[] 0 (.fresh 0 0 led)}:Obj)=O at hS jx iZ ⊢;let hsz:(s2.heap.push O).objs.size=s2.heap.objs.size+1:=G6 _ _;let kk:∀b o,s2.heap.get? b=some o→h₁.get? b=some o:=λb o e=>iZ.extBut b o (by rw[hsz];show Bm (Iz (BF e))) (B9 _ (B9 _ e));let OK:h₁.SetOf (strKind X.prog X.w) s2.heap.objs.size (λ_=>false) 0:=by
  let⟨o,es,ep,t,e,r⟩:=hS;show Ψ4 o es ep t ⟨iZ.extBut _ _ (by rw[hsz];show Bm (JT _)) (B9 _ e),r⟩
 rw[hsz]at jx ⊢;let eQ:∀b∈fp,b<s2.heap.objs.size:=λb hb=>by
  let⟨o,e,_⟩:=T.obj _ _ qm b hb;show BF e
 let⟨W,⟨m0,w0⟩,turn⟩:=hw s2.heap.objs.size I2.fresh;let J1:=QL (E:=λ_ _=>False) c I2 f2 eQ (tk:=s2.toks+([]:List (Str×Value)).length) kk (iC OK) jx;generalize fP:Ba X (own++cap.map (·.2)) scope cl (s2.heap.objs.size+1) s2 H2 fp (λ_ _=>False)=X' at J1;let J7:PG X' tg g:=fP ▸ hg _ _ _ _;let SY:PE X' elt te:=fP ▸ he _ _ _ _;let pX:X'.prog=X.prog:=by rw[←fP];rfl
 let wX:X'.w=X.w:=by rw[←fP];rfl
 let kX:X'.K=X.K:=by rw[←fP];rfl
 let aX:X'.A=X.A:=by rw[←fP];rfl
 let cX:X'.calm=true:=by rw[←fP];show hc
 let Cj:X'.env=compEnvC scope cl (s2.heap.objs.size+1) X.env:=by rw[←fP];rfl
 let xX:X'.xe=λ_ _=>False:=by rw[←fP];rfl
 let fX:∀b∈fp,∀{H':AA},H' b=none→Dq X' [] H' b:=λb hb {H'} hn=>by
  let o1:=(Gi (E:=λ_ _=>False) c I2 f2 eQ (C:=s2.heap.objs.size+1) (CE _)).HX b hb;let o2:=(Gi (E:=λ_ _=>False) c I2 f2 eQ (C:=s2.heap.objs.size+1) (CE _)).sE b hb;rw[←fP];show⟨hn,o1.1,o2,.inl hb,o1.2,λp hp=>absurd (show p∈([]:ac)from hp) (by simp)⟩
 let Kb:∀D C s' H' m,Inv X v4 σ H' s'→Dq X v4 H' C→s'.heap.Ns C m→Q (.ref D) H'→compPost (model X.prog X.w) X.A X.xe none (Bw X v4 σ Q) (.ref D) C (.ok .next) s':=by
  intro D C s' H' m I' hC hm q;show⟨m,hm,λh' i0=>Ψ2 (.ref D) H' ⟨?_,rfl,q⟩⟩;show I'.turned (t':=s'.toks) (λb o hb e=>(i0.2 b hb).trans e) hC.1 hC.2.1 hC.2.2.2.1 hC.2.2.2.2.1 hC.2.2.2.2.2
 let fin:∀{σ':St} {H':AA} {s':Shared},Inv X' [] σ' H' s'→Q (.ref s2.heap.objs.size) H'→compPost (model X.prog X.w) X.A X.xe none (Bw X v4 σ Q) (.ref s2.heap.objs.size) (s2.heap.objs.size+1) (.ok .next) s':=λ{σ' H' s'} J' q=>by
  rw[←fP]at J';let⟨A1,A2⟩:=Ms I2 f2 (CE _) J';let⟨m,hm,_⟩:=J'.loc;show Kb _ _ s' H' m A1 A2 hm q
 let loop:codeAny (model X.prog X.w) X.A (.compLoop (.SetComp elt [⟨tg,iter,[],0⟩] scope pos) 0 (.ref it) (.ref s2.heap.objs.size) (compEnvC scope cl (s2.heap.objs.size+1) X.env)) (compPost (model X.prog X.w) X.A X.xe none (Bw X v4 σ Q) (.ref s2.heap.objs.size) (s2.heap.objs.size+1))
   {s2 with heap:=h₁,toks:=s2.toks+([]:List (Str×Value)).length}:=by
  show eY (λn s'=>∃i σ' S z H',Inv X' [] σ' H' s'∧tn i s'.heap∧(∀b∈fp,H' b=none)∧W i n σ' S z H') ?_ m0
   ⟨0,_,_,0,_,J1,T.keep _ _ _ qm λb _ o e=>kk b o e,λb hb=>by rw[BC (Bm (eQ b hb))];show(f2 b hb).1,w0⟩
  intro n s3⟨i,σ3,S,z,H3,I3,yq,zf,w3⟩;let⟨PH,w4⟩:=turn i n σ3 S z H3 w3;rw[←Cj,←aX,←pX,←wX];let jI:∀{α:Type} {t:Sem α} {Q1:α→Shared→Prop} {E1:xz} {s:Shared},wpAny (model X'.prog X'.w) X'.A t Q1 X'.xe s→wpAny (model X'.prog X'.w) X'.A t Q1 E1 s:=λ{α t Q1 E1 s} h=>by
   rw[xX]at h;show Bt h (λ_ _ q=>q) λ_ _ f=>f.elim
  rcases w4 with⟨stop,qn⟩|⟨go,hz,N,hN,step⟩
  ·let d:=T.done X' pX wX kX cX i [] s3 σ3 H3 X'.xe I3 (λb hb=>fX b hb (zf b hb)) yq stop
   rw[←pX,←wX]at d;show jI (AQ d λr s4 ξ=>Ξ02 ξ λhr I4=>?_);subst hr;let f4:=fin I4 qn;rw[←pX,←wX,←aX]at f4;show f4
  ·let d:=T.item X' pX wX kX cX i [] s3 σ3 H3 X'.xe I3 (λb hb=>fX b hb (zf b hb)) yq go
   rw[←pX,←wX]at d;show jI (AQ d λr s4 ξ=>Ξ12 ξ λu hr h4=>?_);subst hr;show jI (AQ h4 λ_ s5 ξ=>Ξ25 ξ λx H5 I5 r5 y5 tI G4=>?_);let HG:=I5.pinned (λb hb=>fX b hb (G4 b hb)) (T.obj _ _ tI);let again:∀{σ7:St} {H7:AA} {s7:Shared} {S':Str→Bool} {z':Nat},Inv X' ([]++Im fp s5.heap) σ7 H7 s7→N σ7 S' z' H7→
     ∃m,m<n∧∃i σ' S z H',Inv X' [] σ' H' s7∧tn i s7.heap∧(∀b∈fp,H' b=none)∧W i m σ' S z H':=λ{σ7 H7 s7 S' z'} I7 n7=>by
    let⟨m',hm,w7⟩:=hN _ _ _ _ n7;show⟨m',hm,i+1,σ7,S',z',H7,I7.iM,T.keep _ _ _ tI λb hb o e=>(I7.pin (b,o) (D2 _ (D2 _ (Gy hb e)))).1,λb hb=>?_,w7⟩;let⟨o,e,d⟩:=T.obj _ _ tI b hb;show(I7.pin (b,o) (D2 _ (D2 _ (Gy hb e)))).2.1
   show jI (AQ (J7 _ s5 σ3 H5 x u _ HG r5 (step x H5 y5)) λ_ s6 ξ=>Ξ22 ξ λσ6 H6 I6 q6=>?_);show jI (AQ (SY _ s6 σ6 H6 _ I6 q6) λu8 s8⟨y8,H8,I8,r8,k8,e8,d8,q8⟩=>?_);subst e8;let⟨t8,rfl⟩:=r8;let Wj:=(I8.cg _ _ d8).1;let ok9:s8.heap.SetOf (strKind X'.prog X'.w) s2.heap.objs.size S z:=by rw[pX,wX];show Wj
   show jI (call_set_add (k:=k8) (knd:=strKind X'.prog X'.w) (by show Value.isStrOf k8 (.str k8 t8)=true;simp[Value.isStrOf]) rfl ok9 (D3 (Nat.succ_le_of_lt hz) (by decide)) λh' W3 PF=>?_);show again (I8.write (x:=s2.heap.objs.size) (e:=s2.heap.objs.size) (o:=.ext (setAt X.prog X.w s2.heap.objs.size (λk'=>S k'||decide (k'=k8)) (more S z k8))) (by rw[d8];show trivial) (.inl rfl) (λb' u hb hu=>(W3.2 b' hb).trans hu) ?_ ?_) q8
   ·let⟨o,_,_,_,e,_⟩:=PF
    show⟨o,e⟩
   ·rw[←pX,←wX]
    show iC PF
 show cG loop (T.self X.A 0 _ _ _ (T.keep _ _ _ qm λb _ o e=>kk b o e) loop)
def zr:EK X (.builtin "len") (λxs H Q=>∃(p:Addr) (S:Str→Bool) (n:Nat),xs=[.ref p]∧H p=some (.ext (setAt X.prog X.w p S n))∧Q (.int n) H):=by
 intro v4 s σ H vs us Q I rv h;let⟨p,S,n,rfl,hp,q⟩:=h;let⟨u,rfl,ru⟩:=rv.one;cases ru;let⟨o,es,ep,t,e,ex,d,hel,hm,hb,hf,hn⟩:=(I.cg p _ hp).1;let hb':es.size<4096:=hb;show call_len_set e ex d hf (by lia) ⟨.int n,H,I.tok _,⟨s.toks+1,by rw[hn]⟩,q⟩
end
section
def uv:JK X "str.upper" (λx vs H Q=>∃z:Str,x=.str z∧vs=[]∧z.length≤1000∧∀y:Str,y.length≤3*z.length→Q (.str y) H):=by
 intro v4 s σ H x vs v us Q I rx rv h;let⟨z,rfl,rfl,hz,q⟩:=h;let⟨t,rfl⟩:=rx;cases rv;let hl:=PyProof.Rows.len_upper z;let hf:Builtin.Str.tooLong (Txt.upper z).length=false:=PyProof.Rows.fit_upper (by lia);show call_givesAt F.slot_str_upper (LO s z t) F.entry_str_upper (F.args_str_upper_1 _) (P:=λ_=>True) (Gives.at (gives_str_upper z t hf)) trivial ⟨fit_le hf,.str (Txt.upper z),H,I.tok _,⟨_,rfl⟩,q _ hl⟩
def wI(hc:X.calm=true):EK X (.builtin "max") (λxs H Q=>∃(p:Addr) (ns:List Int),xs=[.ref p]∧lG X.K H p (ns.map V.int)∧ns≠[]∧Q (.int (F7 ns)) H):=by
 intro v4 s σ H xs us Q I r h;let⟨p,ns,rfl,hq,Xc,q⟩:=h;let⟨u,rfl,ru⟩:=vals1 r;cases ru;let⟨aV,rv,pl,hz⟩:=I.list hq;let hi:=intsAre_of rv;let⟨xs,Dw⟩:=hi.allInts.items;let hn:numsOf aV=ns:=hi.numsOf;let hl:s.heap.IsList p (intItems xs):=by rw[←Dw];show pl.isList
 let⟨o,ho,_⟩:=id hl;let eQ:p<s.heap.objs.size:=BF ho;let hlen:0<(intItems xs).size:=by
  rw[←Dw,Bf,←rv.length,Ag];show List.length_pos_iff.mpr Xc
 show call_max_walk (O5 hl ?_);show Ψ7 s.heap.objs.size _ _ _ _ _ _ ⟨rfl,Walks.list (prog:=X.prog) (w:=X.w) (A:=X.A.in1) (I.ok.hd hc) s.heap.objs.size p (Bm eQ) (intItems xs),⟨⟨_,DP _ rfl,rfl,rfl⟩,hl.at λo e=>B9 _ e⟩,λb hb=>?_,hlen,CmpOf.ints_gt (numAt xs) (λ_ _=>intItems_at),λv h' tk hP hk=>?_⟩
 ·rcases aaf.mp hb with rfl|hb
  ·show BF (DP _ rfl)
  ·obtain rfl:=aam.mp hb
   show BF (B9 _ ho)
 ·let⟨t,rfl⟩:=intItems_at hP
  let e3:(intItems xs).size=xs.size:=by simp[intItems]
  let⟨h1,h2⟩:=argBest_gt (numAt xs) ((intItems xs).size-1);let e:numsOf (intItems xs).toList=ns:=by rw[←Dw];show hn
  rw[nums_intItems]at e;let Q4:numAt xs (argBest (λi j=>decide (numAt xs i>numAt xs j)) ((intItems xs).size-1))∈ns:=by
   rw[←e,numAt_eq];show getD_mem (by rw[Ag,Ig];lia)
  let ix:∀b∈ns,b≤numAt xs (argBest (λi j=>decide (numAt xs i>numAt xs j)) ((intItems xs).size-1)):=λb hb=>by
   rw[←e]at hb;let⟨j,hj,rfl⟩:=mem_getD hb;rw[Ag,Ig]at hj;rw[←numAt_eq];show h2 j (by lia)
  show Ψ2 (.int (F7 ns)) H ⟨I.kept (Qi hk),⟨t,by rw[yd Q4 ix]⟩,q⟩
end
def Ya(hh:A.handled=none)(it l:Addr)(Xc:l≠it)(items:Array Value):
  Draws prog w A it [it,l] items.size (λi v=>items[i]?=some v) (λi h=>h.IsTupleIter it l i∧h.IsTuple l items) where
 live:=λ_ _ st=>let⟨o,ho,_⟩:=st.1;⟨o,ho⟩
 frame:=λ_ _ _ st hk=>⟨Jw st.1 λo e=>hk it (by simp) o e,st.2.at λo e=>hk l (by simp) o e⟩
 item:=λi s Q E hi st hQ=>by
  show P1 st.1 st.2 (v:=items[i]) (by simp[hi]) λh' Xh i0=>?_;show hQ _ h' s.toks (by simp[hi]) ⟨Xh,st.2.extBut i0.extBut Xc⟩ i0
 done:=λs Q E st hE=>VV hh st.1 st.2 (by simp) hE
abbrev T3(K:W.Frag)(a:Addr):FT:=
  ⟨λi H=>∃xs x,eJ K H a xs∧xs[i]?=some x,
   λi H v H'=>∃p x,H p=none∧v=.ref p∧H'=Ac H p (.tup [.int i,x])∧(∀xs,eJ K H a xs→xs[i]?=some x),
   λi H=>∃xs,eJ K H a xs∧xs.length=i⟩
def tg0{K:W.Frag}{elts:List Expr}{kk:Nat}(a e it:Addr)(Xk:e≠it)(hae:a≠e)(ZG:a≠it):
  Turn P w K (.Tuple elts kk pos) (T3 K a) [e,it] e (λi h=>(∃old,IsEnum h e it i old)∧h.IsTupleIter it a i) where
 mem:=by simp
 obj:=λi h st c hc=>by
  let⟨⟨old,he⟩,⟨o1,e1,_,d1⟩⟩:=st;simp only[aaf,CD,DH]at hc;rcases hc with rfl|rfl
  ·show⟨_,he,λv z=>by have z':Data.fields _=Data.cell v:=z;cases z'⟩
  ·show⟨o1,e1,λv z=>by rw[d1]at z;cases z⟩
 keep:=λi h h' st k=>by
  let⟨⟨old,he⟩,h1⟩:=st;show⟨⟨old,k e (by simp) _ he⟩,Jw h1 λo q=>k it (by simp) o q⟩
 item:=by
  intro X hP hw hK hc i v4 s σ H E I hf st hg;subst hP hw hK;let⟨⟨old,he⟩,h1⟩:=st;let⟨xs,x,Dw,hx⟩:=hg;let⟨aV,rv,pl,_⟩:=I.tuple Dw;let⟨Ck,ex,rx⟩:=rv.get hx;let n0:H s.heap.objs.size=none:=I.cg.fresh (Av _);let hi:i<aV.toArray.size:=by
   have:=(aba.mp ex).1;simpa using this
  show wpAny_pyNext_enum_itemD (Ya (prog:=X.prog) (w:=X.w) (A:=X.A.in1) (I.ok.hd hc) it a ZG aV.toArray) he ⟨h1,pl⟩ hi Xk (by simp[Xk,hae.symm]) λv h' tk hv ho i0 ht hsz kk=>?_;let hvx:v=Ck:=by
   let Dx:aV[i]?=some v:=by simpa using hv
   rw[ex]at Dx;show(FE Dx).symm
  subst hvx;show⟨_,rfl,wpAny_letOwnedTupleGo_enum ho λg2 J9 sT=>?_⟩;let el:e<s.heap.objs.size:=BF he;let il:it<s.heap.objs.size:=by let⟨_,q,_⟩:=h1;show BF q
  show Ψ2 (.ref s.heap.objs.size) (Ac H s.heap.objs.size (.tup [.int i,x])) ⟨?_,rfl,Ψ2 _ x ⟨n0,rfl,rfl,λzs Sw=>by rw[I.m6 Sw Dw];show hx⟩,⟨⟨v,?_⟩,?_⟩,λc hc=>?_⟩
  ·show I.vz (t':=tk+1) (ch:=[e,it]) (λc o hc q=>?_) (λc hc=>hf c hc) (Av _) ⟨by show 2≤sizeLine;decide,[.int i tk,v],.cons ⟨tk,rfl⟩ (.cons rx .nil),?_⟩
   ·simp only[aaf,CD,DH,not_or]at hc
    show(sT.2 c hc.1).trans (kk c o hc.1 hc.2 q)
   ·show⟨_,(sT.2 _ (M2 el)).trans ht,rfl,0,rfl⟩
  ·have:((i+1:Nat):Int)=(i:Int)+1:=by lia
   rw[this];show J9
  ·show Jw i0.1 λo q=>(sT.2 it Xk.symm).trans q
  ·have:c<s.heap.objs.size:=by
    simp only[aaf,CD,DH]at hc;rcases hc with rfl|rfl
    ·show el
    ·show il
   rw[BC (Bm this)];show(hf c hc).1
 done:=by
  intro X hP hw hK hc i v4 s σ H E I hf st hg;subst hP hw hK;let⟨⟨old,he⟩,h1⟩:=st;let⟨xs,Dw,hl⟩:=hg;let⟨aV,rv,pl,_⟩:=I.tuple Dw;let l1:=rv.length;let ei:i=aV.toArray.size:=by simp;lia
  subst ei;show wpAny_pyNext_enum_endD (Ya (prog:=X.prog) (w:=X.w) (A:=X.A.in1) (I.ok.hd hc) it a ZG aV.toArray) he ⟨h1,pl⟩ λh' hx=>⟨rfl,?_⟩;let⟨f0,f1,f2,f3,f4,f5⟩:=hf it (by simp);show I.turned (t':=s.toks) (λb o hb q=>hx b o hb q) f0 f1 f3 f4 f5
 self:=λ_ _ _ _ _ st h=>by
  let⟨⟨old,he⟩,_⟩:=st;show wpAny_pyIter_enum he h
def aaw(l:Addr)(items:Array Value)(n:Nat)(dct:Option Addr)(sl:Array (Option Value)):
  Meets (Builtin.«enumerate.__new__» ⟨[.type "enumerate",.ref l],[]⟩) (λ_ R s=>s.heap.get? l=some {cls:=.type "tuple",dict:=dct,data:=.seq items n,slots:=sl}∧
   R (.ok (.ret (.ref (s.heap.push {cls:=.type "tuple_iterator",data:=.fields #[.ref l,.int 0 0]}).objs.size)))
    {s with heap:=(s.heap.push {cls:=.type "tuple_iterator",data:=.fields #[.ref l,.int 0 0]}).push {cls:=.type "enumerate",data:=.fields #[.none,.bool false,.ref s.heap.objs.size,rawInt 0,.none,.none]}}):=
 .of_wp λprog w A R s h=>by
  obtain⟨hp,g,d,tk,os⟩:=s;obtain⟨hl,h⟩:=h;let W2:=sub_enumerate;let hL:Heap.IsTuple (Shared.heap ⟨hp,g,d,tk,os⟩) l items:=⟨_,hl,rfl,n,rfl⟩
  wp_walk using Oi hl
  show wpAny_stack_any λst=>Af ?_;split
  ·rename_i c _ _ _ _ _
   cases(c==Value.type "enumerate")
   ·wp_walk using Oi hl,L0 hL
    show⟨_,rfl,h⟩
   ·wp_walk using Oi hl,L0 hL
    show⟨_,rfl,h⟩
  ·wp_walk using Oi hl,L0 hL
   show⟨_,rfl,h⟩
def yn{E:xz}{l:Addr}{items:Array Value}{Q:xz}(hL:s.heap.IsTuple l items)
  (h:∀h',IsEnum h' (s.heap.objs.size+1) s.heap.objs.size 0 .none→h'.IsTupleIter s.heap.objs.size l 0→(∀b o,s.heap.get? b=some o→h'.get? b=some o)→Q (.ref (s.heap.objs.size+1)) {s with heap:=h'}) :
  wpAny (model prog w) A (call (.type "enumerate") [.ref l]) Q E s:=by
 obtain⟨⟨c,dct,dt,sl⟩,hl,hc,n,hd⟩:=hL
 replace hc:c=.type "tuple" := hc
 replace hd:dt=.seq items n:=hd
 subst hc hd;show callType_new F.called_enumerate (by decide) (F.typeCall_enumerate_1 _) (F.newCall_enumerate_1 _) (λobj=>F.args_object_init_2 obj _) F.entry_enumerate_new
  (aaw l items n dct sl) ⟨hl,?_⟩
 let hz:(s.heap.push {cls:=.type "tuple_iterator",data:=.fields #[.ref l,.int 0 0]}).objs.size=s.heap.objs.size+1:=G6 ..;show _∧_
 rw[hz];let he:IsEnum ((s.heap.push {cls:=.type "tuple_iterator",data:=.fields #[.ref l,.int 0 0]}).push
   {cls:=.type "enumerate",data:=.fields #[.none,.bool false,.ref s.heap.objs.size,rawInt 0,.none,.none]}) (s.heap.objs.size+1) s.heap.objs.size 0 .none:=by
  have:=DP (s.heap.push {cls:=.type "tuple_iterator",data:=.fields #[.ref l,.int 0 0]})
   (o:={cls:=.type "enumerate",data:=.fields #[.none,.bool false,.ref s.heap.objs.size,rawInt 0,.none,.none]}) rfl
  rw[hz]at this;show this
 show⟨⟨_,he,rfl⟩,h _ he ⟨_,B9 _ (DP _ rfl),rfl,rfl⟩ λb o y=>B9 _ (B9 _ y)⟩
section
variable {elts: List Expr}{kk: Nat}{wq: Pos}
abbrev yT(K:W.Frag)(ta:CY):Dc:=λσ H R=>ta σ H λvs H1=>∃(a:Addr) (xs:List V),vs=[.ref a]∧eJ K H1 a xs∧R (T3 K a) H1
def acI{a:Expr}{ta:CY}{p:Pos}(hg:CF X "enumerate")(hm:X.mg "enumerate" = none)(ha:PA X [a] ta)(hs:starEach [a] X.env=[(false,eval a X.env)]:=by rfl):
  PI X (.Tuple elts kk wq) (.Call (.Name "enumerate" p) [a] [] pos) (yT X.K ta):=by
 show .mk ?_;intro v4 s σ H R I h;show Call_ (KP I hg hm boot_enumerate (MP (AQ (ha pos v4 s σ H _ I h) λus s1 ξ=>Ξ23 ξ λvs H1 I1 r1 q1=>?_) hs rfl));let⟨u1,xs,e,hx,q⟩:=q1;subst e;cases r1 with
 |cons r rr=>
  cases rr;cases r;let⟨aV,rv,pl,_⟩:=I1.tuple hx;let⟨o1,e1,_⟩:=id pl;let l1:=BF e1;show yn pl λh' he hi k=>?_;show wpAny_pyIter_enum he ?_;show Ψ5 (s1.heap.objs.size+1) [s1.heap.objs.size+1,s1.heap.objs.size] _ _ H1 ⟨rfl,I1.kept (t':=s1.toks) k,tg0 u1 _ _ (TN _) (Bm (Iz l1)) (Bm l1),⟨⟨.none,he⟩,hi⟩,λc hc=>?_,q⟩;let HS:s1.heap.objs.size≤c:=by
   simp only[aaf,CD,DH]at hc;rcases hc with rfl|rfl
   ·show CE _
   ·show Av _
  show I1.zg HS (I1.cg.fresh HS)
end
section
def aa6(hu:X.A.units<cLine):jB X (compareOp .Eq) (λx y H Q=>∃a b xs,x=.ref a∧y=.ref b∧lG X.K H a xs∧lG X.K H b []∧Q (.bl xs.isEmpty) H):=by
 intro v4 s σ H x y v u Q I rx ry h;let⟨a,b,xs,rfl,rfl,ha,hb,q⟩:=h;cases rx;cases ry;let⟨aV,rv,pl,hz⟩:=I.list ha;let⟨oH,yy,wK,Sy⟩:=I.list hb;cases yy;cases xs with
 |nil=>
  cases rv;show SeqAt.eq_listAt (e:=λ_=>true) pl.isList wK.isList rfl hu (λj h1 _=>absurd h1 (by simp)) ⟨.bl true,H,I,rfl,q⟩
 |cons x r=>
  cases rv with
  |cons r1 r2=>show SeqAt.eq_list_lengthsAt pl.isList wK.isList (by simp) hu ⟨.bl false,H,I,rfl,q⟩
end
abbrev kF(H:AA)(P:Addr)(q:Str)(pos:Pos):Prop:=H P=some (.tbl #[])∨∃(c':Addr) (oc:Obj) (vs:Array Value) (t:Tok) (u:HO),
 H P=some (.tbl #[rawInt pos.line,rawInt pos.col,.ref c'])∧H c'=some (.frz oc u)∧oc.data=.fields vs∧vs[1]?=some (.str q t)
end L2
namespace L2
open PySem PySem.Spec PyProof.Rows
variable {K:W.Frag}{X: Cx}
abbrev Ro(lo c:Int)(n:Nat):FT:=⟨λi _=>i<n,λi H x H'=>H'=H∧x=.int (lo+(i:Int)*c),λi _=>n≤i⟩
def vI{P:Program}{w:World}{tg:Expr}(it:Addr)(lo c:Int)(n:Nat):Turn P w K tg (Ro lo c n) [it] it (λi h=>IsRangeIter h it (lo+(i:Nat)*c) ((n:Int)-(i:Nat)) c) where
 mem:=by simp
 obj:=λi h st b hb=>by
  let e:b=it:=by simpa using hb
  subst e;show⟨_,st,λv z=>by
   let z':Data.fields _=Data.cell v:=z;cases z'⟩
 keep:=λi h h' st k=>k it (by simp) _ st
 item:=by
  intro X hP hw hK hc i v4 s σ H E I hf st hg;subst hP hw hK;let⟨f0,f1,f2,f3,f4,f5⟩:=hf it (by simp);let W:=Walks.range (prog:=X.prog) (w:=X.w) (I.ok.hd hc) it lo c n;show W.item i s _ _ hg st λv h' tk hv BB kk=>?_;let⟨t,rfl⟩:=hv;let I1:Inv X v4 σ H {s with heap:=h',toks:=tk}:=I.turned (λb o hb e=>kk b o (by simpa using hb) e) f0 f1 f3 f4 f5;show⟨_,rfl,MO (s:={s with heap:=h',toks:=tk}) (n := "range_iterator") BB rfl rfl (by decide) ⟨.int (lo+(i:Int)*c),H,I1,⟨t,rfl⟩,⟨rfl,rfl⟩,BB,λb hb=>(hf b hb).1⟩⟩
 done:=by
  intro X hP hw hK hc i v4 s σ H E I hf st hg;subst hP hw hK;let⟨f0,f1,f2,f3,f4,f5⟩:=hf it (by simp);show wpAny_pyNext_range_end (I.ok.hd hc) st (by have:n≤i:=hg;lia) λh' eb=>⟨rfl,I.turned (t':=s.toks) (λb o hb e=>eb b o hb e) f0 f1 f3 f4 f5⟩
 self:=λ_ _ _ _ _ st h=>wpAny_pyIter_rangeiter st h
section
variable {tg: Expr}
abbrev sV(ta:CY):Dc:=λσ H R=>ta σ H λvs H1=>∃(i j c:Int) (n:Nat),vs=[.int i,.int j,.int c]∧(c=2∨c=-1)∧-(2^30)≤i∧i<2^30∧-(2^30)≤j∧j<2^30∧Builtin.Range.rangeSize i j c=(n:Int)∧R (Ro i c n) H1
def aaJ{i j c:Int}{n:Nat}(hc:c=2∨c=-1)(h1:-(2^30)≤i)(h2:i<2^30)(h3:-(2^30)≤j)(h4:j<2^30)(hn:Builtin.Range.rangeSize i j c=(n:Int)):Builtin.Range.small i j c=true:=by
 let hs:(n:Int)≤2^32:=by
  rw[←hn];unfold Builtin.Range.rangeSize;rcases hc with rfl|rfl
  ·rw[Aa (by decide)]
   split<;>lia
  ·rw[AV (by decide),show(- (-1:Int))=1 from rfl,QI]
   split<;>lia
 unfold Builtin.Range.small Builtin.Range.rangeFitsLong;rw[hn];rcases hc with rfl|rfl
 ·simp
  lia
 ·simp
  lia
def adm{a b c:Expr}{ta:CY}{p pos:Pos}(hg:CF X "range")(hm:X.mg "range" = none)(ha:PA X [a,b,c] ta)(hs:starEach [a,b,c] X.env=[(false,eval a X.env),(false,eval b X.env),(false,eval c X.env)]:=by rfl)(sT:starEach [b,c] X.env=[(false,eval b X.env),(false,eval c X.env)]:=by rfl):
  PI X tg (.Call (.Name "range" p) [a,b,c] [] pos) (sV ta):=by
 show .mk ?_;intro v4 s σ H R I h;show Call_ (KP I hg hm boot_range (MP (AQ (ha pos v4 s σ H _ I h) λus s1 ξ=>Ξ23 ξ λvs H1 I1 r1 q1=>?_) (by rw[hs,sT]) (by rw[sT];rfl)));let⟨i,j,c',n,e,hc,b1,b2,b3,b4,hn,q⟩:=q1;subst e;cases r1 with
 |cons r rr=>
  cases rr with
  |cons r' rr=>
   cases rr with
   |cons r'' rr=>
    cases rr;let⟨t,rfl⟩:=r;let⟨t',rfl⟩:=r';let⟨MH,rfl⟩:=r'';show call_range_3 (by rcases hc with rfl|rfl<;>decide) ?_ (.inl ?_)
    ·show wpAny_pyIter_range (IsRange.new ..) (aaJ hc b1 b2 b3 b4 hn) ?_
     let I2:Inv X v4 σ H1 {s1 with heap:=s1.heap.push {cls:=.type "range",data:=.fields #[.int i t,.int j t',.int c' MH]}}:=I1.kept (t':=s1.toks) λb o e=>B9 _ e;show Ψ5 ((s1.heap.push {cls:=.type "range",data:=.fields #[.int i t,.int j t',.int c' MH]}).objs.size) ([(s1.heap.push {cls:=.type "range",data:=.fields #[.int i t,.int j t',.int c' MH]}).objs.size]) _ _ H1 ⟨rfl,I2.kept (t':=s1.toks) λb o e=>B9 _ e,vI _ i c' n,?_,λb hb=>?_,q⟩
     ·let e1:i+((0:Nat):Int)*c'=i:=by simp
      let e2:((n:Nat):Int)-((0:Nat):Int)=Builtin.Range.rangeSize i j c':=by rw[hn];lia
      show IsRangeIter _ _ (i+((0:Nat):Int)*c') (((n:Nat):Int)-((0:Nat):Int)) c'
      rw[e1,e2];show DP _ rfl
     ·let e:b=(s1.heap.push {cls:=.type "range",data:=.fields #[.int i t,.int j t',.int c' MH]}).objs.size:=by simpa using hb
      subst e;show I2.zg (Av _) (I2.cg.fresh (Av _))
    ·show bD ?_
     rcases hc with rfl|rfl<;>decide
end
section
def ads:EK X (.type "int") (λxs H Q=>∃b:Bool,xs=[.bl b]∧Q (.int (if b=true then 1 else 0)) H):=by
 intro v4 s σ H xs us Q I r h;let⟨b,rfl,q⟩:=h;let⟨u,rfl,rx⟩:=vals1 r;cases rx;show call_int_1 (meets_int_new_bool b) ?_;show⟨typeIs_int _ _ _,.int _,H,I.tok _,⟨_,rfl⟩,q⟩
abbrev fo(K:W.Frag)(a:Addr)(xs:List V):Prop:=∃(o:Obj) (aV:Array Value) (n:Nat),K.lookup a=some o∧o.cls=.type "tuple" ∧ o.data=.seq aV n∧aV.size≤sizeLine∧Vals xs aV.toList
def fo.sq{H:AA}{a:Addr}{xs:List V}(h:fo K a xs):eJ K H a xs:=.inr h
end
end L2
namespace L2
open PySem PySem.Spec PyProof.Rows
variable {ss:List Str}{n:Nat}
abbrev oz(P:Program)(w:World)(K:W.Frag)(mg:KK)(base:Heap)(C:Addr)(m:Str)(k:Nat)(ps:List Str)(sp:EI):Prop:=
 ∃f fd,bq P w K mg base Ax k f fd ps sp∧qX K C∧Meth K C m f∧Binds K fd ps []
abbrev zY(P:Program)(w:World)(K:W.Frag)(mg:KK)(base:Heap)(C:Addr)(k:Nat)(ps:List Str)(sp:EI):Prop:=
 ∃f fd,bq P w K mg base Ax k f fd ps sp∧PZ K C f∧Binds K fd ps []
abbrev S(l:List Nat):Str:=⟨l.toArray⟩
def xT(l:List Nat):(S l).length=l.length:=by simp[S,Str.length]
abbrev mU(ss:List Str)(S:Str→Bool)(n:Nat):Prop:=(∀k,S k=true↔k∈ss)∧((ss.Nodup∧n=ss.length)∨(¬ss.Nodup∧n<ss.length))
def mU.nil:mU [] (λ_=>false) 0:=⟨λk=>by simp,.inl ⟨VM,rfl⟩⟩
def mU.le{S:Str→Bool}(h:mU ss S n):n≤ss.length:=by
 rcases h.2 with⟨_,h⟩|⟨_,h⟩<;>lia
def mU.snoc{S:Str→Bool}{k:Str}(h:mU ss S n):mU (ss++[k]) (λk'=>S k'||decide (k'=k)) (more S n k):=by
 let⟨h1,h2⟩:=h;show⟨λk'=>by rw[Nu,IX,h1 k',aaK,aam],?_⟩;let e:(ss++[k]).Nodup↔ss.Nodup∧k∉ss:=by
  rw[aa9];constructor
  ·intro⟨a,_,b⟩
   show⟨a,λm=>b k m k (by simp) rfl⟩
  ·intro⟨a,b⟩
   show⟨a,by simp,λx hx y hy e=>b ?_⟩;rw[aam]at hy;rw[←hy,←e];show hx
 rw[e,B3];show(_∧(if S k=true then n else n+1)=_)∨(_∧(if S k=true then n else n+1)<_)
 by_cases c:S k=true
 ·rw[Aa c]
  let m:=(h1 k).mp c;rcases h2 with⟨a,b⟩|⟨a,b⟩
  ·show .inr ⟨λz=>z.2 m,by rw[b];show JT _⟩
  ·show .inr ⟨λz=>z.2 m,Iz b⟩
 ·rw[AV c]
  let m:k∉ss:=λz=>c ((h1 k).mpr z);rcases h2 with⟨a,b⟩|⟨a,b⟩
  ·show .inl ⟨⟨a,m⟩,by rw[b];rfl⟩
  ·show .inr ⟨λz=>a z.1,Nat.succ_lt_succ b⟩
section
variable {X: Cx}
def xw:V9 X (λx H Q=>∃z:Str,x=.str z∧z.length≤sizeLine∧∀y:Str,y.length≤z.length→(∀c∈y.cps.toList,c∈z.cps.toList)→Q (.str y) H):=by
 intro v4 s σ H x v vs sl Q I rx hs ps h;let⟨z,rfl,hz,q⟩:=h;let⟨t,rfl⟩:=rx;show Ψ2 ("str") _ ⟨F.slot_str_getitem.lookup,LO _ z t,?_⟩;let⟨o,h1,h2,h3⟩:=hs;cases ps with
 |int j t'=>
  show wpAny_getItem_str_slice (l:=none) (u:=none) (st:=some (-1,t')) ⟨o,h1,h2,h3⟩ rfl ?_;unfold sliceMade slicePicked;show(if((-1:Int)==1&&(Builtin.Str.strSliceIndices none none (-1) z.length).length==z.length)=true then Made.val (.str z t)else .str ⟨((Builtin.Str.strSliceIndices none none (-1) z.length).filterMap (z.cps[·]?)).toArray⟩).post _ _
  rw[AV (by rw[show((-1:Int)==1)=false from rfl,CZ];show Cf)];let hl:(Str.mk ((Builtin.Str.strSliceIndices none none (-1) z.length).filterMap (z.cps[·]?)).toArray).length≤z.length:=by
   show((Builtin.Str.strSliceIndices none none (-1) z.length).filterMap (z.cps[·]?)).toArray.size≤z.length
   rw[Bf];show Ci (List.length_filterMap_le _ _) ?_;rw[picked_rev,Ag,OY];show Av _
  show⟨Ci hl hz,.str _,H,I.tok _,⟨_,rfl⟩,q _ hl λc hc=>?_⟩;let hc:c∈(Builtin.Str.strSliceIndices none none (-1) z.length).filterMap (z.cps[·]?):=by simpa using hc
  let⟨i,_,e⟩:=abV.mp hc;show Array.mem_toList_iff.mpr (Array.mem_of_getElem? e)
end
abbrev wtA:=St→AA→(St→AA→Prop)→Prop
end L2
namespace L2
open PySem PySem.Spec PyProof.Rows
variable {o:Option V}{u:Value}{y:V}{P:Program}{w:World}{H H':AA}{aF:List (List AI×V)}{xs:List (List AI×Addr×Value)}{a: Addr}{Q:xz}{h':Heap}{A: Around}{E: Value→Shared→Prop}{s: Shared}{X: Cx}{v4: List (Addr×Obj)}{σ: St}{r: Value}
section
variable {κ: Type}[DecidableEq κ]
abbrev Ej(aF:List (κ×V))(k:κ):Option V:=(aF.find? λkv=>decide (kv.1=k)).map (·.2)
abbrev putK(aF:List (κ×V))(k:κ)(v:V):List (κ×V):=
 if(aF.any λkv=>decide (kv.1=k))=true then aF.map (λkv=>if kv.1=k then(kv.1,v)else kv)else aF++[(k,v)]
def Ov{p:κ×V}{r:List (κ×V)}{k:κ}(e:p.1=k):Ej (p::r) k=some p.2:=by simp[Ej,Hf,e]
def Lp{p:κ×V}{r:List (κ×V)}{k:κ}(e:¬p.1=k):Ej (p::r) k=Ej r k:=by simp[Ej,Hf,e]
def Yb(k:κ):∀aF:List (κ×V),(aF.any λkv=>decide (kv.1=k))=(Ej aF k).isSome
 |[]=>rfl
 |p::r=>by
  rw[Jg];by_cases e:p.1=k
  ·simp only[Ov e,BE e,Bool.true_or,Option.isSome_some]
  ·rw[Lp e,CA e,UY];show Yb k r
def Q8(aF:List (κ×V))(k:κ)(v:V):(putK aF k v).length≤aF.length+1:=by
 unfold putK;split
 ·rw[Ag];lia
 ·rw[B3,D7,List.length_nil];lia
def lH.ka{u:Option Value}(r:lH o u):o.isSome=u.isSome:=by
 cases o with
 |none=>cases u with
  |none=>rfl
  |some _=>show(show False from r).elim
 |some _=>cases u with
  |none=>show(show False from r).elim
  |some _=>rfl
def lH.getD{u:Option Value}{d:V}{d':Value}(r:lH o u)(rd:RelV d d'):RelV (o.getD d) (u.getD d'):=by
 cases o with
 |none=>cases u with
  |none=>show rd
  |some _=>show(show False from r).elim
 |some _=>cases u with
  |none=>show(show False from r).elim
  |some _=>show r
def KV.val{aF:List (κ×V)}{vs:List (κ×Value)}(r:KV aF vs)(k:κ):lH (Ej aF k) (valueAt vs k):=by
 unfold KV at r;induction r with
 |nil=>show True.intro
 |@cons p q ps qs h t ih=>
  let⟨h1,h2⟩:=h;by_cases e:p.1=k
  ·let e':q.1=k:=h1.symm.trans e
   let b:valueAt (q::qs) k=some q.2:=by simp[valueAt,Hf,e']
   rw[Ov e,b];show h2
  ·let e':¬q.1=k:=λz=>e (h1.trans z)
   let b:valueAt (q::qs) k=valueAt qs k:=by simp[valueAt,Hf,e']
   rw[Lp e,b];show ih
def KV.any{aF:List (κ×V)}{vs:List (κ×Value)}(r:KV aF vs)(k:κ):(aF.any λkv=>decide (kv.1=k))=vs.any λkv=>decide (kv.1=k):=by
 unfold KV at r;induction r with
 |nil=>rfl
 |cons h t ih=>rw[Jg,Jg,ih,h.1]
def KV.M7{aF:List (κ×V)}{vs:List (κ×Value)}(r:KV aF vs)(k:κ)(ry:RelV y u):
  KV (aF.map λkv=>if kv.1=k then(kv.1,y)else kv) (vs.map λkv=>if kv.1=k then(kv.1,u)else kv):=by
 unfold KV at r ⊢;induction r with
 |nil=>show .nil
 |@cons p q ps qs h t ih=>
  rw[CT,CT];show .cons ?_ ih;let⟨h1,h2⟩:=h;by_cases e:p.1=k
  ·rw[Aa e,Aa (h1.symm.trans e)];show⟨h1,ry⟩
  ·rw[AV e,AV (λz=>e (h1.trans z))];show⟨h1,h2⟩
def KV.put{aF:List (κ×V)}{vs:List (κ×Value)}(r:KV aF vs)(k:κ)(ry:RelV y u):KV (putK aF k y) (stored vs k u):=by
 unfold putK stored;rw[r.any k];by_cases e:(vs.any λkv=>decide (kv.1=k))=true
 ·rw[Aa e,Aa e];show r.M7 k ry
 ·rw[AV e,AV e];show Paired.snoc r ⟨rfl,ry⟩
def KV.length{aF:List (κ×V)}{vs:List (κ×Value)}(r:KV aF vs):aF.length=vs.length:=QS r
end
def GV{k:AI}(r:RelV (BV k) u):(Ai P w).is k u=true:=by
 cases k with
 |inl i=>let⟨t,e⟩:=(show ∃t,u=Value.int i t from r);subst e;show zX P w i t
 |inr x=>let⟨t,e⟩:=(show ∃t,u=Value.str x t from r);subst e;show Rm P w x t
def bj{P:Program}{w:World}:∀{ks:List AI} {us:List Value},Vals (ks.map BV) us→ItemsAre (Ai P w) ks us
 |[],_,r=>by rw[GD]at r;cases r;show .nil
 |k::ks,_,r=>by
  rw[CT]at r;cases r with
  |cons h t=>show .cons (GV h) (bj t)
@[reducible]def KT(H:AA):List (List AI×V)→List (List AI×Addr×Value)→Prop:=Paired λp q=>p.1=q.1∧H q.2.1=some (.tup (p.1.map BV))∧RelV p.2 q.2.2
def KT.val(r:KT H aF xs)(k:List AI):lH (Ej aF k) ((atKey xs k).map (·.2)):=by
 induction r with
 |nil=>show True.intro
 |@cons p q ps qs h t ih=>
  let⟨h1,_,h2⟩:=h;by_cases e:p.1=k
  ·let e':q.1=k:=h1.symm.trans e
   let b:atKey (q::qs) k=some q.2:=by simp[atKey,Hf,e']
   rw[Ov e,b];show h2
  ·let e':¬q.1=k:=λz=>e (h1.trans z)
   let b:atKey (q::qs) k=atKey qs k:=by simp[atKey,Hf,e']
   rw[Lp e,b];show ih
def KT.M7(r:KT H aF xs)(k:List AI)(ry:RelV y u):
  KT H (aF.map λkv=>if kv.1=k then(kv.1,y)else kv) (xs.map (putAt k u)):=by
 induction r with
 |nil=>show .nil
 |@cons p q ps qs h t ih=>
  rw[CT,CT];show .cons ?_ ih;let⟨h1,h2,h3⟩:=h;unfold putAt;by_cases e:p.1=k
  ·rw[Aa e,Aa (h1.symm.trans e)];show⟨h1,h2,ry⟩
  ·rw[AV e,AV (λz=>e (h1.trans z))];show⟨h1,h2,h3⟩
def KT.put(r:KT H aF xs)(k:List AI){b:Addr}(hb:H b=some (.tup (k.map BV)))(ry:RelV y u):
  KT H (putK aF k y) (storedH xs k b u):=by
 let e:(aF.any λkv=>decide (kv.1=k))=(atKey xs k).isSome:=by
  rw[Yb,(r.val k).ka,Ld]
 unfold putK storedH;rw[e];by_cases q:(atKey xs k).isSome=true
 ·rw[Aa q,Aa q];show r.M7 k ry
 ·rw[AV q,AV q];show Paired.snoc r ⟨rfl,hb,ry⟩
def KT.keeps(r:KT H aF xs)(ht:∀b ys,H b=some (.tup ys)→H' b=some (.tup ys)):KT H' aF xs:=
 Paired.N8 r λ_ _ z=>⟨z.1,ht _ _ z.2.1,z.2.2⟩
section
variable {P: Program}{w: World}{H: AA}{h: Heap}
def X9{u:HO}(ok:oM P w H h)(e:Rd H a u):cA P w H h a u:=e.ok ok
def Iq{aF:List (AI×V)}(ok:oM P w H h)(e:Rd H a (.dK aF)):aF.length≤sizeLine∧(a==sysModules)=false∧∃vs,KV aF vs∧h.DictOf (Ai P w) a vs:=
 show cA P w H h a (.dK aF)from X9 ok e
def QY{aF:List (AI×V)}(ok:oM P w H h)(e:H a=some (.dK aF)):aF.length≤sizeLine∧(a==sysModules)=false∧∃vs,KV aF vs∧h.DictOf (Ai P w) a vs:=Iq ok (.inl e)
def JD{ks:List AI}(ok:oM P w H h)(e:H a=some (.tup (ks.map BV))):(tupleKind (Ai P w)).is h ks a:=by
 let⟨_,⟨aV,r,⟨o,h1,h2,⟨n,h3⟩⟩⟩⟩:=(show cA P w H h a (.tup (ks.map BV))from ok a _ e);show Ψ3 o aV.toArray n ⟨h1,h2,h3,by simpa using bj r⟩
def KG(ok:oM P w H h)(e:Rd H a (.dT aF)):aF.length≤sizeLine∧(a==sysModules)=false∧
  ∃xs,KT H aF xs∧h.DictOfH (tupleKind (Ai P w)) a xs:=by
 let⟨z,y,⟨xs,r,⟨o,es,ep,h1,h2,h3,h4,h5⟩⟩⟩:=(show cA P w H h a (.dT aF)from X9 ok e);show⟨z,y,xs,r,o,es,ep,h1,h2,h3,h4,λx hx=>?_,h5⟩;let all:∀{l:List (List AI×V)} {m:List (List AI×Addr×Value)},KT H l m→∀x∈m,(tupleKind (Ai P w)).is h x.1 x.2.1:=by
  intro l m q;induction q with
  |nil=>intro x hx;show nomatch hx
  |@cons p q ps qs hq t ih=>
   intro x hx;rcases aaf.mp hx with e|hx
   ·subst e
    show JD ok (by rw[←hq.1];show hq.2.1)
   ·show ih x hx
 show all r x hx
def kN(ok:oM P w H h)(e:H a=some (.dT aF)):aF.length≤sizeLine∧(a==sysModules)=false∧
  ∃xs,KT H aF xs∧h.DictOfH (tupleKind (Ai P w)) a xs:=KG ok (.inl e)
end
abbrev lI(H:AA)(a:Addr)(y:V)(r:Option V):Prop:=
 (∃aF k,Rd H a (.dK aF)∧y=BV k∧r=Ej aF k)∨∃aF k b,Rd H a (.dT aF)∧y=.ref b∧H b=some (.tup (k.map BV))∧r=Ej aF k
abbrev HH(H:AA)(a:Addr)(y v:V)(H':AA):Prop:=
 (∃aF k,H a=some (.dK aF)∧y=BV k∧aF.length<sizeLine∧H'=Ac H a (.dK (putK aF k v))) ∨
 ∃aF k b,H a=some (.dT aF)∧y=.ref b∧H b=some (.tup (k.map BV))∧aF.length<sizeLine∧H'=Ac H a (.dT (putK aF k v))
def lI.k{H:AA}{a:Addr}{aF:List (AI×V)}{k:AI}(e:H a=some (.dK aF)):lI H a (BV k) (Ej aF k):=.inl ⟨aF,k,.inl e,rfl,rfl⟩
def HH.k{H:AA}{a:Addr}{aF:List (AI×V)}{k:AI}{v:V}(e:H a=some (.dK aF))(hl:aF.length<sizeLine):HH H a (BV k) v (Ac H a (.dK (putK aF k v))):=.inl ⟨aF,k,e,rfl,hl,rfl⟩
section
variable {H: AA}{y v: V}{u: Value}{o: Option V}
def Inv.big(I:Inv X v4 σ H s):sysModules<s.heap.objs.size:=by
 let h:mainGlobals<s.heap.objs.size:=(I.mod.glob.keeps I.bk).lt;show Nat.lt_trans (by decide) h
def wA(hu:A.units+1<cLine)(I:Inv X v4 σ H s)(g:lI H a y (some v))(ry:RelV y u)(h:∀w' s',Inv X v4 σ H s'→RelV v w'→Q w' s'):
  wpAny (model X.prog X.w) A (getItem (.ref a) u) Q E s:=by
 rcases g with⟨aF,k,e,ey,l⟩|⟨aF,k,b,e,ey,eb,l⟩
 ·subst ey
  let⟨z,hd,⟨vs,rel,dd⟩⟩:=Iq I.cg e;let⟨w',hw,rR⟩:=lH.some_of (v:=v) (o:=valueAt vs k) (by rw[l];show rel.val k);show wpAny_getItem_of (GV ry) dd.mapOf hw (h w' _ (I.tok _) rR)
 ·subst ey
  cases(show u=Value.ref b from ry);let⟨z,hd,⟨xs,rel,dd⟩⟩:=KG I.cg e;let⟨w',hw,rR⟩:=lH.some_of (v:=v) (o:=(atKey xs k).map (·.2)) (by rw[l];show rel.val k);let⟨p,hp,rB⟩:=acE.mp hw;show wpAny_getItem_heap (K5 hu) (JD I.cg eb) dd hp ?_;rw[rB];show h w' _ (I.tok _) rR
def zj(hu:A.units+1<cLine)(I:Inv X v4 σ H s)(g:lI H a y o)(ry:RelV y u)(h:∀s',Inv X v4 σ H s'→Q (.bool o.isSome) s'):
  wpAny (model X.prog X.w) A (compareOp .In u (.ref a)) Q E s:=by
 rcases g with⟨aF,k,e,ey,l⟩|⟨aF,k,b,e,ey,eb,l⟩
 ·subst ey
  let⟨z,hd,⟨vs,rel,dd⟩⟩:=Iq I.cg e;show wpAny_in_of (GV ry) hd dd.mapOf ?_;rw[←(rel.val k).ka,←l];show h _ (I.tok _)
 ·subst ey
  cases(show u=Value.ref b from ry);let⟨z,hd,⟨xs,rel,dd⟩⟩:=KG I.cg e;show wpAny_in_heap (K5 hu) (JD I.cg eb) hd dd ?_;let q:=(rel.val k).ka;rw[Ld]at q;rw[←q,←l];show h _ (I.tok _)
def uQ(hu:A.units+1<cLine)(I:Inv X v4 σ H s)(g:lI H a y o)(ry:RelV y u)(h:∀s',Inv X v4 σ H s'→Q (.bool (!o.isSome)) s'):
  wpAny (model X.prog X.w) A (compareOp .NotIn u (.ref a)) Q E s:=by
 rcases g with⟨aF,k,e,ey,l⟩|⟨aF,k,b,e,ey,eb,l⟩
 ·subst ey
  let⟨z,hd,⟨vs,rel,dd⟩⟩:=Iq I.cg e;show wpAny_notIn_of (GV ry) hd dd.mapOf ?_;rw[←(rel.val k).ka,←l];show h _ (I.tok _)
 ·subst ey
  cases(show u=Value.ref b from ry);let⟨z,hd,⟨xs,rel,dd⟩⟩:=KG I.cg e;show wpAny_notIn_heap (K5 hu) (JD I.cg eb) hd dd ?_;let q:=(rel.val k).ka;rw[Ld]at q;rw[←q,←l];show h _ (I.tok _)
def Of{t':Nat}{ob:HO}(I:Inv X v4 σ H s)(mu:Mu (H a))(hs:Heap.SameBut a s.heap h')(he:∃q,h'.get? a=some q)(new:cA X.prog X.w (Ac H a ob) h' a ob):
  Inv X v4 σ (Ac H a ob) {s with heap:=h',toks:=t'}:=
 I.write (x:=a) (e:=a) mu (.inl rfl) (λb q hb z=>(hs.2 b hb).trans z) he new
def NP{aF:List (AI×V)}{vs:List (AI×Value)}(z:aF.length≤sizeLine)(hd:(a==sysModules)=false)(rel:KV aF vs)(dd:h'.DictOf (Ai P w) a vs):
  cA P w H' h' a (.dK aF):=⟨z,hd,vs,rel,dd⟩
def zd{Q:Unit→Shared→Prop}(hu:A.units+1<cLine)(I:Inv X v4 σ H s)(g:HH H a y v H')(ry:RelV y u)(rv:RelV v r)(h:∀s',Inv X v4 σ H' s'→Q () s'):
  wpAny (model X.prog X.w) A (setItem (.ref a) u r) Q E s:=by
 rcases g with⟨aF,k,e,ey,l,eH⟩|⟨aF,k,b,e,ey,eb,l,eH⟩
 ·subst ey eH
  let⟨z,hd,⟨vs,rel,dd⟩⟩:=QY I.cg e;let hz:vs.length≤sizeLine:=by rw[←rel.length];show z
  let hl:(putK aF k v).length≤sizeLine:=by have:=Q8 aF k v;lia
  show wpAny_setItem_pairs (hsz:=hz) (GV ry) dd λh' Eb hs=>h _ ?_;let he:∃q,h'.get? a=some q:=let⟨q,_,_,hq,_⟩:=Eb;⟨q,hq⟩
  show Of I (by rw[e];show True.intro) hs he (NP hl hd (rel.put k rv) Eb)
 ·subst ey eH
  cases(show u=Value.ref b from ry);let⟨z,hd,⟨xs,rel,dd⟩⟩:=kN I.cg e;let hz:xs.length≤sizeLine:=by rw[←QS rel];show z
  let hl:(putK aF k v).length≤sizeLine:=by have:=Q8 aF k v;lia
  show wpAny_setItem_heap (hsz:=hz) (K5 hu) (JD I.cg eb) dd λh' Eb hs=>h _ ?_;let⟨q,es,ep,hq,h2,h3,h4,_,h5⟩:=Eb;show Of I (by rw[e];show True.intro) hs ⟨q,hq⟩ ⟨hl,hd,_,(rel.put k eb rv).keeps λc ys ec=>?_,q,es,ep,hq,h2,h3,h4,h5⟩;rw[BC (aab ec e (λz=>nomatch z))];show ec
end
section
variable {H: AA}{aF: List (AI×V)}
def uK(I:Inv X v4 σ H s)(e:Rd H a (.dK aF))(h:∀t s',Inv X v4 σ H s'→Q (.int aF.length t) s'):wpAny (model X.prog X.w) A (call (.builtin "len") [.ref a]) Q E s:=by
 let⟨z,hd,⟨vs,rel,dd⟩⟩:=Iq I.cg e;show call_len_dict hd dd (by rw[←rel.length];rw[Dd]at z;lia) ?_;rw[←rel.length];show h _ _ (I.tok _)
end
abbrev Mq(i:Expr):Prop:=∀ov iv,subscripted i false ov iv=operate [ov,iv] (getItem ov iv)
def dD{prog:Program}{A:Around}{E:xz}{s:Shared}{env:Env}{value slice:Expr}{pos:Pos}{T id:String}
  (hl:typeLookup (.type T) "__getitem__" = pure (some (.builtin id))) (hs:Mq slice)
  (h:wpAny (model prog w) A (eval value env) (λo s₁=>wpAny (model prog w) A (eval slice env) (λi s₂=>s₂.TypeIs o T∧wpAny (model prog w) A (getItem o i) Q E s₂) E s₁) E s) :
  wpAny (model prog w) A (eval (.Subscript value slice pos) env) Q E s:=by
 show Subscript_ (Bt h (λo s₁ h₁=>Bt h₁ (λi s₂ h₂=>?_) λ_ _ x=>x) λ_ _ x=>x);obtain⟨hT,h₂⟩:=h₂;unfold subscriptTail;show AE ?_;rw[getitemInPython_of_ne hT.not_modules];show AE (wpAny_specialOf hT hl ?_);let fin:wpAny (model prog w) A (subscripted slice false o i) (λr s₃=>wpAny (model prog w) A (letTemporaryGo value o r >>= λ_=>pure r) Q E s₃) E s₂:=by
  rw[hs o i];show wpAny_operating (Bt h₂ (λr s₃ h₃=>AE (wpAny_letTemporaryGo (Af h₃))) λ_ _ x=>x)
 first
  |show Af (AE fin)
  |show AE (Af (AE fin))
  |show AE fin
def ve{X:Cx}{v4:ac}{σ:St}{s:Shared}{a:Addr}(I:Inv X v4 σ H s)(g:lI H a y o):s.TypeIs (.ref a) "dict" := by
 rcases g with⟨aF,k,e,_,_⟩|⟨aF,k,b,e,_,_,_⟩
 ·let⟨_,_,⟨vs,_,dd⟩⟩:=Iq I.cg e
  show dd.typeIs
 ·let⟨_,_,⟨xs,_,dd⟩⟩:=KG I.cg e
  show dd.typeIs
abbrev acL(td ty:Al):Al:=λσ H Q=>td σ H λx H1=>ty σ H1 λy H2=>∃a v,x=.ref a∧lI H2 a y (some v)∧Q v H2
abbrev aax(td ty tv:Al):CI:=λD σ H=>tv σ H λv H1=>td σ H1 λx H2=>ty σ H2 λy H3=>∃a H4,x=.ref a∧HH H3 a y v H4∧D.nx σ H4
section
variable {o i value: Expr}{pos pos': Pos}{td ty tv: Al}
def aa1(hu:X.A.units+1<cLine)(ho:PE X o td)(hi:PE X i ty)(hs:Mq i):PE X (.Subscript o i pos) (acL td ty):=by
 show .mk ?_;intro v4 s σ H Q I h;show dD adt.lookup hs (AQ (ho v4 s σ H _ I h) λu s1 ξ=>Ξ23 ξ λx H1 I1 rx q1=>AQ (hi v4 s1 σ H1 _ I1 q1) λiv s2⟨y,H2,I2,ry,a,v,ex,g,q2⟩=>?_);subst ex;obtain rfl:u=Value.ref a:=rx;show⟨ve I2 g,wA hu I2 g ry λw' s3 I3 rR=>Ψ2 v H2 ⟨I3,rR,q2⟩⟩
def eDn(hu:X.A.units+1<cLine)(ho:PE X o td)(hi:PE X i ty)(hv:PE X value tv)(hs:swapsWith value (some (.Subscript o i pos')) pos.line X.env=pure false):
  PS X (.Assign [.Subscript o i pos'] value pos) (aax td ty tv):=by
 show .mk ?_;intro v4 s σ H D I h;show wpAny_Assign_Subscript (AQ (hv v4 s σ H _ I h) λr s1 ξ=>Ξ23 ξ λv H1 I1 rv q1=>AQ (ho v4 s1 σ H1 _ I1 q1) λu s2 ξ=>Ξ23 ξ λx H2 I2 rx q2=>AQ (hi v4 s2 σ H2 _ I2 q2) λiv s3⟨y,H3,I3,ry,a,H4,ex,g,q3⟩=>?_) hs;subst ex;obtain rfl:u=Value.ref a:=rx;show zd hu I3 g ry rv λs4 I4=>Ψ2 σ H4 ⟨I4,q3⟩
end
def aa(h:Heap)(hb:sysModules<h.objs.size):cA P w H (h.push {cls:=.type "dict",data:=.dict #[]}) h.objs.size (.dK []):=
 ⟨FI _,aa0.mpr (GF (Bm hb)),[],.nil,Heap.DictOf.new h⟩
structure Q4(X:Cx)(o:Expr)(m:Str)(apos:Pos)(e:Expr)(dS:Pos):Prop where
 base:attributeBase o m X.env (eval o X.env)=eval o X.env
 UZ:((backTo dS (starEach [e] X.env)).all (λx=>!x.1)&&(backToKw dS (keywordEach [] X.env)).all (λx=>x.1.isSome)
  && decide (([e]:List Expr).length+([]:List Keyword).length+(if([]:List Keyword).isEmpty then 0 else 1)<30))=true
 line:(apos.endLine==dS.line)=true
 trees:backTo dS (starEach [e] X.env)=[(false,eval e X.env)]
structure ix(X:Cx)(o:Expr)(m:Str)(apos:Pos)(e f:Expr)(dS:Pos):Prop where
 base:attributeBase o m X.env (eval o X.env)=eval o X.env
 UZ:((backTo dS (starEach [e,f] X.env)).all (λx=>!x.1)&&(backToKw dS (keywordEach [] X.env)).all (λx=>x.1.isSome)
  && decide (([e,f]:List Expr).length+([]:List Keyword).length+(if([]:List Keyword).isEmpty then 0 else 1)<30))=true
 line:(apos.endLine==dS.line)=true
 trees:backTo dS (starEach [e,f] X.env)=[(false,eval e X.env),(false,eval f X.env)]
section
variable {H: AA}{y d: V}{u: Value}{o: Option V}
def abg(hu:A.units+1<cLine)(I:Inv X v4 σ H s)(g:lI H a y o)(ry:RelV y u)(h:∀w' s',Inv X v4 σ H s'→RelV (o.getD .non) w'→Q w' s'):
  wpAny (model X.prog X.w) A (call (.builtin "dict.get") [.ref a,u]) Q E s:=by
 rcases g with⟨aF,k,e,ey,l⟩|⟨aF,k,b,e,ey,eb,l⟩
 ·subst ey
  let⟨z,hd,⟨vs,rel,dd⟩⟩:=Iq I.cg e;show Lc J2 dd.typeIs Mp (Rh _ _) (meets_dict_get (Ai X.prog X.w) a (GV ry) hd) ⟨_,dd.mapOf,h _ _ (I.tok _) ?_⟩;rw[l];show(rel.val k).getD rfl
 ·subst ey
  cases(show u=Value.ref b from ry);let⟨z,hd,⟨xs,rel,dd⟩⟩:=KG I.cg e;show Lc J2 dd.typeIs Mp (Rh _ _) (meetsH_dict_get (tupleKind (Ai X.prog X.w)) a b hd) ⟨K5 hu,k,xs,JD I.cg eb,dd,h _ _ (I.tok _) ?_⟩;rw[l];show(rel.val k).getD rfl
def ym(hu:A.units+1<cLine)(I:Inv X v4 σ H s)(g:lI H a y o)(ry:RelV y u)(rd:RelV d r)(h:∀w' s',Inv X v4 σ H s'→RelV (o.getD d) w'→Q w' s'):
  wpAny (model X.prog X.w) A (call (.builtin "dict.get") [.ref a,u,r]) Q E s:=by
 rcases g with⟨aF,k,e,ey,l⟩|⟨aF,k,b,e,ey,eb,l⟩
 ·subst ey
  let⟨z,hd,⟨vs,rel,dd⟩⟩:=Iq I.cg e;show Lc J2 dd.typeIs Mp (gE _ _ _) (meets_dict_get_default (Ai X.prog X.w) a (GV ry) hd r) ⟨_,dd.mapOf,h _ _ (I.tok _) ?_⟩;rw[l];show(rel.val k).getD rd
 ·subst ey
  cases(show u=Value.ref b from ry);let⟨z,hd,⟨xs,rel,dd⟩⟩:=KG I.cg e;show Lc J2 dd.typeIs Mp (gE _ _ _) (meetsH_dict_get_default (tupleKind (Ai X.prog X.w)) a b hd r) ⟨K5 hu,k,xs,JD I.cg eb,dd,h _ _ (I.tok _) ?_⟩;rw[l];show(rel.val k).getD rd
end
section
variable {H: AA}{aF: List (AI×V)}
def abT(I:Inv X v4 σ H s)(e:Rd H a (.dK aF))(h:∀p s',H p=none→Inv X v4 σ (Ac H p (.dK aF)) s'→Q (.ref p) s'):wpAny (model X.prog X.w) A (call (.type "dict") [.ref a]) Q E s:=by
 let⟨z,hd,⟨vs,rel,dd⟩⟩:=Iq I.cg e;show kt_call_dict hd dd (by rw[←rel.length];show z) λh' Eb hs=>?_;show h _ _ (I.cg.fresh (Av _)) (I.laid (a:=s.heap.objs.size) (o:=.dK aF) (t':=s.toks) (λb q hq=>?_) (Av _) (NP z (aa0.mpr (GF (Bm I.big))) rel Eb));show(hs.2 b (Bm (BF hq))).trans (B9 _ hq)
end
end L2
namespace L2
open PySem PySem.Spec PyProof.Rows
variable {X: Cx}
section
def tH:EK X (.builtin "len") (λxs H Q=>∃a aF,xs=[V.ref a]∧H a=some (.dK aF)∧Q (.int aF.length) H):=by
 intro v4 s σ H xs us Q I r h;let⟨a,aF,rfl,ha,q⟩:=h;let⟨u,rfl,ru⟩:=vals1 r;cases ru;show uK I (.inl ha) λt s' I'=>Ψ2 (.int aF.length) H ⟨I',⟨t,rfl⟩,q⟩
end
section
variable {κ: Type}[DecidableEq κ]
end
section
variable {o: Expr}
def vd(hu:X.A.units+1<cLine):jB X (compareOp .In) (λy x H Q=>∃a o,x=.ref a∧lI H a y o∧Q (.bl o.isSome) H):=by
 intro v4 s σ H y x u v Q I ry rx h;let⟨a,o,rfl,g,q⟩:=h;cases rx;show zj hu I g ry λs3 I3=>Ψ2 (.bl o.isSome) H ⟨I3,rfl,q⟩
def aaY(hu:X.A.units+1<cLine):jB X (compareOp .NotIn) (λy x H Q=>∃a o,x=.ref a∧lI H a y o∧Q (.bl (!o.isSome)) H):=by
 intro v4 s σ H y x u v Q I ry rx h;let⟨a,o,rfl,g,q⟩:=h;cases rx;show uQ hu I g ry λs3 I3=>Ψ2 (.bl (!o.isSome)) H ⟨I3,rfl,q⟩
end
end L2
namespace Sr
open PySem PyProof.Rows
section
variable {Kk: Type}[DecidableEq Kk]
end
end Sr
namespace Sr
open PySem PyProof.Rows
section
variable {K: Type}[DecidableEq K]
end
end Sr
namespace Sr
open PySem PyProof.Rows
section
variable {Kk: Type}[DecidableEq Kk]
end
end Sr
namespace Sr
open PySem PyProof.Rows
@[reducible]def rv(out:Array Keyed):List Keyed:=out.toList.reverse
end Sr
namespace Sr
open PySem PyProof.Rows
section
variable {Kk: Type}[DecidableEq Kk]
end
end Sr
namespace L2
open PySem PySem.Spec PyProof.Rows
def qO{prog:Program}{w:World}{A:Around}{R:Result→Shared→Prop}{s:Shared}{kx Ck target iter:Expr}{scope:Scope}{pos:Pos}{it:Value}{D:Addr}{env:Env}(I:Nat→Shared→Prop)
  (turn:∀n s,I n s→wpAny (model prog w) A (pyNext it) (λr s₁=>match r with
   |none=>R (.ok .next) s₁
   |some v=>wpAny (model prog w) A (letOwnedTupleGo target it v) (λ_ EM=>wpAny (model prog w) A (assign target env v) (λ_ s₂=>
      wpAny (model prog w) A (eval kx env) (λkv s₃=>wpAny (model prog w) A (eval Ck env) (λvv s₄=>
       wpAny (model prog w) A (dictSet D kv vv) (λ_ s₅=>∃m,m<n∧I m s₅) (notedBy (model prog w) A env λe s'=>R (.error e) s') s₄) (notedBy (model prog w) A env λe s'=>R (.error e) s') s₃) (notedBy (model prog w) A env λe s'=>R (.error e) s') s₂) (notedBy (model prog w) A env λe s'=>R (.error e) s') EM) (notedBy (model prog w) A env λe s'=>R (.error e) s') s₁) (notedBy (model prog w) A env λe s'=>R (.error e) s') s)
  (n:Nat) (h:I n s) :
  codeAny (model prog w) A (.compLoop (.DictComp kx Ck [⟨target,iter,[],0⟩] scope pos) 0 it (.ref D) env) R s:=by
 show Pu rfl I (λn s hI=>?_) n h;show wpAny _ A ((compTurn (.DictComp kx Ck [⟨target,iter,[],0⟩] scope pos) 0 it (.ref D) env).onRaise (λx=>do noteFrame x env;theTreesLotGoes x)) _ _ s
 show wpAny_noted ?_;rw[compTurn_dict];show AE (IK (AE (Bt (turn n s hI) (λr s₁ h₁=>?_) λ_ _ h'=>h')));cases r with
 |none=>show Af h₁
 |some v=>
  show AE (Bt h₁ (λ_ EM Ox=>?_) λ_ _ h'=>h');show AE (Bt Ox (λ_ s₂ h₂=>AE (wpAny_tests_nil ?_)) λ_ _ h'=>h');show AE (AE (Bt h₂ (λkv s₃ h₃=>AE (Hc (Bt h₃ (λvv s₄ h₄=>AE (IK (Hc (Bt h₄ (λ_ s₅ h₅=>Af ⟨rfl,h₅⟩) λ_ _ h'=>h')))) λ_ _ h'=>h'))) λ_ _ h'=>h'))
section
variable {X: Cx}{v4: List (Addr×Obj)}{σ: St}{H: AA}{s: Shared}{A: Around}{E: Value→Shared→Prop}{a: Addr}{aF: List (AI×V)}{k: AI}{v: V}{u r: Value}
def YT{Q:Unit→Shared→Prop}(I:Inv X v4 σ H s)(e:H a=some (.dK aF))(l:aF.length<sizeLine)(ry:RelV (BV k) u)(rv:RelV v r)(h:∀s',Inv X v4 σ (Ac H a (.dK (putK aF k v))) s'→Q () s'):
  wpAny (model X.prog X.w) A (dictSet a u r) Q E s:=by
 let⟨z,hd,⟨vs,rel,dd⟩⟩:=QY I.cg e;let hz:vs.length≤sizeLine:=by rw[←rel.length];show z
 let hl:(putK aF k v).length≤sizeLine:=by have:=Q8 aF k v;lia
 unfold dictSet
 try with_reducible refine Hc ?_
 show AE ((Ai X.prog X.w).pyHash (GV ry) ?_);let I1:=I.tok (s.toks+1);show wpAny_dictSetHashed_pairs (knd:=Ai X.prog X.w) (s:={s with toks:=s.toks+1}) (GV ry) dd (λh' Eb hs=>h _ ?_) hz;let he:∃q,h'.get? a=some q:=let⟨q,_,_,hq,_⟩:=Eb;⟨q,hq⟩
 show Of I1 (by rw[e];show True.intro) hs he (NP hl hd (rel.put k rv) Eb)
end
abbrev dH(wi:Dc)(g:Dv)(tk tv:Al)(own:List Str)(cap:List (Nat×Str)):Al:=λσ H Q=>wi σ H λJ H1=>∀D,H1 D=none→
 ∃W:Nat→Nat→St→List (AI×V)→AA→Prop,(∃m,W 0 m (Fn own cap σ) [] (Ac H1 D (.dK [])))∧∀i m σ' aF H',W i m σ' aF H'→H' D=some (.dK aF)∧
  ((J.stop i H'∧Q (.ref D) H')∨(J.go i H'∧aF.length<sizeLine∧∃N:St→List (AI×V)→AA→Prop,(∀σ aF H,N σ aF H→∃m',m' < m∧W (i+1) m' σ aF H)∧∀x H2,J.rK i H' x H2→g x σ' H2 λσ3 H3=>tk σ3 H3 λy H4=>tv σ3 H4 λz H5=>∃k,y=BV k∧H5 D=some (.dK aF)∧
   N σ3 (putK aF k z) (Ac H5 D (.dK (putK aF k z)))))
section
variable {X: Cx}{scope: Scope}{cl: List (Str×Addr)}{own: List Str}{cap: List (Nat×Str)}{tg iter kx Ck: Expr}{wi: Dc}{g: Dv}{tk tv: Al}{pos: Pos}
def ac1(c:dB X scope cl own cap)(hc:X.calm=true)(hi:PI X tg iter wi)
  (hg:∀C s H fp,PG (Ba X (own++cap.map (·.2)) scope cl C s H fp λ_ _=>False) tg g)
  (hk:∀C s H fp,PE (Ba X (own++cap.map (·.2)) scope cl C s H fp λ_ _=>False) kx tk)
  (hv:∀C s H fp,PE (Ba X (own++cap.map (·.2)) scope cl C s H fp λ_ _=>False) Ck tv) (hs:∀x,foldedSetIterable iter X.env x=pure x:=by intro _;rfl) :
  PE X (.DictComp kx Ck [⟨tg,iter,[],0⟩] scope pos) (dH wi g tk tv own cap):=by
 show .mk ?_;intro v4 s σ H Q I h;show wpAny _ X.A (comprehension (.DictComp kx Ck [⟨tg,iter,[],0⟩] scope pos) scope X.env _ newDict false (eval iter X.env)) _ _ s
 show LM (use:=none) rfl hs c.zt c.kind c.names (AQ (hi v4 s σ H _ I h) λv s1 h1=>AQ h1 λLG s2 h2=>?_);let⟨it,fp,tn,J,H2,e,I2,T,qm,f2,hw⟩:=h2;subst e;show GP (MG c.cell (by intro y hy;simp at hy) (λh₁ jx iZ=>?_) c.kind) (by size_fits);dsimp only at jx iZ ⊢;let hO:=aa (P:=X.prog) (w:=X.w) (H:=Ac H2 s2.heap.objs.size (.dK [])) s2.heap I2.big;generalize hOO:({cls:=.type "dict",data:=.dict #[]}:Obj)=O at hO jx iZ ⊢;let hsz:(s2.heap.push O).objs.size=s2.heap.objs.size+1:=G6 _ _;let kk:∀b o,s2.heap.get? b=some o→h₁.get? b=some o:=λb o e=>iZ.extBut b o (by rw[hsz];show Bm (Iz (BF e))) (B9 _ (B9 _ e));let OK:cA X.prog X.w (Ac H2 s2.heap.objs.size (.dK [])) h₁ s2.heap.objs.size (.dK []):=by
  show hO.uT (λb u hb q=>?_) (λ_ q=>q) λ_ _ q=>q;rcases hb with rfl|hb
  ·show iZ.extBut _ _ (by rw[hsz];show Bm (JT _)) (B9 _ q)
  ·by_cases z:b=s2.heap.objs.size
   ·subst z;rw[Bz]at hb;cases hb
   ·rw[BC z]at hb
    let lt:b<s2.heap.objs.size:=I2.cg.lt hb;show iZ.extBut _ _ (by rw[hsz];show Bm (Iz lt)) (B9 _ q)
 rw[hsz]at jx ⊢;let eQ:∀b∈fp,b<s2.heap.objs.size:=λb hb=>by
  let⟨o,e,_⟩:=T.obj _ _ qm b hb;show BF e
 let⟨W,⟨m0,w0⟩,turn⟩:=hw s2.heap.objs.size I2.fresh;let J1:=QL (E:=λ_ _=>False) c I2 f2 eQ (tk:=s2.toks+([]:List (Str×Value)).length) kk OK jx;generalize fP:Ba X (own++cap.map (·.2)) scope cl (s2.heap.objs.size+1) s2 H2 fp (λ_ _=>False)=X' at J1;let J7:PG X' tg g:=fP ▸ hg _ _ _ _;let hk':PE X' kx tk:=fP ▸ hk _ _ _ _;let Dx:PE X' Ck tv:=fP ▸ hv _ _ _ _;let pX:X'.prog=X.prog:=by rw[←fP];rfl
 let wX:X'.w=X.w:=by rw[←fP];rfl
 let kX:X'.K=X.K:=by rw[←fP];rfl
 let aX:X'.A=X.A:=by rw[←fP];rfl
 let cX:X'.calm=true:=by rw[←fP];show hc
 let Cj:X'.env=compEnvC scope cl (s2.heap.objs.size+1) X.env:=by rw[←fP];rfl
 let xX:X'.xe=λ_ _=>False:=by rw[←fP];rfl
 let fX:∀b∈fp,∀{H':AA},H' b=none→Dq X' [] H' b:=λb hb {H'} hn=>by
  let o1:=(Gi (E:=λ_ _=>False) c I2 f2 eQ (C:=s2.heap.objs.size+1) (CE _)).HX b hb;let o2:=(Gi (E:=λ_ _=>False) c I2 f2 eQ (C:=s2.heap.objs.size+1) (CE _)).sE b hb;rw[←fP];show⟨hn,o1.1,o2,.inl hb,o1.2,λp hp=>absurd (show p∈([]:ac)from hp) (by simp)⟩
 let Kb:∀D C s' H' m,Inv X v4 σ H' s'→Dq X v4 H' C→s'.heap.Ns C m→Q (.ref D) H'→compPost (model X.prog X.w) X.A X.xe none (Bw X v4 σ Q) (.ref D) C (.ok .next) s':=by
  intro D C s' H' m I' hC hm q;show⟨m,hm,λh' i0=>Ψ2 (.ref D) H' ⟨?_,rfl,q⟩⟩;show I'.turned (t':=s'.toks) (λb o hb e=>(i0.2 b hb).trans e) hC.1 hC.2.1 hC.2.2.2.1 hC.2.2.2.2.1 hC.2.2.2.2.2
 let fin:∀{σ':St} {H':AA} {s':Shared},Inv X' [] σ' H' s'→Q (.ref s2.heap.objs.size) H'→compPost (model X.prog X.w) X.A X.xe none (Bw X v4 σ Q) (.ref s2.heap.objs.size) (s2.heap.objs.size+1) (.ok .next) s':=λ{σ' H' s'} J' q=>by
  rw[←fP]at J';let⟨A1,A2⟩:=Ms I2 f2 (CE _) J';let⟨m,hm,_⟩:=J'.loc;show Kb _ _ s' H' m A1 A2 hm q
 let loop:codeAny (model X.prog X.w) X.A (.compLoop (.DictComp kx Ck [⟨tg,iter,[],0⟩] scope pos) 0 (.ref it) (.ref s2.heap.objs.size) (compEnvC scope cl (s2.heap.objs.size+1) X.env)) (compPost (model X.prog X.w) X.A X.xe none (Bw X v4 σ Q) (.ref s2.heap.objs.size) (s2.heap.objs.size+1))
   {s2 with heap:=h₁,toks:=s2.toks+([]:List (Str×Value)).length}:=by
  show qO (λn s'=>∃i σ' aF H',Inv X' [] σ' H' s'∧tn i s'.heap∧(∀b∈fp,H' b=none)∧W i n σ' aF H') ?_ m0
   ⟨0,_,_,_,J1,T.keep _ _ _ qm λb _ o e=>kk b o e,λb hb=>by rw[BC (Bm (eQ b hb))];show(f2 b hb).1,w0⟩
  intro n s3⟨i,σ3,aF,H3,I3,yq,zf,w3⟩;let⟨PH,w4⟩:=turn i n σ3 aF H3 w3;rw[←Cj,←aX,←pX,←wX];let jI:∀{α:Type} {t:Sem α} {Q1:α→Shared→Prop} {E1:xz} {s:Shared},wpAny (model X'.prog X'.w) X'.A t Q1 X'.xe s→wpAny (model X'.prog X'.w) X'.A t Q1 E1 s:=λ{α t Q1 E1 s} h=>by
   rw[xX]at h;show Bt h (λ_ _ q=>q) λ_ _ f=>f.elim
  rcases w4 with⟨stop,qn⟩|⟨go,hz,N,hN,step⟩
  ·let d:=T.done X' pX wX kX cX i [] s3 σ3 H3 X'.xe I3 (λb hb=>fX b hb (zf b hb)) yq stop
   rw[←pX,←wX]at d;show jI (AQ d λr s4 ξ=>Ξ02 ξ λhr I4=>?_);subst hr;let f4:=fin I4 qn;rw[←pX,←wX,←aX]at f4;show f4
  ·let d:=T.item X' pX wX kX cX i [] s3 σ3 H3 X'.xe I3 (λb hb=>fX b hb (zf b hb)) yq go
   rw[←pX,←wX]at d;show jI (AQ d λr s4 ξ=>Ξ12 ξ λu hr h4=>?_);subst hr;show jI (AQ h4 λ_ s5 ξ=>Ξ25 ξ λx H5 I5 r5 y5 tI G4=>?_);let HG:=I5.pinned (λb hb=>fX b hb (G4 b hb)) (T.obj _ _ tI);let again:∀{σ7:St} {H7:AA} {s7:Shared} {oG:List (AI×V)},Inv X' ([]++Im fp s5.heap) σ7 H7 s7→N σ7 oG H7→
     ∃m,m<n∧∃i σ' aF H',Inv X' [] σ' H' s7∧tn i s7.heap∧(∀b∈fp,H' b=none)∧W i m σ' aF H':=λ{σ7 H7 s7 oG} I7 n7=>by
    let⟨m',hm,w7⟩:=hN _ _ _ n7;show⟨m',hm,i+1,σ7,oG,H7,I7.iM,T.keep _ _ _ tI λb hb o e=>(I7.pin (b,o) (D2 _ (D2 _ (Gy hb e)))).1,λb hb=>?_,w7⟩;let⟨o,e,d⟩:=T.obj _ _ tI b hb;show(I7.pin (b,o) (D2 _ (D2 _ (Gy hb e)))).2.1
   show jI (AQ (J7 _ s5 σ3 H5 x u _ HG r5 (step x H5 y5)) λ_ s6 ξ=>Ξ22 ξ λσ6 H6 I6 q6=>?_);show jI (AQ (hk' _ s6 σ6 H6 _ I6 q6) λu7 s7 ξ=>Ξ23 ξ λy7 H7 I7 r7 q7=>?_);show jI (AQ (Dx _ s7 σ6 H7 _ I7 q7) λu8 s8⟨y8,H8,I8,r8,k8,e8,d8,q8⟩=>?_);subst e8;show jI (YT I8 d8 hz r7 r8 λs9 I9=>again I9 q8)
 show codeAny_compStart_dict loop (T.self X.A 0 _ _ _ (T.keep _ _ _ qm λb _ o e=>kk b o e) loop)
end
end L2
namespace L2
open PySem PySem.Spec PyProof.Rows
variable {P:Program}{w:World}{s: Shared}{pos: Pos}{X: Cx}{e: Expr}
abbrev Cz(P:Program)(w:World)(K:W.Frag)(a:Addr)(aF:List (Str×Addr)):Prop:=
 ∃(o:Obj) (es:Array DictEntry) (ep:Nat),K.lookup a=some o∧o.ExactDict∧o.data=.dict es ep∧KeysOf (Ai P w) es∧Pairs (Ai P w) es.toList (aF.map λp=>((Sum.inr p.1:AI),Value.ref p.2))∧(aF.map (·.1)).Nodup∧(a==sysModules)=false
inductive sH(w:World):List DictEntry→List (Str×Addr)→Prop
 |nil:sH w [] []
 |cons {z:Str} {t:Tok} {a:Addr} {es:List DictEntry} {aF:List (Str×Addr)} {hh:Int} (e:hh=hashStr w z) (r:sH w es aF):sH w (⟨hh,.str z t,.ref a⟩::es) ((z,a)::aF)
def sH.keys:∀{es:List DictEntry} {aF:List (Str×Addr)},sH w es aF→∀e∈es,∃k,(Ai P w).is k e.key=true∧e.hash=(Ai P w).hash k
 |_,_,.nil,e,h=>by simp at h
 |_,_,.cons e1 r,e,h=>by
  rcases aaf.mp h with rfl|h
  ·show⟨.inr _,Rm _ _ _ _,e1⟩
  ·show sH.keys r e h
def sH.pairs:∀{es:List DictEntry} {aF:List (Str×Addr)},sH w es aF→Pairs (Ai P w) es (aF.map λp=>((Sum.inr p.1:AI),Value.ref p.2))
 |_,_,.nil=>.nil
 |_,_,.cons e1 r=>.cons (Rm _ _ _ _) rfl (sH.pairs r)
def AO{K:W.Frag}{a:Addr}{aF:List (Str×Addr)}{es:List DictEntry}{ep:Nat}(l:K.lookup a=some ⟨.type "dict",none,.dict es.toArray ep,#[]⟩)(h:sH w es aF)(nd:(aF.map (·.1)).Nodup)(hs:(a==sysModules)=false):Cz P w K a aF:=
 ⟨_,_,_,l,⟨rfl,rfl,rfl⟩,rfl,λe he=>h.keys e (by simpa using he),h.pairs,nd,hs⟩
def Rg:∀(aF:List (Str×Addr)) (z:Str),valueAt (aF.map λp=>((Sum.inr p.1:AI),Value.ref p.2)) (.inr z)=(aF.lookup z).map Value.ref
 |[],z=>rfl
 |(y,b)::r,z=>by
  let ih:=Rg r z;unfold valueAt at ih ⊢;rw[CT,Hf,HA];by_cases h:y=z
  ·subst h;simp
  ·let h1:¬((Sum.inr y:AI)=Sum.inr z):=λe=>h (M3 e)
   let h2:(z==y)=false:=by rw[aa0];exactλe=>h e.symm
   rw[h2];simp only[h1,decide_false];show ih
section
variable {v4: List (Addr×Obj)}{σ: St}{H: AA}{a: Addr}{aF: List (Str×Addr)}
def lY:∀{l:List (Str×Addr)},(l.map (·.1)).Nodup→((l.map λp=>((Sum.inr p.1:AI),Value.ref p.2)).map (·.1)).Nodup:=λ{l} h=>by
 rw[FJ];have:(l.map ((·.1) ∘ λp:Str×Addr=>((Sum.inr p.1:AI),Value.ref p.2)))=(l.map (·.1)).map (Sum.inr:Str→AI):=by rw[FJ];rfl
 rw[this];show List.Pairwise.map _ (λa b h e=>h (M3 e)) h
def Cz.at(k:Cz X.prog X.w X.K a aF)(I:Inv X v4 σ H s):(a==sysModules)=false∧s.heap.DictOf (Ai X.prog X.w) a (aF.map λp=>((Sum.inr p.1:AI),Value.ref p.2)):=by
 let⟨o,es,ep,l,ex,d,ko,pr,nd,hs⟩:=k;show⟨hs,o,es,ep,I.pL _ _ l,ex,d,ko,pr,lY nd⟩
end
abbrev aav(P:Program)(w:World)(K:W.Frag)(td ty:Al):Al:=λσ H Q=>td σ H λx H1=>ty σ H1 λy H2=>∃a aF z b,x=.ref a∧Cz P w K a aF∧y=.str z∧aF.lookup z=some b∧Q (.ref b) H2
abbrev xi(P:Program)(w:World)(K:W.Frag)(td ty:Al):Al:=λσ H Q=>td σ H λx H1=>∃a aF,x=.ref a∧Cz P w K a aF∧ty σ H1 λy H2=>∃z,y=.str z∧(∀b,aF.lookup z=some b→Q (.ref b) H2)∧(aF.lookup z=none→Q .non H2)
section
variable {o i: Expr}{apos dS: Pos}{td ty: Al}
def kz(ho:PE X o td)(hi:PE X i ty)(hs:Mq i):PE X (.Subscript o i pos) (aav X.prog X.w X.K td ty):=by
 show .mk ?_;intro v4 s σ H Q I h;show dD adt.lookup hs (AQ (ho v4 s σ H _ I h) λu s1 ξ=>Ξ23 ξ λx H1 I1 rx q1=>AQ (hi v4 s1 σ H1 _ I1 q1) λiv s2⟨y,H2,I2,ry,a,aF,z,b,ex,kd,ey,l,q2⟩=>?_);subst ex ey;obtain rfl:u=Value.ref a:=rx;let⟨hd,dd⟩:=kd.at I2;let hw:valueAt (aF.map λp=>((Sum.inr p.1:AI),Value.ref p.2)) (.inr z)=some (Value.ref b):=by rw[Rg,l];rfl
 show⟨dd.typeIs,wpAny_getItem_of (GV (k:=.inr z) ry) dd.mapOf hw ⟨.ref b,H2,I2.tok _,rfl,q2⟩⟩
def lK(ho:PE X o td)(he:PE X e ty)(m:Q4 X o "get" apos e dS):PE X (.Call (.Attribute o "get" apos) [e] [] dS) (xi X.prog X.w X.K td ty):=by
 show .mk ?_;intro v4 s σ H Q I h;show wpAny_Call_method m.base m.UZ m.line Mo J2 ON (AQ (ho v4 s σ H _ I h) λu s1⟨x,H1,I1,rx,a,aF,ex,kd,q1⟩=>?_);subst ex;obtain rfl:u=Value.ref a:=rx;let⟨hd,dd⟩:=kd.at I1;show⟨dd.typeIs,dd.mapOf.noDict,?_⟩;rw[m.trees];show Ql rfl (Rf (Calls.spliced_cons (AQ (he v4 s1 σ H1 _ I1 q1) λiv s2⟨y,H2,I2,ry,z,ey,q2,q3⟩=>Calls.spliced_nil ?_)));subst ey;let⟨hd,dd⟩:=kd.at I2;show Lc J2 dd.typeIs Mp (Rh _ _) (meets_dict_get (Ai X.prog X.w) a (GV (k:=.inr z) ry) hd) ⟨_,dd.mapOf,?_⟩;rw[Rg];cases l:aF.lookup z with
 |none=>show Ψ2 (.non) H2 ⟨I2.tok _,rfl,q3 l⟩
 |some b=>show Ψ2 (.ref b) H2 ⟨I2.tok _,rfl,q2 b l⟩
end
section
def vh(hu:X.A.units+1<cLine):JK X "dict.get" (λx vs H Q=>∃a y o,x=.ref a∧vs=[y]∧lI H a y o∧Q (o.getD .non) H):=by
 intro v4 s σ H x vs u us Q I rx rv h;let⟨a,y,o,rfl,rfl,g,q⟩:=h;cases rx;let⟨iv,rfl,ry⟩:=vals1 rv;show abg hu I g ry λw' s3 I3 rR=>Ψ2 _ H ⟨I3,rR,q⟩
def tS(hu:X.A.units+1<cLine):JK X "dict.get" (λx vs H Q=>∃a y z o,x=.ref a∧vs=[y,z]∧lI H a y o∧Q (o.getD z) H):=by
 intro v4 s σ H x vs u us Q I rx rv h;let⟨a,y,z,o,rfl,rfl,g,q⟩:=h;cases rx;let⟨iv,zv,rfl,ry,rz⟩:=rv.two;show ym hu I g ry rz λw' s3 I3 rR=>Ψ2 _ H ⟨I3,rR,q⟩
def qK:JK X "dict.setdefault" (λx vs H Q=>∃a k z aF,x=.ref a∧vs=[BV k,z]∧H a=some (.dK aF)∧aF.length<sizeLine∧(∀v,Ej aF k=some v→Q v H)∧(Ej aF k=none→Q z (Ac H a (.dK (putK aF k z))))):=by
 intro v4 s σ H x vs u us Q I rx rv h;let⟨a,k,z,aF,rfl,rfl,e,hl,q1,q2⟩:=h;cases rx;let⟨iv,zv,rfl,ry,rz⟩:=rv.two;let⟨hz,hd,⟨vs,rel,dd⟩⟩:=QY I.cg e;let hz':vs.length≤sizeLine:=by rw[←rel.length];show hz
 show Lc h8 dd.typeIs PySem.F.entry_dict_setdefault (PySem.F.args_dict_setdefault_3 _ _ _) (kt_meets_setdefault (Ai X.prog X.w) a (GV ry) hd zv) ⟨vs,dd,hz',λv hv=>?_,λhn h' Eb i0=>?_⟩
 ·let rr:=rel.val k
  rw[hv]at rr;cases l:Ej aF k with
  |none=>rw[l]at rr;show rr.elim
  |some v'=>rw[l]at rr;show Ψ2 v' H ⟨I.tok _,rr,q1 v' l⟩
 ·let rr:=rel.val k
  rw[hn]at rr;cases l:Ej aF k with
  |some v'=>rw[l]at rr;show rr.elim
  |none=>
   let hl':(putK aF k z).length≤sizeLine:=by have:=Q8 aF k z;lia
   let he:∃q,h'.get? a=some q:=let⟨q,_,_,hq,_⟩:=Eb;⟨q,hq⟩
   show Ψ2 z _ ⟨Of (t':=s.toks+1) I (by rw[e];show True.intro) i0 he (NP hl' hd (rel.put k rz) Eb),rz,q2 l⟩
def sJ:EK X (.type "dict") (λxs H Q=>∃a aF,xs=[V.ref a]∧H a=some (.dK aF)∧∀p,H p=none→Q (.ref p) (Ac H p (.dK aF))):=by
 intro v4 s σ H xs us Q I r h;let⟨a,aF,rfl,ha,q⟩:=h;let⟨u,rfl,ru⟩:=vals1 r;cases ru;show abT I (.inl ha) λp s' hp I'=>Ψ2 (.ref p) _ ⟨I',rfl,q p hp⟩
end
abbrev dL(P:Program)(w:World)(K:W.Frag)(mg:KK)(base:Heap)(f:Addr)(k:Nat)(ps:List Str)(sp:EI):Prop:=
 ∃fd,bq P w K mg base Ax k f fd ps sp∧W.keepIn K (.ref f)=true∧Binds K fd ps []
abbrev uR(P:Program)(w:World)(K:W.Frag)(mg:KK)(base:Heap)(k:Nat)(ps:List Str)(i:Nat)(t:CY):Al:=λσ H Q=>∃f sp,σ[i]?=some (some (.ref f))∧dL P w K mg base f k ps sp∧t σ H λvs H1=>sp vs H1 Q Ji
section
variable {x: Str}{k j i: Nat}{ps: List Str}{p: Pos}{es: List Expr}{t: CY}
def ace(hr:eh j X.A)(hk:k≤j)(hN:X.N[i]?=some x)(hv:JL X.env.scope x)(ha:PA X (e::es) t)(hd:(x ==("__debug__" : Str))=false:=by decide)(xu:(x ==("__classdict__" : Str))=false:=by decide)
  (he:starEach (e::es) X.env=(false,eval e X.env)::starEach es X.env:=by rfl) (jw:(backTo pos (starEach es X.env)).any (·.1)=false:=by rfl):PE X (.Call (.Name x p) (e::es) [] pos) (uR X.prog X.w X.K X.mg X.base k ps i t):=by
 show .mk ?_;intro v4 s σ H Q I h;obtain⟨f,sp,ex,⟨fd,F,kp,b⟩,h⟩:=h;let⟨m,hn,hl⟩:=I.loc;let⟨u,r,l⟩:=hl i x _ hN ex hv;cases r;let fin:wpAny (model X.prog X.w) X.A (callWith pos (.ref f) [] (backTo pos (starEach (e::es) X.env)) (backToKw pos (keywordEach [] X.env))) (Bw X v4 σ Q) X.xe s:=by
  show MA (h₀:=X.base) I.ok.mod.LD kp (AQ (ha pos v4 s σ H _ I h) λus s1 ξ=>Ξ23 ξ λvs H1 I1 r q=>⟨I1.pL,?_⟩) he jw;show TX F (hr.mono hk) b .nil ah I1 r (by rw[Bg];show q)
 rcases l with⟨hk',hm⟩|⟨hk',c,hc,uj⟩
 ·show Jh (Ky (Ru I.ok.kind hk' hn hm fin) hd)
 ·rcases hk' with hk'|hk'
  ·show Jh (Ky (U3 I.ok.kind hk' hc uj fin) hd)
  ·show Jh (Ky (wpAny_loadName_free I.ok.kind hk' hc uj fin xu) hd)
end
def vx{prog:Program}{A:Around}{R:Result→Shared→Prop}{s:Shared}{kx Ck target iter:Expr}{ifs:List Expr}{scope:Scope}{pos:Pos}{it:Value}{D:Addr}{env:Env}(I:Nat→Shared→Prop)
  (turn:∀n s,I n s→wpAny (model prog w) A (pyNext it) (λr s₁=>match r with
   |none=>R (.ok .next) s₁
   |some v=>wpAny (model prog w) A (letOwnedTupleGo target it v) (λ_ EM=>wpAny (model prog w) A (assign target env v) (λ_ s₂=>
      wpAny (model prog w) A (forIn ifs true λc r=>if r=true then do let ok ←isTrue c env (eval c env);pure (ForInStep.yield ok)else pure (ForInStep.yield r)) (λok V5=>if ok=true then wpAny (model prog w) A (eval kx env) (λkv s₃=>wpAny (model prog w) A (eval Ck env) (λvv s₄=>
       wpAny (model prog w) A (dictSet D kv vv) (λ_ s₅=>∃m,m<n∧I m s₅) (notedBy (model prog w) A env λe s'=>R (.error e) s') s₄) (notedBy (model prog w) A env λe s'=>R (.error e) s') s₃) (notedBy (model prog w) A env λe s'=>R (.error e) s') V5 else ∃m,m<n∧I m V5) (notedBy (model prog w) A env λe s'=>R (.error e) s') s₂) (notedBy (model prog w) A env λe s'=>R (.error e) s') EM) (notedBy (model prog w) A env λe s'=>R (.error e) s') s₁) (notedBy (model prog w) A env λe s'=>R (.error e) s') s)
  (n:Nat) (h:I n s) :
  codeAny (model prog w) A (.compLoop (.DictComp kx Ck [⟨target,iter,ifs,0⟩] scope pos) 0 it (.ref D) env) R s:=by
 show Pu rfl I (λn s hI=>?_) n h;show wpAny _ A ((compTurn (.DictComp kx Ck [⟨target,iter,ifs,0⟩] scope pos) 0 it (.ref D) env).onRaise (λx=>do noteFrame x env;theTreesLotGoes x)) _ _ s
 show wpAny_noted ?_;rw[compTurn_dict];show AE (IK (AE (Bt (turn n s hI) (λr s₁ h₁=>?_) λ_ _ h'=>h')));cases r with
 |none=>show Af h₁
 |some v=>
  show AE (Bt h₁ (λ_ EM Ox=>?_) λ_ _ h'=>h');show AE (Bt Ox (λ_ s₂ h₂=>AE (Bt h₂ (λok V5 Zl=>?_) λ_ _ h'=>h')) λ_ _ h'=>h');cases ok with
  |false=>show Af ⟨rfl,Zl⟩
  |true=>
   show AE (AE (Bt Zl (λkv s₃ h₃=>AE (Hc (Bt h₃ (λvv s₄ h₄=>AE (IK (Hc (Bt h₄ (λ_ s₅ h₅=>Af ⟨rfl,h₅⟩) λ_ _ h'=>h')))) λ_ _ h'=>h'))) λ_ _ h'=>h'))
abbrev bP(wi:Dc)(g:Dv)(tt:Cr)(tk tv:Al)(own:List Str)(cap:List (Nat×Str)):Al:=λσ H Q=>wi σ H λJ H1=>∀D,H1 D=none→
 ∃W:Nat→Nat→St→List (AI×V)→AA→Prop,(∃m,W 0 m (Fn own cap σ) [] (Ac H1 D (.dK [])))∧∀i m σ' aF H',W i m σ' aF H'→H' D=some (.dK aF)∧
  ((J.stop i H'∧Q (.ref D) H')∨(J.go i H'∧aF.length<sizeLine∧∃N:St→List (AI×V)→AA→Prop,(∀σ aF H,N σ aF H→∃m',m' < m∧W (i+1) m' σ aF H)∧∀x H2,J.rK i H' x H2→g x σ' H2 λσ3 H3=>tt σ3 H3 λok H3=>if ok=true then tk σ3 H3 λy H4=>tv σ3 H4 λz H5=>∃k,y=BV k∧H5 D=some (.dK aF)∧
   N σ3 (putK aF k z) (Ac H5 D (.dK (putK aF k z)))else N σ3 aF H3))
section
variable {scope: Scope}{cl: List (Str×Addr)}{own: List Str}{cap: List (Nat×Str)}{tg iter kx Ck: Expr}{ifs: List Expr}{tt: Cr}{wi: Dc}{g: Dv}{tk tv: Al}
def adu(c:dB X scope cl own cap)(hc:X.calm=true)(hi:PI X tg iter wi)
  (hg:∀C s H fp,PG (Ba X (own++cap.map (·.2)) scope cl C s H fp λ_ _=>False) tg g)
  (ht:∀C s H fp,ye (Ba X (own++cap.map (·.2)) scope cl C s H fp λ_ _=>False) ifs tt)
  (hk:∀C s H fp,PE (Ba X (own++cap.map (·.2)) scope cl C s H fp λ_ _=>False) kx tk)
  (hv:∀C s H fp,PE (Ba X (own++cap.map (·.2)) scope cl C s H fp λ_ _=>False) Ck tv) (hs:∀x,foldedSetIterable iter X.env x=pure x:=by intro _;rfl) :
  PE X (.DictComp kx Ck [⟨tg,iter,ifs,0⟩] scope pos) (bP wi g tt tk tv own cap):=by
 show .mk ?_;intro v4 s σ H Q I h;show wpAny _ X.A (comprehension (.DictComp kx Ck [⟨tg,iter,ifs,0⟩] scope pos) scope X.env _ newDict false (eval iter X.env)) _ _ s
 show LM (use:=none) rfl hs c.zt c.kind c.names (AQ (hi v4 s σ H _ I h) λv s1 h1=>AQ h1 λLG s2 h2=>?_);let⟨it,fp,tn,J,H2,e,I2,T,qm,f2,hw⟩:=h2;subst e;show GP (MG c.cell (by intro y hy;simp at hy) (λh₁ jx iZ=>?_) c.kind) (by size_fits);dsimp only at jx iZ ⊢;let hO:=aa (P:=X.prog) (w:=X.w) (H:=Ac H2 s2.heap.objs.size (.dK [])) s2.heap I2.big;generalize hOO:({cls:=.type "dict",data:=.dict #[]}:Obj)=O at hO jx iZ ⊢;let hsz:(s2.heap.push O).objs.size=s2.heap.objs.size+1:=G6 _ _;let kk:∀b o,s2.heap.get? b=some o→h₁.get? b=some o:=λb o e=>iZ.extBut b o (by rw[hsz];show Bm (Iz (BF e))) (B9 _ (B9 _ e));let OK:cA X.prog X.w (Ac H2 s2.heap.objs.size (.dK [])) h₁ s2.heap.objs.size (.dK []):=by
  show hO.uT (λb u hb q=>?_) (λ_ q=>q) λ_ _ q=>q;rcases hb with rfl|hb
  ·show iZ.extBut _ _ (by rw[hsz];show Bm (JT _)) (B9 _ q)
  ·by_cases z:b=s2.heap.objs.size
   ·subst z;rw[Bz]at hb;cases hb
   ·rw[BC z]at hb
    let lt:b<s2.heap.objs.size:=I2.cg.lt hb;show iZ.extBut _ _ (by rw[hsz];show Bm (Iz lt)) (B9 _ q)
 rw[hsz]at jx ⊢;let eQ:∀b∈fp,b<s2.heap.objs.size:=λb hb=>by
  let⟨o,e,_⟩:=T.obj _ _ qm b hb;show BF e
 let⟨W,⟨m0,w0⟩,turn⟩:=hw s2.heap.objs.size I2.fresh;let J1:=QL (E:=λ_ _=>False) c I2 f2 eQ (tk:=s2.toks+([]:List (Str×Value)).length) kk OK jx;generalize fP:Ba X (own++cap.map (·.2)) scope cl (s2.heap.objs.size+1) s2 H2 fp (λ_ _=>False)=X' at J1;let J7:PG X' tg g:=fP ▸ hg _ _ _ _;let WZ:ye X' ifs tt:=fP ▸ ht _ _ _ _;let hk':PE X' kx tk:=fP ▸ hk _ _ _ _;let Dx:PE X' Ck tv:=fP ▸ hv _ _ _ _;let pX:X'.prog=X.prog:=by rw[←fP];rfl
 let wX:X'.w=X.w:=by rw[←fP];rfl
 let kX:X'.K=X.K:=by rw[←fP];rfl
 let aX:X'.A=X.A:=by rw[←fP];rfl
 let cX:X'.calm=true:=by rw[←fP];show hc
 let Cj:X'.env=compEnvC scope cl (s2.heap.objs.size+1) X.env:=by rw[←fP];rfl
 let xX:X'.xe=λ_ _=>False:=by rw[←fP];rfl
 let fX:∀b∈fp,∀{H':AA},H' b=none→Dq X' [] H' b:=λb hb {H'} hn=>by
  let o1:=(Gi (E:=λ_ _=>False) c I2 f2 eQ (C:=s2.heap.objs.size+1) (CE _)).HX b hb;let o2:=(Gi (E:=λ_ _=>False) c I2 f2 eQ (C:=s2.heap.objs.size+1) (CE _)).sE b hb;rw[←fP];show⟨hn,o1.1,o2,.inl hb,o1.2,λp hp=>absurd (show p∈([]:ac)from hp) (by simp)⟩
 let Kb:∀D C s' H' m,Inv X v4 σ H' s'→Dq X v4 H' C→s'.heap.Ns C m→Q (.ref D) H'→compPost (model X.prog X.w) X.A X.xe none (Bw X v4 σ Q) (.ref D) C (.ok .next) s':=by
  intro D C s' H' m I' hC hm q;show⟨m,hm,λh' i0=>Ψ2 (.ref D) H' ⟨?_,rfl,q⟩⟩;show I'.turned (t':=s'.toks) (λb o hb e=>(i0.2 b hb).trans e) hC.1 hC.2.1 hC.2.2.2.1 hC.2.2.2.2.1 hC.2.2.2.2.2
 let fin:∀{σ':St} {H':AA} {s':Shared},Inv X' [] σ' H' s'→Q (.ref s2.heap.objs.size) H'→compPost (model X.prog X.w) X.A X.xe none (Bw X v4 σ Q) (.ref s2.heap.objs.size) (s2.heap.objs.size+1) (.ok .next) s':=λ{σ' H' s'} J' q=>by
  rw[←fP]at J';let⟨A1,A2⟩:=Ms I2 f2 (CE _) J';let⟨m,hm,_⟩:=J'.loc;show Kb _ _ s' H' m A1 A2 hm q
 let loop:codeAny (model X.prog X.w) X.A (.compLoop (.DictComp kx Ck [⟨tg,iter,ifs,0⟩] scope pos) 0 (.ref it) (.ref s2.heap.objs.size) (compEnvC scope cl (s2.heap.objs.size+1) X.env)) (compPost (model X.prog X.w) X.A X.xe none (Bw X v4 σ Q) (.ref s2.heap.objs.size) (s2.heap.objs.size+1))
   {s2 with heap:=h₁,toks:=s2.toks+([]:List (Str×Value)).length}:=by
  show vx (λn s'=>∃i σ' aF H',Inv X' [] σ' H' s'∧tn i s'.heap∧(∀b∈fp,H' b=none)∧W i n σ' aF H') ?_ m0
   ⟨0,_,_,_,J1,T.keep _ _ _ qm λb _ o e=>kk b o e,λb hb=>by rw[BC (Bm (eQ b hb))];show(f2 b hb).1,w0⟩
  intro n s3⟨i,σ3,aF,H3,I3,yq,zf,w3⟩;let⟨PH,w4⟩:=turn i n σ3 aF H3 w3;rw[←Cj,←aX,←pX,←wX];let jI:∀{α:Type} {t:Sem α} {Q1:α→Shared→Prop} {E1:xz} {s:Shared},wpAny (model X'.prog X'.w) X'.A t Q1 X'.xe s→wpAny (model X'.prog X'.w) X'.A t Q1 E1 s:=λ{α t Q1 E1 s} h=>by
   rw[xX]at h;show Bt h (λ_ _ q=>q) λ_ _ f=>f.elim
  rcases w4 with⟨stop,qn⟩|⟨go,hz,N,hN,step⟩
  ·let d:=T.done X' pX wX kX cX i [] s3 σ3 H3 X'.xe I3 (λb hb=>fX b hb (zf b hb)) yq stop
   rw[←pX,←wX]at d;show jI (AQ d λr s4 ξ=>Ξ02 ξ λhr I4=>?_);subst hr;let f4:=fin I4 qn;rw[←pX,←wX,←aX]at f4;show f4
  ·let d:=T.item X' pX wX kX cX i [] s3 σ3 H3 X'.xe I3 (λb hb=>fX b hb (zf b hb)) yq go
   rw[←pX,←wX]at d;show jI (AQ d λr s4 ξ=>Ξ12 ξ λu hr h4=>?_);subst hr;show jI (AQ h4 λ_ s5 ξ=>Ξ25 ξ λx H5 I5 r5 y5 tI G4=>?_);let HG:=I5.pinned (λb hb=>fX b hb (G4 b hb)) (T.obj _ _ tI);let again:∀{σ7:St} {H7:AA} {s7:Shared} {oG:List (AI×V)},Inv X' ([]++Im fp s5.heap) σ7 H7 s7→N σ7 oG H7→
     ∃m,m<n∧∃i σ' aF H',Inv X' [] σ' H' s7∧tn i s7.heap∧(∀b∈fp,H' b=none)∧W i m σ' aF H':=λ{σ7 H7 s7 oG} I7 n7=>by
    let⟨m',hm,w7⟩:=hN _ _ _ n7;show⟨m',hm,i+1,σ7,oG,H7,I7.iM,T.keep _ _ _ tI λb hb o e=>(I7.pin (b,o) (D2 _ (D2 _ (Gy hb e)))).1,λb hb=>?_,w7⟩;let⟨o,e,d⟩:=T.obj _ _ tI b hb;show(I7.pin (b,o) (D2 _ (D2 _ (Gy hb e)))).2.1
   show jI (AQ (J7 _ s5 σ3 H5 x u _ HG r5 (step x H5 y5)) λ_ s6 ξ=>Ξ22 ξ λσ6 H6 I6 q6=>?_);show jI (AQ (WZ _ s6 σ6 H6 _ I6 q6) λok s6 ξ=>Ξ12 ξ λH6 I6 q6=>?_);cases ok with
   |false=>show again I6 q6
   |true=>
   show jI (AQ (hk' _ s6 σ6 H6 _ I6 q6) λu7 s7 ξ=>Ξ23 ξ λy7 H7 I7 r7 q7=>?_);show jI (AQ (Dx _ s7 σ6 H7 _ I7 q7) λu8 s8⟨y8,H8,I8,r8,k8,e8,d8,q8⟩=>?_);subst e8;show jI (YT I8 d8 hz r7 r8 λs9 I9=>again I9 q8)
 show codeAny_compStart_dict loop (T.self X.A 0 _ _ _ (T.keep _ _ _ qm λb _ o e=>kk b o e) loop)
end
section
variable {P: Program}{w: World}{A: Around}{E: Value→Shared→Prop}
def i8{Q:Option Bool×Unit→Shared→Prop}:∀{l:List Value} {ks:List AI},ItemsAre (Ai P w) ks l→(∀r,Q r s)→wpAny (model P w) A (forIn l ((none:Option Bool),()) λx __s=>do
      let __do_lift ←hashByValue 7 x
      if(!__do_lift)=true then pure (ForInStep.done (some false,()))else pure (ForInStep.yield (none,()))) Q E s
 |_,_,.nil,h=>by rw[O1];show Af (h _)
 |_,_,.cons e r,h=>by
  rw[NT];rcases IP e with⟨i,t,rfl,rfl⟩|⟨x,t,rfl,rfl⟩
  ·show AE (AE ?_)
   rw[show hashByValue 7 (.int i t)=pure true from by simp[hashByValue]];show Af ?_;rw[AV (by simp)];show Af (i8 r h)
  ·show AE (AE ?_)
   rw[show hashByValue 7 (.str x t)=pure false from by simp[hashByValue]];show Af ?_;rw[Aa (by simp)];show Af (Af (h _))
def yH{b:Addr}{ks:List AI}{Q:Bool→Shared→Prop}(hk:(tupleKind (Ai P w)).is s.heap ks b)(h:∀r,Q r s):wpAny (model P w) A (hashByValue 8 (.ref b)) Q E s:=by
 let⟨o,items,n,ho,hc,hd,hi⟩:=hk;unfold hashByValue;show AE (wpAny_specialOf ⟨o,ho,hc⟩ PySem.F.slot_tuple_hash.lookup ?_);split
 ·show AE (IW ho hd ?_)
  show AE ?_;show wpAny _ _ (forIn items _ _) _ _ s
  rw[←Array.forIn_toList];show i8 hi λr=>?_;dsimp only;split
  ·show Af (h _)
  ·show Af (h _)
 all_goals (rename_i e;first|(show absurd rfl e)|(exfalso;simp at e;done)|(exfalso;simp_all))
end
def aaP{X:Cx}(hu:X.A.units<cLine):jB X (compareOp .Eq) (λx y H Q=>∃a vs,x=.non∧y=.ref a∧H a=some (.tup vs)∧Q (.bl false) H):=by
 intro v4 s σ H x y v u Q I rx ry h;let⟨a,vs,rfl,rfl,hp,q⟩:=h;cases rx;cases ry;let⟨aV,rv,pl,hz⟩:=I.tuple (eJ.of (K:=X.K) hp);show SeqAt.RcAt.none_tuple pl hu _ _ _ _ ⟨.bl false,H,I,rfl,q⟩
end L2
namespace L2
open PySem
variable {m j:Nat}{t:SetTable}
abbrev Bs(m:Nat):List Nat:=(List.range 8).filter (m.testBit ·)
abbrev Dn(m j:Nat):Nat:=((List.range j).filter (m.testBit ·)).length
def bH:∀m<256,∀j<8,SetTable.below (Bs m).toArray j=Dn m j:=by done
def Vv:∀m<256,∀j<8,(Bs m)[Dn m j]?=some j↔m.testBit j=true:=by done
def T4:∀m<256,∀j<8,m.testBit j=false→Bs (m+2^j)=(Bs m).take (Dn m j)++j::(Bs m).drop (Dn m j):=by done
def gW:∀m<256,∀j<8,m.testBit j=false→m+2^j<256∧∀i<8,(m+2^j).testBit i=(m.testBit i||i==j):=by done
def abb:∀m<256,(Bs m).length≤4→∃j<8,m.testBit j=false:=by done
def xf:j∈Bs m↔j<8∧m.testBit j=true:=by unfold Bs;rw[abQ,abC]
abbrev MC(x:Nat×Nat):Nat×Nat:=((x.1*5+1+x.2/32)%8,x.2/32)
abbrev Ei(h:Int):Nat→Nat×Nat
 |0=>(SetTable.bits h%8,SetTable.bits h)
 |k+1=>MC (Ei h k)
abbrev BA(h:Int)(k:Nat):Nat:=(Ei h k).1
def Fz(h:Int):∀k,BA h k<8
 |0=>Nat.mod_lt _ (by decide)
 |k+1=>Nat.mod_lt _ (by decide)
def aj(h:Int):∀k,(Ei h k).2=SetTable.bits h/32^k
 |0=>by show SetTable.bits h=_;rw[Nat.pow_zero,Nat.div_one]
 |k+1=>by show(Ei h k).2/32=_;rw[aj h k,Nat.div_div_eq_div_mul,Nat.pow_succ]
def acw(h:Int):SetTable.bits h<2^64:=by unfold SetTable.bits;lia
abbrev OV:Nat→Nat→Nat
 |0,i=>i
 |r+1,i=>(OV r i*5+1)%8
def up:∀i<8,∀j<8,∃r<8,OV r i=j:=by done
def bR(h:Int):∀r,Ei h (13+r)=(OV r (BA h 13),0)
 |0=>Prod.ext rfl (by show(Ei h 13).2=0;rw[aj,Nat.div_eq_of_lt (EE (acw h) (by decide))])
 |r+1=>by
  show MC (Ei h (13+r))=_
  rw[bR h r];unfold MC;rw[OV];simp
def xU(h:Int)(hj:j<8):∃k<21,BA h k=j:=by
 let⟨r,hr,e⟩:=up (BA h 13) (Fz h 13) j hj;show⟨13+r,by lia,by unfold BA;rw[bR];show e⟩
def cZ{p:Nat→Bool}:∀{n:Nat},p n=true→∃k,k≤n∧p k=true∧∀i<k,p i=false
 |0,h=>⟨0,Av _,h,λi hi=>absurd hi (Jx _)⟩
 |n+1,h=>by
  by_cases c:∃i,i≤n∧p i=true
  ·let⟨i,hi,pi⟩:=c
   let⟨k,hk,a,b⟩:=cZ pi;show⟨k,by lia,a,b⟩
  ·show⟨n+1,Av _,h,λi hi=>by cases e:p i with|false=>rfl|true=>show absurd ⟨i,by lia,e⟩ c⟩
def abw(hm:m<256)(hl:(Bs m).length≤4)(h:Int):∃k,k<21∧m.testBit (BA h k)=false∧∀i<k,m.testBit (BA h i)=true:=by
 let⟨j,hj,hf⟩:=abb m hm hl;let⟨k,hk,e⟩:=xU h hj;let⟨q,hq,a,b⟩:=cZ (p:=λi=>!m.testBit (BA h i)) (n:=k) (by rw[e,hf];rfl);show⟨q,by lia,by simpa using a,λi hi=>by simpa using b i hi⟩
abbrev FX(x:Nat×Nat):SetTable.Probe:={j:=x.1,more:=0,i:=x.1,perturb:=x.2,dummy:=none}
abbrev T8(t:SetTable)(m:Nat):Prop:=t.mask=7∧t.place=(Bs m).toArray∧t.dummies=#[]
def T8.adv(h:T8 t m)(x:Nat×Nat):t.advance (FX x)=FX (MC x):=by
 unfold SetTable.advance;rw[AV (show ¬(FX x).more>0 from IQ 0),h.1];unfold SetTable.leap SetTable.runEnd;dsimp only;rw[AV (by lia)];unfold FX MC;simp
def T8.start(ht:T8 t m)(h:Int):t.probeStart h=FX (Ei h 0):=by
 unfold SetTable.probeStart;rw[ht.1];unfold SetTable.runEnd;dsimp only;rw[AV (by lia)];unfold FX Ei;simp
def T8.slot(ht:T8 t m)(hm:m<256)(hj:j<8):t.slot j=if m.testBit j=true then .live (Dn m j)else .empty:=by
 unfold SetTable.slot;rw[ht.2.1,ht.2.2,bH m hm j hj];dsimp only;rw[NK];let g:=Vv m hm j hj;cases e:m.testBit j with
 |true=>rw[g.mpr e,Aa (by simp),Aa rfl]
 |false=>
  rw[AV (λz=>by have:=g.mp (by simpa using z);rw[e]at this;cases this),AV (show ¬SetTable.has #[] j=true from λz=>by simp[SetTable.has]at z),AV (by simp)]
def WN{t:SetTable}{m:Nat}(ht:T8 t m)(hm:m<256){h:Int}{f:Nat→Int}{K:Nat}(hK:m.testBit (BA h K)=false)(hb:∀i<K,m.testBit (BA h i)=true):
  ∀(d k fuel:Nat),k+d=K→d<fuel→
   (SetTable.probe.go t f h fuel (FX (Ei h k))=some (.empty (BA h K) none)∧∀i,k≤i→i<K→f (Dn m (BA h i))≠h) ∨
   ∃i,k≤i∧i<K∧f (Dn m (BA h i))=h∧(∀i',k≤i'→i' < i→f (Dn m (BA h i'))≠h)∧
    SetTable.probe.go t f h fuel (FX (Ei h k))=some (.candidate (BA h i) (Dn m (BA h i)) (FX (Ei h (i+1))))
 |_,_,0,_,hf=>absurd hf (Jx _)
 |0,k,fuel+1,e,_=>by
  obtain rfl:k=K:=by lia
  show .inl ⟨?_,λi a b=>absurd b (by lia)⟩;rw[SetTable.probe.go];show(match t.slot (BA h k)with|.empty=>_|.dummy=>_|.live i=>_)=_
  rw[ht.slot hm (Fz h k),hK];rfl
 |d+1,k,fuel+1,e,hf=>by
  let hk:k<K:=by lia
  let step:SetTable.probe.go t f h (fuel+1) (FX (Ei h k))=if(f (Dn m (BA h k))==h)=true then some (.candidate (BA h k) (Dn m (BA h k)) (FX (Ei h (k+1))))else SetTable.probe.go t f h fuel (FX (Ei h (k+1))):=by
   rw[SetTable.probe.go];show(match t.slot (BA h k)with|.empty=>_|.dummy=>_|.live i=>_)=_
   rw[ht.slot hm (Fz h k),hb k hk,Aa rfl];dsimp only;rw[ht.adv];rfl
  by_cases c:f (Dn m (BA h k))=h
  ·show .inr ⟨k,Av _,hk,c,λi a b=>absurd b (by lia),by rw[step,Aa (by rw[c];show Nk _)]⟩
  ·rw[step,AV (by simpa using c)]
   rcases WN ht hm hK hb d (k+1) fuel (by lia) (by lia)with⟨a,b⟩|⟨i,a,b,c1,d1,e1⟩
   ·show .inl ⟨a,λi x y=>by by_cases z:i=k;(subst z;show c);show b i (by lia) y⟩
   ·show .inr ⟨i,by lia,b,c1,λi' x y=>by by_cases z:i'=k;(subst z;show c);show d1 i' (by lia) y,e1⟩
def T8.put(ht:T8 t m)(hm:m<256)(hj:j<8)(hf:m.testBit j=false):T8 (t.put j).1 (m+2^j)∧(t.put j).2=Dn m j:=by
 unfold SetTable.put;rw[ht.2.1,ht.2.2,bH m hm j hj];show⟨⟨ht.1,?_,?_⟩,rfl⟩
 ·show SetTable.insertAt (Bs m).toArray (Dn m j) j=_
  apply Array.ext'
  rw[SetTable.toList_insertAt,T4 m hm j hj hf]
 ·rfl
def T8.full(ht:T8 t m)(hl:(Bs m).length≤4):t.tooFull=false:=by
 unfold SetTable.tooFull SetTable.fill;rw[ht.2.1,ht.2.2,ht.1];simp;lia
def T8.fits(ht:T8 t m)(hl:(Bs m).length≤4):t.fits (Bs m).length=true:=by
 unfold SetTable.fits SetTable.fill;rw[ht.2.1,ht.2.2,ht.1];simp;lia
def vX(hm:m<256)(hj:j<8)(hf:m.testBit j=false):(Bs (m+2^j)).length=(Bs m).length+1:=by
 rw[T4 m hm j hj hf,B3,D7,EH,ET];lia
end L2
namespace L2
open PySem PySem.Spec PyProof.Rows
variable {Q:Bool→Shared→Prop}{b a:Addr}{ks:List AI}{m j K k:Nat}{t:SetTable}{g:Nat→Addr×List AI}{hf:List AI→Int}{h:Heap}{f:Nat→Int}{P: Program}{w: World}{H:AA}{L:List (Addr×List AI)}{q:Addr×List AI}{A: Around}{E: Value→Shared→Prop}{s: Shared}
section
def aU{Q:Option Bool×Unit→Shared→Prop}{d:Nat}:∀{l:List Value} {ks:List AI},ItemsAre (Ai P w) ks l→Q (none,()) s→wpAny (model P w) A (forIn l ((none:Option Bool),()) λx __s=>do
      let __do_lift ←ofAClassStatement d x
      if __do_lift=true then pure (ForInStep.done (some true,()))else pure (ForInStep.yield (none,()))) Q E s
 |_,_,.nil,h=>by rw[O1];show Af h
 |_,_,.cons e r,h=>by
  rw[NT];let ee:∀v:Value,carriedByValue v=true→ofAClassStatement d v=pure false:=λv hv=>by cases v<;>first|(cases hv;done)|(cases d<;>rfl)|(unfold ofAClassStatement;rfl)
  rw[ee _ ((Ai P w).byValue _ _ e)];show AE (AE (Af ?_));rw[AV (by simp)];show Af (aU r h)
def bB(hk:(tupleKind (Ai P w)).is s.heap ks b)(h:Q false s):wpAny (model P w) A (ofAClassStatement 8 (.ref b)) Q E s:=by
 let hT:=IsTupleKey.typeIs hk;let⟨o,items,n,ho,hc,hd,hi⟩:=hk;unfold ofAClassStatement;show AE (MY hT ?_);dsimp only;rw[Aa (by decide)];show AE (Af ?_);rw[AV (by simp)];show AE (IW ho hd ?_);dsimp only;show AE ?_;rw[←Array.forIn_toList];show aU hi ?_;dsimp only;show Af h
def wZ(hk:(tupleKind (Ai P w)).is s.heap ks b){l:List Value}(hl:∀y∈l,∃c HP,y=.ref c∧(tupleKind (Ai P w)).is s.heap HP c)(h:Q false s):
  wpAny (model P w) A (searchCouldBeSeen (.ref b) l) Q E s:=by
 unfold searchCouldBeSeen;show AE ?_;show wpAny_forIn_list _ (λv6 r s'=>r.1=none∧s'=s∧∀y∈v6,y∈l) _ ?_ ?_ _ _ ⟨rfl,rfl,λy hy=>hy⟩
 ·intro y v6 r s'⟨hr,rfl,xv⟩
  let⟨c,HP,rfl,hc⟩:=hl y (xv y Il);let hn:∀u∈v6,u∈l:=λu hu=>xv u (Dm _ hu);dsimp only;split
  ·show Af ⟨rfl,rfl,hn⟩
  ·show AE ((tupleKind (Ai P w)).quiet hk ?_)
   rw[AV (by simp)];show AE ((tupleKind (Ai P w)).quiet hc ?_);rw[AV (by simp)];show AE (bB hk ?_);rw[AV (by simp)];show AE (bB hc ?_);rw[AV (by simp)];show Af ⟨rfl,rfl,hn⟩
 ·rintro⟨r1,r2⟩ s' ⟨hr,rfl,_⟩
  simp only at hr;subst hr;show Af h
abbrev E7(hf:List AI→Int)(m:Nat)(g:Nat→Addr×List AI):Array (Int×Value):=((Bs m).map λj=>(hf (g j).2,Value.ref (g j).1)).toArray
def Nq(hf:List AI→Int)(g:Nat→Addr×List AI)(hm:m<256)(hj:j∈Bs m):(E7 hf m g)[Dn m j]?=some (hf (g j).2,Value.ref (g j).1):=by
 unfold E7;rw[NK,He,(Vv m hm j (xf.mp hj).1).mpr (xf.mp hj).2];rfl
def Mm(hf:List AI→Int)(m:Nat)(g:Nat→Addr×List AI):(E7 hf m g).size=(Bs m).length:=by unfold E7;simp
abbrev Pe(hf:List AI→Int)(m:Nat)(g:Nat→Addr×List AI):Prop:=∀j∈Bs m,∃k,BA (hf (g j).2) k=j∧∀i<k,m.testBit (BA (hf (g j).2) i)=true
def au{h:Int}{r:Option SetTable.Met}(ep:t.probe f h (FX (Ei h k))=r)(ht:T8 t m)(hm:m<256)(hK:m.testBit (BA h K)=false)(hb:∀i<K,m.testBit (BA h i)=true)(hk:k≤K)(OL:K<21)
  (he:∀j∈Bs m,f (Dn m j)=hf (g j).2):(r=some (.empty (BA h K) none)∧∀i,k≤i→i<K→hf (g (BA h i)).2≠h) ∨
   ∃i,k≤i∧i<K∧hf (g (BA h i)).2=h∧(∀i',k≤i'→i' < i→hf (g (BA h i')).2≠h)∧r=some (.candidate (BA h i) (Dn m (BA h i)) (FX (Ei h (i+1)))):=by
 let DA:∀i<K,BA h i∈Bs m:=λi hi=>xf.mpr ⟨Fz h i,hb i hi⟩;subst ep;unfold SetTable.probe;rcases WN ht hm (f:=f) hK hb (K-k) k (10*SetTable.turns t.mask) (by lia) (by rw[ht.1];unfold SetTable.turns;lia)with⟨e,n⟩|⟨i,a,b,c,d,e⟩
 ·show .inl ⟨e,λi x y=>by rw[←he _ (DA i y)];show n i x y⟩
 ·show .inr ⟨i,a,b,by rw[←he _ (DA i b)];show c,λi' x y=>by rw[←he _ (DA i' (by lia))];show d i' x y,e⟩
def wj{h:Int}(hn:∀q,t.probe f h (FX (Ei h k))=some q→False)(ht:T8 t m)(hm:m<256)(hK:m.testBit (BA h K)=false)(hb:∀i<K,m.testBit (BA h i)=true)(hk:k≤K)(OL:K<21)
  (he:∀j∈Bs m,f (Dn m j)=hf (g j).2):False:=by
 rcases au (g:=g) (hf:=hf) (f:=f) (r:=_) rfl ht hm hK hb hk OL he with⟨e,n⟩|⟨i,i1,i2,i3,i4,e⟩
 ·show hn _ e
 ·show hn _ e
def zk{o:Obj}{ep:Nat}{Q:SetFound→Shared→Prop}(hu:A.units<cLine)
  (hg:s.heap.get? a=some o) (hd:o.data=.set (E7 (tupleKind (Ai P w)).hash m g) ep t) (ht:T8 t m) (hm:m<256) (hl:(Bs m).length≤4) (hr:Pe (tupleKind (Ai P w)).hash m g)
  (Cb:∀j∈Bs m,(tupleKind (Ai P w)).is s.heap (g j).2 (g j).1) (hx:(tupleKind (Ai P w)).is s.heap ks b)
  (hK:m.testBit (BA ((tupleKind (Ai P w)).hash ks) K)=false) (hb:∀i<K,m.testBit (BA ((tupleKind (Ai P w)).hash ks) i)=true) (OL:K<21)
  (hF:(∀j∈Bs m,(g j).2≠ks)→Q (.free (BA ((tupleKind (Ai P w)).hash ks) K) false) s) (hT:(∃j∈Bs m,(g j).2=ks)→Q (.there none) s) :
  ∀(d k fuel:Nat) (ER:Option SetTable.Probe),k+d=K→d<fuel→ER.getD (t.probeStart ((tupleKind (Ai P w)).hash ks))=FX (Ei ((tupleKind (Ai P w)).hash ks) k)→
   (∀i<k,(g (BA ((tupleKind (Ai P w)).hash ks) i)).2≠ks)→wpAny (model P w) A (setSearchFrom a (.ref b) ((tupleKind (Ai P w)).hash ks) true fuel ER) Q E s:=by
 let GX:t.fits (E7 (tupleKind (Ai P w)).hash m g).size=true:=by rw[Mm];show ht.fits hl
 intro d;induction d using Nat.strongRecOn with
 |ind d ih=>
  intro k fuel ER hkd PD zO Pz;cases fuel with
  |zero=>lia
  |succ fuel=>
   unfold setSearchFrom;show AE (Oa hg hd GX ?_);dsimp only;rw[AV (show ¬t.gaveWay=true from λe=>by unfold SetTable.gaveWay at e;rw[ht.1]at e;simp at e),zO];split
   ·rename_i hp
    rcases au (g:=g) (hf:=(tupleKind (Ai P w)).hash) hp ht hm hK hb (by lia) OL (λj hj=>show(((E7 (tupleKind (Ai P w)).hash m g)[Dn m j]?).map (·.1)).getD 0=_ from by rw[Nq _ g hm hj];rfl)with⟨e,n⟩|⟨i,i1,i2,i3,i4,e⟩
    ·cases e
     dsimp only;show Af (hF λj hj e=>?_);let⟨k0,e0,b0⟩:=hr j hj;rw[e]at e0 b0;let h1:k0<K:=by
      show Nat.lt_of_not_le λz=>?_;have:m.testBit (BA ((tupleKind (Ai P w)).hash ks) K)=true:=by
       rcases Nat.lt_or_eq_of_le z with z|z
       ·show b0 K z
       ·rw[z,e0];show(xf.mp hj).2
      rw[hK]at this;cases this
     by_cases c:k0<k
     ·show Pz k0 c (by rw[e0];show e)
     ·show n k0 (by lia) h1 (by rw[e0,e])
    ·cases e
     dsimp only;let hj:BA ((tupleKind (Ai P w)).hash ks) i∈Bs m:=xf.mpr ⟨Fz _ _,hb i i2⟩;let lst:∀y∈List.map (λx=>x.snd) (Array.filter (λx=>x.fst ==(tupleKind (Ai P w)).hash ks) (E7 (tupleKind (Ai P w)).hash m g)).toList,∃c HP,y=.ref c∧(tupleKind (Ai P w)).is s.heap HP c:=λy hy=>by
      let⟨e,he,rfl⟩:=aap.mp hy;let he:=(abQ.mp (by rwa[Array.toList_filter]at he)).1;unfold E7 at he;let⟨j,hj,rfl⟩:=aap.mp he;show Ψ2 _ _ ⟨rfl,Cb j hj⟩
     by_cases SS:(!t.led)=true
     rw[Aa SS];show AE (wZ hx lst ?_);rw[AV (by simp)];rotate_left;rw[AV SS]
     all_goals
      rw[Nq _ g hm hj];dsimp only;show AE (Hc ((tupleKind (Ai P w)).eqBool hu (Cb _ hj) hx ?_));show AE (Oa hg hd GX ?_);dsimp only;by_cases c:(g (BA ((tupleKind (Ai P w)).hash ks) i)).2=ks
      ·rw[BE c,Aa (by simp)];show Af (hT ⟨_,hj,c⟩)
      ·rw[CA c,AV (by simp)]
       let sm:t.sameMemory t.moves t.mask=some true:=by unfold SetTable.sameMemory;rw[Aa (Nk _)]
       rw[sm];dsimp only;rw[Aa rfl,ht.slot hm (Fz _ _),hb i i2,Aa rfl];dsimp only;rw[Nq _ g hm hj];dsimp only;show AE (wpAny_isSame_ref_self ?_);rw[Aa rfl];show AE (Af ?_);dsimp only;rw[AV (by simp)];show ih (K-(i+1)) (by lia) (i+1) fuel _ (by lia) (by lia) rfl (λi' J6=>?_);by_cases c1:i' < k
       ·show Pz i' c1
       by_cases c2:i'=i
       ·rw[c2];show c
       ·exactλz=>i4 i' (by lia) (by lia) (by rw[z])
   ·rename_i hn
    show(wj (g:=g) (hf:=(tupleKind (Ai P w)).hash) hn ht hm hK hb (by lia) OL (λj hj=>show(((E7 (tupleKind (Ai P w)).hash m g)[Dn m j]?).map (·.1)).getD 0=_ from by rw[Nq _ g hm hj];rfl)).elim
end
abbrev setB(hf:List AI→Int)(a:Addr)(L:List (Addr×List AI))(h:Heap):Prop:=∃(o:Obj) (ep:Nat) (t:SetTable) (m:Nat) (g:Nat→Addr×List AI),
 h.get? a=some o∧o.ExactSet∧o.data=.set (E7 hf m g) ep t∧T8 t m∧m<256∧Pe hf m g∧((Bs m).map g).Perm L
def hV{P:Program}{w:World}(q:setB hf a L h):cA P w H h a (.ext (setB hf a L)):=by
 show⟨q,?_,λh1 h2 q1 k=>?_⟩
 ·let⟨o,_,_,_,_,e,_⟩:=q;show⟨o,e⟩
 ·let⟨o,ep,t,m,g,e,r⟩:=q1;show Ψ5 o ep t m g ⟨k o e,r⟩
abbrev Gd(a:Addr)(n:Nat)(h:Heap):Prop:=∃o es ep t,h.get? a=some o∧o.ExactSet∧o.data=.set es ep t∧t.fits es.size=true∧es.size=n
def yz{P:Program}{w:World}{n:Nat}(q:Gd a n h):cA P w H h a (.ext (Gd a n)):=by
 show⟨q,?_,λh1 h2 q1 k=>?_⟩
 ·let⟨o,_,_,_,e,_⟩:=q;show⟨o,e⟩
 ·let⟨o,es,ep,t,e,r⟩:=q1;show Ψ4 o es ep t ⟨k o e,r⟩
def setB.Yw(q:setB hf a L h)(hL:L.length≤4):Gd a L.length h:=by
 let⟨o,ep,t,m,g,e,x,d,ht,hm,hr,hp⟩:=q;let hl:(Bs m).length=L.length:=by rw[←hp.length_eq,Ag]
 show Ψ4 o _ ep t ⟨e,x,d,by rw[Mm];show ht.fits (by lia),by rw[Mm,hl]⟩
def acR{led:Bool}(e:h.get? a=some {cls:=.type "set",dict:=none,data:=.set #[] 0 (.fresh 0 0 led)}):setB hf a [] h:=
 ⟨_,0,_,0,λ_=>(0,[]),e,⟨rfl,rfl,rfl⟩,rfl,⟨rfl,rfl,rfl⟩,by decide,λj hj=>absurd (xf.mp hj).2 (by simp),.nil⟩
abbrev FP(L:List (Addr×List AI))(q:Addr×List AI):List (Addr×List AI):=if L.any (λp=>decide (p.2=q.2))=true then L else q::L
abbrev Gp(g:Nat→Addr×List AI)(j:Nat)(q:Addr×List AI):Nat→Addr×List AI:=λi=>if i=j then q else g i
def Vu{α:Type}(f:Nat→Addr×List AI→α){l:List Nat}(h:j∉l):l.map (λi=>f i (Gp g j q i))=l.map λi=>f i (g i):=
 List.map_congr_left λi hi=>by unfold Gp;rw[AV (show ¬i=j from λe=>h (by rw[←e];show hi))]
def dy{α:Type}(f:Nat→Addr×List AI→α)(hm:m<256)(hj:j<8)(hf:m.testBit j=false):
  (Bs (m+2^j)).map (λi=>f i (Gp g j q i))=((Bs m).map λi=>f i (g i)).take (Dn m j)++f j q::((Bs m).map λi=>f i (g i)).drop (Dn m j):=by
 let hn:j∉Bs m:=λe=>by have:=(xf.mp e).2;rw[hf]at this;cases this
 rw[T4 m hm j hj hf,Au,CT,Vu f (λe=>hn (MU e)),Vu f (λe=>hn (Lh e)),List.map_take,List.map_drop];unfold Gp;rw[Aa rfl]
def ac3(hm:m<256)(hj:j<8)(hb:m.testBit j=false):
  SetTable.insertAt (E7 hf m g) (Dn m j) (hf q.2,.ref q.1)=E7 hf (m+2^j) (Gp g j q):=by
 apply Array.ext'
 rw[SetTable.toList_insertAt];unfold E7;rw[dy (λ_ p=>(hf p.2,Value.ref p.1)) hm hj hb]
def yw(hm:m<256)(hr:Pe hf m g)(hK:m.testBit (BA (hf q.2) K)=false)(hb:∀i<K,m.testBit (BA (hf q.2) i)=true):
  Pe hf (m+2^BA (hf q.2) K) (Gp g (BA (hf q.2) K) q):=by
 let pb:=(gW m hm _ (Fz (hf q.2) K) hK).2;let mo:∀i,i<8→m.testBit i=true→(m+2^BA (hf q.2) K).testBit i=true:=λi hi e=>by rw[pb i hi,e];rfl
 intro j hj;let⟨j8,jb⟩:=xf.mp hj;unfold Gp;by_cases c:j=BA (hf q.2) K
 ·rw[Aa c]
  show⟨K,c.symm,λi hi=>mo _ (Fz _ _) (hb i hi)⟩
 ·rw[AV c]
  rw[pb j j8]at jb;let⟨k,e,r⟩:=hr j (xf.mpr ⟨j8,by simpa[c]using jb⟩);show⟨k,e,λi hi=>mo _ (Fz _ _) (r i hi)⟩
def ado(hm:m<256)(hj:j<8)(hb:m.testBit j=false)(hp:((Bs m).map g).Perm L):((Bs (m+2^j)).map (Gp g j q)).Perm (q::L):=by
 let e:=dy (λ_ p=>p) (g:=g) (q:=q) hm hj hb;let e1:(Bs (m+2^j)).map (Gp g j q)=_:=e;rw[e1];show List.perm_middle.trans (.cons _ ?_);rw[List.take_append_drop];show hp
section
def oC{D:Addr}{Q:xz}(hu:A.units+1<cLine)(hS:setB (tupleKind (Ai P w)).hash D L s.heap)(hL:L.length≤3)
  (hk:(tupleKind (Ai P w)).is s.heap ks b) (hks:∀q∈L,(tupleKind (Ai P w)).is s.heap q.2 q.1)
  (h:∀h' t',Heap.SameBut D s.heap h'→setB (tupleKind (Ai P w)).hash D (FP L (b,ks)) h'→Q .none {s with heap:=h',toks:=t'}):wpAny (model P w) A (call (.builtin "set.add") [.ref D,.ref b]) Q E s:=by
 let hS0:=hS;let⟨o,ep,t,m,g,e,x,d,ht,hm,hr,hp⟩:=hS;let hl:(Bs m).length=L.length:=by rw[←hp.length_eq,Ag]
 let GX:t.fits (E7 (tupleKind (Ai P w)).hash m g).size=true:=by rw[Mm];show ht.fits (by lia)
 let Cb:∀j∈Bs m,(tupleKind (Ai P w)).is s.heap (g j).2 (g j).1:=λj hj=>hks _ (hp.mem_iff.mp (aap.mpr ⟨j,hj,rfl⟩));let Zy:ks∈L.map Prod.snd↔∃j∈Bs m,(g j).2=ks:=by
  constructor
  ·intro z
   let⟨q,hq,e⟩:=aap.mp z;let⟨j,hj,rfl⟩:=aap.mp (hp.mem_iff.mpr hq);show⟨j,hj,e⟩
  ·intro⟨j,hj,e⟩
   show aap.mpr ⟨g j,hp.mem_iff.mp (aap.mpr ⟨j,hj,rfl⟩),e⟩
 let⟨K,OL,hK,hb⟩:=abw hm (by lia:(Bs m).length≤4) ((tupleKind (Ai P w)).hash ks);show JW PySem.F.slot_set_add ⟨_,e,x.1⟩ PySem.F.entry_set_add ?_ (PySem.F.args_set_add_2 _ _);unfold Builtin.«set.add» Builtin.Frozenset.oneOther;simp only[List.isEmpty_nil,bind_assoc];unfold Builtin.Frozenset.addrOf setAdd;show AE (Af ?_)
 try dsimp only
 show AE (Af ?_)
 try dsimp only
 show AE ?_;show Hc ?_;show AE ((tupleKind (Ai P w)).pyHash (K5 hu) hk ?_);unfold setAddHashed setAddHashedIn;show Hc (AE (Oa (s:={s with toks:=s.toks+_}) e d GX ?_));dsimp only;rw[AV (show ¬byScan (Value.ref b) (E7 (tupleKind (Ai P w)).hash m g)=true from Cf)];unfold setSearch;show AE (zk (s:={s with toks:=s.toks+_}) (g:=g) (K:=K) (A:=A.in1) (show A.in1.units<cLine from hu) e d ht hm (by lia) hr Cb hk hK hb OL ?_ ?_ K 0 100000 none (by lia) (by lia) (ht.start _) (λi hi=>absurd hi (Jx _)))
 ·intro hn
  dsimp only;show AE (Oa (s:={s with toks:=s.toks+_}) e d GX ?_);dsimp only;let⟨UR,AX⟩:=ht.put hm (Fz ((tupleKind (Ai P w)).hash ks) K) hK;let ZE:∀(r:Bool),T8 (if r=true then(t.put (BA ((tupleKind (Ai P w)).hash ks) K)).1 else {(t.put (BA ((tupleKind (Ai P w)).hash ks) K)).1 with plain:=false}) (m+2^BA ((tupleKind (Ai P w)).hash ks) K):=λr=>by
   cases r
   ·show⟨UR.1,UR.2.1,UR.2.2⟩
   ·show UR
  let Zw:(Bs (m+2^BA ((tupleKind (Ai P w)).hash ks) K)).length=L.length+1:=by rw[vX hm (Fz _ _) hK,hl]
  let en:FP L (b,ks)=(b,ks)::L:=by
   unfold FP;rw[AV];intro z;let⟨q,hq,eq⟩:=abv.mp z;let⟨j,hj,rfl⟩:=aap.mp (hp.mem_iff.mpr hq);show hn j hj (Bd eq)
  rw[AX,show(SetTable.insertAt (E7 (tupleKind (Ai P w)).hash m g) (Dn m (BA ((tupleKind (Ai P w)).hash ks) K)) ((tupleKind (Ai P w)).hash ks,Value.ref b))=_ from ac3 (q:=(b,ks)) hm (Fz _ _) hK];let fin:∀t2:SetTable,T8 t2 (m+2^BA ((tupleKind (Ai P w)).hash ks) K)→∀tk,wpAny (model P w) A.in1 (do
    storeSet D (E7 (tupleKind (Ai P w)).hash (m+2^BA ((tupleKind (Ai P w)).hash ks) K) (Gp g (BA ((tupleKind (Ai P w)).hash ks) K) (b,ks))) t2
    if(!false&&t2.tooFull)=true then do setRelay D (SetTable.grown ((E7 (tupleKind (Ai P w)).hash m g).size+1));pure true else pure true) (λr s'=>∃h',Heap.SameBut D s.heap h'∧setB (tupleKind (Ai P w)).hash D (FP L (b,ks)) h'∧s'={s with heap:=h',toks:=tk}) E {s with toks:=tk}:=by
   intro t2 h2 tk;show AE (wpAny_storeSet_of (s:={s with toks:=tk}) e d ?_ (by rw[Mm,Zw];show Ci (by lia:L.length+1≤4) (by decide)));rw[h2.full (by lia),AV (by simp)];show Af ⟨_,To s.heap D _,?_,rfl⟩;let Zz:=Heap.get?_update_self (Obj.putSet (E7 (tupleKind (Ai P w)).hash (m+2^BA ((tupleKind (Ai P w)).hash ks) K) (Gp g (BA ((tupleKind (Ai P w)).hash ks) K) (b,ks))) t2) e (by rw[putSet_of _ t2 d];rfl);rw[putSet_of _ t2 d]at Zz;rw[en];show Ψ5 _ _ t2 _ _ ⟨Zz,⟨x.1,x.2.1,x.2.2⟩,rfl,h2,(gW m hm _ (Fz _ _) hK).1,yw (q:=(b,ks)) hm hr hK hb,ado hm (Fz _ _) hK hp⟩
  let fin2:∀t2:SetTable,T8 t2 (m+2^BA ((tupleKind (Ai P w)).hash ks) K)→∀tk,wpAny (model P w) A.in1 (do
    storeSet D (E7 (tupleKind (Ai P w)).hash (m+2^BA ((tupleKind (Ai P w)).hash ks) K) (Gp g (BA ((tupleKind (Ai P w)).hash ks) K) (b,ks))) t2
    if(!false&&t2.tooFull)=true then do setRelay D (SetTable.grown ((E7 (tupleKind (Ai P w)).hash m g).size+1));pure true else pure true)
    (λa s'=>wpAny (model P w) A.in1 (ret Value.none) (λfin s'=>∃v,fin=Fin.done (Flow.ret v)∧Q v s') E s') E {s with toks:=tk}:=
   λt2 h2 tk=>Bt (fin t2 h2 tk) (λr s' ξ=>Ξ13 ξ λh' a b c=>by subst c;show Af ⟨_,rfl,h _ _ a b⟩) λ_ _ q=>q
  split
  ·show AE (yH hk λr=>?_)
   show fin2 _ (ZE r) _
  ·show AE (Af ?_)
   show fin2 _ (ZE true) _
 ·intro hy
  dsimp only;let en:FP L (b,ks)=L:=by
   unfold FP;let⟨j,hj,eq⟩:=hy;rw[Aa (abv.mpr ⟨g j,hp.mem_iff.mp (aap.mpr ⟨j,hj,rfl⟩),BE eq⟩)]
  show Af (Af ⟨_,rfl,h s.heap _ ⟨rfl,λb _=>rfl⟩ (by rw[en];show hS0)⟩)
end
abbrev bL(hf:List AI→Int)(wi:Dc)(g:Dv)(te:Al)(own:List Str)(cap:List (Nat×Str)):Al:=λσ H Q=>wi σ H λJ H1=>∀D,H1 D=none→
 ∃W:Nat→Nat→St→List (Addr×List AI)→AA→Prop,(∃m,W 0 m (Fn own cap σ) [] (Ac H1 D (.ext (setB hf D []))))∧∀i m σ' L H',W i m σ' L H'→H' D=some (.ext (setB hf D L))∧
  ((J.stop i H'∧L.length≤4∧Q (.ref D) (Ac H' D (.ext (Gd D L.length))))∨(J.go i H'∧L.length≤3∧∃N:List (Addr×List AI)→St→AA→Prop,(∀L' σ H,N L' σ H→∃m',m' < m∧W (i+1) m' σ L' H)∧
   ∀x H2,J.rK i H' x H2→g x σ' H2 λσ3 H3=>te σ3 H3 λy H5=>∃(b:Addr) (ks:List AI),y=.ref b∧H5 b=some (.tup (ks.map BV))∧(∀q∈L,H5 q.1=some (.tup (q.2.map BV)))∧H5 D=some (.ext (setB hf D L))∧
   N (FP L (b,ks)) σ3 (Ac H5 D (.ext (setB hf D (FP L (b,ks)))))))
section
variable {X: Cx}{scope: Scope}{cl: List (Str×Addr)}{own: List Str}{cap: List (Nat×Str)}{tg iter elt: Expr}{wi: Dc}{g: Dv}{te: Al}{pos: Pos}
def aaT(hu:X.A.units+1<cLine)(c:dB X scope cl own cap)(hc:X.calm=true)(hi:PI X tg iter wi)
  (hg:∀C s H fp,PG (Ba X (own++cap.map (·.2)) scope cl C s H fp λ_ _=>False) tg g)
  (he:∀C s H fp,PE (Ba X (own++cap.map (·.2)) scope cl C s H fp λ_ _=>False) elt te) (hs:∀x,foldedSetIterable iter X.env x=pure x:=by intro _;rfl) :
  PE X (.SetComp elt [⟨tg,iter,[],0⟩] scope pos) (bL (tupleKind (Ai X.prog X.w)).hash wi g te own cap):=by
 show .mk ?_;intro v4 s σ H Q I h;show wpAny _ X.A (comprehension (.SetComp elt [⟨tg,iter,[],0⟩] scope pos) scope X.env _ (newSet (.type "set")) false (eval iter X.env)) _ _ s
 show LM (use:=none) rfl hs c.zt c.kind c.names (AQ (hi v4 s σ H _ I h) λv s1 h1=>AQ h1 λLG s2 h2=>?_);let⟨it,fp,tn,J,H2,e,I2,T,qm,f2,hw⟩:=h2;subst e;show wpAny_newSet_of (knd:=strKind X.prog X.w) λled hS=>MG c.cell (by intro y hy;simp at hy) (λh₁ jx iZ=>?_) c.kind;dsimp only at jx iZ ⊢;generalize hO:({cls:=.type "set",dict:=none,data:=.set #[] 0 (.fresh 0 0 led)}:Obj)=O at hS jx iZ ⊢;let hsz:(s2.heap.push O).objs.size=s2.heap.objs.size+1:=G6 _ _;let kk:∀b o,s2.heap.get? b=some o→h₁.get? b=some o:=λb o e=>iZ.extBut b o (by rw[hsz];show Bm (Iz (BF e))) (B9 _ (B9 _ e));let OK:setB (tupleKind (Ai X.prog X.w)).hash s2.heap.objs.size [] h₁:=acR (led:=led) (by rw[hO];show iZ.extBut _ _ (by rw[hsz];show Bm (JT _)) (B9 _ (DP _ (by rw[←hO];rfl))));rw[hsz]at jx ⊢;let eQ:∀b∈fp,b<s2.heap.objs.size:=λb hb=>by
  let⟨o,e,_⟩:=T.obj _ _ qm b hb;show BF e
 let⟨W,⟨m0,w0⟩,turn⟩:=hw s2.heap.objs.size I2.fresh;let J1:=QL (E:=λ_ _=>False) c I2 f2 eQ (tk:=s2.toks+([]:List (Str×Value)).length) kk (hV OK) jx;generalize fP:Ba X (own++cap.map (·.2)) scope cl (s2.heap.objs.size+1) s2 H2 fp (λ_ _=>False)=X' at J1;let J7:PG X' tg g:=fP ▸ hg _ _ _ _;let SY:PE X' elt te:=fP ▸ he _ _ _ _;let pX:X'.prog=X.prog:=by rw[←fP];rfl
 let wX:X'.w=X.w:=by rw[←fP];rfl
 let kX:X'.K=X.K:=by rw[←fP];rfl
 let aX:X'.A=X.A:=by rw[←fP];rfl
 let cX:X'.calm=true:=by rw[←fP];show hc
 let Cj:X'.env=compEnvC scope cl (s2.heap.objs.size+1) X.env:=by rw[←fP];rfl
 let xX:X'.xe=λ_ _=>False:=by rw[←fP];rfl
 let fX:∀b∈fp,∀{H':AA},H' b=none→Dq X' [] H' b:=λb hb {H'} hn=>by
  let o1:=(Gi (E:=λ_ _=>False) c I2 f2 eQ (C:=s2.heap.objs.size+1) (CE _)).HX b hb;let o2:=(Gi (E:=λ_ _=>False) c I2 f2 eQ (C:=s2.heap.objs.size+1) (CE _)).sE b hb;rw[←fP];show⟨hn,o1.1,o2,.inl hb,o1.2,λp hp=>absurd (show p∈([]:ac)from hp) (by simp)⟩
 let Kb:∀D C s' H' m,Inv X v4 σ H' s'→Dq X v4 H' C→s'.heap.Ns C m→Q (.ref D) H'→compPost (model X.prog X.w) X.A X.xe none (Bw X v4 σ Q) (.ref D) C (.ok .next) s':=by
  intro D C s' H' m I' hC hm q;show⟨m,hm,λh' i0=>Ψ2 (.ref D) H' ⟨?_,rfl,q⟩⟩;show I'.turned (t':=s'.toks) (λb o hb e=>(i0.2 b hb).trans e) hC.1 hC.2.1 hC.2.2.2.1 hC.2.2.2.2.1 hC.2.2.2.2.2
 let fin:∀{σ':St} {H':AA} {s':Shared},Inv X' [] σ' H' s'→Q (.ref s2.heap.objs.size) H'→compPost (model X.prog X.w) X.A X.xe none (Bw X v4 σ Q) (.ref s2.heap.objs.size) (s2.heap.objs.size+1) (.ok .next) s':=λ{σ' H' s'} J' q=>by
  rw[←fP]at J';let⟨A1,A2⟩:=Ms I2 f2 (CE _) J';let⟨m,hm,_⟩:=J'.loc;show Kb _ _ s' H' m A1 A2 hm q
 let loop:codeAny (model X.prog X.w) X.A (.compLoop (.SetComp elt [⟨tg,iter,[],0⟩] scope pos) 0 (.ref it) (.ref s2.heap.objs.size) (compEnvC scope cl (s2.heap.objs.size+1) X.env)) (compPost (model X.prog X.w) X.A X.xe none (Bw X v4 σ Q) (.ref s2.heap.objs.size) (s2.heap.objs.size+1))
   {s2 with heap:=h₁,toks:=s2.toks+([]:List (Str×Value)).length}:=by
  show eY (λn s'=>∃i σ' z H',Inv X' [] σ' H' s'∧tn i s'.heap∧(∀b∈fp,H' b=none)∧W i n σ' z H') ?_ m0
   ⟨0,_,[],_,J1,T.keep _ _ _ qm λb _ o e=>kk b o e,λb hb=>by rw[BC (Bm (eQ b hb))];show(f2 b hb).1,w0⟩
  intro n s3⟨i,σ3,z,H3,I3,yq,zf,w3⟩;let⟨PH,w4⟩:=turn i n σ3 z H3 w3;rw[←Cj,←aX,←pX,←wX];let jI:∀{α:Type} {t:Sem α} {Q1:α→Shared→Prop} {E1:xz} {s:Shared},wpAny (model X'.prog X'.w) X'.A t Q1 X'.xe s→wpAny (model X'.prog X'.w) X'.A t Q1 E1 s:=λ{α t Q1 E1 s} h=>by
   rw[xX]at h;show Bt h (λ_ _ q=>q) λ_ _ f=>f.elim
  rcases w4 with⟨stop,hz,qn⟩|⟨go,hz,N,hN,step⟩
  ·let d:=T.done X' pX wX kX cX i [] s3 σ3 H3 X'.xe I3 (λb hb=>fX b hb (zf b hb)) yq stop
   rw[←pX,←wX]at d;show jI (AQ d λr s4 ξ=>Ξ02 ξ λhr I4=>?_);subst hr;let YN:=(I4.cg _ _ PH).1;let I5:=I4.write (x:=s2.heap.objs.size) (e:=s2.heap.objs.size) (o:=.ext (Gd s2.heap.objs.size z.length)) (h':=s4.heap) (t':=s4.toks) (by rw[PH];show trivial) (.inl rfl) (λb' u hb hu=>hu) (by let⟨o,_,_,_,e,_⟩:=setB.Yw YN hz;show⟨o,e⟩) (yz (setB.Yw YN hz));let f4:=fin I5 qn;rw[←pX,←wX,←aX]at f4;show f4
  ·let d:=T.item X' pX wX kX cX i [] s3 σ3 H3 X'.xe I3 (λb hb=>fX b hb (zf b hb)) yq go
   rw[←pX,←wX]at d;show jI (AQ d λr s4 ξ=>Ξ12 ξ λu hr h4=>?_);subst hr;show jI (AQ h4 λ_ s5 ξ=>Ξ25 ξ λx H5 I5 r5 y5 tI G4=>?_);let HG:=I5.pinned (λb hb=>fX b hb (G4 b hb)) (T.obj _ _ tI);let again:∀{σ7:St} {H7:AA} {s7:Shared},∀{L7:List (Addr×List AI)},Inv X' ([]++Im fp s5.heap) σ7 H7 s7→N L7 σ7 H7→
     ∃m,m<n∧∃i σ' z H',Inv X' [] σ' H' s7∧tn i s7.heap∧(∀b∈fp,H' b=none)∧W i m σ' z H':=λ{σ7 H7 s7 L7} I7 n7=>by
    let⟨m',hm,w7⟩:=hN _ _ _ n7;show⟨m',hm,i+1,σ7,L7,H7,I7.iM,T.keep _ _ _ tI λb hb o e=>(I7.pin (b,o) (D2 _ (D2 _ (Gy hb e)))).1,λb hb=>?_,w7⟩;let⟨o,e,d⟩:=T.obj _ _ tI b hb;show(I7.pin (b,o) (D2 _ (D2 _ (Gy hb e)))).2.1
   show jI (AQ (J7 _ s5 σ3 H5 x u _ HG r5 (step x H5 y5)) λ_ s6 ξ=>Ξ22 ξ λσ6 H6 I6 q6=>?_);show jI (AQ (SY _ s6 σ6 H6 _ I6 q6) λu8 s8⟨y8,H8,I8,r8,b8,ks8,e8,t8,a8,d8,q8⟩=>?_);subst e8;obtain rfl:u8=Value.ref b8:=r8;let Wj:setB (tupleKind (Ai X'.prog X'.w)).hash s2.heap.objs.size z s8.heap:=by rw[pX,wX];show(I8.cg _ _ d8).1
   show jI (oC (P:=X'.prog) (w:=X'.w) (by rw[aX];show hu) Wj hz (JD I8.cg t8) (λq hq=>JD I8.cg (a8 q hq)) λh' tk' W3 PF=>?_);rw[pX,wX]at PF;show again (I8.write (x:=s2.heap.objs.size) (e:=s2.heap.objs.size) (o:=.ext (setB (tupleKind (Ai X.prog X.w)).hash s2.heap.objs.size (FP z (b8,ks8)))) (by rw[d8];show trivial) (.inl rfl) (λb' u hb hu=>(W3.2 b' hb).trans hu) ?_ (hV PF)) q8;let⟨o,_,_,_,_,e,_⟩:=PF;show⟨o,e⟩
 show cG loop (T.self X.A 0 _ _ _ (T.keep _ _ _ qm λb _ o e=>kk b o e) loop)
def abl:EK X (.builtin "len") (λxs H Q=>∃(p:Addr) (n:Nat),xs=[.ref p]∧n≤4∧H p=some (.ext (Gd p n))∧Q (.int n) H):=by
 intro v4 s σ H vs us Q I rv h;let⟨p,n,rfl,hn1,hp,q⟩:=h;let⟨u,rfl,ru⟩:=rv.one;cases ru;let⟨o,es,ep,t,e,ex,d,hf,hn⟩:=(I.cg p _ hp).1;show call_len_set e ex d hf (by lia) ⟨.int n,H,I.tok _,⟨s.toks+1,by rw[hn]⟩,q⟩
end
end L2
namespace Sto
abbrev whB:=Int×Int
abbrev wtT:=Int×Int×Int
end Sto
namespace L3
open PySem PySem.Spec L2
open PyProof.Rows hiding St
variable {Γ Γ1 Γ':AU}{a p:Addr}{o o3 o2:O}{b neg:Bool}{u:Value}{K:W.Frag}{vs:List V}{xs ts us:List T}{i k n kk:Nat}{v:V}{x:T}{H H':AA}{Y: G2}{E: St→BS}{Z: Dh}{Q:Option Int→AU→Prop}{e tg c:Expr}{t ta:Co}{t' t0:Cr}{z qual:Str}{pos p2 np dS: Pos}{r:T→AU→Dh→Prop}{tb:CJ}{v6 elts:List Expr}{tc:D6}{es: List Expr}{g:Dl}{gs:Jz}{te tl to:Ad}{pos' wq:Pos}{body:List Stmt}{wi:I3}{τ: BZ}{own N ps:List Str}{cap:List (Nat×Str)}{f:Value→Value→Sem Value}{C:Int→Int→Prop}{g3:Int→Int→T}{th:Jf}{Tn: String}{Ty:String}{l:List Addr}{st:Stmt}{fd:FuncData}{sp:B4}{A:List T→AU→Prop}{j:Int}{I:List T→(AU→Prop)→AU→Prop}{X: Cx}
inductive T where
 |non|bl (b:Bool)|int (i:Int)|str (z:Str)|tup (ts:List T)|ref (a:Addr)|ty (n:String)
 /-- a list Qa Wq changes (Bx Ae) -/
 |scr (K:W.Frag) (a:Addr) (ts:List T)
abbrev KZ(K:W.Frag)(H:AA)(a:Addr)(vs:List V):Prop:=(∃o,H a=some (.frz o (.lst vs))) ∨
 ∃(o:Obj) (aV:Array Value) (n:Nat),K.lookup a=some o∧o.cls=.type "list" ∧ o.dict=none∧o.data=.seq aV n∧aV.size≤sizeLine∧Vals vs aV.toList
inductive O where
 |lst (ts:List T)
 |ins (C dx:Addr) (fs:List (Str×T))
 |own (x:Addr)
 |dK (aF:List (AI×T))
 |ext (φ:Heap→Prop)
 /-- Bx table of a def Qa makes a Wz -/
 |lam (q:Str) (pos:Pos)
abbrev AU:=Addr→Option O
abbrev AF(Γ:AU)(a:Addr)(o:O):AU:=λb=>if b=a then some o else Γ b
def BN:AF Γ a o a=some o:=by unfold AF;rw[Aa rfl]
def Ce{b:Addr}(h:b≠a):AF Γ a o b=Γ b:=by unfold AF;rw[AV h]
def Oh{u:O}:AF (AF Γ a o) a u=AF Γ a u:=by
 funext b;unfold AF;split<;>rfl
def Qs{b:Addr}{u:O}(h:Γ a=some o)(h':Γ b=some u)(d:o≠u):a≠b:=by
 intro e;subst e;rw[h]at h';show d (FE h')
def Dk{b:Addr}(h:Γ a=some o)(h':Γ b=none):a≠b:=by
 intro e;subst e;rw[h]at h';cases h'
mutual
def R(H:AA):V→T→Prop
 |v,.non=>v=.non
 |v,.bl b=>v=.bl b
 |v,.int i=>v=.int i
 |v,.str z=>v=.str z
 |v,.ref a=>v=.ref a
 |v,.ty n=>v=.ty n
 |v,.tup ts=>∃a vs,v=.ref a∧H a=some (.tup vs)∧Rs H vs ts
 |v,.scr K a ts=>v=.ref a∧∃vs,KZ K H a vs∧Rs H vs ts
def Rs(H:AA):List V→List T→Prop
 |vs,[]=>vs=[]
 |vs,t::r=>∃v ws,vs=v::ws∧R H v t∧Rs H ws r
end
abbrev Tq(H H':AA):Prop:=(∀a vs,H a=some (.tup vs)→H' a=some (.tup vs))∧∀a o u,H a=some (.frz o u)→H' a=some (.frz o u)
section
variable {H H': AA}
def Tq.refl:Tq H H:=⟨λ_ _ h=>h,λ_ _ _ h=>h⟩
def Tq.trans{H1:AA}(a:Tq H H1)(b:Tq H1 H'):Tq H H':=⟨λx vs h=>b.1 x vs (a.1 x vs h),λx o u h=>b.2 x o u (a.2 x o u h)⟩
def KZ.mono(t:Tq H H')(h:KZ K H a vs):KZ K H' a vs:=by
 rcases h with⟨o,h⟩|h
 ·show .inl ⟨o,t.2 _ _ _ h⟩
 ·show .inr h
mutual
theorem R.mono(t:Tq H H'):∀{x:T} {v:V},R H v x→R H' v x
 |.non,v,h=>by unfold R at h ⊢;show h
 |.bl _,v,h=>by unfold R at h ⊢;show h
 |.int _,v,h=>by unfold R at h ⊢;show h
 |.str _,v,h=>by unfold R at h ⊢;show h
 |.ref _,v,h=>by unfold R at h ⊢;show h
 |.ty _,v,h=>by unfold R at h ⊢;show h
 |.tup ts,v,h=>by
  unfold R at h ⊢;let⟨a,vs,e,s,q⟩:=h;show Ψ2 a vs ⟨e,t.1 a vs s,Rs.mono t q⟩
 |.scr K a ts,v,h=>by
  unfold R at h ⊢;let⟨e,⟨vs,s,q⟩⟩:=h;show⟨e,vs,s.mono t,Rs.mono t q⟩
theorem Rs.mono(t:Tq H H'):∀{xs:List T} {vs:List V},Rs H vs xs→Rs H' vs xs
 |[],vs,h=>by unfold Rs at h ⊢;show h
 |x::r,vs,h=>by
  unfold Rs at h ⊢;let⟨v,ws,e,p,q⟩:=h;show Ψ2 v ws ⟨e,R.mono t p,Rs.mono t q⟩
end
def Rs.length:∀{xs:List T} {vs:List V},Rs H vs xs→vs.length=xs.length
 |[],vs,h=>by unfold Rs at h;subst h;rfl
 |x::r,vs,h=>by
  unfold Rs at h;let⟨v,ws,e,_,q⟩:=h;rw[e,D7,D7,Rs.length q]
def Rs.get:∀{xs:List T} {vs:List V} {i:Nat} {x:T},Rs H vs xs→xs[i]?=some x→∃v,vs[i]?=some v∧R H v x
 |[],vs,i,x,h,e=>by simp at e
 |y::r,vs,i,x,h,e=>by
  unfold Rs at h;let⟨v,ws,e1,p,q⟩:=h;subst e1;cases i with
  |zero=>cases e;show⟨v,rfl,p⟩
  |succ i=>show Rs.get (i:=i) q e
def Rs.A6(h:Rs H vs xs)(e:vs[i]?=some v):∃x,xs[i]?=some x∧R H v x:=by
 let hl:=h.length;obtain⟨hi,_⟩:=aba.mp e;let J6:i<xs.length:=by lia
 let⟨v',e',r⟩:=h.get (i:=i) (x:=xs[i]) (by simp[J6]);rw[e]at e';cases e';show⟨xs[i],by simp[J6],r⟩
def Rs.app:∀{xs ys:List T} {vs ws:List V},Rs H vs xs→Rs H ws ys→Rs H (vs++ws) (xs++ys)
 |[],ys,vs,ws,h,h'=>by unfold Rs at h;subst h;show h'
 |x::r,ys,vs,ws,h,h'=>by
  unfold Rs at h;let⟨v,us,e,p,q⟩:=h;subst e;show Rs H (v::(us++ws)) (x::(r++ys))
  unfold Rs;show Ψ2 v _ ⟨rfl,p,Rs.app q h'⟩
def FL:Rs H [] []:=by unfold Rs;rfl
def FU(a:R H v x)(b:Rs H vs xs):Rs H (v::vs) (x::xs):=by
 unfold Rs;show Ψ2 v vs ⟨rfl,a,b⟩
def Fo(h:Rs H vs (x::xs)):∃v ws,vs=v::ws∧R H v x∧Rs H ws xs:=by unfold Rs at h;show h
def Fp(h:Rs H vs []):vs=[]:=by unfold Rs at h;show h
def Rs.drop:∀{xs:List T} {vs:List V} (n:Nat),Rs H vs xs→Rs H (vs.drop n) (xs.drop n)
 |xs,vs,0,h=>h
 |[],vs,n+1,h=>by rw[Fp h];show FL
 |x::r,vs,n+1,h=>by
  let⟨v,ws,e,_,q⟩:=Fo h;subst e;show Rs.drop n q
def Rs.take:∀{xs:List T} {vs:List V} (n:Nat),Rs H vs xs→Rs H (vs.take n) (xs.take n)
 |xs,vs,0,h=>by rw[Se,Se];show FL
 |[],vs,n+1,h=>by rw[Fp h];show FL
 |x::r,vs,n+1,h=>by
  let⟨v,ws,e,p,q⟩:=Fo h;subst e;show FU p (Rs.take n q)
def Rs.reverse:∀{xs:List T} {vs:List V},Rs H vs xs→Rs H vs.reverse xs.reverse
 |[],vs,h=>by rw[Fp h];show FL
 |x::r,vs,h=>by
  let⟨v,ws,e,p,q⟩:=Fo h;subst e;rw[QG,QG];show Rs.app (Rs.reverse q) (FU p FL)
end
abbrev Fs(H:AA):List (Str×V)→List (Str×T)→Prop:=Paired λ(p:Str×V) (q:Str×T)=>p.1=q.1∧R H p.2 q.2
abbrev Ks(H:AA):List (AI×V)→List (AI×T)→Prop:=Paired λ(p:AI×V) (q:AI×T)=>p.1=q.1∧R H p.2 q.2
def TE{α β:Type}{P Q:α→β→Prop}(h:∀a b,P a b→Q a b):∀{xs:List α} {ys:List β},Paired P xs ys→Paired Q xs ys
 |_,_,.nil=>.nil
 |_,_,.cons a b=>.cons (h _ _ a) (TE h b)
def Fs.mono(t:Tq H H'){a:List (Str×V)}{b:List (Str×T)}(h:Fs H a b):Fs H' a b:=TE (λ_ _ q=>⟨q.1,q.2.mono t⟩) h
def Ks.mono(t:Tq H H'){a:List (AI×V)}{b:List (AI×T)}(h:Ks H a b):Ks H' a b:=TE (λ_ _ q=>⟨q.1,q.2.mono t⟩) h
abbrev Ho(H:AA)(a:Addr):O→Prop
 |.lst ts=>∃vs,H a=some (.lst vs)∧Rs H vs ts
 |.ins C dx fs=>∃gs,H a=some (.ins C dx gs)∧Fs H gs fs
 |.own x=>H a=some (.own x)
 |.dK aF=>∃us,H a=some (.dK us)∧Ks H us aF
 |.ext φ=>H a=some (.ext φ)
 |.lam q pos=>kF H a q pos
abbrev HR(H:AA)(Γ:AU):Prop:=∀a o,Γ a=some o→Ho H a o
structure hU(H:AA)(Γ:AU)(H':AA)(Γ':AU):Prop where
 tq:Tq H H'
 xK:∀a,H a≠none→H' a≠none
 new:∀a,H a≠none→Γ a=none→Γ' a=none
 vV:∀a o,H a=some o→Γ a=none→H' a=some o
section
variable {H H' H1: AA}{Γ Γ' Γ1: AU}
def hU.refl:hU H Γ H Γ:=⟨.refl,λ_ h=>h,λ_ _ h=>h,λ_ _ h _=>h⟩
def hU.trans(a:hU H Γ H1 Γ1)(b:hU H1 Γ1 H' Γ'):hU H Γ H' Γ':=
 ⟨a.tq.trans b.tq,λx h=>b.xK x (a.xK x h),λx h g=>b.new x (a.xK x h) (a.new x h g),λx o h g=>b.vV x o (a.vV x o h g) (a.new x (by rw[h];exactλz=>(nomatch z)) g)⟩
def Ho.mono(t:Tq H H')(e:∀u,H a=some u→H' a=some u)(h:Ho H a o):Ho H' a o:=by
 cases o with
 |lst ts=>obtain⟨vs,h,r⟩:=h;show⟨vs,e _ h,r.mono t⟩
 |ins C dx fs=>obtain⟨vs,h,r⟩:=h;show⟨vs,e _ h,r.mono t⟩
 |own x=>show e _ h
 |dK aF=>obtain⟨vs,h,r⟩:=h;show⟨vs,e _ h,r.mono t⟩
 |ext φ=>show e _ h
 |lam q pos=>
  rcases h with h|⟨c',oc,vs,t',u,h1,h2,h3⟩
  ·show .inl (e _ h)
  ·show .inr ⟨c',oc,vs,t',u,e _ h1,t.2 _ _ _ h2,h3⟩
def Ho.some(h:Ho H a o):∃u,H a=some u∧(∀vs:List V,u≠.tup vs)∧∀b w,u≠.frz b w:=by
 cases o with
 |lst ts=>obtain⟨vs,h,r⟩:=h;show⟨_,h,⟨λ_ z=>(nomatch z),λ_ _ z=>(nomatch z)⟩⟩
 |ins C dx fs=>obtain⟨vs,h,r⟩:=h;show⟨_,h,⟨λ_ z=>(nomatch z),λ_ _ z=>(nomatch z)⟩⟩
 |own x=>show⟨_,h,⟨λ_ z=>(nomatch z),λ_ _ z=>(nomatch z)⟩⟩
 |dK aF=>obtain⟨vs,h,r⟩:=h;show⟨_,h,⟨λ_ z=>(nomatch z),λ_ _ z=>(nomatch z)⟩⟩
 |ext φ=>show⟨_,h,⟨λ_ z=>(nomatch z),λ_ _ z=>(nomatch z)⟩⟩
 |lam q pos=>
  rcases h with h|⟨c',oc,vs,t',u,h,_⟩
  ·show⟨_,h,⟨λ_ z=>(nomatch z),λ_ _ z=>(nomatch z)⟩⟩
  ·show⟨_,h,⟨λ_ z=>(nomatch z),λ_ _ z=>(nomatch z)⟩⟩
def HR.free(h:HR H Γ)(n:H a=none):Γ a=none:=by
 cases e:Γ a with
 |none=>rfl
 |some o=>
  let⟨u,hu,_⟩:=(h a o e).some;rw[n]at hu;cases hu
def DI(k:∀b o,H b=some o→H' b=some o):Tq H H':=⟨λa vs h=>k _ _ h,λa o u h=>k _ _ h⟩
def hU.keep(k:∀b o,H b=some o→H' b=some o):hU H Γ H' Γ:=
 ⟨DI k,λa h z=>by
  cases e:H a with
  |none=>show h e
  |some o=>show(by rw[k a o e]at z;cases z),λ_ _ h=>h,λa o h _=>k a o h⟩
def HR.keep(h:HR H Γ)(k:∀b o,H b=some o→H' b=some o):HR H' Γ:=λa o e=>(h a o e).mono (DI k) (k a)
def Cm{o:HO}(h:H p=none):∀b u,H b=some u→Ac H p o b=some u:=λb u q=>by rw[BC (Ga q h)];show q
def hU.make{o:HO}(h:H p=none):hU H Γ (Ac H p o) (AF Γ p o3):=by
 show⟨DI (Cm h),λa q z=>?_,λa q g=>?_,λa u q _=>Cm h a u q⟩
 ·by_cases e:a=p
  ·subst e;show q h
  ·rw[BC e]at z;show q z
 ·let e:a≠p:=λe=>q (by rw[e];show h)
  rw[Ce e];show g
def HR.make(hr:HR H Γ){o:HO}(h:H p=none)(k:Ho (Ac H p o) p o3):HR (Ac H p o) (AF Γ p o3):=λa u e=>by
 by_cases z:a=p
 ·subst z;rw[BN]at e;cases e;show k
 ·rw[Ce z]at e
  show(hr a u e).mono (DI (Cm h)) λ_ q=>by rw[BC z];show q
def Gv{o u:HO}(h:H a=some u)(n:(∀vs:List V,u≠.tup vs)∧∀b w,u≠.frz b w):Tq H (Ac H a o):=⟨λx vs q=>by
 have:x≠a:=λe=>by subst e;rw[h]at q;show n.1 vs (FE q)
 rw[BC this];show q,λx b w q=>by
 have:x≠a:=λe=>by subst e;rw[h]at q;show n.2 b w (FE q)
 rw[BC this];show q⟩
def hU.set{o:HO}(hr:HR H Γ)(g:Γ a=some o2):hU H Γ (Ac H a o) (AF Γ a o3):=by
 let⟨u,hu,n⟩:=(hr a o2 g).some;show⟨Gv hu n,λx q z=>?_,λx q g'=>?_,λx w q g'=>?_⟩
 ·by_cases e:x=a
  ·subst e;rw[Bz]at z;cases z
  ·rw[BC e]at z;show q z
 ·let e:x≠a:=λe=>by subst e;rw[g]at g';cases g'
  rw[Ce e];show g'
 ·let e:x≠a:=λe=>by subst e;rw[g]at g';cases g'
  rw[BC e];show q
def HR.set{o:HO}(hr:HR H Γ)(g:Γ a=some o2)(k:Ho (Ac H a o) a o3):HR (Ac H a o) (AF Γ a o3):=λx u e=>by
 let⟨w,hw,n⟩:=(hr a o2 g).some;by_cases z:x=a
 ·subst z;rw[BN]at e;cases e;show k
 ·rw[Ce z]at e
  show(hr x u e).mono (Gv hw n) λ_ q=>by rw[BC z];show q
def HR.hide{o u:HO}(hr:HR H Γ)(g:Γ a=none)(h:H a=some u)(n:(∀vs:List V,u≠.tup vs)∧∀b w,u≠.frz b w):HR (Ac H a o) Γ:=λx w e=>by
 let z:x≠a:=λz=>by subst z;rw[g]at e;cases e
 show(hr x w e).mono (Gv h n) λ_ q=>by rw[BC z];show q
end
abbrev BZ:=List (Option T)
abbrev G2:=BZ→Value→AU→Prop
abbrev Dh:=T→AU→Prop
abbrev Ad:=G2→BZ→AU→Dh→Prop
abbrev D6:=G2→BZ→AU→(Bool→AU→Prop)→Prop
abbrev Co:=G2→BZ→AU→(List T→AU→Prop)→Prop
structure Kr where
 nx:BZ→AU→Prop
 rt:Dh
 bk:BZ→AU→Prop:=λ_ _=>False
 ct:BZ→AU→Prop:=λ_ _=>False
abbrev CJ:=G2→Kr→BZ→AU→Prop
abbrev Ue(H:AA):Option V→Option T→Prop
 |_,none=>True
 |some v,some x=>R H v x
 |none,some _=>False
abbrev RS(H:AA):St→BZ→Prop
 |[],[]=>True
 |v::r,x::q=>Ue H v x∧RS H r q
 |_,_=>False
section
variable {H H': AA}{Γ Γ': AU}
def Ue.mono(t:Tq H H'){v:Option V}{x:Option T}(h:Ue H v x):Ue H' v x:=by
 cases x with
 |none=>show trivial
 |some x=>cases v with
  |none=>show h.elim
  |some v=>show R.mono t h
def RS.mono(t:Tq H H'):∀{σ:St} {τ:BZ},RS H σ τ→RS H' σ τ
 |[],[],_=>trivial
 |_::_,_::_,h=>⟨h.1.mono t,RS.mono t h.2⟩
 |[],_::_,h=>h.elim
 |_::_,[],h=>h.elim
def RS.get:∀{σ:St} {τ:BZ} {i:Nat} {x:T},RS H σ τ→τ[i]?=some (some x)→∃v,σ[i]?=some (some v)∧R H v x
 |[],[],i,x,_,e=>by simp at e
 |v::r,y::q,i,x,h,e=>by
  cases i with
  |zero=>
   cases e;cases v with
   |none=>show h.1.elim
   |some v=>show⟨v,rfl,h.1⟩
  |succ i=>show RS.get (i:=i) h.2 e
 |[],_::_,_,_,h,_=>h.elim
 |_::_,[],_,_,h,_=>h.elim
def RS.set(r:R H v x):∀{σ:St} {τ:BZ} (i:Nat),RS H σ τ→RS H (σ.set i (some v)) (τ.set i (some x))
 |[],[],_,_=>trivial
 |_::_,_::_,0,h=>⟨r,h.2⟩
 |_::_,_::_,i+1,h=>⟨h.1,RS.set r i h.2⟩
 |[],_::_,_,h=>h.elim
 |_::_,[],_,h=>h.elim
abbrev XR(H:AA)(Γ:AU)(Y:G2)(E:St→BS):Prop:=∀σ τ C H' Γ',hU H Γ H' Γ'→HR H' Γ'→RS H' σ τ→Y τ C Γ'→E σ C none H'
def XR.mono{Y:G2}{E:St→BS}(x:XR H Γ Y E)(s:hU H Γ H' Γ'):XR H' Γ' Y E:=λσ τ C H2 Γ2 s2 h2 r y=>x σ τ C H2 Γ2 (s.trans s2) h2 r y
abbrev VR(H:AA)(Γ:AU)(Z:Dh)(Q:B1):Prop:=∀v x H' Γ',hU H Γ H' Γ'→HR H' Γ'→R H' v x→Z x Γ'→Q v H'
def VR.mono{Z:Dh}{Q:B1}(x:VR H Γ Z Q)(s:hU H Γ H' Γ'):VR H' Γ' Z Q:=λv x' H2 Γ2 s2 h2 r y=>x v x' H2 Γ2 (s.trans s2) h2 r y
abbrev NR(H:AA)(Γ:AU)(Z:BZ→AU→Prop)(Q:St→AA→Prop):Prop:=∀σ τ H' Γ',hU H Γ H' Γ'→HR H' Γ'→RS H' σ τ→Z τ Γ'→Q σ H'
def NR.mono{Z:BZ→AU→Prop}{Q:St→AA→Prop}(x:NR H Γ Z Q)(s:hU H Γ H' Γ'):NR H' Γ' Z Q:=λv x' H2 Γ2 s2 h2 r y=>x v x' H2 Γ2 (s.trans s2) h2 r y
structure DR(H:AA)(Γ:AU)(Z:Kr)(Q:Ends):Prop where
 nx:NR H Γ Z.nx Q.nx
 rt:VR H Γ Z.rt Q.rt
 bk:NR H Γ Z.bk Q.bk
 ct:NR H Γ Z.ct Q.ct
def DR.mono{Z:Kr}{Q:Ends}(x:DR H Γ Z Q)(s:hU H Γ H' Γ'):DR H' Γ' Z Q:=⟨x.nx.mono s,x.rt.mono s,x.bk.mono s,x.ct.mono s⟩
end
section
variable (E: St→BS)
abbrev AL(t:Ad):Al:=λσ H Q=>∃τ Γ Y Z,RS H σ τ∧HR H Γ∧t Y τ Γ Z∧VR H Γ Z Q∧XR H Γ Y E
abbrev Cp(t:D6):Cr:=λσ H Q=>∃τ Γ Y Z,RS H σ τ∧HR H Γ∧t Y τ Γ Z∧(∀b H' Γ',hU H Γ H' Γ'→HR H' Γ'→Z b Γ'→Q b H')∧XR H Γ Y E
abbrev Ds(t:Co):CY:=λσ H Q=>∃τ Γ Y Z,RS H σ τ∧HR H Γ∧t Y τ Γ Z∧(∀vs xs H' Γ',hU H Γ H' Γ'→HR H' Γ'→Rs H' vs xs→Z xs Γ'→Q vs H')∧XR H Γ Y E
abbrev Cn(t:CJ):CI:=λD σ H=>∃τ Γ Y Z,RS H σ τ∧HR H Γ∧t Y Z τ Γ∧DR H Γ Z D∧XR H Γ Y E
end
section
def Fj{t t':Al}(h:PE X e t)(w:∀σ H Q,t' σ H Q→t σ H Q):PE X e t':=⟨λv4 s σ H Q I q=>h.run v4 s σ H Q I (w _ _ _ q)⟩
def OO{t:Cr}(h:PT X e t)(w:∀σ H Q,t' σ H Q→t σ H Q):PT X e t':=⟨λv4 s σ H Q I q=>h.run v4 s σ H Q I (w _ _ _ q)⟩
def aaS{t:Cr}(h:PW X e t)(w:∀σ H Q,t' σ H Q→t σ H Q):PW X e t':=⟨λwh v4 s σ H Q I q=>h.run wh v4 s σ H Q I (w _ _ _ q)⟩
def adp{e:List Expr}{t t':CY}(h:PA X e t)(w:∀σ H Q,t' σ H Q→t σ H Q):PA X e t':=⟨λpos v4 s σ H Q I q=>h.run pos v4 s σ H Q I (w _ _ _ q)⟩
def RV{e:Stmt}{t t':CI}(h:PS X e t)(w:∀D σ H,t' D σ H→t D σ H):PS X e t':=⟨λv4 s σ H D I q=>h.run v4 s σ H D I (w _ _ _ q)⟩
def tu{e:List Stmt}{t t':CI}(h:nH X e t)(w:∀D σ H,t' D σ H→t D σ H):nH X e t':=⟨λv4 s σ H D I q=>h.run v4 s σ H D I (w _ _ _ q)⟩
def uF{t t':Dv}(h:PG X e t)(w:∀v σ H Q,t' v σ H Q→t v σ H Q):PG X e t':=⟨λv4 s σ H v u Q I r q=>h.run v4 s σ H v u Q I r (w _ _ _ _ q)⟩
def acN{e:List Expr}{t t':Hl}(h:Cw X e t)(w:∀v σ H Q,t' v σ H Q→t v σ H Q):Cw X e t':=⟨λv4 s σ H v u Q I r q=>h.run v4 s σ H v u Q I r (w _ _ _ _ q)⟩
def yF{t t':Dc}(h:PI X tg e t)(w:∀σ H Q,t' σ H Q→t σ H Q):PI X tg e t':=⟨λv4 s σ H Q I q=>h.run v4 s σ H Q I (w _ _ _ q)⟩
def Blk{e:List Expr}{t:Cr}(h:ye X e t)(w:∀σ H Q,t' σ H Q→t σ H Q):ye X e t':=⟨λv4 s σ H Q I q=>h.run v4 s σ H Q I (w _ _ _ q)⟩
def E6{t0:Al}{t:Ad}(h:PE X e t0)(w:∀σ H Q τ Γ Y Z,RS H σ τ→HR H Γ→t Y τ Γ Z→VR H Γ Z Q→XR H Γ Y E→t0 σ H Q):PE X e (AL E t):=
 Fj h (by intro σ H Q⟨τ,Γ,Y,Z,rs,hr,q,vr,xr⟩;show w σ H Q τ Γ Y Z rs hr q vr xr)
def ip{t:D6}(h:PT X e t0)(w:∀σ H Q τ Γ Y Z,RS H σ τ→HR H Γ→t Y τ Γ Z→(∀b H' Γ',hU H Γ H' Γ'→HR H' Γ'→Z b Γ'→Q b H')→XR H Γ Y E→t0 σ H Q):PT X e (Cp E t):=
 OO h (by intro σ H Q⟨τ,Γ,Y,Z,rs,hr,q,vr,xr⟩;show w σ H Q τ Γ Y Z rs hr q vr xr)
def fD{t:D6}(h:PW X e t0)(w:∀σ H Q τ Γ Y Z,RS H σ τ→HR H Γ→t Y τ Γ Z→(∀b H' Γ',hU H Γ H' Γ'→HR H' Γ'→Z b Γ'→Q b H')→XR H Γ Y E→t0 σ H Q):PW X e (Cp E t):=
 aaS h (by intro σ H Q⟨τ,Γ,Y,Z,rs,hr,q,vr,xr⟩;show w σ H Q τ Γ Y Z rs hr q vr xr)
def jk{e:List Expr}{t0:CY}(h:PA X e t0)(w:∀σ H Q τ Γ Y Z,RS H σ τ→HR H Γ→t Y τ Γ Z→(∀vs xs H' Γ',hU H Γ H' Γ'→HR H' Γ'→Rs H' vs xs→Z xs Γ'→Q vs H')→XR H Γ Y E→t0 σ H Q):PA X e (Ds E t):=
 adp h (by intro σ H Q⟨τ,Γ,Y,Z,rs,hr,q,vr,xr⟩;show w σ H Q τ Γ Y Z rs hr q vr xr)
def yC{e:List Expr}{t:D6}(h:ye X e t0)(w:∀σ H Q τ Γ Y Z,RS H σ τ→HR H Γ→t Y τ Γ Z→(∀b H' Γ',hU H Γ H' Γ'→HR H' Γ'→Z b Γ'→Q b H')→XR H Γ Y E→t0 σ H Q):ye X e (Cp E t):=
 Blk h (by intro σ H Q⟨τ,Γ,Y,Z,rs,hr,q,vr,xr⟩;show w σ H Q τ Γ Y Z rs hr q vr xr)
def Gs{e:Stmt}{t0:CI}{t:CJ}(h:PS X e t0)(w:∀D σ H τ Γ Y Z,RS H σ τ→HR H Γ→t Y Z τ Γ→DR H Γ Z D→XR H Γ Y E→t0 D σ H):PS X e (Cn E t):=
 RV h (by intro D σ H⟨τ,Γ,Y,Z,rs,hr,q,dr,xr⟩;show w D σ H τ Γ Y Z rs hr q dr xr)
def eC{e:List Stmt}{t0:CI}{t:CJ}(h:nH X e t0)(w:∀D σ H τ Γ Y Z,RS H σ τ→HR H Γ→t Y Z τ Γ→DR H Γ Z D→XR H Γ Y E→t0 D σ H):nH X e (Cn E t):=
 tu h (by intro D σ H⟨τ,Γ,Y,Z,rs,hr,q,dr,xr⟩;show w D σ H τ Γ Y Z rs hr q dr xr)
section
variable {H: AA}
def Ku:R H .non .non:=by unfold R;rfl
def D5:R H (.bl b) (.bl b):=by unfold R;rfl
def DO{i:Int}:R H (.int i) (.int i):=by unfold R;rfl
def Hw:R H (.str z) (.str z):=by unfold R;rfl
def F2:R H (.ref a) (.ref a):=by unfold R;rfl
def Io(h:H a=some (.tup vs))(r:Rs H vs ts):R H (.ref a) (.tup ts):=by unfold R;show Ψ2 a vs ⟨rfl,h,r⟩
def JY(h:R H v .non):v=.non:=by unfold R at h;show h
def GW(h:R H v (.bl b)):v=.bl b:=by unfold R at h;show h
def CK{b:Int}(h:R H v (.int b)):v=.int b:=by unfold R at h;show h
def CS{b:Str}(h:R H v (.str b)):v=.str b:=by unfold R at h;show h
def Bv{b:Addr}(h:R H v (.ref b)):v=.ref b:=by unfold R at h;show h
def xV{b:String}(h:R H v (.ty b)):v=.ty b:=by unfold R at h;show h
def UB(h:R H v (.scr K a ts)):v=.ref a∧∃vs,KZ K H a vs∧Rs H vs ts:=by unfold R at h;show h
def yM(h:KZ K H a vs)(q:Rs H vs ts):R H (.ref a) (.scr K a ts):=by unfold R;show⟨rfl,vs,h,q⟩
def KZ.sq(h:KZ K H a vs):lG K H a vs:=by
 rcases h with⟨o,h⟩|h
 ·show .inl (.inr ⟨o,h⟩)
 ·show .inr h
def Ct(h:R H v (.tup ts)):∃a vs,v=.ref a∧H a=some (.tup vs)∧Rs H vs ts:=by unfold R at h;show h
end
abbrev jF(i:Nat):Ad:=λ_ τ Γ Z=>∃x,τ[i]?=some (some x)∧Z x Γ
abbrev KY(x:T):Ad:=λ_ _ Γ Z=>Z x Γ
def A3(i:Nat){x:Str}{pos:Pos}(hN:X.N[i]?=some x:=by rfl)(hv:JL X.env.scope x:=by first|show Or.inl rfl|show Or.inr (Or.inl rfl)|show Or.inr (Or.inr rfl))(hd:(x ==("__debug__" : Str))=false:=by decide)
  (xu:(x ==("__classdict__" : Str))=false:=by decide):PE X (.Name x pos) (AL E (jF i)):=
 E6 (gV hN hv hd xu) λσ H Q τ Γ Y Z rs hr q0 vr xr=>by
  let⟨x,e,z⟩:=q0;let⟨v,hv,r⟩:=rs.get e;show⟨v,hv,vr v x H Γ .refl hr r z⟩
def Mv(h:PE X e (JR v))(r:∀H,R H v x):PE X e (AL E (KY x)):=
 E6 h λσ H Q τ Γ Y Z rs hr z vr xr=>vr v x H Γ .refl hr (r H) z
def A7{i j pos}:PE X (.Constant (.int i) j pos) (AL E (KY (.int i))):=Mv abm λ_=>DO
def BH{b j pos}:PE X (.Constant (.bool b) j pos) (AL E (KY (.bl b))):=Mv t4 λ_=>D5
def Hs{j pos}:PE X (.Constant .none j pos) (AL E (KY .non)):=Mv md λ_=>Ku
def AP{x j pos}:PE X (.Constant (.str x) j pos) (AL E (KY (.str x))):=Mv rC λ_=>Hw
abbrev DU(u:Value)(x:T):Prop:=∃v,RelV v u∧∀H,R H v x
def Eo{x:Str}{t:T}{pos:Pos}(hg:CF X x)(hm:X.mg x=some u)(r:DU u t)(hd:(x ==("__debug__" : Str))=false:=by decide):PE X (.Name x pos) (AL E (KY t)):=by
 obtain⟨v,r,h⟩:=r;show Mv (rIx hg hm r hd) h
def gl_int{i:Int}(h:RelV (.int i) u):DU u (.int i):=⟨_,h,λ_=>DO⟩
def gl_str{i:Str}(h:RelV (.str i) u):DU u (.str i):=⟨_,h,λ_=>Hw⟩
def M8{i:Addr}:DU (.ref i) (.ref i):=⟨.ref i,rfl,λ_=>F2⟩
abbrev Ef:=T→T→AU→Dh→Prop
abbrev Bq(X:Cx)(f:Value→Value→Sem Value)(r3:Ef):Prop:=∃r:E2,jB X f r∧∀x y a b H Γ Q Z,R H x a→R H y b→HR H Γ→r3 a b Γ Z→VR H Γ Z Q→r x y H Q
abbrev Hd(r3:Ef)(ta tb:Ad):Ad:=λY τ Γ Z=>ta Y τ Γ λx Γ1=>tb Y τ Γ1 λy Γ2=>r3 x y Γ2 Z
def MT{r:E2}{r3:Ef}{ta tb:Ad}(h:∀x y a b H Γ Q Z,R H x a→R H y b→HR H Γ→r3 a b Γ Z→VR H Γ Z Q→r x y H Q)(σ:St)(H:AA)(Q:B1)(q:AL E (Hd r3 ta tb) σ H Q):Mk r (AL E ta) (AL E tb) σ H Q:=by
 let⟨τ,Γ,Y,Z,rs,hr,t,vr,xr⟩:=q;show Ψ4 τ Γ Y _ ⟨rs,hr,t,λv x H1 Γ1 s1 h1 r1 z1=>?_,xr⟩;show Ψ4 τ Γ1 Y _ ⟨rs.mono s1.tq,h1,z1,λu y H2 Γ2 s2 h2 r2 z2=>?_,xr.mono s1⟩;show h v u x y H2 Γ2 Q Z (r1.mono s2.tq) r2 h2 z2 (vr.mono (s1.trans s2))
section
variable {a b c: Expr}{ta tb tc: Ad}{op BW: CmpOp}{r3 Po: Ef}
def AG{op:Operator}(ho:Bq X (binaryOp op) r3)(ha:PE X a (AL E ta))(hb:PE X b (AL E tb)):PE X (.BinOp a op b pos) (AL E (Hd r3 ta tb)):=by
 obtain⟨r,ho,h⟩:=ho;show Fj (aah ho ha hb) (MT h)
def Iu(ho:Bq X (compareOp op) r3)(ha:PE X a (AL E ta))(hb:PE X b (AL E tb))(hm:behindInMarks op b=false):PE X (.Compare a [op] [b] pos) (AL E (Hd r3 ta tb)):=by
 obtain⟨r,ho,h⟩:=ho;show Fj (kG ho ha hb hm) (MT h)
abbrev Kw(t:Ad):D6:=λY τ Γ Z=>t Y τ Γ λx Γ1=>∃k,x=.bl k∧Z k Γ1
def Vk{t2:Al}{t:Ad}(h:∀σ H Q,AL E t σ H Q→t2 σ H Q)(σ:St)(H:AA)(Q:Bool→AA→Prop)(q:Cp E (Kw t) σ H Q):QW t2 σ H Q:=by
 let⟨τ,Γ,Y,Z,rs,hr,t,vr,xr⟩:=q;show h σ H _ ⟨τ,Γ,Y,_,rs,hr,t,λv x H1 Γ1 s1 h1 r1 z1=>?_,xr⟩;let⟨k,rfl,z⟩:=z1;show⟨k,GW r1,vr k H1 Γ1 s1 h1 z⟩
def Jq(ho:Bq X (compareOp op) r3)(ha:PE X a (AL E ta))(hb:PE X b (AL E tb))(hm:behindInMarks op b=false):PT X (.Compare a [op] [b] pos) (Cp E (Kw (Hd r3 ta tb))):=by
 obtain⟨r,ho,h⟩:=ho;show OO (tL ho ha hb hm) (Vk (MT h))
abbrev Nd(r r':Ef)(ta tb tc:Ad):Ad:=λY τ Γ Z=>ta Y τ Γ λx Γ1=>tb Y τ Γ1 λy Γ2=>r x y Γ2 λz Γ3=>∃k,z=.bl k∧(if k=true then tc Y τ Γ3 λw' Γ4=>r' y w' Γ4 Z else Z (.bl false) Γ3)
def ao{r r':E2}(h:∀x y a b H Γ Q Z,R H x a→R H y b→HR H Γ→r3 a b Γ Z→VR H Γ Z Q→r x y H Q)(h':∀x y a b H Γ Q Z,R H x a→R H y b→HR H Γ→Po a b Γ Z→VR H Γ Z Q→r' x y H Q)
  (σ:St) (H:AA) (Q:B1) (q:AL E (Nd r3 Po ta tb tc) σ H Q):Tw r r' (AL E ta) (AL E tb) (AL E tc) σ H Q:=by
 let⟨τ,Γ,Y,Z,rs,hr,t,vr,xr⟩:=q;show Ψ4 τ Γ Y _ ⟨rs,hr,t,λv x H1 Γ1 s1 h1 r1 z1=>?_,xr⟩;show Ψ4 τ Γ1 Y _ ⟨rs.mono s1.tq,h1,z1,λu y H2 Γ2 s2 h2 r2 z2=>?_,xr.mono s1⟩;show h v u x y H2 Γ2 _ _ (r1.mono s2.tq) r2 h2 z2 λd z H3 Γ3 s3 h3 r3 z3=>?_;obtain⟨k,rfl,z3⟩:=z3;show⟨k,GW r3,?_⟩;cases k with
 |false=>show vr _ _ H3 Γ3 ((s1.trans s2).trans s3) h3 D5 z3
 |true=>
  show Ψ4 τ Γ3 Y _ ⟨rs.mono ((s1.trans s2).trans s3).tq,h3,z3,λw' y' H4 Γ4 s4 h4 r4 z4=>?_,xr.mono ((s1.trans s2).trans s3)⟩;show h' u w' y y' H4 Γ4 Q Z (r2.mono (s3.trans s4).tq) r4 h4 z4 (vr.mono (((s1.trans s2).trans s3).trans s4))
def Q5(ho:Bq X (compareOp op) r3)(sU:Bq X (compareOp BW) Po)(ha:PE X a (AL E ta))(hb:PE X b (AL E tb))(hc:PE X c (AL E tc))(hm:lastMarks [op,BW] [b,c]=false:=by with_unfolding_all rfl):
  PE X (.Compare a [op,BW] [b,c] pos) (AL E (Nd r3 Po ta tb tc)):=by
 obtain⟨r,ho,h⟩:=ho;obtain⟨r',sU,h'⟩:=sU;show Fj (rN ho sU ha hb hc hm) (ao h h')
def TZ(ho:Bq X (compareOp op) r3)(sU:Bq X (compareOp BW) Po)(ha:PE X a (AL E ta))(hb:PE X b (AL E tb))(hc:PE X c (AL E tc))(hm:lastMarks [op,BW] [b,c]=false:=by with_unfolding_all rfl):
  PT X (.Compare a [op,BW] [b,c] pos) (Cp E (Kw (Nd r3 Po ta tb tc))):=by
 obtain⟨r,ho,h⟩:=ho;obtain⟨r',sU,h'⟩:=sU;show OO (nT ho sU ha hb hc hm) (Vk (ao h h'))
abbrev fv(ta tb:Ad):Ad:=λY τ Γ Z=>ta Y τ Γ λx Γ1=>∃c,x=.bl c∧if c=true then tb Y τ Γ1 Z else Z (.bl false) Γ1
abbrev XS(ta tb:Ad):Ad:=λY τ Γ Z=>ta Y τ Γ λx Γ1=>∃c,x=.bl c∧if c=true then Z (.bl true) Γ1 else tb Y τ Γ1 Z
abbrev fi(ta:Ad):Ad:=λY τ Γ Z=>ta Y τ Γ λx Γ1=>∃c,x=.bl c∧Z (.bl (!c)) Γ1
def CM{op}(h:PE X a (AL E ta)):PE X (.BoolOp op [a] pos) (AL E ta):=yt h
def CC(ha:PE X a (AL E ta))(hb:PE X (.BoolOp .And (b::v6) pos) (AL E tb)):PE X (.BoolOp .And (a::b::v6) pos) (AL E (fv ta tb)):=
 E6 (vG ha hb) λσ H Q τ Γ Y Z rs hr t vr xr=>by
  show Ψ4 τ Γ Y _ ⟨rs,hr,t,λv x H1 Γ1 s1 h1 r1 z1=>?_,xr⟩;obtain⟨k,rfl,z1⟩:=z1;show⟨k,GW r1,?_⟩;cases k with
  |false=>show vr _ _ H1 Γ1 s1 h1 D5 z1
  |true=>show Ψ4 τ Γ1 Y Z ⟨rs.mono s1.tq,h1,z1,vr.mono s1,xr.mono s1⟩
def La(ha:PE X a (AL E ta))(hb:PE X (.BoolOp .Or (b::v6) pos) (AL E tb)):PE X (.BoolOp .Or (a::b::v6) pos) (AL E (XS ta tb)):=
 E6 (tD ha hb) λσ H Q τ Γ Y Z rs hr t vr xr=>by
  show Ψ4 τ Γ Y _ ⟨rs,hr,t,λv x H1 Γ1 s1 h1 r1 z1=>?_,xr⟩;obtain⟨k,rfl,z1⟩:=z1;show⟨k,GW r1,?_⟩;cases k with
  |true=>show vr _ _ H1 Γ1 s1 h1 D5 z1
  |false=>show Ψ4 τ Γ1 Y Z ⟨rs.mono s1.tq,h1,z1,vr.mono s1,xr.mono s1⟩
def gj(ha:PE X a (AL E ta)):PE X (.UnaryOp .Not a pos) (AL E (fi ta)):=
 E6 (abE ha) λσ H Q τ Γ Y Z rs hr t vr xr=>by
  show Ψ4 τ Γ Y _ ⟨rs,hr,t,λv x H1 Γ1 s1 h1 r1 z1=>?_,xr⟩;obtain⟨k,rfl,z1⟩:=z1;show⟨k,GW r1,vr _ _ H1 Γ1 s1 h1 D5 z1⟩
variable {tA LS: D6}
abbrev hR(t u:D6):D6:=λY τ Γ Z=>t Y τ Γ λc Γ1=>if c=true then u Y τ Γ1 Z else Z false Γ1
abbrev Y9(t u:D6):D6:=λY τ Γ Z=>t Y τ Γ λc Γ1=>if c=true then Z true Γ1 else u Y τ Γ1 Z
abbrev XU(t:D6):D6:=λY τ Γ Z=>t Y τ Γ λc Γ1=>Z (!c) Γ1
def Jt(ha:PT X a (Cp E tA)):PW X (.BoolOp .And [a] pos) (Cp E tA):=wm ha
def Cu(ha:PT X a (Cp E tA)):PW X (.BoolOp .Or [a] pos) (Cp E tA):=adH ha
def J3(ha:PT X a (Cp E tA))(hb:PW X (.BoolOp .And (b::v6) pos) (Cp E LS)):PW X (.BoolOp .And (a::b::v6) pos) (Cp E (hR tA LS)):=
 fD (kT ha hb) λσ H Q τ Γ Y Z rs hr t vr xr=>by
  show Ψ4 τ Γ Y _ ⟨rs,hr,t,λk H1 Γ1 s1 h1 z1=>?_,xr⟩;cases k with
  |false=>show vr _ H1 Γ1 s1 h1 z1
  |true=>show Ψ4 τ Γ1 Y Z ⟨rs.mono s1.tq,h1,z1,λb H2 Γ2 s2 h2 z2=>vr b H2 Γ2 (s1.trans s2) h2 z2,xr.mono s1⟩
def By(ha:PT X a (Cp E tA))(hb:PW X (.BoolOp .Or (b::v6) pos) (Cp E LS)):PW X (.BoolOp .Or (a::b::v6) pos) (Cp E (Y9 tA LS)):=
 fD (xN ha hb) λσ H Q τ Γ Y Z rs hr t vr xr=>by
  show Ψ4 τ Γ Y _ ⟨rs,hr,t,λk H1 Γ1 s1 h1 z1=>?_,xr⟩;cases k with
  |true=>show vr _ H1 Γ1 s1 h1 z1
  |false=>show Ψ4 τ Γ1 Y Z ⟨rs.mono s1.tq,h1,z1,λb H2 Γ2 s2 h2 z2=>vr b H2 Γ2 (s1.trans s2) h2 z2,xr.mono s1⟩
def BL(ha:PT X a (Cp E tA)):PT X (.UnaryOp .Not a pos) (Cp E (XU tA)):=
 ip (xH ha) λσ H Q τ Γ Y Z rs hr t vr xr=>Ψ4 τ Γ Y _ ⟨rs,hr,t,λk H1 Γ1 s1 h1 z1=>vr _ H1 Γ1 s1 h1 z1,xr⟩
def BG{t:Ad}(h:PE X e (AL E t))(he:∀whole,isTrue e X.env whole=(do let v ←whole;standAt e.pos;holding [v] (truthy v)):=by intro _;rfl):PT X e (Cp E (Kw t)):=
 OO (ug h he) (Vk (t2:=AL E t) λ_ _ _ q=>q)
end
section
variable {e: Expr}{te: Ad}{t: Co}
abbrev dG:Co:=λ_ _ Γ Z=>Z [] Γ
abbrev fY(ta:Ad)(tr:Co):Co:=λY τ Γ Z=>ta Y τ Γ λx Γ1=>tr Y τ Γ1 λxs Γ2=>Z (x::xs) Γ2
def A9:PA X [] (Ds E dG):=jk aQ λσ H Q τ Γ Y Z rs hr t vr xr=>vr [] [] H Γ .refl hr FL t
def A4(ha:PE X e (AL E te))(hr:PA X es (Ds E t))(hs:starEach (e::es) X.env=(false,eval e X.env)::starEach es X.env:=by rfl):PA X (e::es) (Ds E (fY te t)):=
 jk (Qv ha hr hs) λσ H Q τ Γ Y Z rs hr t vr xr=>by
  show Ψ4 τ Γ Y _ ⟨rs,hr,t,λv x H1 Γ1 s1 h1 r1 z1=>?_,xr⟩;show Ψ4 τ Γ1 Y _ ⟨rs.mono s1.tq,h1,z1,λvs xs H2 Γ2 s2 h2 r2 z2=>vr (v::vs) (x::xs) H2 Γ2 (s1.trans s2) h2 (FU (r1.mono s2.tq) r2) z2,xr.mono s1⟩
abbrev R3(t:Co):Ad:=λY τ Γ Z=>t Y τ Γ λxs Γ1=>xs.length≤sizeLine∧Z (.tup xs) Γ1
abbrev aH(t:Co):Ad:=λY τ Γ Z=>t Y τ Γ λxs Γ1=>xs.length≤sizeLine∧∀p,Γ1 p=none→Z (.ref p) (AF Γ1 p (.lst xs))
def Ay{x1}(h:PA X es (Ds E t)):PE X (.Tuple es x1 pos) (AL E (R3 t)):=
 E6 (vQ h) λσ H Q τ Γ Y Z rs hr t vr xr=>by
  show Ψ4 τ Γ Y _ ⟨rs,hr,t,λvs xs H1 Γ1 s1 h1 r1 z1=>?_,xr⟩;show⟨by rw[r1.length];show z1.1,λp hp=>?_⟩;let k:=Cm (o:=.tup vs) hp;show vr _ _ _ Γ1 (s1.trans (.keep k)) (h1.keep k) (Io Bz (r1.mono (DI k))) z1.2
def CG(h:PA X es (Ds E t)):PE X (.List es pos) (AL E (aH t)):=
 E6 (rU h) λσ H Q τ Γ Y Z rs hr t vr xr=>by
  show Ψ4 τ Γ Y _ ⟨rs,hr,t,λvs xs H1 Γ1 s1 h1 r1 z1=>?_,xr⟩;show⟨by rw[r1.length];show z1.1,λp hp=>?_⟩;let k:=Cm (o:=.lst vs) hp;show vr _ _ _ _ (s1.trans (.make hp)) (h1.make (o3:=.lst xs) hp ⟨vs,Bz,r1.mono (DI k)⟩) F2 (z1.2 p (h1.free hp))
end
abbrev B4:=List T→AU→Dh→(Value→AU→Prop)→Prop
abbrev Aw(sp:B4):EI:=λvs H Q E=>∃ts Γ Z Y,Rs H vs ts∧HR H Γ∧sp ts Γ Z Y∧VR H Γ Z Q∧∀C H' Γ',hU H Γ H' Γ'→HR H' Γ'→Y C Γ'→E C none H'
@[reducible]def Ab(P:Program)(w:World)(K:W.Frag)(mg:KK)(am:Heap)(x:Str)(k:Nat)(ps:List Str)(sp:B4):Prop:=Callee P w K mg am x k ps (Aw sp)
@[reducible]def MX(P:Program)(w:World)(K:W.Frag)(mg:KK)(am:Heap)(x:Str)(k:Nat)(ps:List Str)(sp:B4):Prop:=U8 P w K mg am x k ps (Aw sp)
abbrev RO(sp:B4)(t:Co):Ad:=λY τ Γ Z=>t Y τ Γ λxs Γ1=>sp xs Γ1 Z λ_ _=>False
abbrev Ra(sp:B4)(t:Co):Ad:=λY τ Γ Z=>t Y τ Γ λxs Γ1=>sp xs Γ1 Z (Y τ)
section
variable {x: Str}{k j: Nat}{ps: List Str}{sp: B4}{p: Pos}{e: Expr}{t: Co}
def mI(c:Ab X.prog X.w X.K X.mg X.base x k ps sp)(hr:eh j X.A)(hk:k≤j)(hg:CF X x)(ha:PA X (e::es) (Ds E t))(sD:(x ==("__debug__" : Str))=false:=by decide)
  (he:starEach (e::es) X.env=(false,eval e X.env)::starEach es X.env:=by rfl) (jw:(backTo pos (starEach es X.env)).any (·.1)=false:=by rfl):PE X (.Call (.Name x p) (e::es) [] pos) (AL E (RO sp t)):=
 E6 (wt c hr hk hg ha sD he jw) λσ H Q τ Γ Y Z rs hr t vr xr=>by
  show Ψ4 τ Γ Y _ ⟨rs,hr,t,λvs xs H1 Γ1 s1 h1 r1 z1=>?_,xr⟩;show Aw sp (vs++[]) H1 Q Ji
  rw[Bg];show Ψ4 xs Γ1 Z _ ⟨r1,h1,z1,vr.mono s1,λ_ _ _ _ _ z=>z.elim⟩
def uP(c:MX X.prog X.w X.K X.mg X.base x k ps sp)(hr:eh j X.A)(hk:k≤j)(hg:CF X x)(hx:RD X E)(ha:PA X (e::es) (Ds E t))(sD:(x ==("__debug__" : Str))=false:=by decide)
  (he:starEach (e::es) X.env=(false,eval e X.env)::starEach es X.env:=by rfl) (jw:(backTo pos (starEach es X.env)).any (·.1)=false:=by rfl):PE X (.Call (.Name x p) (e::es) [] pos) (AL E (Ra sp t)):=
 E6 (vY c hr hk hg hx ha sD he jw) λσ H Q τ Γ Y Z rs hr t vr xr=>by
  show Ψ4 τ Γ Y _ ⟨rs,hr,t,λvs xs H1 Γ1 s1 h1 r1 z1=>?_,xr⟩;show Ψ4 xs Γ1 Z (Y τ) ⟨r1,h1,z1,vr.mono s1,λC H' Γ' s' h' y=>xr σ τ C H' Γ' (s1.trans s') h' (rs.mono (s1.trans s').tq) y⟩
end
end
section
variable {st: Stmt}{YB: List Stmt}{e: Expr}{te: Ad}{t u: CJ}
abbrev av:CJ:=λ_ D τ Γ=>D.nx τ Γ
abbrev jS(t u:CJ):CJ:=λY D τ Γ=>t Y {D with nx:=u Y D} τ Γ
abbrev cb(te:Ad):CJ:=λY D τ Γ=>te Y τ Γ λ_ Γ1=>D.nx τ Γ1
abbrev iB(te:Ad):CJ:=λY D τ Γ=>te Y τ Γ D.rt
abbrev iL(c:D6)(t u:CJ):CJ:=λY D τ Γ=>c Y τ Γ λb Γ1=>if b=true then t Y D τ Γ1 else u Y D τ Γ1
def AB:nH X [] (Cn E av):=eC acY λD σ H τ Γ Y Z rs hr t dr xr=>dr.nx σ τ H Γ .refl hr rs t
def A5(h1:PS X st (Cn E t))(h2:nH X YB (Cn E u)):nH X (st::YB) (Cn E (jS t u)):=
 eC (abD h1 h2) λD σ H τ Γ Y Z rs hr t dr xr=>
  ⟨τ,Γ,Y,_,rs,hr,t,⟨λσ' τ' H' Γ' s h r z=>Ψ4 τ' Γ' Y Z ⟨r,h,z,dr.mono s,xr.mono s⟩,dr.rt,dr.bk,dr.ct⟩,xr⟩
def IJ(he:PE X e (AL E te))(hs:swapsWith e none pos.line X.env=pure false:=by rfl):PS X (.Expr e pos) (Cn E (cb te)):=
 Gs (mq he hs) λD σ H τ Γ Y Z rs hr t dr xr=>Ψ4 τ Γ Y _ ⟨rs,hr,t,λv x H' Γ' s h r z=>dr.nx σ τ H' Γ' s h (rs.mono s.tq) z,xr⟩
def AJ(he:PE X e (AL E te)):PS X (.Return (some e) pos) (Cn E (iB te)):=
 Gs (ac5 he) λD σ H τ Γ Y Z rs hr t dr xr=>Ψ4 τ Γ Y _ ⟨rs,hr,t,dr.rt,xr⟩
def Ah{a b:List Stmt}(hc:PT X c (Cp E tc))(ha:nH X a (Cn E t))(hb:nH X b (Cn E u)):PS X (.If c a b pos) (Cn E (iL tc t u)):=
 Gs (uc hc ha hb) λD σ H τ Γ Y Z rs hr t dr xr=>by
  show Ψ4 τ Γ Y _ ⟨rs,hr,t,λk H1 Γ1 s1 h1 z1=>?_,xr⟩;cases k with
  |true=>show Ψ4 τ Γ1 Y Z ⟨rs.mono s1.tq,h1,z1,dr.mono s1,xr.mono s1⟩
  |false=>show Ψ4 τ Γ1 Y Z ⟨rs.mono s1.tq,h1,z1,dr.mono s1,xr.mono s1⟩
abbrev aZ(t:CJ):CJ:=λY D τ Γ=>∃P:BZ→AU→Prop,t Y {D with nx:=P} τ Γ∧∀τ Γ,P τ Γ→D.nx τ Γ
def E5(h:PS X st (Cn E t)):PS X st (Cn E (aZ t)):=
 Gs h λD σ H τ Γ Y Z rs hr q0 dr xr=>by let⟨P,t,k⟩:=q0;show Ψ4 τ Γ Y _ ⟨rs,hr,t,⟨λσ' τ' H' Γ' s h r z=>dr.nx σ' τ' H' Γ' s h r (k _ _ z),dr.rt,dr.bk,dr.ct⟩,xr⟩
abbrev Dl:=G2→T→BZ→AU→(BZ→AU→Prop)→Prop
abbrev Jz:=G2→List T→BZ→AU→(BZ→AU→Prop)→Prop
abbrev EN(E:St→BS)(g:Dl):Dv:=λv σ H Q=>∃x τ Γ Y Z,R H v x∧RS H σ τ∧HR H Γ∧g Y x τ Γ Z∧NR H Γ Z Q∧XR H Γ Y E
abbrev M1(E:St→BS)(g:Jz):Hl:=λv σ H Q=>∃x τ Γ Y Z,Rs H v x∧RS H σ τ∧HR H Γ∧g Y x τ Γ Z∧NR H Γ Z Q∧XR H Γ Y E
def jD{t0:Dv}{t:Dl}(h:PG X e t0)(w:∀v σ H Q x τ Γ Y Z,R H v x→RS H σ τ→HR H Γ→t Y x τ Γ Z→NR H Γ Z Q→XR H Γ Y E→t0 v σ H Q):PG X e (EN E t):=
 uF h (by intro v σ H Q⟨x,τ,Γ,Y,Z,r,rs,hr,q,nr,xr⟩;show w v σ H Q x τ Γ Y Z r rs hr q nr xr)
def ig{e:List Expr}{t0:Hl}{t:Jz}(h:Cw X e t0)(w:∀v σ H Q x τ Γ Y Z,Rs H v x→RS H σ τ→HR H Γ→t Y x τ Γ Z→NR H Γ Z Q→XR H Γ Y E→t0 v σ H Q):Cw X e (M1 E t):=
 acN h (by intro v σ H Q⟨x,τ,Γ,Y,Z,r,rs,hr,q,nr,xr⟩;show w v σ H Q x τ Γ Y Z r rs hr q nr xr)
abbrev hName(i:Nat):Dl:=λ_ x τ Γ Z=>Z (τ.set i (some x)) Γ
abbrev gH:Jz:=λ_ xs τ Γ Z=>xs=[]∧Z τ Γ
abbrev cB(g:Dl)(gs:Jz):Jz:=λY xs τ Γ Z=>∃x r,xs=x::r∧g Y x τ Γ λτ1 Γ1=>gs Y r τ1 Γ1 Z
abbrev aL(n:Nat)(gs:Jz):Dl:=λY x τ Γ Z=>∃ts,x=.tup ts∧ts.length=n∧gs Y ts τ Γ Z
def BX{x:Str}(hN:X.N.Nodup)(hi:X.N[i]?=some x)(hx:HD X.env.scope x)(hf:Fk X x:=by first|show .inl rfl|show .inr rfl|assumption):PG X (.Name x pos) (EN E (hName i)):=
 jD (aaA hN hi hx hf) λv σ H Q x τ Γ Y Z r rs hr t nr xr=>nr _ _ H Γ .refl hr (rs.set r i) t
def CW:Cw X [] (M1 E gH):=ig xO λv σ H Q x τ Γ Y Z r rs hr q0 nr xr=>by
 let⟨e,t⟩:=q0;subst e;show⟨Fp r,nr _ _ H Γ .refl hr rs t⟩
def Ak{es:List Expr}(h1:PG X e (EN E g))(h2:Cw X es (M1 E gs))(hs:(assignEach (e::es) X.env).map (·.2)=assign e X.env::(assignEach es X.env).map (·.2):=by rfl):Cw X (e::es) (M1 E (cB g gs)):=
 ig (tg8 h1 h2 hs) λv σ H Q x τ Γ Y Z r rs hr q0 nr xr=>by
  let⟨y,ys,e,t⟩:=q0;subst e;let⟨w,ws,rfl,r1,r2⟩:=Fo r;show Ψ2 w ws ⟨rfl,y,τ,Γ,Y,_,r1,rs,hr,t,λσ' τ' H' Γ' s h r z=>?_,xr⟩;show Ψ5 ys τ' Γ' Y Z ⟨r2.mono s.tq,r,h,z,nr.mono s,xr.mono s⟩
def Cg{es:List Expr}(hc:X.calm=true)(h:Cw X es (M1 E gs))
  (hn:(assignEach es X.env).length=n:=by rfl) (zO:(assignEach es X.env).findIdx? (·.1)=none:=by rfl):PG X (.Tuple es k pos) (EN E (aL n gs)):=
 jD (qh hc h hn zO) λv σ H Q x τ Γ Y Z r rs hr q0 nr xr=>by
  let⟨ts,e,l,t⟩:=q0;subst e;obtain⟨a,vs,rfl,ha,r⟩:=Ct r;show Ψ2 a vs ⟨rfl,eJ.of ha,by rw[r.length];show l,ts,τ,Γ,Y,Z,r,rs,hr,t,nr,xr⟩
abbrev V0(te:Ad)(g:Dl):CJ:=λY D τ Γ=>te Y τ Γ λx Γ1=>g Y x τ Γ1 D.nx
def pA(D:Ends)(σ:St)(H:AA)(q:Cn E (V0 te g) D σ H):RF (AL E te) (EN E g) D σ H:=by
 let⟨τ,Γ,Y,Z,rs,hr,t,dr,xr⟩:=q;show Ψ4 τ Γ Y _ ⟨rs,hr,t,λv x H1 Γ1 s1 h1 r1 z1=>Ψ5 x τ Γ1 Y _ ⟨r1,rs.mono s1.tq,h1,z1,dr.nx.mono s1,xr.mono s1⟩,xr⟩
def Fl(he:PE X e (AL E te))(hg:PG X tg (EN E g))(hs:swapsWithSole [tg] e pos.line X.env=pure false:=by rfl)(hw:swappedStores [tg] e X.env=pure none:=by rfl)
  (h1:(assignEach [tg] X.env).map (·.2)=[assign tg X.env]:=by rfl):PS X (.Assign [tg] e pos) (Cn E (V0 te g)):=RV (qo he hg hs hw h1) pA
abbrev Nz(i:Nat)(te:Ad):CJ:=λY D τ Γ=>te Y τ Γ λx Γ1=>D.nx (τ.set i (some x)) Γ1
def zN{x:Str}(hN:X.N.Nodup)(hi:X.N[i]?=some x)(hx:HD X.env.scope x)(he:PE X e (AL E te))(hs:swapsWith e (some (.Name x pos')) pos.line X.env=pure false:=by rfl)(hf:Fk X x:=by first|show .inl rfl|show .inr rfl|assumption):
  PS X (.Assign [.Name x pos'] e pos) (Cn E (Nz i te)):=Gs (rI hN hi hx he hs hf) λD σ H τ Γ Y Z rs hr t dr xr=>
   ⟨τ,Γ,Y,_,rs,hr,t,λv x H1 Γ1 s1 h1 r1 z1=>dr.nx _ _ H1 Γ1 s1 h1 ((rs.mono s1.tq).set r1 i) z1,xr⟩
abbrev sS(i:Nat)(te:Ad)(r:Ef):CJ:=λY D τ Γ=>∃x,τ[i]?=some (some x)∧te Y τ Γ λy Γ1=>r x y Γ1 λz Γ2=>D.nx (τ.set i (some z)) Γ2
def zH{x:Str}{op:Operator}{r3:Ef}(hN:X.N.Nodup)(hi:X.N[i]?=some x)(hx:HD X.env.scope x)(he:PE X e (AL E te))(ho:Bq X (inplaceOp op) r3)(hf:Fk X x:=by first|show .inl rfl|show .inr rfl|assumption):
  PS X (.AugAssign (.Name x pos') op e pos) (Cn E (sS i te r3)):=by
 obtain⟨r,ho,h⟩:=ho;show RV (sC (ti:=r) hN hi hx he ho hf) λD σ H ⟨τ,Γ,Y,Z,rs,hr,⟨x,e,t⟩,dr,xr⟩=>?_;let⟨v,ev,rv⟩:=rs.get e;show⟨v,ev,τ,Γ,Y,_,rs,hr,t,λw y H1 Γ1 s1 h1 r1 z1=>?_,xr⟩;show h v w x y H1 Γ1 _ _ (rv.mono s1.tq) r1 h1 z1 λu z H2 Γ2 s2 h2 r2 z2=>?_;show dr.nx _ _ H2 Γ2 (s1.trans s2) h2 ((rs.mono (s1.trans s2).tq).set r2 i) z2
structure Walks(J:FT)(ts:List T)(gd:AU→Prop)(H0:AA):Prop where
 go:∀i H Γ,Tq H0 H→HR H Γ→gd Γ→i<ts.length→J.go i H
 rK:∀i H Γ x H',Tq H0 H→HR H Γ→gd Γ→i<ts.length→J.rK i H x H'→hU H Γ H' Γ∧HR H' Γ∧∃t,ts[i]?=some t∧R H' x t
 stop:∀H Γ,Tq H0 H→HR H Γ→gd Γ→J.stop ts.length H
abbrev I3:=G2→BZ→AU→(List T→(AU→Prop)→AU→Prop)→Prop
abbrev E8(E:St→BS)(wi:I3):Dc:=λσ H Q=>∃τ Γ Y Z,RS H σ τ∧HR H Γ∧wi Y τ Γ Z∧(∀J ts gd H' Γ',hU H Γ H' Γ'→HR H' Γ'→Walks J ts gd H'→Z ts gd Γ'→Q J H')∧XR H Γ Y E
def JO{t0:Dc}{t:I3}(h:PI X tg e t0)(w:∀σ H Q τ Γ Y Z,RS H σ τ→HR H Γ→t Y τ Γ Z→(∀J ts gd H' Γ',hU H Γ H' Γ'→HR H' Γ'→Walks J ts gd H'→Z ts gd Γ'→Q J H')→XR H Γ Y E→t0 σ H Q):PI X tg e (E8 E t):=
 yF h (by intro σ H Q⟨τ,Γ,Y,Z,rs,hr,q,vr,xr⟩;show w σ H Q τ Γ Y Z rs hr q vr xr)
abbrev dw(gd:AU→Prop)(g:Dl)(tb:CJ)(Y:G2)(D:Kr)(ts:List T)(τ:BZ)(Γ:AU):Prop:=∃P:List T→BZ→AU→Prop,P ts τ Γ∧(∀τ Γ,P [] τ Γ→gd Γ∧D.nx τ Γ)∧
 ∀x r τ Γ,P (x::r) τ Γ→gd Γ∧g Y x τ Γ λτ2 Γ2=>tb Y {D with nx:=P r,ct:=P r,bk:=D.nx} τ2 Γ2
abbrev Zk(wi:I3)(g:Dl)(tb:CJ):CJ:=λY D τ Γ=>wi Y τ Γ λts gd Γ1=>dw gd g tb Y D ts τ Γ1
def drop_cons{α:Type}{xs:List α}(h:i<xs.length):xs.drop i=xs[i]::xs.drop (i+1):=List.drop_eq_getElem_cons h
def GS{iter:Expr}(hp:PassesOwn (model X.prog X.w) X.A X.env X.xe)(hc:X.calm=true)(hi:PI X tg iter (E8 E wi))(hg:PG X tg (EN E g))(hb:nH X body (Cn E tb))
  (hs:∀x,foldedSetIterable iter X.env x=pure x:=by intro _;rfl):PS X (.For tg iter body [] pos) (Cn E (Zk wi g tb)):=
 Gs (adG hp hc hi hg hb hs) λD σ H τ Γ Y Z rs hr t dr xr=>by
  show Ψ4 τ Γ Y _ ⟨rs,hr,t,λJ ts gd H1 Γ1 s1 h1 wk ξ=>Ξ13 ξ λP z1 p0 pc=>?_,xr⟩;show⟨λi m σ' H'=>∃τ' Γ',i≤ts.length∧m=ts.length-i∧RS H' σ' τ'∧HR H' Γ'∧hU H1 Γ1 H' Γ'∧P (ts.drop i) τ' Γ',Ψ3 ts.length τ Γ1 ⟨FI _,rfl,rs.mono s1.tq,h1,.refl,z1⟩,?_⟩;intro i m σ2 H2⟨τ2,Γ2,hi,rfl,vF,h2,s2,w2⟩;by_cases eQ:i<ts.length
  ·rw[drop_cons eQ]at w2
   let⟨g2,w2⟩:=pc _ _ _ _ w2;show .inr ⟨wk.go i H2 Γ2 s2.tq h2 g2 eQ,λσ' H'=>∃τ' Γ',RS H' σ' τ'∧HR H' Γ'∧hU H1 Γ1 H' Γ'∧P (ts.drop (i+1)) τ' Γ',λσ' H' ξ=>Ξ24 ξ λτ' Γ' a b c d=>⟨ts.length-(i+1),by lia,τ',Γ',eQ,rfl,a,b,c,d⟩,λx H3 yl=>?_⟩;let⟨s3,h3,⟨x3,e3,r3⟩⟩:=wk.rK i H2 Γ2 x H3 s2.tq h2 g2 eQ yl;rw[D0 eQ]at e3;cases e3;show Ψ5 _ τ2 Γ2 Y _ ⟨r3,vF.mono s3.tq,h3,w2,λσ4 τ4 H4 Γ4 s4 h4 r4 z4=>?_,xr.mono ((s1.trans s2).trans s3)⟩;let s5:=(s2.trans s3).trans s4;show Ψ4 τ4 Γ4 Y _ ⟨r4,h4,z4,⟨λσ' τ' H' Γ' s h r z=>Ψ2 τ' Γ' ⟨r,h,s5.trans s,z⟩,dr.rt.mono (s1.trans s5),dr.nx.mono (s1.trans s5),λσ' τ' H' Γ' s h r z=>Ψ2 τ' Γ' ⟨r,h,s5.trans s,z⟩⟩,xr.mono (s1.trans s5)⟩
  ·let e:i=ts.length:=by lia
   subst e;rw[JM]at w2;let w2:=p0 _ _ w2;show .inl ⟨wk.stop H2 Γ2 s2.tq h2 w2.1,dr.nx σ2 τ2 H2 Γ2 (s1.trans s2) h2 vF w2.2⟩
abbrev xF(c:D6)(tb:CJ):CJ:=λY D τ Γ=>∃W:Nat→BZ→AU→Prop,(∃m,W m τ Γ)∧∀m τ Γ,W m τ Γ→
 c Y τ Γ λb Γ1=>if b=true then ∃N:BZ→AU→Prop,(∀τ' Γ',N τ' Γ'→∃m',m' < m∧W m' τ' Γ')∧tb Y {D with nx:=N,ct:=N,bk:=D.nx} τ Γ1 else D.nx τ Γ1
def abH(hp:PassesOwn (model X.prog X.w) X.A X.env X.xe)(hc:PT X c (Cp E tc))(hb:nH X body (Cn E tb)):PS X (.While c body [] pos) (Cn E (xF tc tb)):=
 Gs (aaG hp hc hb) λD σ H τ Γ Y Z rs hr q0 dr xr=>by
  let⟨W,⟨m0,w0⟩,turn⟩:=q0;show⟨λm σ' H'=>∃τ' Γ',RS H' σ' τ'∧HR H' Γ'∧hU H Γ H' Γ'∧W m τ' Γ',Ψ3 m0 τ Γ ⟨rs,hr,.refl,w0⟩,?_⟩;intro m σ1 H1⟨τ1,Γ1,qC,h1,s1,w1⟩;show Ψ4 τ1 Γ1 Y _ ⟨qC,h1,turn m τ1 Γ1 w1,λk H2 Γ2 s2 h2 z2=>?_,xr.mono s1⟩;cases k with
  |false=>show dr.nx σ1 τ1 H2 Γ2 (s1.trans s2) h2 (qC.mono s2.tq) z2
  |true=>
   obtain⟨N,hN,z2⟩:=z2;show⟨λσ' H'=>∃τ' Γ',RS H' σ' τ'∧HR H' Γ'∧hU H Γ H' Γ'∧N τ' Γ',λσ' H' ξ=>Ξ24 ξ λτ' Γ' a b c d=>?_,?_⟩
   ·let⟨m',hm,w'⟩:=hN τ' Γ' d
    show⟨m',hm,τ',Γ',a,b,c,w'⟩
   ·let s3:=s1.trans s2
    show Ψ4 τ1 Γ2 Y _ ⟨qC.mono s2.tq,h2,z2,⟨λσ' τ' H' Γ' s h r z=>Ψ2 τ' Γ' ⟨r,h,s3.trans s,z⟩,dr.rt.mono s3,dr.nx.mono s3,λσ' τ' H' Γ' s h r z=>Ψ2 τ' Γ' ⟨r,h,s3.trans s,z⟩⟩,xr.mono s3⟩
abbrev Gq(own:List Str)(cap:List (Nat×Str))(τ:BZ):BZ:=List.replicate own.length none++cap.map λp=>(τ[p.1]?).getD none
def cK{H:AA}:∀{a:St} {b:BZ} {c:St} {d:BZ},RS H a b→RS H c d→RS H (a++c) (b++d)
 |[],[],_,_,_,h=>h
 |_::_,_::_,_,_,h,q=>⟨h.1,cK h.2 q⟩
 |[],_::_,_,_,h,_=>h.elim
 |_::_,[],_,_,h,_=>h.elim
def YV{H:AA}:∀n:Nat,RS H (List.replicate n none) (List.replicate n none)
 |0=>trivial
 |n+1=>⟨trivial,YV n⟩
def Mw{σ:St}{τ:BZ}(own:List Str)(h:RS H σ τ):∀cap:List (Nat×Str),RS H (Fn own cap σ) (Gq own cap τ):=λcap=>by
 show cK (YV _) ?_;induction cap with
 |nil=>show trivial
 |cons p r ih=>
  show⟨?_,ih⟩;show Ue H ((σ[p.1]?).getD none) ((τ[p.1]?).getD none)
  cases e:τ[p.1]? with
  |none=>show trivial
  |some o=>
   cases o with
   |none=>show trivial
   |some x=>
    let⟨v,ev,rv⟩:=h.get e;rw[ev];show rv
@[reducible]def Cc:G2:=λ_ _ _=>False
abbrev iW(gd:AU→Prop)(g:Dl)(tc:D6)(te:Ad)(C:List T→AU→Prop)(ts:List T)(τ:BZ)(ys:List T)(Γ:AU):Prop:=∃P:List T→BZ→List T→AU→Prop,P ts τ ys Γ∧(∀τ ys Γ,P [] τ ys Γ→gd Γ∧C ys Γ)∧
 ∀x r τ ys Γ,P (x::r) τ ys Γ→gd Γ∧g Cc x τ Γ λτ3 Γ3=>tc Cc τ3 Γ3 λb Γ4=>if b=true then te Cc τ3 Γ4 λy Γ5=>P r τ3 (ys++[y]) Γ5 else P r τ3 ys Γ4
abbrev NA(wi:I3)(g:Dl)(tc:D6)(te:Ad)(own:List Str)(cap:List (Nat×Str)):Ad:=λY τ Γ Z=>wi Y τ Γ λts gd Γ1=>ts.length≤sizeLine∧
 iW gd g tc te (λys Γ2=>∀D,Γ2 D=none→Z (.ref D) (AF Γ2 D (.lst ys))) ts (Gq own cap τ) [] Γ1
@[reducible]def CV:St→BS:=λ_=>Ji
def Eu:XR H Γ Cc CV:=λ_ _ _ _ _ _ _ _ z=>z.elim
def dP(σ:St)(H:AA)(Q:B1)(q:AL E (NA wi g tc te own cap) σ H Q):Rn (E8 E wi) (EN CV g) (Cp CV tc) (AL CV te) own cap σ H Q:=by
 let⟨τ,Γ,Y,Z,rs,hr,t,vr,xr⟩:=q;show Ψ4 τ Γ Y _ ⟨rs,hr,t,λJ ts gd H1 Γ1 s1 h1 wk⟨hz,P,z1,p0,pc⟩=>?_,xr⟩;intro D hD;let nl:∀vs:List V,(∀us:List V,HO.lst vs≠.tup us)∧∀b w,HO.lst vs≠.frz b w:=λ_=>⟨λ_ z=>(nomatch z),λ_ _ z=>(nomatch z)⟩;show⟨λi m σ' vs H'=>∃τ' ys Γ',i≤ts.length∧m=ts.length-i∧vs.length≤i∧RS H' σ' τ'∧HR H' Γ'∧H' D=some (.lst vs)∧Γ' D=none∧Rs H' vs ys∧hU H1 Γ1 H' Γ'∧P (ts.drop i) τ' ys Γ',
  ⟨ts.length,Gq own cap τ,[],Γ1,FI _,rfl,Av _,(Mw own (rs.mono s1.tq) cap).mono (DI (Cm hD)),h1.keep (Cm hD),Bz,h1.free hD,FL,.keep (Cm hD),z1⟩,?_⟩
 intro i m σ2 vs H2⟨τ2,ys,Γ2,hi,rfl,hv,vF,h2,d2,gD,ry,s2,w2⟩;show⟨d2,?_⟩;by_cases eQ:i<ts.length
 ·rw[drop_cons eQ]at w2
  let⟨g2,w2⟩:=pc _ _ _ _ _ w2;show .inr ⟨wk.go i H2 Γ2 s2.tq h2 g2 eQ,by lia,λσ' ws H'=>∃τ' ys Γ',ws.length≤i+1∧RS H' σ' τ'∧HR H' Γ'∧H' D=some (.lst ws)∧Γ' D=none∧Rs H' ws ys∧hU H1 Γ1 H' Γ'∧P (ts.drop (i+1)) τ' ys Γ',
   λσ' ws H' ξ=>Ξ38 ξ λτ' ys Γ' a b c d e f k l=>⟨ts.length-(i+1),by lia,τ',ys,Γ',eQ,rfl,a,b,c,d,e,f,k,l⟩,λx H3 yl=>?_⟩
  let⟨s3,h3,⟨x3,e3,r3⟩⟩:=wk.rK i H2 Γ2 x H3 s2.tq h2 g2 eQ yl;rw[D0 eQ]at e3;cases e3;show Ψ5 _ τ2 Γ2 Cc _ ⟨r3,vF.mono s3.tq,h3,w2,λσ4 τ4 H4 Γ4 s4 h4 r4 z4=>?_,Eu⟩;show Ψ4 τ4 Γ4 Cc _ ⟨r4,h4,z4,λk H5 Γ5 s5 h5 z5=>?_,Eu⟩;let Rp:=(s3.trans s4).trans s5;let d5:H5 D=some (.lst vs):=Rp.vV D _ d2 gD;let g5:Γ5 D=none:=Rp.new D (by rw[d2];exactλz=>nomatch z) gD;cases k with
  |false=>show Ψ3 τ4 ys Γ5 ⟨Fc hv,r4.mono s5.tq,h5,d5,g5,ry.mono Rp.tq,s2.trans Rp,z5⟩
  |true=>
   show Ψ4 τ4 Γ5 Cc _ ⟨r4.mono s5.tq,h5,z5,λy y' H6 Γ6 s6 h6 r6 z6=>?_,Eu⟩;let tP:=Rp.trans s6;let d6:H6 D=some (.lst vs):=tP.vV D _ d2 gD;let g6:Γ6 D=none:=tP.new D (by rw[d2];exactλz=>nomatch z) gD;let tq:Tq H6 (Ac H6 D (.lst (vs++[y]))):=Gv d6 (nl vs);show⟨d6,τ4,ys++[y'],Γ6,by rw[B3];show LU hv,(r4.mono (s5.trans s6).tq).mono tq,h6.hide g6 d6 (nl vs),Bz,g6,Rs.app ((ry.mono tP.tq).mono tq) (FU (r6.mono tq) FL),?_,z6⟩;let s7:=s2.trans tP;show⟨s7.tq.trans tq,λa h z=>?_,s7.new,λa o h g=>?_⟩
   ·by_cases e:a=D
    ·subst e;show h hD
    ·rw[BC e]at z;show s7.xK a h z
   ·let e:a≠D:=λe=>by subst e;rw[hD]at h;cases h
    rw[BC e];show s7.vV a o h g
 ·let e:i=ts.length:=by lia
  subst e;rw[JM]at w2;let w2:=p0 _ _ _ w2;show .inl ⟨wk.stop H2 Γ2 s2.tq h2 w2.1,?_⟩;let sO:=s1.trans s2;show vr (.ref D) (.ref D) H2 (AF Γ2 D (.lst ys)) ⟨sO.tq,sO.xK,λa h g=>?_,sO.vV⟩ (λa o g=>?_) F2 (w2.2 D gD)
  ·let e:a≠D:=λe=>by subst e;show s1.xK _ h hD
   rw[Ce e];show sO.new a h g
  ·by_cases e:a=D
   ·subst e;rw[BN]at g;cases g;show⟨vs,d2,ry⟩
   ·rw[Ce e]at g;show h2 a o g
section
variable {scope: Scope}{cl: List (Str×Addr)}{own: List Str}{cap: List (Nat×Str)}{tg iter elt: Expr}{ifs: List Expr}{wi: I3}{g: Dl}{tc: D6}{te: Ad}
def Cs(c:dB X scope cl own cap)(hc:X.calm=true)(hi:PI X tg iter (E8 E wi))
  (hg:∀C s H fp,PG (Ba X (own++cap.map (·.2)) scope cl C s H fp λ_ _=>False) tg (EN CV g)) (ht:∀C s H fp,ye (Ba X (own++cap.map (·.2)) scope cl C s H fp λ_ _=>False) ifs (Cp CV tc))
  (he:∀C s H fp,PE (Ba X (own++cap.map (·.2)) scope cl C s H fp λ_ _=>False) elt (AL CV te)) (hs:∀x,foldedSetIterable iter X.env x=pure x:=by intro _;rfl) :
  PE X (.ListComp elt [⟨tg,iter,ifs,0⟩] scope pos) (AL E (NA wi g tc te own cap)):=Fj (abo c hc hi hg ht he hs) dP
def aa2{y:Str}{py EY:Pos}(c:dB X scope cl own cap)(hc:X.calm=true)(hi:PI X tg iter (E8 E wi))
  (hg:∀C s H fp,PG (Ba X (own++cap.map (·.2)) scope cl C s H fp λ_ _=>False) tg (EN CV g)) (ht:∀C s H fp,ye (Ba X (own++cap.map (·.2)) scope cl C s H fp λ_ _=>False) ifs (Cp CV tc))
  (he:∀C s H fp,PE (Ba X (own++cap.map (·.2)) scope cl C s H fp λ_ _=>False) elt (AL CV te))
  (hN:X.N.Nodup) (hy:X.N[i]?=some y) (hl:X.env.scope.names.lookup y=some .local)
  (W0:swapsWith (.ListComp elt [⟨tg,iter,ifs,0⟩] scope pos) (some (.Name y py)) EY.line X.env=pure true:=by rfl) (hs:∀x,foldedSetIterable iter X.env x=pure x:=by intro _;rfl) :
  PS X (.Assign [.Name y py] (.ListComp elt [⟨tg,iter,ifs,0⟩] scope pos) EY) (Cn E (Nz i (NA wi g tc te own cap))):=
 Gs (vJ c hc hi hg ht he hN hy hl W0 hs) λD σ H τ Γ Y Z rs hr t dr xr=>
  dP σ H _ ⟨τ,Γ,Y,_,rs,hr,t,λv x H1 Γ1 s1 h1 r1 z1=>dr.nx _ _ H1 Γ1 s1 h1 ((rs.mono s1.tq).set r1 i) z1,xr⟩
abbrev jL:D6:=λ_ _ Γ Z=>Z true Γ
def DJ:ye X [] (Cp E jL):=yC pt5 λσ H Q τ Γ Y Z rs hr t vr xr=>vr true H Γ .refl hr t
def OX{t:D6}(h:PT X c (Cp E t)):ye X [c] (Cp E t):=vD h
end
end
abbrev Az:List Str→List T→BZ
 |[],_=>[]
 |_::N,[]=>none::Az N []
 |_::N,t::ts=>some t::Az N ts
def kA{H:AA}:∀N:List Str,RS H (List.replicate N.length none) (Az N [])
 |[]=>trivial
 |_::N=>⟨trivial,kA N⟩
def Td{H:AA}:∀(N:List Str) {vs:List V} {ts:List T},Rs H vs ts→ts.length≤N.length→RS H (L2.start N vs) (Az N ts)
 |N,vs,[],h,_=>by
  rw[Fp h];show kA N
 |[],vs,t::ts,h,l=>absurd l (by simp)
 |n::N,vs,t::ts,h,l=>by
  let⟨v,ws,rfl,a,b⟩:=Fo h;have:=Td N b (by simpa using l);show⟨a,?_⟩;unfold L2.start at this;rw[D7,D7,Nat.add_sub_add_right];show this
def gz{sc:Scope}(S:B0 N ps sc):ps.length≤N.length:=by
 have:=EJ List.length S.pre;rw[EH]at this;lia
section
variable {x: Str}{C: Addr}{L4: List Value}{B newId AW: String}{e₀: Expr}{v6: List Expr}{t: Co}{E: BS}
abbrev Vw(C:Addr)(t:Co):CJ:=λY D τ Γ=>t Y τ Γ λxs Γ1=>xs.length≤sizeLine∧Y τ (.ref C) Γ1
def Qf(hc:X.calm=true)(hg:CF X x)(hm:X.mg x=some (.ref C))(hx:W.excIn X.K C L4 newId=true)(FB:ExcBaseFacts B newId AW L4)(ha:PA X (e₀::v6) (Ds (λ_=>E) t))(hE:Raises X E)
  (hd:(x ==("__debug__" : Str))=false:=by decide) (he:starEach (e₀::v6) X.env=(false,eval e₀ X.env)::starEach v6 X.env:=by rfl) (jw:(backTo dS (starEach v6 X.env)).any (·.1)=false:=by rfl) :
  PS X (.Raise (some (.Call (.Name x np) (e₀::v6) [] dS)) none pos) (Cn (λ_=>E) (Vw C t)):=
 Gs (abR hc hg hm hx FB ha hE hd he jw) λD σ H τ Γ Y Z rs hr t dr xr=>
  ⟨τ,Γ,Y,_,rs,hr,t,λvs xs H1 Γ1 s1 h1 r1 z1=>⟨by rw[r1.length];show z1.1,xr σ τ _ H1 Γ1 s1 h1 (rs.mono s1.tq) z1.2⟩,xr⟩
end
section
variable {body qY: List Stmt}{b₀: Stmt}{y: Str}{AX: Pos}{Cy: Addr}{tb ts: CJ}
abbrev bu(K:W.Frag)(Cy:Addr)(tb ts:CJ):CJ:=λ_ D τ Γ=>tb (λτ' C Γ'=>W.exmOne K C (.ref Cy)=some true∧ts Cc D τ' Γ') D τ Γ
def aay(zO:X.stack=X.env::X.outer)(J8:X.env.frame=some X.env.locals)(hy:CF X y)(SN:X.mg y=some (.ref Cy))
  (hb:∀(E':xz) (pn:ac) (W:St→BS),(∀v4 σ H s e s',Inv (X.tr E' pn) v4 σ H s→FF X.prog X.w X.stack H s (W σ) e s'→E' e s')→nH (X.tr E' pn) body (Cn W tb))
  (hs:∀x,nH (X.su x) (b₀::qY) (Cn CV ts)) (hd:(y ==("__debug__" : Str))=false:=by decide) :
  PS X (.Try body [.ExceptHandler (some (.Name y np)) none (b₀::qY) AX] [] [] pos) (Cn E (bu X.K Cy tb ts)):=
 Gs (tSl zO J8 hy SN hb hs hd) λD σ H τ Γ Y Z rs hr t dr xr=>
  ⟨τ,Γ,_,Z,rs,hr,t,dr,λσ1 τ1 C H1 Γ1 s1 h1 r1 y1=>⟨y1.1,_,_,Cc,_,r1,h1,y1.2,dr.mono s1,Eu⟩⟩
end
abbrev sc:T→Option V
 |.non=>some .non|.bl b=>some (.bl b)|.int i=>some (.int i)|.str z=>some (.str z)|_=>none
def JS{u:V}(r:R H v x)(h:sc x=some u):v=u:=by
 cases x with
 |non=>cases h;show JY r
 |bl b=>cases h;show GW r
 |int i=>cases h;show CK r
 |str z=>cases h;show CS r
 |tup ts=>cases h
 |ref a=>cases h
 |ty n=>cases h
 |scr K a ts=>cases h
abbrev Jl:List T→Option (List V)
 |[]=>some []
 |x::r=>match sc x,Jl r with|some v,some vs=>some (v::vs)|_,_=>none
def eB{H:AA}:∀{ts:List T} {vs us:List V},Rs H vs ts→Jl ts=some us→vs=us
 |[],vs,us,r,h=>by cases h;show Fp r
 |x::q,vs,us,r,h=>by
  let⟨v,ws,rfl,a,b⟩:=Fo r;unfold Jl at h;split at h
  ·rename_i v' Ey e1 e2
   cases h;rw[JS a e1,eB b e2]
  ·cases h
abbrev Ep(Γ:AU):T→Option (List T)
 |.tup ts=>some ts
 |.ref a=>match Γ a with|some (.lst ts)=>some ts|_=>none
 |_=>none
def BR(h:Γ a=some (.lst ts)):Ep Γ (.ref a)=some ts:=by
 show(match Γ a with|some (.lst ts)=>some ts|_=>none)=_
 rw[h]
def IV(hr:HR H Γ)(h:Ep Γ (.ref a)=some ts):∃vs,lG K H a vs∧Rs H vs ts:=by
 have h:(match Γ a with|some (.lst ts)=>some ts|_=>none)=some ts:=h;split at h
 ·rename_i ts' g;cases h;let⟨vs,ha,q⟩:=hr a _ g;show⟨vs,lG.of ha,q⟩
 ·cases h
def OW(r:R H v x)(hr:HR H Γ)(h:Ep Γ x=some ts):∃p vs,v=.ref p∧(lG K H p vs∨eJ K H p vs)∧Rs H vs ts:=by
 cases x with
 |tup us=>cases h;let⟨a,vs,e,ha,q⟩:=Ct r;show Ψ2 a vs ⟨e,.inr (eJ.of ha),q⟩
 |ref a=>let⟨vs,s,q⟩:=IV (K:=K) hr h;show Ψ2 a vs ⟨Bv r,.inl s,q⟩
 |_=>cases h
section
abbrev K4(C:Int→Int→Prop)(g:Int→Int→T):Ef:=λx y Γ Z=>∃i j,x=.int i∧y=.int j∧C i j∧Z (g i j) Γ
abbrev Jp(g:Int→Int→T):Ef:=λx y Γ Z=>∃i j,x=.int i∧y=.int j∧Z (g i j) Γ
def MN{g:Int→Int→V}(h:jB X f (KI C g))(e:∀i j H,R H (g i j) (g3 i j)):Bq X f (K4 C g3):=
 ⟨_,h,λx y a b H Γ Q Z ra rb hr q0 vr=>by let⟨i,j,ea,eb,c,z⟩:=q0;subst ea eb;show Ψ2 i j ⟨CK ra,CK rb,c,vr _ _ H Γ .refl hr (e i j H) z⟩⟩
def LB{g:Int→Int→V}(h:jB X f (Ih g))(e:∀i j H,R H (g i j) (g3 i j)):Bq X f (Jp g3):=
 ⟨_,h,λx y a b H Γ Q Z ra rb hr q0 vr=>by let⟨i,j,ea,eb,z⟩:=q0;subst ea eb;show Ψ2 i j ⟨CK ra,CK rb,vr _ _ H Γ .refl hr (e i j H) z⟩⟩
def C3:Bq X (binaryOp .Add) (Jp λi j=>.int (i+j)):=LB oF λ_ _ _=>DO
def GI:Bq X (binaryOp .Sub) (Jp λi j=>.int (i-j)):=LB qD λ_ _ _=>DO
def HF:Bq X (binaryOp .Mult) (K4 DZ λi j=>.int (i*j)):=MN acm λ_ _ _=>DO
def FC:Bq X (binaryOp .FloorDiv) (K4 CB λi j=>.int (i/j)):=MN Gap λ_ _ _=>DO
def Bc:Bq X (binaryOp .Mod) (K4 (λ_ j=>0<j) λi j=>.int (i%j)):=MN aak λ_ _ _=>DO
def JX:Bq X (binaryOp .Pow) (K4 Qk λi j=>.int (i^j.toNat)):=MN ma λ_ _ _=>DO
def Fy:Bq X (compareOp .Lt) (Jp λi j=>.bl (decide (i<j))):=LB rg λ_ _ _=>D5
def El:Bq X (compareOp .LtE) (Jp λi j=>.bl (decide (i≤j))):=LB xM λ_ _ _=>D5
def Ii:Bq X (compareOp .Gt) (Jp λi j=>.bl (decide (j<i))):=LB tX λ_ _ _=>D5
def jW:Bq X (compareOp .GtE) (Jp λi j=>.bl (decide (j≤i))):=LB abd λ_ _ _=>D5
def abF:Bq X (inplaceOp .Mult) (K4 DZ λi j=>.int (i*j)):=MN wM λ_ _ _=>DO
def GN:Bq X (binaryOp .Add) (λx y Γ Z=>∃i j,x=.str i∧y=.str j∧i.length+j.length≤sizeLine∧Z (.str (i++j)) Γ):=
 ⟨_,aan,λx y a b H Γ Q Z ra rb hr q0 vr=>by let⟨i,j,ea,eb,c,z⟩:=q0;subst ea eb;show Ψ2 i j ⟨CS ra,CS rb,c,vr _ _ H Γ .refl hr Hw z⟩⟩
def tg5:Bq X (compareOp .In) (λx y Γ Z=>∃i j,x=.str i∧y=.str j∧Z (.bl (!(Builtin.Str.occurrences j i 0 j.length 1).isEmpty)) Γ):=
 ⟨_,uf,λx y a b H Γ Q Z ra rb hr q0 vr=>by let⟨i,j,ea,eb,z⟩:=q0;subst ea eb;show Ψ2 i j ⟨CS ra,CS rb,vr _ _ H Γ .refl hr D5 z⟩⟩
def ay:Bq X (compareOp .NotIn) (λx y Γ Z=>∃i j,x=.str i∧y=.str j∧Z (.bl (!(!(Builtin.Str.occurrences j i 0 j.length 1).isEmpty))) Γ):=
 ⟨_,lW,λx y a b H Γ Q Z ra rb hr q0 vr=>by let⟨i,j,ea,eb,z⟩:=q0;subst ea eb;show Ψ2 i j ⟨CS ra,CS rb,vr _ _ H Γ .refl hr D5 z⟩⟩
abbrev NM:Ef:=λx y Γ Z=>∃u v,sc x=some u∧sc y=some v∧Pd u v=true∧Z (.bl (decide (u=v))) Γ
abbrev TR:Ef:=λx y Γ Z=>∃u v,sc x=some u∧sc y=some v∧Pd u v=true∧Z (.bl (!decide (u=v))) Γ
def BI:Bq X (compareOp .Eq) NM:=
 ⟨_,zV,λx y a b H Γ Q Z ra rb hr q0 vr=>by let⟨u,v,ea,eb,c,z⟩:=q0;rw[JS ra ea,JS rb eb];show⟨c,vr _ _ H Γ .refl hr D5 z⟩⟩
def EF:Bq X (compareOp .NotEq) TR:=
 ⟨_,zR,λx y a b H Γ Q Z ra rb hr q0 vr=>by let⟨u,v,ea,eb,c,z⟩:=q0;rw[JS ra ea,JS rb eb];show⟨c,vr _ _ H Γ .refl hr D5 z⟩⟩
abbrev Ft:T→Bool|.non=>true|_=>false
def eM(r:R H v x):decide (v=.non)=Ft x:=by
 cases x with
 |non=>rw[JY r];rfl
 |bl b=>rw[GW r];rfl
 |int i=>rw[CK r];rfl
 |str z=>rw[CS r];rfl
 |tup ts=>let⟨a,vs,e,_⟩:=Ct r;rw[e];rfl
 |ref a=>rw[Bv r];rfl
 |ty n=>rw[xV r];rfl
 |scr K a ts=>rw[(UB r).1];rfl
def N5:Bq X (compareOp .Is) (λx y Γ Z=>y=.non∧Z (.bl (Ft x)) Γ):=
 ⟨_,kP,λx y a b H Γ Q Z ra rb hr q0 vr=>by let⟨eb,z⟩:=q0;subst eb;show⟨JY rb,by rw[eM ra];show vr _ _ H Γ .refl hr D5 z⟩⟩
def Vc:Bq X (compareOp .IsNot) (λx y Γ Z=>y=.non∧Z (.bl (!Ft x)) Γ):=
 ⟨_,sf,λx y a b H Γ Q Z ra rb hr q0 vr=>by let⟨eb,z⟩:=q0;subst eb;show⟨JY rb,by rw[eM ra];show vr _ _ H Γ .refl hr D5 z⟩⟩
abbrev Ko(neg:Bool):Ef:=λx y Γ Z=>∃u ts us,sc x=some u∧Ep Γ y=some ts∧Jl ts=some us∧EO u=true∧us.all EO=true∧Z (.bl (if neg then !E0 u us else E0 u us)) Γ
def jz(x y:V)(a b:T)(H:AA)(Γ:AU)(Q:B1)(Z:Dh)(ra:R H x a)(rb:R H y b)(hr:HR H Γ)(h:Ko neg a b Γ Z)(vr:VR H Γ Z Q):S8 X.K neg x y H Q:=by
 let⟨u,ts,us,ea,eb,es,f1,f2,z⟩:=h;let⟨p,vs,rfl,sq,q⟩:=OW (K:=X.K) rb hr eb;rw[JS ra ea];cases eB q es;show Ψ2 p _ ⟨rfl,sq,f1,f2,vr _ _ H Γ .refl hr D5 z⟩
def Ug:Bq X (compareOp .In) (Ko false):=⟨_,X7,jz⟩
def Vn:Bq X (compareOp .NotIn) (Ko true):=⟨_,X0,jz⟩
def VL(q:Rs H vs ts):vs.isEmpty=ts.isEmpty:=by
 have:=q.length;cases vs<;>cases ts<;>simp_all
def dJ(hu:X.A.units<cLine):Bq X (compareOp .Eq) (λx y Γ Z=>∃a b ts,x=.ref a∧y=.ref b∧Γ a=some (.lst ts)∧Γ b=some (.lst [])∧Z (.bl ts.isEmpty) Γ):=
 ⟨_,aa6 hu,λx y a b H Γ Q Z ra rb hr q0 vr=>by
  let⟨p,p',ts,ea,eb,g1,g2,z⟩:=q0;subst ea eb;let⟨vs,hv,q⟩:=hr p _ g1;let⟨Ey,Dx,q'⟩:=hr p' _ g2;rw[Fp q']at Dx;show Ψ3 p p' vs ⟨Bv ra,Bv rb,lG.of hv,lG.of Dx,by rw[VL q];show vr _ _ H Γ .refl hr D5 z⟩⟩
abbrev eX:Ef:=λx y Γ Z=>∃ts us,x=.tup ts∧y=.tup us∧ts.length+us.length≤sizeLine∧Z (.tup (ts++us)) Γ
def Jy(k:Kp [] H H'):∀b o,H b=some o→H' b=some o:=λb o h=>k b o (by simp) h
def Hb:Bq X (binaryOp .Add) eX:=
 ⟨_,yk,λx y a b H Γ Q Z ra rb hr q0 vr=>by
  let⟨ts,us,ea,eb,l,z⟩:=q0;subst ea eb;let⟨p,vs,rfl,hp,q⟩:=Ct ra;let⟨p',Ey,rfl,A0,q'⟩:=Ct rb;show Ψ4 p p' vs Ey ⟨rfl,rfl,hp,A0,by rw[q.length,q'.length];show l,λc H' k hc=>?_⟩;show vr _ _ H' Γ (.keep (Jy k)) (hr.keep (Jy k)) (Io hc (Rs.app (q.mono (DI (Jy k))) (q'.mono (DI (Jy k))))) z⟩
abbrev ab4:Ef:=λx y Γ Z=>∃a b ts us,x=.ref a∧y=.ref b∧Γ a=some (.lst ts)∧Γ b=some (.lst us)∧ts.length+us.length≤sizeLine∧∀p,Γ p=none→Z (.ref p) (AF Γ p (.lst (ts++us)))
def IB:Bq X (binaryOp .Add) ab4:=
 ⟨_,tOr,λx y a b H Γ Q Z ra rb hr q0 vr=>by
  let⟨p,p',ts,us,ea,eb,g1,g2,l,z⟩:=q0;subst ea eb;let⟨vs,hv,q⟩:=hr p _ g1;let⟨Ey,Dx,q'⟩:=hr p' _ g2;show Ψ4 p p' vs Ey ⟨Bv ra,Bv rb,hv,Dx,by rw[q.length,q'.length];show l,λc hc=>?_⟩;let k:=Cm (o:=.lst (vs++Ey)) hc;show vr _ _ _ _ (.make hc) (hr.make (o3:=.lst (ts++us)) hc ⟨_,Bz,Rs.app (q.mono (DI k)) (q'.mono (DI k))⟩) F2 (z c (hr.free hc))⟩
def kW{i:Int}{t:T}(q:Rs H vs ts)(h:C0 ts i=some t):∃v,C0 vs i=some v∧R H v t:=by
 unfold C0 at h ⊢;rw[q.length];cases e:GY ts.length i with
 |none=>rw[e]at h;cases h
 |some j=>
  rw[e]at h;let h':ts[j]?=some t:=h;let⟨v,hv,r⟩:=q.get h';show⟨v,hv,r⟩
abbrev Lg:Ef:=λx y Γ Z=>∃ts i t,Ep Γ x=some ts∧y=.int i∧C0 ts i=some t∧Z t Γ
abbrev aw:Ef:=λx y Γ Z=>∃z i c,x=.str z∧y=.int i∧z.length≤sizeLine∧C0 z.cps.toList i=some c∧Z (.str ⟨#[c]⟩) Γ
variable {a b e: Expr}{ta tb te: Ad}
def acx(ha:PE X a (AL E ta))(hb:PE X b (AL E tb))(hs:M6 b):PE X (.Subscript a b pos) (AL E (Hd Lg ta tb)):=
 Fj (gY oy ha hb hs) (MT λx y a b H Γ Q Z ra rb hr q0 vr=>by
  let⟨ts,i,t,ea,eb,h,z⟩:=q0;subst eb;let⟨p,vs,rfl,sq,q⟩:=OW (K:=X.K) ra hr ea;let⟨v,hv,r⟩:=kW q h;rcases sq with sq|sq
  ·show .inl ⟨p,vs,i,v,rfl,CK rb,sq,hv,vr _ _ H Γ .refl hr r z⟩
  ·show .inr (.inl ⟨p,vs,i,v,rfl,CK rb,sq,hv,vr _ _ H Γ .refl hr r z⟩))
def w8(ha:PE X a (AL E ta))(hb:PE X b (AL E tb))(hs:M6 b):PE X (.Subscript a b pos) (AL E (Hd aw ta tb)):=
 Fj (gY Zj ha hb hs) (MT λx y a b H Γ Q Z ra rb hr q0 vr=>by
  let⟨w,i,c,ea,eb,l,h,z⟩:=q0;subst ea eb;show Ψ3 w i c ⟨CS ra,CK rb,l,h,vr _ _ H Γ .refl hr Hw z⟩)
abbrev Jf:=G2→BZ→AU→(Option Int→AU→Prop)→Prop
abbrev Lr(E:St→BS)(t:Jf):Iy:=λσ H Q=>∃τ Γ Y Z,RS H σ τ∧HR H Γ∧t Y τ Γ Z∧(∀i H' Γ',hU H Γ H' Γ'→HR H' Γ'→Z i Γ'→Q i H')∧XR H Γ Y E
def abf{e:Option Expr}{t t':Iy}(h:PO X e t)(w:∀σ H Q,t' σ H Q→t σ H Q):PO X e t':=⟨λv4 s σ H Q I q=>h.run v4 s σ H Q I (w _ _ _ q)⟩
def cF{e:Option Expr}{t0:Iy}{t:Jf}(h:PO X e t0)(w:∀σ H Q τ Γ Y Z,RS H σ τ→HR H Γ→t Y τ Γ Z→(∀i H' Γ',hU H Γ H' Γ'→HR H' Γ'→Z i Γ'→Q i H')→XR H Γ Y E→t0 σ H Q):PO X e (Lr E t):=
 abf h (by intro σ H Q⟨τ,Γ,Y,Z,rs,hr,q,vr,xr⟩;show w σ H Q τ Γ Y Z rs hr q vr xr)
abbrev iq:Jf:=λ_ _ Γ Z=>Z none Γ
abbrev Yc(t:Ad):Jf:=λY τ Γ Z=>t Y τ Γ λx Γ1=>∃i,x=.int i∧Z (some i) Γ1
def DE:PO X none (Lr E iq):=cF uB λσ H Q τ Γ Y Z rs hr t vr xr=>vr none H Γ .refl hr t
def Be(h:PE X e (AL E te)):PO X (some e) (Lr E (Yc te)):=cF (aaR h) λσ H Q τ Γ Y Z rs hr t vr xr=>
 ⟨τ,Γ,Y,_,rs,hr,t,λv x H1 Γ1 s1 h1 r1 q0=>by let⟨i,ex,z⟩:=q0;subst ex;show⟨i,CK r1,vr _ H1 Γ1 s1 h1 z⟩,xr⟩
abbrev NY:=T→Option Int→Option Int→AU→Dh→Prop
abbrev MD(X:Cx)(r3:NY):Prop:=∃r,KJ X r∧∀x a lo hi H Γ Q Z,R H x a→HR H Γ→r3 a lo hi Γ Z→VR H Γ Z Q→r x lo hi H Q
abbrev iY(r:NY)(te:Ad)(tl th:Jf):Ad:=λY τ Γ Z=>te Y τ Γ λx Γ1=>tl Y τ Γ1 λl Γ2=>th Y τ Γ2 λu Γ3=>r x l u Γ3 Z
def CN{r3:NY}{lo hi:Option Expr}{tl:Jf}(hs:MD X r3)(he:PE X e (AL E te))(hl:PO X lo (Lr E tl))(hu:PO X hi (Lr E th)):PE X (.Subscript e (.Slice lo hi none p2) pos) (AL E (iY r3 te tl th)):=by
 let⟨r,Zr,sim⟩:=hs;show E6 (uA Zr he hl hu) λσ H Q τ Γ Y Z rs hr t vr xr=>?_;show Ψ4 τ Γ Y _ ⟨rs,hr,t,λv x H1 Γ1 s1 h1 r1 z1=>?_,xr⟩;show Ψ4 τ Γ1 Y _ ⟨rs.mono s1.tq,h1,z1,λl H2 Γ2 s2 h2 z2=>?_,xr.mono s1⟩;show Ψ4 τ Γ2 Y _ ⟨rs.mono (s1.trans s2).tq,h2,z2,λu H3 Γ3 s3 h3 z3=>?_,xr.mono (s1.trans s2)⟩;show sim v x l u H3 Γ3 Q Z (r1.mono (s2.trans s3).tq) h3 z3 (vr.mono ((s1.trans s2).trans s3))
def Qu{lo hi:Option Int}(q:Rs H vs ts):Rs H (G8 vs lo hi) (Bb ts lo hi):=by
 unfold G8 Bb;rw[q.length];show Rs.take _ (Rs.drop _ q)
def Ff:MD X (λx lo hi Γ Z=>∃ts,x=.tup ts∧Z (.tup (Bb ts lo hi)) Γ):=
 ⟨_,oX,λx a lo hi H Γ Q Z ra hr q0 vr=>by
  let⟨ts,ea,z⟩:=q0;subst ea;let⟨p,vs,rfl,hp,q⟩:=Ct ra;show Ψ2 p vs ⟨rfl,hp,λc H' k hc=>vr _ _ H' Γ (.keep (Jy k)) (hr.keep (Jy k)) (Io hc (Qu (q.mono (DI (Jy k))))) z⟩⟩
def Hn:MD X (λx lo hi Γ Z=>∃a ts,x=.ref a∧Γ a=some (.lst ts)∧∀p,Γ p=none→Z (.ref p) (AF Γ p (.lst (Bb ts lo hi)))):=
 ⟨_,kB,λx a lo hi H Γ Q Z ra hr q0 vr=>by
  let⟨p,ts,ea,g,z⟩:=q0;subst ea;let⟨vs,hv,q⟩:=hr p _ g;show Ψ2 p vs ⟨Bv ra,lG.of hv,λc hc=>?_⟩;let k:=Cm (o:=.lst (G8 vs lo hi)) hc;show vr _ _ _ _ (.make hc) (hr.make (o3:=.lst (Bb ts lo hi)) hc ⟨_,Bz,Qu (q.mono (DI k))⟩) F2 (z c (hr.free hc))⟩
def JG:MD X (λx lo hi Γ Z=>∃z:Str,x=.str z∧z.length≤sizeLine∧∀y:Str,y.cps.toList=Bb z.cps.toList lo hi→Z (.str y) Γ):=
 ⟨_,xG,λx a lo hi H Γ Q Z ra hr q0 vr=>by
  let⟨w,ea,l,z⟩:=q0;subst ea;show⟨w,CS ra,l,λy hy=>vr _ _ H Γ .refl hr Hw (z y hy)⟩⟩
abbrev O7(r:T→AU→Dh→Prop)(te ts:Ad):Ad:=λY τ Γ Z=>te Y τ Γ λx Γ1=>ts Y τ Γ1 λk Γ2=>k=.int (-1)∧r x Γ2 Z
abbrev ij(g:Int→T):T→AU→Dh→Prop:=λx Γ Z=>∃i,x=.int i∧Z (g i) Γ
abbrev gQ(r:T→AU→Dh→Prop)(ta:Ad):Ad:=λY τ Γ Z=>ta Y τ Γ λx Γ1=>r x Γ1 Z
def EZ(ha:PE X a (AL E ta)):PE X (.UnaryOp .USub a pos) (AL E (gQ (ij λi=>.int (-i)) ta)):=
 E6 (abp uI ha) λσ H Q τ Γ Y Z rs hr t vr xr=>
  ⟨τ,Γ,Y,_,rs,hr,t,λv x H1 Γ1 s1 h1 r1 q0=>by let⟨i,ex,z⟩:=q0;subst ex;show⟨i,CK r1,vr _ _ H1 Γ1 s1 h1 DO z⟩,xr⟩
abbrev MZ:=List T→AU→Dh→Prop
abbrev EX(X:Cx)(f:Value)(r3:MZ):Prop:=∃r,EK X f r∧∀vs ts H Γ Q Z,Rs H vs ts→HR H Γ→r3 ts Γ Z→VR H Γ Z Q→r vs H Q
abbrev Og(r:MZ)(t:Co):Ad:=λY τ Γ Z=>t Y τ Γ λts Γ1=>r ts Γ1 Z
def ft{r:List V→AA→B1→Prop}{r3:MZ}(h:∀vs ts H Γ Q Z,Rs H vs ts→HR H Γ→r3 ts Γ Z→VR H Γ Z Q→r vs H Q)(σ:St)(H:AA)(Q:B1)(q:AL E (Og r3 t) σ H Q):QU r (Ds E t) σ H Q:=by
 let⟨τ,Γ,Y,Z,rs,hr,t,vr,xr⟩:=q;show Ψ4 τ Γ Y _ ⟨rs,hr,t,λvs xs H1 Γ1 s1 h1 r1 z1=>h vs xs H1 Γ1 Q Z r1 h1 z1 (vr.mono s1),xr⟩
section
variable {x: Str}{p: Pos}{e: Expr}{t: Co}{id: String}{r3: MZ}
def Ap(hc:EX X (.builtin id) r3)(hg:CF X x)(hm:X.mg x=none)(hv:bootBuiltins x=some (.builtin id))(ha:PA X (e::es) (Ds E t))(hn:x ≠ "__name__" := by decide)(sD:(x ==("__debug__" : Str))=false:=by decide)
  (he:starEach (e::es) X.env=(false,eval e X.env)::starEach es X.env:=by rfl) (jw:(backTo pos (starEach es X.env)).any (·.1)=false:=by rfl):PE X (.Call (.Name x p) (e::es) [] pos) (AL E (Og r3 t)):=by
 let⟨r,hr,h⟩:=hc;show Fj (YG hr hg hm hv ha hn sD he jw) (ft h)
def IL(hc:EX X (.type Tn) r3)(hg:CF X x)(hm:X.mg x=none)(hv:bootBuiltins x=some (.type Tn))(ha:PA X (e::es) (Ds E t))(hn:x ≠ "__name__" := by decide)(sD:(x ==("__debug__" : Str))=false:=by decide)
  (he:starEach (e::es) X.env=(false,eval e X.env)::starEach es X.env:=by rfl) (jw:(backTo pos (starEach es X.env)).any (·.1)=false:=by rfl):PE X (.Call (.Name x p) (e::es) [] pos) (AL E (Og r3 t)):=by
 let⟨r,hr,h⟩:=hc;show Fj (qL hr hg hm hv ha hn sD he jw) (ft h)
end
def qC(h:Rs H vs [x]):∃v,vs=[v]∧R H v x:=by
 let⟨v,ws,rfl,a,b⟩:=Fo h;show⟨v,by rw[Fp b],a⟩
def vF{y:T}(h:Rs H vs [x,y]):∃v w,vs=[v,w]∧R H v x∧R H w y:=by
 let⟨v,ws,rfl,a,b⟩:=Fo h;let⟨w,rfl,c⟩:=qC b;show Ψ2 v w ⟨rfl,a,c⟩
def BY:EX X (.builtin "len") (λxs Γ Z=>∃x ts,xs=[x]∧Ep Γ x=some ts∧Z (.int ts.length) Γ):=
 ⟨_,VD,λvs xs H Γ Q Z r hr q0 vr=>by
  let⟨x,ts,e,h,z⟩:=q0;subst e;let⟨v,rfl,rv⟩:=qC r;let⟨p,us,rfl,sq,q⟩:=OW (K:=X.K) rv hr h;show Ψ2 p us ⟨rfl,sq,by rw[q.length];show vr _ _ H Γ .refl hr DO z⟩⟩
def KS:EX X (.builtin "len") (λxs Γ Z=>∃z:Str,xs=[.str z]∧z.length≤sizeLine∧Z (.int z.length) Γ):=
 ⟨_,uC,λvs xs H Γ Q Z r hr q0 vr=>by
  let⟨w,e,l,z⟩:=q0;subst e;let⟨v,rfl,rv⟩:=qC r;show⟨w,by rw[CS rv],l,vr _ _ H Γ .refl hr DO z⟩⟩
def RL:EX X (.type "tuple") (λxs Γ Z=>∃x ts,xs=[x]∧Ep Γ x=some ts∧Z (.tup ts) Γ):=
 ⟨_,wO,λvs xs H Γ Q Z r hr q0 vr=>by
  let⟨x,ts,e,h,z⟩:=q0;subst e;let⟨v,rfl,rv⟩:=qC r;cases x with
  |tup us=>
   cases h;let⟨a,ws,rfl,ha,q⟩:=Ct rv;show Ψ2 a ws ⟨rfl,.inr ⟨eJ.of ha,vr _ _ H Γ .refl hr (Io ha q) z⟩⟩
  |ref a=>
   let⟨us,sq,q⟩:=IV (K:=X.K) hr h;show Ψ2 a us ⟨by rw[Bv rv],.inl ⟨sq,λl hl=>?_⟩⟩;let k:=Cm (o:=.tup us) hl;show vr _ _ _ Γ (.keep k) (hr.keep k) (Io Bz (q.mono (DI k))) z
  |_=>cases h⟩
def jY:EX X (.type "list") (λxs Γ Z=>∃x ts,xs=[x]∧Ep Γ x=some ts∧∀p,Γ p=none→Z (.ref p) (AF Γ p (.lst ts))):=
 ⟨_,wC,λvs xs H Γ Q Z r hr q0 vr=>by
  let⟨x,ts,e,h,z⟩:=q0;subst e;let⟨v,rfl,rv⟩:=qC r;let⟨p,us,rfl,sq,q⟩:=OW (K:=X.K) rv hr h;show Ψ2 p us ⟨rfl,sq,λl hl=>?_⟩;let k:=Cm (o:=.lst us) hl;show vr _ _ _ _ (.make hl) (hr.make (o3:=.lst ts) hl ⟨_,Bz,q.mono (DI k)⟩) F2 (z l (hr.free hl))⟩
def V3(hc:X.calm=true):EX X (.builtin "max") (λxs Γ Z=>∃i j,xs=[.int i,.int j]∧Z (.int (if j>i then j else i)) Γ):=
 ⟨_,zQ hc,λvs xs H Γ Q Z r hr q0 vr=>by
  let⟨i,j,e,z⟩:=q0;subst e;let⟨v,w,rfl,a,b⟩:=vF r;show Ψ2 i j ⟨by rw[CK a,CK b],vr _ _ H Γ .refl hr DO z⟩⟩
def Rz(hc:X.calm=true):EX X (.builtin "min") (λxs Γ Z=>∃i j,xs=[.int i,.int j]∧Z (.int (if j<i then j else i)) Γ):=
 ⟨_,yE hc,λvs xs H Γ Q Z r hr q0 vr=>by
  let⟨i,j,e,z⟩:=q0;subst e;let⟨v,w,rfl,a,b⟩:=vF r;show Ψ2 i j ⟨by rw[CK a,CK b],vr _ _ H Γ .refl hr DO z⟩⟩
def acd:EX X (.type "str") (λxs Γ Z=>∃i:Int,xs=[.int i]∧i.natAbs.log2<1920∧Z (.str (toString i)) Γ):=
 ⟨_,tU,λvs xs H Γ Q Z r hr q0 vr=>by
  let⟨i,e,l,z⟩:=q0;subst e;let⟨v,rfl,a⟩:=qC r;show⟨i,by rw[CK a],l,vr _ _ H Γ .refl hr Hw z⟩⟩
def abr:EX X (.builtin "ord") (λxs Γ Z=>∃x:Str,xs=[.str x]∧x.length=1∧Z (.int (x.cps.getD 0 0:Nat)) Γ):=
 ⟨_,wb,λvs xs H Γ Q Z r hr q0 vr=>by
  let⟨i,e,l,z⟩:=q0;subst e;let⟨v,rfl,a⟩:=qC r;show⟨i,by rw[CS a],l,vr _ _ H Γ .refl hr DO z⟩⟩
def Wg{H:AA}:∀{ns:List Int} {vs:List V},Rs H vs (ns.map T.int)→vs=ns.map V.int
 |[],vs,h=>Fp h
 |n::r,vs,h=>by
  let⟨v,ws,rfl,a,b⟩:=Fo h;rw[CK a,Wg b];rfl
def Qg{H:AA}:∀{ns:List Bool} {vs:List V},Rs H vs (ns.map T.bl)→vs=ns.map V.bl
 |[],vs,h=>Fp h
 |n::r,vs,h=>by
  let⟨v,ws,rfl,a,b⟩:=Fo h;rw[GW a,Qg b];rfl
def jT{H:AA}:∀{ns:List Str} {vs:List V},Rs H vs (ns.map T.str)→vs=ns.map V.str
 |[],vs,h=>Fp h
 |n::r,vs,h=>by
  let⟨v,ws,rfl,a,b⟩:=Fo h;rw[CS a,jT b];rfl
def FN(hc:X.calm=true):EX X (.builtin "all") (λxs Γ Z=>∃(p:Addr) (bs:List Bool),xs=[.ref p]∧Ep Γ (.ref p)=some (bs.map T.bl)∧Z (.bl (bs.all id)) Γ):=
 ⟨_,yU hc,λvs xs H Γ Q Z r hr q0 vr=>by
  let⟨p,ns,e,g,z⟩:=q0;subst e;let⟨v,rfl,a⟩:=qC r;let⟨us,sq,q⟩:=IV (K:=X.K) hr g;rw[Qg q]at sq;show Ψ2 p ns ⟨by rw[Bv a],sq,vr _ _ H Γ .refl hr D5 z⟩⟩
def g0(hc:X.calm=true):EX X (.builtin "any") (λxs Γ Z=>∃(p:Addr) (bs:List Bool),xs=[.ref p]∧Ep Γ (.ref p)=some (bs.map T.bl)∧Z (.bl (bs.any id)) Γ):=
 ⟨_,qg hc,λvs xs H Γ Q Z r hr q0 vr=>by
  let⟨p,ns,e,g,z⟩:=q0;subst e;let⟨v,rfl,a⟩:=qC r;let⟨us,sq,q⟩:=IV (K:=X.K) hr g;rw[Qg q]at sq;show Ψ2 p ns ⟨by rw[Bv a],sq,vr _ _ H Γ .refl hr D5 z⟩⟩
def dA(hc:X.calm=true):EX X (.builtin "max") (λxs Γ Z=>∃(p:Addr) (ns:List Int),xs=[.ref p]∧Ep Γ (.ref p)=some (ns.map T.int)∧ns≠[]∧Z (.int (F7 ns)) Γ):=
 ⟨_,wI hc,λvs xs H Γ Q Z r hr q0 vr=>by
  let⟨p,ns,e,g,n,z⟩:=q0;subst e;let⟨v,rfl,a⟩:=qC r;let⟨us,sq,q⟩:=IV (K:=X.K) hr g;rw[Wg q]at sq;show Ψ2 p ns ⟨by rw[Bv a],sq,n,vr _ _ H Γ .refl hr DO z⟩⟩
abbrev Et(Γ:AU):T→Option String
 |.non=>some "NoneType" |.bl _=>some "bool" |.int _=>some "int" |.str _=>some "str" |.tup _=>some "tuple"
 |.ref a=>match Γ a with|some (.lst _)=>some "list" |some (.dK _)=>some "dict" |_=>none
 |.ty _=>none
 |.scr _ _ _=>none
def ZN{n:String}(r:R H v x)(hr:HR H Γ)(h:Et Γ x=some n):Fd K H v (.type n):=by
 cases x with
 |non=>cases h;rw[JY r];show .non
 |bl b=>cases h;rw[GW r];show .bl b
 |int i=>cases h;rw[CK r];show .int i
 |str z=>cases h;rw[CS r];show .str z
 |tup ts=>cases h;let⟨a,vs,e,ha,_⟩:=Ct r;rw[e];show .tup ha
 |ty n=>cases h
 |scr K a ts=>cases h
 |ref a=>
  rw[Bv r];have h:(match Γ a with|some (.lst _)=>some "list" |some (.dK _)=>some "dict" |_=>none)=some n:=h;split at h
  ·rename_i g;cases h;let⟨vs,hv,_⟩:=hr a _ g;show .lst hv
  ·rename_i g;cases h;let⟨vs,hv,_⟩:=hr a _ g;show .dK hv
  ·cases h
abbrev RX(K:W.Frag)(Ty:String)(te:Ad):Ad:=λY τ Γ Z=>te Y τ Γ λx Γ1=>∃n b,Et Γ1 x=some n∧W.kitOne K (.type n) (.type Ty)=some b∧Z (.bl b) Γ1
def C5{x:Expr}{p p2 pos:Pos}{Tn:Str}(hg:CF X "isinstance")(hm:X.mg "isinstance" = none)(SW:CF X Tn)(SR:X.mg Tn=none)(SD:bootBuiltins Tn=some (.type Ty))(he:PE X x (AL E te))(hn:Tn ≠ "__name__" := by decide)(S1:(Tn ==("__debug__" : Str))=false:=by decide)
  (hs:starEach [x,.Name Tn p2] X.env=(false,eval x X.env)::starEach [.Name Tn p2] X.env:=by rfl) (sT:starEach [.Name Tn p2] X.env=[(false,eval (.Name Tn p2) X.env)]:=by rfl)
  (jw:(backTo pos (starEach [.Name Tn p2] X.env)).any (·.1)=false:=by rfl):PE X (.Call (.Name "isinstance" p) [x,.Name Tn p2] [] pos) (AL E (RX X.K Ty te)):=
 E6 (eUn hg hm SW SR SD he hn S1 hs sT jw) λσ H Q τ Γ Y Z rs hr t vr xr=>
  ⟨τ,Γ,Y,_,rs,hr,t,λv x H1 Γ1 s1 h1 r1 ξ=>Ξ23 ξ λn b ty k z=>⟨v,rfl,.type n,b,ZN r1 h1 ty,k,vr _ _ H1 Γ1 s1 h1 D5 z⟩,xr⟩
abbrev RQ(Γ:AU):T→Option Bool
 |.non=>some false|.bl b=>some b|.int i=>some (i != 0)|.tup ts=>some (!ts.isEmpty)
 |.str z=>if z.length≤sizeLine then some ((z.length:Int) != 0)else none
 |.ref a=>match Γ a with|some (.lst ts)=>some (!ts.isEmpty)|some (.dK aF)=>some (!aF.isEmpty)|_=>none
 |.ty _=>none
 |.scr _ _ _=>none
def t6{us:List (AI×V)}{aF:List (AI×T)}(q:Ks H us aF):us.isEmpty=aF.isEmpty:=by cases q<;>rfl
def lF{k:Bool}(r:R H v x)(hr:HR H Γ)(h:RQ Γ x=some k):Rb K v H k:=by
 cases x with
 |non=>cases h;rw[JY r];rfl
 |bl b=>cases h;rw[GW r];rfl
 |int i=>cases h;rw[CK r];rfl
 |str z=>
  rw[CS r];let h:(if z.length≤sizeLine then some ((z.length:Int) != 0)else none)=some k:=h;by_cases c:z.length≤sizeLine
  ·rw[Aa c]at h;cases h;show⟨c,rfl⟩
  ·rw[AV c]at h;cases h
 |tup ts=>cases h;let⟨a,vs,e,ha,q⟩:=Ct r;rw[e];show .inr (.inl ⟨vs,eJ.of ha,by rw[VL q]⟩)
 |ty n=>cases h
 |scr K a ts=>cases h
 |ref a=>
  rw[Bv r];have h:(match Γ a with|some (.lst ts)=>some (!ts.isEmpty)|some (.dK aF)=>some (!aF.isEmpty)|_=>none)=some k:=h;split at h
  ·rename_i g;cases h;let⟨vs,hv,q⟩:=hr a _ g;show .inl ⟨vs,lG.of hv,by rw[VL q]⟩
  ·rename_i g;cases h;let⟨vs,hv,q⟩:=hr a _ g;show .inr (.inr ⟨vs,hv,by rw[t6 q]⟩)
  ·cases h
abbrev Wf(t:Ad):D6:=λY τ Γ Z=>t Y τ Γ λx Γ1=>∃k,RQ Γ1 x=some k∧Z k Γ1
def abB{a:Expr}{ta:Ad}(ha:PE X a (AL E ta))(he:∀whole,isTrue a X.env whole=(do let v ←whole;standAt a.pos;holding [v] (truthy v))):PT X a (Cp E (Wf ta)):=
 ip (abc ha he) λσ H Q τ Γ Y Z rs hr t vr xr=>
  ⟨τ,Γ,Y,_,rs,hr,t,λv x H1 Γ1 s1 h1 r1 ξ=>Ξ12 ξ λk tr z=>⟨k,lF r1 h1 tr,vr _ H1 Γ1 s1 h1 z⟩,xr⟩
def rn:EX X (.builtin "len") (λxs Γ Z=>∃a ts,xs=[.scr X.K a ts]∧Z (.int ts.length) Γ):=
 ⟨_,VD,λvs xs H Γ Q Z r hr q0 vr=>by
  let⟨a,ts,e,z⟩:=q0;subst e;let⟨v,rfl,rv⟩:=qC r;let⟨rfl,⟨us,sq,q⟩⟩:=UB rv;show Ψ2 a us ⟨rfl,.inl sq.sq,by rw[q.length];show vr _ _ H Γ .refl hr DO z⟩⟩
def tK:MD X (λx lo hi Γ Z=>∃a ts,x=.scr X.K a ts∧∀p,Γ p=none→Z (.ref p) (AF Γ p (.lst (Bb ts lo hi)))):=
 ⟨_,kB,λx a lo hi H Γ Q Z ra hr q0 vr=>by
  let⟨p,ts,ea,z⟩:=q0;subst ea;let⟨rfl,⟨vs,sq,q⟩⟩:=UB ra;show Ψ2 p vs ⟨rfl,sq.sq,λc hc=>?_⟩;let k:=Cm (o:=.lst (G8 vs lo hi)) hc;show vr _ _ _ _ (.make hc) (hr.make (o3:=.lst (Bb ts lo hi)) hc ⟨_,Bz,Qu (q.mono (DI k))⟩) F2 (z c (hr.free hc))⟩
end
section
variable {tg l: Expr}{tl: Ad}{p: Pos}
@[reducible]def DK:AU→Prop:=λ_=>True
abbrev az(tl:Ad):I3:=λY τ Γ Z=>tl Y τ Γ λx Γ1=>∃ts,x=.tup ts∧Z ts DK Γ1
def t7(ha:H a=some (.tup vs))(q:Rs H vs ts):Walks (RG K a) ts DK H where
 go:=λi H' Γ t hr _ hi=>Ψ2 vs (vs[i]'(by rw[q.length];show hi)) ⟨eJ.of (t.1 a vs ha),by simp⟩
 rK:=λi H' Γ x H2 t hr _ hi q0=>by
  let⟨e,y⟩:=q0;subst e;let⟨t',e',r⟩:=(q.mono t).A6 (y vs (eJ.of (t.1 a vs ha)));show⟨.refl,hr,t',e',r⟩
 stop:=λH' Γ t hr _=>⟨vs,eJ.of (t.1 a vs ha),by rw[q.length];show Av _⟩
def Du(hl:PE X l (AL E tl)):PI X tg l (E8 E (az tl)):=
 JO (zS hl) λσ H Q τ Γ Y Z rs hr t vr xr=>⟨τ,Γ,Y,_,rs,hr,t,λv x H1 Γ1 s1 h1 r1 ξ=>Ξ12 ξ λts ex z=>by
  subst ex;let⟨a,vs,rfl,ha,q⟩:=Ct r1;show⟨a,rfl,⟨vs,eJ.of ha⟩,vr _ ts DK H1 Γ1 s1 h1 (t7 ha q) z⟩,xr⟩
abbrev bS(tl:Ad):I3:=λY τ Γ Z=>tl Y τ Γ λx Γ1=>∃a ts,x=.ref a∧Ep Γ1 (.ref a)=some ts∧Z ts (λΓ'=>Ep Γ' (.ref a)=some ts) Γ1
def acK:Walks (Rk K a) ts (λΓ'=>Ep Γ' (.ref a)=some ts) H where
 go:=λi H' Γ t hr g hi=>by
  let⟨vs,sq,q⟩:=IV (K:=K) hr g;show Ψ2 vs (vs[i]'(by rw[q.length];show hi)) ⟨sq,by simp⟩
 rK:=λi H' Γ x H2 t hr g hi q0=>by
  let⟨e,y⟩:=q0;subst e;let⟨vs,sq,q⟩:=IV (K:=K) hr g;let⟨t',e',r⟩:=q.A6 (y vs sq);show⟨.refl,hr,t',e',r⟩
 stop:=λH' Γ t hr g=>by
  let⟨vs,sq,q⟩:=IV (K:=K) hr g;show⟨vs,sq,by rw[q.length];show Av _⟩
def K1(hl:PE X l (AL E tl)):PI X tg l (E8 E (bS tl)):=
 JO (kV hl) λσ H Q τ Γ Y Z rs hr t vr xr=>⟨τ,Γ,Y,_,rs,hr,t,λv x H1 Γ1 s1 h1 r1 ξ=>Ξ23 ξ λa ts ex g z=>by
  subst ex;let⟨vs,sq,q⟩:=IV (K:=X.K) h1 g;show⟨a,Bv r1,⟨vs,sq⟩,vr _ ts _ H1 Γ1 s1 h1 acK z⟩,xr⟩
abbrev EU(lo:Int):Nat→List T
 |0=>[]
 |n+1=>.int lo::EU (lo+1) n
def Iw:∀(n:Nat) (lo:Int),(EU lo n).length=n
 |0,_=>rfl
 |n+1,lo=>by rw[EU,D7,Iw n]
def j5:∀(n:Nat) (lo:Int) (i:Nat),i<n→(EU lo n)[i]?=some (.int (lo+i))
 |0,_,i,h=>absurd h (Jx _)
 |n+1,lo,0,_=>by rw[EU];simp
 |n+1,lo,i+1,h=>by
  rw[EU,Mx,j5 n (lo+1) i (by lia)];congr 2
  lia
def rO(lo:Int)(n:Nat):Walks (P5 lo n) (EU lo n) DK H where
 go:=λi H' Γ t hr _ hi=>by rw[Iw]at hi;show hi
 rK:=λi H' Γ x H2 t hr _ hi q0=>by
  let⟨e,y⟩:=q0;subst e y;rw[Iw]at hi;show⟨.refl,hr,_,j5 n lo i hi,DO⟩
 stop:=λH' Γ t hr _=>by rw[Iw];show Av _
abbrev Vo(ta:Co):I3:=λY τ Γ Z=>ta Y τ Γ λxs Γ1=>∃j:Int,xs=[.int j]∧-(2^62)≤j∧j<2^62∧Z (EU 0 j.toNat) DK Γ1
def Js{a:Expr}(hg:CF X "range")(hm:X.mg "range" = none)(ha:PA X [a] (Ds E ta))(hs:starEach [a] X.env=[(false,eval a X.env)]:=by rfl):PI X tg (.Call (.Name "range" p) [a] [] pos) (E8 E (Vo ta)):=
 JO (ab5 hg hm ha hs) λσ H Q τ Γ Y Z rs hr t vr xr=>⟨τ,Γ,Y,_,rs,hr,t,λvs xs H1 Γ1 s1 h1 r1 ξ=>Ξ14 ξ λj ex b1 b2 z=>by
  subst ex;let⟨v,rfl,a⟩:=qC r1;show⟨j,by rw[CK a],b1,b2,vr _ _ DK H1 Γ1 s1 h1 (rO 0 _) z⟩,xr⟩
abbrev Ew:List T→List T→List T
 |x::r,y::q=>.tup [x,y]::Ew r q
 |_,_=>[]
def Jd:∀{xs ys:List T},(Ew xs ys).length=min xs.length ys.length
 |[],_=>by simp[Ew]
 |_::_,[]=>by simp[Ew]
 |x::r,y::q=>by rw[Ew,D7,Jd,D7,D7];lia
def Ry:∀{xs ys:List T} {i:Nat} {x y:T},xs[i]?=some x→ys[i]?=some y→(Ew xs ys)[i]?=some (.tup [x,y])
 |[],_,_,_,_,h,_=>by simp at h
 |_::_,[],_,_,_,_,h=>by simp at h
 |a::r,b::q,0,x,y,h,h'=>by cases h;cases h';rfl
 |a::r,b::q,i+1,x,y,h,h'=>by rw[Ew,Mx];show Ry (by simpa using h) (by simpa using h')
abbrev XQ(ta:Co):I3:=λY τ Γ Z=>ta Y τ Γ λxs Γ1=>∃ts us,xs=[.tup ts,.tup us]∧Z (Ew ts us) DK Γ1
def adD{b:Addr}{ws:List V}(ha:H a=some (.tup vs))(q:Rs H vs ts)(hb:H b=some (.tup ws))(q':Rs H ws us):Walks (QM K a b) (Ew ts us) DK H where
 go:=λi H' Γ t hr _ hi=>by
  rw[Jd]at hi;show Ψ4 vs ws (vs[i]'(by rw[q.length];lia)) (ws[i]'(by rw[q'.length];lia)) ⟨eJ.of (t.1 a vs ha),eJ.of (t.1 b ws hb),by simp,by simp⟩
 rK:=λi H' Γ v H2 t hr _ hi q0=>by
  let⟨p,x,y,hp,e1,e2,y1,y2⟩:=q0;subst e1 e2;let⟨t1,f1,r1⟩:=(q.mono t).A6 (y1 vs (eJ.of (t.1 a vs ha)));let⟨t2,f2,r2⟩:=(q'.mono t).A6 (y2 ws (eJ.of (t.1 b ws hb)));let k:=Cm (o:=.tup [x,y]) hp;show⟨.keep k,hr.keep k,_,Ry f1 f2,Io Bz (FU (r1.mono (DI k)) (FU (r2.mono (DI k)) FL))⟩
 stop:=λH' Γ t hr _=>Ψ2 vs ws ⟨eJ.of (t.1 a vs ha),eJ.of (t.1 b ws hb),by rw[Jd,q.length,q'.length];lia⟩
def U6{a b:Expr}(hg:CF X "zip")(hm:X.mg "zip" = none)(ha:PA X [a,b] (Ds E ta))(hs:starEach [a,b] X.env=[(false,eval a X.env),(false,eval b X.env)]:=by rfl)(sT:starEach [b] X.env=[(false,eval b X.env)]:=by rfl):
  PI X (.Tuple elts kk wq) (.Call (.Name "zip" p) [a,b] [] pos) (E8 E (XQ ta)):=
 JO (fW hg hm ha hs sT) λσ H Q τ Γ Y Z rs hr t vr xr=>⟨τ,Γ,Y,_,rs,hr,t,λvs xs H1 Γ1 s1 h1 r1 ξ=>Ξ22 ξ λts us ex z=>by
  subst ex;let⟨v,w,rfl,a,b⟩:=vF r1;let⟨pa,va,rfl,ha,qa⟩:=Ct a;let⟨pb,vb,rfl,hb,qb⟩:=Ct b;show Ψ4 pa pb va vb ⟨rfl,eJ.of ha,eJ.of hb,vr _ _ DK H1 Γ1 s1 h1 (adD ha qa hb qb) z⟩,xr⟩
abbrev Ir(n:Nat):List T→List T
 |[]=>[]
 |x::r=>.tup [.int n,x]::Ir (n+1) r
def Vb:∀{xs:List T} {n:Nat},(Ir n xs).length=xs.length
 |[],_=>rfl
 |x::r,n=>by rw[Ir,D7,Vb,D7]
def cI:∀{xs:List T} {n i:Nat} {x:T},xs[i]?=some x→(Ir n xs)[i]?=some (.tup [.int ((n+i:Nat):Int),x])
 |[],_,_,_,h=>by simp at h
 |a::r,n,0,x,h=>by cases h;rfl
 |a::r,n,i+1,x,h=>by
  rw[Ir,Mx,cI (n:=n+1) (by simpa using h)];congr 4
  lia
abbrev bV(ta:Co):I3:=λY τ Γ Z=>ta Y τ Γ λxs Γ1=>∃ts,xs=[.tup ts]∧Z (Ir 0 ts) DK Γ1
def lR(ha:H a=some (.tup vs))(q:Rs H vs ts):Walks (T3 K a) (Ir 0 ts) DK H where
 go:=λi H' Γ t hr _ hi=>by
  rw[Vb]at hi;show Ψ2 vs (vs[i]'(by rw[q.length];lia)) ⟨eJ.of (t.1 a vs ha),by simp⟩
 rK:=λi H' Γ v H2 t hr _ hi q0=>by
  let⟨p,x,hp,e1,e2,y1⟩:=q0;subst e1 e2;let⟨t1,f1,r1⟩:=(q.mono t).A6 (y1 vs (eJ.of (t.1 a vs ha)));let k:=Cm (o:=.tup [.int i,x]) hp;show⟨.keep k,hr.keep k,_,cI f1,Io Bz (FU ?_ (FU (r1.mono (DI k)) FL))⟩;rw[Nat.zero_add];show DO
 stop:=λH' Γ t hr _=>⟨vs,eJ.of (t.1 a vs ha),by rw[Vb,q.length]⟩
def rW{a:Expr}(hg:CF X "enumerate")(hm:X.mg "enumerate" = none)(ha:PA X [a] (Ds E ta))(hs:starEach [a] X.env=[(false,eval a X.env)]:=by rfl):
  PI X (.Tuple elts kk wq) (.Call (.Name "enumerate" p) [a] [] pos) (E8 E (bV ta)):=
 JO (acI hg hm ha hs) λσ H Q τ Γ Y Z rs hr t vr xr=>⟨τ,Γ,Y,_,rs,hr,t,λvs xs H1 Γ1 s1 h1 r1 ξ=>Ξ12 ξ λts ex z=>by
  subst ex;let⟨v,rfl,a⟩:=qC r1;let⟨pa,va,rfl,ha,qa⟩:=Ct a;show Ψ2 pa va ⟨rfl,eJ.of ha,vr _ _ DK H1 Γ1 s1 h1 (lR ha qa) z⟩,xr⟩
abbrev Hk(z:Str):List T:=z.cps.toList.map λc=>.str ⟨#[c]⟩
abbrev bM(tl:Ad):I3:=λY τ Γ Z=>tl Y τ Γ λx Γ1=>∃z,x=.str z∧Z (Hk z) DK Γ1
def acS(z:Str):Walks (NC z) (Hk z) DK H where
 go:=λi H' Γ t hr _ hi=>by
  unfold Hk at hi;rw[Ag,Ig]at hi;show hi
 rK:=λi H' Γ x H2 t hr _ hi q0=>by
  let⟨e,⟨c,hc,ex⟩⟩:=q0;subst e ex;show⟨.refl,hr,.str ⟨#[c]⟩,?_,Hw⟩;unfold Hk;rw[He,V6,hc];rfl
 stop:=λH' Γ t hr _=>by
  show z.cps.size≤(Hk z).length
  unfold Hk;rw[Ag,Ig];show Av _
def NL(hl:PE X l (AL E tl)):PI X tg l (E8 E (bM tl)):=
 JO (qW hl) λσ H Q τ Γ Y Z rs hr t vr xr=>⟨τ,Γ,Y,_,rs,hr,t,λv x H1 Γ1 s1 h1 r1 ξ=>Ξ12 ξ λz ex zz=>by
  subst ex;show⟨z,CS r1,vr _ _ DK H1 Γ1 s1 h1 (acS z) zz⟩,xr⟩
abbrev LZ:=T→List T→AU→Dh→Prop
abbrev IA(X:Cx)(id:String)(r3:LZ):Prop:=∃r,JK X id r∧∀v x vs ts H Γ Q Z,R H v x→Rs H vs ts→HR H Γ→r3 x ts Γ Z→VR H Γ Z Q→r v vs H Q
abbrev fU(Tn:String)(r3:LZ)(to:Ad)(t:Co):Ad:=λY τ Γ Z=>to Y τ Γ λx Γ1=>Et Γ1 x=some Tn∧t Y τ Γ1 λxs Γ2=>r3 x xs Γ2 Z
abbrev br(Tn:String)(r3:LZ)(to:Ad):Ad:=λY τ Γ Z=>to Y τ Γ λx Γ1=>Et Γ1 x=some Tn∧r3 x [] Γ1 Z
def ic{n:String}(r:R H v x)(hr:HR H Γ)(h:Et Γ x=some n)(hn:n = "list" ∨ n = "str" ∨ n = "dict"):Pa K n v H:=by
 let ty:=ZN (K:=K) r hr h;cases x with
 |non=>cases h;rcases hn with h|h|h<;>show absurd h (by decide)
 |bl b=>cases h;rcases hn with h|h|h<;>show absurd h (by decide)
 |int i=>cases h;rcases hn with h|h|h<;>show absurd h (by decide)
 |str z=>cases h;rw[CS r];rfl
 |tup ts=>cases h;rcases hn with h|h|h<;>show absurd h (by decide)
 |ty n=>cases h
 |scr K a ts=>cases h
 |ref a=>
  rw[Bv r];have h:(match Γ a with|some (.lst _)=>some "list" |some (.dK _)=>some "dict" |_=>none)=some n:=h;split at h
  ·rename_i g;cases h;let⟨vs,hv,_⟩:=hr a _ g;show .inl ⟨rfl,vs,lG.of hv⟩
  ·rename_i g;cases h;let⟨vs,hv,_⟩:=hr a _ g;show .inr (.inr (.inl ⟨rfl,.inl ⟨vs,hv⟩⟩))
  ·cases h
section
variable {o e: Expr}{to: Ad}{t: Co}{name: Str}{apos: Pos}{id: String}{r3: LZ}
def R2(pa:PlainAttrs Tn)(slot:Slot Tn name id)(Ca:typeOf (.builtin id)=pure (.type "method_descriptor"))(hm:IA X id r3)(ho:PE X o (AL E to))(hn:Tn = "list" ∨ Tn = "str" ∨ Tn = "dict" := by decide)
  (uk:attributeBase o name X.env (eval o X.env)=eval o X.env:=by rfl) (ui:(apos.endLine==dS.line)=true:=by rfl):PE X (.Call (.Attribute o name apos) [] [] dS) (AL E (br Tn r3 to)):=by
 obtain⟨r,hm,sim⟩:=hm;show E6 (PIp pa slot Ca hm ho uk ui) λσ H Q τ Γ Y Z rs hr t vr xr=>⟨τ,Γ,Y,_,rs,hr,t,λv x H1 Γ1 s1 h1 r1 ξ=>Ξ02 ξ λty z=>
  ⟨ic r1 h1 ty hn,sim v x [] [] H1 Γ1 Q Z r1 FL h1 z (vr.mono s1)⟩,xr⟩
def F0(pa:PlainAttrs Tn)(slot:Slot Tn name id)(Ca:typeOf (.builtin id)=pure (.type "method_descriptor"))(hm:IA X id r3)(ho:PE X o (AL E to))(ha:PA X (e::es) (Ds E t))(hn:Tn = "list" ∨ Tn = "str" ∨ Tn = "dict" := by decide)
  (uk:attributeBase o name X.env (eval o X.env)=eval o X.env:=by rfl)
  (OF:((backTo dS (starEach (e::es) X.env)).all (λx=>!x.1)&&(backToKw dS (keywordEach [] X.env)).all (λx=>x.1.isSome)
   && decide ((e::es).length+([]:List Keyword).length+(if([]:List Keyword).isEmpty then 0 else 1)<30))=true:=by rfl)
  (ui:(apos.endLine==dS.line)=true:=by rfl) (hs:starEach (e::es) X.env=(false,eval e X.env)::starEach es X.env:=by rfl) (AY:(backTo dS (starEach es X.env)).any (·.1)=false:=by rfl) :
  PE X (.Call (.Attribute o name apos) (e::es) [] dS) (AL E (fU Tn r3 to t)):=by
 obtain⟨r,hm,sim⟩:=hm;show E6 (abP pa slot Ca hm ho ha uk OF ui hs AY) λσ H Q τ Γ Y Z rs hr t vr xr=>⟨τ,Γ,Y,_,rs,hr,t,λv x H1 Γ1 s1 h1 r1 ξ=>Ξ02 ξ λty z=>
  ⟨ic r1 h1 ty hn,τ,Γ1,Y,_,rs.mono s1.tq,h1,z,λvs xs H2 Γ2 s2 h2 r2 z2=>sim v x vs xs H2 Γ2 Q Z (r1.mono s2.tq) r2 h2 z2 (vr.mono (s1.trans s2)),xr.mono s1⟩,xr⟩
end
def Hz:IA X "list.append" (λx ts Γ Z=>∃a us y,x=.ref a∧ts=[y]∧Γ a=some (.lst us)∧us.length<sizeLine∧Z .non (AF Γ a (.lst (us++[y])))):=
 ⟨_,WR,λv x vs ts H Γ Q Z r rs hr q0 vr=>by
  let⟨a,us,y,ex,et,g,l,z⟩:=q0;subst ex et;let⟨w,rfl,rR⟩:=qC rs;let⟨ws,hw,q⟩:=hr a _ g;show Ψ3 a ws w ⟨Bv r,rfl,hw,by rw[q.length];show l,?_⟩;let s:hU H Γ (Ac H a (.lst (ws++[w]))) (AF Γ a (.lst (us++[y]))):=.set hr g;show vr _ _ _ _ s (hr.set g ⟨_,Bz,Rs.app (q.mono s.tq) (FU (rR.mono s.tq) FL)⟩) Ku z⟩
def ef:IA X "list.pop" (λx ts Γ Z=>∃a us y,x=.ref a∧ts=[]∧Γ a=some (.lst us)∧us[us.length-1]?=some y∧Z y (AF Γ a (.lst us.dropLast))):=
 ⟨_,acM,λv x vs ts H Γ Q Z r rs hr q0 vr=>by
  let⟨a,us,y,ex,et,g,l,z⟩:=q0;subst ex et;let⟨ws,hw,q⟩:=hr a _ g;let⟨w,vk,rR⟩:=q.get l;show Ψ3 a ws w ⟨Bv r,Fp rs,hw,by rw[q.length];show vk,?_⟩;let s:hU H Γ (Ac H a (.lst ws.dropLast)) (AF Γ a (.lst us.dropLast)):=.set hr g;show vr _ _ _ _ s (hr.set g ⟨_,Bz,?_⟩) (rR.mono s.tq) z;let e:∀{H2:AA},Rs H2 ws us→Rs H2 ws.dropLast us.dropLast:=λ{H2} q2=>by
   rw[List.dropLast_eq_take,List.dropLast_eq_take,q2.length];show Rs.take _ q2
  show e (q.mono s.tq)⟩
def RA:IA X "str.join" (λx ts Γ Z=>∃(p:Addr) (ss:List Str),x=.str Str.empty∧ts=[.ref p]∧Ep Γ (.ref p)=some (ss.map T.str)∧ss.length≤1000∧(∀y∈ss,y.length≤1000)∧Z (.str (Jc ss)) Γ):=
 ⟨_,yB,λv x vs ts H Γ Q Z r rs hr q0 vr=>by
  let⟨p,ss,ex,et,g,l,l2,z⟩:=q0;subst ex et;let⟨w,rfl,rR⟩:=qC rs;let⟨us,sq,q⟩:=IV (K:=X.K) hr g;rw[jT q]at sq;show Ψ2 p ss ⟨CS r,by rw[Bv rR],sq,l,l2,vr _ _ H Γ .refl hr Hw z⟩⟩
def abW:IA X "str.upper" (λx ts Γ Z=>∃z:Str,x=.str z∧ts=[]∧z.length≤1000∧∀y:Str,y.length≤3*z.length→Z (.str y) Γ):=
 ⟨_,uv,λv x vs ts H Γ Q Z r rs hr q0 vr=>by
  let⟨w,ex,et,l,z⟩:=q0;subst ex et;show⟨w,CS r,Fp rs,l,λy hy=>vr _ _ H Γ .refl hr Hw (z y hy)⟩⟩
def fj{r:V→AA→B1→Prop}{r3:T→AU→Dh→Prop}{ts:Ad}(h:∀v x H Γ Q Z,R H v x→HR H Γ→r3 x Γ Z→VR H Γ Z Q→r v H Q)(σ:St)(H:AA)(Q:B1)(q:AL E (O7 r3 te ts) σ H Q):
  AL E te σ H λx H1=>AL E ts σ H1 λy H2=>y=.int (-1)∧r x H2 Q:=by
 let⟨τ,Γ,Y,Z,rs,hr,t,vr,xr⟩:=q;show Ψ4 τ Γ Y _ ⟨rs,hr,t,λv x H1 Γ1 s1 h1 r1 z1=>?_,xr⟩;show Ψ4 τ Γ1 Y _ ⟨rs.mono s1.tq,h1,z1,λu y H2 Γ2 s2 h2 r2 z2=>?_,xr.mono s1⟩;obtain⟨e,z2⟩:=z2;subst e;show⟨CK r2,h v x H2 Γ2 Q Z (r1.mono s2.tq) h2 z2 (vr.mono (s1.trans s2))⟩
section
variable {e st: Expr}{te ts: Ad}
def abi(he:PE X e (AL E te))(hs:PE X st (AL E ts)):PE X (.Subscript e (.Slice none none (some st) p2) pos) (AL E (O7 (λx Γ Z=>∃ts,x=.tup ts∧Z (.tup ts.reverse) Γ) te ts)):=
 Fj (Zi aca he hs) (fj λv x H Γ Q Z r hr q0 vr=>by
  let⟨ts,ex,z⟩:=q0;subst ex;let⟨p,us,rfl,hp,q⟩:=Ct r;show Ψ2 p us ⟨rfl,eJ.of hp,λc hc=>?_⟩;let k:=Cm (o:=.tup us.reverse) hc;show vr _ _ _ Γ (.keep k) (hr.keep k) (Io Bz (Rs.reverse (q.mono (DI k)))) z)
end
end
abbrev Le(Γ Γ':AU):Prop:=∀a o,Γ a=some o→Γ' a=some o
def Le.refl:Le Γ Γ:=λ_ _ h=>h
def Le.trans(a:Le Γ Γ1)(b:Le Γ1 Γ'):Le Γ Γ':=λx o h=>b x o (a x o h)
def Le.new(h:Γ p=none):Le Γ (AF Γ p o):=λb u q=>by rw[Ce (Dk q h)];show q
def HR.le(h:HR H Γ')(l:Le Γ Γ'):HR H Γ:=λa o e=>h a o (l a o e)
abbrev Kq(l:List Addr)(Γ Γ':AU):Prop:=∀b o,b∉l→Γ b=some o→Γ' b=some o
def Kq.refl:Kq l Γ Γ:=λ_ _ _ h=>h
def Kq.trans(a:Kq l Γ Γ1)(b:Kq l Γ1 Γ'):Kq l Γ Γ':=λc o n h=>b c o n (a c o n h)
def Kq.mono{l':List Addr}(a:Kq l Γ Γ1)(s:∀b∈l,b∈l'):Kq l' Γ Γ1:=λc o n h=>a c o (λz=>n (s c z)) h
def Kq.new(h:Γ p=none)(o:O):Kq l Γ (AF Γ p o):=λb u _ q=>by rw[Ce (Dk q h)];show q
def Kq.set(h:p∈l)(o:O):Kq l Γ (AF Γ p o):=λb u n q=>by
 let e:b≠p:=λz=>n (by rw[z];show h);rw[Ce e];show q
def Le.kq(k:Le Γ Γ'):Kq l Γ Γ':=λa o _ h=>k a o h
abbrev DW(Z:Dh):Dh:=λx Γ'=>∃Γ2,Le Γ2 Γ'∧Z x Γ2
def AD{Z:Dh}(k:Le Γ Γ')(z:Z x Γ):DW Z x Γ':=⟨Γ,k,z⟩
def jZ{Z:Dh}(k:Kq [a] Γ Γ')(h:Γ' a=some o)(z:Z x (AF Γ a o)):DW Z x Γ':=⟨AF Γ a o,λb u q=>by
 by_cases e:b=a
 ·subst e;rw[BN]at q;cases q;show h
 ·rw[Ce e]at q;show k b u (by simpa using e) q,z⟩
def hU.cut{Γ2:AU}(s:hU H Γ H' Γ')(l:Le Γ2 Γ'):hU H Γ H' Γ2:=⟨s.tq,s.xK,λa h g=>by
 cases e:Γ2 a with
 |none=>rfl
 |some o=>show(by have:=l a o e;rw[s.new a h g]at this;cases this),s.vV⟩
section
variable {P: Program}{w: World}{K: W.Frag}{mg: Str→Option Value}{am: Heap}
def B7{x:Str}{f:Addr}(F:cH K x qual st f fd)(S:B0 N ps (An st))(len:∀ts Γ Z Y,sp ts Γ Z Y→ts.length=ps.length)
  (pN:∀(cy:Value) (A:Around) (outer:List Env) (s:Shared) (H:AA) (E:BS) (ts:List T) (Γ:AU) (Z:Dh) (Y:Value→AU→Prop),eh k (A.deeper (envOfC qual (An st) s.heap.objs.size f cy))→sp ts Γ Z Y→
   ∃t,nH (Ja Ax P w K mg am N qual (An st) f cy A outer s H E).jI (GG st) (Cn CV t)∧t Cc {nx:=λ_ Γ'=>DW Z .non Γ',rt:=DW Z} (Az N ts) Γ):bq P w K mg am Ax (k+1) f fd ps (Aw sp):=by
 show F.ok S (λvs H Q E q0=>by let⟨ts,Γ,Z,Y,r,_,h,_⟩:=q0;rw[r.length];show len _ _ _ _ h) λcy A outer s H vs Q E hr ξ=>Ξ45 ξ λts Γ Z Y r h zP vr xr=>?_;let⟨t,ht,hq⟩:=pN cy A outer s H E ts Γ Z Y hr zP;show⟨_,ht,Az N ts,Γ,Cc,_,Td N r (by rw[len _ _ _ _ zP];show gz S),h,hq,⟨λσ τ H' Γ' s' h' _ ξ=>Ξ12 ξ λΓ2 l z=>vr .non .non H' Γ2 (s'.cut l) (h'.le l) Ku z,λv x H' Γ' s' h' rv ξ=>Ξ12 ξ λΓ2 l z=>vr v x H' Γ2 (s'.cut l) (h'.le l) rv z,λ_ _ _ _ _ _ _ z=>z.elim,λ_ _ _ _ _ _ _ z=>z.elim⟩,Eu⟩
def Tz{x:Str}{f:Addr}(F:cH K x qual st f fd)(S:B0 N ps (An st))(len:∀ts Γ Z Y,sp ts Γ Z Y→ts.length=ps.length)
  (pN:∀(cy:Value) (A:Around) (outer:List Env) (s:Shared) (H:AA) (E:BS) (ts:List T) (Γ:AU) (Z:Dh) (Y:Value→AU→Prop),eh k (A.deeper (envOfC qual (An st) s.heap.objs.size f cy))→sp ts Γ Z Y→
   ∃t,nH (JE P w K mg am N qual (An st) f cy A outer s H E) (GG st) (Cn (λ_=>E) t)∧t (λ_ C Γ'=>∃Γ2,Le Γ2 Γ'∧Y C Γ2) {nx:=λ_ Γ'=>DW Z .non Γ',rt:=DW Z} (Az N ts) Γ):bq P w K mg am (FF P w) (k+1) f fd ps (Aw sp):=by
 show F.okX S (λvs H Q E q0=>by let⟨ts,Γ,Z,Y,r,_,h,_⟩:=q0;rw[r.length];show len _ _ _ _ h) λcy A outer s H vs Q E hr ξ=>Ξ45 ξ λts Γ Z Y r h zP vr xr=>?_;let⟨t,ht,hq⟩:=pN cy A outer s H E ts Γ Z Y hr zP;show⟨_,ht,Az N ts,Γ,_,_,Td N r (by rw[len _ _ _ _ zP];show gz S),h,hq,⟨λσ τ H' Γ' s' h' _ ξ=>Ξ12 ξ λΓ2 l z=>vr .non .non H' Γ2 (s'.cut l) (h'.le l) Ku z,λv x H' Γ' s' h' rv ξ=>Ξ12 ξ λΓ2 l z=>vr v x H' Γ2 (s'.cut l) (h'.le l) rv z,λ_ _ _ _ _ _ _ z=>z.elim,λ_ _ _ _ _ _ _ z=>z.elim⟩,λσ τ C H' Γ' s' h' _ ξ=>Ξ12 ξ λΓ2 l y=>xr C H' Γ2 (s'.cut l) (h'.le l) y⟩
def KL{f:Addr}{CX:HE}(no:∀ts Γ Z Y,¬sp ts Γ Z Y):bq P w K mg am CX k f fd ps (Aw sp):=
 ⟨λvs H Q E ξ=>Ξ44 ξ λts Γ Z Y _ _ h _=>absurd h (no _ _ _ _),λA outer s H args us vs Q E _ _ _ _ ξ=>Ξ44 ξ λts Γ Z Y _ _ h _=>absurd h (no _ _ _ _)⟩
end
def Ui{α:Type}{t:α}{ts:List α}:C0 (t::ts) 0=some t:=by show C0 (t::ts) ((0:Nat):Int)=some t;show Fv rfl
def Rr{α:Type}{t u:α}{ts:List α}:C0 (t::u::ts) 1=some u:=by show C0 (t::u::ts) ((1:Nat):Int)=some u;show Fv rfl
section
variable {Γ: AU}{D: Kr}{B: Bool→AU→Prop}{N: BZ→AU→Prop}
def acD(h:τ[i]?=some (some x))(z:Z x Γ):jF i Y τ Γ Z:=⟨x,h,z⟩
def zU(z:Z x Γ):KY x Y τ Γ Z:=z
def vK{r:Ef}{a b:Ad}(h:a Y τ Γ λx Γ1=>b Y τ Γ1 λy Γ2=>r x y Γ2 Z):Hd r a b Y τ Γ Z:=h
def ue{t:Ad}(h:t Y τ Γ λx Γ1=>∃k,x=.bl k∧B k Γ1):Kw t Y τ Γ B:=h
def wg{Q:Bool→Prop}(h:Q b):∃k,T.bl b=.bl k∧Q k:=⟨b,rfl,h⟩
def adw{t u:CJ}(h:t Y {D with nx:=u Y D} τ Γ):jS t u Y D τ Γ:=h
def yN{c:D6}{t u:CJ}(h:c Y τ Γ λb Γ1=>if b=true then t Y D τ Γ1 else u Y D τ Γ1):iL c t u Y D τ Γ:=h
def aaE(h:te Y τ Γ λx Γ1=>D.nx (τ.set i (some x)) Γ1):Nz i te Y D τ Γ:=h
def nF(h:te Y τ Γ D.rt):iB te Y D τ Γ:=h
def acj(h:te Y τ Γ λ_ Γ1=>D.nx τ Γ1):cb te Y D τ Γ:=h
def tg7(h:D.nx τ Γ):av Y D τ Γ:=h
def adq{a b:Ad}(h:a Y τ Γ λx Γ1=>∃c,x=.bl c∧if c=true then b Y τ Γ1 Z else Z (.bl false) Γ1):fv a b Y τ Γ Z:=h
def wW{a b:Ad}(h:a Y τ Γ λx Γ1=>∃c,x=.bl c∧if c=true then Z (.bl true) Γ1 else b Y τ Γ1 Z):XS a b Y τ Γ Z:=h
def yV{a:Ad}(h:a Y τ Γ λx Γ1=>∃c,x=.bl c∧Z (.bl (!c)) Γ1):fi a Y τ Γ Z:=h
def z9{a b:D6}(h:a Y τ Γ λc Γ1=>if c=true then b Y τ Γ1 B else B false Γ1):hR a b Y τ Γ B:=h
def aas{a b:D6}(h:a Y τ Γ λc Γ1=>if c=true then B true Γ1 else b Y τ Γ1 B):Y9 a b Y τ Γ B:=h
def zI{a:D6}(h:a Y τ Γ λc Γ1=>B (!c) Γ1):XU a Y τ Γ B:=h
def yb(h:A [] Γ):dG Y τ Γ A:=h
def rq(h:te Y τ Γ λx Γ1=>t Y τ Γ1 λxs Γ2=>A (x::xs) Γ2):fY te t Y τ Γ A:=h
def tB(h:t Y τ Γ λxs Γ1=>xs.length≤sizeLine∧Z (.tup xs) Γ1):R3 t Y τ Γ Z:=h
def yG(h:t Y τ Γ λxs Γ1=>xs.length≤sizeLine∧∀p,Γ1 p=none→Z (.ref p) (AF Γ1 p (.lst xs))):aH t Y τ Γ Z:=h
def vB{A:Prop}(h:Nat.ble n 1000=true)(a:A):n≤sizeLine∧A:=⟨Ci (Nat.le_of_ble_eq_true h) (by decide),a⟩
def adx(h:t Y τ Γ λxs Γ1=>sp xs Γ1 Z λ_ _=>False):RO sp t Y τ Γ Z:=h
def qA(h:t Y τ Γ λxs Γ1=>sp xs Γ1 Z (Y τ)):Ra sp t Y τ Γ Z:=h
def yK{r:MZ}(h:t Y τ Γ λts Γ1=>r ts Γ1 Z):Og r t Y τ Γ Z:=h
def nh{g:Int→Int→T}{i:Int}(h:Z (g i j) Γ):Jp g (.int i) (.int j) Γ Z:=Ψ2 i j ⟨rfl,rfl,h⟩
def Es{g:Int→Int→T}{i:Int}(c:C i j)(h:Z (g i j) Γ):K4 C g (.int i) (.int j) Γ Z:=Ψ2 i j ⟨rfl,rfl,c,h⟩
def qP{a b:Str}(h:Z (.bl (decide (V.str a=V.str b))) Γ):NM (.str a) (.str b) Γ Z:=Ψ2 _ _ ⟨rfl,rfl,rfl,h⟩
def lj{a b:Int}(h:Z (.bl (decide (V.int a=V.int b))) Γ):NM (.int a) (.int b) Γ Z:=Ψ2 _ _ ⟨rfl,rfl,rfl,h⟩
def ab2{a b:Str}(h:Z (.bl (!decide (V.str a=V.str b))) Γ):TR (.str a) (.str b) Γ Z:=Ψ2 _ _ ⟨rfl,rfl,rfl,h⟩
def kb{a b:Int}(h:Z (.bl (!decide (V.int a=V.int b))) Γ):TR (.int a) (.int b) Γ Z:=Ψ2 _ _ ⟨rfl,rfl,rfl,h⟩
def tf{t:T}(z:Z t Γ):Lg (.tup (t::ts)) (.int 0) Γ Z:=Ψ3 _ 0 t ⟨rfl,rfl,Ui,z⟩
def tQ{t u:T}(z:Z u Γ):Lg (.tup (t::u::ts)) (.int 1) Γ Z:=Ψ3 _ 1 u ⟨rfl,rfl,Rr,z⟩
def aaM{Tn:String}{r:LZ}(h:to Y τ Γ λx Γ1=>Et Γ1 x=some Tn∧t Y τ Γ1 λxs Γ2=>r x xs Γ2 Z):fU Tn r to t Y τ Γ Z:=h
def acU{Tn:String}{r:LZ}(h:to Y τ Γ λx Γ1=>Et Γ1 x=some Tn∧r x [] Γ1 Z):br Tn r to Y τ Γ Z:=h
def tZ(h:te Y τ Γ λx Γ1=>∃n b,Et Γ1 x=some n∧W.kitOne K (.type n) (.type Ty)=some b∧Z (.bl b) Γ1):RX K Ty te Y τ Γ Z:=h
def nX{t:Ad}(h:t Y τ Γ λx Γ1=>∃k,RQ Γ1 x=some k∧B k Γ1):Wf t Y τ Γ B:=h
def aag(h:te Y τ Γ λx Γ1=>g Y x τ Γ1 D.nx):V0 te g Y D τ Γ:=h
def xQ(h:N (τ.set i (some x)) Γ):hName i Y x τ Γ N:=h
def adB(l:Nat.beq ts.length n=true)(h:gs Y ts τ Γ N):aL n gs Y (.tup ts) τ Γ N:=⟨ts,rfl,Nat.eq_of_beq_eq_true l,h⟩
def kf{r:List T}(h:g Y x τ Γ λτ1 Γ1=>gs Y r τ1 Γ1 N):cB g gs Y (x::r) τ Γ N:=Ψ2 x r ⟨rfl,h⟩
def aa5(h:N τ Γ):gH Y [] τ Γ N:=⟨rfl,h⟩
def eBM{a:Ad}(h:a Y τ Γ λx Γ1=>r x Γ1 Z):gQ r a Y τ Γ Z:=h
def qy{g:Int→T}{i:Int}(h:Z (g i) Γ):ij g (.int i) Γ Z:=⟨i,rfl,h⟩
def lD{r:NY}{tl:Jf}(h:te Y τ Γ λx Γ1=>tl Y τ Γ1 λl Γ2=>th Y τ Γ2 λu Γ3=>r x l u Γ3 Z):iY r te tl th Y τ Γ Z:=h
def acb(h:Q none Γ):iq Y τ Γ Q:=h
def vP{t:Ad}(h:t Y τ Γ λx Γ1=>∃i,x=.int i∧Q (some i) Γ1):Yc t Y τ Γ Q:=h
def aaC{i:Int}{Q:Int→Prop}(h:Q i):∃k,T.int i=.int k∧Q k:=⟨i,rfl,h⟩
def vo{ts:Ad}(h:te Y τ Γ λx Γ1=>ts Y τ Γ1 λk Γ2=>k=.int (-1)∧r x Γ2 Z):O7 r te ts Y τ Γ Z:=h
def uw(h:wi Y τ Γ λts gd Γ1=>dw gd g tb Y D ts τ Γ1):Zk wi g tb Y D τ Γ:=h
def pC(h:tl Y τ Γ λx Γ1=>∃ts,x=.tup ts∧I ts DK Γ1):az tl Y τ Γ I:=h
def sW{Q:List T→Prop}(h:Q ts):∃us,T.tup ts=.tup us∧Q us:=⟨ts,rfl,h⟩
def Hg(l:ts.length+us.length≤sizeLine)(h:Z (.tup (ts++us)) Γ):eX (.tup ts) (.tup us) Γ Z:=Ψ2 ts us ⟨rfl,rfl,l,h⟩
def aaX(h:wi Y τ Γ λts gd Γ1=>ts.length≤sizeLine∧iW gd g tc te (λys Γ2=>∀D,Γ2 D=none→Z (.ref D) (AF Γ2 D (.lst ys))) ts (Gq own cap τ) [] Γ1):NA wi g tc te own cap Y τ Γ Z:=h
def adg(h:B true Γ):jL Y τ Γ B:=h
def oP{C:Addr}(h:t Y τ Γ λxs Γ1=>xs.length≤sizeLine∧Y τ (.ref C) Γ1):Vw C t Y D τ Γ:=h
def abz(h:ta Y τ Γ λxs Γ1=>∃j:Int,xs=[.int j]∧-(2^62)≤j∧j<2^62∧I (EU 0 j.toNat) DK Γ1):Vo ta Y τ Γ I:=h
def lP(h:ta Y τ Γ λxs Γ1=>∃ts us,xs=[.tup ts,.tup us]∧I (Ew ts us) DK Γ1):XQ ta Y τ Γ I:=h
def v9(h:ta Y τ Γ λxs Γ1=>∃ts,xs=[.tup ts]∧I (Ir 0 ts) DK Γ1):bV ta Y τ Γ I:=h
def nq(h:tl Y τ Γ λx Γ1=>∃a ts,x=.ref a∧Ep Γ1 (.ref a)=some ts∧I ts (λΓ'=>Ep Γ' (.ref a)=some ts) Γ1):bS tl Y τ Γ I:=h
def abG(h:tl Y τ Γ λx Γ1=>∃z,x=.str z∧I (Hk z) DK Γ1):bM tl Y τ Γ I:=h
def cIf{Q:Str→Prop}(h:Q z):∃k,T.str z=.str k∧Q k:=⟨z,rfl,h⟩
def Jr{A C:Prop}(h:b=true)(a:A):if b=true then A else C:=by rw[Aa h];show a
def Mf{A C:Prop}(h:b=false)(a:C):if b=true then A else C:=by rw[AV (by rw[h];show Cf)];show a
def AH{A C:Prop}(h1:b=true→A)(h2:b=false→C):if b=true then A else C:=by
 cases b with
 |true=>rw[Aa rfl];show h1 rfl
 |false=>rw[AV Cf];show h2 rfl
def Oj{t:CJ}(h:t Y D τ Γ):aZ t Y D τ Γ:=⟨D.nx,h,λ_ _ z=>z⟩
end
def S9:∀ss:List Str,Jl (ss.map T.str)=some (ss.map V.str)
 |[]=>rfl
 |s::r=>by rw[CT,CT,Jl,S9 r];rfl
section
variable {Γ: AU}
def tG{Q:List T→Prop}(h:Q us):∃ts,[T.tup us]=[T.tup ts]∧Q ts:=⟨us,rfl,h⟩
def mm{ws:List T}{Q:List T→List T→Prop}(h:Q us ws):∃ts vs,[T.tup us,T.tup ws]=[T.tup ts,T.tup vs]∧Q ts vs:=Ψ2 us ws ⟨rfl,h⟩
def yL{a:Str}{b:Int}(h:Z (.bl false) Γ):NM (.str a) (.int b) Γ Z:=Ψ2 _ _ ⟨rfl,rfl,rfl,h⟩
def om{A:Prop}(h:A):DK Γ∧A:=⟨trivial,h⟩
def G1{a b:Str}(h:decide (V.str a=V.str b)=true):a=b:=V.str.inj (Bd h)
def Fu{a b:Str}(h:decide (V.str a=V.str b)=false):a≠b:=λe=>DC h (by rw[e])
def Ip{a b:Int}(h:decide (V.int a=V.int b)=true):a=b:=V.int.inj (Bd h)
def acA{Q:T→List T→Prop}(h:Q (.tup us) us):∃x ts,[T.tup us]=[x]∧Ep Γ x=some ts∧Q x ts:=Ψ2 (.tup us) us ⟨rfl,rfl,h⟩
end
section
variable {Γ: AU}
def eOr{r r':Ef}{a b c:Ad}(h:a Y τ Γ λx Γ1=>b Y τ Γ1 λy Γ2=>r x y Γ2 λz Γ3=>∃k,z=.bl k∧(if k=true then c Y τ Γ3 λw' Γ4=>r' y w' Γ4 Z else Z (.bl false) Γ3)):Nd r r' a b c Y τ Γ Z:=h
def abk{u:V}{us:List V}(h1:sc x=some u)(h2:Jl ts=some us)(h3:(EO u&&us.all EO)=true)(z:Z (.bl (if neg then !E0 u us else E0 u us)) Γ):Ko neg x (.tup ts) Γ Z:=by
 rw[Cq]at h3;show Ψ3 u ts us ⟨h1,rfl,h2,h3.1,h3.2,z⟩
def gZ{u:V}{us:List V}(g:Γ p=some (.lst ts))(h1:sc x=some u)(h2:Jl ts=some us)(h3:EO u=true)(h4:us.all EO=true)(z:Z (.bl (if neg then !E0 u us else E0 u us)) Γ):Ko neg x (.ref p) Γ Z:=
 ⟨u,ts,us,h1,BR g,h2,h3,h4,z⟩
def GK{Q:T→List T→Prop}(g:Γ p=some (.lst ts))(h:Q (.ref p) ts):∃x us,[T.ref p]=[x]∧Ep Γ x=some us∧Q x us:=Ψ2 (.ref p) ts ⟨rfl,BR g,h⟩
def B6{i:Int}{t:T}(g:Γ p=some (.lst ts))(h:C0 ts i=some t)(z:Z t Γ):Lg (.ref p) (.int i) Γ Z:=Ψ3 ts i t ⟨BR g,rfl,h,z⟩
def Gl{t:T}(h:ts[i]?=some t)(z:Z t Γ):Lg (.tup ts) (.int (i:Nat)) Γ Z:=Ψ3 ts i t ⟨rfl,rfl,Fv h,z⟩
def G9{A:Prop}(g:Γ p=some (.lst ts))(h:A):Et Γ (.ref p)=some "list" ∧ A:=⟨by show(match Γ p with|some (.lst _)=>some "list" |some (.dK _)=>some "dict" |_=>none)=_;rw[g],h⟩
def aby{A:Prop}(h:A):Et Γ (.str z)=some "str" ∧ A:=⟨rfl,h⟩
end
def qI{i:Int}{Q:Int→Int→Prop}(h:Q i j):∃i' j',[T.int i,T.int j]=[T.int i',T.int j']∧Q i' j':=Ψ2 i j ⟨rfl,h⟩
def uO{α:Type}{P:List α→Prop}(h:∀a0,P [a0]):∀us:List α,us.length=1→P us
 |[a0],_=>h _
def lM{α:Type}{P:List α→Prop}(h:∀a0 a1,P [a0,a1]):∀us:List α,us.length=2→P us
 |[a0,a1],_=>h _ _
def K7{α:Type}{P:List α→Prop}(h:∀a0 a1 a2,P [a0,a1,a2]):∀us:List α,us.length=3→P us
 |[a0,a1,a2],_=>h _ _ _
def Yl{α:Type}{P:List α→Prop}(h:∀a0 a1 a2 a3,P [a0,a1,a2,a3]):∀us:List α,us.length=4→P us
 |[a0,a1,a2,a3],_=>h _ _ _ _
def Rs.getD:∀{vs:List V} {ts:List T} {j:Nat} {t:T},Rs H vs ts→ts[j]?=some t→R H (vs.getD j .non) t
 |vs,[],j,t,q,h=>by simp at h
 |vs,x::ts,j,t,q,h=>by
  let⟨w,ws,rfl,r1,r2⟩:=Fo q;cases j with
  |zero=>cases h;show r1
  |succ j=>
   show R H (ws.getD j .non) t
   show Rs.getD r2 (by simpa using h)
end L3
namespace L3
open PySem PySem.Spec L2
abbrev IF(q:Str×Int):T:=.tup [.str q.1,.int q.2]
end L3
namespace L3
open PySem PySem.Spec L2
open PyProof.Rows hiding St
section
variable {X: Cx}{E: St→BS}{tg: Expr}{p pos: Pos}
abbrev Gw(lo c:Int):Nat→List T
 |0=>[]
 |n+1=>.int lo::Gw (lo+c) c n
def NX(c:Int):∀(n:Nat) (lo:Int),(Gw lo c n).length=n
 |0,_=>rfl
 |n+1,lo=>by rw[Gw,D7,NX c n]
def bA(c:Int):∀(n:Nat) (lo:Int) (i:Nat),i<n→(Gw lo c n)[i]?=some (.int (lo+(i:Int)*c))
 |0,_,i,h=>absurd h (Jx _)
 |n+1,lo,0,_=>by rw[Gw];simp
 |n+1,lo,i+1,h=>by
  rw[Gw,Mx,bA c n (lo+c) i (by lia)];congr 2
  have:((i+1:Nat):Int)*c=(i:Int)*c+c:=by rw[Int.natCast_succ,Int.add_mul,Int.one_mul]
  lia
def ab1{H:AA}(lo c:Int)(n:Nat):Walks (Ro lo c n) (Gw lo c n) DK H where
 go:=λi H' Γ t hr _ hi=>by rw[NX]at hi;show hi
 rK:=λi H' Γ x H2 t hr _ hi q0=>by
  let⟨e,y⟩:=q0;subst e y;rw[NX]at hi;show⟨.refl,hr,_,bA c n lo i hi,DO⟩
 stop:=λH' Γ t hr _=>by rw[NX];show Av _
abbrev R1(ta:Co):I3:=λY τ Γ Z=>ta Y τ Γ λxs Γ1=>∃(i j c:Int) (n:Nat),xs=[.int i,.int j,.int c]∧(c=2∨c=-1)∧-(2^30)≤i∧i<2^30∧-(2^30)≤j∧j<2^30∧Builtin.Range.rangeSize i j c=(n:Int)∧Z (Gw i c n) DK Γ1
def j7{a b c:Expr}{ta:Co}(hg:CF X "range")(hm:X.mg "range" = none)(ha:PA X [a,b,c] (Ds E ta))(hs:starEach [a,b,c] X.env=[(false,eval a X.env),(false,eval b X.env),(false,eval c X.env)]:=by rfl)(sT:starEach [b,c] X.env=[(false,eval b X.env),(false,eval c X.env)]:=by rfl):PI X tg (.Call (.Name "range" p) [a,b,c] [] pos) (E8 E (R1 ta)):=
 JO (adm hg hm ha hs sT) λσ H Q τ Γ Y Z rs hr t vr xr=>⟨τ,Γ,Y,_,rs,hr,t,λvs xs H1 Γ1 s1 h1 r1 ξ=>Ξ48 ξ λi j c n ex hc b1 b2 b3 b4 hn z=>by
  subst ex;let⟨v,ws,rfl,a,r2⟩:=Fo r1;let⟨w,u,rfl,b,d⟩:=vF r2;show Ψ4 i j c n ⟨by rw[CK a,CK b,CK d],hc,b1,b2,b3,b4,hn,vr _ _ DK H1 Γ1 s1 h1 (ab1 i c n) z⟩,xr⟩
def oo:IA X "list.pop" (λx ts Γ Z=>∃a us k y,x=.ref a∧ts=[.int (k:Nat)]∧Γ a=some (.lst us)∧k<2^30∧us[k]?=some y∧Z y (AF Γ a (.lst (us.eraseIdx k)))):=
 ⟨_,kH,λv x vs ts H Γ Q Z r rs hr q0 vr=>by
  let⟨a,us,k,y,ex,et,g,hk,hy,z⟩:=q0;subst ex et;let⟨w,rfl,rR⟩:=qC rs;let⟨va,hva,qa⟩:=hr a _ g;let hl:k<us.length:=(aba.mp hy).1;let⟨vy,hvy,ry⟩:=qa.get hy;show Ψ5 a va (k:Int) k vy ⟨Bv r,by rw[CK rR],hva,by lia,by lia,?_,hvy,?_⟩
  ·let h:GY va.length (k:Int)=some k:=by
    unfold GY;rw[Aa (by lia),Aa (by rw[qa.length];lia),TL]
   show(hW h).1
  ·let s:hU H Γ (Ac H a (.lst (va.eraseIdx k))) (AF Γ a (.lst (us.eraseIdx k))):=.set hr g
   let qe:Rs H (va.eraseIdx k) (us.eraseIdx k):=by
    rw[fZ,fZ];show Rs.app (qa.take k) (qa.drop (k+1))
   show vr _ _ _ _ s (hr.set g ⟨_,Bz,qe.mono s.tq⟩) (ry.mono s.tq) z⟩
end
end L3
namespace L3
open PySem PySem.Spec L2
variable {a:Addr}{t:Co}{e: Expr}{f:Str}{to tv te:Ad}{pos:Pos}{C: Addr}{wi:I3}{g:Dl}{own:List Str}{cap:List (Nat×Str)}{sp:B4}{X: Cx}{E: St→BS}{m: Str}
section
def TT:EX X (.type "int") (λxs Γ Z=>∃b:Bool,xs=[.bl b]∧Z (.int (if b=true then 1 else 0)) Γ):=
 ⟨_,ads,λvs xs H Γ Q Z r hr q0 vr=>by
  let⟨b,e,z⟩:=q0;subst e;let⟨v,rfl,a⟩:=qC r;show⟨b,by rw[GW a],vr _ _ H Γ .refl hr DO z⟩⟩
def i7{xs:List V}(hk:fo X.K a xs)(hf:xs.all EO=true):Bq X (compareOp .In) (λx y Γ Z=>∃u,sc x=some u∧EO u=true∧y=.ref a∧Z (.bl (E0 u xs)) Γ):=
 ⟨_,X7,λx y v b H Γ Q Z ra rb hr q0 vr=>by
  let⟨u,e1,f1,ey,z⟩:=q0;subst ey;rw[JS ra e1];show Ψ2 a xs ⟨Bv rb,.inr hk.sq,f1,hf,vr _ _ H Γ .refl hr D5 z⟩⟩
end
abbrev Jj(f:Str)(v:T):List (Str×T)→List (Str×T)
 |[]=>[(f,v)]
 |(g,x)::r=>if g=f then(g,v)::r else(g,x)::Jj f v r
section
variable {H: AA}
def Fs.len:∀{gs:List (Str×V)} {fs:List (Str×T)},Fs H gs fs→gs.length=fs.length
 |_,_,.nil=>rfl
 |_,_,.cons a b=>by rw[D7,D7,Fs.len b]
def Fs.get:∀{gs:List (Str×V)} {fs:List (Str×T)} {f:Str} {t:T},Fs H gs fs→fs.lookup f=some t→∃v,gs.lookup f=some v∧R H v t
 |_,_,f,t,.nil,h=>by cases h
 |(g,v)::gs,(g',x)::fs,f,t,.cons a b,h=>by
  let⟨e,r⟩:=a;let e:g=g':=e;subst e;rw[HA]at h ⊢;split at h
  ·cases h;show⟨v,rfl,r⟩
  ·show Fs.get b h
def Fs.non:∀{gs:List (Str×V)} {fs:List (Str×T)} {f:Str},Fs H gs fs→fs.lookup f=none→gs.lookup f=none
 |_,_,f,.nil,h=>rfl
 |(g,v)::gs,(g',x)::fs,f,.cons a b,h=>by
  let⟨e,r⟩:=a;let e:g=g':=e;subst e;rw[HA]at h ⊢;split at h
  ·cases h
  ·show Fs.non b h
def Fs.put{v:V}{t:T}(r:R H v t)(f:Str):∀{gs:List (Str×V)} {fs:List (Str×T)},Fs H gs fs→Fs H (Em f v gs) (Jj f t fs)
 |_,_,.nil=>.cons ⟨rfl,r⟩ .nil
 |(g,w)::gs,(g',x)::fs,.cons a b=>by
  let⟨e,q⟩:=a;let e:g=g':=e;subst e;unfold Em Jj;split
  ·show .cons ⟨rfl,r⟩ b
  ·show .cons ⟨rfl,q⟩ (Fs.put r f b)
end
section
abbrev aY(C:Addr)(to:Ad)(f:Str):Ad:=λY τ Γ Z=>to Y τ Γ λx Γ1=>∃a dx fs v,x=.ref a∧Γ1 a=some (.ins C dx fs)∧fs.lookup f=some v∧Z v Γ1
def EP{e:Expr}(c:qX X.K C)(n:bW X.K C f)(he:PE X e (AL E to))(hb:attributeBase e f X.env (eval e X.env)=eval e X.env:=by rfl):PE X (.Attribute e f pos) (AL E (aY C to f)):=
 E6 (kh he hb) λσ H Q τ Γ Y Z rs hr t vr xr=>by
  show Ψ4 τ Γ Y _ ⟨rs,hr,t,λv x H1 Γ1 s1 h1 r1 z1=>?_,xr⟩;let⟨a,dx,fs,u,rfl,g,l,z⟩:=z1;let⟨gs,hg,q⟩:=h1 a _ g;let⟨v',l',r'⟩:=q.get l;show Ψ5 a C dx gs v' ⟨Bv r1,hg,c,n,l',vr v' u H1 Γ1 s1 h1 r' z⟩
abbrev Xt(C:Addr)(to tv:Ad)(f:Str):CJ:=λY D τ Γ=>tv Y τ Γ λy Γ1=>to Y τ Γ1 λx Γ2=>∃a dx fs,x=.ref a∧Γ2 a=some (.ins C dx fs)∧fs.length<1000∧D.nx τ (AF Γ2 a (.ins C dx (Jj f y fs)))
def aai{H:AA}{C dx:Addr}{u:HO}{gs:List (Str×V)}{fs:List (Str×T)}(h:H a=some u)(n:(∀vs:List V,u≠.tup vs)∧∀b w,u≠.frz b w)(q:Fs H gs fs):Ho (Ac H a (.ins C dx gs)) a (.ins C dx fs):=⟨gs,Bz,q.mono (Gv h n)⟩
def NU{o value:Expr}{pos':Pos}(c:qX X.K C)(n:bW X.K C f)(ha:PE X o (AL E to))(hv:PE X value (AL E tv))(hs:swapsWith value (some (.Attribute o f pos')) pos.line X.env=pure false:=by rfl):PS X (.Assign [.Attribute o f pos'] value pos) (Cn E (Xt C to tv f)):=
 Gs (abK ha hv hs) λD σ H τ Γ Y Z rs hr t dr xr=>by
  show Ψ4 τ Γ Y _ ⟨rs,hr,t,λy y3 H1 Γ1 s1 h1 r1 z1=>?_,xr⟩;show Ψ4 τ Γ1 Y _ ⟨rs.mono s1.tq,h1,z1,λv x H2 Γ2 s2 h2 r2 z2=>?_,xr.mono s1⟩;let⟨a,dx,fs,rfl,g,l,z⟩:=z2;let⟨gs,hg,q⟩:=h2 a _ g;show Ψ4 a C dx gs ⟨Bv r2,hg,c,n,by rw[q.len];show l,?_⟩;let hh:=(h2 a _ g).some;let⟨u,hu,nn⟩:=hh;let st:hU H2 Γ2 (Ac H2 a (.ins C dx (Em f y gs))) (AF Γ2 a (.ins C dx (Jj f y3 fs))):=hU.set h2 g;show dr.nx _ _ _ _ ((s1.trans s2).trans st) (h2.set g (aai hu nn (Fs.put (r1.mono s2.tq) f q))) (rs.mono ((s1.trans s2).trans st).tq) z
@[reducible]def DT(P:Program)(w:World)(K:W.Frag)(mg:KK)(am:Heap)(C:Addr)(m:Str)(k:Nat)(ps:List Str)(sp:B4):Prop:=oz P w K mg am C m k ps (Aw sp)
@[reducible]def VB(P:Program)(w:World)(K:W.Frag)(mg:KK)(am:Heap)(C:Addr)(k:Nat)(ps:List Str)(sp:B4):Prop:=zY P w K mg am C k ps (Aw sp)
abbrev eN(C:Addr)(m:Str)(sp:B4)(to:Ad)(t:Co):Ad:=λY τ Γ Z=>to Y τ Γ λx Γ1=>∃a dx fs,x=.ref a∧Γ1 a=some (.ins C dx fs)∧fs.lookup m=none∧t Y τ Γ1 λxs Γ2=>sp (.ref a::xs) Γ2 Z λ_ _=>False
variable {k j: Nat}{ps: List Str}{sp: B4}{o: Expr}{es: List Expr}{to: Ad}{t: Co}{apos pos p: Pos}{pl: Sem Bool}
def F3(c:DT X.prog X.w X.K X.mg X.base C m k ps sp)(hr:eh j X.A)(hk:k≤j)(he:PE X o (AL E to))(ha:PA X (e::es) (Ds E t))
  (zO:starEach (e::es) X.env=(false,eval e X.env)::starEach es X.env:=by rfl) (jw:(backTo pos (starEach es X.env)).any (·.1)=false:=by rfl)
  (ht:eval (.Call (.Attribute o m apos) (e::es) [] pos) X.env=(do
   let ov ←eval o X.env
   standAt apos.atName
   let(f,first) ←holding [ov] (getMethod ov m pl)
   callWith pos f first (backTo pos (starEach (e::es) X.env)) (backToKw pos (keywordEach [] X.env))):=by rfl):PE X (.Call (.Attribute o m apos) (e::es) [] pos) (AL E (eN C m sp to t)):=by
 obtain⟨f,fd,F,c,hm,hb⟩:=c;show E6 (yv (pl:=pl) (E:=Ji) he c hm F (hr.mono hk) hb .nil (λ_ _ _ _ _ _ _ z=>z.elim) ha zO jw ht) λσ H Q τ Γ Y Z rs hr t vr xr=>?_;show Ψ4 τ Γ Y _ ⟨rs,hr,t,λv x H1 Γ1 s1 h1 r1 z1=>?_,xr⟩;let⟨a,dx,fs,rfl,g,l,z⟩:=z1;let⟨gs,hg,q⟩:=h1 a _ g;show Ψ3 a dx gs ⟨Bv r1,hg,q.non l,?_⟩;show Ψ4 τ Γ1 Y _ ⟨rs.mono s1.tq,h1,z,λvs xs H2 Γ2 s2 h2 r2 z2=>?_,xr.mono s1⟩;show Aw sp (v::(vs++[])) H2 Q Ji
 rw[Bg,Bv r1];show Ψ4 (.ref a::xs) Γ2 Z _ ⟨FU F2 r2,h2,z2,vr.mono (s1.trans s2),λ_ _ _ _ _ z=>z.elim⟩
abbrev cY(C:Addr)(sp:B4)(t:Co):Ad:=λY τ Γ Z=>t Y τ Γ λxs Γ1=>∀x dx,Γ1 x=none→Γ1 dx=none→dx≠x→sp (.ref x::xs) (AF Γ1 x (.ins C dx [])) (λv Γ2=>v=.non∧Z (.ref x) Γ2) λ_ _=>False
def abq{x:Str}(c:VB X.prog X.w X.K X.mg X.base C k ps sp)(hr:eh j X.A)(hk:k+1≤j)(hg:CF X x)(hm:X.mg x=some (.ref C))(ha:PA X (e::es) (Ds E t))(sD:(x ==("__debug__" : Str))=false:=by decide)
  (he:starEach (e::es) X.env=(false,eval e X.env)::starEach es X.env:=by rfl) (jw:(backTo pos (starEach es X.env)).any (·.1)=false:=by rfl):PE X (.Call (.Name x p) (e::es) [] pos) (AL E (cY C sp t)):=by
 let⟨f,fd,F,M,hb⟩:=c;show E6 (tR (E:=Ji) M F (hr.mono hk) hg hm hb .nil (λ_ _ _ _ _ _ _ z=>z.elim) ha sD he jw) λσ H Q τ Γ Y Z rs hr t vr xr=>?_;show Ψ4 τ Γ Y _ ⟨rs,hr,t,λvs xs H1 Γ1 s1 h1 r1 z1=>?_,xr⟩;intro x dx hx ZC ne;rw[Bg];let k1:=Cm (o:=.own x) ZC;let Zn:(Ac H1 dx (.own x)) x=none:=by rw[BC (GF ne)];show hx
 let YC:hU H1 Γ1 (Ac H1 dx (.own x)) Γ1:=.keep k1;let HU:HR (Ac H1 dx (.own x)) Γ1:=h1.keep k1;let qm:hU (Ac H1 dx (.own x)) Γ1 (Ac (Ac H1 dx (.own x)) x (.ins C dx [])) (AF Γ1 x (.ins C dx [])):=.make Zn;let h2:=HU.make (o:=.ins C dx []) (o3:=.ins C dx []) Zn ⟨[],Bz,.nil⟩;show Ψ4 (.ref x::xs) _ _ _ ⟨FU F2 (r1.mono (YC.trans qm).tq),h2,z1 x dx (h1.free hx) (h1.free ZC) ne,λv u H3 Γ3 s3 h3 r3 z3=>?_,λ_ _ _ _ _ z=>z.elim⟩;let⟨rfl,z⟩:=z3;show⟨JY r3,vr _ _ H3 Γ3 (s1.trans ((YC.trans qm).trans s3)) h3 F2 z⟩
end
section
abbrev kQ(gd:AU→Prop)(g:Dl)(te:Ad)(C:List Str→AU→Prop)(ts:List T)(τ:BZ)(Γ:AU):Prop:=∃P:List T→BZ→List Str→AU→Prop,P ts τ [] Γ∧(∀τ ys Γ,P [] τ ys Γ→gd Γ∧C ys Γ)∧
 ∀x r τ ys Γ,P (x::r) τ ys Γ→gd Γ∧g Cc x τ Γ λτ3 Γ3=>te Cc τ3 Γ3 λy Γ5=>∃k,y=.str k∧P r τ3 (ys++[k]) Γ5
abbrev Q0(P:Program)(w:World)(wi:I3)(g:Dl)(te:Ad)(own:List Str)(cap:List (Nat×Str)):Ad:=λY τ Γ Z=>wi Y τ Γ λts gd Γ1=>ts.length≤999∧
 kQ gd g te (λys Γ2=>∀D S n,mU ys S n→Γ2 D=none→Z (.ref D) (AF Γ2 D (.ext (setAt P w D S n)))) ts (Gq own cap τ) Γ1
def lV{P:Program}{w:World}(σ:St)(H:AA)(Q:B1)(q:AL E (Q0 P w wi g te own cap) σ H Q):dv P w (E8 E wi) (EN CV g) (AL CV te) own cap σ H Q:=by
 let⟨τ,Γ,Y,Z,rs,hr,t,vr,xr⟩:=q;show Ψ4 τ Γ Y _ ⟨rs,hr,t,λJ ts gd H1 Γ1 s1 h1 wk⟨hz,Pv,z1,p0,pc⟩=>?_,xr⟩;intro D hD;let nl:∀φ:Heap→Prop,(∀us:List V,HO.ext φ≠.tup us)∧∀b w,HO.ext φ≠.frz b w:=λ_=>⟨λ_ z=>(nomatch z),λ_ _ z=>(nomatch z)⟩;show⟨λi m σ' S n H'=>∃τ' ys Γ',i≤ts.length∧m=ts.length-i∧ys.length≤i∧mU ys S n∧RS H' σ' τ'∧HR H' Γ'∧H' D=some (.ext (setAt P w D S n))∧Γ' D=none∧hU H1 Γ1 H' Γ'∧Pv (ts.drop i) τ' ys Γ',
  ⟨ts.length,Gq own cap τ,[],Γ1,FI _,rfl,Av _,mU.nil,(Mw own (rs.mono s1.tq) cap).mono (DI (Cm hD)),h1.keep (Cm hD),Bz,h1.free hD,.keep (Cm hD),z1⟩,?_⟩
 intro i m σ2 S n H2⟨τ2,ys,Γ2,hi,rfl,hv,on,vF,h2,d2,gD,s2,w2⟩;show⟨d2,?_⟩;by_cases eQ:i<ts.length
 ·rw[drop_cons eQ]at w2
  let⟨g2,w2⟩:=pc _ _ _ _ _ w2;let nn:=on.le;show .inr ⟨wk.go i H2 Γ2 s2.tq h2 g2 eQ,by lia,λσ' S' n' H'=>∃τ' ys Γ',ys.length≤i+1∧mU ys S' n'∧RS H' σ' τ'∧HR H' Γ'∧H' D=some (.ext (setAt P w D S' n'))∧Γ' D=none∧hU H1 Γ1 H' Γ'∧Pv (ts.drop (i+1)) τ' ys Γ',
   λσ' S' n' H' ξ=>Ξ38 ξ λτ' ys Γ' a b c d e f k l=>⟨ts.length-(i+1),by lia,τ',ys,Γ',eQ,rfl,a,b,c,d,e,f,k,l⟩,λx H3 yl=>?_⟩
  let⟨s3,h3,⟨x3,e3,r3⟩⟩:=wk.rK i H2 Γ2 x H3 s2.tq h2 g2 eQ yl;rw[D0 eQ]at e3;cases e3;show Ψ5 _ τ2 Γ2 Cc _ ⟨r3,vF.mono s3.tq,h3,w2,λσ4 τ4 H4 Γ4 s4 h4 r4 z4=>?_,Eu⟩;show Ψ4 τ4 Γ4 Cc _ ⟨r4,h4,z4,λy y' H6 Γ6 s6 h6 r6 z6=>?_,Eu⟩;obtain⟨k,rfl,z6⟩:=z6;have tP:=(s3.trans s4).trans s6;have d6:H6 D=some (.ext (setAt P w D S n)):=tP.vV D _ d2 gD;have g6:Γ6 D=none:=tP.new D (by rw[d2];exactλz=>nomatch z) gD;have tq:Tq H6 (Ac H6 D (.ext (setAt P w D (λk'=>S k'||decide (k'=k)) (more S n k)))):=Gv d6 (nl _);show⟨k,CS r6,d6,τ4,ys++[k],Γ6,by rw[B3];show LU hv,on.snoc,(r4.mono s6.tq).mono tq,h6.hide g6 d6 (nl _),Bz,g6,?_,z6⟩;have s7:=s2.trans tP;show⟨s7.tq.trans tq,λa h z=>?_,s7.new,λa o h g=>?_⟩
  ·by_cases e:a=D
   ·subst e;show h hD
   ·rw[BC e]at z;show s7.xK a h z
  ·let e:a≠D:=λe=>by subst e;rw[hD]at h;cases h
   rw[BC e];show s7.vV a o h g
 ·let e:i=ts.length:=by lia
  subst e;rw[JM]at w2;let w2:=p0 _ _ _ w2;show .inl ⟨wk.stop H2 Γ2 s2.tq h2 w2.1,?_⟩;let sO:=s1.trans s2;show vr (.ref D) (.ref D) H2 (AF Γ2 D (.ext (setAt P w D S n))) ⟨sO.tq,sO.xK,λa h g=>?_,sO.vV⟩ (λa o g=>?_) F2 (w2.2 D S n on gD)
  ·let e:a≠D:=λe=>by subst e;show s1.xK _ h hD
   rw[Ce e];show sO.new a h g
  ·by_cases e:a=D
   ·subst e;rw[BN]at g;cases g;show d2
   ·rw[Ce e]at g;show h2 a o g
def Y0{scope:Scope}{cl:List (Str×Addr)}{tg iter elt:Expr}(c:dB X scope cl own cap)(hc:X.calm=true)(hi:PI X tg iter (E8 E wi))
  (hg:∀C s H fp,PG (Ba X (own++cap.map (·.2)) scope cl C s H fp λ_ _=>False) tg (EN CV g))
  (he:∀C s H fp,PE (Ba X (own++cap.map (·.2)) scope cl C s H fp λ_ _=>False) elt (AL CV te)) (hs:∀x,foldedSetIterable iter X.env x=pure x:=by intro _;rfl) :
  PE X (.SetComp elt [⟨tg,iter,[],0⟩] scope pos) (AL E (Q0 X.prog X.w wi g te own cap)):=Fj (vZ c hc hi hg he hs) lV
def fH:EX X (.builtin "len") (λxs Γ Z=>∃(p:Addr) (S:Str→Bool) (n:Nat),xs=[.ref p]∧Γ p=some (.ext (setAt X.prog X.w p S n))∧Z (.int n) Γ):=
 ⟨_,zr,λvs xs H Γ Q Z r hr q0 vr=>by
  let⟨p,S,n,e,g,z⟩:=q0;subst e;let⟨v,rfl,a⟩:=qC r;show Ψ3 p S n ⟨by rw[Bv a],hr p _ g,vr _ _ H Γ .refl hr DO z⟩⟩
end
section
variable {st: Expr}{te ts: Ad}{p2 pos: Pos}
def cE(he:PE X e (AL E te))(hs:PE X st (AL E ts)):PE X (.Subscript e (.Slice none none (some st) p2) pos) (AL E (O7 (λx Γ Z=>∃z:Str,x=.str z∧z.length≤sizeLine∧∀y:Str,y.length≤z.length→(∀c∈y.cps.toList,c∈z.cps.toList)→Z (.str y) Γ) te ts)):=
 Fj (Zi xw he hs) (fj λv x H Γ Q Z r hr q0 vr=>by
  let⟨w,ex,l,z⟩:=q0;subst ex;show⟨w,CS r,l,λy hy hc=>vr _ _ H Γ .refl hr Hw (z y hy hc)⟩)
end
section
variable {Y: G2}{D: Kr}{τ: BZ}{Γ: AU}{Z: Dh}{a dx: Addr}{fs: List (Str×T)}{f: Str}
def qB(h:to Y τ Γ λx Γ1=>∃a dx fs v,x=.ref a∧Γ1 a=some (.ins C dx fs)∧fs.lookup f=some v∧Z v Γ1):aY C to f Y τ Γ Z:=h
def abJ{Q:T→Prop}{v:T}(g:Γ a=some (.ins C dx fs))(l:fs.lookup f=some v)(z:Q v):∃a' PQ Kf v',T.ref a=.ref a'∧Γ a'=some (.ins C PQ Kf)∧Kf.lookup f=some v'∧Q v':=Ψ4 a dx fs v ⟨rfl,g,l,z⟩
def aaH(h:tv Y τ Γ λy Γ1=>to Y τ Γ1 λx Γ2=>∃a dx fs,x=.ref a∧Γ2 a=some (.ins C dx fs)∧fs.length<1000∧D.nx τ (AF Γ2 a (.ins C dx (Jj f y fs)))):Xt C to tv f Y D τ Γ:=h
def eqT{Q:AU→Prop}{y:T}(g:Γ a=some (.ins C dx fs))(l:Nat.ble fs.length 900=true)(z:Q (AF Γ a (.ins C dx (Jj f y fs)))):∃a' PQ Kf,T.ref a=.ref a'∧Γ a'=some (.ins C PQ Kf)∧Kf.length<1000∧Q (AF Γ a' (.ins C PQ (Jj f y Kf))):=Ψ3 a dx fs ⟨rfl,g,by have:=Nat.le_of_ble_eq_true l;lia,z⟩
def yI(h:to Y τ Γ λx Γ1=>∃a dx fs,x=.ref a∧Γ1 a=some (.ins C dx fs)∧fs.lookup m=none∧t Y τ Γ1 λxs Γ2=>sp (.ref a::xs) Γ2 Z λ_ _=>False):eN C m sp to t Y τ Γ Z:=h
def nc{Q:Addr→Prop}(g:Γ a=some (.ins C dx fs))(l:fs.lookup m=none)(z:Q a):∃a' PQ Kf,T.ref a=.ref a'∧Γ a'=some (.ins C PQ Kf)∧Kf.lookup m=none∧Q a':=Ψ3 a dx fs ⟨rfl,g,l,z⟩
def ack(h:t Y τ Γ λxs Γ1=>∀x dx,Γ1 x=none→Γ1 dx=none→dx≠x→sp (.ref x::xs) (AF Γ1 x (.ins C dx [])) (λv Γ2=>v=.non∧Z (.ref x) Γ2) λ_ _=>False):cY C sp t Y τ Γ Z:=h
def GH{i j:Str}{Q:Str→Str→Prop}(l:i.length+j.length≤sizeLine)(h:Q i j):∃i' j',T.str i=.str i'∧T.str j=.str j'∧i'.length+j'.length≤sizeLine∧Q i' j':=Ψ2 i j ⟨rfl,rfl,l,h⟩
end
section
abbrev iK:Ad:=λ_ _ Γ Z=>∀p,Γ p=none→Z (.ref p) (AF Γ p (.dK []))
def aaa:PE X (.Dict [] [] pos) (AL E iK):=
 E6 acV λσ H Q τ Γ Y Z rs hr t vr xr=>by
  intro p hp;show vr _ _ _ _ (.make hp) (hr.make (o3:=.dK []) hp ⟨[],Bz,.nil⟩) F2 (t p (hr.free hp))
end
end L3
namespace L3
open PySem PySem.Spec L2
open PyProof.Rows hiding St
abbrev ups:=BZ→List T→AU→(BZ→List T→AU→Prop)→Prop
end L3
namespace L3
open PySem PySem.Spec L2
open PyProof.Rows hiding St
variable {pos:Pos}{v:V}{o i:Expr}{td ty:Ad}{X: Cx}{E: St→BS}
section
variable {pos p: Pos}
abbrev KT(K:W.Frag)(a:Addr)(ts:List T):Prop:=∃vs,fo K a vs∧∀H,Rs H vs ts
def aaU:EX X (.builtin "len") (λxs Γ Z=>∃b ts,xs=[.ref b]∧KT X.K b ts∧Z (.int ts.length) Γ):=
 ⟨_,VD,λvs xs H Γ Q Z r hr q0 vr=>by
  let⟨b,ts,e,⟨ws,hk,q⟩,z⟩:=q0;subst e;let⟨v,rfl,rv⟩:=qC r;show Ψ2 b ws ⟨by rw[Bv rv],.inr hk.sq,by rw[(q H).length];show vr _ _ H Γ .refl hr DO z⟩⟩
def ady{K:W.Frag}(hK:X.K=K){x:Expr}{te:Ad}{p p2:Pos}{Tn:Str}{Ty:String}(hg:CF X "isinstance")(hm:X.mg "isinstance" = none)(SW:CF X Tn)(SR:X.mg Tn=none)(SD:bootBuiltins Tn=some (.type Ty))(he:PE X x (AL E te))(hn:Tn ≠ "__name__" := by decide)(S1:(Tn ==("__debug__" : Str))=false:=by decide)
  (hs:starEach [x,.Name Tn p2] X.env=(false,eval x X.env)::starEach [.Name Tn p2] X.env:=by rfl) (sT:starEach [.Name Tn p2] X.env=[(false,eval (.Name Tn p2) X.env)]:=by rfl)
  (jw:(backTo pos (starEach [.Name Tn p2] X.env)).any (·.1)=false:=by rfl):PE X (.Call (.Name "isinstance" p) [x,.Name Tn p2] [] pos) (AL E (RX K Ty te)):=by
 subst hK;show C5 hg hm SW SR SD he hn S1 hs sT jw
end
abbrev BJ:AI→T
 |.inl i=>.int i
 |.inr z=>.str z
def IZ{H:AA}{k:AI}(h:R H v (BJ k)):v=BV k:=by
 cases k with
 |inl i=>show CK h
 |inr z=>show CS h
abbrev EC(aF:List (AI×T))(k:AI):Option T:=(aF.find? λkv=>decide (kv.1=k)).map (·.2)
abbrev F9(aF:List (AI×T))(k:AI)(v:T):List (AI×T):=
 if(aF.any λkv=>decide (kv.1=k))=true then aF.map (λkv=>if kv.1=k then(kv.1,v)else kv)else aF++[(k,v)]
section
variable {H: AA}
def Ks.len:∀{us:List (AI×V)} {aF:List (AI×T)},Ks H us aF→us.length=aF.length
 |_,_,.nil=>rfl
 |_,_,.cons a b=>by rw[D7,D7,Ks.len b]
def Ks.val:∀{us:List (AI×V)} {aF:List (AI×T)} (k:AI),Ks H us aF→(Ej us k=none∧EC aF k=none)∨∃v t,Ej us k=some v∧EC aF k=some t∧R H v t
 |_,_,k,.nil=>.inl ⟨rfl,rfl⟩
 |(k1,v)::us,(k2,t)::aF,k,.cons a b=>by
  let⟨e,r⟩:=a;let e:k1=k2:=e;subst e;by_cases h:k1=k
  ·show .inr ⟨v,t,Ov h,by simp[EC,Hf,h],r⟩
  ·rcases Ks.val k b with⟨x,y⟩|⟨v',t',x,y,r'⟩
   ·show .inl ⟨by rw[Lp h];show x,by rw[show EC ((k1,t)::aF) k=EC aF k by simp[EC,Hf,h]];show y⟩
   ·show .inr ⟨v',t',by rw[Lp h];show x,by rw[show EC ((k1,t)::aF) k=EC aF k by simp[EC,Hf,h]];show y,r'⟩
def Ks.any:∀{us:List (AI×V)} {aF:List (AI×T)} (k:AI),Ks H us aF→(us.any λkv=>decide (kv.1=k))=(aF.any λkv=>decide (kv.1=k))
 |_,_,k,.nil=>rfl
 |(k1,v)::us,(k2,t)::aF,k,.cons a b=>by
  let⟨e,r⟩:=a;let e:k1=k2:=e;subst e;rw[Jg,Jg,Ks.any k b]
def Ks.map:∀{us:List (AI×V)} {aF:List (AI×T)} {v:V} {t:T} (k:AI),R H v t→Ks H us aF→Ks H (us.map λkv=>if kv.1=k then(kv.1,v)else kv) (aF.map λkv=>if kv.1=k then(kv.1,t)else kv)
 |_,_,v,t,k,r,.nil=>.nil
 |(k1,v1)::us,(k2,t1)::aF,v,t,k,r,.cons a b=>by
  let⟨e,r1⟩:=a;let e:k1=k2:=e;subst e;rw[CT,CT];by_cases h:k1=k
  ·rw[Aa h,Aa h];show .cons ⟨rfl,r⟩ (Ks.map k r b)
  ·rw[AV h,AV h];show .cons ⟨rfl,r1⟩ (Ks.map k r b)
def Ks.snoc:∀{us:List (AI×V)} {aF:List (AI×T)} {v:V} {t:T} (k:AI),R H v t→Ks H us aF→Ks H (us++[(k,v)]) (aF++[(k,t)])
 |_,_,v,t,k,r,.nil=>.cons ⟨rfl,r⟩ .nil
 |_::_,_::_,v,t,k,r,.cons a b=>.cons a (Ks.snoc k r b)
def Ks.put{us:List (AI×V)}{aF:List (AI×T)}{t:T}(k:AI)(r:R H v t)(h:Ks H us aF):Ks H (putK us k v) (F9 aF k t):=by
 unfold putK F9;rw[h.any k];split
 ·show h.map k r
 ·show h.snoc k r
end
section
def j9(hu:X.A.units+1<cLine):Bq X (compareOp .In) (λy x Γ Z=>∃a aF k,x=.ref a∧y=BJ k∧Γ a=some (.dK aF)∧Z (.bl (EC aF k).isSome) Γ):=
 ⟨_,vd hu,λy x v b H Γ Q Z ra rb hr q0 vr=>by
  let⟨a,aF,k,ex,ey,g,z⟩:=q0;subst ex ey;let⟨us,hu,q⟩:=hr a _ g;rw[IZ ra];show Ψ2 a _ ⟨Bv rb,lI.k hu,?_⟩;let e:(Ej us k).isSome=(EC aF k).isSome:=by
   rcases q.val k with⟨x,y⟩|⟨v,t,x,y,_⟩<;>rw[x,y]<;>rfl
  rw[e];show vr _ _ H Γ .refl hr D5 z⟩
def tUn(hu:X.A.units+1<cLine):Bq X (compareOp .NotIn) (λy x Γ Z=>∃a aF k,x=.ref a∧y=BJ k∧Γ a=some (.dK aF)∧Z (.bl (!(EC aF k).isSome)) Γ):=
 ⟨_,aaY hu,λy x v b H Γ Q Z ra rb hr q0 vr=>by
  let⟨a,aF,k,ex,ey,g,z⟩:=q0;subst ex ey;let⟨us,hu,q⟩:=hr a _ g;rw[IZ ra];show Ψ2 a _ ⟨Bv rb,lI.k hu,?_⟩;let e:(Ej us k).isSome=(EC aF k).isSome:=by
   rcases q.val k with⟨x,y⟩|⟨v,t,x,y,_⟩<;>rw[x,y]<;>rfl
  rw[e];show vr _ _ H Γ .refl hr D5 z⟩
abbrev JA(td ty:Ad):Ad:=λY τ Γ Z=>td Y τ Γ λx Γ1=>ty Y τ Γ1 λy Γ2=>∃a aF k v,x=.ref a∧y=BJ k∧Γ2 a=some (.dK aF)∧EC aF k=some v∧Z v Γ2
def Hv(hu:X.A.units+1<cLine)(ho:PE X o (AL E td))(hi:PE X i (AL E ty))(hs:Mq i:=by exactλ_ _=>rfl):PE X (.Subscript o i pos) (AL E (JA td ty)):=
 E6 (aa1 hu ho hi hs) λσ H Q τ Γ Y Z rs hr t vr xr=>by
  show Ψ4 τ Γ Y _ ⟨rs,hr,t,λv x H1 Γ1 s1 h1 r1 z1=>?_,xr⟩;show Ψ4 τ Γ1 Y _ ⟨rs.mono s1.tq,h1,z1,λw y H2 Γ2 s2 h2 r2 z2=>?_,xr.mono s1⟩;let⟨a,aF,k,u,rfl,rfl,g,l,z⟩:=z2;let⟨us,hu,q⟩:=h2 a _ g;rcases q.val k with⟨_,y⟩|⟨v',t',x',y',r'⟩
  ·rw[l]at y;cases y
  rw[l]at y';cases y';show Ψ2 a v' ⟨Bv r1,?_,vr v' u H2 Γ2 (s1.trans s2) h2 r' z⟩;rw[IZ r2,←x'];show lI.k hu
abbrev Xu(td ty tv:Ad):CJ:=λY D τ Γ=>tv Y τ Γ λv Γ1=>td Y τ Γ1 λx Γ2=>ty Y τ Γ2 λy Γ3=>∃a aF k,x=.ref a∧y=BJ k∧Γ3 a=some (.dK aF)∧aF.length<sizeLine∧D.nx τ (AF Γ3 a (.dK (F9 aF k v)))
def oK{value:Expr}{tv:Ad}{pos':Pos}(hu:X.A.units+1<cLine)(ho:PE X o (AL E td))(hi:PE X i (AL E ty))(hv:PE X value (AL E tv))(hs:swapsWith value (some (.Subscript o i pos')) pos.line X.env=pure false:=by rfl):PS X (.Assign [.Subscript o i pos'] value pos) (Cn E (Xu td ty tv)):=
 Gs (eDn hu ho hi hv hs) λD σ H τ Γ Y Z rs hr t dr xr=>by
  show Ψ4 τ Γ Y _ ⟨rs,hr,t,λv v3 H1 Γ1 s1 h1 r1 z1=>?_,xr⟩;show Ψ4 τ Γ1 Y _ ⟨rs.mono s1.tq,h1,z1,λx x3 H2 Γ2 s2 h2 r2 z2=>?_,xr.mono s1⟩;show Ψ4 τ Γ2 Y _ ⟨rs.mono (s1.trans s2).tq,h2,z2,λy y3 H3 Γ3 s3 h3 r3 z3=>?_,xr.mono (s1.trans s2)⟩;let⟨a,aF,k,rfl,rfl,g,l,z⟩:=z3;let⟨us,hu,q⟩:=h3 a _ g;let YE:=(s1.trans s2).trans s3;let st:hU H3 Γ3 (Ac H3 a (.dK (putK us k v))) (AF Γ3 a (.dK (F9 aF k v3))):=hU.set h3 g;show Ψ2 a _ ⟨Bv r2,by rw[IZ r3];show HH.k hu (by rw[q.len];show l),?_⟩;let tq:Tq H3 (Ac H3 a (.dK (putK us k v))):=Gv hu ⟨λ_ z=>(nomatch z),λ_ _ z=>(nomatch z)⟩;show dr.nx _ _ _ _ (YE.trans st) (h3.set g ⟨_,Bz,(q.put k (r1.mono (s2.trans s3).tq)).mono tq⟩) (rs.mono (YE.trans st).tq) z
end
end L3
namespace L3
open PySem PySem.Spec L2
variable {oc BV doc pm cy ct:Value}{od an:Option Addr}{De:Array (Option Value)}{wi:I3}{g:Dl}{tk tv:Ad}{own:List Str}{cap:List (Nat×Str)}
section
variable {P: Program}{w: World}{K: W.Frag}{mg: Str→Option Value}{am h: Heap}{x q: Str}{st: Stmt}{f: Addr}{fd: FuncData}{ps: List Str}{n: Nat}{sp: EI}
structure Dg(K:W.Frag)(x:Str)(st:Stmt)(f:Addr)(fd:FuncData):Prop where
 a:W.nsIn K mainGlobals x=some (some (.ref f))
 F:cH K x x st f fd
def dg(a:W.nsIn K mainGlobals x=some (some (.ref f)))(l:K.lookup f=some ⟨oc,od,.func (W.fnOf x x (JI st) (GG st) (An st) .none BV doc pm an cy ct),De⟩)(c:W.codeIn K cy x=true)(k:W.keepIn K (.ref f)=true):Dg K x st f (W.fnOf x x (JI st) (GG st) (An st) .none BV doc pm an cy ct):=⟨a,cO l c k⟩
structure Df(K:W.Frag)(mg:KK)(x:Str)(st:Stmt)(ps:List Str)(f:Addr)(fd:FuncData):Prop where
 F:cH K x x st f fd
 m:mg x=some (.ref f)
 k:W.keepIn K (.ref f)=true
 b:Binds K fd ps []
def Dg.df(d:Dg K x st f fd)(X:K.In h)(G:h.Ns mainGlobals mg)(hb:∀(BV doc pm:Value) (an:Option Addr) (cy ct:Value) (us:List Value),us.length=ps.length→bindArgs (W.fnOf x x (JI st) (GG st) (An st) .none BV doc pm an cy ct) ⟨us,[]⟩=pure (ps.zip us)):Df K mg x st ps f fd:=⟨d.F,ED X G d.a,d.F.kp,d.F.binds hb⟩
def Df.cl(d:Df K mg x st ps f fd)(o:bq P w K mg am Ax n f fd ps sp):Callee P w K mg am x n ps sp:=Ψ2 f fd ⟨o,d.m,d.k,d.b⟩
def Df.cx(d:Df K mg x st ps f fd)(o:bq P w K mg am (FF P w) n f fd ps sp):U8 P w K mg am x n ps sp:=Ψ2 f fd ⟨o,d.m,d.k,d.b⟩
abbrev Zs(K:W.Frag):List Str→Prop
 |[]=>True
 |x::l=>W.nsIn K mainGlobals x=some none∧Zs K l
abbrev jf(mg:KK):List Str→Prop
 |[]=>True
 |x::l=>mg x=none∧jf mg l
def Zs.m(X:K.In h)(G:h.Ns mainGlobals mg):∀{l:List Str},Zs K l→jf mg l
 |[],_=>trivial
 |_::_,⟨a,b⟩=>⟨W.mg_none_of X G a,Zs.m X G b⟩
def zc{x:Str}{l:List Str}(a:W.nsIn K mainGlobals x=some none)(b:Zs K l):Zs K (x::l):=⟨a,b⟩
structure LN(K:W.Frag)(c:Addr)(m q:Str)(st:Stmt)(f:Addr)(fd:FuncData):Prop where
 t:Meth K c m f
 F:cH K m q st f fd
def dm{c:Addr}{m:Str}(a:W.findIn K (.ref c) m=some (some (.ref f)))(l:K.lookup f=some ⟨oc,od,.func (W.fnOf m q (JI st) (GG st) (An st) .none BV doc pm an cy ct),De⟩)(cd:W.codeIn K cy q=true)(k:W.keepIn K (.ref f)=true)(i:W.isFn K (.ref f)=true):LN K c m q st f (W.fnOf m q (JI st) (GG st) (An st) .none BV doc pm an cy ct):=⟨⟨a,i,k⟩,cO l cd k⟩
end
section
variable {X: Cx}{E: St→BS}{pos: Pos}
abbrev sX(gd:AU→Prop)(g:Dl)(tk tv:Ad)(C:List (AI×T)→AU→Prop)(ts:List T)(τ:BZ)(Γ:AU):Prop:=∃P:List T→BZ→List (AI×T)→AU→Prop,P ts τ [] Γ∧(∀τ ys Γ,P [] τ ys Γ→gd Γ∧C ys Γ)∧
 ∀x r τ ys Γ,P (x::r) τ ys Γ→gd Γ∧g Cc x τ Γ λτ3 Γ3=>tk Cc τ3 Γ3 λy Γ4=>tv Cc τ3 Γ4 λz Γ5=>∃k,y=BJ k∧P r τ3 (F9 ys k z) Γ5
abbrev QH(wi:I3)(g:Dl)(tk tv:Ad)(own:List Str)(cap:List (Nat×Str)):Ad:=λY τ Γ Z=>wi Y τ Γ λts gd Γ1=>ts.length<sizeLine∧
 sX gd g tk tv (λys Γ2=>∀D,Γ2 D=none→Z (.ref D) (AF Γ2 D (.dK ys))) ts (Gq own cap τ) Γ1
def QX(ys:List (AI×T))(k:AI)(z:T):(F9 ys k z).length≤ys.length+1:=by
 unfold F9;split
 ·rw[Ag];show CE _
 ·rw[B3];show Av _
def zq(σ:St)(H:AA)(Q:B1)(q:AL E (QH wi g tk tv own cap) σ H Q):dH (E8 E wi) (EN CV g) (AL CV tk) (AL CV tv) own cap σ H Q:=by
 let⟨τ,Γ,Y,Z,rs,hr,t,vr,xr⟩:=q;show Ψ4 τ Γ Y _ ⟨rs,hr,t,λJ ts gd H1 Γ1 s1 h1 wk⟨hz,Pv,z1,p0,pc⟩=>?_,xr⟩;intro D hD;let nl:∀aF:List (AI×V),(∀us:List V,HO.dK aF≠.tup us)∧∀b w,HO.dK aF≠.frz b w:=λ_=>⟨λ_ z=>(nomatch z),λ_ _ z=>(nomatch z)⟩;show⟨λi m σ' aF H'=>∃τ' ys Γ',i≤ts.length∧m=ts.length-i∧ys.length≤i∧RS H' σ' τ'∧HR H' Γ'∧H' D=some (.dK aF)∧Γ' D=none∧Ks H' aF ys∧hU H1 Γ1 H' Γ'∧Pv (ts.drop i) τ' ys Γ',
  ⟨ts.length,Gq own cap τ,[],Γ1,FI _,rfl,Av _,(Mw own (rs.mono s1.tq) cap).mono (DI (Cm hD)),h1.keep (Cm hD),Bz,h1.free hD,.nil,.keep (Cm hD),z1⟩,?_⟩
 intro i m σ2 aF H2⟨τ2,ys,Γ2,hi,rfl,hv,vF,h2,d2,gD,ry,s2,w2⟩;show⟨d2,?_⟩;by_cases eQ:i<ts.length
 ·rw[drop_cons eQ]at w2
  let⟨g2,w2⟩:=pc _ _ _ _ _ w2;let nn:=ry.len;show .inr ⟨wk.go i H2 Γ2 s2.tq h2 g2 eQ,by lia,λσ' oG H'=>∃τ' ys Γ',ys.length≤i+1∧RS H' σ' τ'∧HR H' Γ'∧H' D=some (.dK oG)∧Γ' D=none∧Ks H' oG ys∧hU H1 Γ1 H' Γ'∧Pv (ts.drop (i+1)) τ' ys Γ',
   λσ' oG H' ξ=>Ξ38 ξ λτ' ys Γ' a b c d e f k l=>⟨ts.length-(i+1),by lia,τ',ys,Γ',eQ,rfl,a,b,c,d,e,f,k,l⟩,λx H3 yl=>?_⟩
  let⟨s3,h3,⟨x3,e3,r3⟩⟩:=wk.rK i H2 Γ2 x H3 s2.tq h2 g2 eQ yl;rw[D0 eQ]at e3;cases e3;show Ψ5 _ τ2 Γ2 Cc _ ⟨r3,vF.mono s3.tq,h3,w2,λσ4 τ4 H4 Γ4 s4 h4 r4 z4=>?_,Eu⟩;show Ψ4 τ4 Γ4 Cc _ ⟨r4,h4,z4,λy y' H5 Γ5 s5 h5 r5 z5=>?_,Eu⟩;show Ψ4 τ4 Γ5 Cc _ ⟨r4.mono s5.tq,h5,z5,λv v' H6 Γ6 s6 h6 r6 z6=>?_,Eu⟩;obtain⟨k,rfl,z6⟩:=z6;let tP:=((s3.trans s4).trans s5).trans s6;let d6:H6 D=some (.dK aF):=tP.vV D _ d2 gD;let g6:Γ6 D=none:=tP.new D (by rw[d2];exactλz=>nomatch z) gD;let tq:Tq H6 (Ac H6 D (.dK (putK aF k v))):=Gv d6 (nl _);show⟨k,IZ r5,d6,τ4,F9 ys k v',Γ6,Ci (QX _ _ _) (LU hv),(r4.mono (s5.trans s6).tq).mono tq,h6.hide g6 d6 (nl _),Bz,g6,((ry.mono tP.tq).put k r6).mono tq,?_,z6⟩;let s7:=s2.trans tP;show⟨s7.tq.trans tq,λa h z=>?_,s7.new,λa o h g=>?_⟩
  ·by_cases e:a=D
   ·subst e;show h hD
   ·rw[BC e]at z;show s7.xK a h z
  ·let e:a≠D:=λe=>by subst e;rw[hD]at h;cases h
   rw[BC e];show s7.vV a o h g
 ·let e:i=ts.length:=by lia
  subst e;rw[JM]at w2;let w2:=p0 _ _ _ w2;show .inl ⟨wk.stop H2 Γ2 s2.tq h2 w2.1,?_⟩;let sO:=s1.trans s2;show vr (.ref D) (.ref D) H2 (AF Γ2 D (.dK ys)) ⟨sO.tq,sO.xK,λa h g=>?_,sO.vV⟩ (λa o g=>?_) F2 (w2.2 D gD)
  ·let e:a≠D:=λe=>by subst e;show s1.xK _ h hD
   rw[Ce e];show sO.new a h g
  ·by_cases e:a=D
   ·subst e;rw[BN]at g;cases g;show⟨_,d2,ry⟩
   ·rw[Ce e]at g;show h2 a o g
def dX{scope:Scope}{cl:List (Str×Addr)}{tg iter kx Ck:Expr}(c:dB X scope cl own cap)(hc:X.calm=true)(hi:PI X tg iter (E8 E wi))
  (hg:∀C s H fp,PG (Ba X (own++cap.map (·.2)) scope cl C s H fp λ_ _=>False) tg (EN CV g))
  (hk:∀C s H fp,PE (Ba X (own++cap.map (·.2)) scope cl C s H fp λ_ _=>False) kx (AL CV tk))
  (hv:∀C s H fp,PE (Ba X (own++cap.map (·.2)) scope cl C s H fp λ_ _=>False) Ck (AL CV tv)) (hs:∀x,foldedSetIterable iter X.env x=pure x:=by intro _;rfl) :
  PE X (.DictComp kx Ck [⟨tg,iter,[],0⟩] scope pos) (AL E (QH wi g tk tv own cap)):=Fj (ac1 c hc hi hg hk hv hs) zq
end
end L3
namespace L3
open PySem PySem.Spec L2
open PyProof.Rows hiding St
variable {t u:T}{d:Nat}{e o:Expr}{H:AA}{ts us:List T}{td ty:Ad}{pos:Pos}{X: Cx}
inductive Dp:Nat→T→Prop
 |int {d:Nat} (i:Int):Dp d (.int i)
 |str {d:Nat} (z:Str):Dp d (.str z)
 |tup {d:Nat} {ts:List T} (q:∀t∈ts,Dp d t):Dp (d+1) (.tup ts)
noncomputable def CL(t u:T):Bool:=@decide (t=u) (Classical.propDecidable _)
def pQ:CL t u=true↔t=u:=by unfold CL;show @decide_eq_true_iff _ (Classical.propDecidable _)
def Fq{b:Bool}(h:b=true↔t=u):CL t u=b:=by
 cases b with
 |true=>show pQ.mpr (h.mp rfl)
 |false=>
  cases e:CL t u with
  |false=>rfl
  |true=>show(h.mpr (pQ.mp e)).symm
def Dp.mono{e:Nat}(h:d≤e)(p:Dp d t):Dp e t:=by
 induction p generalizing e with
 |int i=>show .int i
 |str z=>show .str z
 |@tup d ts q ih=>
  obtain⟨e',rfl⟩:∃e',e=e'+1:=⟨e-1,by lia⟩;show .tup λt ht=>ih t ht (by lia)
def oA:∀{d:Nat} {t:T},Dp d t→∀{d':Nat} {t':T} {v:V},Dp d' t'→R H v t→R H v t'→t=t':=by
 intro d t h;induction h with
 |int i=>
  intro d' t' v h' r r';let e:=CK r;subst e;cases h' with
  |int j=>show EJ _ (V.int.inj (CK r'))
  |str z=>cases CS r'
  |tup q=>let⟨_,_,e,_⟩:=Ct r';cases e
 |str z=>
  intro d' t' v h' r r';let e:=CS r;subst e;cases h' with
  |int j=>cases CK r'
  |str z=>show EJ _ (V.str.inj (CS r'))
  |tup q=>let⟨_,_,e,_⟩:=Ct r';cases e
 |@tup d ts q ih=>
  intro d' t' v h' r r';let⟨p,vs,rfl,hp,rr⟩:=Ct r;cases h' with
  |int j=>cases CK r'
  |str z=>cases CS r'
  |@tup _ us q'=>
   let⟨p2,vs2,e,rB,YF⟩:=Ct r';cases e;rw[hp]at rB;cases rB;let l1:=rr.length;let l2:=YF.length;congr 1
   show List.ext_getElem (by lia) λj h1 h2=>?_;show ih _ (GJ h1) (q' _ (GJ h2)) (rr.getD (D0 h1)) (YF.getD (D0 h2))
section
def uL:((List.range (min ts.length us.length)).all (λj=>CL (ts.getD j .non) (us.getD j .non))&&ts.length==us.length)=true↔ts=us:=by
 rw[Cq,aaW,abZ];constructor
 ·intro⟨h,l⟩
  show List.ext_getElem l λj h1 h2=>?_;have:=pQ.mp (h j (abC.mpr (by lia)));rwa[HZ,HZ,D0 h1,D0 h2]at this
 ·rintro rfl
  show⟨λj _=>pQ.mpr rfl,rfl⟩
def dR{v4:ac}{s:Shared}{σ:L2.St}(I:L2.Inv X v4 σ H s):∀{d:Nat} {t:T},Dp d t→∀{d':Nat} {t':T},Dp d' t'→∀{A:Around} {v v':V} {u u':Value},A.units+d<cLine→R H v t→R H v' t'→RelV v u→RelV v' u'→SeqAt.EqAt A s u u' (CL t t'):=by
 intro d t h;induction h with
 |@int d i=>
  intro d' t' h' A v v' u u' hu r r' x x';rw[CK r]at x;cases h' with
  |int j=>
   rw[CK r']at x';have:=Mn (A:=A) (s:=s) x x' rfl rfl;rwa[show Ex (.int i) (.int j)=CL (.int i) (.int j)from(Fq (by simp[Ex])).symm]at this
  |str z=>
   rw[CS r']at x';have:=Mn (A:=A) (s:=s) x x' rfl rfl;rwa[show Ex (.int i) (.str z)=CL (.int i) (.str z)from(Fq (by simp[Ex])).symm]at this
  |@tup _ us q'=>
   let⟨p',Ey,rfl,A0,HJ⟩:=Ct r';cases x';let⟨oH,yy,wK,Sy⟩:=I.tuple (eJ.of (K:=X.K) A0);let⟨t0,rfl⟩:=x;rw[show CL (.int i) (.tup us)=false from Fq (by simp)];show SeqAt.EqAt.int_tuple _ _ wK (by lia)
 |@str d z=>
  intro d' t' h' A v v' u u' hu r r' x x';rw[CS r]at x;cases h' with
  |int j=>
   rw[CK r']at x';have:=Mn (A:=A) (s:=s) x x' rfl rfl;rwa[show Ex (.str z) (.int j)=CL (.str z) (.int j)from(Fq (by simp[Ex])).symm]at this
  |str z2=>
   rw[CS r']at x';have:=Mn (A:=A) (s:=s) x x' rfl rfl;rwa[show Ex (.str z) (.str z2)=CL (.str z) (.str z2)from(Fq (by simp[Ex])).symm]at this
  |@tup _ us q'=>
   let⟨p',Ey,rfl,A0,HJ⟩:=Ct r';cases x';let⟨oH,yy,wK,Sy⟩:=I.tuple (eJ.of (K:=X.K) A0);let⟨t0,rfl⟩:=x;rw[show CL (.str z) (.tup us)=false from Fq (by simp)];show SeqAt.EqAt.str_tuple _ _ wK (by lia)
 |@tup d ts q ih=>
  intro d' t' h' A v v' u u' hu r r' x x';let r0:=r;let r0':=r';let⟨p,vs,rfl,hp,rr⟩:=Ct r;cases x;let⟨aV,rv,pl,hz⟩:=I.tuple (eJ.of (K:=X.K) hp);cases h' with
  |int j=>
   rw[CK r']at x';let⟨t0,rfl⟩:=x';rw[show CL (.tup ts) (.int j)=false from Fq (by simp)];show SeqAt.EqAt.tuple_int _ _ pl (by lia)
  |str z=>
   rw[CS r']at x';let⟨t0,rfl⟩:=x';rw[show CL (.tup ts) (.str z)=false from Fq (by simp)];show SeqAt.EqAt.tuple_str _ _ pl (by lia)
  |@tup d2 us q'=>
   let⟨p',Ey,rfl,A0,HJ⟩:=Ct r';cases x';by_cases e:p=p'
   ·subst e
    rw[oA (.tup q) (.tup q') r0 r0',show CL (.tup us) (.tup us)=true from pQ.mpr rfl];show SeqAt.EqAt.same _
   ·let⟨oH,yy,wK,Sy⟩:=I.tuple (eJ.of (K:=X.K) A0)
    let l1:=rr.length;let l2:=HJ.length;let l3:=rv.length;let l4:=yy.length;have:=SeqAt.RcAt.tuples (A:=A) (e:=λj=>CL (ts.getD j .non) (us.getD j .non)) pl wK (by lia) (λj h1 h2=>?_)
    ·show SeqAt.EqAt.of_refs e ?_
     rw[Bf,Bf,←l3,←l4,l1,l2]at this;rwa[show CL (.tup ts) (.tup us)=((List.range (min ts.length us.length)).all (λj=>CL (ts.getD j .non) (us.getD j .non))&&ts.length==us.length)from Fq (uL.trans ⟨λz=>by rw[z],λz=>T.tup.inj z⟩)]
    ·let HU:j<ts.length:=by rw[Bf]at h1;lia
     let LK:j<us.length:=by rw[Bf]at h2;lia
     let g:ts[j]?=some ts[j]:=D0 HU;let g':us[j]?=some us[j]:=D0 LK;have:=ih _ (GJ HU) (q' _ (GJ LK)) (A:=A.in1) (by show A.units+1+d<cLine;lia) (rr.getD g) (HJ.getD g') (Vals.at rv (by simpa using h1)) (Vals.at yy (by simpa using h2));rwa[HZ,HZ,g,g']
def oR(hu:X.A.units+(1+d)<cLine):jB X (compareOp .NotEq) (λx y H Q=>∃ts us:List T,R H x (.tup ts)∧R H y (.tup us)∧(∀t∈ts,Dp d t)∧(∀t∈us,Dp d t)∧Q (.bl (!CL (.tup ts) (.tup us))) H):=by
 intro v4 s σ H x y v u Q I rx ry h;let⟨ts,us,r,r',q1,q2,q⟩:=h;let⟨p,vs,rfl,hp,rr⟩:=Ct r;let⟨p',Ey,rfl,A0,HJ⟩:=Ct r';cases rx;cases ry;let⟨aV,rv,pl,hz⟩:=I.tuple (eJ.of (K:=X.K) hp);let⟨oH,yy,wK,Sy⟩:=I.tuple (eJ.of (K:=X.K) A0);let l1:=rr.length;let l2:=HJ.length;let l3:=rv.length;let l4:=yy.length;show SeqAt.RcNeAt.tuples (e:=λj=>CL (ts.getD j .non) (us.getD j .non)) pl wK (by lia) (λj h1 h2=>?_) _ _ _ _ ⟨.bl (!CL (.tup ts) (.tup us)),H,I,?_,q⟩
 ·let HU:j<ts.length:=by rw[Bf]at h1;lia
  let LK:j<us.length:=by rw[Bf]at h2;lia
  let g:ts[j]?=some ts[j]:=D0 HU;let g':us[j]?=some us[j]:=D0 LK;have:=dR I (q1 _ (GJ HU)) (q2 _ (GJ LK)) (A:=X.A.in1) (by show X.A.units+1+d<cLine;lia) (rr.getD g) (HJ.getD g') (Vals.at rv (by simpa using h1)) (Vals.at yy (by simpa using h2));rwa[HZ,HZ,g,g']
 ·show _=Value.bool _
  congr 2
  rw[Bf,Bf,←l3,←l4,l1,l2];show(Fq (uL.trans ⟨λz=>by rw[z],λz=>T.tup.inj z⟩)).symm
def WO(hu:X.A.units+(1+d)<cLine):Bq X (compareOp .NotEq) (λx y Γ Z=>∃ts us:List T,x=.tup ts∧y=.tup us∧(∀t∈ts,Dp d t)∧(∀t∈us,Dp d t)∧Z (.bl (!CL (.tup ts) (.tup us))) Γ):=
 ⟨_,oR hu,λx y a b H Γ Q Z ra rb hr q0 vr=>by
  let⟨ts,us,ea,eb,f1,f2,z⟩:=q0;subst ea eb;show Ψ2 ts us ⟨ra,rb,f1,f2,vr _ _ H Γ .refl hr D5 z⟩⟩
inductive Kc(d:Nat):T→T→Prop
 |int (i j:Int):Kc d (.int i) (.int j)
 |str (y z:Str):Kc d (.str y) (.str z)
 |tup {ts us:List T} (h:∀t∈ts,Dp d t) (h':∀t∈us,Dp d t):Kc d (.tup ts) (.tup us)
def bc(hu:X.A.units+(1+d)<cLine):jB X (compareOp .Eq) (λx y H Q=>∃t t':T,R H x t∧R H y t'∧Kc d t t'∧Q (.bl (CL t t')) H):=by
 intro v4 s σ H x y v u Q I rx ry h;let⟨t,t',r,r',tw,q⟩:=h;cases tw with
 |int i j=>
  rw[CK r]at rx;rw[CK r']at ry;let⟨k1,rfl⟩:=rx;let⟨k2,rfl⟩:=ry;let e:CL (.int i) (.int j)=(i==j):=Fq (by rw[abZ];show⟨EJ _,T.int.inj⟩);show SeqAt.RcAt.int_int i k1 j k2 _ _ _ _ ⟨.bl (CL (.int i) (.int j)),H,I,by rw[e];rfl,q⟩
 |str y z=>
  rw[CS r]at rx;rw[CS r']at ry;let⟨k1,rfl⟩:=rx;let⟨k2,rfl⟩:=ry;let e:CL (.str y) (.str z)=(y==z):=Fq (by rw[abZ];show⟨EJ _,T.str.inj⟩);show SeqAt.RcAt.str_str y k1 z k2 _ _ _ _ ⟨.bl (CL (.str y) (.str z)),H,I,by rw[e];rfl,q⟩
 |@tup ts us q1 q2=>
  let⟨p,vs,rfl,hp,rr⟩:=Ct r;let⟨p',Ey,rfl,A0,HJ⟩:=Ct r';cases rx;cases ry;let⟨aV,rv,pl,hz⟩:=I.tuple (eJ.of (K:=X.K) hp);let⟨oH,yy,wK,Sy⟩:=I.tuple (eJ.of (K:=X.K) A0);let l1:=rr.length;let l2:=HJ.length;let l3:=rv.length;let l4:=yy.length;show SeqAt.RcAt.tuples (e:=λj=>CL (ts.getD j .non) (us.getD j .non)) pl wK (by lia) (λj h1 h2=>?_) _ _ _ _ ⟨.bl (CL (.tup ts) (.tup us)),H,I,?_,q⟩
  ·let HU:j<ts.length:=by rw[Bf]at h1;lia
   let LK:j<us.length:=by rw[Bf]at h2;lia
   let g:ts[j]?=some ts[j]:=D0 HU;let g':us[j]?=some us[j]:=D0 LK;have:=dR I (q1 _ (GJ HU)) (q2 _ (GJ LK)) (A:=X.A.in1) (by show X.A.units+1+d<cLine;lia) (rr.getD g) (HJ.getD g') (Vals.at rv (by simpa using h1)) (Vals.at yy (by simpa using h2));rwa[HZ,HZ,g,g']
  ·show _=Value.bool _
   congr 1
   rw[Bf,Bf,←l3,←l4,l1,l2];show(Fq (uL.trans ⟨λz=>by rw[z],λz=>T.tup.inj z⟩)).symm
def Wd(hu:X.A.units+(1+d)<cLine):Bq X (compareOp .Eq) (λx y Γ Z=>Kc d x y∧Z (.bl (CL x y)) Γ):=
 ⟨_,bc hu,λx y a b H Γ Q Z ra rb hr q0 vr=>Ψ2 _ _ ⟨ra,rb,q0.1,vr _ _ H Γ .refl hr D5 q0.2⟩⟩
end
section
variable {E: St→BS}
abbrev RJ(P:Program)(w:World)(K:W.Frag)(td ty:Ad):Ad:=λY τ Γ Z=>td Y τ Γ λx Γ1=>ty Y τ Γ1 λy Γ2=>∃a aF z b,x=.ref a∧Cz P w K a aF∧y=.str z∧aF.lookup z=some b∧Z (.ref b) Γ2
def jG{i:Expr}(ho:PE X o (AL E td))(hi:PE X i (AL E ty))(hs:Mq i:=by exactλ_ _=>rfl):PE X (.Subscript o i pos) (AL E (RJ X.prog X.w X.K td ty)):=
 E6 (kz ho hi hs) λσ H Q τ Γ Y Z rs hr t vr xr=>by
  show Ψ4 τ Γ Y _ ⟨rs,hr,t,λv x H1 Γ1 s1 h1 r1 z1=>?_,xr⟩;show Ψ4 τ Γ1 Y _ ⟨rs.mono s1.tq,h1,z1,λw y H2 Γ2 s2 h2 r2 z2=>?_,xr.mono s1⟩;let⟨a,aF,z,b,rfl,kd,rfl,l,q⟩:=z2;show Ψ4 a aF z b ⟨Bv r1,kd,CS r2,l,vr _ _ H2 Γ2 (s1.trans s2) h2 F2 q⟩
abbrev WT(P:Program)(w:World)(K:W.Frag)(td ty:Ad):Ad:=λY τ Γ Z=>td Y τ Γ λx Γ1=>∃a aF,x=.ref a∧Cz P w K a aF∧ty Y τ Γ1 λy Γ2=>∃z,y=.str z∧(∀b,aF.lookup z=some b→Z (.ref b) Γ2)∧(aF.lookup z=none→Z .non Γ2)
def ac8{apos dS:Pos}(ho:PE X o (AL E td))(he:PE X e (AL E ty))(m:Q4 X o "get" apos e dS):PE X (.Call (.Attribute o "get" apos) [e] [] dS) (AL E (WT X.prog X.w X.K td ty)):=
 E6 (lK ho he m) λσ H Q τ Γ Y Z rs hr t vr xr=>by
  show Ψ4 τ Γ Y _ ⟨rs,hr,t,λv x H1 Γ1 s1 h1 r1 z1=>?_,xr⟩;obtain⟨a,aF,rfl,kd,z1⟩:=z1;show Ψ2 a aF ⟨Bv r1,kd,?_⟩;show Ψ4 τ Γ1 Y _ ⟨rs.mono s1.tq,h1,z1,λw y H2 Γ2 s2 h2 r2 z2=>?_,xr.mono s1⟩;let⟨z,rfl,q1,q2⟩:=z2;show⟨z,CS r2,λb l=>vr _ _ H2 Γ2 (s1.trans s2) h2 F2 (q1 b l),λl=>vr _ _ H2 Γ2 (s1.trans s2) h2 Ku (q2 l)⟩
def fV(hu:X.A.units+1<cLine):IA X "dict.get" (λx ts Γ Z=>∃a aF k,x=.ref a∧ts=[BJ k]∧Γ a=some (.dK aF)∧Z ((EC aF k).getD .non) Γ):=
 ⟨_,vh hu,λv x vs ts H Γ Q Z rv r hr q0 vr=>by
  let⟨a,aF,k,rfl,rfl,g,z⟩:=q0;let⟨us,hu,q⟩:=hr a _ g;let⟨y,rfl,ry⟩:=qC r;rw[IZ ry];show Ψ3 a _ _ ⟨Bv rv,rfl,lI.k hu,?_⟩;rcases q.val k with⟨x',y'⟩|⟨v',t',x',y',r'⟩
  ·rw[x'];rw[y']at z;show vr _ _ H Γ .refl hr Ku z
  ·rw[x'];rw[y']at z;show vr _ _ H Γ .refl hr r' z⟩
def xc(hu:X.A.units+1<cLine):IA X "dict.get" (λx ts Γ Z=>∃a aF k d,x=.ref a∧ts=[BJ k,d]∧Γ a=some (.dK aF)∧Z ((EC aF k).getD d) Γ):=
 ⟨_,tS hu,λv x vs ts H Γ Q Z rv r hr q0 vr=>by
  let⟨a,aF,k,d,rfl,rfl,g,z⟩:=q0;let⟨us,hu,q⟩:=hr a _ g;let⟨y,d',rfl,ry,rd⟩:=vF r;rw[IZ ry];show Ψ4 a _ _ _ ⟨Bv rv,rfl,lI.k hu,?_⟩;rcases q.val k with⟨x',y'⟩|⟨v',t',x',y',r'⟩
  ·rw[x'];rw[y']at z;show vr _ _ H Γ .refl hr rd z
  ·rw[x'];rw[y']at z;show vr _ _ H Γ .refl hr r' z⟩
def yQ:IA X "dict.setdefault" (λx ts Γ Z=>∃a aF k d,x=.ref a∧ts=[BJ k,d]∧Γ a=some (.dK aF)∧aF.length<sizeLine∧(∀t,EC aF k=some t→Z t Γ)∧(EC aF k=none→Z d (AF Γ a (.dK (F9 aF k d))))):=
 ⟨_,qK,λv x vs ts H Γ Q Z rv r hr q0 vr=>by
  let⟨a,aF,k,d,rfl,rfl,g,hl,z1,z2⟩:=q0;let⟨us,hu,q⟩:=hr a _ g;let⟨y,d',rfl,ry,rd⟩:=vF r;rw[IZ ry];show Ψ4 a k d' us ⟨Bv rv,rfl,hu,by rw[q.len];show hl,λv' e=>?_,λe=>?_⟩
  ·rcases q.val k with⟨x',y'⟩|⟨v2,t',x',y',r'⟩
   ·rw[x']at e;cases e
   ·rw[x']at e;cases e;show vr _ _ H Γ .refl hr r' (z1 _ y')
  ·rcases q.val k with⟨x',y'⟩|⟨v2,t',x',y',r'⟩
   ·let tq:Tq H (Ac H a (.dK (putK us k d'))):=Gv hu ⟨λ_ z=>(nomatch z),λ_ _ z=>(nomatch z)⟩
    show vr _ _ _ _ (hU.set hr g) (hr.set (o3:=.dK (F9 aF k d)) g ⟨_,Bz,(q.put k rd).mono tq⟩) (rd.mono tq) (z2 y')
   ·rw[x']at e;cases e⟩
def uW:EX X (.type "dict") (λxs Γ Z=>∃a aF,xs=[.ref a]∧Γ a=some (.dK aF)∧∀p,Γ p=none→Z (.ref p) (AF Γ p (.dK aF))):=
 ⟨_,sJ,λvs xs H Γ Q Z r hr q0 vr=>by
  let⟨a,aF,e,g,z⟩:=q0;subst e;let⟨v,rfl,ra⟩:=qC r;let⟨us,hu,q⟩:=hr a _ g;show Ψ2 a us ⟨by rw[Bv ra],hu,λp hp=>vr _ _ _ _ (.make hp) (hr.make (o3:=.dK aF) hp ⟨_,Bz,q.mono (DI (Cm hp))⟩) F2 (z p (hr.free hp))⟩⟩
def ki:EX X (.builtin "len") (λxs Γ Z=>∃a aF,xs=[.ref a]∧Γ a=some (.dK aF)∧Z (.int aF.length) Γ):=
 ⟨_,tH,λvs xs H Γ Q Z r hr q0 vr=>by
  let⟨a,aF,e,g,z⟩:=q0;subst e;let⟨v,rfl,ra⟩:=qC r;let⟨us,hu,q⟩:=hr a _ g;show Ψ2 a us ⟨by rw[Bv ra],hu,by rw[q.len];show vr _ _ H Γ .refl hr DO z⟩⟩
@[reducible]def Y7(P:Program)(w:World)(K:W.Frag)(mg:KK)(am:Heap)(f:Addr)(k:Nat)(ps:List Str)(sp:B4):Prop:=dL P w K mg am f k ps (Aw sp)
abbrev aG(P:Program)(w:World)(K:W.Frag)(mg:KK)(am:Heap)(k:Nat)(ps:List Str)(i:Nat)(t:Co):Ad:=λY τ Γ Z=>∃f sp,τ[i]?=some (some (.ref f))∧Y7 P w K mg am f k ps sp∧t Y τ Γ λxs Γ1=>sp xs Γ1 Z λ_ _=>False
def pE(i:Nat)(k:Nat)(ps:List Str){x:Str}{j:Nat}{p:Pos}{es:List Expr}{t:Co}(hr:eh j X.A)(hk:k≤j)(ha:PA X (e::es) (Ds E t))(hN:X.N[i]?=some x:=by rfl)(hv:JL X.env.scope x:=by first|show Or.inl rfl|show Or.inr (Or.inl rfl)|show Or.inr (Or.inr rfl))(hd:(x ==("__debug__" : Str))=false:=by decide)(xu:(x ==("__classdict__" : Str))=false:=by decide)
  (he:starEach (e::es) X.env=(false,eval e X.env)::starEach es X.env:=by rfl) (jw:(backTo pos (starEach es X.env)).any (·.1)=false:=by rfl):PE X (.Call (.Name x p) (e::es) [] pos) (AL E (aG X.prog X.w X.K X.mg X.base k ps i t)):=
 E6 (ace (k:=k) (ps:=ps) hr hk hN hv ha hd xu he jw) λσ H Q τ Γ Y Z rs hr t vr xr=>by
  let⟨f,sp,ex,fc,q⟩:=t;let⟨v,hv,rv⟩:=rs.get ex;rw[Bv rv]at hv;show Ψ2 f _ ⟨hv,fc,τ,Γ,Y,_,rs,hr,q,λvs xs H1 Γ1 s1 h1 r1 z1=>?_,xr⟩;show Ψ4 xs Γ1 Z _ ⟨r1,h1,z1,vr.mono s1,λ_ _ _ _ _ z=>z.elim⟩
variable {p pos: Pos}
abbrev jh(K:W.Frag)(ta:Co):I3:=λY τ Γ Z=>ta Y τ Γ λxs Γ1=>∃ts b us,xs=[.ref b,.tup us]∧KT K b ts∧Z (Ew ts us) DK Γ1
def yr{K:W.Frag}{a b:Addr}{vs ws:List V}(ha:fo K a vs)(q:∀H,Rs H vs ts)(hb:H b=some (.tup ws))(q':Rs H ws us):Walks (QM K a b) (Ew ts us) DK H where
 go:=λi H' Γ t hr _ hi=>by
  rw[Jd]at hi;show Ψ4 vs ws (vs[i]'(by rw[(q H).length];lia)) (ws[i]'(by rw[q'.length];lia)) ⟨ha.sq,eJ.of (t.1 b ws hb),by simp,by simp⟩
 rK:=λi H' Γ v H2 t hr _ hi q0=>by
  let⟨p,x,y,hp,e1,e2,y1,y2⟩:=q0;subst e1 e2;let⟨t1,f1,r1⟩:=(q H').A6 (y1 vs ha.sq);let⟨t2,f2,r2⟩:=(q'.mono t).A6 (y2 ws (eJ.of (t.1 b ws hb)));let k:=Cm (o:=.tup [x,y]) hp;show⟨.keep k,hr.keep k,_,Ry f1 f2,Io Bz (FU (r1.mono (DI k)) (FU (r2.mono (DI k)) FL))⟩
 stop:=λH' Γ t hr _=>Ψ2 vs ws ⟨ha.sq,eJ.of (t.1 b ws hb),by rw[Jd,(q H).length,q'.length];lia⟩
def tg6{a b:Expr}{ta:Co}{elts:List Expr}{kk:Nat}{wq:Pos}(hg:CF X "zip")(hm:X.mg "zip" = none)(ha:PA X [a,b] (Ds E ta))(hs:starEach [a,b] X.env=[(false,eval a X.env),(false,eval b X.env)]:=by rfl)(sT:starEach [b] X.env=[(false,eval b X.env)]:=by rfl):
  PI X (.Tuple elts kk wq) (.Call (.Name "zip" p) [a,b] [] pos) (E8 E (jh X.K ta)):=
 JO (fW hg hm ha hs sT) λσ H Q τ Γ Y Z rs hr t vr xr=>⟨τ,Γ,Y,_,rs,hr,t,λvs xs H1 Γ1 s1 h1 r1 ⟨ts,b,us,ex,⟨ws,hk,q⟩,z⟩=>by
  subst ex;let⟨v,w,rfl,a,b⟩:=vF r1;let⟨pa,va,rfl,ha,qa⟩:=Ct b;rw[Bv a];show Ψ4 _ pa ws va ⟨rfl,hk.sq,eJ.of ha,vr _ _ DK H1 Γ1 s1 h1 (yr hk q ha qa) z⟩,xr⟩
end
end L3
namespace L3
open PySem PySem.Spec L2
variable {wi:I3}{g:Dl}{tt:D6}{tk tv:Ad}{own:List Str}{cap:List (Nat×Str)}
section
variable {X: Cx}{E: St→BS}{pos: Pos}
abbrev aaF(gd:AU→Prop)(g:Dl)(tt:D6)(tk tv:Ad)(C:List (AI×T)→AU→Prop)(ts:List T)(τ:BZ)(Γ:AU):Prop:=∃P:List T→BZ→List (AI×T)→AU→Prop,P ts τ [] Γ∧(∀τ ys Γ,P [] τ ys Γ→gd Γ∧C ys Γ)∧
 ∀x r τ ys Γ,P (x::r) τ ys Γ→gd Γ∧g Cc x τ Γ λτ3 Γ3=>tt Cc τ3 Γ3 λok Γ3=>if ok=true then tk Cc τ3 Γ3 λy Γ4=>tv Cc τ3 Γ4 λz Γ5=>∃k,y=BJ k∧P r τ3 (F9 ys k z) Γ5 else P r τ3 ys Γ3
abbrev V4(wi:I3)(g:Dl)(tt:D6)(tk tv:Ad)(own:List Str)(cap:List (Nat×Str)):Ad:=λY τ Γ Z=>wi Y τ Γ λts gd Γ1=>ts.length<sizeLine∧
 aaF gd g tt tk tv (λys Γ2=>∀D,Γ2 D=none→Z (.ref D) (AF Γ2 D (.dK ys))) ts (Gq own cap τ) Γ1
def acP(σ:St)(H:AA)(Q:B1)(q:AL E (V4 wi g tt tk tv own cap) σ H Q):bP (E8 E wi) (EN CV g) (Cp CV tt) (AL CV tk) (AL CV tv) own cap σ H Q:=by
 let⟨τ,Γ,Y,Z,rs,hr,t,vr,xr⟩:=q;show Ψ4 τ Γ Y _ ⟨rs,hr,t,λJ ts gd H1 Γ1 s1 h1 wk⟨hz,Pv,z1,p0,pc⟩=>?_,xr⟩;intro D hD;let nl:∀aF:List (AI×V),(∀us:List V,HO.dK aF≠.tup us)∧∀b w,HO.dK aF≠.frz b w:=λ_=>⟨λ_ z=>(nomatch z),λ_ _ z=>(nomatch z)⟩;show⟨λi m σ' aF H'=>∃τ' ys Γ',i≤ts.length∧m=ts.length-i∧ys.length≤i∧RS H' σ' τ'∧HR H' Γ'∧H' D=some (.dK aF)∧Γ' D=none∧Ks H' aF ys∧hU H1 Γ1 H' Γ'∧Pv (ts.drop i) τ' ys Γ',
  ⟨ts.length,Gq own cap τ,[],Γ1,FI _,rfl,Av _,(Mw own (rs.mono s1.tq) cap).mono (DI (Cm hD)),h1.keep (Cm hD),Bz,h1.free hD,.nil,.keep (Cm hD),z1⟩,?_⟩
 intro i m σ2 aF H2⟨τ2,ys,Γ2,hi,rfl,hv,vF,h2,d2,gD,ry,s2,w2⟩;show⟨d2,?_⟩;by_cases eQ:i<ts.length
 ·rw[drop_cons eQ]at w2
  let⟨g2,w2⟩:=pc _ _ _ _ _ w2;let nn:=ry.len;show .inr ⟨wk.go i H2 Γ2 s2.tq h2 g2 eQ,by lia,λσ' oG H'=>∃τ' ys Γ',ys.length≤i+1∧RS H' σ' τ'∧HR H' Γ'∧H' D=some (.dK oG)∧Γ' D=none∧Ks H' oG ys∧hU H1 Γ1 H' Γ'∧Pv (ts.drop (i+1)) τ' ys Γ',
   λσ' oG H' ξ=>Ξ38 ξ λτ' ys Γ' a b c d e f k l=>⟨ts.length-(i+1),by lia,τ',ys,Γ',eQ,rfl,a,b,c,d,e,f,k,l⟩,λx H3 yl=>?_⟩
  let⟨s3,h3,⟨x3,e3,r3⟩⟩:=wk.rK i H2 Γ2 x H3 s2.tq h2 g2 eQ yl;rw[D0 eQ]at e3;cases e3;show Ψ5 _ τ2 Γ2 Cc _ ⟨r3,vF.mono s3.tq,h3,w2,λσ4 τ4 H4 Γ4 s4 h4 r4 z4=>?_,Eu⟩;show Ψ4 τ4 Γ4 Cc _ ⟨r4,h4,z4,λok H4' Γ4' Pm ZJ Yi=>?_,Eu⟩;cases ok with
  |false=>
   let Ut:=(s3.trans s4).trans Pm;show Ψ3 τ4 ys Γ4' ⟨Fc hv,r4.mono Pm.tq,ZJ,Ut.vV D _ d2 gD,Ut.new D (by rw[d2];exactλz=>nomatch z) gD,ry.mono Ut.tq,s2.trans Ut,Yi⟩
  |true=>
  show Ψ4 τ4 Γ4' Cc _ ⟨r4.mono Pm.tq,ZJ,Yi,λy y' H5 Γ5 s5 h5 r5 z5=>?_,Eu⟩;show Ψ4 τ4 Γ5 Cc _ ⟨(r4.mono Pm.tq).mono s5.tq,h5,z5,λv v' H6 Γ6 s6 h6 r6 z6=>?_,Eu⟩;obtain⟨k,rfl,z6⟩:=z6;let tP:=(((s3.trans s4).trans Pm).trans s5).trans s6;let d6:H6 D=some (.dK aF):=tP.vV D _ d2 gD;let g6:Γ6 D=none:=tP.new D (by rw[d2];exactλz=>nomatch z) gD;let tq:Tq H6 (Ac H6 D (.dK (putK aF k v))):=Gv d6 (nl _);show⟨k,IZ r5,d6,τ4,F9 ys k v',Γ6,Ci (QX _ _ _) (LU hv),(r4.mono ((Pm.trans s5).trans s6).tq).mono tq,h6.hide g6 d6 (nl _),Bz,g6,((ry.mono tP.tq).put k r6).mono tq,?_,z6⟩;let s7:=s2.trans tP;show⟨s7.tq.trans tq,λa h z=>?_,s7.new,λa o h g=>?_⟩
  ·by_cases e:a=D
   ·subst e;show h hD
   ·rw[BC e]at z;show s7.xK a h z
  ·let e:a≠D:=λe=>by subst e;rw[hD]at h;cases h
   rw[BC e];show s7.vV a o h g
 ·let e:i=ts.length:=by lia
  subst e;rw[JM]at w2;let w2:=p0 _ _ _ w2;show .inl ⟨wk.stop H2 Γ2 s2.tq h2 w2.1,?_⟩;let sO:=s1.trans s2;show vr (.ref D) (.ref D) H2 (AF Γ2 D (.dK ys)) ⟨sO.tq,sO.xK,λa h g=>?_,sO.vV⟩ (λa o g=>?_) F2 (w2.2 D gD)
  ·let e:a≠D:=λe=>by subst e;show s1.xK _ h hD
   rw[Ce e];show sO.new a h g
  ·by_cases e:a=D
   ·subst e;rw[BN]at g;cases g;show⟨_,d2,ry⟩
   ·rw[Ce e]at g;show h2 a o g
def vf{scope:Scope}{cl:List (Str×Addr)}{tg iter kx Ck:Expr}{ifs:List Expr}(c:dB X scope cl own cap)(hc:X.calm=true)(hi:PI X tg iter (E8 E wi))
  (hg:∀C s H fp,PG (Ba X (own++cap.map (·.2)) scope cl C s H fp λ_ _=>False) tg (EN CV g))
  (ht:∀C s H fp,ye (Ba X (own++cap.map (·.2)) scope cl C s H fp λ_ _=>False) ifs (Cp CV tt))
  (hk:∀C s H fp,PE (Ba X (own++cap.map (·.2)) scope cl C s H fp λ_ _=>False) kx (AL CV tk))
  (hv:∀C s H fp,PE (Ba X (own++cap.map (·.2)) scope cl C s H fp λ_ _=>False) Ck (AL CV tv)) (hs:∀x,foldedSetIterable iter X.env x=pure x:=by intro _;rfl) :
  PE X (.DictComp kx Ck [⟨tg,iter,ifs,0⟩] scope pos) (AL E (V4 wi g tt tk tv own cap)):=Fj (adu c hc hi hg ht hk hv hs) acP
end
end L3
namespace L3
open PySem PySem.Spec L2
open PyProof.Rows hiding St
variable {wi:I3}{g:Dl}{te:Ad}{own:List Str}{cap:List (Nat×Str)}{X: Cx}
def iA{H:AA}:∀{ks:List AI} {vs:List V},Rs H vs (ks.map BJ)→vs=ks.map BV
 |[],vs,h=>Fp h
 |k::r,vs,h=>by
  let⟨v,ws,rfl,a,b⟩:=Fo h;rw[IZ a,iA b];rfl
section
def iV{d:Nat}(hu:X.A.units+(1+d)<cLine):Bq X (compareOp .Eq) (λx y Γ Z=>(x=.non∧(∃us,y=.tup us)∧Z (.bl false) Γ)∨(Kc d x y∧Z (.bl (CL x y)) Γ)):=
 ⟨_,jB.or (aaP (by lia)) (bc hu),λx y a b H Γ Q Z ra rb hr q0 vr=>by
  rcases q0 with⟨rfl,⟨us,rfl⟩,z⟩|⟨tw,z⟩
  ·let⟨p,vs,rfl,hp,rr⟩:=Ct rb
   show .inl ⟨p,vs,JY ra,rfl,hp,vr _ _ H Γ .refl hr D5 z⟩
  ·show .inr ⟨_,_,ra,rb,tw,vr _ _ H Γ .refl hr D5 z⟩⟩
def sj{K:W.Frag}(hK:X.K=K):Bq X (compareOp .NotIn) (λx y Γ Z=>∃u a xs,sc x=some u∧EO u=true∧y=.ref a∧fo K a xs∧xs.all EO=true∧Z (.bl (!E0 u xs)) Γ):=by
 subst hK;show
 ⟨_,X0,λx y v b H Γ Q Z ra rb hr q0 vr=>by
  let⟨u,a,xs,e1,f1,ey,hk,hf,z⟩:=q0;subst ey;rw[JS ra e1];show Ψ2 a xs ⟨Bv rb,.inr hk.sq,f1,hf,vr _ _ H Γ .refl hr D5 z⟩⟩
end
abbrev Hu(Ls:List (List AI))(ks:List AI):List (List AI):=if Ls.any (λp=>decide (p=ks))=true then Ls else ks::Ls
def FnC(L:List (Addr×List AI))(b:Addr)(ks:List AI):(FP L (b,ks)).map Prod.snd=Hu (L.map Prod.snd) ks:=by
 unfold FP Hu;rw[List.any_map];show(if(L.any λp=>decide (p.2=ks))=true then L else(b,ks)::L).map Prod.snd=if(L.any λp=>decide (p.2=ks))=true then _ else _
 split
 ·rfl
 ·rfl
def tF(L:List (Addr×List AI))(q:Addr×List AI):(FP L q).length≤L.length+1:=by unfold FP;split<;>simp
def adb{L:List (Addr×List AI)}{q p:Addr×List AI}(h:p∈FP L q):p∈L∨p=q:=by
 unfold FP at h;split at h
 ·show .inl h
 ·rcases aaf.mp h with h|h
  ·show .inr h
  ·show .inl h
section
variable {E: St→BS}
abbrev vc(gd:AU→Prop)(g:Dl)(te:Ad)(C:Nat→AU→Prop)(ts:List T)(τ:BZ)(Γ:AU):Prop:=∃P:List T→List (List AI)→BZ→AU→Prop,P ts [] τ Γ∧(∀Ls τ Γ,P [] Ls τ Γ→gd Γ∧C Ls.length Γ)∧
 ∀x r Ls τ Γ,P (x::r) Ls τ Γ→gd Γ∧g Cc x τ Γ λτ3 Γ3=>te Cc τ3 Γ3 λy Γ5=>∃ks:List AI,y=.tup (ks.map BJ)∧P r (Hu Ls ks) τ3 Γ5
abbrev T5(wi:I3)(g:Dl)(te:Ad)(own:List Str)(cap:List (Nat×Str)):Ad:=λY τ Γ Z=>wi Y τ Γ λts gd Γ1=>ts.length≤4∧
 vc gd g te (λn Γ2=>∀D,Γ2 D=none→Z (.ref D) (AF Γ2 D (.ext (Gd D n)))) ts (Gq own cap τ) Γ1
def zu{hf:List AI→Int}(σ:St)(H:AA)(Q:B1)(q:AL E (T5 wi g te own cap) σ H Q):bL hf (E8 E wi) (EN CV g) (AL CV te) own cap σ H Q:=by
 let⟨τ,Γ,Y,Z,rs,hr,t,vr,xr⟩:=q;show Ψ4 τ Γ Y _ ⟨rs,hr,t,λJ ts gd H1 Γ1 s1 h1 wk⟨hz,Pv,z1,p0,pc⟩=>?_,xr⟩;intro D hD;let nl:∀φ:Heap→Prop,(∀us:List V,HO.ext φ≠.tup us)∧∀b w,HO.ext φ≠.frz b w:=λ_=>⟨λ_ z=>(nomatch z),λ_ _ z=>(nomatch z)⟩;show⟨λi m σ' L H'=>∃τ' Γ',i≤ts.length∧m=ts.length-i∧L.length≤i∧RS H' σ' τ'∧HR H' Γ'∧H' D=some (.ext (setB hf D L))∧Γ' D=none∧hU H1 Γ1 H' Γ'∧(∀q∈L,H' q.1=some (.tup (q.2.map BV)))∧Pv (ts.drop i) (L.map Prod.snd) τ' Γ',
  ⟨ts.length,Gq own cap τ,Γ1,FI _,rfl,Av _,(Mw own (rs.mono s1.tq) cap).mono (DI (Cm hD)),h1.keep (Cm hD),Bz,h1.free hD,.keep (Cm hD),λq hq=>absurd hq (by simp),z1⟩,?_⟩
 intro i m σ2 L H2⟨τ2,Γ2,hi,rfl,hL,vF,h2,d2,gD,s2,tp2,w2⟩;show⟨d2,?_⟩;by_cases eQ:i<ts.length
 ·rw[drop_cons eQ]at w2
  let⟨g2,w2⟩:=pc _ _ _ _ _ w2;show .inr ⟨wk.go i H2 Γ2 s2.tq h2 g2 eQ,by lia,λL' σ' H'=>∃τ' Γ',L'.length≤i+1∧RS H' σ' τ'∧HR H' Γ'∧H' D=some (.ext (setB hf D L'))∧Γ' D=none∧hU H1 Γ1 H' Γ'∧(∀q∈L',H' q.1=some (.tup (q.2.map BV)))∧Pv (ts.drop (i+1)) (L'.map Prod.snd) τ' Γ',
   λL' σ' H' ξ=>Ξ21 ξ λτ' Γ' ξ=>Ξ08 ξ λb c d e f k k2 l=>⟨ts.length-(i+1),by lia,τ',Γ',eQ,rfl,b,c,d,e,f,k,k2,l⟩,λx H3 yl=>?_⟩
  let⟨s3,h3,⟨x3,e3,r3⟩⟩:=wk.rK i H2 Γ2 x H3 s2.tq h2 g2 eQ yl;rw[D0 eQ]at e3;cases e3;show Ψ5 _ τ2 Γ2 Cc _ ⟨r3,vF.mono s3.tq,h3,w2,λσ4 τ4 H4 Γ4 s4 h4 r4 z4=>?_,Eu⟩;show Ψ4 τ4 Γ4 Cc _ ⟨r4,h4,z4,λy y' H6 Γ6 s6 h6 r6 z6=>?_,Eu⟩;obtain⟨ks,rfl,z6⟩:=z6;let⟨b6,vs6,rfl,ZF,rr6⟩:=Ct r6;let ev:=iA rr6;subst ev;let tP:=(s3.trans s4).trans s6;let d6:H6 D=some (.ext (setB hf D L)):=tP.vV D _ d2 gD;let g6:Γ6 D=none:=tP.new D (by rw[d2];exactλz=>nomatch z) gD;let tq:Tq H6 (Ac H6 D (.ext (setB hf D (FP L (b6,ks))))):=Gv d6 (nl _);let Yv:∀q∈L,H6 q.1=some (.tup (q.2.map BV)):=λq hq=>tP.tq.1 _ _ (tp2 q hq);show Ψ2 b6 ks ⟨rfl,ZF,Yv,d6,τ4,Γ6,Ci (tF L _) (LU hL),(r4.mono s6.tq).mono tq,h6.hide g6 d6 (nl _),Bz,g6,?_,λq hq=>?_,by rw[FnC];show z6⟩
  ·let s7:=s2.trans tP
   show⟨s7.tq.trans tq,λa h z=>?_,s7.new,λa o h g=>?_⟩
   ·by_cases e:a=D
    ·subst e;show h hD
    ·rw[BC e]at z;show s7.xK a h z
   ·let e:a≠D:=λe=>by subst e;rw[hD]at h;cases h
    rw[BC e];show s7.vV a o h g
  ·rcases adb hq with hq|rfl
   ·show tq.1 _ _ (Yv q hq)
   ·show tq.1 _ _ ZF
 ·let e:i=ts.length:=by lia
  subst e;rw[JM]at w2;let w2:=p0 _ _ _ w2;rw[Ag]at w2;show .inl ⟨wk.stop H2 Γ2 s2.tq h2 w2.1,by lia,?_⟩;let sO:=s1.trans s2;let tq:Tq H2 (Ac H2 D (.ext (Gd D L.length))):=Gv d2 (nl _);let ne:∀{a},H a≠none→a≠D:=λh e=>by subst e;show s1.xK _ h hD
  show vr (.ref D) (.ref D) (Ac H2 D (.ext (Gd D L.length))) (AF Γ2 D (.ext (Gd D L.length))) ⟨sO.tq.trans tq,λa h=>?_,λa h g=>?_,λa o h g=>?_⟩ (λa o g=>?_) F2 (w2.2 D gD)
  ·rw[BC (ne h)];show sO.xK a h
  ·rw[Ce (ne h)];show sO.new a h g
  ·rw[BC (ne (by rw[h];exactλz=>nomatch z))];show sO.vV a o h g
  ·by_cases e:a=D
   ·subst e;rw[BN]at g;cases g;show Bz
   ·rw[Ce e]at g;show(h2.hide gD d2 (nl _)) a o g
def nmB{scope:Scope}{cl:List (Str×Addr)}{tg iter elt:Expr}{pos:Pos}(hu:X.A.units+1<cLine)(c:dB X scope cl own cap)(hc:X.calm=true)(hi:PI X tg iter (E8 E wi))
  (hg:∀C s H fp,PG (Ba X (own++cap.map (·.2)) scope cl C s H fp λ_ _=>False) tg (EN CV g))
  (he:∀C s H fp,PE (Ba X (own++cap.map (·.2)) scope cl C s H fp λ_ _=>False) elt (AL CV te)) (hs:∀x,foldedSetIterable iter X.env x=pure x:=by intro _;rfl) :
  PE X (.SetComp elt [⟨tg,iter,[],0⟩] scope pos) (AL E (T5 wi g te own cap)):=Fj (aaT hu c hc hi hg he hs) zu
def rm:EX X (.builtin "len") (λxs Γ Z=>∃(p:Addr) (n:Nat),xs=[.ref p]∧n≤4∧Γ p=some (.ext (Gd p n))∧Z (.int n) Γ):=
 ⟨_,abl,λvs xs H Γ Q Z r hr q0 vr=>by
  let⟨p,n,e,hn,g,z⟩:=q0;subst e;let⟨v,rfl,ra⟩:=qC r;show Ψ2 p n ⟨by rw[Bv ra],hn,hr p _ g,vr _ _ H Γ .refl hr DO z⟩⟩
end
end L3
namespace L3
open PySem PySem.Spec L2
open PyProof.Rows hiding St
variable {a b e:Expr}{ta tb:Ad}{r3:Ef}{i k j:Nat}{x:Str}{ps:List Str}{sp:B4}{p:Pos}{es:List Expr}{t:Co}
section
variable {X: Cx}{E: St→BS}{pos: Pos}
def AK(ha:PE X a (AL E ta))(hb:PE X b (AL E tb))(hs:M6 b:=by exactλ_ _=>rfl):PE X (.Subscript a b pos) (AL E (Hd Lg ta tb)):=acx ha hb hs
def Xs(ha:PE X a (AL E ta))(hb:PE X b (AL E tb))(hs:M6 b:=by exactλ_ _=>rfl):PE X (.Subscript a b pos) (AL E (Hd aw ta tb)):=w8 ha hb hs
def CR{op:CmpOp}(ho:Bq X (compareOp op) r3)(ha:PE X a (AL E ta))(hb:PE X b (AL E tb))(hm:behindInMarks op b=false:=by show X3 _):PE X (.Compare a [op] [b] pos) (AL E (Hd r3 ta tb)):=Iu ho ha hb hm
def Aq{op:CmpOp}(ho:Bq X (compareOp op) r3)(ha:PE X a (AL E ta))(hb:PE X b (AL E tb))(hm:behindInMarks op b=false:=by show X3 _):PT X (.Compare a [op] [b] pos) (Cp E (Kw (Hd r3 ta tb))):=Jq ho ha hb hm
def Ar{te:Ad}{RI:Pos}(hN:X.N.Nodup)(he:PE X e (AL E te))(hi:X.N[i]?=some x:=by rfl)(hx:HD X.env.scope x:=by first|show .inl rfl|show .inr rfl)(hs:swapsWith e (some (.Name x RI)) pos.line X.env=pure false:=by rfl)(hf:Fk X x:=by first|show .inl rfl|show .inr rfl|assumption):PS X (.Assign [.Name x RI] e pos) (Cn E (Nz i te)):=zN hN hi hx he hs hf
def B5(hN:X.N.Nodup)(hi:X.N[i]?=some x:=by rfl)(hx:HD X.env.scope x:=by first|show .inl rfl|show .inr rfl)(hf:Fk X x:=by first|show .inl rfl|show .inr rfl|assumption):PG X (.Name x pos) (EN E (hName i)):=BX hN hi hx hf
def GQ(hN:X.N=[x]:=by rfl)(hx:HD X.env.scope x:=by first|show .inl rfl|show .inr rfl)(hf:Fk X x:=by first|show .inl rfl|show .inr rfl|assumption):PG X (.Name x pos) (EN E (hName 0)):=BX (by rw[hN];simp) (by rw[hN];rfl) hx hf
def Aj(c:Ab X.prog X.w X.K X.mg X.base x k ps sp)(hr:eh j X.A)(ha:PA X (e::es) (Ds E t))(hk:k≤j:=by lia)(hg:CF X x:=by rfl)(sD:(x ==("__debug__" : Str))=false:=by decide)(he:starEach (e::es) X.env=(false,eval e X.env)::starEach es X.env:=by rfl)(jw:(backTo pos (starEach es X.env)).any (·.1)=false:=by rfl):PE X (.Call (.Name x p) (e::es) [] pos) (AL E (RO sp t)):=mI c hr hk hg ha sD he jw
def VF(c:MX X.prog X.w X.K X.mg X.base x k ps sp)(hr:eh j X.A)(hx:RD X E)(ha:PA X (e::es) (Ds E t))(hk:k≤j:=by lia)(hg:CF X x:=by rfl)(sD:(x ==("__debug__" : Str))=false:=by decide)(he:starEach (e::es) X.env=(false,eval e X.env)::starEach es X.env:=by rfl)(jw:(backTo pos (starEach es X.env)).any (·.1)=false:=by rfl):PE X (.Call (.Name x p) (e::es) [] pos) (AL E (Ra sp t)):=uP c hr hk hg hx ha sD he jw
def Ec{scope:Scope}{own:List Str}(hk:scope.kind=.function:=by rfl)(hn:∀y∈scope.names,y.2≠.free∧y.2≠.cell:=by done)(hl:∀y∈scope.names,y.2=.local→scope.names.lookup y.1=some .local:=by done):dB X scope [] own []:=ac4 hk hn hl
end
end L3
namespace Tg
open PySem L2
variable {x y:Str}{lo hi:Option Int}
inductive Kd where
 |num (w:Int)
 |text
 |row (k:Kd)
 |rec_ (fs:List (Str×Kd))
 |pick (fs:List (Str×Kd))
abbrev ad:=List (Str×Kd)
mutual
def Kd.size:Kd→Int
 |.num w=>w
 |.text=>1
 |.row _=>1
 |.rec_ fs=>(T9 fs).sum
 |.pick fs=>1+F7 (T9 fs)
def T9:List (Str×Kd)→List Int
 |[]=>[]
 |(_,k)::r=>k.size::T9 r
end
mutual
def Kd.depth:Kd→Nat
 |.num _=>1
 |.text=>1
 |.row k=>k.depth+1
 |.rec_ fs=>E9 fs+1
 |.pick fs=>E9 fs+1
def E9:List (Str×Kd)→Nat
 |[]=>0
 |(_,k)::r=>max k.depth (E9 r)
end
def JH:∀{fs:List (Str×Kd)} {p:Str×Kd},p∈fs→p.2.depth≤E9 fs
 |(nm,k)::r,p,h=>by
  unfold E9;rcases aaf.mp h with rfl|h
  ·show Nat.le_max_left _ _
  ·show Ci (JH h) (Nat.le_max_right _ _)
mutual
/-- a kind as Bx document tells it: widths,fields one to six,no name twice,names of one to eight small UG -/
def Kd.good:Kd→Prop
 |.num w=>1≤w∧w≤4
 |.text=>True
 |.row k=>k.good
 |.rec_ fs=>D4 fs∧1≤fs.length∧fs.length≤6∧(fs.map (·.1)).Nodup
 |.pick fs=>D4 fs∧1≤fs.length∧fs.length≤6∧(fs.map (·.1)).Nodup
def D4:List (Str×Kd)→Prop
 |[]=>True
 |(nm,k)::r=>(1≤nm.length∧nm.length≤8∧∀c∈nm.cps.toList,97≤c∧c≤122)∧k.good∧D4 r
end
abbrev Lets(z:Str):Prop:=∀c∈z.cps.toList,97≤c∧c≤122
abbrev Nm(z:Str):Prop:=1≤z.length∧z.length≤8∧Lets z
def G3(z:Str):z.cps.toList.length=z.length:=by simp[Str.length]
def Zm(x y:Str):(x++y).cps.toList=x.cps.toList++y.cps.toList:=by rw[Str.cps_append,Array.toList_append]
def Fi(x y:Str):(x++y).length=x.length+y.length:=by rw[←G3,Zm,B3,G3,G3]
def Lets.app(a:Lets x)(b:Lets y):Lets (x++y):=λc h=>by
 rw[Zm]at h;rcases aaK.mp h with h|h
 ·show a c h
 ·show b c h
def Lets.cut(a:Lets x)(e:y.cps.toList=Bb x.cps.toList lo hi):Lets y:=λc h=>by
 rw[e]at h;show a c (Lh (MU h))
def Ic(e:y.cps.toList=Bb x.cps.toList lo hi):y.length≤x.length:=by
 rw[←G3,←G3,e];show LJ _ _ _
def sN{n:Int}(h:0≤n)(e:y.cps.toList=Bb x.cps.toList none (some n)):y.length=min n.toNat x.length:=by
 rw[←G3,e];unfold Bb;let e1:HT.dz x.cps.toList.length x.cps.toList.length (some n)=min n.toNat x.cps.toList.length:=by
  show(if n<0 then _ else min n.toNat _)=_
  rw[AV (by lia)]
 rw[e1,HT.oZ,V7,EH,G3];lia
def dc(h:(x.cps.toList.all λc=>decide (97≤c)&&decide (c≤122))=true):Lets x:=λc hc=>by
 let q:=aaW.mp h c hc;simpa using q
def Lw(h:(decide (1≤x.length)&&decide (x.length≤8)&&x.cps.toList.all λc=>decide (97≤c)&&decide (c≤122))=true):Nm x:=by
 simp only[Cq,IX]at h;show⟨h.1.1,h.1.2,dc h.2⟩
@[reducible]def Ed:Str := "abcdefghijklmnopqrstuvwxyz"
def Lj{α:Type}{xs:List α}{r:Int}(h0:0≤r)(h1:r<xs.length):∃x,C0 xs r=some x∧x∈xs:=by
 let hk:r.toNat<xs.length:=by lia
 let e:r=((r.toNat:Nat):Int):=by lia
 let q:C0 xs ((r.toNat:Nat):Int)=some xs[r.toNat]:=Fv (by rw[D0 hk]<;>rfl)
 rw[←e]at q;show⟨_,q,GJ hk⟩
def sub_len{α:Type}[BEq α][LawfulBEq α]:∀{l m:List α},l.Nodup→(∀x∈l,x∈m)→l.length≤m.length
 |[],m,_,_=>FI _
 |x::r,m,nd,h=>by
  let hx:=h x Il;let e:=List.length_erase_of_mem hx;let Y2:=abY.mp nd;let ih:=sub_len (l:=r) (m:=m.erase x) Y2.2 λy hy=>by
   show(List.mem_erase_of_ne ?_).mpr (h y (Dm _ hy));rintro rfl;show Y2.1 hy
  have:0<m.length:=List.length_pos_of_mem hx;rw[D7];lia
def Ju{x:Str}:∀{ss:List Str},E0 (.str x) (ss.map V.str)=decide (x∈ss)
 |[]=>by simp[E0]
 |y::r=>by
  let ih:=Ju (x:=x) (ss:=r);unfold E0 at ih ⊢;rw[CT,Jg,ih];show(y==x||decide (x∈r))=decide (x∈y::r)
  rw[GO];simp only[Nu,abZ,IX,aaf];constructor
  ·rintro(h|h)
   ·show .inl h.symm
   ·show .inr h
  ·rintro(h|h)
   ·show .inl h.symm
   ·show .inr h
end Tg
namespace Tg
open PySem L2 L3
variable {fs:ad}{k:Kd}{x:T}
mutual
def Kd.tr:Kd→T
 |.num w=>.tup [.str "num",.int w]
 |.text=>.tup [.str "text"]
 |.row k=>.tup [.str "row",k.tr]
 |.rec_ fs=>.tup [.str "rec",.tup (Br fs)]
 |.pick fs=>.tup [.str "pick",.tup (Br fs)]
def Br:List (Str×Kd)→List T
 |[]=>[]
 |(n,k)::r=>.tup [.str n,k.tr]::Br r
end
def KW:∀fs:List (Str×Kd),Br fs=fs.map λp=>.tup [.str p.1,p.2.tr]
 |[]=>rfl
 |(n,k)::r=>by rw[Br,KW r];rfl
def FW(fs:ad):(Br fs).length=fs.length:=by rw[KW,Ag]
def O0{i:Nat}{n:Str}(h:fs[i]?=some (n,k)):(Br fs)[i]?=some (.tup [.str n,k.tr]):=by rw[KW,He,h];rfl
def ac7:∀(fs gs:ad),Br (fs++gs)=Br fs++Br gs:=λfs gs=>by rw[KW,KW,KW,Au]
abbrev findF:List (Str×Kd)→Str→Option (Nat×Kd)
 |[],_=>none
 |(m,k)::r,n=>if m=n then some (0,k)else(findF r n).map λp=>(p.1+1,p.2)
abbrev FR(fs:List (Str×Kd)):T→Option (Nat×Kd)
 |.str n=>findF fs n
 |_=>none
abbrev stepK:Kd→T→Option Kd
 |.row k,.int i=>if 0≤i∧i<60 then some k else none
 |.rec_ fs,x=>(FR fs x).map (·.2)
 |.pick fs,x=>(FR fs x).map (·.2)
 |_,_=>none
abbrev Di:Kd→List T→Option Kd
 |k,[]=>some k
 |k,p::r=>match stepK k p with|some k'=>Di k' r|none=>none
inductive Sx:T→Prop
 |int (i:Int):Sx (.int i)
 |str {z:Str} (l:z.length≤1000):Sx (.str z)
def ae:∀{fs:List (Str×Kd)} {n:Str} {j:Nat} {k:Kd},findF fs n=some (j,k)→fs[j]?=some (n,k)
 |[],_,_,_,h=>by cases h
 |(m,q)::r,n,j,k,h=>by
  unfold findF at h;by_cases e:m=n
  ·rw[Aa e]at h;cases h;rw[e];rfl
  ·rw[AV e]at h
   cases f:findF r n with
   |none=>rw[f]at h;cases h
   |some p=>
    rw[f]at h;cases h;show ae (j:=p.1) (k:=p.2) f
def MW:∀{fs:List (Str×Kd)} {p:Str×Kd},D4 fs→p∈fs→p.2.good
 |(nm,k)::r,p,g,h=>by
  unfold D4 at g;rcases aaf.mp h with rfl|h
  ·show g.2.1
  ·show MW g.2.2 h
def fT:∀{fs:List (Str×Kd)} {p:Str×Kd},D4 fs→p∈fs→Nm p.1
 |(nm,k)::r,p,g,h=>by
  unfold D4 at g;rcases aaf.mp h with rfl|h
  ·show g.1
  ·show fT g.2.2 h
def NB{j:Nat}(h:FR fs x=some (j,k)):∃n,x=.str n∧fs[j]?=some (n,k):=by
 cases x with
 |str n=>show⟨n,rfl,ae h⟩
 |_=>cases h
def rS{k':Kd}(g:k.good)(h:stepK k x=some k'):k'.good∧k'.depth<k.depth:=by
 cases k with
 |num w=>cases x<;>cases h
 |text=>cases x<;>cases h
 |row j=>
  unfold Kd.good at g;rw[Kd.depth];cases x with
  |int i=>
   let h:(if 0≤i∧i<60 then some j else none)=some k':=h;split at h
   ·cases h;show⟨g,by lia⟩
   ·cases h
  |_=>cases h
 |rec_ fs=>
  unfold Kd.good at g;rw[Kd.depth];let h:(FR fs x).map (·.2)=some k':=h;cases e:FR fs x with
  |none=>rw[e]at h;cases h
  |some p=>
   rw[e]at h;cases h;let⟨n,_,m⟩:=NB (j:=p.1) (k:=p.2) e;let m:=IT m;show⟨MW g.1 m,Nat.lt_succ_of_le (JH m)⟩
 |pick fs=>
  unfold Kd.good at g;rw[Kd.depth];let h:(FR fs x).map (·.2)=some k':=h;cases e:FR fs x with
  |none=>rw[e]at h;cases h
  |some p=>
   rw[e]at h;cases h;let⟨n,_,m⟩:=NB (j:=p.1) (k:=p.2) e;let m:=IT m;show⟨MW g.1 m,Nat.lt_succ_of_le (JH m)⟩
abbrev Ck:T→V
 |.int i=>.int i
 |.str z=>.str z
 |_=>.non
abbrev acF:T→Bool
 |.tup _=>true
 |_=>false
mutual
def dT:T→Nat
 |.tup us=>1+(us.filter acF).length+WK us
 |_=>0
def WK:List T→Nat
 |[]=>0
 |t::r=>max (dT t) (WK r)
end
abbrev xE(n:Nat)(v:Int):Int:=if 2*v ≥ 65536^n then v-65536^n else v
end Tg
namespace Tg
open PySem L2 L3
variable {lo i sd:Int}{n c lv d m ep:Nat}{x t b v y:T}{r ts:List T}{Γ G Γ' G0:AU}{p a f1 f2 b0 b1 b2 b3:Addr}{o:O}{z:Str}{f C PR: Addr}{fs ks:ad}{H:AA}{ss:List Str}{k kk:Kd}{s:Sm}{P: Program}{w: World}{bd:T→Bool}{xD A8:FuncData}{ds:List Dr}{hs:List Sh}{es:List DictEntry}{Ls:List (List AI)}{Ps:List (Str×Pr)}{mg: Str→Option Value}{am: Heap}{fd: FuncData}{v1 v2: Value}{re: Option Kd}
abbrev B8(i:Nat):Stmt:=PySem.Challenge.pw_tonguegate_k63_worths_in_programs.main.body.getD i (.Pass ⟨0,0,0,0⟩)
abbrev mem(i j:Nat):Stmt:=match B8 i with
 |.ClassDef _ _ _ b _ _ _ _ _ _ _=>b.getD j (.Pass ⟨0,0,0,0⟩)
 |_=>.Pass ⟨0,0,0,0⟩
local macro_rules | `(tactic| left)=>`(tactic| repeat (first
 |(with_reducible first|refine adw ?_|refine yN ?_|refine vK ?_|refine ue ?_|refine zU ?_)|((with_reducible apply acD);exact rfl)|(with_reducible first|refine aaE ?_|refine nF ?_|refine Vs ?_|refine acj ?_|refine tg7 ?_|refine YA ?_|refine tf ?_|refine tQ ?_|refine nh ?_|refine qP ?_|refine lj ?_|refine ab2 ?_|refine kb ?_|refine wg ?_|refine z9 ?_|refine aas ?_|refine zI ?_|refine adq ?_|refine wW ?_|refine yV ?_|refine Yz ?_|refine rq ?_|refine yb ?_|refine tB ?_|refine yG ?_|refine adx ?_|refine qA ?_|refine yK ?_|refine aaM ?_|refine acU ?_|refine tZ ?_|refine nX ?_|refine aag ?_|refine xQ ?_)|((with_reducible refine adB ?_ ?_);exact rfl)|(with_reducible first|refine kf ?_|refine aa5 ?_|refine t_hs ?_|refine eBM ?_|refine qy ?_|refine lD ?_|refine acb ?_|refine vP ?_|refine aaC ?_|refine vo ?_|refine uw ?_|refine pC ?_|refine sW ?_|refine aaX ?_|refine adg ?_|refine oP ?_|refine abz ?_|refine lP ?_|refine v9 ?_|refine nq ?_|refine abG ?_|refine cIf ?_|refine qI ?_)|((with_reducible apply B6);(first|assumption|exact BN);(first|exact Ui|exact Rr))|((with_reducible apply VC);(first|assumption|exact BN);exact rfl)
 |with_reducible refine And.intro (rfl:T.non=T.non) ?_|(with_reducible first|refine Yx ?_|refine t_lz ?_|refine t_e0 ?_|refine eOr ?_)|((with_reducible apply abk);exact rfl;exact rfl;exact rfl)|(with_reducible first|refine aby ?_|refine tG ?_|refine mm ?_|refine yL ?_|refine VH ?_|refine Vy ?_|refine Vz ?_|refine om ?_|refine acA ?_|refine qB ?_)|((with_reducible apply abJ);(first|assumption|exact BN);exact rfl)|with_reducible refine aaH ?_|((with_reducible apply eqT);(first|assumption|exact BN);exact rfl)|with_reducible refine Yy ?_|((with_reducible apply Vq);(first|assumption|exact BN);exact rfl)|((with_reducible apply Vr);(first|assumption|exact BN);exact rfl)
 |with_reducible refine yI ?_|((with_reducible apply nc);(first|assumption|exact BN);exact rfl)|(with_reducible first|refine ack ?_|refine t_fs ?_|refine t_jc ?_|refine t_fm ?_)|((with_reducible refine vB ?_ ?_);exact rfl)
 |((with_reducible refine Es ?_ ?_);(first|exact⟨by decide,by decide,by decide⟩|exact⟨by decide,by decide⟩|exact Or.inl ⟨by decide,by decide⟩|exact Or.inr ⟨by decide,by decide⟩|((show(0:Int)<_);decide)))
 |((with_reducible refine Jr ?_ ?_);(first|exact rfl|done))|((with_reducible refine Mf ?_ ?_);(first|exact rfl|done))))
def Jb(h:x::r=EU lo n):∃m,n=m+1∧x=.int lo∧r=EU (lo+1) m:=by
 cases n with
 |zero=>cases h
 |succ m=>cases h;show⟨m,rfl,rfl,rfl⟩
def KR(h:[]=EU lo n):n=0:=by
 cases n with
 |zero=>rfl
 |succ m=>cases h
def Am(e:AF Γ p o=G):G p=some o:=(congrFun e p).symm.trans BN
def Ao(e:AF Γ p o=G)(hp:Γ p=none):Le Γ G:=e ▸ .new hp
local macro_rules|`(tactic|clear $a:ident $b:ident $c:ident $d:ident $e:ident $f:ident)=>`(tactic|(intro $a:ident $b:ident;generalize $c:ident:AF _ $a (O.lst _)=$d:ident;have $e:ident:=Am $c;have $f:ident:=Ao $c $b))
local macro_rules|`(tactic|revert $a:ident $b:ident $c:ident $d:ident $e:ident $f:ident)=>`(tactic|(generalize $c:ident:AF _ $a (O.lst _)=$d:ident;have $e:ident:=Am $c;have $f:ident:=Ao $c $b))
local macro_rules|`(tactic|exists $c:ident)=>`(tactic|(left;refine AH (λ$c=>?_) (λ$c=>?_)))
def EV{ns:List Int}{j:Nat}(h:j<ns.length):∃n,n∈ns∧ns[j]?=some n∧C0 (ns.map T.int) (j:Int)=some (.int n):=⟨ns[j],GJ h,by simp[h],Fv (by simp[h])⟩
abbrev Fx(c:Int):Nat→Int
 |0=>c-10^18
 |k+1=>if 0<Fx c k then Fx c k/1000003 else Fx c k
abbrev NJ(c:Int)(k:Nat):Int:=(c%1000000007+1)*(2*k+3)%2147483647
abbrev Pf(c:Int)(k:Nat):Int:=(NJ c k^5+((k:Int)+1)^3)%2147483629
abbrev Ul(c:Int)(k:Nat):Int:=(Pf c k+c%999983)^3%2147483587/16
abbrev GC(c:Int)(k:Nat):Int:=if 0<Fx c k then Fx c k%1000003 else Ul c k
def aad(c:Int)(k:Nat):0≤NJ c k∧NJ c k<2147483647:=⟨DN _ (by decide),Dj _ (by decide)⟩
def abL(c:Int)(k:Nat):0≤Pf c k∧Pf c k<2147483629:=⟨DN _ (by decide),Dj _ (by decide)⟩
def tW(c:Int)(k:Nat):0≤GC c k:=by
 unfold GC;split
 ·show DN _ (by decide)
 ·unfold Ul
  show Int.ediv_nonneg (DN _ (by decide)) (by decide)
abbrev F1(c:Int)(n:Nat):List Int:=(List.range n).map (GC c)
def Tp(c:Int)(n:Nat):(F1 c n).length=n:=by unfold F1;rw[Ag,OY]
def adn{c:Int}:∀x∈F1 c n,0≤x:=λx h=>by
 let⟨k,_,rfl⟩:=aap.mp h;show tW c k
def abe(c:Int)(n:Nat):F1 c (n+1)=F1 c n++[GC c n]:=by unfold F1;rw[VY,Au];rfl
section
variable {K: W.Frag}
@[reducible]def Rt:Stmt:=B8 71
def cn:B0 ["cell","count","row","rest","base","more","k","stir"] ["cell","count"] (An Rt):=nofun
abbrev fA:B4:=λts Γ Z _=>∃(c:Int) (n:Nat),ts=[.int c,.int n]∧n≤1000∧∀p,Γ p=none→Z (.ref p) (AF Γ p (.lst ((F1 c n).map T.int)))
def xt(F:cH K "_law_draws" "_law_draws" Rt f fd)(bJ:mg "range" = none):bq P w K mg am Ax 1 f fd ["cell","count"] (Aw fA):=by
 show B7 F cn (λts Γ Z Y h=>?_) (λcy A outer s H E ts Γ Z Y hr h=>?_)
 ·let⟨c,n,rfl,_⟩:=h
  rfl
 let⟨c,n,rfl,n1,q⟩:=h;show⟨_,(A5 (Ar (i:=2) cn.nd (CG A9))
  (A5 (Ar (i:=3) cn.nd (AG GI (A3 0) (AG JX A7 A7)))
  (A5 (Ar (i:=4) cn.nd (AG C3 (AG Bc (A3 0) A7) A7))
  (A5 (Ar (i:=5) cn.nd (AG Bc (A3 0) A7))
  (A5 (GS Gh rfl (Js rfl bJ (A4 (A3 1) A9)) (B5 (i:=6) cn.nd) (A5 (Ar (i:=7) cn.nd (AG Bc (AG HF (A3 4) (AG C3 (AG HF A7 (A3 6)) A7)) A7))
  (A5 (Ar (i:=7) cn.nd (AG Bc (AG C3 (AG JX (A3 7) A7) (AG JX (AG C3 (A3 6) A7) A7)) A7))
  (A5 (Ar (i:=7) cn.nd (AG FC (AG Bc (AG JX (AG C3 (A3 7) (A3 5)) A7) A7) A7))
  (A5 (E5 (Ah (Aq Ii (A3 3) A7) (A5 (Ar (i:=7) cn.nd (AG Bc (A3 3) A7))
  (A5 (Ar (i:=3) cn.nd (AG FC (A3 3) A7))
  AB)) AB))
  (A5 (IJ (F0 G5 Ia IS Hz (A3 2) (A4 (A3 7) A9)))
  AB))))))
  (A5 (AJ (A3 2))
  AB)))))),?_⟩
 simp only[Az];left;intro p hp;left;show⟨n,rfl,by lia,by lia,?_⟩;show⟨λv6 τ Γ'=>∃(i m:Nat) (o6 o7:Option T),v6=EU i m∧i+m=n∧τ=[some (.int c),some (.int n),some (.ref p),some (.int (Fx c i)),some (.int (c%1000000007+1)),some (.int (c%999983)),o6,o7]∧Γ'=AF Γ p (.lst ((F1 c i).map T.int)),Ψ4 0 n none none ⟨rfl,by lia,rfl,rfl⟩,?_,?_⟩
 ·intro τ Γ'⟨i,m,o6,o7,er,im,rfl,rfl⟩
  let hm:m=0:=by
   cases m with
   |zero=>rfl
   |succ m=>cases er
  subst hm;show⟨trivial,?_⟩;left;have:i=n:=im;subst this;show AD .refl (q p hp)
 ·intro x r τ Γ'⟨i,m,o6,o7,er,im,rfl,rfl⟩
  let⟨m',rfl,rfl,rfl⟩:=Jb er;let ab:=aad c i;let bb:=abL c i;let mb:0≤c%999983∧c%999983<999983:=⟨DN _ (by decide),Dj _ (by decide)⟩;left;show Es (.inr ⟨by lia,by lia⟩) ?_;left;show Es ⟨by decide,by decide,?_⟩ ?_
  ·show(NJ c i).natAbs<2^64
   lia
  left;show Es ⟨by decide,by decide,by lia⟩ ?_;left;show Es ⟨by decide,by decide,?_⟩ ?_
  ·show(Pf c i+c%999983).natAbs<2^64
   lia
  left;show⟨λτ Γ'=>τ=[some (.int c),some (.int n),some (.ref p),some (.int (Fx c (i+1))),some (.int (c%1000000007+1)),some (.int (c%999983)),some (.int i),some (.int (GC c i))]∧Γ'=AF Γ p (.lst ((F1 c i).map T.int)),?_,?_⟩
  ·left
   show AH (λcc=>?_) (λcc=>?_)
   ·let cc:=Bd cc
    left;let e1:Fx c (i+1)=Fx c i/1000003:=by rw[Fx,Aa cc]
    let e2:GC c i=Fx c i%1000003:=by rw[GC,Aa cc]
    rw[e1,e2];show⟨rfl,rfl⟩
   ·let cc:=DC cc
    left;let e1:Fx c (i+1)=Fx c i:=by rw[Fx,AV cc]
    let e2:GC c i=Ul c i:=by rw[GC,AV cc]
    rw[e1,e2];show⟨rfl,rfl⟩
  intro τ Γ'⟨rfl,rfl⟩;left;show G9 BN ?_;left;show Ψ3 p ((F1 c i).map T.int) _ ⟨rfl,rfl,BN,BU (by rw[Ag,Tp];lia),?_⟩;left;show Ψ4 (i+1) m' _ _ ⟨rfl,by lia,rfl,?_⟩;rw[Oh,abe,Au];rfl
end
inductive Pt(Γ:AU):T→Prop
 |non:Pt Γ .non
 |bl (b:Bool):Pt Γ (.bl b)
 |int (i:Int):Pt Γ (.int i)
 |str {z:Str} (l:z.length≤100000):Pt Γ (.str z)
 |tup {ts:List T} (l:ts.length≤100000) (h:∀t∈ts,Pt Γ t):Pt Γ (.tup ts)
 |lst {a:Addr} {ts:List T} (g:Γ a=some (.lst ts)):Pt Γ (.ref a)
 |dct {a:Addr} {aF:List (AI×T)} (g:Γ a=some (.dK aF)):Pt Γ (.ref a)
def Pt.mono(l:Le Γ Γ')(h:Pt Γ t):Pt Γ' t:=by
 induction h with
 |non=>show .non
 |bl b=>show .bl b
 |int i=>show .int i
 |str l=>show .str l
 |tup l _ ih=>show .tup l ih
 |lst g=>show .lst (l _ _ g)
 |dct g=>show .dct (l _ _ g)
def Pt.items(h:Pt Γ (.tup ts)):ts.length≤100000∧∀t∈ts,Pt Γ t:=by
 cases h with
 |tup l h=>show⟨l,h⟩
def Pt.txt(h:Pt Γ (.str z)):z.length≤100000:=by
 cases h with
 |str l=>show l
abbrev isTup:T→Bool|.tup _=>true|_=>false
abbrev isStr:T→Bool|.str _=>true|_=>false
abbrev isInt:T→Bool|.int _=>true|.bl _=>true|_=>false
abbrev si:T→Bool|.bl _=>true|_=>false
abbrev QN:T→Bool|.int _=>true|_=>false
def Dt(h:isTup t=true):∃ts,t=.tup ts:=by
 cases t with
 |tup ts=>show⟨ts,rfl⟩
 |_=>cases h
def HL(h:isStr t=true):∃z,t=.str z:=by
 cases t with
 |str z=>show⟨z,rfl⟩
 |_=>cases h
def NQ(h:QN t=true):∃i,t=.int i:=by
 cases t with
 |int i=>show⟨i,rfl⟩
 |_=>cases h
section
variable {K: W.Frag}{Γ: AU}{t: T}
def Nv(g:Γ a=some (.lst ts)):Et Γ (.ref a)=some "list" := by
 show(match Γ a with|some (.lst _)=>some "list" |some (.dK _)=>some "dict" |_=>none)=_
 rw[g]
def JJ{ts:List (AI×T)}(g:Γ a=some (.dK ts)):Et Γ (.ref a)=some "dict" := by
 show(match Γ a with|some (.lst _)=>some "list" |some (.dK _)=>some "dict" |_=>none)=_
 rw[g]
def DM(h:Pt Γ t):∃n,Et Γ t=some n∧W.kitOne K (.type n) (.type "tuple")=some (isTup t):=by
 cases h with
 |lst g=>show⟨_,Nv g,rfl⟩
 |dct g=>show⟨_,JJ g,rfl⟩
 |_=>show⟨_,rfl,rfl⟩
def in_str(h:Pt Γ t):∃n,Et Γ t=some n∧W.kitOne K (.type n) (.type "str")=some (isStr t):=by
 cases h with
 |lst g=>show⟨_,Nv g,rfl⟩
 |dct g=>show⟨_,JJ g,rfl⟩
 |_=>show⟨_,rfl,rfl⟩
def jM(h:Pt Γ t):∃n,Et Γ t=some n∧W.kitOne K (.type n) (.type "int")=some (isInt t):=by
 cases h with
 |lst g=>show⟨_,Nv g,rfl⟩
 |dct g=>show⟨_,JJ g,rfl⟩
 |_=>show⟨_,rfl,rfl⟩
def Ng(h:Pt Γ t):∃n,Et Γ t=some n∧W.kitOne K (.type n) (.type "bool")=some (si t):=by
 cases h with
 |lst g=>show⟨_,Nv g,rfl⟩
 |dct g=>show⟨_,JJ g,rfl⟩
 |_=>show⟨_,rfl,rfl⟩
def BP{Ty:String}{B:T→Bool}{Q:Bool→Prop}(h:∃n,Et Γ t=some n∧W.kitOne K (.type n) (.type Ty)=some (B t))(q:Q (B t)):∃n b,Et Γ t=some n∧W.kitOne K (.type n) (.type Ty)=some b∧Q b:=by
 let⟨n,a,b⟩:=h;show Ψ2 n _ ⟨a,b,q⟩
end
abbrev Ht(c:Nat):Bool:=!(Builtin.Str.occurrences Ed ⟨#[c]⟩ 0 Ed.length 1).isEmpty
def vH:∀c:Nat,c<128→Ht c=(decide (97≤c)&&decide (c≤122)):=by done
abbrev As:T→Bool
 |.str z=>decide (1≤z.length)&&decide (z.length≤8)&&z.cps.toList.all Ht
 |_=>false
def JN(z:Str):As (.str z)=(decide (1≤z.length)&&decide (z.length≤8)&&z.cps.toList.all Ht):=rfl
def TP(h:As t=true):∃z,t=.str z:=by
 cases t with
 |str z=>show⟨z,rfl⟩
 |_=>cases h
abbrev ES(f:T→Bool):T→Bool
 |.tup [a,b]=>As a&&f b
 |_=>false
abbrev Eg:T→Str
 |.tup (.str z::_)=>z
 |_ => ""
abbrev Iv(f:T→Bool):T→Bool
 |.tup ts=>decide (1≤ts.length)&&decide (ts.length≤6)&&ts.all (ES f)&&decide (ts.map Eg).Nodup
 |_=>false
abbrev Nn:T→Bool
 |.int i=>decide (1≤i)&&decide (i≤4)
 |_=>false
abbrev B2:Nat→T→Bool
 |d+1,.tup [.str h]=>decide (h = "text")
 |d+1,.tup [.str h,x]=>if h = "num" then Nn x else if h = "row" then B2 d x else(decide (h = "rec")||decide (h = "pick"))&&Iv (B2 d) x
 |_,_=>false
def j0{f:T→Bool}(h:ES f t=true):∃z b,t=.tup [.str z,b]∧As (.str z)=true∧f b=true:=by
 unfold ES at h;split at h
 ·rename_i a b
  rw[Cq]at h;let⟨z,rfl⟩:=TP h.1;show Ψ2 z b ⟨rfl,h.1,h.2⟩
 ·cases h
section
variable {K: W.Frag}
@[reducible]def Qr:Stmt:=B8 10
def acO:B0 ["thing"] ["thing"] (An Qr):=nofun
abbrev Fm:B4:=λts Γ Z _=>∃t:T,ts=[t]∧Pt Γ t∧Z (.bl (QN t)) Γ
def t_c(F:cH K "is_whole" "is_whole" Qr f fd)(ai:mg "isinstance" = none)(j4:mg "int" = none)(kc:mg "bool" = none):bq P w K mg am Ax 1 f fd ["thing"] (Aw Fm):=by
 show B7 F acO (λts Γ Z Y h=>?_) (λcy A outer s H E ts Γ Z Y hr h=>?_)
 ·let⟨t,rfl,_⟩:=h
  rfl
 let⟨t,rfl,pt,q⟩:=h;show⟨_,(A5 (AJ (CC (C5 rfl ai rfl j4 Mi (A3 0)) (CM (gj (C5 rfl ai rfl kc RZ (A3 0))))))
  AB),?_⟩
 simp only[Az];left;show BP (jM pt) ?_;exists c
 ·left
  show BP (Ng pt) ?_;left;show AD .refl ?_;cases t with
  |int i=>show q
  |bl b=>show q
  |_=>cases c
 ·show AD .refl ?_
  cases t with
  |int i=>cases c
  |bl b=>cases c
  |_=>show q
@[reducible]def TY:Stmt:=B8 11
def abN:B0 ["thing"] ["thing"] (An TY):=nofun
abbrev Hq:B4:=λts Γ Z _=>∃t:T,ts=[t]∧Pt Γ t∧Z (.bl (As t)) Γ
def pT(F:cH K "is_name" "is_name" TY f fd)(jr:mg "LONGEST_NAME" = some v1)(ur:DU v1 (.int 8))(qJ:mg "LETTERS" = some v2)(DF:DU v2 (.str Ed))(ai:mg "isinstance" = none)(bK:mg "str" = none)(aC:mg "len" = none)(bx:mg "all" = none):bq P w K mg am Ax 1 f fd ["thing"] (Aw Hq):=by
 show B7 F abN (λts Γ Z Y h=>?_) (λcy A outer s H E ts Γ Z Y hr h=>?_)
 ·let⟨t,rfl,_⟩:=h
  rfl
 let⟨t,rfl,pt,q⟩:=h;show⟨_,(A5 (Ah (PW.pt (By (BL (BG (C5 rfl ai rfl bK G7 (A3 0)))) (Cu (BL (TZ El El A7 (Ap KS rfl aC BD (A4 (A3 0) A9)) (Eo rfl jr ur)))))) (A5 (AJ BH)
  AB) AB)
  (A5 (AJ (Ap (FN rfl) rfl bx FY (A4 (Cs (own:=["sign"]) (cap:=[]) Ec rfl (NL (A3 0)) (λ_ _ _ _=>GQ) (λ_ _ _ _=>DJ) (λ_ _ _ _=>(Iu tg5 (A3 0) (Eo rfl qJ DF) (by with_unfolding_all rfl)))) A9)))
  AB)),?_⟩
 simp only[Az];left;show BP (in_str pt) ?_;exists c
 ·left
  show AD .refl ?_;cases t with
  |str z=>cases c
  |_=>show q
 let⟨z,rfl⟩:=HL (t:=t) (by cases h:isStr t with|true=>rfl|false=>rw[h]at c;cases c);let zl:=pt.txt;left;show⟨z,rfl,Ci zl (by decide),?_⟩;left;let no:As (.str z)=false→DW Z (.bl false) Γ:=λh=>by rw[h]at q;show AD .refl q
 show AH (λc1=>?_) (λc1=>?_);rotate_left
 ·let c1:=DC c1
  left;show no ?_;rw[JN,CA (show ¬1≤z.length by lia)];rfl
 let c1:=Bd c1;exists c2
 ·let c2:¬(z.length:Int)≤8:=by simpa using c2
  left;show no ?_;rw[JN,CA (show ¬z.length≤8 by lia),Er];rfl
 let c2:(z.length:Int)≤8:=by simpa using c2
 left;show⟨Bu (BU (by unfold Hk;rw[Ag,G3];lia)),?_⟩;show⟨λv6 τ ys Γ'=>∃(cs ds:List Nat) (o:Option T),v6=cs.map (λc=>T.str ⟨#[c]⟩)∧z.cps.toList=ds++cs∧τ=[o]∧ys=(ds.map Ht).map T.bl∧Γ'=Γ,Ψ3 z.cps.toList [] none ⟨rfl,rfl,rfl,rfl,rfl⟩,?_,?_⟩
 ·intro τ ys Γ'⟨cs,ds,o,er,ez,rfl,rfl,rfl⟩
  let hz:cs=[]:=by
   cases cs with
   |nil=>rfl
   |cons _ _=>cases er
  subst hz;rw[Bg]at ez;subst ez;show⟨trivial,?_⟩;clear p1 fO e1 Γ1 g1 l1
  left;show Ψ2 p1 _ ⟨rfl,BR g1,?_⟩;have:(z.cps.toList.map Ht).all id=As (.str z):=by
   rw[JN,BE (show 1≤z.length by lia),BE (show z.length≤8 by lia),FZ];rfl
  rw[this];show AD l1 q
 ·intro x r τ ys Γ'⟨cs,ds,o,er,ez,rfl,rfl,rfl⟩
  cases cs with
  |nil=>cases er
  |cons c cs=>
   cases er;show⟨trivial,?_⟩;left;show Ψ2 _ _ ⟨rfl,rfl,?_⟩;show Ψ3 cs (ds++[c]) _ ⟨rfl,by rw[ez];simp,rfl,by rw[Au,Au];rfl,rfl⟩
@[reducible]def QE:Stmt:=B8 15
def aci:B0 ["thing","depth"] ["thing","depth"] (An QE):=nofun
abbrev Tv(n:Nat):B4:=λts Γ Z _=>∃(t:T) (d:Nat),ts=[t,.int d]∧d<n∧Pt Γ t∧Z (.bl (ES (B2 d) t)) Γ
abbrev MF(n:Nat):B4:=λts Γ Z _=>∃(t:T) (d:Nat),ts=[t,.int d]∧d<n∧Pt Γ t∧Z (.bl (B2 d t)) Γ
def fM{f:T→Bool}(h:ts.length≠2):ES f (.tup ts)=false:=by
 unfold ES;split
 ·rename_i e;cases e;show absurd rfl h
 ·rfl
def aae(F:cH K "is_field" "is_field" QE f fd)(cL:Ab P w K mg am "is_name" 1 ["thing"] Hq)(dW:Ab P w K mg am "is_kind_within" (lv+1) ["thing","depth"] (MF n))(ai:mg "isinstance" = none)(aB:mg "tuple" = none)(aC:mg "len" = none):bq P w K mg am Ax (lv+2) f fd ["thing","depth"] (Aw (Tv n)):=by
 show B7 F aci (λts Γ Z Y h=>?_) (λcy A outer s H E ts Γ Z Y hr h=>?_)
 ·let⟨t,d,rfl,_⟩:=h
  rfl
 let⟨t,d,rfl,dn,pt,q⟩:=h;show⟨_,(A5 (Ah (PW.pt (By (BL (BG (C5 rfl ai rfl aB DS (A3 0)))) (Cu (Aq EF (Ap BY rfl aC BD (A4 (A3 0) A9)) A7)))) (A5 (AJ BH)
  AB) AB)
  (A5 (AJ (CC (Aj cL hr (A4 (AK (A3 0) A7) A9)) (CM (Aj dW hr (A4 (AK (A3 0) A7) (A4 (A3 1) A9))))))
  AB)),?_⟩
 simp only[Az];left;show BP (DM pt) ?_;exists c
 ·left
  show AD .refl ?_;cases t with
  |tup ts=>cases c
  |_=>show q
 let⟨ts,rfl⟩:=Dt (t:=t) (by cases h:isTup t with|true=>rfl|false=>rw[h]at c;cases c);let⟨tl,tm⟩:=pt.items;exists c1
 ·let c1:ts.length≠2:=λe=>by rw[e]at c1;revert c1;decide
  left;rw[fM c1]at q;show AD .refl q
 let c1:ts.length=2:=by
  have:decide (V.int (ts.length:Int)=V.int 2)=true:=by simpa using c1
  have:=Ip this;lia
 match ts,c1 with
 |[a,b],_=>
  left;show⟨a,rfl,tm a (by simp),?_⟩;left;let q:Z (.bl (As a&&B2 d b)) Γ:=q;show AH (λc2=>?_) (λc2=>?_)
  ·rw[c2,BM]at q
   left;show Ψ2 b d ⟨rfl,dn,tm b (by simp),AD .refl q⟩
  ·rw[c2,CZ]at q
   show AD .refl q
@[reducible]def Nl:Stmt:=B8 14
def pF:B0 ["thing","depth"] ["thing","depth"] (An Nl):=nofun
abbrev Qz(n:Nat):B4:=λts Γ Z _=>∃(t:T) (d:Nat),ts=[t,.int d]∧d<n∧Pt Γ t∧Z (.bl (Iv (B2 d) t)) Γ
def I0(f:T→Bool)(ts:List T):Iv f (.tup ts)=(decide (1≤ts.length)&&decide (ts.length≤6)&&ts.all (ES f)&&decide (ts.map Eg).Nodup):=rfl
def abS(F:cH K "are_fields" "are_fields" Nl f fd)(eF:mg "MOST_FIELDS" = some v1)(iI:DU v1 (.int 6))(Bl:Ab P w K mg am "is_field" (lv+2) ["thing","depth"] (Tv n))(ai:mg "isinstance" = none)(aB:mg "tuple" = none)(aC:mg "len" = none)(bx:mg "all" = none):bq P w K mg am Ax (lv+3) f fd ["thing","depth"] (Aw (Qz n)):=by
 show B7 F pF (λts Γ Z Y h=>?_) (λcy A outer s H E ts Γ Z Y hr h=>?_)
 ·let⟨t,d,rfl,_⟩:=h
  rfl
 let⟨t,d,rfl,dn,pt,q⟩:=h;show⟨_,(A5 (Ah (PW.pt (By (BL (BG (C5 rfl ai rfl aB DS (A3 0)))) (Cu (BL (TZ El El A7 (Ap BY rfl aC BD (A4 (A3 0) A9)) (Eo rfl eF iI)))))) (A5 (AJ BH)
  AB) AB)
  (A5 (Ah (BL (BG (Ap (FN rfl) rfl bx FY (A4 (Cs (own:=["field"]) (cap:=[(1,"depth")]) (FK rfl (by done) (by done) rfl (⟨rfl,trivial⟩) rfl (⟨⟨rfl,rfl,rfl⟩,trivial⟩)) rfl (Du (A3 0)) (λ_ _ _ _=>(BX (i:=0) (show List.Nodup (["field","depth"]:List Str)from by done) rfl (Or.inl rfl) (Or.inr rfl))) (λ_ _ _ _=>DJ) (λ_ _ _ _=>(Aj Bl hr (A4 (A3 0) (A4 (A3 1) A9))))) A9)))) (A5 (AJ BH)
  AB) AB)
  (A5 (AJ (CR BI (Ap fH rfl aC BD (A4 (Y0 (own:=["name","inner"]) (cap:=[]) Ec rfl (Du (A3 0)) (λ_ _ _ _=>(Cg (n:=2) rfl (Ak (BX (i:=0) (show List.Nodup (["name","inner"]:List Str)from by done) rfl (Or.inl rfl) (Or.inr rfl)) (Ak (BX (i:=1) (show List.Nodup (["name","inner"]:List Str)from by done) rfl (Or.inl rfl) (Or.inr rfl)) CW)))) (λ_ _ _ _=>(A3 0))) A9)) (Ap BY rfl aC BD (A4 (A3 0) A9))))
  AB))),?_⟩
 simp only[Az];left;show BP (DM pt) ?_;exists c
 ·left
  show AD .refl ?_;cases t with
  |tup ts=>cases c
  |_=>show q
 let⟨ts,rfl⟩:=Dt (t:=t) (by cases h:isTup t with|true=>rfl|false=>rw[h]at c;cases c);let⟨tl,tm⟩:=pt.items;let no:Iv (B2 d) (.tup ts)=false→DW Z (.bl false) Γ:=λh=>by rw[h]at q;show AD .refl q
 exists c1;rotate_left
 ·let c1:=DC c1
  left;show no ?_;rw[I0,CA (show ¬1≤ts.length by lia)];rfl
 let c1:=Bd c1;exists c2
 ·let c2:¬(ts.length:Int)≤6:=by simpa using c2
  left;show no ?_;rw[I0,CA (show ¬ts.length≤6 by lia),Er];rfl
 let c2:(ts.length:Int)≤6:=by simpa using c2
 rw[I0,BE (show 1≤ts.length by lia),BE (show ts.length≤6 by lia),BM,BM]at q;clear no;left;show⟨Bu (BU (by lia)),?_⟩;show⟨λv6 τ ys Γ'=>∃(ds:List T) (o:Option T),ts=ds++v6∧τ=[o,some (.int d)]∧ys=(ds.map (ES (B2 d))).map T.bl∧Γ'=Γ,Ψ2 [] none ⟨rfl,rfl,rfl,rfl⟩,?_,?_⟩;rotate_left
 ·intro x r τ ys Γ'⟨ds,o,ez,rfl,rfl,rfl⟩
  show⟨trivial,?_⟩;left;show Ψ2 x d ⟨rfl,dn,tm x (by rw[ez];simp),?_⟩;show Ψ2 (ds++[x]) _ ⟨by rw[ez];simp,rfl,by rw[Au,Au];rfl,rfl⟩
 intro τ ys Γ'⟨ds,o,ez,rfl,rfl,rfl⟩;rw[Bg]at ez;subst ez;show⟨trivial,?_⟩;clear p1 fO e1 Γ1 g1 l1
 left;show Ψ2 p1 _ ⟨rfl,BR g1,?_⟩;rw[show(ts.map (ES (B2 d))).all id=ts.all (ES (B2 d))by rw[FZ];rfl];exists c3
 ·let c3:ts.all (ES (B2 d))=false:=by simpa using c3
  left;rw[c3,CZ]at q;show AD l1 q
 let c3:ts.all (ES (B2 d))=true:=by simpa using c3
 rw[c3,BM]at q;let all:=aaW.mp c3;left;unfold Q0;left;show⟨by lia,?_⟩;show⟨λv6 τ ys Γ'=>∃(ds:List T) (o0 o1:Option T),ts=ds++v6∧τ=[o0,o1]∧ys=ds.map Eg∧Γ'=Γ1,Ψ3 [] none none ⟨rfl,rfl,rfl,rfl⟩,?_,?_⟩;rotate_left
 ·intro x r τ ys Γ'⟨ds,o0,o1,ez,rfl,rfl,rfl⟩
  let⟨z,b,rfl,_,_⟩:=j0 (all x (by rw[ez];simp));show⟨trivial,?_⟩;left;show Ψ3 (ds++[.tup [.str z,b]]) _ _ ⟨by rw[ez];simp,rfl,by rw[Au];rfl,rfl⟩
 intro τ ys Γ'⟨ds,o0,o1,ez,rfl,rfl,rfl⟩;rw[Bg]at ez;subst ez;show⟨trivial,λD S n on hD=>?_⟩;left;show Ψ3 D S n ⟨rfl,BN,?_⟩;left;have:decide (V.int (n:Int)=V.int (ts.length:Nat))=decide (ts.map Eg).Nodup:=by
  let e:(V.int (n:Int)=V.int (ts.length:Nat)) ↔(ts.map Eg).Nodup:=by
   rcases on.2 with⟨a,b⟩|⟨a,b⟩
   ·rw[Ag]at b
    show⟨λ_=>a,λ_=>by rw[b]⟩
   ·rw[Ag]at b
    show⟨λh=>by have:=V.int.inj h;lia,λh=>absurd h a⟩
  show abj.mpr e
 rw[this];show AD (l1.trans (.new hD)) q
@[reducible]def PY:Stmt:=B8 13
def gg:B0 ["thing","depth","head","inner"] ["thing","depth"] (An PY):=nofun
def za(n:Nat):E0 (.int (n:Int)) [.int 1,.int 2]=(decide (n=1)||decide (n=2)):=by
 rw[GO];simp[E0,Ex];lia
def tg3(z:Str):E0 (.str z) [.str "rec",.str "pick"]=(decide (z = "rec")||decide (z = "pick")):=by
 rw[show [V.str "rec",V.str "pick"]=(["rec","pick"]:List Str).map V.str from rfl,Ju,GO];simp
def T1(h:ts.length≠1)(h':ts.length≠2):B2 d (.tup ts)=false:=by
 unfold B2;split
 ·rename_i e;cases e;show absurd rfl h
 ·rename_i e;cases e;show absurd rfl h'
 ·rfl
def gK(h:isStr t=false):B2 d (.tup (t::ts))=false:=by
 unfold B2;split
 ·rename_i e;cases e;cases h
 ·rename_i e;cases e;cases h
 ·rfl
def Zg(h:isTup t=false):B2 d t=false:=by
 unfold B2;split
 ·cases h
 ·cases h
 ·rfl
def Qx(d:Nat)(h:Str):B2 (d+1) (.tup [.str h])=decide (h = "text"):=by rw[B2]
def LR(d:Nat)(h:Str)(x:T):B2 (d+1) (.tup [.str h,x])=if h = "num" then Nn x else if h = "row" then B2 d x else(decide (h = "rec")||decide (h = "pick"))&&Iv (B2 d) x:=by rw[B2]
def mK(F:cH K "is_kind_within" "is_kind_within" PY f fd)(fb:mg "WIDEST_NUM" = some v1)(ja:DU v1 (.int 4))(cv:Ab P w K mg am "is_whole" 1 ["thing"] Fm)(dW:Ab P w K mg am "is_kind_within" (lv+1) ["thing","depth"] (MF n))(ya:Ab P w K mg am "are_fields" (lv+3) ["thing","depth"] (Qz n))(ai:mg "isinstance" = none)(aB:mg "tuple" = none)(bK:mg "str" = none)(aC:mg "len" = none):bq P w K mg am Ax (lv+4) f fd ["thing","depth"] (Aw (MF (n+1))):=by
 show B7 F gg (λts Γ Z Y h=>?_) (λcy A outer s H E ts Γ Z Y hr h=>?_)
 ·let⟨t,d,rfl,_⟩:=h
  rfl
 let⟨t,d,rfl,dn,pt,q⟩:=h;show⟨_,(A5 (Ah (PW.pt (By (Aq Fy (A3 1) A7) (By (BL (BG (C5 rfl ai rfl aB DS (A3 0)))) (Cu (Jq Vn (Ap BY rfl aC BD (A4 (A3 0) A9)) (Ay (A4 A7 (A4 A7 A9))) (by with_unfolding_all rfl)))))) (A5 (AJ BH)
  AB) AB)
  (A5 (Ar (i:=2) gg.nd (AK (A3 0) A7))
  (A5 (Ah (BL (BG (C5 rfl ai rfl bK G7 (A3 2)))) (A5 (AJ BH)
  AB) AB)
  (A5 (Ah (Aq BI (Ap BY rfl aC BD (A4 (A3 0) A9)) A7) (A5 (AJ (CR BI (A3 2) AP))
  AB) AB)
  (A5 (Ar (i:=3) gg.nd (AK (A3 0) A7))
  (A5 (Ah (Aq BI (A3 2) AP) (A5 (AJ (CC (Aj cv hr (A4 (A3 3) A9)) (CM (Q5 El El A7 (A3 3) (Eo rfl fb ja)))))
  AB) AB)
  (A5 (Ah (Aq BI (A3 2) AP) (A5 (AJ (Aj dW hr (A4 (A3 3) (A4 (AG GI (A3 1) A7) A9))))
  AB) AB)
  (A5 (AJ (CC (Iu Ug (A3 2) (Ay (A4 AP (A4 AP A9))) (by with_unfolding_all rfl)) (CM (Aj ya hr (A4 (A3 3) (A4 (AG GI (A3 1) A7) A9))))))
  AB)))))))),?_⟩
 simp only[Az];let no:B2 d t=false→DW Z (.bl false) Γ:=λh=>by rw[h]at q;show AD .refl q
 exists c
 ·let c:=Bd c
  have:d=0:=by lia
  subst this;left;show no (by unfold B2;rfl)
 let c:=DC c;obtain⟨d,rfl⟩:∃e,d=e+1:=⟨d-1,by lia⟩;left;show BP (DM pt) ?_;exists c
 ·left
  show no (Zg (by simpa using c))
 let⟨ts,rfl⟩:=Dt (t:=t) (by simpa using c);let⟨tl,tm⟩:=pt.items;left;show if(!E0 (.int (ts.length:Int)) [.int 1,.int 2])=true then _ else _
 rw[za];show AH (λc1=>?_) (λc1=>?_)
 ·left
  let c1:ts.length≠1∧ts.length≠2:=by simpa using c1
  show no (T1 c1.1 c1.2)
 let c1:ts.length=1∨ts.length=2:=by
  have:¬ts.length=1→ts.length=2:=by simpa using c1
  lia
 obtain⟨h,ys,rfl⟩:∃h ys,ts=h::ys:=by
  cases ts with
  |nil=>show absurd c1 (by simp)
  |cons h ys=>show Ψ2 h ys rfl
 left;show BP (in_str (tm h (by simp))) ?_;exists c2
 ·left
  show no (gK (by simpa using c2))
 let⟨z,rfl⟩:=HL (t:=h) (by simpa using c2);clear no;left;match ys,c1 with
 |[],_=>
  left;rw[Qx]at q;let e:decide (V.str z=V.str "text")=decide (z = "text"):=abj.mpr ⟨V.str.inj,λe=>by rw[e]⟩;rw[e];show AD .refl q
 |[x],_=>
  let px:=tm x (by simp);rw[LR]at q;exists c3
  ·rw[Aa (G1 c3)]at q
   left;show⟨x,rfl,px,?_⟩;exists c4
   ·let⟨i,rfl⟩:=NQ c4
    left;let q:Z (.bl (decide (1≤i)&&decide (i≤4))) Γ:=q;show AH (λc5=>?_) (λc5=>?_)
    ·rw[c5,BM]at q
     left;show AD .refl q
    ·rw[c5,CZ]at q
     show AD .refl q
   ·have:Nn x=false:=by
     cases x with
     |int i=>cases c4
     |_=>rfl
    rw[this]at q;show AD .refl q
  rw[AV (Fu c3)]at q;exists c4
  ·rw[Aa (G1 c4)]at q
   left;show Ψ2 x d ⟨by rw[show((d+1:Nat):Int)-1=(d:Int)by lia],by lia,px,AD .refl q⟩
  rw[AV (Fu c4)]at q;left;show if E0 (.str z) [.str "rec",.str "pick"]=true then _ else _
  rw[tg3];show AH (λc5=>?_) (λc5=>?_)
  ·rw[c5,BM]at q
   left;show Ψ2 x d ⟨by rw[show((d+1:Nat):Int)-1=(d:Int)by lia],by lia,px,AD .refl q⟩
  ·rw[c5,CZ]at q
   show AD .refl q
@[reducible]def Qj:Stmt:=B8 12
def m7:B0 ["thing"] ["thing"] (An Qj):=nofun
abbrev LX:B4:=λts Γ Z _=>∃t:T,ts=[t]∧Pt Γ t∧Z (.bl (B2 5 t)) Γ
def acn(F:cH K "is_kind" "is_kind" Qj f fd)(jt:mg "DEEPEST_KIND" = some v1)(uu:DU v1 (.int 5))(dW:Ab P w K mg am "is_kind_within" 19 ["thing","depth"] (MF 6)):bq P w K mg am Ax 20 f fd ["thing"] (Aw LX):=by
 show B7 F m7 (λts Γ Z Y h=>?_) (λcy A outer s H E ts Γ Z Y hr h=>?_)
 ·let⟨t,rfl,_⟩:=h
  rfl
 let⟨t,rfl,pt,q⟩:=h;show⟨_,(A5 (AJ (Aj dW hr (A4 (A3 0) (A4 (Eo rfl jt uu) A9))))
  AB),?_⟩
 simp only[Az];left;show Ψ2 t 5 ⟨rfl,by decide,pt,AD .refl q⟩
end
@[reducible]def kU:List Str:=["copy","give","lend","lease"]
abbrev GB:T→Bool
 |.int i=>decide (i=0)||decide (i=1)
 |_=>false
abbrev VA:T→Bool
 |.str z=>decide (z∈kU)
 |_=>false
abbrev Gf:T→Bool
 |.tup [a,b,c]=>As a&&(VA b&&B2 5 c)
 |_=>false
abbrev Jv:T→Bool
 |.tup ts=>ts.all Gf&&decide (ts.map Eg).Nodup
 |_=>false
abbrev Kh:T→Bool
 |.non=>true
 |t=>B2 5 t
abbrev Jn:T→Bool
 |.tup [a,b,c,d]=>As a&&(GB b&&(Jv c&&Kh d))
 |_=>false
def aaO(h:ts.length≠3):Gf (.tup ts)=false:=by
 unfold Gf;split
 ·rename_i e;cases e;show absurd rfl h
 ·rfl
def aac(h:ts.length≠4):Jn (.tup ts)=false:=by
 unfold Jn;split
 ·rename_i e;cases e;show absurd rfl h
 ·rfl
def yx(h:Gf t=true):∃z b c,t=.tup [.str z,b,c]:=by
 unfold Gf at h;split at h
 ·rename_i a b c
  rw[Cq]at h;let⟨z,rfl⟩:=TP h.1;show Ψ3 z b c rfl
 ·cases h
def gR(ts:List T):Jv (.tup ts)=(ts.all Gf&&decide (ts.map Eg).Nodup):=rfl
def qM(i:Int):E0 (.int i) [.int 0,.int 1]=GB (.int i):=by
 show _=(decide (i=0)||decide (i=1))
 rw[GO];simp[E0,Ex];lia
section
variable {K: W.Frag}{aS aW: Addr}
@[reducible]def RH:Stmt:=B8 35
def uY:B0 ["thing"] ["thing"] (An RH):=nofun
abbrev TM:B4:=λts Γ Z _=>∃t:T,ts=[t]∧Pt Γ t∧Z (.bl (GB t)) Γ
def zm(F:cH K "is_side" "is_side" RH f fd)(cv:Ab P w K mg am "is_whole" 1 ["thing"] Fm)(xh:mg "SIDES" = some (.ref aS))(xo:fo K aS [.int 0,.int 1]):bq P w K mg am Ax 2 f fd ["thing"] (Aw TM):=by
 let Ke:DU (.ref aS) (.ref aS):=M8;show B7 F uY (λts Γ Z Y h=>?_) (λcy A outer s H E ts Γ Z Y hr h=>?_)
 ·let⟨t,rfl,_⟩:=h
  rfl
 let⟨t,rfl,pt,q⟩:=h;show⟨_,(A5 (AJ (CC (Aj cv hr (A4 (A3 0) A9)) (CM (Iu (i7 xo rfl) (A3 0) (Eo rfl xh Ke) (by with_unfolding_all rfl)))))
  AB),?_⟩
 simp only[Az];left;show⟨t,rfl,pt,?_⟩;exists c
 ·let⟨i,rfl⟩:=NQ c
  left;show⟨_,rfl,rfl,rfl,?_⟩;rw[qM];show AD .refl q
 ·have:GB t=false:=by
   cases t with
   |int i=>cases c
   |_=>rfl
  rw[this]at q;show AD .refl q
@[reducible]def Sn:Stmt:=B8 37
def jC:B0 ["thing","name","way","kind"] ["thing"] (An Sn):=nofun
abbrev c9:B4:=λts Γ Z _=>∃t:T,ts=[t]∧Pt Γ t∧Z (.bl (Gf t)) Γ
def wQ(F:cH K "is_place" "is_place" Sn f fd)(cL:Ab P w K mg am "is_name" 1 ["thing"] Hq)(eI:Ab P w K mg am "is_kind" 20 ["thing"] LX)(AM:mg "WAYS" = some (.ref aW))(AR:fo K aW (kU.map V.str))(ai:mg "isinstance" = none)(aB:mg "tuple" = none)(bK:mg "str" = none)(aC:mg "len" = none):bq P w K mg am Ax 21 f fd ["thing"] (Aw c9):=by
 let OP:DU (.ref aW) (.ref aW):=M8;show B7 F jC (λts Γ Z Y h=>?_) (λcy A outer s H E ts Γ Z Y hr h=>?_)
 ·let⟨t,rfl,_⟩:=h
  rfl
 let⟨t,rfl,pt,q⟩:=h;show⟨_,(A5 (Ah (PW.pt (By (BL (BG (C5 rfl ai rfl aB DS (A3 0)))) (Cu (Aq EF (Ap BY rfl aC BD (A4 (A3 0) A9)) A7)))) (A5 (AJ BH)
  AB) AB)
  (A5 (Fl (A3 0) (Cg (n:=3) rfl (Ak (B5 (i:=1) jC.nd) (Ak (B5 (i:=2) jC.nd) (Ak (B5 (i:=3) jC.nd) CW)))))
  (A5 (AJ (CC (Aj cL hr (A4 (A3 1) A9)) (CC (C5 rfl ai rfl bK G7 (A3 2)) (CC (Iu (i7 AR rfl) (A3 2) (Eo rfl AM OP) (by with_unfolding_all rfl)) (CM (Aj eI hr (A4 (A3 3) A9)))))))
  AB))),?_⟩
 simp only[Az];left;show BP (DM pt) ?_;exists c
 ·left
  show AD .refl ?_;cases t with
  |tup ts=>cases c
  |_=>show q
 let⟨ts,rfl⟩:=Dt (t:=t) (by simpa using c);let⟨tl,tm⟩:=pt.items;exists c1
 ·let c1:ts.length≠3:=λe=>by rw[e]at c1;revert c1;decide
  left;rw[aaO c1]at q;show AD .refl q
 let c1:ts.length=3:=by
  have:decide (V.int (ts.length:Int)=V.int 3)=true:=by simpa using c1
  have:=Ip this;lia
 match ts,c1 with
 |[a,b,c],_=>
  let q:Z (.bl (As a&&(VA b&&B2 5 c))) Γ:=q;left;show⟨a,rfl,tm a (by simp),?_⟩;exists c2;rotate_left
  ·rw[c2,CZ]at q
   show AD .refl q
  rw[c2,BM]at q;left;show BP (in_str (tm b (by simp))) ?_;exists c3;rotate_left
  ·have:VA b=false:=by
    cases b with
    |str z=>cases c3
    |_=>rfl
   rw[this,CZ]at q;show AD .refl q
  let⟨z,rfl⟩:=HL c3;left;show⟨.str z,rfl,rfl,rfl,?_⟩;rw[Ju];let q:Z (.bl (decide (z∈kU)&&B2 5 c)) Γ:=q;exists c4;rotate_left
  ·rw[c4,CZ]at q
   show AD .refl q
  rw[c4,BM]at q;left;show⟨c,rfl,tm c (by simp),AD .refl q⟩
@[reducible]def Vl:Stmt:=B8 36
def aaq:B0 ["thing"] ["thing"] (An Vl):=nofun
abbrev iP:B4:=λts Γ Z _=>∃t:T,ts=[t]∧Pt Γ t∧(∀us,t=.tup us→us.length≤999)∧Z (.bl (Jv t)) Γ
def ac9(F:cH K "are_places" "are_places" Vl f fd)(Bj:Ab P w K mg am "is_place" 21 ["thing"] c9)(ai:mg "isinstance" = none)(aB:mg "tuple" = none)(aC:mg "len" = none)(bx:mg "all" = none):bq P w K mg am Ax 22 f fd ["thing"] (Aw iP):=by
 show B7 F aaq (λts Γ Z Y h=>?_) (λcy A outer s H E ts Γ Z Y hr h=>?_)
 ·let⟨t,rfl,_⟩:=h
  rfl
 let⟨t,rfl,pt,hl,q⟩:=h;show⟨_,(A5 (Ah (PW.pt (By (BL (BG (C5 rfl ai rfl aB DS (A3 0)))) (Cu (BL (BG (Ap (FN rfl) rfl bx FY (A4 (Cs (own:=["place"]) (cap:=[]) Ec rfl (Du (A3 0)) (λ_ _ _ _=>GQ) (λ_ _ _ _=>DJ) (λ_ _ _ _=>(Aj Bj hr (A4 (A3 0) A9)))) A9))))))) (A5 (AJ BH)
  AB) AB)
  (A5 (AJ (CR BI (Ap fH rfl aC BD (A4 (Y0 (own:=["name","way","kind"]) (cap:=[]) Ec rfl (Du (A3 0)) (λ_ _ _ _=>(Cg (n:=3) rfl (Ak (BX (i:=0) (show List.Nodup (["name","way","kind"]:List Str)from by done) rfl (Or.inl rfl) (Or.inr rfl)) (Ak (BX (i:=1) (show List.Nodup (["name","way","kind"]:List Str)from by done) rfl (Or.inl rfl) (Or.inr rfl)) (Ak (BX (i:=2) (show List.Nodup (["name","way","kind"]:List Str)from by done) rfl (Or.inl rfl) (Or.inr rfl)) CW))))) (λ_ _ _ _=>(A3 0))) A9)) (Ap BY rfl aC BD (A4 (A3 0) A9))))
  AB)),?_⟩
 simp only[Az];left;show BP (DM pt) ?_;exists c
 ·left
  show AD .refl ?_;cases t with
  |tup ts=>cases c
  |_=>show q
 let⟨ts,rfl⟩:=Dt (t:=t) (by simpa using c);let⟨_,tm⟩:=pt.items;let tl:=hl ts rfl;rw[gR]at q;left;show⟨Bu (BU (by lia)),?_⟩;show⟨λv6 τ ys Γ'=>∃(ds:List T) (o:Option T),ts=ds++v6∧τ=[o]∧ys=(ds.map Gf).map T.bl∧Γ'=Γ,Ψ2 [] none ⟨rfl,rfl,rfl,rfl⟩,?_,?_⟩;rotate_left
 ·intro x r τ ys Γ'⟨ds,o,ez,rfl,rfl,rfl⟩
  show⟨trivial,?_⟩;left;show⟨x,rfl,tm x (by rw[ez];simp),?_⟩;show Ψ2 (ds++[x]) _ ⟨by rw[ez];simp,rfl,by rw[Au,Au];rfl,rfl⟩
 intro τ ys Γ'⟨ds,o,ez,rfl,rfl,rfl⟩;rw[Bg]at ez;subst ez;show⟨trivial,?_⟩;clear p1 fO e1 Γ1 g1 l1
 left;show Ψ2 p1 _ ⟨rfl,BR g1,?_⟩;rw[show(ts.map Gf).all id=ts.all Gf by rw[FZ];rfl];exists c3
 ·let c3:ts.all Gf=false:=by simpa using c3
  left;rw[c3,CZ]at q;show AD l1 q
 let c3:ts.all Gf=true:=by simpa using c3
 rw[c3,BM]at q;let all:=aaW.mp c3;left;unfold Q0;left;show⟨by lia,?_⟩;show⟨λv6 τ ys Γ'=>∃(ds:List T) (o0 o1 o2:Option T),ts=ds++v6∧τ=[o0,o1,o2]∧ys=ds.map Eg∧Γ'=Γ1,Ψ4 [] none none none ⟨rfl,rfl,rfl,rfl⟩,?_,?_⟩;rotate_left
 ·intro x r τ ys Γ'⟨ds,o0,o1,o2,ez,rfl,rfl,rfl⟩
  let⟨z,b,c,rfl⟩:=yx (all x (by rw[ez];simp));show⟨trivial,?_⟩;left;show Ψ4 (ds++[.tup [.str z,b,c]]) _ _ _ ⟨by rw[ez];simp,rfl,by rw[Au];rfl,rfl⟩
 intro τ ys Γ'⟨ds,o0,o1,o2,ez,rfl,rfl,rfl⟩;rw[Bg]at ez;subst ez;show⟨trivial,λD S n on hD=>?_⟩;left;show Ψ3 D S n ⟨rfl,BN,?_⟩;left;have:decide (V.int (n:Int)=V.int (ts.length:Nat))=decide (ts.map Eg).Nodup:=by
  let e:(V.int (n:Int)=V.int (ts.length:Nat)) ↔(ts.map Eg).Nodup:=by
   rcases on.2 with⟨a,b⟩|⟨a,b⟩
   ·rw[Ag]at b
    show⟨λ_=>a,λ_=>by rw[b]⟩
   ·rw[Ag]at b
    show⟨λh=>by have:=V.int.inj h;lia,λh=>absurd h a⟩
  show abj.mpr e
 rw[this];show AD (l1.trans (.new hD)) q
@[reducible]def VT:Stmt:=B8 34
def iO:B0 ["thing","name","side","places","result"] ["thing"] (An VT):=nofun
abbrev bO:B4:=λts Γ Z _=>∃t:T,ts=[t]∧Pt Γ t∧(∀x y us d,t=.tup [x,y,.tup us,d]→us.length≤999)∧Z (.bl (Jn t)) Γ
def oB(F:cH K "is_paper" "is_paper" VT f fd)(cL:Ab P w K mg am "is_name" 1 ["thing"] Hq)(qU:Ab P w K mg am "is_side" 2 ["thing"] TM)(xZ:Ab P w K mg am "are_places" 22 ["thing"] iP)(eI:Ab P w K mg am "is_kind" 20 ["thing"] LX)(ai:mg "isinstance" = none)(aB:mg "tuple" = none)(aC:mg "len" = none):bq P w K mg am Ax 23 f fd ["thing"] (Aw bO):=by
 show B7 F iO (λts Γ Z Y h=>?_) (λcy A outer s H E ts Γ Z Y hr h=>?_)
 ·let⟨t,rfl,_⟩:=h
  rfl
 let⟨t,rfl,pt,hl,q⟩:=h;show⟨_,(A5 (Ah (PW.pt (By (BL (BG (C5 rfl ai rfl aB DS (A3 0)))) (Cu (Aq EF (Ap BY rfl aC BD (A4 (A3 0) A9)) A7)))) (A5 (AJ BH)
  AB) AB)
  (A5 (Fl (A3 0) (Cg (n:=4) rfl (Ak (B5 (i:=1) iO.nd) (Ak (B5 (i:=2) iO.nd) (Ak (B5 (i:=3) iO.nd) (Ak (B5 (i:=4) iO.nd) CW))))))
  (A5 (Ah (PW.pt (By (BL (BG (Aj cL hr (A4 (A3 1) A9)))) (By (BL (BG (Aj qU hr (A4 (A3 2) A9)))) (Cu (BL (BG (Aj xZ hr (A4 (A3 3) A9)))))))) (A5 (AJ BH)
  AB) AB)
  (A5 (AJ (La (CR N5 (A3 4) Hs) (CM (Aj eI hr (A4 (A3 4) A9)))))
  AB)))),?_⟩
 simp only[Az];left;show BP (DM pt) ?_;exists c
 ·left
  show AD .refl ?_;cases t with
  |tup ts=>cases c
  |_=>show q
 let⟨ts,rfl⟩:=Dt (t:=t) (by simpa using c);let⟨tl,tm⟩:=pt.items;exists c1
 ·let c1:ts.length≠4:=λe=>by rw[e]at c1;revert c1;decide
  left;rw[aac c1]at q;show AD .refl q
 let c1:ts.length=4:=by
  have:decide (V.int (ts.length:Int)=V.int 4)=true:=by simpa using c1
  have:=Ip this;lia
 match ts,c1 with
 |[a,b,c,d],_=>
  let q:Z (.bl (As a&&(GB b&&(Jv c&&Kh d)))) Γ:=q;left;show⟨a,rfl,tm a (by simp),?_⟩;exists c2
  ·left
   rw[show As a=false by simpa using c2,CZ]at q;show AD .refl q
  rw[show As a=true by simpa using c2,BM]at q;left;show⟨b,rfl,tm b (by simp),?_⟩;exists c3
  ·left
   rw[show GB b=false by simpa using c3,CZ]at q;show AD .refl q
  rw[show GB b=true by simpa using c3,BM]at q;left;show⟨c,rfl,tm c (by simp),λus e=>hl a b us d (by rw[e]),?_⟩;exists c4
  ·left
   rw[show Jv c=false by simpa using c4,CZ]at q;show AD .refl q
  rw[show Jv c=true by simpa using c4,BM]at q;exists c5
  ·have:d=.non:=by
    cases d with
    |non=>rfl
    |_=>cases c5
   rw[this]at q;show AD .refl q
  ·have:Kh d=B2 5 d:=by
    cases d with
    |non=>cases c5
    |_=>rfl
   rw[this]at q;left;show⟨d,rfl,tm d (by simp),AD .refl q⟩
end
def Om(h:0≤i):HT.dz n d (some i)=min i.toNat n:=by
 show(if i<0 then _ else min i.toNat _)=_
 rw[AV (by lia)]
def K9{α:Type}{xs:List α}{j:Int}(h:0≤i)(h':0≤j):Bb xs (some i) (some j)=(xs.drop i.toNat).take (j.toNat-i.toNat):=by
 unfold Bb;rw[Om h,Om h'];by_cases c:i.toNat≤xs.length
 ·rw[Ph c]
  by_cases c2:j.toNat≤xs.length
  ·rw[Ph c2]
  ·rw[Nx (by lia),MB (by rw[ET];lia),MB (by rw[ET];lia)]
 ·rw[Nx (show xs.length≤i.toNat by lia),JM,List.drop_of_length_le (by lia),Qw,Qw]
abbrev GZ(n:Int):Nat:=97+(n%26).toNat
abbrev wd(ns:List Int):Str:=S (ns.map GZ)
def abh(n:Int):97≤GZ n∧GZ n≤122:=by
 unfold GZ;have:=DN n (by decide:(26:Int)≠0);have:=Dj n (by decide:(0:Int)<26);lia
def OM(ns:List Int):Lets (wd ns):=λc h=>by
 let h:c∈ns.map GZ:=by simpa[wd,S]using h
 let⟨n,_,rfl⟩:=aap.mp h;show abh n
def Md(ns:List Int):(wd ns).length=ns.length:=by unfold wd;rw[xT,Ag]
def v8:∀j:Nat,j<26→Ed.cps.toList[j]?=some (97+j):=by done
def ab7{r:Int}(h0:0≤r)(h1:r<26):C0 Ed.cps.toList r=some (97+r.toNat):=by
 let e:r=((r.toNat:Nat):Int):=by lia
 rw[e];show Fv (v8 _ (by lia))
def Uq(l:List Nat):Jc (l.map λc=>(⟨#[c]⟩:Str))=S l:=by
 unfold Jc S;congr 1
 rw[FJ];have:∀l:List Nat,(l.map ((λx:Str=>x.cps.toList) ∘ λc=>(⟨#[c]⟩:Str))).flatten=l:=λl=>by
  induction l with
  |nil=>rfl
  |cons c l ih=>rw[CT,List.flatten_cons,ih];rfl
 rw[this]
section
variable {K: W.Frag}
@[reducible]def RB:Stmt:=B8 72
def qG:B0 ["numbers"] ["numbers"] (An RB):=nofun
abbrev aJ:B4:=λts Γ Z _=>∃(a:Addr) (ns:List Int),ts=[.ref a]∧Γ a=some (.lst (ns.map T.int))∧ns.length≤1000∧Z (.str (wd ns)) Γ
def rD(F:cH K "_law_word" "_law_word" RB f fd):bq P w K mg am Ax 1 f fd ["numbers"] (Aw aJ):=by
 show B7 F qG (λts Γ Z Y h=>?_) (λcy A outer s H E ts Γ Z Y hr h=>?_)
 ·let⟨a,ns,rfl,_⟩:=h
  rfl
 let⟨a,ns,rfl,ga,n1,q⟩:=h;show⟨_,(A5 (AJ (F0 Np Qd Qn RA AP (A4 (Cs (own:=["one"]) (cap:=[]) Ec rfl (K1 (A3 0)) (λ_ _ _ _=>GQ) (λ_ _ _ _=>DJ) (λ_ _ _ _=>(Xs AP (AG Bc (A3 0) A7)))) A9)))
  AB),?_⟩
 simp only[Az];left;show Ψ2 a _ ⟨rfl,BR ga,Bu (BU (by rw[Ag];show n1)),?_⟩;show⟨λv6 τ ys Γ'=>∃(ms ks:List Int) (o:Option T),v6=ks.map T.int∧ns=ms++ks∧τ=[o]∧ys=(ms.map GZ).map (λc=>T.str ⟨#[c]⟩)∧Γ'=Γ,Ψ3 [] ns none ⟨rfl,rfl,rfl,rfl,rfl⟩,?_,?_⟩
 ·intro τ ys Γ'⟨ms,ks,o,er,en,rfl,rfl,rfl⟩
  let hk:ks=[]:=by
   cases ks with
   |nil=>rfl
   |cons _ _=>cases er
  subst hk;rw[Bg]at en;subst en;show⟨BR ga,λD hD=>?_⟩;left;show Ψ2 D ((ns.map GZ).map (λc=>(⟨#[c]⟩:Str))) ⟨rfl,rfl,?_,?_,?_,?_⟩
  ·rw[BR BN,FJ,FJ,FJ];rfl
  ·rw[Ag,Ag];show n1
  ·intro y hy
   let⟨c,_,rfl⟩:=aap.mp hy;show 1≤1000
   decide
  ·rw[Uq]
   show AD (.new hD) q
 ·intro x r τ ys Γ'⟨ms,ks,o,er,en,rfl,rfl,rfl⟩
  cases ks with
  |nil=>cases er
  |cons k ks=>
   cases er;show⟨BR ga,?_⟩;left;let k0:=DN k (by decide:(26:Int)≠0);let k1:=Dj k (by decide:(0:Int)<26);show Ψ3 _ _ _ ⟨rfl,rfl,by decide,ab7 k0 k1,?_⟩;show Ψ3 (ms++[k]) ks _ ⟨rfl,by rw[en];simp,rfl,?_,rfl⟩;rw[Au,Au];rfl
end
def Gj{α β:Type}(f:α→β)(xs:List α)(lo hi:Option Int):Bb (xs.map f) lo hi=(Bb xs lo hi).map f:=by
 unfold Bb;rw[Ag,List.map_take,List.map_drop]
def VS{α:Type}{xs:List α}{n:Int}(h:0≤n):Bb xs none (some n)=xs.take n.toNat:=by
 unfold Bb;rw[HT.oZ,V7,Nat.sub_zero,Om h];by_cases c:n.toNat≤xs.length
 ·rw[Ph c]
 ·rw[Nx (by lia),List.take_length,MB (by lia)]
def JV{α:Type}{xs:List α}(h:0≤i):Bb xs (some i) none=xs.drop i.toNat:=by
 unfold Bb;rw[Om h,HT.oZ];by_cases c:i.toNat≤xs.length
 ·rw[Ph c,MB (by rw[ET];lia)]
 ·rw[Nx (by lia),JM,List.drop_of_length_le (by lia),Qw]
def Lu{α:Type}{xs:List α}{lo hi:Option Int}{x:α}(h:x∈Bb xs lo hi):x∈xs:=Lh (MU h)
abbrev Cd(z:Str):Prop:=Lets z∧z.length≤8
def Cd.nm(h:Cd z)(n:z ≠ ""):Nm z:=by
 show⟨?_,h.2,h.1⟩;rcases QJ z.length with e|e
 ·exfalso
  apply n
  have:z.cps.toList.length=0:=by rw[G3];show e
  let e2:z.cps=#[]:=by
   rw[←Array.toList_inj];show QT this
  obtain⟨c⟩:=z;show Str.mk c=_
  rw[show c=#[]from e2];rfl
 ·show e
@[reducible]def JC:List Str:=["num","text","row","rec","pick","none","door","copy","give","lend","lease","new","call"]
def gv:∀z∈JC,Lets z∧z.length≤5:=by
 intro z h;simp only[aaf,CD,DH]at h;rcases h with rfl|rfl|rfl|rfl|rfl|rfl|rfl|rfl|rfl|rfl|rfl|rfl|rfl<;>show⟨dc (by done),by done⟩
abbrev FV(r:Int)(n:Nat):List Str:=(List.range n).map λk:Nat=>wd [r+7*(k:Int)]
def Wb(r:Int)(n:Nat):(FV r n).length=n:=by unfold FV;rw[Ag,OY]
def We{r:Int}(h:z∈FV r n):Cd z∧z ≠ "" := by
 let⟨k,_,rfl⟩:=aap.mp h;show⟨⟨OM _,by rw[Md];show(by decide:1≤8)⟩,λe=>?_⟩;have:(wd [r+7*(k:Int)]).length=1:=Md _;rw[e]at this;revert this
 done
def uX(r:Int):(FV r 26).Nodup:=by
 unfold FV;rw[List.nodup_iff_pairwise_ne,List.pairwise_map];show List.Pairwise.imp_of_mem (λ{i j} hi hj hn e=>?_) List.nodup_range;rw[abC]at hi hj;let e1:[GZ (r+7*(i:Int))]=[GZ (r+7*(j:Int))]:=by
  have:=EJ (λz:Str=>z.cps.toList) e;simpa[wd,S]using this
 let e2:GZ (r+7*(i:Int))=GZ (r+7*(j:Int)):=by simpa using e1
 unfold GZ at e2;apply hn
 omega
def abU(r:Int)(n:Nat):FV r (n+1)=FV r n++[wd [r+7*(n:Int)]]:=by unfold FV;rw[VY,Au];rfl
def uZ(ss:List Str):(ss.map V.str).all EO=true:=by
 rw[aaW];intro v hv;let⟨z,_,rfl⟩:=aap.mp hv;rfl
section
variable {K: W.Frag}
@[reducible]def VJ:Stmt:=B8 73
def cm:B0 ["row","word","letter","at","own","some","k","names","one"] ["row"] (An VJ):=nofun
abbrev fu:B4:=λts Γ Z _=>∃(a:Addr) (ns:List Int),ts=[.ref a]∧Γ a=some (.lst (ns.map T.int))∧ns.length=20∧∀(ss:List Str) (p:Addr),ss.length=9→(∀z∈ss,Nm z)→ss.Nodup→Γ p=none→Z (.ref p) (AF Γ p (.lst (ss.map T.str)))
def se(F:cH K "_law_names" "_law_names" VJ f fd)(kR:Ab P w K mg am "_law_word" 1 ["numbers"] aJ)(aC:mg "len" = none)(bJ:mg "range" = none):bq P w K mg am Ax 2 f fd ["row"] (Aw fu):=by
 show B7 F cm (λts Γ Z Y h=>?_) (λcy A outer s H E ts Γ Z Y hr h=>?_)
 ·let⟨a,ns,rfl,_⟩:=h
  rfl
 let⟨a,ns,rfl,ga,nl,q⟩:=h;show⟨_,(A5 (Ar (i:=1) cm.nd (Aj kR hr (A4 (CN Hn (A3 0) DE (Be (AG C3 A7 (AG Bc (AK (A3 0) A7) A7)))) A9)))
  (A5 (Ar (i:=2) cm.nd (Aj kR hr (A4 (CN Hn (A3 0) (Be A7) (Be A7)) A9)))
  (A5 (Ar (i:=3) cm.nd (AG Bc (AK (A3 0) A7) (Ap KS rfl aC BD (A4 (A3 1) A9))))
  (A5 (Ar (i:=4) cm.nd (CG (A4 AP (A4 AP (A4 AP (A4 AP (A4 AP (A4 AP (A4 AP (A4 AP (A4 AP (A4 AP (A4 AP (A4 AP (A4 AP A9)))))))))))))))
  (A5 (Ar (i:=5) cm.nd (CG (A4 (A3 1) (A4 (AG GN (A3 1) (A3 2)) (A4 (AG GN (A3 2) (A3 1)) (A4 (AG GN (AG GN (CN JG (A3 1) DE (Be (A3 3))) (A3 2)) (CN JG (A3 1) (Be (AG C3 (A3 3) A7)) DE)) (A4 (CN JG (A3 1) DE (Be (A3 3))) (A4 (cE (A3 1) (EZ A7)) A9))))))))
  (A5 (Ar (i:=5) cm.nd (AG IB (A3 5) (CG (A4 (AK (A3 4) (AG Bc (AK (A3 0) A7) A7)) (A4 (Aj kR hr (A4 (CN Hn (A3 0) (Be A7) (Be (AG C3 A7 (AG Bc (AK (A3 0) A7) A7)))) A9)) (A4 (AG GN (AK (A3 4) (AG Bc (AG FC (AK (A3 0) A7) A7) A7)) (A3 2)) A9))))))
  (A5 (Ar (i:=5) cm.nd (AG IB (CN Hn (A3 5) (Be (AG Bc (AK (A3 0) A7) A7)) DE) (CN Hn (A3 5) DE (Be (AG Bc (AK (A3 0) A7) A7)))))
  (A5 (GS Gh rfl (Js rfl bJ (A4 A7 A9)) (B5 (i:=6) cm.nd) (A5 (IJ (F0 G5 Ia IS Hz (A3 5) (A4 (Aj kR hr (A4 (CG (A4 (AG C3 (AK (A3 0) A7) (AG HF A7 (A3 6))) A9)) A9)) A9)))
  AB))
  (A5 (Ar (i:=7) cm.nd (CG A9))
  (A5 (GS Gh rfl (K1 (A3 5)) (B5 (i:=8) cm.nd) (A5 (E5 (Ah (PW.pt (J3 (Aq EF (A3 8) AP) (J3 (Jq Vn (A3 8) (A3 7) (by with_unfolding_all rfl)) (Jt (Aq Fy (Ap BY rfl aC BD (A4 (A3 7) A9)) A7))))) (A5 (IJ (F0 G5 Ia IS Hz (A3 7) (A4 (A3 8) A9)))
  AB) AB))
  AB))
  (A5 (AJ (A3 7))
  AB))))))))))),?_⟩
 simp only[Az];let⟨Lv,m16,_,x16⟩:=EV (ns:=ns) (j:=16) (by lia);let⟨r8,m8,_,x8⟩:=EV (ns:=ns) (j:=8) (by lia);let⟨r9,m9,_,x9⟩:=EV (ns:=ns) (j:=9) (by lia);let⟨Pp,m17,_,x17⟩:=EV (ns:=ns) (j:=17) (by lia);let⟨Uy,m18,_,Yj⟩:=EV (ns:=ns) (j:=18) (by lia);let⟨HK,m19,_,x19⟩:=EV (ns:=ns) (j:=19) (by lia);let b16:0≤Lv%7∧Lv%7<7:=⟨DN _ (by decide),Dj _ (by decide)⟩;let b17:0≤Pp%5∧Pp%5<5:=⟨DN _ (by decide),Dj _ (by decide)⟩;left;show B6 ga x16 ?_;left;show Ψ2 a _ ⟨rfl,ga,λp1 fO=>?_⟩;rw[Gj,VS (by lia)];left;show Ψ2 p1 _ ⟨rfl,BN,by rw[EH];lia,?_⟩;let ew:(wd (ns.take (1+Lv%7).toNat)).length=(1+Lv%7).toNat:=by rw[Md,EH];lia
 let lw:=OM (ns.take (1+Lv%7).toNat);generalize wd (ns.take (1+Lv%7).toNat)=word at *
 let l1:Le Γ (AF Γ p1 (.lst ((ns.take (1+Lv%7).toNat).map T.int))):=.new fO;generalize AF Γ p1 (.lst ((ns.take (1+Lv%7).toNat).map T.int))=Γ1 at *
 left;show Ψ2 a _ ⟨rfl,l1 _ _ ga,λp2 rB=>?_⟩;rw[Gj,K9 (by decide) (by decide)];left;show Ψ2 p2 _ ⟨rfl,BN,by rw[EH];show Ci (Nat.min_le_left _ _) (by decide),?_⟩;let el:(wd ((ns.drop (Int.toNat 7)).take (Int.toNat 8-Int.toNat 7))).length=1:=by rw[Md,EH,ET,nl];rfl
 let ll:=OM ((ns.drop (Int.toNat 7)).take (Int.toNat 8-Int.toNat 7));generalize wd ((ns.drop (Int.toNat 7)).take (Int.toNat 8-Int.toNat 7))=AN at *
 let l2:Le Γ (AF Γ1 p2 (.lst (((ns.drop (Int.toNat 7)).take (Int.toNat 8-Int.toNat 7)).map T.int))):=l1.trans (.new rB);generalize AF Γ1 p2 (.lst (((ns.drop (Int.toNat 7)).take (Int.toNat 8-Int.toNat 7)).map T.int))=Γ2 at *
 left;show B6 (l2 _ _ ga) x8 ?_;left;show⟨word,rfl,Bu (BU (by lia)),?_⟩;show Es (by show(0:Int)<_;lia) ?_;let ba:0≤r8%(word.length:Int)∧r8%(word.length:Int)<(word.length:Int):=⟨DN _ (by lia),Dj _ (by lia)⟩;generalize r8%(word.length:Int)=at_ at *
 left;clear po hpo Z6 Γ3 gO l3
 let gO:Γ3 po=some (.lst (JC.map T.str)):=gO;left
 -- some,first part
 show GH ?_ ?_
 ·have:=Dd;lia
 left;show GH ?_ ?_
 ·have:=Dd;lia
 left;show⟨Bu (BU (by lia)),λy1 Sz=>?_⟩;let c1:=Ic Sz;let k1:=lw.cut Sz;let h1:=sN ba.1 Sz;left;show GH ?_ ?_
 ·have:=Dd;lia
 left;show⟨Bu (BU (by lia)),λy2 LH=>?_⟩;let c2:=Ic LH;let k2:=lw.cut LH;let h2:y2.length≤word.length-(at_+1).toNat:=by
  rw[←G3,LH,JV (by lia),ET,G3];show Av _
 left;show GH ?_ ?_
 ·have:=Dd;rw[Fi];lia
 left;show⟨Bu (BU (by lia)),λy3 UL=>?_⟩;let c3:=Ic UL;let k3:=lw.cut UL;left;show⟨rfl,word,rfl,Bu (BU (by lia)),λy4 c4 WV=>?_⟩;let k4:Lets y4:=λc hc=>lw c (WV c hc);left;clear p3 AZ ep3 Γ4 gS l4
 obtain⟨cs,gS,Ka,Y4⟩:∃cs:List Str,Γ4 p3=some (.lst (cs.map T.str))∧(∀z∈cs,Cd z)∧cs.length=6:=by
  show⟨[_,_,_,_,_,_],gS,λz hz=>?_,rfl⟩;simp only[aaf,CD,DH]at hz;rcases hz with rfl|rfl|rfl|rfl|rfl|rfl
  ·show⟨lw,by lia⟩
  ·show⟨lw.app ll,by rw[Fi];lia⟩
  ·show⟨ll.app lw,by rw[Fi];lia⟩
  ·show⟨(k1.app ll).app k2,by rw[Fi,Fi];lia⟩
  ·show⟨k3,by lia⟩
  ·show⟨k4,by lia⟩
 left;let l24:Le Γ2 Γ4:=l3.trans l4;let Sj:Le Γ Γ4:=l2.trans l24;let ZP:=l4 _ _ gO;show B6 (Sj _ _ ga) x9 ?_;left;let⟨o1,ho1,mo1⟩:=Lj (xs:=JC.map T.str) (r:=r9%13) (DN _ (by decide)) (Dj _ (by decide));let⟨z1,mz1,rfl⟩:=aap.mp mo1;show B6 ZP ho1 ?_;left;show B6 (Sj _ _ ga) x17 ?_;left;show Ψ2 a _ ⟨rfl,Sj _ _ ga,?_⟩;clear p5 Oz ep5 Γ5 g5 l5
 rw[Gj,K9 (by decide) (by lia)]at g5;left;show Ψ2 p5 _ ⟨rfl,g5,by rw[EH];have:=nl;lia,?_⟩;let e5:(wd ((ns.drop (Int.toNat 10)).take ((11+Pp%5).toNat-Int.toNat 10))).length≤5:=by rw[Md,EH];show min ((11+Pp%5).toNat-10) _≤5;lia
 let k5:=OM ((ns.drop (Int.toNat 10)).take ((11+Pp%5).toNat-Int.toNat 10));generalize wd ((ns.drop (Int.toNat 10)).take ((11+Pp%5).toNat-Int.toNat 10))=y5 at *
 left;show B6 (l5 _ _ (Sj _ _ ga)) x9 ?_;left;let⟨o2,J5,mo2⟩:=Lj (xs:=JC.map T.str) (r:=r9/13%13) (DN _ (by decide)) (Dj _ (by decide));let⟨z2,mz2,rfl⟩:=aap.mp mo2;let cz1:=gv z1 mz1;let cz2:=gv z2 mz2;show B6 (l5 _ _ ZP) J5 ?_;left;show GH ?_ ?_
 ·have:=Dd;lia
 left;clear p6 Oy ep6 Γ6 g6 l6
 let Zc:Le Γ4 Γ6:=l5.trans l6;obtain⟨ds,g6,D8,YZ⟩:∃ds:List Str,Γ6 p6=some (.lst (ds.map T.str))∧(∀z∈ds,Cd z)∧ds.length=3:=by
  show⟨[_,_,_],g6,λz hz=>?_,rfl⟩;simp only[aaf,CD,DH]at hz;rcases hz with rfl|rfl|rfl
  ·show⟨cz1.1,by lia⟩
  ·show⟨k5,by lia⟩
  ·show⟨cz2.1.app ll,by rw[Fi];lia⟩
 show Ψ4 p3 p6 _ _ ⟨rfl,rfl,Zc _ _ gS,g6,Bu (BU (by rw[Ag,Ag,Y4,YZ];decide)),?_⟩;clear p7 SI Z9 Γ7 g7 l7
 rw[←Au]at g7;let UI:Le Γ Γ7:=Sj.trans (Zc.trans l7);obtain⟨es,ZA,nes,g7⟩:∃es:List Str,(∀z∈es,Cd z)∧es.length=9∧Γ7 p7=some (.lst (es.map T.str)):=⟨cs++ds,λz hz=>(aaK.mp hz).elim (Ka z) (D8 z),by rw[B3,Y4,YZ],g7⟩;left;show B6 (UI _ _ ga) Yj ?_;left;let b18:0≤Uy%9∧Uy%9<9:=⟨DN _ (by decide),Dj _ (by decide)⟩;show Ψ2 p7 _ ⟨rfl,g7,?_⟩;clear p8 W6 Z8 Γ8 g8 l8
 rw[Gj]at g8;left;show B6 (l8 _ _ (UI _ _ ga)) Yj ?_;left;show Ψ2 p7 _ ⟨rfl,l8 _ _ g7,?_⟩;clear p9 SH Z7 Γ9 g9 l9
 rw[Gj]at g9;let n8:=LJ es (some (Uy%9)) none;let n9:=LJ es none (some (Uy%9));show Ψ4 p8 p9 _ _ ⟨rfl,rfl,l9 _ _ g8,g9,Bu (BU (by rw[Ag,Ag];lia)),?_⟩;clear sR Dy Ts Γ10 HV Oc
 rw[←Au]at HV;let WD:Le Γ Γ10:=UI.trans (l8.trans (l9.trans Oc));obtain⟨fs,hfs,nfs,HV⟩:∃fs:List Str,(∀z∈fs,Cd z)∧fs.length≤18∧Γ10 sR=some (.lst (fs.map T.str)):=⟨_,λz hz=>(aaK.mp hz).elim (λh=>ZA z (Lu h)) (λh=>ZA z (Lu h)),by rw[B3];lia,HV⟩;left;let bN:Γ sR=none:=by
  cases e:Γ sR with
  |none=>rfl
  |some o=>have:=(UI.trans (l8.trans l9)) _ _ e;rw[Dy]at this;cases this
 let na:a≠sR:=Dk ga bN;show⟨26,rfl,by decide,by decide,?_⟩;show⟨λv6 τ Γ'=>∃(i m:Nat) (o6:Option T),v6=EU i m∧i+m=26∧τ=[some (.ref a),some (.str word),some (.str AN),some (.int at_),some (.ref po),some (.ref sR),o6,none,none]∧Γ' sR=some (.lst ((fs++FV HK i).map T.str))∧Kq [sR] Γ Γ',Ψ3 0 26 none ⟨rfl,rfl,rfl,by rw[show FV HK 0=[]from rfl,Bg];show HV,WD.kq⟩,?_,?_⟩
 ·intro τ Γ'⟨i,m,o6,er,im,rfl,gL,kq⟩
  let hm:=KR er;subst hm;have:i=26:=im;subst this;show⟨trivial,?_⟩;left;clear pn GU en Γn gn ln
  let bn:Γ pn=none:=by
   by_cases e1:pn=sR
   ·rw[e1];show bN
   ·cases e:Γ pn with
    |none=>rfl
    |some o=>have:=kq _ _ (by simpa using e1) e;rw[GU]at this;cases this
  let ne:sR≠pn:=Dk gL GU;left;show Ψ2 sR _ ⟨rfl,BR (ln _ _ gL),?_⟩;show⟨λv6 τ Γ'=>∃(ds rs ss:List Str) (o8:Option T),v6=rs.map T.str∧fs++FV HK 26=ds++rs∧τ=[some (.ref a),some (.str word),some (.str AN),some (.int at_),some (.ref po),some (.ref sR),o6,some (.ref pn),o8]∧(∀z∈ss,Nm z)∧ss.Nodup∧ss.length≤9∧(ss.length=9∨∀z∈ds,z ≠ "" → z∈ss)∧Γ' pn=some (.lst (ss.map T.str))∧Γ' sR=some (.lst ((fs++FV HK 26).map T.str))∧Kq [sR,pn] Γ Γ',Ψ4 [] _ [] none ⟨rfl,rfl,rfl,λ_ h=>(nomatch h),VM,by decide,.inr λ_ h=>(nomatch h),gn,ln _ _ gL,(kq.mono (by simp)).trans ln.kq⟩,?_,?_⟩
  ·intro τ Γ2⟨ds,rs,ss,o8,LQ,ed,rfl,nm,nd,s9,xv,gs,OQ,JZ⟩
   let W4:rs=[]:=by
    cases rs with
    |nil=>rfl
    |cons _ _=>cases LQ
   subst W4;rw[Bg]at ed;show⟨BR OQ,?_⟩;left;let e9:ss.length=9:=by
    rcases xv with h|h
    ·show h
    ·exfalso
     have:=sub_len (l:=FV HK 26) (m:=ss) (uX HK) λz hz=>h z (by rw[←ed];show D2 _ hz) (We hz).2;rw[Wb]at this;lia
   show⟨AF Γ pn (.lst (ss.map T.str)),λb u g=>?_,q ss pn e9 nm nd bn⟩;by_cases e1:b=pn
   ·subst e1;rw[BN]at g;cases g;show gs
   ·rw[Ce e1]at g
    by_cases e2:b=sR
    ·subst e2;rw[bN]at g;cases g
    ·show JZ b u (by simp[e1,e2]) g
  ·intro x rr τ Γ2⟨ds,rs,ss,o8,LQ,ed,rfl,nm,nd,s9,xv,gs,OQ,JZ⟩
   cases rs with
   |nil=>cases LQ
   |cons z rs=>
    cases LQ;let cz:Cd z:=by
     have:z∈fs++FV HK 26:=by rw[ed];simp
     rcases aaK.mp this with h|h
     ·show hfs z h
     ·show(We h).1
    show⟨BR OQ,?_⟩;left;show⟨λτ Γ'=>∃(ss:List Str),τ=[some (.ref a),some (.str word),some (.str AN),some (.int at_),some (.ref po),some (.ref sR),o6,some (.ref pn),some (.str z)]∧(∀z∈ss,Nm z)∧ss.Nodup∧ss.length≤9∧(ss.length=9∨∀y∈ds++[z],y ≠ "" → y∈ss)∧Γ' pn=some (.lst (ss.map T.str))∧Γ' sR=some (.lst ((fs++FV HK 26).map T.str))∧Kq [sR,pn] Γ Γ',?_,?_⟩
    ·left
     let same:(z = "" ∨ z∈ss∨ss.length=9)→ss.length=9∨∀y∈ds++[z],y ≠ "" → y∈ss:=λh=>by
      rcases xv with h9|ha
      ·show .inl h9
      rcases h with h|h|h
      ·show .inr λy hy ny=>?_
       rcases aaK.mp hy with hy|hy
       ·show ha y hy ny
       ·rw[aam.mp hy]at ny;show absurd h ny
      ·show .inr λy hy ny=>?_
       rcases aaK.mp hy with hy|hy
       ·show ha y hy ny
       ·rw[aam.mp hy];show h
      ·show .inl h
     show AH (λc1=>?_) (λc1=>?_)
     ·let c1:z ≠ "" := λe=>by rw[e]at c1;simp at c1
      left;show gZ gs rfl (S9 ss) rfl (uZ ss) ?_;show ∃k,T.bl (!E0 (.str z) (ss.map V.str))=.bl k∧_
      rw[Ju];exists c2
      ·let c2:z∉ss:=by simpa using c2
       left;show GK gs ?_;rw[Ag];exists c3
       ·let c3:=Bd c3
        left;show G9 gs ?_;left;show Ψ3 pn _ _ ⟨rfl,rfl,gs,BU (by rw[Ag];lia),?_⟩;left;show⟨ss++[z],rfl,λy hy=>?_,?_,by rw[B3];show ss.length+1≤9;lia,?_,by rw[Au];show BN,by rw[Ce ne];show OQ,JZ.trans (.set (by simp) _)⟩
        ·rcases aaK.mp hy with hy|hy
         ·show nm y hy
         ·rw[aam.mp hy];show cz.nm c1
        ·rw[aa9]
         show⟨nd,by simp,λx hx y hy e=>c2 ?_⟩;rw[aam]at hy;rw[←hy,←e];show hx
        ·rcases xv with h9|ha
         ·lia
         ·show .inr λy hy ny=>?_
          rcases aaK.mp hy with hy|hy
          ·show K6 _ (ha y hy ny)
          ·show D2 _ hy
       ·let c3:=DC c3
        left;show⟨ss,rfl,nm,nd,s9,same (.inr (.inr (by lia))),gs,OQ,JZ⟩
      ·let c2:z∈ss:=by simpa using c2
       left;show⟨ss,rfl,nm,nd,s9,same (.inr (.inl c2)),gs,OQ,JZ⟩
     ·let c1:z = "" := by simpa using c1
      left;show⟨ss,rfl,nm,nd,s9,same (.inl c1),gs,OQ,JZ⟩
    intro τ Γ3⟨ss2,rfl,nm2,nd2,s92,S5,gs2,gL3,WJ⟩;left;show Ψ4 (ds++[z]) rs ss2 _ ⟨rfl,by rw[ed];simp,rfl,nm2,nd2,s92,S5,gs2,gL3,WJ⟩
 ·intro x rr τ Γ'⟨i,m,o6,er,im,rfl,gL,kq⟩
  let⟨m',rfl,rfl,rfl⟩:=Jb er;let Te:=kq _ _ (by simpa using na) ga;left;show G9 gL ?_;left;show B6 Te x19 ?_;left;clear Pq OA TJ Γa Tj Si
  left;show Ψ2 Pq [HK+7*(i:Int)] ⟨rfl,Tj,by show 1≤1000;decide,?_⟩;left;show Ψ3 sR _ _ ⟨rfl,rfl,Si _ _ gL,BU (by rw[Ag,B3,Wb];lia),?_⟩;left;show Ψ3 (i+1) m' _ ⟨rfl,by lia,rfl,?_,(kq.trans Si.kq).trans (.set (by simp) _)⟩;rw[BN,abU,←ND,Au (l₁:=fs++FV HK i)];rfl
end
abbrev II(c:Int):Bool:=decide (32≤c)&&decide (c≤126)&&!decide (c=37)
abbrev af(w:Int):T→Bool
 |.int i=>decide (-((65536:Int)^w.toNat)≤2*i)&&decide (2*i≤(65536:Int)^w.toNat-2)
 |_=>false
abbrev jn:T→Bool
 |.str z=>decide (z.length≤60)&&z.cps.toList.all λc=>II (c:Nat)
 |_=>false
mutual
def BQ:Kd→T→Bool
 |.num w,t=>af w t
 |.text,t=>jn t
 |.row k,.tup ts=>decide (ts.length≤60)&&ts.all (BQ k)
 |.rec_ fs,.tup ts=>decide (ts.length=fs.length)&&GL fs ts
 |.pick fs,.tup [.str n,x]=>FO fs n x
 |_,_=>false
def GL:List (Str×Kd)→List T→Bool
 |(_,k)::fs,t::ts=>BQ k t&&GL fs ts
 |_,_=>true
def FO:List (Str×Kd)→Str→T→Bool
 |(m,k)::fs,n,x=>(decide (m=n)&&BQ k x)||FO fs n x
 |[],_,_=>false
end
section
variable {K: W.Frag}{v3: Value}
@[reducible]def Uz:Stmt:=B8 28
def yh:B0 ["number"] ["number"] (An Uz):=nofun
abbrev Wi:B4:=λts Γ Z _=>∃c:Int,ts=[.int c]∧Z (.bl (II c)) Γ
def ku(F:cH K "is_sign" "is_sign" Uz f fd)(kL:mg "FIRST_SIGN" = some v1)(xA:DU v1 (.int 32))(mB:mg "LAST_SIGN" = some v2)(ze:DU v2 (.int 126))(iu:mg "HUNDREDTH_SIGN" = some v3)(qN:DU v3 (.int 37)):bq P w K mg am Ax 1 f fd ["number"] (Aw Wi):=by
 show B7 F yh (λts Γ Z Y h=>?_) (λcy A outer s H E ts Γ Z Y hr h=>?_)
 ·let⟨t,rfl,_⟩:=h
  rfl
 let⟨c,rfl,q⟩:=h;show⟨_,(A5 (AJ (CC (Q5 El El (Eo rfl kL xA) (A3 0) (Eo rfl mB ze)) (CM (CR EF (A3 0) (Eo rfl iu qN)))))
  AB),?_⟩
 simp only[Az];unfold II at q;exists c1;rotate_left
 ·rw[c1]at q
  left;show AD .refl q
 rw[c1,BM]at q;exists c2;rotate_left
 ·rw[c2]at q
  show AD .refl q
 rw[c2,BM]at q;left;show AD .refl ?_;rw[show decide (V.int c=V.int 37)=decide (c=37)from abj.mpr ⟨V.int.inj,λe=>by rw[e]⟩];show q
@[reducible]def UK:Stmt:=B8 26
def i6:B0 ["width","thing","numbers","word"] ["width","thing"] (An UK):=nofun
abbrev T6:B4:=λts Γ Z _=>∃(wd:Int) (t:T),ts=[.int wd,t]∧0≤wd∧wd≤4∧Pt Γ t∧Z (.bl (af wd t)) Γ
def acv(F:cH K "is_number" "is_number" UK f fd)(cv:Ab P w K mg am "is_whole" 1 ["thing"] Fm)(jq:mg "WORD_NUMBERS" = some v1)(uq:DU v1 (.int 65536))(bJ:mg "range" = none):bq P w K mg am Ax 2 f fd ["width","thing"] (Aw T6):=by
 show B7 F i6 (λts Γ Z Y h=>?_) (λcy A outer s H E ts Γ Z Y hr h=>?_)
 ·let⟨wd,t,rfl,_⟩:=h
  rfl
 let⟨wd,t,rfl,w0,w4,pt,q⟩:=h;show⟨_,(A5 (Ah (BL (BG (Aj cv hr (A4 (A3 1) A9)))) (A5 (AJ BH)
  AB) AB)
  (A5 (Ar (i:=2) i6.nd A7)
  (A5 (GS Gh rfl (Js rfl bJ (A4 (A3 0) A9)) (B5 (i:=3) i6.nd) (A5 (zH (i:=2) i6.nd rfl (Or.inl rfl) (Eo rfl jq uq) abF)
  AB))
  (A5 (AJ (Q5 El El (EZ (A3 2)) (AG HF A7 (A3 1)) (AG GI (A3 2) A7)))
  AB)))),?_⟩
 simp only[Az];left;show⟨t,rfl,pt,?_⟩;exists c
 ·left
  show AD .refl ?_;cases t with
  |int i=>cases c
  |_=>show q
 let⟨i,rfl⟩:=NQ (t:=t) (by simpa using c);left;show⟨wd,rfl,by lia,by lia,?_⟩;show⟨λv6 τ Γ'=>∃(j n:Nat) (o:Option T),v6=EU j n∧j+n=wd.toNat∧τ=[some (.int wd),some (.int i),some (.int (65536^j)),o]∧Γ'=Γ,Ψ3 0 wd.toNat none ⟨by simp,by simp,rfl,rfl⟩,?_,?_⟩
 ·intro τ Γ'⟨j,n,o,er,e,rfl,rfl⟩
  have:=KR er;subst this;show⟨trivial,?_⟩;let ej:j=wd.toNat:=by lia
  subst ej;let q:Z (.bl (decide (-((65536:Int)^wd.toNat)≤2*i)&&decide (2*i≤(65536:Int)^wd.toNat-2))) Γ':=q;exists c1
  ·rw[c1,BM]at q
   left;show AD .refl q
  ·rw[c1]at q
   show AD .refl q
 ·intro x r τ Γ'⟨j,n,o,er,e,rfl,rfl⟩
  let⟨m,rfl,rfl,rfl⟩:=Jb er;left;show⟨.int (65536^j),rfl,?_⟩;left;show Ψ3 (j+1) m _ ⟨rfl,by lia,rfl,rfl⟩
@[reducible]def Rj:Stmt:=B8 27
def pY:B0 ["thing"] ["thing"] (An Rj):=nofun
abbrev RN:B4:=λts Γ Z _=>∃t:T,ts=[t]∧Pt Γ t∧Z (.bl (jn t)) Γ
def wU(F:cH K "is_text" "is_text" Rj f fd)(DX:Ab P w K mg am "is_sign" 1 ["number"] Wi)(kK:mg "MOST_SIGNS" = some v1)(xx:DU v1 (.int 60))(ai:mg "isinstance" = none)(bK:mg "str" = none)(aC:mg "len" = none)(bx:mg "all" = none)(Eh:mg "ord" = none):bq P w K mg am Ax 2 f fd ["thing"] (Aw RN):=by
 show B7 F pY (λts Γ Z Y h=>?_) (λcy A outer s H E ts Γ Z Y hr h=>?_)
 ·let⟨t,rfl,_⟩:=h
  rfl
 let⟨t,rfl,pt,q⟩:=h;show⟨_,(A5 (Ah (PW.pt (By (BL (BG (C5 rfl ai rfl bK G7 (A3 0)))) (Cu (Aq Ii (Ap KS rfl aC BD (A4 (A3 0) A9)) (Eo rfl kK xx))))) (A5 (AJ BH)
  AB) AB)
  (A5 (AJ (Ap (FN rfl) rfl bx FY (A4 (Cs (own:=["sign"]) (cap:=[]) Ec rfl (NL (A3 0)) (λ_ _ _ _=>GQ) (λ_ _ _ _=>DJ) (λ_ _ _ _=>(Aj DX hr (A4 (Ap (abr) rfl Eh PyProof.Rows.boot_ord (A4 (A3 0) A9)) A9)))) A9)))
  AB)),?_⟩
 simp only[Az];left;show BP (in_str pt) ?_;exists c
 ·left
  show AD .refl ?_;cases t with
  |str z=>cases c
  |_=>show q
 let⟨z,rfl⟩:=HL (t:=t) (by simpa using c);let zl:=pt.txt;let q:Z (.bl (decide (z.length≤60)&&z.cps.toList.all λc=>II (c:Nat))) Γ:=q;left;show⟨z,rfl,Ci zl (by decide),?_⟩;exists c1
 ·let c1:=Bd c1
  left;rw[CA (show ¬z.length≤60 by lia),CZ]at q;show AD .refl q
 let c1:=DC c1;rw[BE (show z.length≤60 by lia),BM]at q;left;show⟨Bu (BU (by unfold Hk;rw[Ag,G3];lia)),?_⟩;show⟨λv6 τ ys Γ'=>∃(cs ds:List Nat) (o:Option T),v6=cs.map (λc=>T.str ⟨#[c]⟩)∧z.cps.toList=ds++cs∧τ=[o]∧ys=(ds.map λc=>II (c:Nat)).map T.bl∧Γ'=Γ,Ψ3 z.cps.toList [] none ⟨rfl,rfl,rfl,rfl,rfl⟩,?_,?_⟩
 ·intro τ ys Γ'⟨cs,ds,o,er,ez,rfl,rfl,rfl⟩
  let hz:cs=[]:=by
   cases cs with
   |nil=>rfl
   |cons _ _=>cases er
  subst hz;rw[Bg]at ez;subst ez;show⟨trivial,?_⟩;clear p1 fO e1 Γ1 g1 l1
  left;show Ψ2 p1 _ ⟨rfl,BR g1,?_⟩;rw[FZ];show AD l1 q
 ·intro x r τ ys Γ'⟨cs,ds,o,er,ez,rfl,rfl,rfl⟩
  cases cs with
  |nil=>cases er
  |cons c cs=>
   cases er;show⟨trivial,?_⟩;left;show⟨_,rfl,rfl,?_⟩;left;show⟨_,rfl,?_⟩;show Ψ3 cs (ds++[c]) _ ⟨rfl,by rw[ez];simp,rfl,by rw[Au,Au];rfl,rfl⟩
@[reducible]def OC:Stmt:=B8 25
def rf:B0 ["kind","thing","head"] ["kind","thing"] (An OC):=nofun
abbrev Gm(n:Nat):B4:=λts Γ Z _=>∃(k:Kd) (t:T),ts=[k.tr,t]∧k.good∧k.depth<n∧Pt Γ t∧Z (.bl (BQ k t)) Γ
@[reducible]def My:Stmt:=B8 29
def oq:B0 ["fields","parts"] ["fields","parts"] (An My):=nofun
abbrev RE(n:Nat):B4:=λts Γ Z _=>∃(fs:ad) (us:List T),ts=[.tup (Br fs),.tup us]∧D4 fs∧fs.length≤6∧E9 fs<n∧Pt Γ (.tup us)∧Z (.bl (decide (us.length=fs.length)&&GL fs us)) Γ
def Ml:∀{fs:List (Str×Kd)} {p:Str×Kd},D4 fs→p∈fs→p.2.good
 |(n,k)::r,p,h,hp=>by
  unfold D4 at h;rcases aaf.mp hp with rfl|hp
  ·show h.2.1
  ·show Ml h.2.2 hp
def qZ(F:cH K "is_record" "is_record" My f fd)(cP:Ab P w K mg am "is_worth" (lv+1) ["kind","thing"] (Gm n))(aC:mg "len" = none)(bx:mg "all" = none)(eK:mg "zip" = none):bq P w K mg am Ax (lv+2) f fd ["fields","parts"] (Aw (RE n)):=by
 show B7 F oq (λts Γ Z Y h=>?_) (λcy A outer s H E ts Γ Z Y hr h=>?_)
 ·let⟨fs,us,rfl,_⟩:=h
  rfl
 let⟨fs,us,rfl,gf,f6,df,pt,q⟩:=h;show⟨_,(A5 (Ah (Aq EF (Ap BY rfl aC BD (A4 (A3 1) A9)) (Ap BY rfl aC BD (A4 (A3 0) A9))) (A5 (AJ BH)
  AB) AB)
  (A5 (AJ (Ap (FN rfl) rfl bx FY (A4 (Cs (own:=["name","inner","part"]) (cap:=[]) Ec rfl (U6 rfl eK (A4 (A3 0) (A4 (A3 1) A9))) (λ_ _ _ _=>(Cg (n:=2) rfl (Ak (Cg (n:=2) rfl (Ak (BX (i:=0) (show List.Nodup (["name","inner","part"]:List Str)from by done) rfl (Or.inl rfl) (Or.inr rfl)) (Ak (BX (i:=1) (show List.Nodup (["name","inner","part"]:List Str)from by done) rfl (Or.inl rfl) (Or.inr rfl)) CW))) (Ak (BX (i:=2) (show List.Nodup (["name","inner","part"]:List Str)from by done) rfl (Or.inl rfl) (Or.inr rfl)) CW)))) (λ_ _ _ _=>DJ) (λ_ _ _ _=>(Aj cP hr (A4 (A3 1) (A4 (A3 2) A9))))) A9)))
  AB)),?_⟩
 simp only[Az];let⟨tl,tm⟩:=pt.items;left;rw[FW];show AH (λc=>?_) (λc=>?_)
 ·let c:us.length≠fs.length:=λe=>by rw[e]at c;simp at c
  left;rw[CA c]at q;show AD .refl q
 let c:us.length=fs.length:=by
  have:decide (V.int (us.length:Int)=V.int (fs.length:Nat))=true:=by simpa using c
  have:=Ip this;lia
 rw[BE c,BM]at q;left;show⟨Bu (BU (by rw[Jd,FW];lia)),?_⟩;show⟨λv6 τ ys Γ'=>∃(gs:ad) (vs:List T) (bs:List Bool) (o1 o2 o3:Option T),v6=Ew (Br gs) vs∧(∀p∈gs,p∈fs)∧(∀t∈vs,t∈us)∧gs.length=vs.length∧τ=[o1,o2,o3]∧ys=bs.map T.bl∧GL fs us=(bs.all id&&GL gs vs)∧Γ'=Γ,Ψ6 fs us [] none none none ⟨rfl,λ_ h=>h,λ_ h=>h,c.symm,rfl,rfl,by simp,rfl⟩,?_,?_⟩
 ·intro τ ys Γ'⟨gs,vs,bs,o1,o2,o3,er,_,_,el,rfl,rfl,e,rfl⟩
  let hz:gs=[]:=by
   cases gs with
   |nil=>rfl
   |cons p gs=>
    cases vs with
    |nil=>cases el
    |cons t vs=>cases er
  subst hz;show⟨trivial,?_⟩;clear p1 fO e1 Γ1 g1 l1
  left;show Ψ2 p1 bs ⟨rfl,BR g1,?_⟩;rw[e]at q;unfold GL at q;rw[LL]at q;show AD l1 q
 ·intro x r τ ys Γ'⟨gs,vs,bs,o1,o2,o3,er,hg,hv,el,rfl,rfl,e,rfl⟩
  cases gs with
  |nil=>cases er
  |cons p gs=>
   cases vs with
   |nil=>cases el
   |cons t vs=>
    obtain⟨nm,k⟩:=p;cases er;show⟨trivial,?_⟩;left;show Ψ2 k t ⟨rfl,Ml (p:=(nm,k)) gf (hg (nm,k) (by simp)),D3 (JH (p:=(nm,k)) (hg (nm,k) (by simp))) df,tm t (hv t (by simp)),?_⟩;show Ψ6 gs vs (bs++[BQ k t]) _ _ _ ⟨rfl,λp h=>hg p (Dm _ h),λp h=>hv p (Dm _ h),by simpa using el,rfl,by simp,?_,rfl⟩;rw[e,GL,Me];simp[QR]
@[reducible]def N4:Stmt:=B8 30
def pD:B0 ["fields","pair"] ["fields","pair"] (An N4):=nofun
abbrev RM(n:Nat):B4:=λts Γ Z _=>∃(fs:ad) (us:List T),ts=[.tup (Br fs),.tup us]∧D4 fs∧fs.length≤6∧E9 fs<n∧Pt Γ (.tup us)∧Z (.bl (BQ (.pick fs) (.tup us))) Γ
def Qh:∀{us:List T},us.length≠2→BQ (.pick fs) (.tup us)=false
 |[],_=>by unfold BQ;rfl
 |[a],_=>by cases a<;>(unfold BQ;rfl)
 |[a,b],h=>absurd rfl h
 |a::b::c::r,_=>by cases a<;>(unfold BQ;rfl)
def Uh{a:T}(h:isStr a=false):BQ (.pick fs) (.tup [a,b])=false:=by
 cases a with
 |str z=>cases h
 |_=>unfold BQ;rfl
def Sa:BQ (.pick fs) (.tup [.str z,b])=FO fs z b:=by rw[BQ]
def vE(F:cH K "is_choice" "is_choice" N4 f fd)(cP:Ab P w K mg am "is_worth" (lv+1) ["kind","thing"] (Gm n))(aC:mg "len" = none)(oN:mg "any" = none)(ai:mg "isinstance" = none)(bK:mg "str" = none):bq P w K mg am Ax (lv+2) f fd ["fields","pair"] (Aw (RM n)):=by
 show B7 F pD (λts Γ Z Y h=>?_) (λcy A outer s H E ts Γ Z Y hr h=>?_)
 ·let⟨fs,us,rfl,_⟩:=h
  rfl
 let⟨fs,us,rfl,gf,f6,df,pt,q⟩:=h;show⟨_,(A5 (Ah (PW.pt (By (Aq EF (Ap BY rfl aC BD (A4 (A3 1) A9)) A7) (Cu (BL (BG (C5 rfl ai rfl bK G7 (AK (A3 1) A7))))))) (A5 (AJ BH)
  AB) AB)
  (A5 (AJ (Ap (g0 rfl) rfl oN PyProof.Rows.boot_any (A4 (Cs (own:=["name","inner"]) (cap:=[(1,"pair")]) (FK rfl (by done) (by done) rfl (⟨rfl,trivial⟩) rfl (⟨⟨rfl,rfl,rfl⟩,trivial⟩)) rfl (Du (A3 0)) (λ_ _ _ _=>(Cg (n:=2) rfl (Ak (BX (i:=0) (show List.Nodup (["name","inner","pair"]:List Str)from by done) rfl (Or.inl rfl) (Or.inr rfl)) (Ak (BX (i:=1) (show List.Nodup (["name","inner","pair"]:List Str)from by done) rfl (Or.inl rfl) (Or.inr rfl)) CW)))) (λ_ _ _ _=>DJ) (λ_ _ _ _=>(CC (CR BI (A3 0) (AK (A3 2) A7)) (CM (Aj cP hr (A4 (A3 1) (A4 (AK (A3 2) A7) A9))))))) A9)))
  AB)),?_⟩
 simp only[Az];let⟨tl,tm⟩:=pt.items;exists c
 ·let c:us.length≠2:=λe=>by rw[e]at c;revert c;decide
  left;rw[Qh c]at q;show AD .refl q
 let c:us.length=2:=by
  have:decide (V.int (us.length:Int)=V.int 2)=true:=by simpa using c
  have:=Ip this;lia
 match us,c with
 |[a,b],_=>
  left;show BP (in_str (tm a (by simp))) ?_;exists c1
  ·left
   rw[Uh (by simpa using c1)]at q;show AD .refl q
  let⟨z,rfl⟩:=HL (t:=a) (by simpa using c1);rw[Sa]at q;left;show⟨Bu (BU (by rw[FW];lia)),?_⟩;show⟨λv6 τ ys Γ'=>∃(gs:List (Str×Kd)) (bs:List Bool) (o1 o2:Option T),v6=Br gs∧(∀p∈gs,p∈fs)∧τ=[o1,o2,some (.tup [.str z,b])]∧ys=bs.map T.bl∧FO fs z b=(bs.any id||FO gs z b)∧Γ'=Γ,Ψ4 fs [] none none ⟨rfl,λ_ h=>h,rfl,rfl,by simp,rfl⟩,?_,?_⟩
  ·intro τ ys Γ'⟨gs,bs,o1,o2,er,_,rfl,rfl,e,rfl⟩
   let hz:gs=[]:=by
    cases gs with
    |nil=>rfl
    |cons p gs=>cases er
   subst hz;show⟨trivial,?_⟩;clear p1 fO e1 Γ1 g1 l1
   left;show Ψ2 p1 bs ⟨rfl,BR g1,?_⟩;rw[e]at q;unfold FO at q;rw[VP]at q;show AD l1 q
  ·intro x r τ ys Γ'⟨gs,bs,o1,o2,er,hg,rfl,rfl,e,rfl⟩
   cases gs with
   |nil=>cases er
   |cons p gs=>
    obtain⟨nm,k⟩:=p;cases er;show⟨trivial,?_⟩;left;let XM:decide (V.str nm=V.str z)=decide (nm=z):=abj.mpr ⟨V.str.inj,λe=>by rw[e]⟩;rw[XM];show AH (λc2=>?_) (λc2=>?_)
    ·left
     show Ψ2 k b ⟨rfl,Ml (p:=(nm,k)) gf (hg (nm,k) (by simp)),D3 (JH (p:=(nm,k)) (hg (nm,k) (by simp))) df,tm b (by simp),?_⟩;show Ψ4 gs (bs++[BQ k b]) _ _ ⟨rfl,λp h=>hg p (Dm _ h),rfl,by simp,?_,rfl⟩;rw[e,FO,List.any_append,c2];simp[Bool.or_assoc]
    ·show Ψ4 gs (bs++[false]) _ _ ⟨rfl,λp h=>hg p (Dm _ h),rfl,by simp,?_,rfl⟩
     rw[e,FO,List.any_append,c2];simp
def ab9(F:cH K "is_worth" "is_worth" OC f fd)(jP:Ab P w K mg am "is_number" 2 ["width","thing"] T6)(nj:Ab P w K mg am "is_text" 2 ["thing"] RN)(cP:Ab P w K mg am "is_worth" (lv+1) ["kind","thing"] (Gm n))(zF:Ab P w K mg am "is_record" (lv+2) ["fields","parts"] (RE n))(zG:Ab P w K mg am "is_choice" (lv+2) ["fields","pair"] (RM n))(cU:mg "MOST_ITEMS" = some v1)(fh:DU v1 (.int 60))(ai:mg "isinstance" = none)(aB:mg "tuple" = none)(aC:mg "len" = none)(bx:mg "all" = none):bq P w K mg am Ax (lv+3) f fd ["kind","thing"] (Aw (Gm (n+1))):=by
 show B7 F rf (λts Γ Z Y h=>?_) (λcy A outer s H E ts Γ Z Y hr h=>?_)
 ·let⟨k,t,rfl,_⟩:=h
  rfl
 let⟨k,t,rfl,kg,kd,pt,q⟩:=h;show⟨_,(A5 (Ar (i:=2) rf.nd (AK (A3 0) A7))
  (A5 (Ah (Aq BI (A3 2) AP) (A5 (AJ (Aj jP hr (A4 (AK (A3 0) A7) (A4 (A3 1) A9))))
  AB) AB)
  (A5 (Ah (Aq BI (A3 2) AP) (A5 (AJ (Aj nj hr (A4 (A3 1) A9)))
  AB) AB)
  (A5 (Ah (BL (BG (C5 rfl ai rfl aB DS (A3 1)))) (A5 (AJ BH)
  AB) AB)
  (A5 (Ah (Aq BI (A3 2) AP) (A5 (AJ (CC (CR El (Ap BY rfl aC BD (A4 (A3 1) A9)) (Eo rfl cU fh)) (CM (Ap (FN rfl) rfl bx FY (A4 (Cs (own:=["item"]) (cap:=[(0,"kind")]) (FK rfl (by done) (by done) rfl (⟨rfl,trivial⟩) rfl (⟨⟨rfl,rfl,rfl⟩,trivial⟩)) rfl (Du (A3 1)) (λ_ _ _ _=>(BX (i:=0) (show List.Nodup (["item","kind"]:List Str)from by done) rfl (Or.inl rfl) (Or.inr rfl))) (λ_ _ _ _=>DJ) (λ_ _ _ _=>(Aj cP hr (A4 (AK (A3 1) A7) (A4 (A3 0) A9))))) A9)))))
  AB) AB)
  (A5 (Ah (Aq BI (A3 2) AP) (A5 (AJ (Aj zF hr (A4 (AK (A3 0) A7) (A4 (A3 1) A9))))
  AB) AB)
  (A5 (AJ (Aj zG hr (A4 (AK (A3 0) A7) (A4 (A3 1) A9))))
  AB))))))),?_⟩
 simp only[Az];cases k with
 |num wd=>
  rw[Kd.tr];unfold Kd.good at kg;left;show Ψ2 wd t ⟨rfl,by lia,by lia,pt,AD .refl (by unfold BQ at q;show q)⟩
 |text=>
  rw[Kd.tr];left;show⟨t,rfl,pt,AD .refl (by unfold BQ at q;show q)⟩
 |row k=>
  rw[Kd.tr];unfold Kd.good at kg;unfold Kd.depth at kd;left;show BP (DM pt) ?_;exists c
  ·left
   show AD .refl ?_;cases t with
   |tup ts=>cases c
   |_=>unfold BQ at q;show q
  let⟨ts,rfl⟩:=Dt (t:=t) (by simpa using c);let⟨tl,tm⟩:=pt.items;rw[BQ]at q;exists c1;rotate_left
  ·let c1:=DC c1
   rw[CA (show ¬ts.length≤60 by lia)]at q;show AD .refl q
  let c1:=Bd c1;rw[BE (show ts.length≤60 by lia),BM]at q;left;show⟨Bu (BU (by lia)),?_⟩;show⟨λv6 τ ys Γ'=>∃(ds:List T) (o:Option T),ts=ds++v6∧τ=[o,some (.tup [.str "row",k.tr])]∧ys=(ds.map (BQ k)).map T.bl∧Γ'=Γ,Ψ2 [] none ⟨rfl,rfl,rfl,rfl⟩,?_,?_⟩;rotate_left
  ·intro x r τ ys Γ'⟨ds,o,ez,rfl,rfl,rfl⟩
   show⟨trivial,?_⟩;left;show Ψ2 k x ⟨rfl,kg,by lia,tm x (by rw[ez];simp),?_⟩;show Ψ2 (ds++[x]) _ ⟨by rw[ez];simp,rfl,by rw[Au,Au];rfl,rfl⟩
  intro τ ys Γ'⟨ds,o,ez,rfl,rfl,rfl⟩;rw[Bg]at ez;subst ez;show⟨trivial,?_⟩;clear p1 fO e1 Γ1 g1 l1
  left;show Ψ2 p1 _ ⟨rfl,BR g1,?_⟩;rw[FZ];show AD l1 q
 |rec_ fs=>
  rw[Kd.tr];unfold Kd.good at kg;unfold Kd.depth at kd;left;show BP (DM pt) ?_;exists c
  ·left
   show AD .refl ?_;cases t with
   |tup ts=>cases c
   |_=>unfold BQ at q;show q
  let⟨ts,rfl⟩:=Dt (t:=t) (by simpa using c);rw[BQ]at q;left;show Ψ2 fs ts ⟨rfl,kg.1,kg.2.2.1,by lia,pt,AD .refl q⟩
 |pick fs=>
  rw[Kd.tr];unfold Kd.good at kg;unfold Kd.depth at kd;left;show BP (DM pt) ?_;exists c
  ·left
   show AD .refl ?_;cases t with
   |tup ts=>cases c
   |_=>unfold BQ at q;show q
  let⟨ts,rfl⟩:=Dt (t:=t) (by simpa using c);left;show Ψ2 fs ts ⟨rfl,kg.1,kg.2.2.1,by lia,pt,AD .refl q⟩
end
def tN{α:Type}(o:Option (Nat×α))(i:Nat):(o.map λp=>(p.1+1,p.2)).map (λp=>(p.1+i,p.2))=o.map λp=>(p.1+(i+1),p.2):=by
 cases o with
 |none=>rfl
 |some p=>show some (p.1+1+i,p.2)=some (p.1+(i+1),p.2);congr 2;lia
section
variable {K: W.Frag}{dN: Addr}
@[reducible]def UC:Stmt:=B8 18
def gi:B0 ["kind","name","place","other","inner"] ["kind","name"] (An UC):=nofun
abbrev fS(D:Addr):B4:=λts Γ Z Y=>∃(hd:Str) (fs:ad) (x:T),ts=[.tup [.str hd,.tup (Br fs)],x]∧Sx x∧(∀j k,FR fs x=some (j,k)→Z (.int j) Γ)∧(FR fs x=none→Y (.ref D) Γ)
def pS(F:cH K "field_place" "field_place" UC f fd)(fB:mg "NoPart" = some (.ref dN))(oO:W.excIn K dN [.type "ValueError",.type "Exception",.type "BaseException",.type "object"] "ValueError.__new__" = true)
  (lJ:mg "enumerate" = none):bq P w K mg am (FF P w) 1 f fd ["kind","name"] (Aw (fS dN)):=by
 show Tz F gi (λts Γ Z Y h=>?_) (λcy A outer s H E ts Γ Z Y hr h=>?_)
 ·let⟨hd,fs,x,rfl,_⟩:=h
  rfl
 let⟨hd,fs,x,rfl,sx,q,qE⟩:=h;show⟨_,(A5 (GS cS rfl (rW rfl lJ (A4 (AK (A3 0) A7) A9)) (Cg (n:=2) rfl (Ak (B5 (i:=2) gi.nd) (Ak (Cg (n:=2) rfl (Ak (B5 (i:=3) gi.nd) (Ak (B5 (i:=4) gi.nd) CW))) CW))) (A5 (Ah (Aq BI (A3 3) (A3 1)) (A5 (AJ (A3 2))
  AB) AB)
  AB))
  (A5 (Qf rfl rfl fB oO Rc (A4 AP A9) Ur)
  AB)),?_⟩
 simp only[Az];left;show⟨λv6 τ Γ'=>∃(i:Nat) (gs:ad) (o2 o3 o4:Option T),v6=Ir i (Br gs)∧τ=[some (.tup [.str hd,.tup (Br fs)]),some x,o2,o3,o4]∧Γ'=Γ∧FR fs x=(FR gs x).map λp=>(p.1+i,p.2),?_,?_,?_⟩
 ·show Ψ5 0 fs none none none ⟨rfl,rfl,rfl,by cases FR fs x<;>rfl⟩
 ·intro τ Γ'⟨i,gs,o2,o3,o4,e,rfl,rfl,b⟩
  cases gs with
  |cons p r=>cases e
  |nil=>
   show⟨trivial,?_⟩;left;show⟨Γ',.refl,qE ?_⟩;rw[b];cases sx<;>rfl
 ·intro x0 r τ Γ'⟨i,gs,o2,o3,o4,e,rfl,rfl,b⟩
  cases gs with
  |nil=>cases e
  |cons p gs=>
   obtain⟨n,k⟩:=p;cases e;left;cases sx with
   |int j=>
    left;show Ψ5 (i+1) gs _ _ _ ⟨rfl,rfl,rfl,b⟩
   |@str z l=>
    exists c
    ·cases G1 c
     left;show AD .refl (q i k ?_);rw[b];show(if n=n then some (0,k)else _).map _=_
     rw[Aa rfl];show some (0+i,k)=_
     rw[Nat.zero_add]
    ·left
     show Ψ5 (i+1) gs _ _ _ ⟨rfl,rfl,rfl,?_⟩;rw[b];show(if n=z then some (0,k)else(findF gs z).map λp=>(p.1+1,p.2)).map _=_
     rw[AV (Fu c)];show tN _ _
def Sx.pt(h:Sx x):Pt Γ x:=by
 cases h with
 |int i=>show .int i
 |str l=>show .str (by lia)
@[reducible]def R0:Stmt:=B8 17
def oU:B0 ["kind","step","head"] ["kind","step"] (An R0):=nofun
abbrev aT(D:Addr):B4:=λts Γ Z Y=>∃(k:Kd) (x:T),ts=[k.tr,x]∧Sx x∧(∀k',stepK k x=some k'→Z k'.tr Γ)∧(stepK k x=none→Y (.ref D) Γ)
def lL(F:cH K "step_kind" "step_kind" R0 f fd)(cv:Ab P w K mg am "is_whole" 1 ["thing"] Fm)(vq:MX P w K mg am "field_place" 1 ["kind","name"] (fS dN))(fB:mg "NoPart" = some (.ref dN))(oO:W.excIn K dN [.type "ValueError",.type "Exception",.type "BaseException",.type "object"] "ValueError.__new__" = true)
  (cU:mg "MOST_ITEMS" = some v1) (fh:DU v1 (.int 60)):bq P w K mg am (FF P w) 2 f fd ["kind","step"] (Aw (aT dN)):=by
 show Tz F oU (λts Γ Z Y h=>?_) (λcy A outer s H E ts Γ Z Y hr h=>?_)
 ·let⟨k,x,rfl,_⟩:=h
  rfl
 let⟨k,x,rfl,sx,q,qE⟩:=h;show⟨_,(A5 (Ar (i:=2) oU.nd (AK (A3 0) A7))
  (A5 (Ah (Aq BI (A3 2) AP) (A5 (Ah (PW.pt (J3 (BG (Aj cv hr (A4 (A3 1) A9))) (Jt (TZ El Fy A7 (A3 1) (Eo rfl cU fh))))) (A5 (AJ (AK (A3 0) A7))
  AB) AB)
  (A5 (Qf rfl rfl fB oO Rc (A4 AP A9) Ur)
  AB)) AB)
  (A5 (Ah (Jq Ug (A3 2) (Ay (A4 AP (A4 AP A9))) (by with_unfolding_all rfl)) (A5 (AJ (AK (AK (AK (A3 0) A7) (VF vq hr kC (A4 (A3 0) (A4 (A3 1) A9)))) A7))
  AB) AB)
  (A5 (Qf rfl rfl fB oO Rc (A4 AP A9) Ur)
  AB)))),?_⟩
 simp only[Az];let no:stepK k x=none→∃Γ2,Le Γ2 Γ∧Y (.ref dN) Γ2:=λe=>⟨Γ,.refl,qE e⟩;cases k with
 |num wd=>rw[Kd.tr];left;show no rfl
 |text=>rw[Kd.tr];left;show no rfl
 |row j=>
  rw[Kd.tr];left;show⟨x,rfl,sx.pt,?_⟩;cases sx with
  |str l=>left;show no rfl
  |int i=>
   exists c
   ·left
    show AH (λc2=>?_) (λc2=>?_)
    ·left
     show AD .refl (q j ?_);show Aa ⟨Bd c,Bd c2⟩
    ·left
     show no (AV λz=>DC c2 z.2)
   ·left
    show no (AV λz=>DC c z.1)
 |rec_ fs=>
  rw[Kd.tr];left;show Ψ3 ("rec") fs x ⟨rfl,sx,λj k e=>?_,λe=>no (by show(FR fs x).map _=_;rw[e];rfl)⟩;let⟨n,rfl,m⟩:=NB e;show Gl (O0 m) ?_;left;show AD .refl (q k (by show(FR fs _).map _=_;rw[e];rfl))
 |pick fs=>
  rw[Kd.tr];left;show Ψ3 ("pick") fs x ⟨rfl,sx,λj k e=>?_,λe=>no (by show(FR fs x).map _=_;rw[e];rfl)⟩;let⟨n,rfl,m⟩:=NB e;show Gl (O0 m) ?_;left;show AD .refl (q k (by show(FR fs _).map _=_;rw[e];rfl))
@[reducible]def S3:Stmt:=B8 16
def i5:B0 ["kind","path","found","step"] ["kind","path"] (An S3):=nofun
abbrev Vx(D:Addr):B4:=λts Γ Z Y=>∃(k:Kd) (ps:List T),ts=[k.tr,.tup ps]∧(∀p∈ps,Sx p)∧(∀k',Di k ps=some k'→Z k'.tr Γ)∧(Di k ps=none→Y (.ref D) Γ)
def ot(F:cH K "part_kind" "part_kind" S3 f fd)(zx:MX P w K mg am "step_kind" 2 ["kind","step"] (aT dN)):bq P w K mg am (FF P w) 3 f fd ["kind","path"] (Aw (Vx dN)):=by
 show Tz F i5 (λts Γ Z Y h=>?_) (λcy A outer s H E ts Γ Z Y hr h=>?_)
 ·let⟨k,ps,rfl,_⟩:=h
  rfl
 let⟨k,ps,rfl,hp,q,qE⟩:=h;show⟨_,(A5 (Ar (i:=2) i5.nd (A3 0))
  (A5 (GS cS rfl (Du (A3 1)) (B5 (i:=3) i5.nd) (A5 (Ar (i:=2) i5.nd (VF zx hr kC (A4 (A3 2) (A4 (A3 3) A9))))
  AB))
  (A5 (AJ (A3 2))
  AB))),?_⟩
 simp only[Az];left;show⟨λv6 τ Γ'=>∃(k':Kd) (o3:Option T),τ=[some k.tr,some (.tup ps),some k'.tr,o3]∧Γ'=Γ∧(∀p∈v6,Sx p)∧Di k ps=Di k' v6,?_,?_,?_⟩
 ·show Ψ2 k none ⟨rfl,rfl,hp,rfl⟩
 ·intro τ Γ'⟨k',o3,rfl,rfl,A0,e⟩
  show⟨trivial,?_⟩;left;show AD .refl (q k' e)
 ·intro x r τ Γ'⟨k',o3,rfl,rfl,A0,e⟩
  have e':Di k ps=match stepK k' x with|some k2=>Di k2 r|none=>none:=e
  left;show Ψ2 k' x ⟨rfl,A0 x (by simp),λk3 e3=>?_,λe3=>⟨Γ',.refl,qE (by rw[e',e3])⟩⟩;left;show Ψ2 k3 _ ⟨rfl,rfl,λp hp=>A0 p (by simp[hp]),by rw[e',e3]⟩
@[reducible]def VU:Stmt:=B8 58
def adz:B0 ["kind","path"] ["kind","path"] (An VU):=nofun
abbrev F6:Option Kd→T
 |some k=>k.tr
 |none=>.non
abbrev Ly:B4:=λts Γ Z _=>∃(k:Kd) (ps:List T),ts=[k.tr,.tup ps]∧(∀p∈ps,Sx p)∧Z (F6 (Di k ps)) Γ
def mv(F:cH K "kind_at" "kind_at" VU f fd)(zA:MX P w K mg am "part_kind" 3 ["kind","path"] (Vx dN))(fB:mg "NoPart" = some (.ref dN))(xm:W.exmOne K (.ref dN) (.ref dN)=some true):bq P w K mg am Ax 4 f fd ["kind","path"] (Aw Ly):=by
 show B7 F adz (λts Γ Z Y h=>?_) (λcy A outer s H E ts Γ Z Y hr h=>?_)
 ·let⟨k,ps,rfl,_⟩:=h
  rfl
 let⟨k,ps,rfl,hp,q⟩:=h;show⟨_,(A5 (aay rfl rfl rfl fB (λ_ _ _ hx=>(A5 (AJ (VF zA hr hx (A4 (A3 0) (A4 (A3 1) A9))))
  AB)) (λ_=>(A5 (AJ Hs)
  AB)))
  AB),?_⟩
 simp only[Az];left;unfold bu;left;show Ψ2 k ps ⟨rfl,hp,λk' e=>AD .refl (by rw[e]at q;show q),λe=>⟨xm,?_⟩⟩;rw[e]at q;left;show AD .refl q
end
inductive Sm where
 |new (x:Str) (k:Kd) (w:T)
 |copy (x y:Str)
 |part (x y:Str) (p:List T)
 |put (y:Str) (p:List T) (x:Str)
 |add (y:Str) (p:List T) (x:Str)
 |drop (x:Str)
 |say (x:Str)
 |call (z:Option Str) (d:Str) (ns:List Str)
 |same (x y:Str) (a b:List Sm)
 |fail (n:Int)
 |tri (a b:List Sm)
 |back (x:Str)
abbrev Nr:Option Str→T
 |some z=>.str z
 |none=>.non
mutual
def Sm.tr:Sm→T
 |.new x k w=>.tup [.str "new",.str x,k.tr,w]
 |.copy x y=>.tup [.str "copy",.str x,.str y]
 |.part x y p=>.tup [.str "part",.str x,.str y,.tup p]
 |.put y p x=>.tup [.str "put",.str y,.tup p,.str x]
 |.add y p x=>.tup [.str "add",.str y,.tup p,.str x]
 |.drop x=>.tup [.str "drop",.str x]
 |.say x=>.tup [.str "say",.str x]
 |.call z d ns=>.tup [.str "call",Nr z,.str d,.tup (ns.map T.str)]
 |.same x y a b=>.tup [.str "same",.str x,.str y,.tup (C6 a),.tup (C6 b)]
 |.fail n=>.tup [.str "fail",.int n]
 |.tri a b=>.tup [.str "try",.tup (C6 a),.tup (C6 b)]
 |.back x=>.tup [.str "back",.str x]
def C6:List Sm→List T
 |[]=>[]
 |s::r=>s.tr::C6 r
end
def aR:∀ss:List Sm,C6 ss=ss.map Sm.tr
 |[]=>by rw[C6];rfl
 |s::r=>by rw[C6,aR r];rfl
def ME(ss:List Sm):(C6 ss).length=ss.length:=by rw[aR,Ag]
mutual
def Sm.Ok:Sm→Prop
 |.new x k w=>x.length≤1000∧k.good∧k.depth≤5∧∀Γ,Pt Γ w
 |.copy x y=>x.length≤1000∧y.length≤1000
 |.part x y p=>x.length≤1000∧y.length≤1000∧p.length≤100000∧∀t∈p,Sx t
 |.put y p x=>y.length≤1000∧x.length≤1000∧p.length≤100000∧∀t∈p,Sx t
 |.add y p x=>y.length≤1000∧x.length≤1000∧p.length≤100000∧∀t∈p,Sx t
 |.drop x=>x.length≤1000
 |.say x=>x.length≤1000
 |.call z d ns=>(∀x,z=some x→x.length≤1000)∧d.length≤1000∧ns.length≤100000∧∀x∈ns,x.length≤1000
 |.same x y a b=>x.length≤1000∧y.length≤1000∧a.length≤100000∧b.length≤100000∧DD a∧DD b
 |.fail _=>True
 |.tri a b=>a.length≤100000∧b.length≤100000∧DD a∧DD b
 |.back x=>x.length≤1000
def DD:List Sm→Prop
 |[]=>True
 |s::r=>s.Ok∧DD r
end
abbrev EB(x:Str):Bool:=As (.str x)
mutual
def Sm.fm:Sm→Nat→Bool
 |.new x k w,_=>EB x&&BQ k w
 |.copy x y,_=>EB x&&EB y
 |.part x y _,_=>EB x&&EB y
 |.put y _ x,_=>EB y&&EB x
 |.add y _ x,_=>EB y&&EB x
 |.drop x,_=>EB x
 |.say x,_=>EB x
 |.call z d ns,_=>z.all EB&&(EB d&&ns.all EB)
 |.same x y a b,d=>EB x&&(EB y&&((decide (d+1≤4)&&DL a (d+1))&&(decide (d+1≤4)&&DL b (d+1))))
 |.fail n,_=>decide (0≤n)&&decide (n≤999)
 |.tri a b,d=>(decide (d+1≤4)&&DL a (d+1))&&(decide (d+1≤4)&&DL b (d+1))
 |.back x,_=>EB x
def DL:List Sm→Nat→Bool
 |[],_=>true
 |s::r,d=>s.fm d&&DL r d
end
abbrev IG(ss:List Sm)(d:Nat):Bool:=decide (d≤4)&&DL ss d
abbrev Sm.word:Sm→Str
 |.new .. => "new"
 |.copy .. => "copy"
 |.part .. => "part"
 |.put .. => "put"
 |.add .. => "add"
 |.drop .. => "drop"
 |.say .. => "say"
 |.call .. => "call"
 |.same .. => "same"
 |.fail .. => "fail"
 |.tri .. => "try"
 |.back .. => "back"
abbrev Sm.ps:Sm→List T
 |.new x k w=>[.str x,k.tr,w]
 |.copy x y=>[.str x,.str y]
 |.part x y p=>[.str x,.str y,.tup p]
 |.put y p x=>[.str y,.tup p,.str x]
 |.add y p x=>[.str y,.tup p,.str x]
 |.drop x=>[.str x]
 |.say x=>[.str x]
 |.call z d ns=>[Nr z,.str d,.tup (ns.map T.str)]
 |.same x y a b=>[.str x,.str y,.tup (C6 a),.tup (C6 b)]
 |.fail n=>[.int n]
 |.tri a b=>[.tup (C6 a),.tup (C6 b)]
 |.back x=>[.str x]
def Sm.P8(s:Sm):s.tr=.tup (.str s.word::s.ps):=by cases s<;>(unfold Sm.tr;rfl)
abbrev sorts:List (Str×List Str):=[("new",["name","kind","worth"]),("copy",["name","name"]),("part",["name","name","path"]),("put",["name","path","name"]),("add",["name","path","name"]),("drop",["name"]),("say",["name"]),("call",["name\x20or\x20none","name","names"]),("same",["name","name","body","body"]),("fail",["fail"]),("try",["body","body"]),("back",["name"])]
abbrev PU(P:Program)(w:World)(K:W.Frag)(a:Addr):Prop:=∃bs:List Addr,bs.length=12∧Cz P w K a ((sorts.map (·.1)).zip bs)∧∀(i:Nat) (z:Str) (ss:List Str) (b:Addr),sorts[i]?=some (z,ss)→bs[i]?=some b→fo K b (ss.map V.str)
def bC{H:AA}:∀ss:List Str,Rs H (ss.map V.str) (ss.map T.str)
 |[]=>FL
 |_::r=>FU Hw (bC r)
def kt_str{K:W.Frag}{b:Addr}(h:fo K b (ss.map V.str)):KT K b (ss.map T.str):=⟨_,h,λH=>bC ss⟩
def qu(h:97≤c∧c≤122):Ht c=true:=by
 rw[vH c (by lia)];simp[h.1,h.2]
def L8(h:Nm z):As (.str z)=true:=by
 rw[JN,BE h.1,BE h.2.1,BM,BM,aaW];exactλc hc=>qu (h.2.2 c hc)
def TQ(fs:ad):(Br fs).map Eg=fs.map (·.1):=by
 rw[KW,FJ];rfl
mutual
theorem Tx:∀{k:Kd} {d:Nat},k.good→k.depth≤d→B2 d k.tr=true
 |.num w,d,g,h=>by
  rw[Kd.depth]at h;obtain⟨d,rfl⟩:∃e,d=e+1:=⟨d-1,by lia⟩;unfold Kd.good at g;rw[Kd.tr,LR,Aa rfl];show(decide (1≤w)&&decide (w≤4))=true
  rw[BE g.1,BE g.2];rfl
 |.text,d,g,h=>by
  rw[Kd.depth]at h;obtain⟨d,rfl⟩:∃e,d=e+1:=⟨d-1,by lia⟩;rw[Kd.tr,Qx];show BE rfl
 |.row k,d,g,h=>by
  rw[Kd.depth]at h;obtain⟨d,rfl⟩:∃e,d=e+1:=⟨d-1,by lia⟩;unfold Kd.good at g;rw[Kd.tr,LR,AV (by done),Aa rfl];show Tx g (by lia)
 |.rec_ fs,d,g,h=>by
  rw[Kd.depth]at h;obtain⟨d,rfl⟩:∃e,d=e+1:=⟨d-1,by lia⟩;unfold Kd.good at g;rw[Kd.tr,LR,AV (by done),AV (by done),I0,RP g.1 (by lia),FW,BE g.2.1,BE g.2.2.1,TQ,BE g.2.2.2];done
 |.pick fs,d,g,h=>by
  rw[Kd.depth]at h;obtain⟨d,rfl⟩:∃e,d=e+1:=⟨d-1,by lia⟩;unfold Kd.good at g;rw[Kd.tr,LR,AV (by done),AV (by done),I0,RP g.1 (by lia),FW,BE g.2.1,BE g.2.2.1,TQ,BE g.2.2.2];done
theorem RP:∀{fs:List (Str×Kd)} {d:Nat},D4 fs→E9 fs≤d→(Br fs).all (ES (B2 d))=true
 |[],d,g,h=>rfl
 |(n,k)::r,d,g,h=>by
  rw[E9]at h;unfold D4 at g;rw[Br,F4,RP g.2.2 (by lia),LL];show(As (.str n)&&B2 d k.tr)=true
  rw[L8 g.1,Tx g.2.1 (by lia)];rfl
end
def Q6(h:k.good)(d:k.depth≤5):B2 5 k.tr=true:=Tx h d
def EG{a:T}(h:Pt Γ a)(h':Pt Γ b):Pt Γ (.tup [a,b]):=.tup (by simp) λt m=>by
 rcases aaf.mp m with rfl|m
 ·show h
 ·rcases aaf.mp m with rfl|m
  ·show h'
  ·cases m
mutual
theorem JU{Γ:AU}:∀{k:Kd},k.good→Pt Γ k.tr
 |.num w,g=>by rw[Kd.tr];show EG (.str (by done)) (.int _)
 |.text,g=>by rw[Kd.tr];show .tup (by simp) λt m=>by(rcases aaf.mp m with rfl|m);show .str (by done);cases m
 |.row k,g=>by
  unfold Kd.good at g;rw[Kd.tr];show EG (.str (by done)) (JU g)
 |.rec_ fs,g=>by
  unfold Kd.good at g;rw[Kd.tr];show EG (.str (by done)) (.tup (by rw[FW];lia) (Vh g.1))
 |.pick fs,g=>by
  unfold Kd.good at g;rw[Kd.tr];show EG (.str (by done)) (.tup (by rw[FW];lia) (Vh g.1))
theorem Vh{Γ:AU}:∀{fs:List (Str×Kd)},D4 fs→∀t∈Br fs,Pt Γ t
 |[],g,t,h=>by rw[Br]at h;cases h
 |(n,k)::r,g,t,h=>by
  rw[Br]at h;unfold D4 at g;rcases aaf.mp h with rfl|h
  ·show EG (.str (by lia)) (JU g.2.1)
  ·show Vh g.2.2 t h
end
def jH{s sub:Str}{lo hi lim:Nat}(h:∀i,Builtin.Str.subAt s sub i=false):Builtin.Str.occurrences s sub lo hi lim=[]:=by
 unfold Builtin.Str.occurrences;let fl:∀(l:List Nat) (b:Array Nat×Nat),List.foldl (λb (_:Nat)=>(b.fst,b.snd)) b l=b:=λl=>by
  induction l with
  |nil=>intro b;rfl
  |cons x r ih=>intro b;rw[S6,ih]
 simp[h,fl]
def sQ(h:∀x∈Ed.cps.toList,x≠c)(i:Nat):Builtin.Str.subAt Ed ⟨#[c]⟩ i=false:=by
 unfold Builtin.Str.subAt;rw[aa0];intro e;let e:=EJ Array.toList e;rw[Array.toList_extract]at e;let hm:c∈List.take (i+(⟨#[c]⟩:Str).length-i) (List.drop i Ed.cps.toList):=by
  have:c∈(#[c]:Array Nat).toList:=by simp
  rw[←e]at this;show this
 show h c (Lh (MU hm)) rfl
def ab8:∀x∈Ed.cps.toList,97≤x∧x≤122:=by done
def lZ(h:Ht c=true):97≤c∧c≤122:=by
 by_cases k:∀x∈Ed.cps.toList,x≠c
 ·unfold Ht at h
  rw[jH (sQ k)]at h;cases h
 ·have:∃x∈Ed.cps.toList,x=c:=by
   apply Classical.byContradiction
   intro z;show k λx hx e=>z ⟨x,hx,e⟩
  let⟨x,hx,rfl⟩:=this;show ab8 x hx
def kJ(h:As (.str z)=true):Nm z:=by
 rw[JN]at h;simp only[Cq,IX]at h;show⟨h.1.1,h.1.2,λc hc=>lZ (aaW.mp h.2 c hc)⟩
def X8{f:T→Bool}{d:Nat}(hf:∀t,f t=true→∃k:Kd,t=k.tr∧k.good∧k.depth≤d):∀{ts:List T},(∀t∈ts,ES f t=true)→∃fs:List (Str×Kd),ts=Br fs∧D4 fs∧E9 fs≤d
 |[],_=>⟨[],rfl,by unfold D4;trivial,by rw[E9];show FI _⟩
 |t::r,h=>by
  let⟨z,b,rfl,hz,hb⟩:=j0 (h t (by simp));let⟨k,rfl,kg,kd⟩:=hf b hb;let⟨fs,rfl,gF,dF⟩:=X8 hf (ts:=r) (λt ht=>h t (by simp[ht]));show⟨(z,k)::fs,by rw[Br],?_,?_⟩
  ·unfold D4
   have:=kJ hz;show⟨this,kg,gF⟩
  ·rw[E9];show Nat.max_le.mpr ⟨kd,dF⟩
def L6:∀(d:Nat) (t:T),B2 d t=true→∃k:Kd,t=k.tr∧k.good∧k.depth≤d
 |0,t,h=>by unfold B2 at h;cases h
 |d+1,t,h=>by
  unfold B2 at h;split at h
  ·rename_i z _
   have:=Bd h;rw[this];show⟨.text,by rw[Kd.tr],by unfold Kd.good;trivial,by rw[Kd.depth];lia⟩
  ·rename_i d' z x e0
   cases e0;split at h
   ·rename_i e
    subst e;cases x with
    |int i=>
     let h:(decide (1≤i)&&decide (i≤4))=true:=h;simp only[Cq,IX]at h;show⟨.num i,by rw[Kd.tr],by unfold Kd.good;show h,by rw[Kd.depth];lia⟩
    |_=>cases h
   split at h
   ·rename_i e
    subst e;let⟨k,rfl,kg,kd⟩:=L6 d x h;show⟨.row k,by rw[Kd.tr],by unfold Kd.good;show kg,by rw[Kd.depth];lia⟩
   rw[Cq,Nu]at h;let⟨h1,h2⟩:=h;cases x with
   |tup ts=>
    rw[I0]at h2;simp only[Cq,IX]at h2;let⟨fs,rfl,gF,dF⟩:=X8 (d:=d) (λt ht=>L6 d t ht) (λt ht=>aaW.mp h2.1.2 t ht);rw[FW]at h2;let nd:(fs.map (·.1)).Nodup:=by have:=h2.2;rw[TQ]at this;show this
    rcases h1 with h1|h1
    ·rw[Bd h1]
     show⟨.rec_ fs,by rw[Kd.tr],by unfold Kd.good;show⟨gF,h2.1.1.1,h2.1.1.2,nd⟩,by rw[Kd.depth];lia⟩
    ·rw[Bd h1]
     show⟨.pick fs,by rw[Kd.tr],by unfold Kd.good;show⟨gF,h2.1.1.1,h2.1.1.2,nd⟩,by rw[Kd.depth];lia⟩
   |_=>cases h2
  ·cases h
mutual
theorem V1:∀{k k':Kd},k.tr=k'.tr→k=k'
 |.num a,k',h=>by
  cases k' with
  |num _=>simp only[Kd.tr,T.tup.injEq,F8,FH,true_and,T.int.injEq]at h;rw[h]
  |row _=>simp only[Kd.tr,T.tup.injEq,F8,FH,T.str.injEq]at h;show absurd h.1 (by done)
  |rec_ _=>simp only[Kd.tr,T.tup.injEq,F8,FH,T.str.injEq]at h;show absurd h.1 (by done)
  |pick _=>simp only[Kd.tr,T.tup.injEq,F8,FH,T.str.injEq]at h;show absurd h.1 (by done)
  |text=>simp only[Kd.tr]at h;cases h
 |.text,k',h=>by
  cases k' with
  |text=>rfl
  |_=>simp only[Kd.tr]at h;cases h
 |.row k,k',h=>by
  cases k' with
  |row j=>simp only[Kd.tr,T.tup.injEq,F8,FH,true_and]at h;rw[V1 h]
  |rec_ _=>simp only[Kd.tr,T.tup.injEq,F8,FH,T.str.injEq]at h;show absurd h.1 (by done)
  |pick _=>simp only[Kd.tr,T.tup.injEq,F8,FH,T.str.injEq]at h;show absurd h.1 (by done)
  |num _=>simp only[Kd.tr,T.tup.injEq,F8,FH,T.str.injEq]at h;show absurd h.1 (by done)
  |text=>simp only[Kd.tr]at h;cases h
 |.rec_ fs,k',h=>by
  cases k' with
  |rec_ gs=>simp only[Kd.tr,T.tup.injEq,F8,FH,true_and]at h;rw[Va h]
  |row _=>simp only[Kd.tr,T.tup.injEq,F8,FH,T.str.injEq]at h;show absurd h.1 (by done)
  |pick _=>simp only[Kd.tr,T.tup.injEq,F8,FH,T.str.injEq]at h;show absurd h.1 (by done)
  |num _=>simp only[Kd.tr,T.tup.injEq,F8,FH,T.str.injEq]at h;show absurd h.1 (by done)
  |text=>simp only[Kd.tr]at h;cases h
 |.pick fs,k',h=>by
  cases k' with
  |pick gs=>simp only[Kd.tr,T.tup.injEq,F8,FH,true_and]at h;rw[Va h]
  |row _=>simp only[Kd.tr,T.tup.injEq,F8,FH,T.str.injEq]at h;show absurd h.1 (by done)
  |rec_ _=>simp only[Kd.tr,T.tup.injEq,F8,FH,T.str.injEq]at h;show absurd h.1 (by done)
  |num _=>simp only[Kd.tr,T.tup.injEq,F8,FH,T.str.injEq]at h;show absurd h.1 (by done)
  |text=>simp only[Kd.tr]at h;cases h
theorem Va:∀{fs gs:List (Str×Kd)},Br fs=Br gs→fs=gs
 |[],gs,h=>by
  cases gs with
  |nil=>rfl
  |cons g r=>simp only[Br]at h;cases h
 |(n,k)::r,gs,h=>by
  cases gs with
  |nil=>simp only[Br]at h;cases h
  |cons g r'=>
   simp only[Br,F8,T.tup.injEq,T.str.injEq,FH]at h;let⟨⟨h1,h2⟩,h3⟩:=h;rw[h1,V1 h2,Va h3]
end
abbrev Gr:T→Bool
 |.tup p=>p.all λt=>isStr t||QN t
 |_=>false
abbrev Mj:T→Bool
 |.tup p=>p.all As
 |_=>false
abbrev NN:T→Bool
 |.int i=>decide (0≤i)&&decide (i≤999)
 |_=>false
abbrev Je(bd:T→Bool)(z:Str)(t:T):Bool:=if z = "name" then As t else if z = "name\x20or\x20none" then Ft t||As t else if z = "names" then Mj t else if z = "path" then Gr t else if z = "kind" then B2 5 t else if z = "body" then bd t else if z = "fail" then NN t else decide (z = "worth")
open Classical in
noncomputable def EW(a b:T):Bool:=if h:∃k:Kd,a=k.tr then BQ h.choose b else false
def LP(k:Kd)(b:T):EW k.tr b=BQ k b:=by
 unfold EW;let h:∃k':Kd,k.tr=k'.tr:=⟨k,rfl⟩;rw[dif_pos h];rw[←V1 h.choose_spec]
noncomputable def newW:List T→Bool
 |[_,k,w]=>EW k w
 |_=>false
noncomputable def DV(bd:T→Bool):T→Bool
 |.tup (.str z::ps)=>match sorts.lookup z with
  |some ss=>decide (ps.length=ss.length)&&((ss.zip ps).all (λq=>Je bd q.1 q.2)&&(!decide (z = "new")||newW ps))
  |none=>false
 |_=>false
noncomputable def CO:Nat→T→Bool
 |n+1,.tup ss=>ss.all (DV (CO n))
 |_,_=>false
def L5(n:Nat)(ss:List T):CO (n+1) (.tup ss)=ss.all (DV (CO n)):=by rw[CO]
def acB(h:isTup t=false):CO n t=false:=by
 unfold CO;split
 ·cases h
 ·rfl
def X4:∀(l:List (Str×List Str)) (bs:List Addr),bs.length=l.length→∀z:Str,(l.lookup z=none→((l.map (·.1)).zip bs).lookup z=none)∧∀ss,l.lookup z=some ss→∃(i:Nat) (b:Addr),l[i]?=some (z,ss)∧bs[i]?=some b∧((l.map (·.1)).zip bs).lookup z=some b
 |[],[],_,z=>by
  show And.intro (λ_=>rfl) λss h=>?_;cases h
 |(y,us)::l,b::bs,hl,z=>by
  let ih:=X4 l bs (by simpa using hl) z;rw[CT,RY,HA,HA];by_cases e:z=y
  ·subst e
   rw[Nk];show And.intro (λh=>(nomatch h)) (λss h=>by cases h;show Ψ2 0 b ⟨rfl,rfl,rfl⟩)
  ·let e':(z==y)=false:=by simpa using e
   rw[e'];show⟨ih.1,λss h=>?_⟩;let⟨i,c,h1,h2,h3⟩:=ih.2 ss h;show Ψ2 (i+1) c ⟨h1,h2,h3⟩
def PU.get{P:Program}{w:World}{K:W.Frag}(h:PU P w K a)(z:Str):∃aF,Cz P w K a aF∧(sorts.lookup z=none→aF.lookup z=none)∧∀ss,sorts.lookup z=some ss→∃b,aF.lookup z=some b∧KT K b (ss.map T.str):=by
 let⟨bs,hl,kd,kt⟩:=h;let lz:=X4 sorts bs (by rw[hl];rfl) z;show⟨_,kd,lz.1,λss h=>?_⟩;let⟨i,b,h1,h2,h3⟩:=lz.2 ss h;show⟨b,h3,kt_str (kt i _ _ _ h1 h2)⟩
section
variable {K: W.Frag}
@[reducible]def V2:Stmt:=B8 48
def ua:B0 ["thing"] ["thing"] (An V2):=nofun
abbrev Ub:B4:=λts Γ Z _=>∃t:T,ts=[t]∧Pt Γ t∧Z (.bl (Gr t)) Γ
def rX(F:cH K "is_path" "is_path" V2 f fd)(cv:Ab P w K mg am "is_whole" 1 ["thing"] Fm)(ai:mg "isinstance" = none)(aB:mg "tuple" = none)(bK:mg "str" = none)(bx:mg "all" = none):bq P w K mg am Ax 2 f fd ["thing"] (Aw Ub):=by
 show B7 F ua (λts Γ Z Y h=>?_) (λcy A outer s H E ts Γ Z Y hr h=>?_)
 ·let⟨p,rfl,_⟩:=h
  rfl
 let⟨t,rfl,pt,q⟩:=h;show⟨_,(A5 (Ah (BL (BG (C5 rfl ai rfl aB DS (A3 0)))) (A5 (AJ BH)
  AB) AB)
  (A5 (AJ (Ap (FN rfl) rfl bx FY (A4 (Cs (own:=["step"]) (cap:=[]) Ec rfl (Du (A3 0)) (λ_ _ _ _=>GQ) (λ_ _ _ _=>DJ) (λ_ _ _ _=>(La (ady (K:=K) rfl rfl ai rfl bK G7 (A3 0)) (CM (Aj cv hr (A4 (A3 0) A9)))))) A9)))
  AB)),?_⟩
 simp only[Az];left;show BP (DM pt) ?_;exists c
 ·left
  show AD .refl ?_;cases t with
  |tup p=>cases c
  |_=>show q
 cases t with
 |tup p=>
  let⟨pl,pp⟩:=pt.items;left;show⟨by rw[Dd];lia,?_⟩;show⟨λv6 τ ys Γ'=>∃(qs:List T) (o:Option T),p=qs++v6∧τ=[o]∧ys=(qs.map λt=>isStr t||QN t).map T.bl∧Γ'=Γ,Ψ2 [] none ⟨rfl,rfl,rfl,rfl⟩,?_,?_⟩
  ·intro τ ys Γ'⟨qs,o,ez,rfl,rfl,rfl⟩
   rw[Bg]at ez;rw[←ez];show⟨trivial,?_⟩;clear p1 fO e1 Γ1 g1 l1
   left;show Ψ2 p1 _ ⟨rfl,BR g1,?_⟩;rw[FZ];show AD l1 q
  ·intro x r τ ys Γ'⟨qs,o,ez,rfl,rfl,rfl⟩
   let px:=pp x (by rw[ez];simp);show⟨trivial,?_⟩;left;show BP (in_str px) ?_;exists c
   ·show Ψ2 (qs++[x]) _ ⟨by rw[ez];simp,rfl,by rw[Au,Au];simp[c],rfl⟩
   ·left
    show⟨x,rfl,px,?_⟩;show Ψ2 (qs++[x]) _ ⟨by rw[ez];simp,rfl,by rw[Au,Au];simp[c],rfl⟩
 |_=>cases c
abbrev QP(m:Nat):B4:=λts Γ Z _=>∃(t:T) (d n:Nat),ts=[t,.int d]∧Pt Γ t∧d+n=5∧n<m∧Z (.bl (CO n t)) Γ
abbrev RT(m:Nat):B4:=λts Γ Z _=>∃(t:T) (d n:Nat),ts=[t,.int d]∧Pt Γ t∧d+n=4∧n<m∧Z (.bl (DV (CO n) t)) Γ
abbrev QV(m:Nat):B4:=λts Γ Z _=>∃(z:Str) (t:T) (d n:Nat),ts=[.str z,t,.int d]∧Pt Γ t∧d+n=4∧n<m∧Z (.bl (Je (CO n) z t)) Γ
@[reducible]def NW:Stmt:=B8 47
def xI:B0 ["sort","thing","depth"] ["sort","thing","depth"] (An NW):=nofun
def abO(F:cH K "is_of_sort" "is_of_sort" NW f fd)(cL:Ab P w K mg am "is_name" 1 ["thing"] Hq)(nk:Ab P w K mg am "is_path" 2 ["thing"] Ub)(eI:Ab P w K mg am "is_kind" 20 ["thing"] LX)(cv:Ab P w K mg am "is_whole" 1 ["thing"] Fm)(qV:Ab P w K mg am "is_body" (lv+20) ["thing","depth"] (QP n))(du:mg "GREATEST_FAIL" = some v1)(fI:DU v1 (.int 999))(ai:mg "isinstance" = none)(aB:mg "tuple" = none)(bx:mg "all" = none):bq P w K mg am Ax (lv+21) f fd ["sort","thing","depth"] (Aw (QV n)):=by
 show B7 F xI (λts Γ Z Y h=>?_) (λcy A outer s H E ts Γ Z Y hr h=>?_)
 ·let⟨_,_,_,_,rfl,_⟩:=h
  rfl
 let⟨z,t,d,m,rfl,pt,dn,mn,q⟩:=h;show⟨_,(A5 (Ah (Aq BI (A3 0) AP) (A5 (AJ (Aj cL hr (A4 (A3 1) A9)))
  AB) AB)
  (A5 (Ah (Aq BI (A3 0) AP) (A5 (AJ (La (CR N5 (A3 1) Hs) (CM (Aj cL hr (A4 (A3 1) A9)))))
  AB) AB)
  (A5 (Ah (Aq BI (A3 0) AP) (A5 (AJ (CC (C5 rfl ai rfl aB DS (A3 1)) (CM (Ap (FN rfl) rfl bx FY (A4 (Cs (own:=["name"]) (cap:=[]) Ec rfl (Du (A3 1)) (λ_ _ _ _=>GQ) (λ_ _ _ _=>DJ) (λ_ _ _ _=>(Aj cL hr (A4 (A3 0) A9)))) A9)))))
  AB) AB)
  (A5 (Ah (Aq BI (A3 0) AP) (A5 (AJ (Aj nk hr (A4 (A3 1) A9)))
  AB) AB)
  (A5 (Ah (Aq BI (A3 0) AP) (A5 (AJ (Aj eI hr (A4 (A3 1) A9)))
  AB) AB)
  (A5 (Ah (Aq BI (A3 0) AP) (A5 (AJ (Aj qV hr (A4 (A3 1) (A4 (AG C3 (A3 2) A7) A9))))
  AB) AB)
  (A5 (Ah (Aq BI (A3 0) AP) (A5 (AJ (CC (Aj cv hr (A4 (A3 1) A9)) (CM (Q5 El El A7 (A3 1) (Eo rfl du fI)))))
  AB) AB)
  (A5 (AJ (CR BI (A3 0) AP))
  AB)))))))),?_⟩
 simp only[Az];unfold Je at q;exists c
 ·rw[Aa (G1 c)]at q
  left;show⟨t,rfl,pt,AD .refl q⟩
 rw[AV (Fu c)]at q;exists c
 ·rw[Aa (G1 c)]at q
  exists c
  ·rw[c,Bool.true_or]at q
   show AD .refl q
  ·rw[c,UY]at q
   left;show⟨t,rfl,pt,AD .refl q⟩
 rw[AV (Fu c)]at q;exists c
 ·rw[Aa (G1 c)]at q
  left;show BP (DM pt) ?_;exists c;rotate_left
  ·show AD .refl ?_
   cases t with
   |tup p=>cases c
   |_=>show q
  cases t with
  |tup p=>
   let⟨pl,pp⟩:=pt.items;left;show⟨by rw[Dd];lia,?_⟩;show⟨λv6 τ ys Γ'=>∃(qs:List T) (o:Option T),p=qs++v6∧τ=[o]∧ys=(qs.map As).map T.bl∧Γ'=Γ,Ψ2 [] none ⟨rfl,rfl,rfl,rfl⟩,?_,?_⟩
   ·intro τ ys Γ'⟨qs,o,ez,rfl,rfl,rfl⟩
    rw[Bg]at ez;rw[←ez];show⟨trivial,?_⟩;clear p1 fO e1 Γ1 g1 l1
    left;show Ψ2 p1 _ ⟨rfl,BR g1,?_⟩;rw[FZ];show AD l1 q
   ·intro x r τ ys Γ'⟨qs,o,ez,rfl,rfl,rfl⟩
    show⟨trivial,?_⟩;left;show⟨x,rfl,pp x (by rw[ez];simp),?_⟩;show Ψ2 (qs++[x]) _ ⟨by rw[ez];simp,rfl,by rw[Au,Au];rfl,rfl⟩
  |_=>cases c
 rw[AV (Fu c)]at q;exists c
 ·rw[Aa (G1 c)]at q
  left;show⟨t,rfl,pt,AD .refl q⟩
 rw[AV (Fu c)]at q;exists c
 ·rw[Aa (G1 c)]at q
  left;show⟨t,rfl,pt,AD .refl q⟩
 rw[AV (Fu c)]at q;exists c
 ·rw[Aa (G1 c)]at q
  left;show Ψ3 t (d+1) m ⟨rfl,pt,by lia,mn,AD .refl q⟩
 rw[AV (Fu c)]at q;exists c
 ·rw[Aa (G1 c)]at q
  left;show⟨t,rfl,pt,?_⟩;left;cases t with
  |int i=>
   left;let q:Z (.bl (decide (0≤i)&&decide (i≤999))) Γ:=q;show AH (λc=>?_) (λc=>?_)
   ·rw[c,BM]at q
    left;show AD .refl q
   ·rw[c]at q
    show AD .refl q
  |_=>
   left;show AD .refl q
 rw[AV (Fu c)]at q;left;have:decide (V.str z=V.str "worth")=decide (z = "worth"):=abj.mpr ⟨V.str.inj,λe=>by rw[e]⟩;rw[this];show AD .refl q
end
def wa{a:T}{us:List T}:Ew (a::ts) (b::us)=.tup [a,b]::Ew ts us:=rfl
def qR(h:isTup t=false):DV bd t=false:=by
 unfold DV;split
 ·cases h
 ·rfl
def aar(bd:T→Bool)(z:Str)(ps:List T):DV bd (.tup (.str z::ps))=(match sorts.lookup z with|some ss=>decide (ps.length=ss.length)&&((ss.zip ps).all (λq=>Je bd q.1 q.2)&&(!decide (z = "new")||newW ps))|none=>false):=rfl
def gU:∀(ss:List Str) (ps:List T),Ew (ss.map T.str) ps=(ss.zip ps).map λq=>T.tup [.str q.1,q.2]
 |[],ps=>by rw[List.zip_nil_left];rfl
 |s::ss,[]=>by rw[List.zip_nil_right];rfl
 |s::ss,p::ps=>by rw[CT,wa,gU ss ps,RY];rfl
section
variable {K: W.Frag}{Ua: Addr}
@[reducible]def NF:Stmt:=B8 46
def kZ:B0 ["thing","depth","sorts"] ["thing","depth"] (An NF):=nofun
def sL(F:cH K "is_statement" "is_statement" NF f fd)(ff:mg "STATEMENTS" = some (.ref Ua))(h_ST:PU P w K Ua)(xY:Ab P w K mg am "is_of_sort" (lv+21) ["sort","thing","depth"] (QV n))(cP:Ab P w K mg am "is_worth" 13 ["kind","thing"] (Gm 6))(ai:mg "isinstance" = none)(aB:mg "tuple" = none)(bK:mg "str" = none)(aC:mg "len" = none)(bx:mg "all" = none)(eK:mg "zip" = none):bq P w K mg am Ax (lv+22) f fd ["thing","depth"] (Aw (RT n)):=by
 show B7 F kZ (λts Γ Z Y h=>?_) (λcy A outer s H E ts Γ Z Y hr h=>?_)
 ·let⟨_,_,_,rfl,_⟩:=h
  rfl
 let⟨t,d,m,rfl,pt,dn,mn,q⟩:=h;show⟨_,(A5 (Ah (PW.pt (By (BL (BG (C5 rfl ai rfl aB DS (A3 0)))) (By (BL (abB (A3 0) (λ_=>rfl))) (Cu (BL (BG (C5 rfl ai rfl bK G7 (AK (A3 0) A7)))))))) (A5 (AJ BH)
  AB) AB)
  (A5 (Ar (i:=2) kZ.nd (ac8 (Eo rfl ff M8) (AK (A3 0) A7) ⟨rfl,rfl,rfl,rfl⟩))
  (A5 (Ah (PW.pt (By (Aq N5 (A3 2) Hs) (Cu (Aq EF (Ap BY rfl aC BD (A4 (A3 0) A9)) (AG C3 A7 (Ap aaU rfl aC BD (A4 (A3 2) A9))))))) (A5 (AJ BH)
  AB) AB)
  (A5 (Ah (BL (BG (Ap (FN rfl) rfl bx FY (A4 (Cs (own:=["sort","part"]) (cap:=[(1,"depth")]) (FK rfl (by done) (by done) rfl (⟨rfl,trivial⟩) rfl (⟨⟨rfl,rfl,rfl⟩,trivial⟩)) rfl (tg6 rfl eK (A4 (A3 2) (A4 (CN Ff (A3 0) (Be A7) DE) A9))) (λ_ _ _ _=>(Cg (n:=2) rfl (Ak (BX (i:=0) (show List.Nodup (["sort","part","depth"]:List Str)from by done) rfl (Or.inl rfl) (Or.inr rfl)) (Ak (BX (i:=1) (show List.Nodup (["sort","part","depth"]:List Str)from by done) rfl (Or.inl rfl) (Or.inr rfl)) CW)))) (λ_ _ _ _=>DJ) (λ_ _ _ _=>(Aj xY hr (A4 (A3 0) (A4 (A3 1) (A4 (A3 2) A9)))))) A9)))) (A5 (AJ BH)
  AB) AB)
  (A5 (AJ (La (CR EF (AK (A3 0) A7) AP) (CM (Aj cP hr (A4 (AK (A3 0) A7) (A4 (AK (A3 0) A7) A9))))))
  AB))))),?_⟩
 simp only[Az];left;show BP (DM pt) ?_;left;cases it:isTup t with
 |false=>
  rw[qR it]at q;left;show AD .refl q
 |true=>
 let⟨us,rfl⟩:=Dt it;let⟨ul,P6⟩:=pt.items;left;cases us with
 |nil=>
  show⟨false,rfl,?_⟩;left;show AD .refl q
 |cons u ps=>
 show⟨true,rfl,?_⟩;left;let pu:=P6 u (by simp);show BP (in_str pu) ?_;left;cases is:isStr u with
 |false=>
  have:DV (CO m) (.tup (u::ps))=false:=by
   unfold DV;split
   ·rename_i e;cases e;cases is
   ·rfl
  rw[this]at q;left;show AD .refl q
 |true=>
 let⟨z,rfl⟩:=HL is;let⟨aF,kd,gN,gS⟩:=h_ST.get z;let hl:ps.length+1≤100000:=ul;rw[aar]at q;left;unfold WT;left;show Ψ2 Ua aF ⟨rfl,kd,?_⟩;left;cases es:sorts.lookup z with
 |none=>
  rw[es]at q;show⟨λb e=>(by rw[gN es]at e;cases e),λ_=>?_⟩;left;show AD .refl q
 |some ss=>
 rw[es]at q
 replace q:Z (.bl (decide (ps.length=ss.length)&&((ss.zip ps).all (λq=>Je (CO m) q.1 q.2)&&(!decide (z = "new")||newW ps)))) Γ:=q
 let⟨b0,lk,kt⟩:=gS ss es;show⟨λb e=>?_,λe=>by rw[lk]at e;cases e⟩;rw[lk]at e;cases e;left;show Ψ2 b0 _ ⟨rfl,kt,?_⟩;left;rw[Ag];by_cases hz:ps.length=ss.length
 rotate_left
 ·rw[CA hz]at q
  show Jr ?_ ?_
  ·have:¬(((T.str z::ps).length:Int)=1+(ss.length:Nat)):=by rw[D7];lia
   simp at this;simp[this]
  left;show AD .refl q
 rw[BE hz,BM]at q;show Mf (by simp[hz];lia) ?_;left;unfold jh;left;rw[JV (by decide)];show Ψ3 _ b0 _ ⟨rfl,kt,?_⟩;show _∧_
 rw[show(List.drop (Int.toNat 1) (T.str z::ps))=ps from rfl,gU];show⟨by rw[Ag,List.length_zip,Dd];lia,?_⟩;show⟨λv6 τ ys Γ'=>∃(Jk qs:List (Str×T)) (o1 o2:Option T),v6=Jk.map (λp=>T.tup [.str p.1,p.2])∧ss.zip ps=qs++Jk∧τ=[o1,o2,some (.int d)]∧ys=(qs.map λq=>Je (CO m) q.1 q.2).map T.bl∧Γ'=Γ,Ψ4 (ss.zip ps) [] none none ⟨rfl,rfl,rfl,rfl,rfl⟩,?_,?_⟩;rotate_left
 ·intro x r τ ys Γ'⟨Jk,qs,o1,o2,er,ez,rfl,rfl,rfl⟩
  cases Jk with
  |nil=>cases er
  |cons p Jk=>
   cases er;show⟨trivial,?_⟩;left;show Ψ4 p.1 p.2 d m ⟨rfl,P6 p.2 (Dm _ (QA (show p∈ss.zip ps by rw[ez];simp)).2),dn,mn,?_⟩;show Ψ4 Jk (qs++[p]) _ _ ⟨rfl,by rw[ez];simp,rfl,by rw[Au,Au];rfl,rfl⟩
 intro τ ys Γ'⟨Jk,qs,o1,o2,er,ez,rfl,rfl,rfl⟩;let hp:Jk=[]:=by
  cases Jk with
  |nil=>rfl
  |cons _ _=>cases er
 subst hp;rw[Bg]at ez;rw[←ez];show⟨trivial,?_⟩;clear p1 fO e1 Γ1 g1 l1
 left;show Ψ2 p1 _ ⟨rfl,BR g1,?_⟩;rw[FZ];exists c
 ·let c:(ss.zip ps).all (λq=>Je (CO m) q.1 q.2)=false:=by simpa using c
  left;rw[c,CZ]at q;show AD l1 q
 let c:(ss.zip ps).all (λq=>Je (CO m) q.1 q.2)=true:=by simpa using c
 rw[c,BM]at q;left;by_cases hn:z = "new"
 ·subst hn
  cases es;match ps,hz with
  |[x,k,v],_=>
  rw[show((["name","kind","worth"]:List Str).zip [x,k,v])=[(("name" : Str),x),(("kind" : Str),k),(("worth" : Str),v)]from rfl]at c;let ck:B2 5 k=true:=by
   simp only[F4,Cq]at c;show c.2.1
  let⟨kk,rfl,kg,kdp⟩:=L6 5 k ck;left;show Gl (i:=2) rfl ?_;left;show Gl (i:=3) rfl ?_;left;show Ψ2 kk v ⟨rfl,kg,by lia,(P6 v (by simp)).mono l1,AD l1 ?_⟩;rw[←LP];show q
 ·rw[CA hn,Bool.not_false,Bool.true_or]at q
  show Jr ?_ ?_
  ·simp[hn]
  show AD l1 q
@[reducible]def QF:Stmt:=B8 45
def tY:B0 ["thing","depth"] ["thing","depth"] (An QF):=nofun
def adj(F:cH K "is_body" "is_body" QF f fd)(dQ:mg "DEEPEST_BODY" = some v1)(gX:DU v1 (.int 4))(uG:Ab P w K mg am "is_statement" (lv+22) ["thing","depth"] (RT n))(ai:mg "isinstance" = none)(aB:mg "tuple" = none)(bx:mg "all" = none):bq P w K mg am Ax (lv+23) f fd ["thing","depth"] (Aw (QP (n+1))):=by
 show B7 F tY (λts Γ Z Y h=>?_) (λcy A outer s H E ts Γ Z Y hr h=>?_)
 ·let⟨_,_,_,rfl,_⟩:=h
  rfl
 let⟨t,d,m,rfl,pt,dn,mn,q⟩:=h;show⟨_,(A5 (Ah (PW.pt (By (Aq Ii (A3 1) (Eo rfl dQ gX)) (Cu (BL (BG (C5 rfl ai rfl aB DS (A3 0))))))) (A5 (AJ BH)
  AB) AB)
  (A5 (AJ (Ap (FN rfl) rfl bx FY (A4 (Cs (own:=["statement"]) (cap:=[(1,"depth")]) (FK rfl (by done) (by done) rfl (⟨rfl,trivial⟩) rfl (⟨⟨rfl,rfl,rfl⟩,trivial⟩)) rfl (Du (A3 0)) (λ_ _ _ _=>(BX (i:=0) (show List.Nodup (["statement","depth"]:List Str)from by done) rfl (Or.inl rfl) (Or.inr rfl))) (λ_ _ _ _=>DJ) (λ_ _ _ _=>(Aj uG hr (A4 (A3 0) (A4 (A3 1) A9))))) A9)))
  AB)),?_⟩
 simp only[Az];exists c
 ·let c:=Bd c
  left;let e:m=0:=by lia
  subst e;show AD .refl q
 let c:=DC c;obtain⟨m,rfl⟩:∃m',m=m'+1:=⟨m-1,by lia⟩;left;show BP (DM pt) ?_;left;cases it:isTup t with
 |false=>
  rw[acB it]at q;left;show AD .refl q
 |true=>
 let⟨ss,rfl⟩:=Dt it;let⟨ul,P6⟩:=pt.items;rw[L5]at q;left;show⟨by rw[Dd];lia,?_⟩;show⟨λv6 τ ys Γ'=>∃(qs:List T) (o1:Option T),ss=qs++v6∧τ=[o1,some (.int d)]∧ys=(qs.map (DV (CO m))).map T.bl∧Γ'=Γ,Ψ2 [] none ⟨rfl,rfl,rfl,rfl⟩,?_,?_⟩;rotate_left
 ·intro x r τ ys Γ'⟨qs,o1,ez,rfl,rfl,rfl⟩
  show⟨trivial,?_⟩;left;show Ψ3 x d m ⟨rfl,P6 x (by rw[ez];simp),by lia,by lia,?_⟩;show Ψ2 (qs++[x]) _ ⟨by rw[ez];simp,rfl,by rw[Au,Au];rfl,rfl⟩
 intro τ ys Γ'⟨qs,o1,ez,rfl,rfl,rfl⟩;rw[Bg]at ez;rw[←ez];show⟨trivial,?_⟩;clear p1 fO e1 Γ1 g1 l1
 left;show Ψ2 p1 _ ⟨rfl,BR g1,?_⟩;rw[FZ];show AD l1 q
def Yf{f1 f2:Addr}{xD A8:FuncData}(F:cH K "is_body" "is_body" QF f fd)(m:mg "is_body" = some (.ref f))(kp:W.keepIn K (.ref f)=true)(b:Binds K fd ["thing","depth"] [])
  (mV:cH K "is_statement" "is_statement" NF f1 xD) (mz:mg "is_statement" = some (.ref f1)) (lp:W.keepIn K (.ref f1)=true) (mL:Binds K xD ["thing","depth"] [])
  (qk:cH K "is_of_sort" "is_of_sort" NW f2 A8) (pH:mg "is_of_sort" = some (.ref f2)) (nK:W.keepIn K (.ref f2)=true) (qd:Binds K A8 ["sort","thing","depth"] [])
  (cL:Ab P w K mg am "is_name" 1 ["thing"] Hq) (nk:Ab P w K mg am "is_path" 2 ["thing"] Ub) (eI:Ab P w K mg am "is_kind" 20 ["thing"] LX) (cv:Ab P w K mg am "is_whole" 1 ["thing"] Fm) (cP:Ab P w K mg am "is_worth" 13 ["kind","thing"] (Gm 6)) (du:mg "GREATEST_FAIL" = some v1) (fI:DU v1 (.int 999)) (dQ:mg "DEEPEST_BODY" = some v2) (gX:DU v2 (.int 4)) (ff:mg "STATEMENTS" = some (.ref Ua)) (h_ST:PU P w K Ua) (ai:mg "isinstance" = none) (aB:mg "tuple" = none) (bK:mg "str" = none) (aC:mg "len" = none) (bx:mg "all" = none) (eK:mg "zip" = none) :
  ∀n:Nat,Ab P w K mg am "is_body" (3*n+20) ["thing","depth"] (QP n)
 |0=>Ψ2 f fd ⟨KL λts Γ Z Y h=>by obtain⟨_,_,_,_,_,_,h,_⟩:=h;lia,m,kp,b⟩
 |n+1=>by
  let c:=Yf F m kp b mV mz lp mL qk pH nK qd cL nk eI cv cP du fI dQ gX ff h_ST ai aB bK aC bx eK n;let c1:Ab P w K mg am "is_of_sort" (3*n+21) ["sort","thing","depth"] (QV n):=Ψ2 f2 A8 ⟨abO qk cL nk eI cv c du fI ai aB bx,pH,nK,qd⟩;let c2:Ab P w K mg am "is_statement" (3*n+22) ["thing","depth"] (RT n):=Ψ2 f1 xD ⟨sL mV ff h_ST c1 cP ai aB bK aC bx eK,mz,lp,mL⟩;show Ψ2 f fd ⟨by rw[show 3*(n+1)+20=3*n+23 by lia];show adj F dQ gX c2 ai aB bx,m,kp,b⟩
def i9{f1 f2:Addr}{xD A8:FuncData}(F:cH K "is_worth" "is_worth" OC f fd)(m:mg "is_worth" = some (.ref f))(kp:W.keepIn K (.ref f)=true)(b:Binds K fd ["kind","thing"] [])
  (rH:cH K "is_record" "is_record" My f1 xD) (rj:mg "is_record" = some (.ref f1)) (pJ:W.keepIn K (.ref f1)=true) (rE:Binds K xD ["fields","parts"] [])
  (rJ:cH K "is_choice" "is_choice" N4 f2 A8) (rk:mg "is_choice" = some (.ref f2)) (pK:W.keepIn K (.ref f2)=true) (rF:Binds K A8 ["fields","pair"] [])
  (jP:Ab P w K mg am "is_number" 2 ["width","thing"] T6) (nj:Ab P w K mg am "is_text" 2 ["thing"] RN) (cU:mg "MOST_ITEMS" = some v1) (fh:DU v1 (.int 60)) (ai:mg "isinstance" = none) (aB:mg "tuple" = none) (aC:mg "len" = none) (bx:mg "all" = none) (oN:mg "any" = none) (eK:mg "zip" = none) (bK:mg "str" = none) :
  ∀n:Nat,Ab P w K mg am "is_worth" (2*n+1) ["kind","thing"] (Gm n)
 |0=>Ψ2 f fd ⟨KL λts Γ Z Y h=>by obtain⟨_,_,_,_,h,_⟩:=h;lia,m,kp,b⟩
 |n+1=>by
  let c:=i9 F m kp b rH rj pJ rE rJ rk pK rF jP nj cU fh ai aB aC bx oN eK bK n;let c1:Ab P w K mg am "is_record" (2*n+2) ["fields","parts"] (RE n):=Ψ2 f1 xD ⟨qZ rH c aC bx eK,rj,pJ,rE⟩;let c2:Ab P w K mg am "is_choice" (2*n+2) ["fields","pair"] (RM n):=Ψ2 f2 A8 ⟨vE rJ c aC oN ai bK,rk,pK,rF⟩;show Ψ2 f fd ⟨by rw[show 2*(n+1)+1=2*n+3 by lia];show ab9 F jP nj c c1 c2 cU fh ai aB aC bx,m,kp,b⟩
end
def Pk{a c:T}(h:Pt Γ a)(h':Pt Γ b)(h2:Pt Γ c):Pt Γ (.tup [a,b,c]):=.tup (by simp) λt m=>by
 simp only[aaf,CD,DH]at m;rcases m with rfl|rfl|rfl<;>assumption
def Ge{a c d:T}(h:Pt Γ a)(h':Pt Γ b)(h2:Pt Γ c)(h3:Pt Γ d):Pt Γ (.tup [a,b,c,d]):=.tup (by simp) λt m=>by
 simp only[aaf,CD,DH]at m;rcases m with rfl|rfl|rfl|rfl<;>assumption
structure Pr where
 nm:Str
 sd:Int
 ps:List (Str×Str×Kd)
 re:Option Kd
abbrev Fg(q:Str×Str×Kd):T:=.tup [.str q.1,.str q.2.1,q.2.2.tr]
abbrev Pr.tr(p:Pr):T:=.tup [.str p.nm,.int p.sd,.tup (p.ps.map Fg),F6 p.re]
structure Pr.Ok(p:Pr):Prop where
 nm:Nm p.nm
 sd:p.sd=0∨p.sd=1
 pl:∀q∈p.ps,Nm q.1∧q.2.1∈kU∧q.2.2.good∧q.2.2.depth≤5
 nd:(p.ps.map (·.1)).Nodup
 ln:p.ps.length≤900
 re:∀k,p.re=some k→k.good∧k.depth≤5
def Nm.le(h:Nm z):z.length≤8:=h.2.1
def vM{q:Str×Str×Kd}(h:Nm q.1∧q.2.1∈kU∧q.2.2.good∧q.2.2.depth≤5):Pt Γ (Fg q):=by
 let hw:q.2.1.length≤5:=(show ∀z∈kU,z.length≤5 by done) _ h.2.1;show .tup (by simp) λt m=>?_;rcases aaf.mp m with rfl|m
 ·show .str (by have:=h.1.le;lia)
 rcases aaf.mp m with rfl|m
 ·show .str (by lia)
 rcases aaf.mp m with rfl|m
 ·show JU h.2.2.1
 cases m
def yP{o:Option Kd}(h:∀k,o=some k→k.good∧k.depth≤5):Pt Γ (F6 o):=by
 cases o with
 |none=>show .non
 |some k=>show JU (h k rfl).1
def Pr.pt{p:Pr}(h:p.Ok):Pt Γ p.tr:=by
 show .tup (by simp) λt m=>?_;rcases aaf.mp m with rfl|m
 ·show .str (by have:=h.nm.le;lia)
 rcases aaf.mp m with rfl|m
 ·show .int _
 rcases aaf.mp m with rfl|m
 ·show .tup (by rw[Ag];have:=h.ln;lia) λt m=>?_
  let⟨q,hq,rfl⟩:=aap.mp m;show vM (h.pl q hq)
 rcases aaf.mp m with rfl|m
 ·show yP h.re
 cases m
def Pr.pa{p:Pr}(h:p.Ok):Jn p.tr=true:=by
 show(As (.str p.nm)&&(GB (.int p.sd)&&(Jv (.tup (p.ps.map Fg))&&Kh (F6 p.re))))=true
 rw[L8 h.nm,BM,Cq,Cq];show⟨?_,?_,?_⟩
 ·show(decide (p.sd=0)||decide (p.sd=1))=true
  rcases h.sd with e|e<;>simp[e]
 ·rw[gR,Cq]
  show⟨aaW.mpr λt m=>?_,BE ?_⟩
  ·let⟨q,hq,rfl⟩:=aap.mp m
   let o:=h.pl q hq;show(As (.str q.1)&&(decide (q.2.1∈kU)&&B2 5 q.2.2.tr))=true
   rw[L8 o.1,BE o.2.1,Q6 o.2.2.1 o.2.2.2];rfl
  ·rw[FJ];show h.nd
 ·cases e:p.re with
  |none=>rfl
  |some k=>
   let o:=h.re k e;have:Kh (F6 (some k))=B2 5 k.tr:=by show Kh k.tr=_;cases k<;>rw[Kd.tr]<;>rfl
   rw[this,Q6 o.1 o.2]
structure Dr where
 p:Pr
 b:List Sm
abbrev Dr.tr(d:Dr):T:=.tup [d.p.tr,.tup (C6 d.b)]
structure Dr.Ok(d:Dr):Prop where
 p:d.p.Ok
 b:DD d.b
 l:d.b.length≤100000
structure Sh where
 nm:Str
 sd:Int
 k:Kd
 w:T
abbrev Sh.tr(s:Sh):T:=.tup [.str s.nm,.int s.sd,s.k.tr,s.w]
structure Sh.Ok(s:Sh):Prop where
 nm:Nm s.nm
 sd:s.sd=0∨s.sd=1
 k:s.k.good∧s.k.depth≤5
 w:∀Γ,Pt Γ s.w
abbrev Fw(bd:T→Bool):T→Bool
 |.tup [a,b]=>Jn a&&bd b
 |_=>false
noncomputable def Gn:T→Bool
 |.tup [a,b,c,d]=>As a&&(GB b&&(B2 5 c&&EW c d))
 |_=>false
noncomputable def Hh:T→Bool
 |.tup [.tup ds,.tup hs]=>ds.all (Fw (CO 4))&&hs.all Gn
 |_=>false
abbrev Km(t:T):Prop:=∀x y us d b,t=.tup [.tup [x,y,.tup us,d],b]→us.length≤999
def lX(h:ts.length≠2):Fw bd (.tup ts)=false:=by
 unfold Fw;split
 ·rename_i e;cases e;show absurd rfl h
 ·rfl
def aaL(h:ts.length≠4):Gn (.tup ts)=false:=by
 unfold Gn;split
 ·rename_i e;cases e;show absurd rfl h
 ·rfl
def acT(h:ts.length≠2):Hh (.tup ts)=false:=by
 unfold Hh;split
 ·rename_i e;cases e;show absurd rfl h
 ·rfl
def Oe(h:(!decide (V.int (ts.length:Int)=V.int (n:Int)))=true):ts.length≠n:=λe=>by
 subst e;rw[BE rfl]at h;cases h
def Pc(h:(!decide (V.int (ts.length:Int)=V.int (n:Int)))=false):ts.length=n:=by
 have:decide (V.int (ts.length:Int)=V.int (n:Int))=true:=by simpa using h
 have:=V.int.inj (Bd this);lia
section
variable {K: W.Frag}
@[reducible]def Tr:Stmt:=B8 43
def wV:B0 ["thing"] ["thing"] (An Tr):=nofun
abbrev XZ:B4:=λts Γ Z _=>∃t:T,ts=[t]∧Pt Γ t∧Km t∧Z (.bl (Fw (CO 4) t)) Γ
def aa4(F:cH K "is_door" "is_door" Tr f fd)(Bk:Ab P w K mg am "is_paper" 23 ["thing"] bO)(qV:Ab P w K mg am "is_body" 38 ["thing","depth"] (QP 6))(ai:mg "isinstance" = none)(aB:mg "tuple" = none)(aC:mg "len" = none):bq P w K mg am Ax 39 f fd ["thing"] (Aw XZ):=by
 show B7 F wV (λts Γ Z Y h=>?_) (λcy A outer s H E ts Γ Z Y hr h=>?_)
 ·let⟨_,rfl,_⟩:=h
  rfl
 let⟨t,rfl,pt,hf,q⟩:=h;show⟨_,(A5 (Ah (PW.pt (By (BL (BG (C5 rfl ai rfl aB DS (A3 0)))) (Cu (Aq EF (Ap BY rfl aC BD (A4 (A3 0) A9)) A7)))) (A5 (AJ BH)
  AB) AB)
  (A5 (AJ (CC (Aj Bk hr (A4 (AK (A3 0) A7) A9)) (CM (Aj qV hr (A4 (AK (A3 0) A7) (A4 A7 A9))))))
  AB)),?_⟩
 simp only[Az];left;show BP (DM pt) ?_;exists c
 ·left
  show AD .refl ?_;cases t with
  |tup ts=>cases c
  |_=>show q
 let⟨ts,rfl⟩:=Dt (t:=t) (by simpa using c);let⟨tl,tm⟩:=pt.items;exists c1
 ·left
  rw[lX (Oe (n:=2) c1)]at q;show AD .refl q
 match ts,Pc (n:=2) c1 with
 |[a,b],_=>
 left;show⟨a,rfl,tm a (by simp),λx y us d e=>hf x y us d b (by rw[e]),?_⟩;let q:Z (.bl (Jn a&&CO 4 b)) Γ:=q;exists c2
 ·rw[c2,BM]at q
  left;show Ψ3 b 1 4 ⟨rfl,tm b (by simp),by decide,by decide,AD .refl q⟩
 ·rw[c2,CZ]at q
  show AD .refl q
@[reducible]def Ss:Stmt:=B8 44
def iN:B0 ["thing","name","side","kind","worth"] ["thing"] (An Ss):=nofun
abbrev fR:B4:=λts Γ Z _=>∃t:T,ts=[t]∧Pt Γ t∧Z (.bl (Gn t)) Γ
def uD(F:cH K "is_shelf" "is_shelf" Ss f fd)(cL:Ab P w K mg am "is_name" 1 ["thing"] Hq)(qU:Ab P w K mg am "is_side" 2 ["thing"] TM)(eI:Ab P w K mg am "is_kind" 20 ["thing"] LX)(cP:Ab P w K mg am "is_worth" 13 ["kind","thing"] (Gm 6))(ai:mg "isinstance" = none)(aB:mg "tuple" = none)(aC:mg "len" = none):bq P w K mg am Ax 21 f fd ["thing"] (Aw fR):=by
 show B7 F iN (λts Γ Z Y h=>?_) (λcy A outer s H E ts Γ Z Y hr h=>?_)
 ·let⟨d,rfl,_⟩:=h
  rfl
 let⟨t,rfl,pt,q⟩:=h;show⟨_,(A5 (Ah (PW.pt (By (BL (BG (C5 rfl ai rfl aB DS (A3 0)))) (Cu (Aq EF (Ap BY rfl aC BD (A4 (A3 0) A9)) A7)))) (A5 (AJ BH)
  AB) AB)
  (A5 (Fl (A3 0) (Cg (n:=4) rfl (Ak (B5 (i:=1) iN.nd) (Ak (B5 (i:=2) iN.nd) (Ak (B5 (i:=3) iN.nd) (Ak (B5 (i:=4) iN.nd) CW))))))
  (A5 (AJ (CC (Aj cL hr (A4 (A3 1) A9)) (CC (Aj qU hr (A4 (A3 2) A9)) (CC (Aj eI hr (A4 (A3 3) A9)) (CM (Aj cP hr (A4 (A3 3) (A4 (A3 4) A9))))))))
  AB))),?_⟩
 simp only[Az];left;show BP (DM pt) ?_;exists c
 ·left
  show AD .refl ?_;cases t with
  |tup ts=>cases c
  |_=>show q
 let⟨ts,rfl⟩:=Dt (t:=t) (by simpa using c);let⟨tl,tm⟩:=pt.items;exists c1
 ·left
  rw[aaL (Oe (n:=4) c1)]at q;show AD .refl q
 match ts,Pc (n:=4) c1 with
 |[a,b,c,d],_=>
 let q:Z (.bl (As a&&(GB b&&(B2 5 c&&EW c d)))) Γ:=q;left;show⟨a,rfl,tm a (by simp),?_⟩;exists c2;rotate_left
 ·rw[c2,CZ]at q
  show AD .refl q
 rw[c2,BM]at q;left;show⟨b,rfl,tm b (by simp),?_⟩;exists c3;rotate_left
 ·rw[c3,CZ]at q
  show AD .refl q
 rw[c3,BM]at q;left;show⟨c,rfl,tm c (by simp),?_⟩;exists c4;rotate_left
 ·rw[c4,CZ]at q
  show AD .refl q
 rw[c4,BM]at q;let⟨k,rfl,kg,kdp⟩:=L6 5 c c4;rw[LP]at q;left;show Ψ2 k d ⟨rfl,kg,by lia,tm d (by simp),AD .refl q⟩
@[reducible]def VI:Stmt:=B8 42
def fq:B0 ["thing","doors","shelves"] ["thing"] (An VI):=nofun
abbrev jU:B4:=λts Γ Z _=>∃t:T,ts=[t]∧Pt Γ t∧(∀ds hs,t=.tup [.tup ds,hs]→∀d∈ds,Km d)∧Z (.bl (Hh t)) Γ
def yA(F:cH K "has_program_form" "has_program_form" VI f fd)(DY:Ab P w K mg am "is_door" 39 ["thing"] XZ)(Bi:Ab P w K mg am "is_shelf" 21 ["thing"] fR)(ai:mg "isinstance" = none)(aB:mg "tuple" = none)(aC:mg "len" = none)(bx:mg "all" = none):bq P w K mg am Ax 40 f fd ["thing"] (Aw jU):=by
 show B7 F fq (λts Γ Z Y h=>?_) (λcy A outer s H E ts Γ Z Y hr h=>?_)
 ·let⟨_,rfl,_⟩:=h
  rfl
 let⟨t,rfl,pt,hf,q⟩:=h;show⟨_,(A5 (Ah (PW.pt (By (BL (BG (C5 rfl ai rfl aB DS (A3 0)))) (Cu (Aq EF (Ap BY rfl aC BD (A4 (A3 0) A9)) A7)))) (A5 (AJ BH)
  AB) AB)
  (A5 (Fl (A3 0) (Cg (n:=2) rfl (Ak (B5 (i:=1) fq.nd) (Ak (B5 (i:=2) fq.nd) CW))))
  (A5 (Ah (PW.pt (By (BL (BG (C5 rfl ai rfl aB DS (A3 1)))) (Cu (BL (BG (C5 rfl ai rfl aB DS (A3 2))))))) (A5 (AJ BH)
  AB) AB)
  (A5 (AJ (CC (Ap (FN rfl) rfl bx FY (A4 (Cs (own:=["door"]) (cap:=[]) Ec rfl (Du (A3 1)) (λ_ _ _ _=>GQ) (λ_ _ _ _=>DJ) (λ_ _ _ _=>(Aj DY hr (A4 (A3 0) A9)))) A9)) (CM (Ap (FN rfl) rfl bx FY (A4 (Cs (own:=["shelf"]) (cap:=[]) Ec rfl (Du (A3 2)) (λ_ _ _ _=>GQ) (λ_ _ _ _=>DJ) (λ_ _ _ _=>(Aj Bi hr (A4 (A3 0) A9)))) A9)))))
  AB)))),?_⟩
 simp only[Az];left;show BP (DM pt) ?_;exists c
 ·left
  show AD .refl ?_;cases t with
  |tup ts=>cases c
  |_=>show q
 let⟨ts,rfl⟩:=Dt (t:=t) (by simpa using c);let⟨tl,tm⟩:=pt.items;exists c1
 ·left
  rw[acT (Oe (n:=2) c1)]at q;show AD .refl q
 match ts,Pc (n:=2) c1 with
 |[a,b],_=>
 let pa:=tm a (by simp);let pb:=tm b (by simp);left;show BP (DM pa) ?_;exists c2
 ·left
  show AD .refl ?_;let e:Hh (.tup [a,b])=false:=by
   unfold Hh;split
   ·rename_i e;cases e;cases c2
   ·rfl
  rw[e]at q;show q
 let⟨ds,rfl⟩:=Dt (t:=a) (by simpa using c2);left;show BP (DM pb) ?_;exists c3
 ·left
  show AD .refl ?_;let e:Hh (.tup [.tup ds,b])=false:=by
   unfold Hh;split
   ·rename_i e;cases e;cases c3
   ·rfl
  rw[e]at q;show q
 let⟨hs,rfl⟩:=Dt (t:=b) (by simpa using c3);let q:Z (.bl (ds.all (Fw (CO 4))&&hs.all Gn)) Γ:=q;let⟨dl,dm⟩:=pa.items;let⟨sl,sm⟩:=pb.items;left;show⟨by rw[Dd];lia,?_⟩;show⟨λv6 τ ys Γ'=>∃(qs:List T) (o1:Option T),ds=qs++v6∧τ=[o1]∧ys=(qs.map (Fw (CO 4))).map T.bl∧Γ'=Γ,Ψ2 [] none ⟨rfl,rfl,rfl,rfl⟩,?_,?_⟩;rotate_left
 ·intro x r τ ys Γ'⟨qs,o1,ez,rfl,rfl,rfl⟩
  show⟨trivial,?_⟩;left;show⟨x,rfl,dm x (by rw[ez];simp),hf ds _ rfl x (by rw[ez];simp),?_⟩;show Ψ2 (qs++[x]) _ ⟨by rw[ez];simp,rfl,by rw[Au,Au];rfl,rfl⟩
 intro τ ys Γ'⟨qs,o1,ez,rfl,rfl,rfl⟩;rw[Bg]at ez;rw[←ez];show⟨trivial,?_⟩;clear p1 fO e1 Γ1 g1 l1
 left;show Ψ2 p1 _ ⟨rfl,BR g1,?_⟩;rw[FZ];exists c;rotate_left
 ·let c:ds.all (Fw (CO 4))=false:=c
  rw[c,CZ]at q;show AD l1 q
 let c:ds.all (Fw (CO 4))=true:=c;rw[c,BM]at q;left;show⟨by rw[Dd];lia,?_⟩;show⟨λv6 τ ys Γ'=>∃(qs:List T) (o1:Option T),hs=qs++v6∧τ=[o1]∧ys=(qs.map Gn).map T.bl∧Γ'=Γ1,Ψ2 [] none ⟨rfl,rfl,rfl,rfl⟩,?_,?_⟩;rotate_left
 ·intro x r τ ys Γ'⟨qs,o1,ez,rfl,rfl,rfl⟩
  show⟨trivial,?_⟩;left;show⟨x,rfl,(sm x (by rw[ez];simp)).mono l1,?_⟩;show Ψ2 (qs++[x]) _ ⟨by rw[ez];simp,rfl,by rw[Au,Au];rfl,rfl⟩
 intro τ ys Γ'⟨qs,o1,ez,rfl,rfl,rfl⟩;rw[Bg]at ez;rw[←ez];show⟨trivial,?_⟩;clear p2 rB e2 Γ2 g2 l2
 left;show Ψ2 p2 _ ⟨rfl,BR g2,?_⟩;rw[FZ];show AD (l1.trans l2) q
end
def Sq{p:List T}(h:∀t∈p,Sx t):Gr (.tup p)=true:=aaW.mpr λt m=>by
 cases h t m<;>rfl
def aau:∀ns:List Str,Mj (.tup (ns.map T.str))=ns.all EB:=λns=>by
 show(ns.map T.str).all As=_
 rw[FZ];rfl
def eSl(z:Option Str):(Ft (Nr z)||As (Nr z))=z.all EB:=by cases z<;>rfl
def iJ{k:T}:DV bd (.tup [.str "new",x,k,v])=((As x&&B2 5 k)&&EW k v):=by
 show(decide (3=3)&&((As x&&(B2 5 k&&(true&&true)))&&(!decide (("new" : Str) = "new")||EW k v)))=_
 cases As x<;>cases B2 5 k<;>cases EW k v<;>rfl
def vn:DV bd (.tup [.str "copy",x,y])=(As x&&As y):=by
 show(decide (2=2)&&((As x&&(As y&&true))&&(!decide (("copy" : Str) = "new")||false)))=_
 cases As x<;>cases As y<;>rfl
def yg{p:T}:DV bd (.tup [.str "part",x,y,p])=(As x&&(As y&&Gr p)):=by
 show(decide (3=3)&&((As x&&(As y&&(Gr p&&true)))&&(!decide (("part" : Str) = "new")||EW y p)))=_
 cases As x<;>cases As y<;>cases Gr p<;>rfl
def ab6{p:T}:DV bd (.tup [.str "put",x,p,y])=(As x&&(Gr p&&As y)):=by
 show(decide (3=3)&&((As x&&(Gr p&&(As y&&true)))&&(!decide (("put" : Str) = "new")||EW p y)))=_
 cases As x<;>cases As y<;>cases Gr p<;>rfl
def vC{p:T}:DV bd (.tup [.str "add",x,p,y])=(As x&&(Gr p&&As y)):=by
 show(decide (3=3)&&((As x&&(Gr p&&(As y&&true)))&&(!decide (("add" : Str) = "new")||EW p y)))=_
 cases As x<;>cases As y<;>cases Gr p<;>rfl
def uV:DV bd (.tup [.str "drop",x])=As x:=by
 show(decide (1=1)&&((As x&&true)&&(!decide (("drop" : Str) = "new")||false)))=_
 cases As x<;>rfl
def w9:DV bd (.tup [.str "say",x])=As x:=by
 show(decide (1=1)&&((As x&&true)&&(!decide (("say" : Str) = "new")||false)))=_
 cases As x<;>rfl
def t_J:DV bd (.tup [.str "back",x])=As x:=by
 show(decide (1=1)&&((As x&&true)&&(!decide (("back" : Str) = "new")||false)))=_
 cases As x<;>rfl
def wu:DV bd (.tup [.str "fail",x])=NN x:=by
 show(decide (1=1)&&((NN x&&true)&&(!decide (("fail" : Str) = "new")||false)))=_
 cases NN x<;>rfl
def Vm:DV bd (.tup [.str "try",x,y])=(bd x&&bd y):=by
 show(decide (2=2)&&((bd x&&(bd y&&true))&&(!decide (("try" : Str) = "new")||false)))=_
 cases bd x<;>cases bd y<;>rfl
def XK{a:T}:DV bd (.tup [.str "same",x,y,a,b])=(As x&&(As y&&(bd a&&bd b))):=by
 show(decide (4=4)&&((As x&&(As y&&(bd a&&(bd b&&true))))&&(!decide (("same" : Str) = "new")||false)))=_
 cases As x<;>cases As y<;>cases bd a<;>cases bd b<;>rfl
def nN{p:T}:DV bd (.tup [.str "call",x,y,p])=((Ft x||As x)&&(As y&&Mj p)):=by
 show(decide (3=3)&&(((Ft x||As x)&&(As y&&(Mj p&&true)))&&(!decide (("call" : Str) = "new")||EW y p)))=_
 cases Ft x<;>cases As x<;>cases As y<;>cases Mj p<;>rfl
mutual
theorem aaB:∀{s:Sm} {d n:Nat},s.Ok→d+n=4→DV (CO n) s.tr=s.fm d
 |.new x k v,d,n,o,h=>by
  unfold Sm.Ok at o;unfold Sm.tr Sm.fm;rw[iJ,LP,Q6 o.2.1 o.2.2.1,LL];rfl
 |.copy x y,d,n,o,h=>by unfold Sm.tr Sm.fm;rw[vn];rfl
 |.part x y p,d,n,o,h=>by
  unfold Sm.Ok at o;unfold Sm.tr Sm.fm;rw[yg,Sq o.2.2.2,LL];rfl
 |.put y p x,d,n,o,h=>by
  unfold Sm.Ok at o;unfold Sm.tr Sm.fm;rw[ab6,Sq o.2.2.2,BM];rfl
 |.add y p x,d,n,o,h=>by
  unfold Sm.Ok at o;unfold Sm.tr Sm.fm;rw[vC,Sq o.2.2.2,BM];rfl
 |.drop x,d,n,o,h=>by unfold Sm.tr Sm.fm;rw[uV];rfl
 |.say x,d,n,o,h=>by unfold Sm.tr Sm.fm;rw[w9];rfl
 |.call z e ns,d,n,o,h=>by unfold Sm.tr Sm.fm;rw[nN,eSl,aau];rfl
 |.same x y a b,d,n,o,h=>by
  unfold Sm.Ok at o;unfold Sm.tr Sm.fm;rw[XK,Lm o.2.2.2.2.1 (d:=d+1) (by lia),Lm o.2.2.2.2.2 (d:=d+1) (by lia)];rfl
 |.fail i,d,n,o,h=>by unfold Sm.tr Sm.fm;rw[wu];rfl
 |.tri a b,d,n,o,h=>by
  unfold Sm.Ok at o;unfold Sm.tr Sm.fm;rw[Vm,Lm o.2.2.1 (d:=d+1) (by lia),Lm o.2.2.2 (d:=d+1) (by lia)];rfl
 |.back x,d,n,o,h=>by unfold Sm.tr Sm.fm;rw[t_J];rfl
theorem Lm:∀{ss:List Sm} {d n:Nat},DD ss→d+n=5→CO n (.tup (C6 ss))=IG ss d
 |[],d,0,o,h=>by unfold IG;rw[CA (by lia)];rfl
 |[],d,n+1,o,h=>by unfold IG;rw[C6,L5,DL,BE (by lia)];rfl
 |s::r,d,0,o,h=>by unfold IG;rw[CA (by lia)];rfl
 |s::r,d,n+1,o,h=>by
  unfold DD at o;let i1:=aaB (s:=s) (d:=d) (n:=n) o.1 (by lia);let i2:=Lm (ss:=r) (d:=d) (n:=n+1) o.2 h;unfold IG at i2 ⊢;rw[BE (by lia),BM,L5]at i2;rw[C6,L5,DL,F4,i1,i2,BE (by lia),BM]
end
def Pr.UZ{p:Pr}(h:p.Ok)(b:T):Km (.tup [p.tr,b]):=λx y us d b' e=>by
 unfold Pr.tr at e;cases e;rw[Ag];have:=h.ln;lia
def rL{d:Dr}(h:d.Ok):Fw (CO 4) d.tr=IG d.b 1:=by
 unfold Dr.tr;show(Jn d.p.tr&&CO 4 _)=_
 rw[Pr.pa h.p,Lm h.b (d:=1) (by decide),BM]
def pU{s:Sh}(h:s.Ok):Gn s.tr=BQ s.k s.w:=by
 unfold Sh.tr;show(As (.str s.nm)&&(GB (.int s.sd)&&(B2 5 s.k.tr&&EW s.k.tr s.w)))=_
 rw[L8 h.nm,Q6 h.k.1 h.k.2,LP,show GB (.int s.sd)=true by show(decide (s.sd=0)||decide (s.sd=1))=true;rcases h.sd with e|e<;>simp[e]]
 rfl
abbrev IF(ds:List Dr)(hs:List Sh):T:=.tup [.tup (ds.map Dr.tr),.tup (hs.map Sh.tr)]
def all_eq{α β:Type}{g:α→β}{p:β→Bool}{r:α→Bool}:∀{l:List α},(∀x∈l,p (g x)=r x)→(l.map g).all p=l.all r
 |[],_=>rfl
 |x::l,h=>by rw[CT,F4,F4,h x (by simp),all_eq λy hy=>h y (Dm _ hy)]
def uE(od:∀d∈ds,d.Ok)(os:∀s∈hs,s.Ok):Hh (IF ds hs)=((ds.all λd=>IG d.b 1)&&hs.all λs=>BQ s.k s.w):=by
 show((ds.map Dr.tr).all (Fw (CO 4))&&(hs.map Sh.tr).all Gn)=_
 rw[all_eq λd hd=>rL (od d hd),all_eq λs i0=>pU (os s i0)]
mutual
theorem acX{G0:AU}:∀{s:Sm},s.Ok→Pt G0 s.tr
 |.new x k v,o=>by
  unfold Sm.Ok at o;unfold Sm.tr;show Ge (.str (by done)) (.str (by lia)) (JU o.2.1) (o.2.2.2 _)
 |.copy x y,o=>by unfold Sm.Ok at o;unfold Sm.tr;show Pk (.str (by done)) (.str (by lia)) (.str (by lia))
 |.part x y p,o=>by unfold Sm.Ok at o;unfold Sm.tr;show Ge (.str (by done)) (.str (by lia)) (.str (by lia)) (.tup o.2.2.1 λt m=>(o.2.2.2 t m).pt)
 |.put y p x,o=>by unfold Sm.Ok at o;unfold Sm.tr;show Ge (.str (by done)) (.str (by lia)) (.tup o.2.2.1 λt m=>(o.2.2.2 t m).pt) (.str (by lia))
 |.add y p x,o=>by unfold Sm.Ok at o;unfold Sm.tr;show Ge (.str (by done)) (.str (by lia)) (.tup o.2.2.1 λt m=>(o.2.2.2 t m).pt) (.str (by lia))
 |.drop x,o=>by unfold Sm.Ok at o;unfold Sm.tr;show EG (.str (by done)) (.str (by lia))
 |.say x,o=>by unfold Sm.Ok at o;unfold Sm.tr;show EG (.str (by done)) (.str (by lia))
 |.call z e ns,o=>by
  unfold Sm.Ok at o;unfold Sm.tr;show Ge (.str (by done)) ?_ (.str (by lia)) (.tup (by rw[Ag];show o.2.2.1) λt m=>?_)
  ·cases z with
   |none=>show .non
   |some x=>show .str (by have:=o.1 x rfl;lia)
  ·let⟨x,hx,rfl⟩:=aap.mp m
   show .str (by have:=o.2.2.2 x hx;lia)
 |.same x y a b,o=>by
  unfold Sm.Ok at o;unfold Sm.tr;show .tup (by simp) λt m=>by
   rcases aaf.mp m with rfl|m
   ·show .str (by done)
   rcases aaf.mp m with rfl|m
   ·show .str (by lia)
   rcases aaf.mp m with rfl|m
   ·show .str (by lia)
   rcases aaf.mp m with rfl|m
   ·show .tup (by rw[ME];show o.2.2.1) (LC o.2.2.2.2.1)
   rcases aaf.mp m with rfl|m
   ·show .tup (by rw[ME];show o.2.2.2.1) (LC o.2.2.2.2.2)
   cases m
 |.fail i,o=>by unfold Sm.tr;show EG (.str (by done)) (.int _)
 |.tri a b,o=>by
  unfold Sm.Ok at o;unfold Sm.tr;show Pk (.str (by done)) (.tup (by rw[ME];show o.1) (LC o.2.2.1)) (.tup (by rw[ME];show o.2.1) (LC o.2.2.2))
 |.back x,o=>by unfold Sm.Ok at o;unfold Sm.tr;show EG (.str (by done)) (.str (by lia))
theorem LC{G0:AU}:∀{ss:List Sm},DD ss→∀t∈C6 ss,Pt G0 t
 |[],o,t,m=>by rw[C6]at m;cases m
 |s::r,o,t,m=>by
  unfold DD at o;rw[C6]at m;rcases aaf.mp m with rfl|m
  ·show acX o.1
  ·show LC o.2 t m
end
def Dr.pt{d:Dr}(h:d.Ok):Pt Γ d.tr:=EG (Pr.pt h.p) (.tup (by rw[ME];show h.l) (LC h.b))
def Sh.pt{s:Sh}(h:s.Ok):Pt Γ s.tr:=Ge (.str (by have:=h.nm.le;lia)) (.int _) (JU h.k.1) (h.w _)
def abM(dl:ds.length≤900)(hl:hs.length≤900)(od:∀d∈ds,d.Ok)(os:∀s∈hs,s.Ok):Pt Γ (IF ds hs):=
 EG (.tup (by rw[Ag];lia) λt m=>by let⟨d,hd,rfl⟩:=aap.mp m;show Dr.pt (od d hd)) (.tup (by rw[Ag];lia) λt m=>by let⟨d,hd,rfl⟩:=aap.mp m;show Sh.pt (os d hd))
@[reducible]def HY{α:Type}(g:α→T)(l:List (Str×α)):List (AI×T):=l.map λp=>((Sum.inr p.1:AI),g p.2)
def EL{α:Type}(g:α→T):∀(l:List (Str×α)) (x:Str),EC (HY g l) (.inr x)=(l.lookup x).map g
 |[],x=>rfl
 |(y,b)::r,x=>by
  let ih:=EL g r x;unfold EC at ih ⊢;show Option.map _ (List.find? _ (((Sum.inr y:AI),g b)::HY g r))=_
  rw[Hf,HA];by_cases h:y=x
  ·subst h;simp
  ·let h1:¬((Sum.inr y:AI)=Sum.inr x):=λe=>h (M3 e)
   let h2:(x==y)=false:=by rw[aa0];exactλe=>h e.symm
   rw[h2];simp only[h1,decide_false];show ih
def iw{α:Type}:∀{l:List (Str×α)} {x:Str},l.lookup x=none↔x∉l.map (·.1)
 |[],x=>by simp
 |(y,b)::r,x=>by
  rw[HA];by_cases h:x=y
  ·subst h;simp
  ·rw[show(x==y)=false by rw[aa0];show h,CT,aaf]
   have:=iw (l:=r) (x:=x);simp[h,this]
def Mh{α:Type}(g:α→T){l:List (Str×α)}{x:Str}{v:α}(h:l.lookup x=none):F9 (HY g l) (.inr x) (g v)=HY g (l++[(x,v)]):=by
 unfold F9;rw[AV]
 ·unfold HY;rw[Au];rfl
 ·unfold HY;rw[List.any_map]
  intro z;let⟨p,hp,e⟩:=abv.mp z;let e:(Sum.inr p.1:AI)=Sum.inr x:=Bd e;show iw.mp h (aap.mpr ⟨p,hp,M3 e⟩)
def bI{α:Type}{l m:List (Str×α)}{x:Str}:(l++m).lookup x=(l.lookup x).or (m.lookup x):=by
 induction l with
 |nil=>rfl
 |cons p r ih=>
  rw[List.cons_append,HA,HA,ih];cases x==p.1<;>rfl
@[reducible]def Kx(l:List (Str×Pr)):List (AI×T):=HY Pr.tr l
@[reducible]def MS(l:List (Str×Str)):List (AI×T):=HY T.str l
@[reducible]def DG(l:ad):List (AI×T):=HY Kd.tr l
@[reducible]def TU(C dx pp:Addr)(r:T)(pw pk:Addr):O:=.ins C dx [("papers",.ref pp),("result",r),("ways",.ref pw),("kinds",.ref pk)]
structure Sc(C:Addr)(Γ:AU)(a:Addr)(Ps:List (Str×Pr))(re:Option Kd)(W:List (Str×Str))(ks:ad)(pk:Addr):Prop where
 ex:∃dx pp pw,Γ a=some (TU C dx pp (F6 re) pw pk)∧Γ pp=some (.dK (Kx Ps))∧Γ pw=some (.dK (MS W))∧pp≠pk∧pw≠pk
 kk:Γ pk=some (.dK (DG ks))
section
variable {Γ Γ': AU}{a pk: Addr}{Ps: List (Str×Pr)}{W: List (Str×Str)}{ks: ad}
def Sc.mono(l:Le Γ Γ')(h:Sc C Γ a Ps re W ks pk):Sc C Γ' a Ps re W ks pk:=by
 obtain⟨⟨dx,pp,pw,h1,h2,h3,n1,n2⟩,h4⟩:=h;show⟨Ψ3 dx pp pw ⟨l _ _ h1,l _ _ h2,l _ _ h3,n1,n2⟩,l _ _ h4⟩
def Sc.kq(l:Kq [pk] Γ Γ')(h:Sc C Γ a Ps re W ks pk){HP:ad}(k:Γ' pk=some (.dK (DG HP))):Sc C Γ' a Ps re W HP pk:=by
 obtain⟨⟨dx,pp,pw,h1,h2,h3,n1,n2⟩,h4⟩:=h;let n0:a≠pk:=Qs h1 h4 (by simp);show⟨Ψ3 dx pp pw ⟨l _ _ (by simpa using n0) h1,l _ _ (by simpa using n1) h2,l _ _ (by simpa using n2) h3,n1,n2⟩,k⟩
def Sc.set(h:Sc C Γ a Ps re W ks pk)(HP:ad):Sc C (AF Γ pk (.dK (DG HP))) a Ps re W HP pk:=h.kq (Kq.set (by simp) _) BN
end
noncomputable def kq(k k':Kd):Bool:=CL k.tr k'.tr
def bF(k:Kd):kq k k=true:=Fq (b:=true) (by simp)
abbrev IY(W:List (Str×Str))(x:Str):Bool:=!(decide (W.lookup x=some "lend")||decide (W.lookup x=some "lease"))
noncomputable def Fb(W:List (Str×Str))(ks:ad)(x:Str)(k:Kd):Bool×ad:=if IY W x=true then(match ks.lookup x with|some k'=>(kq k' k,ks)|none=>(true,ks++[(x,k)]))else(false,ks)
abbrev TF(z:Str):List Str:=if z = "lend" then ["give","lease"]else if z = "lease" then ["give"]else []
noncomputable def LY(W:List (Str×Str))(ks:ad)(x:Str)(q:Str×Str×Kd):Bool:=match ks.lookup x with|none=>false|some k=>kq k q.2.2&&!decide (q.2.1∈TF ((W.lookup x).getD "copy"))
abbrev Hi(ks:ad):Prop:=∀p∈ks,p.2.good∧p.2.depth≤5
abbrev gu(W:List (Str×Str)):Prop:=∀p∈W,p.2∈kU
def FG{α:Type}:∀{l:List (Str×α)} {x:Str} {v:α},l.lookup x=some v→(x,v)∈l
 |(y,b)::r,x,v,h=>by
  rw[HA]at h;by_cases e:x=y
  ·subst e
   rw[show(x==x)=true by simp]at h;cases h;simp
  ·rw[show(x==y)=false by rw[aa0];show e]at h
   show Dm _ (FG h)
mutual
theorem Od:∀{k:Kd} {d:Nat},k.depth≤d→Dp (3*d) k.tr
 |.num w,d,h=>by
  rw[Kd.depth]at h;obtain⟨e,rfl⟩:∃e,d=e+1:=⟨d-1,by lia⟩;rw[Kd.tr];show .tup (d:=3*e+2) λt m=>?_;rcases aaf.mp m with rfl|m
  ·show .str _
  rcases aaf.mp m with rfl|m
  ·show .int _
  cases m
 |.text,d,h=>by
  rw[Kd.depth]at h;obtain⟨e,rfl⟩:∃e,d=e+1:=⟨d-1,by lia⟩;rw[Kd.tr];show .tup (d:=3*e+2) λt m=>?_;rcases aaf.mp m with rfl|m
  ·show .str _
  cases m
 |.row k,d,h=>by
  rw[Kd.depth]at h;obtain⟨e,rfl⟩:∃e,d=e+1:=⟨d-1,by lia⟩;rw[Kd.tr];show .tup (d:=3*e+2) λt m=>?_;rcases aaf.mp m with rfl|m
  ·show .str _
  rcases aaf.mp m with rfl|m
  ·show(Od (show k.depth≤e by lia)).mono (by lia)
  cases m
 |.rec_ fs,d,h=>by
  rw[Kd.depth]at h;obtain⟨e,rfl⟩:∃e,d=e+1:=⟨d-1,by lia⟩;rw[Kd.tr];show .tup (d:=3*e+2) λt m=>?_;rcases aaf.mp m with rfl|m
  ·show .str _
  rcases aaf.mp m with rfl|m
  ·show .tup (d:=3*e+1) (SK (by lia))
  cases m
 |.pick fs,d,h=>by
  rw[Kd.depth]at h;obtain⟨e,rfl⟩:∃e,d=e+1:=⟨d-1,by lia⟩;rw[Kd.tr];show .tup (d:=3*e+2) λt m=>?_;rcases aaf.mp m with rfl|m
  ·show .str _
  rcases aaf.mp m with rfl|m
  ·show .tup (d:=3*e+1) (SK (by lia))
  cases m
theorem SK:∀{fs:List (Str×Kd)} {e:Nat},E9 fs≤e→∀t∈Br fs,Dp (3*e+1) t
 |[],e,h,t,m=>by rw[Br]at m;cases m
 |(n,k)::r,e,h,t,m=>by
  rw[E9]at h;rw[Br]at m;rcases aaf.mp m with rfl|m
  ·show .tup (d:=3*e) λt m=>?_
   rcases aaf.mp m with rfl|m
   ·show .str _
   rcases aaf.mp m with rfl|m
   ·show Od (by lia)
   cases m
  ·show SK (by lia) t m
end
def Hj(k:Kd):∃ts,k.tr=.tup ts:=by cases k<;>(rw[Kd.tr];show⟨_,rfl⟩)
def Dp.items(h:Dp (d+1) (.tup ts)):∀t∈ts,Dp d t:=by
 cases h with
 |tup q=>show q
def KO{k':Kd}(h:k.depth≤6)(h':k'.depth≤6):Kc 17 k.tr k'.tr:=by
 let a:=Od h;let b:=Od h';let⟨ts,e⟩:=Hj k;let⟨us,e'⟩:=Hj k';rw[e]at a ⊢;rw[e']at b ⊢;show .tup (Dp.items (d:=17) a) (Dp.items (d:=17) b)
abbrev Uj(P:Program)(w:World)(K:W.Frag)(a:Addr):Prop:=∃b1 b2 b3 b4,Cz P w K a [("copy",b1),("give",b2),("lend",b3),("lease",b4)]∧fo K b1 []∧fo K b2 []∧fo K b3 [.str "give",.str "lease"]∧fo K b4 [.str "give"]
def Uj.get{P:Program}{w:World}{K:W.Frag}(h:Uj P w K a)(hz:z∈kU):∃aF b,Cz P w K a aF∧aF.lookup z=some b∧fo K b ((TF z).map V.str):=by
 let⟨b1,b2,b3,b4,kd,k1,k2,k3,k4⟩:=h;rcases aaf.mp hz with rfl|hz
 ·show Ψ2 _ b1 ⟨kd,rfl,k1⟩
 rcases aaf.mp hz with rfl|hz
 ·show Ψ2 _ b2 ⟨kd,rfl,k2⟩
 rcases aaf.mp hz with rfl|hz
 ·show Ψ2 _ b3 ⟨kd,rfl,k3⟩
 rcases aaf.mp hz with rfl|hz
 ·show Ψ2 _ b4 ⟨kd,rfl,k4⟩
 cases hz
section
variable {K: W.Frag}{X2: Addr}
@[reducible]def Qc:Stmt:=mem 53 1
def rZ:B0 ["self","name"] ["self","name"] (An Qc):=nofun
abbrev IU(C:Addr):B4:=λts Γ Z _=>∃(a pk:Addr) (x:Str) (Ps:List (Str×Pr)) (re:Option Kd) (W:List (Str×Str)) (ks:ad),ts=[.ref a,.str x]∧Sc C Γ a Ps re W ks pk∧Z (.bl (ks.lookup x).isSome) Γ
def xl(F:cH K "knows" "Scope.knows" Qc f fd)(aE:qX K C)(aD:bW K C "kinds"):bq P w K mg am Ax 1 f fd ["self","name"] (Aw (IU C)):=by
 show B7 F rZ (λts Γ Z Y h=>?_) (λcy A outer s H E ts Γ Z Y hr h=>?_)
 ·let⟨a,pk,x,_,_,_,_,rfl,_⟩:=h
  rfl
 obtain⟨a,pk,x,Ps,re,W,ks,rfl,⟨⟨dx,pp,pw,h1,h2,h3,n1,n2⟩,h4⟩,q⟩:=h;show⟨_,(A5 (AJ (Iu (j9 (D3 (DQ (by decide:1≤64) _) hr.units)) (A3 1) (EP aE aD (A3 0)) (by with_unfolding_all rfl)))
  AB),?_⟩
 simp only[Az];left;show Ψ3 pk _ (.inr x) ⟨rfl,rfl,h4,?_⟩;rw[EL,Ld];show AD .refl q
@[reducible]def VN:Stmt:=mem 53 2
def aal:B0 ["self","name"] ["self","name"] (An VN):=nofun
abbrev MI(C:Addr):B4:=λts Γ Z _=>∃(a pk:Addr) (x:Str) (Ps:List (Str×Pr)) (re:Option Kd) (W:List (Str×Str)) (ks:ad),ts=[.ref a,.str x]∧Sc C Γ a Ps re W ks pk∧Z (.bl (IY W x)) Γ
def xC(F:cH K "is_own" "Scope.is_own" VN f fd)(aE:qX K C)(bZ:bW K C "ways"):bq P w K mg am Ax 1 f fd ["self","name"] (Aw (MI C)):=by
 show B7 F aal (λts Γ Z Y h=>?_) (λcy A outer s H E ts Γ Z Y hr h=>?_)
 ·let⟨a,pk,x,_,_,_,_,rfl,_⟩:=h
  rfl
 obtain⟨a,pk,x,Ps,re,W,ks,rfl,⟨⟨dx,pp,pw,h1,h2,h3,n1,n2⟩,h4⟩,q⟩:=h;show⟨_,(A5 (AJ (Iu Vn (F0 Mo J2 ON (fV (D3 (DQ (by decide:1≤64) _) hr.units)) (EP aE bZ (A3 0)) (A4 (A3 1) A9)) (Ay (A4 AP (A4 AP A9))) (by with_unfolding_all rfl)))
  AB),?_⟩
 simp only[Az];left;show⟨JJ h3,?_⟩;left;show Ψ3 pw _ (.inr x) ⟨rfl,rfl,h3,?_⟩;rw[EL];unfold IY at q;cases e:W.lookup x with
 |none=>
  rw[e]at q;left;show AD .refl q
 |some z=>
  rw[e]at q;show R3 _ _ _ _ (λy Γ2=>Ko true (.str z) y Γ2 _)
  left;show DW Z (.bl (!E0 (.str z) [V.str "lend",V.str "lease"])) Γ
  rw[show [V.str "lend",V.str "lease"]=(["lend","lease"]:List Str).map V.str from rfl,Ju];show AD .refl ?_;have:decide (z∈(["lend","lease"]:List Str))=(decide (some z=some ("lend" : Str))||decide (some z=some ("lease" : Str))):=by
   rw[GO];simp
  rw[this];show q
@[reducible]def VO:Stmt:=mem 53 3
def pW:B0 ["self","name","kind"] ["self","name","kind"] (An VO):=nofun
abbrev Kt(C:Addr):B4:=λts Γ Z _=>∃(a pk:Addr) (x:Str) (k:Kd) (Ps:List (Str×Pr)) (re:Option Kd) (W:List (Str×Str)) (ks:ad),ts=[.ref a,.str x,k.tr]∧k.depth≤5∧Hi ks∧ks.length≤100000∧Sc C Γ a Ps re W ks pk∧Z (.bl (Fb W ks x k).1) (AF Γ pk (.dK (DG (Fb W ks x k).2)))
def FA(h:Γ a=some o):AF Γ a o=Γ:=by
 funext b
 by_cases e:b=a
 ·subst e;rw[BN,h]
 ·rw[Ce e]
def wN(F:cH K "may_make" "Scope.may_make" VO f fd)(aE:qX K C)(aD:bW K C "kinds")(cw:DT P w K mg am C "is_own" 1 ["self","name"] (MI C)):bq P w K mg am Ax 2 f fd ["self","name","kind"] (Aw (Kt C)):=by
 show B7 F pW (λts Γ Z Y h=>?_) (λcy A outer s H E ts Γ Z Y hr h=>?_)
 ·let⟨a,pk,x,k,_,_,_,_,rfl,_⟩:=h
  rfl
 let⟨a,pk,x,k,Ps,re,W,ks,rfl,kd,gk,kl,hs,q⟩:=h;let i0:=hs;obtain⟨⟨dx,pp,pw,h1,h2,h3,n1,n2⟩,h4⟩:=i0;show⟨_,(A5 (Ah (BL (BG (F3 cw hr (by lia) (A3 0) (A4 (A3 1) A9)))) (A5 (AJ BH)
  AB) AB)
  (A5 (AJ (CR (Wd (d:=17) (D3 (DQ (by decide:1+17≤64) _) hr.units)) (F0 Mo h8 PySem.F.type_dict_setdefault yQ (EP aE aD (A3 0)) (A4 (A3 1) (A4 (A3 2) A9))) (A3 2)))
  AB)),?_⟩
 simp only[Az];unfold Fb at q;left;show Ψ7 a pk x Ps re W ks ⟨rfl,hs,?_⟩;exists c
 ·rw[AV (by simpa using c),FA h4]at q
  left;show AD .refl q
 rw[Aa (by simpa using c)]at q;left;show⟨JJ h4,?_⟩;left;show Ψ4 pk _ (.inr x) k.tr ⟨rfl,rfl,h4,by rw[Ag,Dd];lia,λt e=>?_,λe=>?_⟩
 ·rw[EL]at e
  cases l:ks.lookup x with
  |none=>rw[l]at e;cases e
  |some k'=>
   rw[l]at e q;cases e;left;show⟨KO (Fc (gk _ (FG l)).2) (Fc kd),?_⟩;let q:Z (.bl (kq k' k)) (AF Γ pk (.dK (DG ks))):=q;rw[FA h4]at q;show AD .refl q
 ·rw[EL]at e
  cases l:ks.lookup x with
  |some k'=>rw[l]at e;cases e
  |none=>
   rw[l]at q;rw[Mh Kd.tr l];left;show⟨KO (Fc kd) (Fc kd),?_⟩;let q:Z (.bl true) (AF Γ pk (.dK (DG (ks++[(x,k)])))):=q;rw[show CL k.tr k.tr=true from bF k];show AD .refl q
@[reducible]def Tf:Stmt:=mem 53 4
def zL:B0 ["self","name","place"] ["self","name","place"] (An Tf):=nofun
abbrev T2(C:Addr):B4:=λts Γ Z _=>∃(a pk:Addr) (x:Str) (p:Str×Str×Kd) (Ps:List (Str×Pr)) (re:Option Kd) (W:List (Str×Str)) (ks:ad),ts=[.ref a,.str x,Fg p]∧p.2.2.depth≤5∧Hi ks∧gu W∧Sc C Γ a Ps re W ks pk∧Z (.bl (LY W ks x p)) Γ
def sr(F:cH K "may_hand" "Scope.may_hand" Tf f fd)(aE:qX K C)(aD:bW K C "kinds")(bZ:bW K C "ways")(aM:DT P w K mg am C "knows" 1 ["self","name"] (IU C))(jX:mg "BARRED_WAYS" = some (.ref X2))(h_BW:Uj P w K X2):bq P w K mg am Ax 2 f fd ["self","name","place"] (Aw (T2 C)):=by
 show B7 F zL (λts Γ Z Y h=>?_) (λcy A outer s H E ts Γ Z Y hr h=>?_)
 ·let⟨a,pk,x,p,_,_,_,_,rfl,_⟩:=h
  rfl
 let⟨a,pk,x,p,Ps,re,W,ks,rfl,pd,gk,gw,hs,q⟩:=h;let i0:=hs;obtain⟨⟨dx,pp,pw,h1,h2,h3,n1,n2⟩,h4⟩:=i0;show⟨_,(A5 (Ah (PW.pt (By (BL (BG (F3 aM hr (by lia) (A3 0) (A4 (A3 1) A9)))) (Cu (Aq (WO (d:=17) (D3 (DQ (by decide:1+17≤64) _) hr.units)) (Hv (D3 (DQ (by decide:1≤64) _) hr.units) (EP aE aD (A3 0)) (A3 1)) (AK (A3 2) A7))))) (A5 (AJ BH)
  AB) AB)
  (A5 (AJ (Iu (sj (K:=K) rfl) (AK (A3 2) A7) (jG (Eo rfl jX M8) (F0 Mo J2 ON (xc (D3 (DQ (by decide:1≤64) _) hr.units)) (EP aE bZ (A3 0)) (A4 (A3 1) (A4 AP A9)))) (by with_unfolding_all rfl)))
  AB)),?_⟩
 simp only[Az,Fg];unfold LY at q;left;show Ψ7 a pk x Ps re W ks ⟨rfl,hs,?_⟩;cases l:ks.lookup x with
 |none=>
  rw[l]at q;left;show AD .refl q
 |some k=>
  rw[l]at q;let q:Z (.bl (kq k p.2.2&&!decide (p.2.1∈TF ((W.lookup x).getD "copy")))) Γ:=q;left;unfold JA;left;show Ψ4 pk _ (.inr x) k.tr ⟨rfl,rfl,h4,by rw[EL,l];rfl,?_⟩;left;show Gl (i:=2) rfl ?_;let tw:=KO (Fc (gk _ (FG l)).2) (Fc pd);let⟨ts,e⟩:=Hj k;let⟨us,e'⟩:=Hj p.2.2;unfold kq at q;rw[e,e']at tw q ⊢;cases tw with
  |tup t1 t2=>
   show Ψ2 ts us ⟨rfl,rfl,t1,t2,?_⟩;exists c
   ·rw[show CL (.tup ts) (.tup us)=false by simpa using c]at q
    left;show AD .refl q
   rw[show CL (.tup ts) (.tup us)=true by simpa using c,BM]at q;left;unfold RJ;left;show⟨JJ h3,?_⟩;left;show Ψ4 pw _ (.inr x) (.str "copy") ⟨rfl,rfl,h3,?_⟩;let ev:((EC (MS W) (.inr x)).getD (.str "copy"))=.str ((W.lookup x).getD "copy"):=by
    rw[EL];cases W.lookup x<;>rfl
   rw[ev];let hz:(W.lookup x).getD "copy" ∈ kU:=by
    cases e2:W.lookup x with
    |none=>done
    |some z=>show gw _ (FG e2)
   let⟨aF,b,kd,lk,kt⟩:=h_BW.get hz;show Ψ4 X2 aF _ b ⟨rfl,kd,rfl,lk,?_⟩;show Ψ3 (.str p.2.1) b _ ⟨rfl,rfl,rfl,kt,?_,?_⟩
   ·rw[FZ];show aaW.mpr λ_ _=>rfl
   rw[Ju];show AD .refl q
end
mutual
noncomputable def gd(Ps:List (Str×Pr))(re:Option Kd)(W:List (Str×Str)):Sm→List (Str×Kd)→Bool×List (Str×Kd)
 |.new x k _,ks=>Fb W ks x k
 |.copy x y,ks=>match ks.lookup y with|some k=>Fb W ks x k|none=>(false,ks)
 |.part x y p,ks=>match(ks.lookup y).bind λk=>Di k p with|some k=>Fb W ks x k|none=>(false,ks)
 |.put y p x,ks=>(match ks.lookup y,ks.lookup x with|some ky,some kx=>!decide (W.lookup y=some "lend")&&(match Di ky p with|some k=>kq k kx|none=>false)|_,_=>false,ks)
 |.add y p x,ks=>(match ks.lookup y,ks.lookup x with|some ky,some kx=>!decide (W.lookup y=some "lend")&&(match Di ky p with|some k=>kq k (.row kx)|none=>false)|_,_=>false,ks)
 |.drop x,ks=>((ks.lookup x).isSome&&IY W x,ks)
 |.say x,ks=>((ks.lookup x).isSome,ks)
 |.call z d ns,ks=>match Ps.lookup d with
  |none=>(false,ks)
  |some p=>if(decide (ns.length=p.ps.length)&&(ns.zip p.ps).all λq=>LY W ks q.1 q.2)=true then(match z,p.re with|none,_=>(true,ks)|some z,some k=>Fb W ks z k|some _,none=>(false,ks))else(false,ks)
 |.same x y a b,ks=>match ks.lookup x,ks.lookup y with
  |some kx,some ky=>if kq kx ky=true then(if(BK Ps re W a ks).1=true then BK Ps re W b (BK Ps re W a ks).2 else(false,(BK Ps re W a ks).2))else(false,ks)
  |_,_=>(false,ks)
 |.fail _,ks=>(true,ks)
 |.tri a b,ks=>if(BK Ps re W a ks).1=true then BK Ps re W b (BK Ps re W a ks).2 else(false,(BK Ps re W a ks).2)
 |.back x,ks=>(match ks.lookup x,re with|some k,some r=>IY W x&&kq k r|_,_=>false,ks)
noncomputable def BK(Ps:List (Str×Pr))(re:Option Kd)(W:List (Str×Str)):List Sm→List (Str×Kd)→Bool×List (Str×Kd)
 |[],ks=>(true,ks)
 |s::r,ks=>if(gd Ps re W s ks).1=true then BK Ps re W r (gd Ps re W s ks).2 else(false,(gd Ps re W s ks).2)
end
mutual
def Sm.sz:Sm→Nat
 |.same _ _ a b=>CP a+CP b+1
 |.tri a b=>CP a+CP b+1
 |_=>1
def CP:List Sm→Nat
 |[]=>0
 |s::r=>s.sz+CP r
end
mutual
def Sm.ht:Sm→Nat
 |.same _ _ a b=>max (Gg a) (Gg b)+1
 |.tri a b=>max (Gg a) (Gg b)+1
 |_=>0
def Gg:List Sm→Nat
 |[]=>0
 |s::r=>max s.ht (Gg r)
end
structure En(Ps:List (Str×Pr))(re:Option Kd)(W:List (Str×Str))(ks:ad)(n:Nat):Prop where
 gk:Hi ks
 gw:gu W
 ps:∀p∈Ps,p.2.Ok
 re:∀k,re=some k→k.good∧k.depth≤5
 ln:ks.length+n≤100000
def Ma:∀{p:List T} {k k':Kd},k.good→k.depth≤5→Di k p=some k'→k'.good∧k'.depth≤5
 |[],k,k',g,d,h=>by cases h;show⟨g,d⟩
 |x::r,k,k',g,d,h=>by
  unfold Di at h;cases e:stepK k x with
  |none=>rw[e]at h;cases h
  |some k2=>
   rw[e]at h;let⟨a,b⟩:=rS g e;show Ma a (by lia) h
def NO{W:List (Str×Str)}{x:Str}(g:Hi ks)(h:k.good∧k.depth≤5):Hi (Fb W ks x k).2∧(Fb W ks x k).2.length≤ks.length+1:=by
 unfold Fb;split
 ·split
  ·show⟨g,CE _⟩
  ·show⟨λp m=>?_,by simp⟩
   rcases aaK.mp m with m|m
   ·show g p m
   ·rw[aam]at m;subst m;show h
 ·show⟨g,CE _⟩
section
variable {Ps: List (Str×Pr)}{W: List (Str×Str)}
mutual
theorem kD(hp:∀p∈Ps,p.2.Ok):∀{s:Sm} {ks:List (Str×Kd)},s.Ok→Hi ks→Hi (gd Ps re W s ks).2∧(gd Ps re W s ks).2.length≤ks.length+s.sz
 |.new x k _,ks,o,g=>by
  unfold Sm.Ok at o;unfold gd Sm.sz;show NO g ⟨o.2.1,o.2.2.1⟩
 |.copy x y,ks,o,g=>by
  unfold gd Sm.sz;cases e:ks.lookup y with
  |some k=>show NO g (g _ (FG e))
  |none=>show⟨g,CE _⟩
 |.part x y p,ks,o,g=>by
  unfold gd Sm.sz;cases e:ks.lookup y with
  |none=>show⟨g,CE _⟩
  |some k=>
   show Hi (match Di k p with|some k=>Fb W ks x k|none=>(false,ks)).2∧_
   cases e2:Di k p with
   |none=>simp only[Option.bind_some,e2];show⟨g,CE _⟩
   |some k'=>
    simp only[Option.bind_some,e2];let gk:=g _ (FG e);show NO g (Ma gk.1 gk.2 e2)
 |.put y p x,ks,o,g=>by unfold gd Sm.sz;show⟨g,CE _⟩
 |.add y p x,ks,o,g=>by unfold gd Sm.sz;show⟨g,CE _⟩
 |.drop x,ks,o,g=>by unfold gd Sm.sz;show⟨g,CE _⟩
 |.say x,ks,o,g=>by unfold gd Sm.sz;show⟨g,CE _⟩
 |.call z d ns,ks,o,g=>by
  unfold gd Sm.sz;cases e:Ps.lookup d with
  |none=>show⟨g,CE _⟩
  |some p=>
   dsimp only;split
   ·split
    ·show⟨g,CE _⟩
    ·rename_i e2
     show NO g ((hp _ (FG e)).re _ e2)
    ·show⟨g,CE _⟩
   ·show⟨g,CE _⟩
 |.same x y a b,ks,o,g=>by
  unfold Sm.Ok at o;unfold gd Sm.sz;split
  ·split
   ·let ia:=Li hp o.2.2.2.2.1 g
    split
    ·let ib:=Li hp o.2.2.2.2.2 ia.1
     show⟨ib.1,by lia⟩
    ·show⟨ia.1,by show(BK Ps re W a ks).2.length≤_;lia⟩
   ·show⟨g,by show ks.length≤_;lia⟩
  ·show⟨g,by show ks.length≤_;lia⟩
 |.fail _,ks,o,g=>by unfold gd Sm.sz;show⟨g,CE _⟩
 |.tri a b,ks,o,g=>by
  unfold Sm.Ok at o;unfold gd Sm.sz;let ia:=Li hp o.2.2.1 g;split
  ·let ib:=Li hp o.2.2.2 ia.1
   show⟨ib.1,by lia⟩
  ·show⟨ia.1,by show(BK Ps re W a ks).2.length≤_;lia⟩
 |.back x,ks,o,g=>by unfold gd Sm.sz;show⟨g,CE _⟩
theorem Li(hp:∀p∈Ps,p.2.Ok):∀{ss:List Sm} {ks:List (Str×Kd)},DD ss→Hi ks→Hi (BK Ps re W ss ks).2∧(BK Ps re W ss ks).2.length≤ks.length+CP ss
 |[],ks,o,g=>by unfold BK CP;show⟨g,Av _⟩
 |s::r,ks,o,g=>by
  unfold DD at o;unfold BK CP;let ia:=kD hp o.1 g;split
  ·let ib:=Li hp o.2 ia.1
   show⟨ib.1,by lia⟩
  ·show⟨ia.1,by show(gd Ps re W s ks).2.length≤_;lia⟩
end
def En.step(e:En Ps re W ks (s.sz+n))(o:s.Ok):En Ps re W (gd Ps re W s ks).2 n:=by
 have:=kD (re:=re) (W:=W) e.ps o e.gk;show⟨this.1,e.gw,e.ps,e.re,by have:=e.ln;lia⟩
def En.Lb{ss:List Sm}(e:En Ps re W ks (CP ss+n))(o:DD ss):En Ps re W (BK Ps re W ss ks).2 n:=by
 have:=Li (re:=re) (W:=W) e.ps o e.gk;show⟨this.1,e.gw,e.ps,e.re,by have:=e.ln;lia⟩
def En.le(e:En Ps re W ks n)(h:m≤n):En Ps re W ks m:=⟨e.gk,e.gw,e.ps,e.re,by have:=e.ln;lia⟩
end
section
variable {K: W.Frag}
@[reducible]def T7:Stmt:=mem 53 0
def iz:B0 ["self","papers","paper","around","name","way","kind"] ["self","papers","paper","around"] (An T7):=nofun
abbrev ag(C:Addr):B4:=λts Γ Z _=>∃(a dx pp pa:Addr) (p:Pr) (Ps:List (Str×Pr)) (as:ad),ts=[.ref a,.ref pp,p.tr,.ref pa]∧Γ a=some (.ins C dx [])∧Γ pp=some (.dK (Kx Ps))∧Γ pa=some (.dK (DG as))∧p.Ok∧(∀q∈p.ps,as.lookup q.1=none)∧as.length≤1000∧
 ∀Γ' pk,Kq [a] Γ Γ'→Γ pk=none→Sc C Γ' a Ps p.re (p.ps.map λq=>(q.1,q.2.1)) (as++p.ps.map λq=>(q.1,q.2.2)) pk→Z .non Γ'
def vw(F:cH K "__init__" "Scope.__init__" T7 f fd)(aE:qX K C)(bY:bW K C "papers")(bX:bW K C "result")(bZ:bW K C "ways")(aD:bW K C "kinds")(zT:mg "dict" = none):bq P w K mg am Ax 1 f fd ["self","papers","paper","around"] (Aw (ag C)):=by
 show B7 F iz (λts Γ Z Y h=>?_) (λcy A outer s H E ts Γ Z Y hr h=>?_)
 ·let⟨_,_,_,_,_,_,_,rfl,_⟩:=h
  rfl
 let⟨a,dx,pp,pa,p,Ps,as,rfl,ga,gp,ZL,o,no,al,q⟩:=h;show⟨_,(A5 (NU aE bY (A3 0) (A3 1))
  (A5 (NU aE bX (A3 0) (AK (A3 2) A7))
  (A5 (NU aE bZ (A3 0) (dX (own:=["name","way","kind"]) (cap:=[]) Ec rfl (Du (AK (A3 2) A7)) (λ_ _ _ _=>(Cg (n:=3) rfl (Ak (BX (i:=0) (show List.Nodup (["name","way","kind"]:List Str)from by done) rfl (Or.inl rfl) (Or.inr rfl)) (Ak (BX (i:=1) (show List.Nodup (["name","way","kind"]:List Str)from by done) rfl (Or.inl rfl) (Or.inr rfl)) (Ak (BX (i:=2) (show List.Nodup (["name","way","kind"]:List Str)from by done) rfl (Or.inl rfl) (Or.inr rfl)) CW))))) (λ_ _ _ _=>(A3 0)) (λ_ _ _ _=>(A3 1))))
  (A5 (NU aE aD (A3 0) (IL uW rfl zT top (A4 (A3 3) A9)))
  (A5 (GS Gh rfl (Du (AK (A3 2) A7)) (Cg (n:=3) rfl (Ak (B5 (i:=4) iz.nd) (Ak (B5 (i:=5) iz.nd) (Ak (B5 (i:=6) iz.nd) CW)))) (A5 (oK (D3 (DQ (by decide:1≤64) _) hr.units) (EP aE aD (A3 0)) (A3 4) (A3 6))
  AB))
  AB))))),?_⟩
 simp only[Az,Pr.tr];let nap:pp≠a:=Qs gp ga (by simp);let naa:pa≠a:=Qs ZL ga (by simp);left;show Gl (i:=3) rfl ?_;left;unfold QH;left;show Gl (i:=2) rfl ?_;left;show⟨by rw[Ag,Dd];have:=o.ln;lia,?_⟩;rw[Oh];generalize e1:AF Γ a _=Γ1;let g1:Γ1 a=some (.ins C dx [("papers",.ref pp),("result",F6 p.re)]):=Am e1;let k1:Kq [a] Γ Γ1:=e1 ▸ Kq.set (by simp) _;show⟨λv6 τ ys Γ'=>∃(gs ds:List (Str×Str×Kd)) (o1 o2 o3:Option T),v6=gs.map Fg∧p.ps=ds++gs∧τ=[o1,o2,o3]∧ys=MS (ds.map λq=>(q.1,q.2.1))∧Γ'=Γ1,Ψ5 p.ps [] none none none ⟨rfl,rfl,rfl,rfl,rfl⟩,?_,?_⟩;rotate_left
 ·intro x r τ ys Γ'⟨gs,ds,o1,o2,o3,er,ez,rfl,rfl,rfl⟩
  cases gs with
  |nil=>cases er
  |cons g gs=>
   cases er;show⟨trivial,?_⟩;unfold Fg;left;show⟨.inr g.1,rfl,gs,ds++[g],_,_,_,rfl,by rw[ez];simp,rfl,?_,rfl⟩;rw[Au];show Mh T.str (v:=g.2.1) (iw.mpr ?_);rw[FJ];let nd:=o.nd;rw[ez,Au,aa9]at nd;intro m;let⟨d,hd,e⟩:=aap.mp m;show nd.2.2 d.1 (aap.mpr ⟨d,hd,rfl⟩) g.1 (by simp) e
 intro τ ys Γ'⟨gs,ds,o1,o2,o3,er,ez,rfl,rfl,rfl⟩;let hg:gs=[]:=by
  cases gs with
  |nil=>rfl
  |cons _ _=>cases er
 subst hg;rw[Bg]at ez;subst ez;show⟨trivial,λpw Zt=>?_⟩;let Wk:a≠pw:=Dk g1 Zt;left;show Ψ3 a dx _ ⟨rfl,by rw[Ce Wk];show g1,by simp,?_⟩;generalize e2:AF (AF Γ' pw _) a _=Γ2;let g2:Γ2 a=some (.ins C dx [("papers",.ref pp),("result",F6 p.re),("ways",.ref pw)]):=Am e2;let k2:Kq [a] Γ Γ2:=by
  rw[←e2];show(k1.trans (Kq.new Zt _)).trans (Kq.set (by simp) _)
 let w2:Γ2 pw=some (.dK (MS (p.ps.map λq=>(q.1,q.2.1)))):=by rw[←e2,Ce (GF Wk)];show BN
 left;show Ψ2 pa _ ⟨rfl,k2 pa _ (by simpa using naa) ZL,λpk UN=>?_⟩;let R9:a≠pk:=Dk g2 UN;let Ws:pw≠pk:=Dk w2 UN;left;show Ψ3 a dx _ ⟨rfl,by rw[Ce R9];show g2,by simp,?_⟩;generalize e3:AF (AF Γ2 pk _) a _=Γ3;let g3:Γ3 a=some (TU C dx pp (F6 p.re) pw pk):=Am e3;let k3:Kq [a] Γ Γ3:=by
  rw[←e3];show(k2.trans (Kq.new UN _)).trans (Kq.set (by simp) _)
 let w3:Γ3 pw=some (.dK (MS (p.ps.map λq=>(q.1,q.2.1)))):=by rw[←e3,Ce (GF Wk),Ce Ws];show w2
 let h3:Γ3 pk=some (.dK (DG as)):=by rw[←e3,Ce (GF R9)];show BN
 let RK:Γ pk=none:=by
  cases e:Γ pk with
  |none=>rfl
  |some u=>have:=k2 pk u (by simpa using GF R9) e;rw[UN]at this;cases this
 let YQ:pp≠pk:=Dk gp RK;left;show Gl (i:=2) rfl ?_;left;show⟨λv6 τ Γ'=>∃(gs ds:List (Str×Str×Kd)) (o4 o5 o6:Option T),v6=gs.map Fg∧p.ps=ds++gs∧τ=[some (.ref a),some (.ref pp),some p.tr,some (.ref pa),o4,o5,o6]∧Kq [pk] Γ3 Γ'∧Γ' pk=some (.dK (DG (as++ds.map λq=>(q.1,q.2.2)))),Ψ5 p.ps [] none none none ⟨rfl,rfl,rfl,.refl,by rw[GD,Bg];show h3⟩,?_,?_⟩
 ·intro τ Γ'⟨gs,ds,o4,o5,o6,er,ez,rfl,kq,hk⟩
  let hg:gs=[]:=by
   cases gs with
   |nil=>rfl
   |cons _ _=>cases er
  subst hg;rw[Bg]at ez;rw[←ez]at hk;show⟨trivial,?_⟩;left;show AD .refl (q Γ' pk ?_ RK ⟨Ψ3 dx pp pw ⟨kq _ _ (by simpa using R9) g3,kq _ _ (by simpa using YQ) (k3 _ _ (by simpa using nap) gp),kq _ _ (by simpa using Ws) w3,YQ,Ws⟩,hk⟩);intro b u n h;let nb:b≠pk:=λe=>by subst e;rw[RK]at h;cases h
  show kq b u (by simpa using nb) (k3 b u n h)
 ·intro x r τ Γ'⟨gs,ds,o4,o5,o6,er,ez,rfl,kq,hk⟩
  cases gs with
  |nil=>cases er
  |cons g gs=>
   cases er;let Te:Γ' a=some (TU C dx pp (F6 p.re) pw pk):=kq _ _ (by simpa using R9) g3;unfold Fg;left;unfold Xu;left;show Ψ3 pk _ (.inr g.1) ⟨rfl,rfl,hk,by rw[Ag,B3,Ag,Dd];have:=o.ln;rw[ez,B3]at this;lia,?_⟩;show Ψ5 gs (ds++[g]) _ _ _ ⟨rfl,by rw[ez];simp,rfl,kq.trans (Kq.set (by simp) _),?_⟩;rw[BN];congr 2
   rw[Au,←ND];show Mh Kd.tr (v:=g.2.2) ?_;rw[bI,no g (by rw[ez];simp)];show iw.mpr ?_;rw[FJ];let nd:=o.nd;rw[ez,Au,aa9]at nd;intro m;let⟨d,hd,e⟩:=aap.mp m;show nd.2.2 d.1 (aap.mpr ⟨d,hd,rfl⟩) g.1 (by simp) e
end
abbrev Sm.tag:Sm→Nat
 |.new ..=>0
 |.copy ..=>1
 |.part ..=>2
 |.put ..=>3
 |.add ..=>4
 |.drop ..=>5
 |.say ..=>6
 |.call ..=>7
 |.same ..=>8
 |.fail ..=>9
 |.tri ..=>10
 |.back ..=>11
def kj(h:s.tag=0):∃x k v,s=.new x k v:=by cases s<;>first|show⟨_,_,_,rfl⟩|(simp[Sm.tag]at h)
def ade(h:s.tag=1):∃x y,s=.copy x y:=by cases s<;>first|show⟨_,_,rfl⟩|(simp[Sm.tag]at h)
def yS(h:s.tag=2):∃x y p,s=.part x y p:=by cases s<;>first|show⟨_,_,_,rfl⟩|(simp[Sm.tag]at h)
def ri(h:s.tag=3):∃y p x,s=.put y p x:=by cases s<;>first|show⟨_,_,_,rfl⟩|(simp[Sm.tag]at h)
def lQ(h:s.tag=4):∃y p x,s=.add y p x:=by cases s<;>first|show⟨_,_,_,rfl⟩|(simp[Sm.tag]at h)
def nv(h:s.tag=5):∃x,s=.drop x:=by cases s<;>first|show⟨_,rfl⟩|(simp[Sm.tag]at h)
def qQ(h:s.tag=6):∃x,s=.say x:=by cases s<;>first|show⟨_,rfl⟩|(simp[Sm.tag]at h)
def yX(h:s.tag=7):∃z d ns,s=.call z d ns:=by cases s<;>first|show⟨_,_,_,rfl⟩|(simp[Sm.tag]at h)
def ph(h:s.tag=8):∃x y b1 b2,s=.same x y b1 b2:=by cases s<;>first|show⟨_,_,_,_,rfl⟩|(simp[Sm.tag]at h)
def rEq(h:s.tag=9):∃n0,s=.fail n0:=by cases s<;>first|show⟨_,rfl⟩|(simp[Sm.tag]at h)
def yY(h:s.tag=10):∃b1 b2,s=.tri b1 b2:=by cases s<;>first|show⟨_,_,rfl⟩|(simp[Sm.tag]at h)
def mJ(h:s.tag=11):∃x,s=.back x:=by cases s<;>first|show⟨_,rfl⟩|(simp[Sm.tag]at h)
section
variable {K: W.Frag}
abbrev Fe(C:Addr)(t:Nat)(m:Nat):B4:=λts Γ Z _=>∃(a pk:Addr) (s:Sm) (Ps:List (Str×Pr)) (re:Option Kd) (W:List (Str×Str)) (ks:ad),ts=[.ref a,s.tr]∧s.tag=t∧s.Ok∧s.ht<m∧En Ps re W ks s.sz∧Sc C Γ a Ps re W ks pk∧
 Z (.bl (gd Ps re W s ks).1) (AF Γ pk (.dK (DG (gd Ps re W s ks).2)))
def Gb{C:Addr}{wd:Nat}{Z:Dh}{Y:Value→AU→Prop}(h:Fe C wd m ts Γ Z Y):ts.length=2:=by
 let⟨_,_,_,_,_,_,_,rfl,_⟩:=h;rfl
@[reducible]def Qe:Stmt:=B8 61
def acJ:B0 ["scope","target","name"] ["scope","target","name"] (An Qe):=nofun
abbrev O9(W:List (Str×Str))(ks:ad)(y x:Str):Bool:=(ks.lookup y).isSome&&((ks.lookup x).isSome&&!decide (W.lookup y=some "lend"))
abbrev QO(C:Addr):B4:=λts Γ Z _=>∃(a pk:Addr) (y x:Str) (Ps:List (Str×Pr)) (re:Option Kd) (W:List (Str×Str)) (ks:ad),ts=[.ref a,.str y,.str x]∧Sc C Γ a Ps re W ks pk∧Z (.bl (O9 W ks y x)) Γ
def qt(F:cH K "is_good_change" "is_good_change" Qe f fd)(aE:qX K C)(bZ:bW K C "ways")(aM:DT P w K mg am C "knows" 1 ["self","name"] (IU C)):bq P w K mg am Ax 2 f fd ["scope","target","name"] (Aw (QO C)):=by
 show B7 F acJ (λts Γ Z Y h=>?_) (λcy A outer s H E ts Γ Z Y hr h=>?_)
 ·let⟨_,_,_,_,_,_,_,_,rfl,_⟩:=h
  rfl
 let⟨a,pk,y,x,Ps,re,W,ks,rfl,hs,q⟩:=h;show⟨_,(A5 (AJ (CC (F3 aM hr (by lia) (A3 0) (A4 (A3 1) A9)) (CC (F3 aM hr (by lia) (A3 0) (A4 (A3 2) A9)) (CM (CR EF (F0 Mo J2 ON (fV (D3 (DQ (by decide:1≤64) _) hr.units)) (EP aE bZ (A3 0)) (A4 (A3 1) A9)) AP)))))
  AB),?_⟩
 simp only[Az];let i0:=hs;obtain⟨⟨dx,pp,pw,h1,h2,h3,n1,n2⟩,h4⟩:=i0;unfold O9 at q;left;show Ψ7 a pk y Ps re W ks ⟨rfl,hs,?_⟩;exists c;rotate_left
 ·rw[c]at q;show AD .refl q
 rw[c,BM]at q;left;show Ψ7 a pk x Ps re W ks ⟨rfl,hs,?_⟩;exists c;rotate_left
 ·rw[c]at q;show AD .refl q
 rw[c,BM]at q;left;show⟨JJ h3,?_⟩;left;show Ψ3 pw _ (.inr y) ⟨rfl,rfl,h3,?_⟩;rw[EL];cases e:W.lookup y with
 |none=>
  rw[e]at q;show Ψ2 (.non) (.str "lend") ⟨rfl,rfl,rfl,AD .refl q⟩
 |some z=>
  rw[e]at q;show Ψ2 (.str z) (.str "lend") ⟨rfl,rfl,rfl,AD .refl ?_⟩;rw[show decide (V.str z=V.str "lend")=decide (some z=some ("lend" : Str))from abj.mpr ⟨λe=>by rw[V.str.inj e],λe=>by rw[FE e]⟩];show q
@[reducible]def QD:Stmt:=B8 55
def eS:B0 ["scope","statement","word","name","kind","worth"] ["scope","statement"] (An QD):=nofun
def mh(F:cH K "is_good_new" "is_good_new" QD f fd)(a9:DT P w K mg am C "may_make" 2 ["self","name","kind"] (Kt C)):bq P w K mg am Ax 5 f fd ["scope","statement"] (Aw (Fe C 0 m)):=by
 show B7 F eS (λts Γ Z Y h=>Gb h) (λcy A outer s H E ts Γ Z Y hr h=>?_);let⟨a,pk,s,Ps,re,W,ks,rfl,ew,so,hm,en,hs,q⟩:=h;show⟨_,(A5 (Fl (A3 1) (Cg (n:=4) rfl (Ak (B5 (i:=2) eS.nd) (Ak (B5 (i:=3) eS.nd) (Ak (B5 (i:=4) eS.nd) (Ak (B5 (i:=5) eS.nd) CW))))))
  (A5 (AJ (F3 a9 hr (by lia) (A3 0) (A4 (A3 3) (A4 (A3 4) A9))))
  AB)),?_⟩
 simp only[Az];let i0:=hs;obtain⟨⟨dx,pp,pw,h1,h2,h3,n1,n2⟩,h4⟩:=i0;let ln:=en.ln;let⟨x,k,v,rfl⟩:=kj ew;unfold Sm.Ok at so;unfold gd at q;rw[Sm.tr];left;show Ψ8 a pk x k Ps re W ks ⟨rfl,so.2.2.1,en.gk,by lia,hs,AD .refl q⟩
@[reducible]def OR:Stmt:=B8 56
def fG:B0 ["scope","statement","word","name","source"] ["scope","statement"] (An OR):=nofun
def qx(F:cH K "is_good_copy" "is_good_copy" OR f fd)(aE:qX K C)(aD:bW K C "kinds")(aM:DT P w K mg am C "knows" 1 ["self","name"] (IU C))(a9:DT P w K mg am C "may_make" 2 ["self","name","kind"] (Kt C)):bq P w K mg am Ax 5 f fd ["scope","statement"] (Aw (Fe C 1 m)):=by
 show B7 F fG (λts Γ Z Y h=>Gb h) (λcy A outer s H E ts Γ Z Y hr h=>?_);let⟨a,pk,s,Ps,re,W,ks,rfl,ew,so,hm,en,hs,q⟩:=h;show⟨_,(A5 (Fl (A3 1) (Cg (n:=3) rfl (Ak (B5 (i:=2) fG.nd) (Ak (B5 (i:=3) fG.nd) (Ak (B5 (i:=4) fG.nd) CW)))))
  (A5 (AJ (CC (F3 aM hr (by lia) (A3 0) (A4 (A3 4) A9)) (CM (F3 a9 hr (by lia) (A3 0) (A4 (A3 3) (A4 (Hv (D3 (DQ (by decide:1≤64) _) hr.units) (EP aE aD (A3 0)) (A3 4)) A9))))))
  AB)),?_⟩
 simp only[Az];let i0:=hs;obtain⟨⟨dx,pp,pw,h1,h2,h3,n1,n2⟩,h4⟩:=i0;let ln:=en.ln;let⟨x,y,rfl⟩:=ade ew;unfold Sm.Ok at so;unfold gd at q;rw[Sm.tr];let no:Z (.bl false) (AF Γ pk (.dK (DG ks)))→DW Z (.bl false) Γ:=λq=>by rw[FA h4]at q;show AD .refl q
 left;show Ψ7 a pk y Ps re W ks ⟨rfl,hs,?_⟩;cases e:ks.lookup y with
 |none=>
  rw[e]at q;left;show no q
 |some k=>
  rw[e]at q;left;unfold JA;left;show Ψ4 pk _ (.inr y) k.tr ⟨rfl,rfl,h4,by rw[EL,e];rfl,?_⟩;left;show Ψ8 a pk x k Ps re W ks ⟨rfl,(en.gk _ (FG e)).2,en.gk,by lia,hs,AD .refl q⟩
@[reducible]def Ob:Stmt:=B8 57
def dq:B0 ["scope","statement","word","name","source","path","kind"] ["scope","statement"] (An Ob):=nofun
def vg(F:cH K "is_good_part" "is_good_part" Ob f fd)(aE:qX K C)(aD:bW K C "kinds")(aM:DT P w K mg am C "knows" 1 ["self","name"] (IU C))(a9:DT P w K mg am C "may_make" 2 ["self","name","kind"] (Kt C))(eG:Ab P w K mg am "kind_at" 4 ["kind","path"] Ly):bq P w K mg am Ax 5 f fd ["scope","statement"] (Aw (Fe C 2 m)):=by
 show B7 F dq (λts Γ Z Y h=>Gb h) (λcy A outer s H E ts Γ Z Y hr h=>?_);let⟨a,pk,s,Ps,re,W,ks,rfl,ew,so,hm,en,hs,q⟩:=h;show⟨_,(A5 (Fl (A3 1) (Cg (n:=4) rfl (Ak (B5 (i:=2) dq.nd) (Ak (B5 (i:=3) dq.nd) (Ak (B5 (i:=4) dq.nd) (Ak (B5 (i:=5) dq.nd) CW))))))
  (A5 (Ah (BL (BG (F3 aM hr (by lia) (A3 0) (A4 (A3 4) A9)))) (A5 (AJ BH)
  AB) AB)
  (A5 (Ar (i:=6) dq.nd (Aj eG hr (A4 (Hv (D3 (DQ (by decide:1≤64) _) hr.units) (EP aE aD (A3 0)) (A3 4)) (A4 (A3 5) A9))))
  (A5 (AJ (CC (CR Vc (A3 6) Hs) (CM (F3 a9 hr (by lia) (A3 0) (A4 (A3 3) (A4 (A3 6) A9))))))
  AB)))),?_⟩
 simp only[Az];let i0:=hs;obtain⟨⟨dx,pp,pw,h1,h2,h3,n1,n2⟩,h4⟩:=i0;let ln:=en.ln;let⟨x,y,p,rfl⟩:=yS ew;unfold Sm.Ok at so;unfold gd at q;rw[Sm.tr];let no:Z (.bl false) (AF Γ pk (.dK (DG ks)))→DW Z (.bl false) Γ:=λq=>by rw[FA h4]at q;show AD .refl q
 left;show Ψ7 a pk y Ps re W ks ⟨rfl,hs,?_⟩;cases e:ks.lookup y with
 |none=>
  rw[e]at q;left;show no q
 |some k=>
  rw[e]at q;have q:Z (.bl (match Di k p with|some k=>Fb W ks x k|none=>(false,ks)).1) (AF Γ pk (.dK (DG (match Di k p with|some k=>Fb W ks x k|none=>(false,ks)).2))):=q;left;unfold JA;left;show Ψ4 pk _ (.inr y) k.tr ⟨rfl,rfl,h4,by rw[EL,e];rfl,?_⟩;left;show Ψ2 k p ⟨rfl,so.2.2.2,?_⟩;cases e2:Di k p with
  |none=>
   rw[e2]at q;left;show no q
  |some k'=>
   rw[e2]at q;let gk:=en.gk _ (FG e);let ak:=Ma gk.1 gk.2 e2;left;rw[show Ft (F6 (some k'))=false by let⟨ts,e⟩:=Hj k';show Ft k'.tr=_;rw[e];rfl];left;show Ψ8 a pk x k' Ps re W ks ⟨rfl,ak.2,en.gk,by lia,hs,AD .refl q⟩
@[reducible]def O3:Stmt:=B8 59
def eR:B0 ["scope","statement","word","target","path","name"] ["scope","statement"] (An O3):=nofun
def rA(F:cH K "is_good_put" "is_good_put" O3 f fd)(aE:qX K C)(aD:bW K C "kinds")(cC:Ab P w K mg am "is_good_change" 2 ["scope","target","name"] (QO C))(eG:Ab P w K mg am "kind_at" 4 ["kind","path"] Ly):bq P w K mg am Ax 5 f fd ["scope","statement"] (Aw (Fe C 3 m)):=by
 show B7 F eR (λts Γ Z Y h=>Gb h) (λcy A outer s H E ts Γ Z Y hr h=>?_);let⟨a,pk,s,Ps,re,W,ks,rfl,ew,so,hm,en,hs,q⟩:=h;show⟨_,(A5 (Fl (A3 1) (Cg (n:=4) rfl (Ak (B5 (i:=2) eR.nd) (Ak (B5 (i:=3) eR.nd) (Ak (B5 (i:=4) eR.nd) (Ak (B5 (i:=5) eR.nd) CW))))))
  (A5 (Ah (BL (BG (Aj cC hr (A4 (A3 0) (A4 (A3 3) (A4 (A3 5) A9)))))) (A5 (AJ BH)
  AB) AB)
  (A5 (AJ (CR (iV (d:=17) (D3 (DQ (by decide:1+17≤64) _) hr.units)) (Aj eG hr (A4 (Hv (D3 (DQ (by decide:1≤64) _) hr.units) (EP aE aD (A3 0)) (A3 3)) (A4 (A3 4) A9))) (Hv (D3 (DQ (by decide:1≤64) _) hr.units) (EP aE aD (A3 0)) (A3 5))))
  AB))),?_⟩
 simp only[Az];let i0:=hs;obtain⟨⟨dx,pp,pw,h1,h2,h3,n1,n2⟩,h4⟩:=i0;let ln:=en.ln;let⟨y,p,x,rfl⟩:=ri ew;unfold Sm.Ok at so;unfold gd at q;rw[Sm.tr];let no:Z (.bl false) (AF Γ pk (.dK (DG ks)))→DW Z (.bl false) Γ:=λq=>by rw[FA h4]at q;show AD .refl q
 left;show Ψ8 a pk y x Ps re W ks ⟨rfl,hs,?_⟩;unfold O9;cases e:ks.lookup y with
 |none=>
  rw[e]at q;left;show no q
 |some ky=>
  cases e1:ks.lookup x with
  |none=>
   rw[e,e1]at q;left;show no q
  |some kx=>
   rw[e,e1]at q;have q:Z (.bl (!decide (W.lookup y=some "lend")&&(match Di ky p with|some k=>kq k kx|none=>false))) (AF Γ pk (.dK (DG ks))):=q;rw[FA h4]at q;show⟨_,rfl,?_⟩;rw[show((some ky).isSome&&((some kx).isSome&&!decide (W.lookup y=some "lend")))=!decide (W.lookup y=some "lend")from rfl];cases e2:decide (W.lookup y=some "lend")with
   |true=>
    rw[e2]at q;left;show AD .refl q
   |false=>
    rw[e2]at q;have q:Z (.bl (match Di ky p with|some k=>kq k kx|none=>false)) Γ:=q;have gy:=en.gk _ (FG e);have gx:=en.gk _ (FG e1);left;unfold JA;left;show Ψ4 pk _ (.inr y) ky.tr ⟨rfl,rfl,h4,by rw[EL,e];rfl,?_⟩;left;show Ψ2 ky p ⟨rfl,so.2.2.2,?_⟩;left;show Ψ4 pk _ (.inr x) kx.tr ⟨rfl,rfl,h4,by rw[EL,e1];rfl,?_⟩;cases e3:Di ky p with
    |none=>
     rw[e3]at q;let⟨us,eu⟩:=Hj kx;show .inl ⟨rfl,⟨us,eu⟩,AD .refl q⟩
    |some k=>
     rw[e3]at q;let gk:=Ma gy.1 gy.2 e3;show .inr ⟨KO (Fc gk.2) (Fc gx.2),AD .refl q⟩
@[reducible]def Pg:Stmt:=B8 60
def eU:B0 ["scope","statement","word","target","path","name"] ["scope","statement"] (An Pg):=nofun
def qH(F:cH K "is_good_add" "is_good_add" Pg f fd)(aE:qX K C)(aD:bW K C "kinds")(cC:Ab P w K mg am "is_good_change" 2 ["scope","target","name"] (QO C))(eG:Ab P w K mg am "kind_at" 4 ["kind","path"] Ly):bq P w K mg am Ax 5 f fd ["scope","statement"] (Aw (Fe C 4 m)):=by
 show B7 F eU (λts Γ Z Y h=>Gb h) (λcy A outer s H E ts Γ Z Y hr h=>?_);let⟨a,pk,s,Ps,re,W,ks,rfl,ew,so,hm,en,hs,q⟩:=h;show⟨_,(A5 (Fl (A3 1) (Cg (n:=4) rfl (Ak (B5 (i:=2) eU.nd) (Ak (B5 (i:=3) eU.nd) (Ak (B5 (i:=4) eU.nd) (Ak (B5 (i:=5) eU.nd) CW))))))
  (A5 (Ah (BL (BG (Aj cC hr (A4 (A3 0) (A4 (A3 3) (A4 (A3 5) A9)))))) (A5 (AJ BH)
  AB) AB)
  (A5 (AJ (CR (iV (d:=17) (D3 (DQ (by decide:1+17≤64) _) hr.units)) (Aj eG hr (A4 (Hv (D3 (DQ (by decide:1≤64) _) hr.units) (EP aE aD (A3 0)) (A3 3)) (A4 (A3 4) A9))) (Ay (A4 AP (A4 (Hv (D3 (DQ (by decide:1≤64) _) hr.units) (EP aE aD (A3 0)) (A3 5)) A9)))))
  AB))),?_⟩
 simp only[Az];let i0:=hs;obtain⟨⟨dx,pp,pw,h1,h2,h3,n1,n2⟩,h4⟩:=i0;let ln:=en.ln;let⟨y,p,x,rfl⟩:=lQ ew;unfold Sm.Ok at so;unfold gd at q;rw[Sm.tr];let no:Z (.bl false) (AF Γ pk (.dK (DG ks)))→DW Z (.bl false) Γ:=λq=>by rw[FA h4]at q;show AD .refl q
 left;show Ψ8 a pk y x Ps re W ks ⟨rfl,hs,?_⟩;unfold O9;cases e:ks.lookup y with
 |none=>
  rw[e]at q;left;show no q
 |some ky=>
  cases e1:ks.lookup x with
  |none=>
   rw[e,e1]at q;left;show no q
  |some kx=>
   rw[e,e1]at q;have q:Z (.bl (!decide (W.lookup y=some "lend")&&(match Di ky p with|some k=>kq k (.row kx)|none=>false))) (AF Γ pk (.dK (DG ks))):=q;rw[FA h4]at q;show⟨_,rfl,?_⟩;rw[show((some ky).isSome&&((some kx).isSome&&!decide (W.lookup y=some "lend")))=!decide (W.lookup y=some "lend")from rfl];cases e2:decide (W.lookup y=some "lend")with
   |true=>
    rw[e2]at q;left;show AD .refl q
   |false=>
    rw[e2]at q;have q:Z (.bl (match Di ky p with|some k=>kq k (.row kx)|none=>false)) Γ:=q;have gy:=en.gk _ (FG e);have gx:=en.gk _ (FG e1);left;unfold JA;left;show Ψ4 pk _ (.inr y) ky.tr ⟨rfl,rfl,h4,by rw[EL,e];rfl,?_⟩;left;show Ψ2 ky p ⟨rfl,so.2.2.2,?_⟩;left;show Ψ4 pk _ (.inr x) kx.tr ⟨rfl,rfl,h4,by rw[EL,e1];rfl,?_⟩;left;rw[show T.tup [.str "row",kx.tr]=(Kd.row kx).tr by rw[Kd.tr]];cases e3:Di ky p with
    |none=>
     rw[e3]at q;let⟨us,eu⟩:=Hj (.row kx);show .inl ⟨rfl,⟨us,eu⟩,AD .refl q⟩
    |some k=>
     rw[e3]at q;let gk:=Ma gy.1 gy.2 e3;show .inr ⟨KO (Fc gk.2) (by rw[Kd.depth];have:kx.depth≤5:=gx.2;lia),AD .refl q⟩
@[reducible]def Nw:Stmt:=B8 62
def acy:B0 ["scope","statement"] ["scope","statement"] (An Nw):=nofun
def uU(F:cH K "is_good_drop" "is_good_drop" Nw f fd)(aM:DT P w K mg am C "knows" 1 ["self","name"] (IU C))(cw:DT P w K mg am C "is_own" 1 ["self","name"] (MI C)):bq P w K mg am Ax 5 f fd ["scope","statement"] (Aw (Fe C 5 m)):=by
 show B7 F acy (λts Γ Z Y h=>Gb h) (λcy A outer s H E ts Γ Z Y hr h=>?_);let⟨a,pk,s,Ps,re,W,ks,rfl,ew,so,hm,en,hs,q⟩:=h;show⟨_,(A5 (AJ (CC (F3 aM hr (by lia) (A3 0) (A4 (AK (A3 1) A7) A9)) (CM (F3 cw hr (by lia) (A3 0) (A4 (AK (A3 1) A7) A9)))))
  AB),?_⟩
 simp only[Az];let i0:=hs;obtain⟨⟨dx,pp,pw,h1,h2,h3,n1,n2⟩,h4⟩:=i0;let ln:=en.ln;let⟨x,rfl⟩:=nv ew;unfold Sm.Ok at so;unfold gd at q;rw[Sm.tr];rw[FA h4]at q;left;show Ψ7 a pk x Ps re W ks ⟨rfl,hs,?_⟩;exists c
 ·rw[c,BM]at q
  left;show Ψ7 a pk x Ps re W ks ⟨rfl,hs,AD .refl q⟩
 ·rw[c]at q
  show AD .refl q
@[reducible]def Q2:Stmt:=B8 63
def upd:B0 ["scope","statement"] ["scope","statement"] (An Q2):=nofun
def yf(F:cH K "is_good_say" "is_good_say" Q2 f fd)(aM:DT P w K mg am C "knows" 1 ["self","name"] (IU C)):bq P w K mg am Ax 5 f fd ["scope","statement"] (Aw (Fe C 6 m)):=by
 show B7 F upd (λts Γ Z Y h=>Gb h) (λcy A outer s H E ts Γ Z Y hr h=>?_);let⟨a,pk,s,Ps,re,W,ks,rfl,ew,so,hm,en,hs,q⟩:=h;show⟨_,(A5 (AJ (F3 aM hr (by lia) (A3 0) (A4 (AK (A3 1) A7) A9)))
  AB),?_⟩
 simp only[Az];let i0:=hs;obtain⟨⟨dx,pp,pw,h1,h2,h3,n1,n2⟩,h4⟩:=i0;let ln:=en.ln;let⟨x,rfl⟩:=qQ ew;unfold Sm.Ok at so;unfold gd at q;rw[Sm.tr];rw[FA h4]at q;left;show Ψ7 a pk x Ps re W ks ⟨rfl,hs,AD .refl q⟩
@[reducible]def QB:Stmt:=B8 64
def cM:B0 ["scope","statement","word","target","door","names","places","result"] ["scope","statement"] (An QB):=nofun
def vU(F:cH K "is_good_call" "is_good_call" QB f fd)(aE:qX K C)(bY:bW K C "papers")(fk:DT P w K mg am C "may_hand" 2 ["self","name","place"] (T2 C))(a9:DT P w K mg am C "may_make" 2 ["self","name","kind"] (Kt C))(aC:mg "len" = none)(bx:mg "all" = none)(eK:mg "zip" = none):bq P w K mg am Ax 5 f fd ["scope","statement"] (Aw (Fe C 7 m)):=by
 show B7 F cM (λts Γ Z Y h=>Gb h) (λcy A outer s H E ts Γ Z Y hr h=>?_);let⟨a,pk,s,Ps,re,W,ks,rfl,ew,so,hm,en,hs,q⟩:=h;show⟨_,(A5 (Fl (A3 1) (Cg (n:=4) rfl (Ak (B5 (i:=2) cM.nd) (Ak (B5 (i:=3) cM.nd) (Ak (B5 (i:=4) cM.nd) (Ak (B5 (i:=5) cM.nd) CW))))))
  (A5 (Ah (Jq (tUn (D3 (DQ (by decide:1≤64) _) hr.units)) (A3 4) (EP aE bY (A3 0)) (by with_unfolding_all rfl)) (A5 (AJ BH)
  AB) AB)
  (A5 (Fl (CN Ff (Hv (D3 (DQ (by decide:1≤64) _) hr.units) (EP aE bY (A3 0)) (A3 4)) (Be A7) DE) (Cg (n:=2) rfl (Ak (B5 (i:=6) cM.nd) (Ak (B5 (i:=7) cM.nd) CW))))
  (A5 (Ah (Aq EF (Ap BY rfl aC BD (A4 (A3 5) A9)) (Ap BY rfl aC BD (A4 (A3 6) A9))) (A5 (AJ BH)
  AB) AB)
  (A5 (Ah (BL (BG (Ap (FN rfl) rfl bx FY (A4 (Cs (own:=["handed","place"]) (cap:=[(0,"scope")]) (FK rfl (by done) (by done) rfl (⟨rfl,trivial⟩) rfl (⟨⟨rfl,rfl,rfl⟩,trivial⟩)) rfl (U6 rfl eK (A4 (A3 5) (A4 (A3 6) A9))) (λ_ _ _ _=>(Cg (n:=2) rfl (Ak (BX (i:=0) (show List.Nodup (["handed","place","scope"]:List Str)from by done) rfl (Or.inl rfl) (Or.inr rfl)) (Ak (BX (i:=1) (show List.Nodup (["handed","place","scope"]:List Str)from by done) rfl (Or.inl rfl) (Or.inr rfl)) CW)))) (λ_ _ _ _=>DJ) (λ_ _ _ _=>(F3 fk hr (by lia) (A3 2) (A4 (A3 0) (A4 (A3 1) A9))))) A9)))) (A5 (AJ BH)
  AB) AB)
  (A5 (AJ (La (CR N5 (A3 3) Hs) (CM (CC (CR Vc (A3 7) Hs) (CM (F3 a9 hr (by lia) (A3 0) (A4 (A3 3) (A4 (A3 7) A9))))))))
  AB)))))),?_⟩
 simp only[Az];let i0:=hs;obtain⟨⟨dx,pp,pw,h1,h2,h3,n1,n2⟩,h4⟩:=i0;let ln:=en.ln;let⟨z,d,ns,rfl⟩:=yX ew;unfold Sm.Ok at so;unfold gd at q;rw[Sm.tr];let no:Z (.bl false) (AF Γ pk (.dK (DG ks)))→DW Z (.bl false) Γ:=λq=>by rw[FA h4]at q;show AD .refl q
 left;show Ψ3 pp _ (.inr d) ⟨rfl,rfl,h2,?_⟩;rw[EL,Ld];cases e:Ps.lookup d with
 |none=>
  rw[e]at q;left;show no q
 |some pr=>
 rw[e]at q;let po:pr.Ok:=en.ps _ (FG e);let pl:=po.ln;left;unfold JA;left;show Ψ4 pp _ (.inr d) pr.tr ⟨rfl,rfl,h2,by rw[EL,e];rfl,?_⟩;unfold Pr.tr;left;rw[JV (by decide),show List.drop (Int.toNat 2) [T.str pr.nm,T.int pr.sd,T.tup (pr.ps.map Fg),F6 pr.re]=[T.tup (pr.ps.map Fg),F6 pr.re]from rfl];left;rw[Ag,Ag];show AH (λc=>?_) (λc=>?_)
 ·let c:ns.length≠pr.ps.length:=λe=>by rw[e]at c;simp at c
  dsimp only at q;rw[AV (by rw[CA c];show Cf)]at q;left;show no q
 let c:ns.length=pr.ps.length:=by
  have:decide (V.int (ns.length:Int)=V.int (pr.ps.length:Nat))=true:=by simpa using c
  have:=Ip this;lia
 dsimp only at q;rw[BE c,BM]at q;left;show⟨Bu (BU (by rw[Jd,Ag,Ag];lia)),?_⟩;show⟨λv6 τ ys Γ'=>∃(ms:List Str) (qs:List (Str×Str×Kd)) (bs:List Bool) (o1 o2:Option T),v6=Ew (ms.map T.str) (qs.map Fg)∧ms.length=qs.length∧(∀q∈qs,q∈pr.ps)∧τ=[o1,o2,some (.ref a)]∧ys=bs.map T.bl∧((ns.zip pr.ps).all λq=>LY W ks q.1 q.2)=(bs.all id&&(ms.zip qs).all λq=>LY W ks q.1 q.2)∧Γ'=Γ,Ψ5 ns pr.ps [] none none ⟨rfl,c,λ_ h=>h,rfl,rfl,by simp,rfl⟩,?_,?_⟩;rotate_left
 ·intro x r τ ys Γ'⟨ms,qs,bs,o1,o2,er,el,hq,rfl,rfl,eb,rfl⟩
  cases ms with
  |nil=>cases er
  |cons m0 ms=>
   cases qs with
   |nil=>cases el
   |cons q0 qs=>
    cases er;show⟨trivial,?_⟩;left;show Ψ8 a pk m0 q0 Ps re W ks ⟨rfl,(po.pl q0 (hq q0 (by simp))).2.2.2,en.gk,en.gw,hs,?_⟩;show Ψ5 ms qs (bs++[LY W ks m0 q0]) _ _ ⟨rfl,by simpa using el,λq h=>hq q (Dm _ h),rfl,by simp,?_,rfl⟩;rw[eb,RY,F4,Me];simp[QR]
 intro τ ys Γ'⟨ms,qs,bs,o1,o2,er,el,hq,rfl,rfl,eb,rfl⟩;let hz:ms=[]:=by
  cases ms with
  |nil=>rfl
  |cons m0 ms=>
   cases qs with
   |nil=>cases el
   |cons q0 qs=>cases er
 subst hz;rw[List.zip_nil_left,List.all_nil,LL]at eb;rw[eb]at q;show⟨trivial,?_⟩;clear p1 fO e1 Γ1 g1 l1
 let YR:Z (.bl false) (AF Γ' pk (.dK (DG ks)))→DW Z (.bl false) Γ1:=λq=>by rw[FA h4]at q;show AD l1 q
 let SE:=hs.mono l1;let h11:=l1 _ _ h1;left;show Ψ2 p1 bs ⟨rfl,BR g1,?_⟩;exists c
 ·rw[AV (by simpa using c)]at q
  left;show YR q
 rw[Aa (by simpa using c)]at q;let upL:∀WE:List (Str×Kd),Le (AF Γ' pk (.dK (DG WE))) (AF Γ1 pk (.dK (DG WE))):=λWE b u h=>by
  by_cases eb:b=pk
  ·subst eb;rw[BN]at h ⊢;show h
  ·rw[Ce eb]at h ⊢;show l1 _ _ h
 cases z with
 |none=>
  left;rw[FA h4]at q;show AD l1 q
 |some z0=>
  left;cases LQ:pr.re with
  |none=>
   rw[LQ]at q;left;show YR q
  |some k=>
   rw[LQ]at q;left;rw[show Ft (F6 (some k))=false by let⟨ts,e⟩:=Hj k;show Ft k.tr=_;rw[e];rfl];left;show Ψ8 a pk z0 k Ps re W ks ⟨rfl,(po.re k LQ).2,en.gk,by lia,SE,AD (upL _) q⟩
abbrev MQ(C:Addr)(m:Nat):B4:=λts Γ Z _=>∃(a pk:Addr) (ss:List Sm) (Ps:List (Str×Pr)) (re:Option Kd) (W:List (Str×Str)) (ks:ad),ts=[.ref a,.tup (C6 ss)]∧DD ss∧Gg ss<m∧En Ps re W ks (CP ss)∧Sc C Γ a Ps re W ks pk∧
 Z (.bl (BK Ps re W ss ks).1) (AF Γ pk (.dK (DG (BK Ps re W ss ks).2)))
@[reducible]def Nb:Stmt:=B8 65
def di:B0 ["scope","statement","word","one","other","first","second"] ["scope","statement"] (An Nb):=nofun
def qv(F:cH K "is_good_same" "is_good_same" Nb f fd)(aE:qX K C)(aD:bW K C "kinds")(aM:DT P w K mg am C "knows" 1 ["self","name"] (IU C))(c0:Ab P w K mg am "is_good_body" (lv+4) ["scope","body"] (MQ C m)):bq P w K mg am Ax (lv+5) f fd ["scope","statement"] (Aw (Fe C 8 (m+1))):=by
 show B7 F di (λts Γ Z Y h=>Gb h) (λcy A outer s H E ts Γ Z Y hr h=>?_);let⟨a,pk,s,Ps,re,W,ks,rfl,ew,so,hm,en,hs,q⟩:=h;show⟨_,(A5 (Fl (A3 1) (Cg (n:=5) rfl (Ak (B5 (i:=2) di.nd) (Ak (B5 (i:=3) di.nd) (Ak (B5 (i:=4) di.nd) (Ak (B5 (i:=5) di.nd) (Ak (B5 (i:=6) di.nd) CW)))))))
  (A5 (Ah (PW.pt (By (BL (BG (F3 aM hr (by lia) (A3 0) (A4 (A3 3) A9)))) (By (BL (BG (F3 aM hr (by lia) (A3 0) (A4 (A3 4) A9)))) (Cu (Aq (WO (d:=17) (D3 (DQ (by decide:1+17≤64) _) hr.units)) (Hv (D3 (DQ (by decide:1≤64) _) hr.units) (EP aE aD (A3 0)) (A3 3)) (Hv (D3 (DQ (by decide:1≤64) _) hr.units) (EP aE aD (A3 0)) (A3 4))))))) (A5 (AJ BH)
  AB) AB)
  (A5 (AJ (CC (Aj c0 hr (A4 (A3 0) (A4 (A3 5) A9))) (CM (Aj c0 hr (A4 (A3 0) (A4 (A3 6) A9))))))
  AB))),?_⟩
 simp only[Az];let i0:=hs;obtain⟨⟨dx,pp,pw,h1,h2,h3,n1,n2⟩,h4⟩:=i0;let ln:=en.ln;let⟨x,y,b1,b2,rfl⟩:=ph ew;unfold Sm.Ok at so;unfold gd at q;rw[Sm.tr];let no:Z (.bl false) (AF Γ pk (.dK (DG ks)))→DW Z (.bl false) Γ:=λq=>by rw[FA h4]at q;show AD .refl q
 unfold Sm.ht at hm;unfold Sm.sz at en ln;left;show Ψ7 a pk x Ps re W ks ⟨rfl,hs,?_⟩;cases e:ks.lookup x with
 |none=>
  rw[e]at q;left;show no q
 |some kx=>
  left;show Ψ7 a pk y Ps re W ks ⟨rfl,hs,?_⟩;cases e1:ks.lookup y with
  |none=>
   rw[e,e1]at q;left;show no q
  |some ky=>
  rw[e,e1]at q;let q:Z (.bl (if kq kx ky=true then(if(BK Ps re W b1 ks).1=true then BK Ps re W b2 (BK Ps re W b1 ks).2 else(false,(BK Ps re W b1 ks).2))else(false,ks)).1) (AF Γ pk (.dK (DG (if kq kx ky=true then(if(BK Ps re W b1 ks).1=true then BK Ps re W b2 (BK Ps re W b1 ks).2 else(false,(BK Ps re W b1 ks).2))else(false,ks)).2))):=q;left;unfold JA;left;show Ψ4 pk _ (.inr x) kx.tr ⟨rfl,rfl,h4,by rw[EL,e];rfl,?_⟩;left;show Ψ4 pk _ (.inr y) ky.tr ⟨rfl,rfl,h4,by rw[EL,e1];rfl,?_⟩;let tw:=KO (Fc (en.gk _ (FG e)).2) (Fc (en.gk _ (FG e1)).2);let neg:kq kx ky=CL kx.tr ky.tr:=rfl;let⟨ts,et⟩:=Hj kx;let⟨us,eu⟩:=Hj ky;rw[neg]at q;rw[et,eu]at tw q ⊢;cases tw with
  |tup t1 t2=>
  show Ψ2 ts us ⟨rfl,rfl,t1,t2,?_⟩;exists c
  ·rw[AV (by simpa using c)]at q
   left;show no q
  rw[Aa (by simpa using c)]at q;left;show Ψ7 a pk b1 Ps re W ks ⟨rfl,so.2.2.2.2.1,by lia,en.le (by lia),hs,?_⟩;let SE:=hs.set (BK Ps re W b1 ks).2;exists c
  ·rw[Aa c]at q
   left;show Ψ7 a pk b2 Ps re W _ ⟨rfl,so.2.2.2.2.2,by lia,(show En Ps re W ks (CP b1+CP b2)from en.le (by lia)).Lb so.2.2.2.2.1,SE,?_⟩;rw[Oh];show AD .refl q
  ·rw[AV (by rw[c];show Cf)]at q
   show AD .refl q
@[reducible]def Nf:Stmt:=B8 66
def xk:B0 ["scope","statement"] ["scope","statement"] (An Nf):=nofun
def acp(F:cH K "is_good_fail" "is_good_fail" Nf f fd): bq P w K mg am Ax 5 f fd ["scope","statement"] (Aw (Fe C 9 m)):=by
 show B7 F xk (λts Γ Z Y h=>Gb h) (λcy A outer s H E ts Γ Z Y hr h=>?_);let⟨a,pk,s,Ps,re,W,ks,rfl,ew,so,hm,en,hs,q⟩:=h;show⟨_,(A5 (AJ BH)
  AB),?_⟩
 simp only[Az];let i0:=hs;obtain⟨⟨dx,pp,pw,h1,h2,h3,n1,n2⟩,h4⟩:=i0;let ln:=en.ln;let⟨n0,rfl⟩:=rEq ew;unfold Sm.Ok at so;unfold gd at q;rw[Sm.tr];rw[FA h4]at q;left;show AD .refl q
@[reducible]def Ow:Stmt:=B8 67
def gh:B0 ["scope","statement","word","first","second"] ["scope","statement"] (An Ow):=nofun
def tx(F:cH K "is_good_try" "is_good_try" Ow f fd)(c0:Ab P w K mg am "is_good_body" (lv+4) ["scope","body"] (MQ C m)):bq P w K mg am Ax (lv+5) f fd ["scope","statement"] (Aw (Fe C 10 (m+1))):=by
 show B7 F gh (λts Γ Z Y h=>Gb h) (λcy A outer s H E ts Γ Z Y hr h=>?_);let⟨a,pk,s,Ps,re,W,ks,rfl,ew,so,hm,en,hs,q⟩:=h;show⟨_,(A5 (Fl (A3 1) (Cg (n:=3) rfl (Ak (B5 (i:=2) gh.nd) (Ak (B5 (i:=3) gh.nd) (Ak (B5 (i:=4) gh.nd) CW)))))
  (A5 (AJ (CC (Aj c0 hr (A4 (A3 0) (A4 (A3 3) A9))) (CM (Aj c0 hr (A4 (A3 0) (A4 (A3 4) A9))))))
  AB)),?_⟩
 simp only[Az];let i0:=hs;obtain⟨⟨dx,pp,pw,h1,h2,h3,n1,n2⟩,h4⟩:=i0;let ln:=en.ln;let⟨b1,b2,rfl⟩:=yY ew;unfold Sm.Ok at so;unfold gd at q;rw[Sm.tr];unfold Sm.ht at hm;unfold Sm.sz at en ln;left;show Ψ7 a pk b1 Ps re W ks ⟨rfl,so.2.2.1,by lia,en.le (by lia),hs,?_⟩;let SE:=hs.set (BK Ps re W b1 ks).2;exists c
 ·rw[Aa c]at q
  left;show Ψ7 a pk b2 Ps re W _ ⟨rfl,so.2.2.2,by lia,(show En Ps re W ks (CP b1+CP b2)from en.le (by lia)).Lb so.2.2.1,SE,?_⟩;rw[Oh];show AD .refl q
 ·rw[AV (by rw[c];show Cf)]at q
  show AD .refl q
@[reducible]def NI:Stmt:=B8 68
def lh:B0 ["scope","statement","name"] ["scope","statement"] (An NI):=nofun
def zJ(F:cH K "is_good_back" "is_good_back" NI f fd)(aE:qX K C)(aD:bW K C "kinds")(bX:bW K C "result")(aM:DT P w K mg am C "knows" 1 ["self","name"] (IU C))(cw:DT P w K mg am C "is_own" 1 ["self","name"] (MI C)):bq P w K mg am Ax 5 f fd ["scope","statement"] (Aw (Fe C 11 m)):=by
 show B7 F lh (λts Γ Z Y h=>Gb h) (λcy A outer s H E ts Γ Z Y hr h=>?_);let⟨a,pk,s,Ps,re,W,ks,rfl,ew,so,hm,en,hs,q⟩:=h;show⟨_,(A5 (Ar (i:=2) lh.nd (AK (A3 1) A7))
  (A5 (Ah (PW.pt (By (BL (BG (F3 aM hr (by lia) (A3 0) (A4 (A3 2) A9)))) (Cu (BL (BG (F3 cw hr (by lia) (A3 0) (A4 (A3 2) A9))))))) (A5 (AJ BH)
  AB) AB)
  (A5 (AJ (CC (CR Vc (EP aE bX (A3 0)) Hs) (CM (CR (Wd (d:=17) (D3 (DQ (by decide:1+17≤64) _) hr.units)) (Hv (D3 (DQ (by decide:1≤64) _) hr.units) (EP aE aD (A3 0)) (A3 2)) (EP aE bX (A3 0))))))
  AB))),?_⟩
 simp only[Az];let i0:=hs;obtain⟨⟨dx,pp,pw,h1,h2,h3,n1,n2⟩,h4⟩:=i0;let ln:=en.ln;let⟨x,rfl⟩:=mJ ew;unfold Sm.Ok at so;unfold gd at q;rw[Sm.tr];let no:Z (.bl false) (AF Γ pk (.dK (DG ks)))→DW Z (.bl false) Γ:=λq=>by rw[FA h4]at q;show AD .refl q
 rw[FA h4]at q;left;show Ψ7 a pk x Ps re W ks ⟨rfl,hs,?_⟩;cases e:ks.lookup x with
 |none=>
  rw[e]at q;left;show AD .refl q
 |some k=>
  rw[e]at q;left;show Ψ7 a pk x Ps re W ks ⟨rfl,hs,?_⟩;exists c
  ·left
   cases re with
   |none=>show AD .refl q
   |some r=>
    let q:Z (.bl (IY W x&&kq k r)) Γ:=q;rw[show IY W x=false by simpa using c]at q;show AD .refl q
  let c:IY W x=true:=by simpa using c
  cases re with
  |none=>
   left;show AD .refl q
  |some r=>
   let q:Z (.bl (IY W x&&kq k r)) Γ:=q;rw[c,BM]at q;left;rw[show Ft (F6 (some r))=false by let⟨ts,e⟩:=Hj r;show Ft r.tr=_;rw[e];rfl];left;unfold JA;left;show Ψ4 pk _ (.inr x) k.tr ⟨rfl,rfl,h4,by rw[EL,e];rfl,?_⟩;left;show⟨KO (Fc (en.gk _ (FG e)).2) (Fc (en.re r rfl).2),AD .refl q⟩
end
section
variable {K: W.Frag}
@[reducible]def QQ:Stmt:=B8 54
def iX:B0 ["scope","body","statement","rule"] ["scope","body"] (An QQ):=nofun
def wY(F:cH K "is_good_body" "is_good_body" QQ f fd)(ng:mg "RULES" = some (.ref PR))(Xp:∀s:Sm,∃aF b,Cz P w K PR aF∧aF.lookup s.word=some b∧Y7 P w K mg am b (lv+3) ["scope","statement"] (Fe C s.tag (m+1))):bq P w K mg am Ax (lv+4) f fd ["scope","body"] (Aw (MQ C (m+1))):=by
 show B7 F iX (λts Γ Z Y h=>?_) (λcy A outer s H E ts Γ Z Y hr h=>?_)
 ·let⟨_,_,_,_,_,_,_,rfl,_⟩:=h
  rfl
 let⟨a,pk,ss,Ps,re,W,ks,rfl,so,hm,en,hs,q⟩:=h;show⟨_,(A5 (GS Gh rfl (Du (A3 1)) (B5 (i:=2) iX.nd) (A5 (Ar (i:=3) iX.nd (jG (Eo rfl ng M8) (AK (A3 2) A7)))
  (A5 (Ah (BL (BG (pE 3 (lv+3) ["scope","statement"] hr (by lia) (A4 (A3 0) (A4 (A3 2) A9))))) (A5 (AJ BH)
  AB) AB)
  AB)))
  (A5 (AJ BH)
  AB)),?_⟩
 simp only[Az];left;show⟨λv6 τ Γ'=>∃(rs:List Sm) (ls:ad) (o2 o3:Option T),v6=C6 rs∧DD rs∧Gg rs<m+1∧En Ps re W ls (CP rs)∧Sc C Γ' a Ps re W ls pk∧Kq [pk] Γ Γ'∧BK Ps re W ss ks=BK Ps re W rs ls∧τ=[some (.ref a),some (.tup (C6 ss)),o2,o3],Ψ4 ss ks none none ⟨rfl,so,hm,en,hs,.refl,rfl,rfl⟩,?_,?_⟩
 ·intro τ Γ'⟨rs,ls,o2,o3,er,ro,rh,Ux,Uu,kq,eg,rfl⟩
  let hz:rs=[]:=by
   cases rs with
   |nil=>rfl
   |cons p r=>rw[C6]at er;cases er
  subst hz;rw[eg]at q;unfold BK at q;show⟨trivial,?_⟩;left;show jZ kq Uu.kk q
 ·intro x r τ Γ'⟨rs,ls,o2,o3,er,ro,rh,Ux,Uu,kq,eg,rfl⟩
  cases rs with
  |nil=>rw[C6]at er;cases er
  |cons s0 rs=>
   rw[C6]at er;cases er;unfold DD at ro;unfold Gg at rh;unfold CP at Ux;let⟨aF,b,kd,lk,fc⟩:=Xp s0;let tp:=s0.P8;left;unfold RJ;rw[tp];left;show Ψ4 PR aF s0.word b ⟨rfl,kd,rfl,lk,?_⟩;left;unfold aG;show Ψ2 b (Fe C s0.tag (m+1)) ⟨rfl,fc,?_⟩;rw[←tp];left;show Ψ7 a pk s0 Ps re W ls ⟨rfl,rfl,ro.1,by lia,Ux.le (by lia),Uu,?_⟩;let sc1:=Uu.set (gd Ps re W s0 ls).2;let Zf:Kq [pk] Γ (AF Γ' pk (.dK (DG (gd Ps re W s0 ls).2))):=kq.trans (Kq.set (by simp) _);exists c
   ·let c:(gd Ps re W s0 ls).1=false:=by simpa using c
    rw[eg]at q;unfold BK at q;rw[AV (by rw[c];show Cf)]at q;left;show jZ Zf BN q
   ·let c:(gd Ps re W s0 ls).1=true:=by simpa using c
    left;show Ψ4 rs _ _ _ ⟨rfl,ro.2,by lia,Ux.step ro.1,sc1,Zf,?_,rfl⟩;rw[eg,BK,Aa c]
end
section
variable {K: W.Frag}{f0 f1 f2 f3 f4 f5 f6 f7 f8 f9 PN PM: Addr}{XG xD A8 XF XE XD XC XB XA Xz OT OS: FuncData}
def aA(F:cH K "is_good_body" "is_good_body" QQ f fd)(m:mg "is_good_body" = some (.ref f))(kp:W.keepIn K (.ref f)=true)(b:Binds K fd ["scope","body"] [])(n5:cH K "is_good_new" "is_good_new" QD f0 XG)(mF:W.keepIn K (.ref f0)=true)(nS:Binds K XG ["scope","statement"] [])(m3:cH K "is_good_copy" "is_good_copy" OR f1 xD)(lA:W.keepIn K (.ref f1)=true)(mR:Binds K xD ["scope","statement"] [])(mX:cH K "is_good_part" "is_good_part" Ob f2 A8)(lr:W.keepIn K (.ref f2)=true)(mO:Binds K A8 ["scope","statement"] [])(nZ:cH K "is_good_put" "is_good_put" O3 f3 XF)(mE:W.keepIn K (.ref f3)=true)(nR:Binds K XF ["scope","statement"] [])(n6:cH K "is_good_add" "is_good_add" Pg f4 XE)(mG:W.keepIn K (.ref f4)=true)(nU:Binds K XE ["scope","statement"] [])(mZ:cH K "is_good_drop" "is_good_drop" Nw f5 XD)(lx:W.keepIn K (.ref f5)=true)(mQ:Binds K XD ["scope","statement"] [])(nW:cH K "is_good_say" "is_good_say" Q2 f6 XC)(mD:W.keepIn K (.ref f6)=true)(nQ:Binds K XC ["scope","statement"] [])(m4:cH K "is_good_call" "is_good_call" QB f7 XB)(lB:W.keepIn K (.ref f7)=true)(mS:Binds K XB ["scope","statement"] [])(mW:cH K "is_good_same" "is_good_same" Nb f8 XA)(lq:W.keepIn K (.ref f8)=true)(mM:Binds K XA ["scope","statement"] [])(mY:cH K "is_good_fail" "is_good_fail" Nf f9 Xz)(lu:W.keepIn K (.ref f9)=true)(mP:Binds K Xz ["scope","statement"] [])(nV:cH K "is_good_try" "is_good_try" Ow PN OT)(mC:W.keepIn K (.ref PN)=true)(nP:Binds K OT ["scope","statement"] [])(m5:cH K "is_good_back" "is_good_back" NI PM OS)(lC:W.keepIn K (.ref PM)=true)(mT:Binds K OS ["scope","statement"] [])(k_RULES:Cz P w K PR [("new",f0),("copy",f1),("part",f2),("put",f3),("add",f4),("drop",f5),("say",f6),("call",f7),("same",f8),("fail",f9),("try",PN),("back",PM)])(ng:mg "RULES" = some (.ref PR))(aE:qX K C)(aD:bW K C "kinds")(bY:bW K C "papers")(bX:bW K C "result")(aM:DT P w K mg am C "knows" 1 ["self","name"] (IU C))(cw:DT P w K mg am C "is_own" 1 ["self","name"] (MI C))(a9:DT P w K mg am C "may_make" 2 ["self","name","kind"] (Kt C))(fk:DT P w K mg am C "may_hand" 2 ["self","name","place"] (T2 C))(eG:Ab P w K mg am "kind_at" 4 ["kind","path"] Ly)(cC:Ab P w K mg am "is_good_change" 2 ["scope","target","name"] (QO C))(aC:mg "len" = none)(bx:mg "all" = none)(eK:mg "zip" = none):
  ∀n:Nat,Ab P w K mg am "is_good_body" (2*n+4) ["scope","body"] (MQ C n)
 |0=>Ψ2 f fd ⟨KL λts Γ Z Y h=>by obtain⟨_,_,_,_,_,_,_,_,_,h,_⟩:=h;lia,m,kp,b⟩
 |n+1=>by
  let c:=aA F m kp b n5 mF nS m3 lA mR mX lr mO nZ mE nR n6 mG nU mZ lx mQ nW mD nQ m4 lB mS mW lq mM mY lu mP nV mC nP m5 lC mT k_RULES ng aE aD bY bX aM cw a9 fk eG cC aC bx eK n;show Ψ2 f fd ⟨?_,m,kp,b⟩;rw[show 2*(n+1)+4=(2*n+2)+4 by lia];show wY F ng λs=>?_;cases s with
  |new x k v=>show Ψ2 _ f0 ⟨k_RULES,rfl,XG,(mh n5 a9).mono (by lia),mF,nS⟩
  |copy x y=>show Ψ2 _ f1 ⟨k_RULES,rfl,xD,(qx m3 aE aD aM a9).mono (by lia),lA,mR⟩
  |part x y p=>show Ψ2 _ f2 ⟨k_RULES,rfl,A8,(vg mX aE aD aM a9 eG).mono (by lia),lr,mO⟩
  |put y p x=>show Ψ2 _ f3 ⟨k_RULES,rfl,XF,(rA nZ aE aD cC eG).mono (by lia),mE,nR⟩
  |add y p x=>show Ψ2 _ f4 ⟨k_RULES,rfl,XE,(qH n6 aE aD cC eG).mono (by lia),mG,nU⟩
  |drop x=>show Ψ2 _ f5 ⟨k_RULES,rfl,XD,(uU mZ aM cw).mono (by lia),lx,mQ⟩
  |say x=>show Ψ2 _ f6 ⟨k_RULES,rfl,XC,(yf nW aM).mono (by lia),mD,nQ⟩
  |call z d ns=>show Ψ2 _ f7 ⟨k_RULES,rfl,XB,(vU m4 aE bY fk a9 aC bx eK).mono (by lia),lB,mS⟩
  |same x y b1 b2=>show Ψ2 _ f8 ⟨k_RULES,rfl,XA,(qv mW aE aD aM c).mono (by lia),lq,mM⟩
  |fail n0=>show Ψ2 _ f9 ⟨k_RULES,rfl,Xz,(acp mY).mono (by lia),lu,mP⟩
  |tri b1 b2=>show Ψ2 _ PN ⟨k_RULES,rfl,OT,(tx nV c).mono (by lia),mC,nP⟩
  |back x=>show Ψ2 _ PM ⟨k_RULES,rfl,OS,(zJ m5 aE aD bX aM cw).mono (by lia),lC,mT⟩
end
abbrev DB(hs:List Sh)(sd:Int):ad:=(hs.filter λh=>decide (h.sd=sd)).map λh=>(h.nm,h.k)
noncomputable def It(Ps:List (Str×Pr))(hs:List Sh)(p:Pr)(b:List Sm):Bool:=!(p.ps.any λq=>((DB hs p.sd).lookup q.1).isSome)&&(BK Ps p.re (p.ps.map λq=>(q.1,q.2.1)) b (DB hs p.sd++p.ps.map λq=>(q.1,q.2.2))).1
def rT(h:∀s∈hs,s.Ok):Hi (DB hs sd):=λp m=>by
 let⟨s,hm,rfl⟩:=aap.mp m;show(h s (abQ.mp hm).1).k
def pR(hs:List Sh)(sd:Int):(DB hs sd).length≤hs.length:=by
 unfold DB;rw[Ag];show List.length_filter_le _ _
section
variable {K: W.Frag}
@[reducible]def Qm:Stmt:=B8 52
def lg:B0 ["papers","shelves","paper","body","around"] ["papers","shelves","paper","body"] (An Qm):=nofun
abbrev ji(C:Addr):B4:=λts Γ Z _=>∃(pp:Addr) (hs:List Sh) (p:Pr) (b:List Sm) (Ps:List (Str×Pr)),ts=[.ref pp,.tup (hs.map Sh.tr),p.tr,.tup (C6 b)]∧Γ pp=some (.dK (Kx Ps))∧(∀s∈hs,s.Ok)∧(hs.map λs=>(s.nm,s.sd)).Nodup∧hs.length≤900∧p.Ok∧(∀p∈Ps,p.2.Ok)∧DD b∧Gg b<5∧CP b≤90000∧Z (.bl (It Ps hs p b)) Γ
def mH(F:cH K "is_good_door" "is_good_door" Qm f fd)(xg:mg "Scope" = some (.ref C))(KD:VB P w K mg am C 1 ["self","papers","paper","around"] (ag C))(c0:Ab P w K mg am "is_good_body" 14 ["scope","body"] (MQ C 5))(oN:mg "any" = none):bq P w K mg am Ax 15 f fd ["papers","shelves","paper","body"] (Aw (ji C)):=by
 show B7 F lg (λts Γ Z Y h=>?_) (λcy A outer s H E ts Γ Z Y hr h=>?_)
 ·let⟨_,_,_,_,_,rfl,_⟩:=h
  rfl
 obtain⟨pp,hs,p,b,Ps,rfl,gp,ho,nd,hl,po,pso,bo,bh,bz,q⟩:=h;show⟨_,(A5 (Ar (i:=4) lg.nd (vf (own:=["name","side","kind","worth"]) (cap:=[(2,"paper")]) (FK rfl (by done) (by done) rfl (⟨rfl,trivial⟩) rfl (⟨⟨rfl,rfl,rfl⟩,trivial⟩)) rfl (Du (A3 1)) (λ_ _ _ _=>(Cg (n:=4) rfl (Ak (BX (i:=0) (show List.Nodup (["name","side","kind","worth","paper"]:List Str)from by done) rfl (Or.inl rfl) (Or.inr rfl)) (Ak (BX (i:=1) (show List.Nodup (["name","side","kind","worth","paper"]:List Str)from by done) rfl (Or.inl rfl) (Or.inr rfl)) (Ak (BX (i:=2) (show List.Nodup (["name","side","kind","worth","paper"]:List Str)from by done) rfl (Or.inl rfl) (Or.inr rfl)) (Ak (BX (i:=3) (show List.Nodup (["name","side","kind","worth","paper"]:List Str)from by done) rfl (Or.inl rfl) (Or.inr rfl)) CW)))))) (λ_ _ _ _=>(OX (Aq BI (A3 1) (AK (A3 4) A7)))) (λ_ _ _ _=>(A3 0)) (λ_ _ _ _=>(A3 2))))
  (A5 (Ah (BG (Ap (g0 rfl) rfl oN PyProof.Rows.boot_any (A4 (Cs (own:=["name","way","kind"]) (cap:=[(4,"around")]) (FK rfl (by done) (by done) rfl (⟨rfl,trivial⟩) rfl (⟨⟨rfl,rfl,rfl⟩,trivial⟩)) rfl (Du (AK (A3 2) A7)) (λ_ _ _ _=>(Cg (n:=3) rfl (Ak (BX (i:=0) (show List.Nodup (["name","way","kind","around"]:List Str)from by done) rfl (Or.inl rfl) (Or.inr rfl)) (Ak (BX (i:=1) (show List.Nodup (["name","way","kind","around"]:List Str)from by done) rfl (Or.inl rfl) (Or.inr rfl)) (Ak (BX (i:=2) (show List.Nodup (["name","way","kind","around"]:List Str)from by done) rfl (Or.inl rfl) (Or.inr rfl)) CW))))) (λ_ _ _ _=>DJ) (λ_ _ _ _=>(Iu (j9 (D3 (DQ (by decide:1≤64) _) hr.units)) (A3 0) (A3 3) (by with_unfolding_all rfl)))) A9))) (A5 (AJ BH)
  AB) AB)
  (A5 (AJ (Aj c0 hr (A4 (abq KD hr (by lia) rfl xg (A4 (A3 0) (A4 (A3 2) (A4 (A3 4) A9)))) (A4 (A3 3) A9))))
  AB))),?_⟩
 simp only[Az];let pl:=po.ln;let al:=pR hs p.sd;left;unfold V4;left;show⟨by rw[Ag,Dd];lia,?_⟩;show⟨λv6 τ ys Γ'=>∃(gs ds:List Sh) (o1 o2 o3 o4:Option T),v6=gs.map Sh.tr∧hs=ds++gs∧τ=[o1,o2,o3,o4,some p.tr]∧ys=DG (DB ds p.sd)∧Γ'=Γ,Ψ6 hs [] none none none none ⟨rfl,rfl,rfl,rfl,rfl⟩,?_,?_⟩;rotate_left
 ·intro x r τ ys Γ'⟨gs,ds,o1,o2,o3,o4,er,ez,rfl,rfl,rfl⟩
  cases gs with
  |nil=>cases er
  |cons g gs=>
   cases er;show⟨trivial,?_⟩;unfold Sh.tr Pr.tr;left;let ed:decide (V.int g.sd=V.int p.sd)=decide (g.sd=p.sd):=abj.mpr ⟨V.int.inj,λe=>by rw[e]⟩;rw[ed];let ap:DB (ds++[g]) p.sd=DB ds p.sd++(if g.sd=p.sd then [(g.nm,g.k)]else []):=by
    unfold DB;rw[K0,Au];congr 1
    by_cases c:g.sd=p.sd<;>simp[c]
   show AH (λc=>?_) (λc=>?_)
   ·let c:=Bd c
    left;show⟨.inr g.nm,rfl,gs,ds++[g],_,_,_,_,rfl,by rw[ez];simp,rfl,?_,rfl⟩;rw[ap,Aa c];show Mh Kd.tr (v:=g.k) (iw.mpr λm=>?_);unfold DB at m;rw[FJ]at m;let⟨d,hd,e⟩:=aap.mp m;let⟨hd,hd2⟩:=abQ.mp hd;let hd2:=Bd hd2;rw[ez,Au,aa9]at nd;show nd.2.2 (d.nm,d.sd) (aap.mpr ⟨d,hd,rfl⟩) (g.nm,g.sd) (by simp) (by rw[show d.nm=g.nm from e,hd2,c])
   ·let c:=DC c
    show Ψ6 gs (ds++[g]) _ _ _ _ ⟨rfl,by rw[ez];simp,rfl,?_,rfl⟩;rw[ap,AV c,Bg]
 intro τ ys Γ'⟨gs,ds,o1,o2,o3,o4,er,ez,rfl,rfl,rfl⟩;let hg:gs=[]:=by
  cases gs with
  |nil=>rfl
  |cons _ _=>cases er
 subst hg;rw[Bg]at ez;subst ez;show⟨trivial,λpa hpa=>?_⟩;generalize e1:AF _ pa (O.dK _)=Γ1;let g1:=Am e1;let l1:=Ao e1 hpa;unfold It at q;left;unfold Pr.tr;left;show Gl (i:=2) rfl ?_;left;show⟨Bu (BU (by rw[Ag];lia)),?_⟩;show⟨λv6 τ ys Γ'=>∃(gs ds:List (Str×Str×Kd)) (o1 o2 o3:Option T),v6=gs.map Fg∧p.ps=ds++gs∧τ=[o1,o2,o3,some (.ref pa)]∧ys=(ds.map λq=>((DB hs p.sd).lookup q.1).isSome).map T.bl∧Γ'=Γ1,Ψ5 p.ps [] none none none ⟨rfl,rfl,rfl,rfl,rfl⟩,?_,?_⟩;rotate_left
 ·intro x r τ ys Γ'⟨gs,ds,o1,o2,o3,er,ez,rfl,rfl,rfl⟩
  cases gs with
  |nil=>cases er
  |cons g gs=>
   cases er;show⟨trivial,?_⟩;unfold Fg;left;show Ψ3 pa _ (.inr g.1) ⟨rfl,rfl,g1,?_⟩;rw[EL,Ld];show Ψ5 gs (ds++[g]) _ _ _ ⟨rfl,by rw[ez];simp,rfl,by rw[Au,Au];rfl,rfl⟩
 intro τ ys Γ'⟨gs,ds,o1,o2,o3,er,ez,rfl,rfl,rfl⟩;let hg:gs=[]:=by
  cases gs with
  |nil=>rfl
  |cons _ _=>cases er
 subst hg;rw[Bg]at ez;rw[←ez];show⟨trivial,?_⟩;clear p2 rB e2 Γ2 g2 l2
 left;show Ψ2 p2 _ ⟨rfl,BR g2,?_⟩;rw[List.any_map];exists c
 ·let c:(p.ps.any λq=>((DB hs p.sd).lookup q.1).isSome)=true:=c
  rw[c]at q;left;show AD (l1.trans l2) q
 let c:(p.ps.any λq=>((DB hs p.sd).lookup q.1).isSome)=false:=c;rw[c,Bool.not_false,BM]at q;let no:∀q∈p.ps,(DB hs p.sd).lookup q.1=none:=λq hq=>by
  cases e:(DB hs p.sd).lookup q.1 with
  |none=>rfl
  |some k=>
   have:(p.ps.any λq=>((DB hs p.sd).lookup q.1).isSome)=true:=abv.mpr ⟨q,hq,by rw[e];rfl⟩;rw[c]at this;cases this
 left;intro a dx ga gdx nx;let l3:Le Γ2 (AF Γ2 a (.ins C dx [])):=Le.new ga;show Ψ7 a dx pp pa p Ps (DB hs p.sd) ⟨rfl,BN,l3 _ _ (l2 _ _ (l1 _ _ gp)),l3 _ _ (l2 _ _ g1),po,no,by lia,λΓ' pk kq RK sc=>⟨rfl,?_⟩⟩;left;show Ψ7 a pk b Ps p.re _ _ ⟨rfl,bo,bh,?_,sc,?_⟩
 ·show⟨λx m=>?_,λx m=>?_,pso,po.re,?_⟩
  ·rcases aaK.mp m with m|m
   ·show rT ho x m
   ·let⟨y,hy,rfl⟩:=aap.mp m
    show(po.pl y hy).2.2
  ·let⟨y,hy,rfl⟩:=aap.mp m
   show(po.pl y hy).2.1
  ·rw[B3,Ag];lia
 ·show AD (λx u h=>?_) q
  let h2:=l2 _ _ (l1 _ _ h);let nxa:x≠a:=Dk h2 ga;let nxk:x≠pk:=λe=>by
   subst e;have:=l3 _ _ h2;rw[RK]at this;cases this
  rw[Ce nxk];show kq x u (by simpa using nxa) (l3 _ _ h2)
def lO{b:Bool}(h:(!b)=true):b=false:=by cases b<;>first|rfl|cases h
def aco{b:Bool}(h:(!b)=false):b=true:=by cases b<;>first|rfl|cases h
mutual
theorem aat:∀{s:Sm} {d:Nat},s.fm d=true→d≤4→s.ht+d≤4
 |.new x k v,d,h,l=>by unfold Sm.ht;lia
 |.copy x y,d,h,l=>by unfold Sm.ht;lia
 |.part x y p,d,h,l=>by unfold Sm.ht;lia
 |.put y p x,d,h,l=>by unfold Sm.ht;lia
 |.add y p x,d,h,l=>by unfold Sm.ht;lia
 |.drop x,d,h,l=>by unfold Sm.ht;lia
 |.say x,d,h,l=>by unfold Sm.ht;lia
 |.call z e ns,d,h,l=>by unfold Sm.ht;lia
 |.same x y a b,d,h,l=>by
  unfold Sm.fm at h;simp only[Cq,IX]at h;let i1:=Kz h.2.2.1.2 h.2.2.1.1;let i2:=Kz h.2.2.2.2 h.2.2.2.1;unfold Sm.ht;lia
 |.fail n,d,h,l=>by unfold Sm.ht;lia
 |.tri a b,d,h,l=>by
  unfold Sm.fm at h;simp only[Cq,IX]at h;let i1:=Kz h.1.2 h.1.1;let i2:=Kz h.2.2 h.2.1;unfold Sm.ht;lia
 |.back x,d,h,l=>by unfold Sm.ht;lia
theorem Kz:∀{ss:List Sm} {d:Nat},DL ss d=true→d≤4→Gg ss+d≤4
 |[],d,h,l=>by unfold Gg;lia
 |s::r,d,h,l=>by
  unfold DL at h;rw[Cq]at h;let i1:=aat h.1 l;let i2:=Kz h.2 l;unfold Gg;lia
end
def abu{ys:List (AI×T)}{k:AI}(h:k∈ys.map (·.1)):(F9 ys k v).length=ys.length:=by
 unfold F9;rw[Aa,Ag];let⟨p,hp,e⟩:=aap.mp h;show abv.mpr ⟨p,hp,BE e⟩
abbrev HM(s:Sh):List AI:=[.inr s.nm,.inl s.sd]
abbrev E3(hs:List Sh):List (List AI):=hs.foldl (λLs s=>Hu Ls (HM s)) []
def PV{es:List Sh}{g:Sh}:Hu (E3 es) (HM g)=E3 (es++[g]):=by unfold E3;rw[List.foldl_append];rfl
def zW{ks:List AI}(c:ks∈Ls):Hu Ls ks=Ls:=by
 unfold Hu;rw[Aa (abv.mpr ⟨ks,c,BE rfl⟩)]
def tg9{ks:List AI}(c:ks∉Ls):Hu Ls ks=ks::Ls:=by
 unfold Hu;rw[AV (λz=>by let⟨p,hp,e⟩:=abv.mp z;show c (Bd e ▸ hp))]
def aaD{ks x:List AI}:x∈Hu Ls ks↔x∈Ls∨x=ks:=by
 unfold Hu;split
 ·rename_i c
  let⟨p,hp,e⟩:=abv.mp c;let e:=Bd e;constructor
  ·show .inl
  ·rintro(h|rfl)
   ·show h
   ·rw[←e];show hp
 ·rw[aaf];show Or.comm
def Sp:∀(hs es:List Sh),(E3 es).length≤es.length→(∀x,x∈E3 es↔x∈es.map HM)→((E3 es).length=es.length ↔(es.map λs=>(s.nm,s.sd)).Nodup)→
  (E3 (es++hs)).length≤(es++hs).length∧((E3 (es++hs)).length=(es++hs).length ↔((es++hs).map λs=>(s.nm,s.sd)).Nodup)
 |[],es,h1,_,h3=>by rw[Bg];show⟨h1,h3⟩
 |g::hs,es,h1,h2,h3=>by
  let e:es++g::hs=(es++[g])++hs:=by simp
  let km:HM g∈E3 es ↔(g.nm,g.sd)∈es.map λs=>(s.nm,s.sd):=by
   rw[h2];constructor
   ·intro h
    let⟨s,hs,e⟩:=aap.mp h;unfold HM at e;injection e with e1 e2
    injection e1 with e1
    injection e2 with e2
    injection e2 with e2
    show aap.mpr ⟨s,hs,by rw[e1,e2]⟩
   ·intro h
    let⟨s,hs,e⟩:=aap.mp h;injection e with e1 e2
    show aap.mpr ⟨s,hs,by unfold HM;rw[e1,e2]⟩
  let li:HM g∈E3 es→(E3 (es++[g])).length=(E3 es).length:=λc=>by rw[←PV,zW c]
  let lo:HM g∉E3 es→(E3 (es++[g])).length=(E3 es).length+1:=λc=>by rw[←PV,tg9 c];rfl
  rw[e];show Sp hs (es++[g]) ?_ (λx=>?_) ?_
  ·rw[B3,L9]
   by_cases c:HM g∈E3 es
   ·have:=li c;lia
   ·have:=lo c;lia
  ·rw[←PV,aaD,h2,Au,aaK,CT,GD,aam]
  ·rw[B3,L9,Au,aa9]
   by_cases c:HM g∈E3 es
   ·rw[li c]
    show⟨λz=>by lia,λξ=>Ξ03 ξ λ_ _ z=>absurd rfl (z _ (km.mp c) (g.nm,g.sd) (by simp))⟩
   ·rw[lo c]
    constructor
    ·intro z
     show⟨h3.mp (by lia),by simp,λx hx y hy e=>?_⟩;rw[CT,GD,aam]at hy;subst hy;subst e;show c (km.mpr hx)
    ·intro⟨z,_,_⟩
     have:=h3.mpr z;lia
def zh(hs:List Sh):(E3 hs).length≤hs.length:=(Sp hs [] (Av _) (λx=>Iff.rfl) ⟨λ_=>.nil,λ_=>rfl⟩).1
def v5:(E3 hs).length=hs.length ↔(hs.map λs=>(s.nm,s.sd)).Nodup:=(Sp hs [] (Av _) (λx=>Iff.rfl) ⟨λ_=>.nil,λ_=>rfl⟩).2
abbrev GA(ds:List Dr):List (Str×Pr):=ds.map λd=>(d.p.nm,d.p)
noncomputable def MM(ds:List Dr)(hs:List Sh):Bool:=((ds.all λd=>IG d.b 1)&&hs.all λs=>BQ s.k s.w)&&(decide (ds.map λd=>d.p.nm).Nodup&&(decide (hs.map λs=>(s.nm,s.sd)).Nodup&&ds.all λd=>It (GA ds) hs d.p d.b))
@[reducible]def VQ:Stmt:=B8 51
def iy:B0 ["thing","doors","shelves","papers"] ["thing"] (An VQ):=nofun
abbrev je(t:T):Prop:=∀ds hs,t=.tup [.tup ds,hs]→∀d∈ds,Km d
abbrev iR:B4:=λts Γ Z _=>∃t:T,ts=[t]∧((Pt Γ t∧je t∧Hh t=false∧Z (.bl false) Γ)∨∃(ds:List Dr) (hs:List Sh),t=IF ds hs∧ds.length≤900∧hs.length≤4∧(∀d∈ds,d.Ok)∧(∀s∈hs,s.Ok)∧(∀d∈ds,CP d.b≤90000)∧Z (.bl (MM ds hs)) Γ)
def kO(F:cH K "is_program" "is_program" VQ f fd)(oJ:Ab P w K mg am "has_program_form" 40 ["thing"] jU)(uH:Ab P w K mg am "is_good_door" 15 ["papers","shelves","paper","body"] (ji C))(aC:mg "len" = none)(bx:mg "all" = none):bq P w K mg am Ax 41 f fd ["thing"] (Aw iR):=by
 show B7 F iy (λts Γ Z Y h=>?_) (λcy A outer s H E ts Γ Z Y hr h=>?_)
 ·let⟨_,rfl,_⟩:=h
  rfl
 obtain⟨t,rfl,h⟩:=h;show⟨_,(A5 (Ah (BL (BG (Aj oJ hr (A4 (A3 0) A9)))) (A5 (AJ BH)
  AB) AB)
  (A5 (Fl (A3 0) (Cg (n:=2) rfl (Ak (B5 (i:=1) iy.nd) (Ak (B5 (i:=2) iy.nd) CW))))
  (A5 (Ar (i:=3) iy.nd (dX (own:=["paper","body"]) (cap:=[]) Ec rfl (Du (A3 1)) (λ_ _ _ _=>(Cg (n:=2) rfl (Ak (BX (i:=0) (show List.Nodup (["paper","body"]:List Str)from by done) rfl (Or.inl rfl) (Or.inr rfl)) (Ak (BX (i:=1) (show List.Nodup (["paper","body"]:List Str)from by done) rfl (Or.inl rfl) (Or.inr rfl)) CW)))) (λ_ _ _ _=>(AK (A3 0) A7)) (λ_ _ _ _=>(A3 0))))
  (A5 (Ah (PW.pt (By (Aq EF (Ap ki rfl aC BD (A4 (A3 3) A9)) (Ap BY rfl aC BD (A4 (A3 1) A9))) (Cu (Aq EF (Ap rm rfl aC BD (A4 (nmB (D3 (DQ (by decide:1≤64) _) hr.units) (own:=["name","side","kind","worth"]) (cap:=[]) Ec rfl (Du (A3 2)) (λ_ _ _ _=>(Cg (n:=4) rfl (Ak (BX (i:=0) (show List.Nodup (["name","side","kind","worth"]:List Str)from by done) rfl (Or.inl rfl) (Or.inr rfl)) (Ak (BX (i:=1) (show List.Nodup (["name","side","kind","worth"]:List Str)from by done) rfl (Or.inl rfl) (Or.inr rfl)) (Ak (BX (i:=2) (show List.Nodup (["name","side","kind","worth"]:List Str)from by done) rfl (Or.inl rfl) (Or.inr rfl)) (Ak (BX (i:=3) (show List.Nodup (["name","side","kind","worth"]:List Str)from by done) rfl (Or.inl rfl) (Or.inr rfl)) CW)))))) (λ_ _ _ _=>(Ay (A4 (A3 0) (A4 (A3 1) A9))))) A9)) (Ap BY rfl aC BD (A4 (A3 2) A9)))))) (A5 (AJ BH)
  AB) AB)
  (A5 (AJ (Ap (FN rfl) rfl bx FY (A4 (Cs (own:=["paper","body"]) (cap:=[(3,"papers"),(2,"shelves")]) (FK rfl (by done) (by done) rfl (⟨rfl,⟨rfl,trivial⟩⟩) rfl (⟨⟨rfl,rfl,rfl⟩,⟨⟨rfl,rfl,rfl⟩,trivial⟩⟩)) rfl (Du (A3 1)) (λ_ _ _ _=>(Cg (n:=2) rfl (Ak (BX (i:=0) (show List.Nodup (["paper","body","papers","shelves"]:List Str)from by done) rfl (Or.inl rfl) (Or.inr rfl)) (Ak (BX (i:=1) (show List.Nodup (["paper","body","papers","shelves"]:List Str)from by done) rfl (Or.inl rfl) (Or.inr rfl)) CW)))) (λ_ _ _ _=>DJ) (λ_ _ _ _=>(Aj uH hr (A4 (A3 2) (A4 (A3 3) (A4 (A3 0) (A4 (A3 1) A9))))))) A9)))
  AB))))),?_⟩
 simp only[Az];left;rcases h with⟨pt,fw,pf,q⟩|⟨ds,hs,rfl,dl,hl,od,os,zs,q⟩
 ·show⟨t,rfl,pt,fw,?_⟩
  rw[pf];left;show AD .refl q
 unfold MM at q;show⟨IF ds hs,rfl,abM dl (by lia) od os,λes i0 e d hd=>?_,?_⟩
 ·unfold IF at e
  cases e;let⟨x,hx,rfl⟩:=aap.mp hd;show Pr.UZ (od x hx).p _
 rw[uE od os];unfold IF;exists c
 ·rw[lO c]at q
  left;show AD .refl q
 let c:=aco c;rw[c,BM]at q;rw[Cq]at c;let cd:=aaW.mp c.1;left;unfold QH;left;show⟨by rw[Ag,Dd];lia,?_⟩;show⟨λv6 τ ys Γ'=>∃(gs es:List Dr) (o1 o2:Option T),v6=gs.map Dr.tr∧ds=es++gs∧τ=[o1,o2]∧(((es.map λd=>d.p.nm).Nodup∧ys=Kx (GA es))∨(¬(es.map λd=>d.p.nm).Nodup∧ys.length<es.length))∧Γ'=Γ,Ψ4 ds [] none none ⟨rfl,rfl,rfl,.inl ⟨by simp,rfl⟩,rfl⟩,?_,?_⟩;rotate_left
 ·intro x r τ ys Γ'⟨gs,es,o1,o2,er,ez,rfl,hy,rfl⟩
  cases gs with
  |nil=>cases er
  |cons g gs=>
   cases er;show⟨trivial,?_⟩;unfold Dr.tr Pr.tr;left;show⟨.inr g.p.nm,rfl,gs,es++[g],_,_,rfl,by rw[ez];simp,rfl,?_,rfl⟩;rw[Au,B3];rcases hy with⟨nd,rfl⟩|⟨nn,ln⟩
   ·by_cases m:g.p.nm∈es.map λd=>d.p.nm
    ·show .inr ⟨λz=>?_,?_⟩
     ·rw[aa9]at z
      show z.2.2 _ m g.p.nm (by simp) rfl
     ·rw[abu,Ag]
      ·unfold GA;rw[Ag];simp
      ·let⟨d,hd,e⟩:=aap.mp m
       unfold GA Kx HY;rw[FJ,FJ];show aap.mpr ⟨d,hd,by show(Sum.inr d.p.nm:AI)=_;rw[e]⟩
    ·show .inl ⟨?_,?_⟩
     ·rw[aa9]
      show⟨nd,by simp,λx hx y hy e=>?_⟩;rw[CT,GD,aam]at hy;subst hy;subst e;show m hx
     ·unfold GA
      rw[Au];show Mh Pr.tr (v:=g.p) (iw.mpr ?_);rw[FJ];show m
   ·show .inr ⟨λz=>nn (aa9.mp z).1,?_⟩
    have:=QX ys (.inr g.p.nm) g.p.tr;have:(F9 ys (.inr g.p.nm) (.tup [.str g.p.nm,.int g.p.sd,.tup (g.p.ps.map Fg),F6 g.p.re])).length≤ys.length+1:=this;simp only[L9];lia
 intro τ ys Γ'⟨gs,es,o1,o2,er,ez,rfl,hy,rfl⟩;let hg:gs=[]:=by
  cases gs with
  |nil=>rfl
  |cons _ _=>cases er
 subst hg;rw[Bg]at ez;subst ez;show⟨trivial,λpp SG=>?_⟩;generalize e1:AF _ pp (O.dK _)=Γ1;let g1:=Am e1;let l1:=Ao e1 SG;left;show Ψ2 pp ys ⟨rfl,g1,?_⟩;left;rw[Ag];rcases hy with⟨nd,rfl⟩|⟨nn,ln⟩
 rotate_left
 ·show Jr ?_ ?_
  ·have:¬((ys.length:Int)=(ds.length:Nat)):=by lia
   simp[this]
  rw[CA nn,CZ]at q;left;show AD l1 q
 rw[BE nd,BM]at q;show Mf ?_ ?_
 ·unfold Kx HY GA
  simp
 left;unfold T5;left;show⟨by rw[Ag];lia,?_⟩;show⟨λv6 Ls τ Γ'=>∃(gs es:List Sh) (o1 o2 o3 o4:Option T),v6=gs.map Sh.tr∧hs=es++gs∧τ=[o1,o2,o3,o4]∧Ls=E3 es∧Γ'=Γ1,Ψ6 hs [] none none none none ⟨rfl,rfl,rfl,rfl,rfl⟩,?_,?_⟩;rotate_left
 ·intro x r Ls τ Γ'⟨gs,es,o1,o2,o3,o4,er,ez,rfl,rfl,rfl⟩
  cases gs with
  |nil=>cases er
  |cons g gs=>
   cases er;show⟨trivial,?_⟩;unfold Sh.tr;left;show⟨HM g,rfl,gs,es++[g],_,_,_,_,rfl,by rw[ez];simp,rfl,PV,rfl⟩
 intro Ls τ Γ'⟨gs,es,o1,o2,o3,o4,er,ez,rfl,rfl,rfl⟩;let hg:gs=[]:=by
  cases gs with
  |nil=>rfl
  |cons _ _=>cases er
 subst hg;rw[Bg]at ez;subst ez;show⟨trivial,λD hD=>?_⟩;let l2:Le Γ' (AF Γ' D (.ext (Gd D (E3 hs).length))):=Le.new hD;let dl4:=zh hs;left;show Ψ2 D _ ⟨rfl,by lia,BN,?_⟩;left;rw[Ag];by_cases ns:(hs.map λs=>(s.nm,s.sd)).Nodup
 rotate_left
 ·show Jr ?_ ?_
  ·have:=mt v5.mp ns
   have:¬(((E3 hs).length:Int)=(hs.length:Nat)):=by lia
   simp[this]
  rw[CA ns,CZ]at q;left;show AD (l1.trans l2) q
 rw[BE ns,BM]at q;show Mf (by rw[v5.mpr ns];simp) ?_;left;generalize e3:AF Γ' D _=Γ3 at l2 ⊢;show⟨Bu (BU (by rw[Ag];lia)),?_⟩;show⟨λv6 τ ys Γ'=>∃(gs es:List Dr) (o1 o2:Option T),v6=gs.map Dr.tr∧ds=es++gs∧τ=[o1,o2,some (.ref pp),some (.tup (hs.map Sh.tr))]∧ys=(es.map λd=>It (GA ds) hs d.p d.b).map T.bl∧Γ'=Γ3,Ψ4 ds [] none none ⟨rfl,rfl,rfl,rfl,rfl⟩,?_,?_⟩;rotate_left
 ·intro x r τ ys Γ'⟨gs,es,o1,o2,er,ez,rfl,rfl,rfl⟩
  cases gs with
  |nil=>cases er
  |cons g gs=>
   cases er;let gm:g∈ds:=by rw[ez];simp
   let og:=od g gm;let fg:(decide (1≤4)&&DL g.b 1)=true:=cd g gm;let hg:=Kz (show DL g.b 1=true from fg) (by decide);show⟨trivial,?_⟩;unfold Dr.tr;left;show Ψ5 pp hs g.p g.b (GA ds) ⟨rfl,l2 _ _ g1,os,ns,by lia,og.p,λx m=>?_,og.b,by lia,zs g gm,?_⟩
   ·let⟨d,hd,rfl⟩:=aap.mp m
    show(od d hd).p
   show Ψ4 gs (es++[g]) _ _ ⟨rfl,by rw[ez];simp,rfl,by rw[Au,Au];rfl,rfl⟩
 intro τ ys Γ'⟨gs,es,o1,o2,er,ez,rfl,rfl,rfl⟩;let hg:gs=[]:=by
  cases gs with
  |nil=>rfl
  |cons _ _=>cases er
 subst hg;rw[Bg]at ez;rw[←ez];show⟨trivial,?_⟩;clear p4 SJ e4 Γ4 g4 l4
 left;show Ψ2 p4 _ ⟨rfl,BR g4,?_⟩;rw[FZ];show AD ((l1.trans l2).trans l4) q
end
def Wc:∀{gs:List (Str×Kd)} {D:Nat},(∀p∈gs,Nm p.1∧p.2.good)→D4 gs
 |[],D,h=>by unfold D4;trivial
 |(m,k)::r,D,h=>by
  let a:=Wc (gs:=r) (D:=D) λp hp=>h p (by simp[hp]);let⟨x,y⟩:=h (m,k) (by simp);unfold D4;show⟨x,y,a⟩
def iH:∀{gs:List (Str×Kd)} {D:Nat},(∀p∈gs,p.2.depth≤D)→E9 gs≤D
 |[],D,h=>by unfold E9;show FI _
 |(m,k)::r,D,h=>by
  let a:=iH (gs:=r) (D:=D) λp hp=>h p (by simp[hp]);let y:=h (m,k) (by simp);unfold E9;let y:k.depth≤D:=y;lia
mutual
def Kd.fit:Kd→Prop
 |.num w=>1≤w∧w≤4
 |.text=>True
 |.row k=>k.fit
 |.rec_ fs=>KN fs∧fs.length≤6
 |.pick fs=>KN fs∧fs.length≤6
def KN:List (Str×Kd)→Prop
 |[]=>True
 |(nm,k)::r=>Nm nm∧k.fit∧KN r
end
abbrev Uc(ss:List Str)(k:Kd):Prop:=(ss.Nodup→k.good)∧k.fit
def da:∀{gs:List (Str×Kd)},(∀p∈gs,Nm p.1∧p.2.fit)→KN gs
 |[],h=>by unfold KN;trivial
 |(m,k)::r,h=>by
  let a:=da (gs:=r) λp hp=>h p (by simp[hp]);let⟨x,y⟩:=h (m,k) (by simp);unfold KN;show⟨x,y,a⟩
def X1{α:Type}:∀{ls:List α} {j:Nat} (h:j<ls.length),(ls[j]::ls.eraseIdx j).Perm ls
 |x::r,0,h=>.refl _
 |x::r,j+1,h=>by
  let h':j<r.length:=by simpa using h
  show(r[j]::x::r.eraseIdx j).Perm (x::r)
  show(List.Perm.swap _ _ _).trans ((X1 h').cons x)
def Xr{α β:Type}(f:α→β):∀(ls:List α) (j:Nat),(ls.map f).eraseIdx j=(ls.eraseIdx j).map f
 |[],j=>rfl
 |x::r,0=>rfl
 |x::r,j+1=>by
  show f x::(r.map f).eraseIdx j=f x::(r.eraseIdx j).map f
  rw[Xr f r j]
def le_none(k:Le Γ Γ')(h:Γ' p=none):Γ p=none:=by
 cases e:Γ p with
 |none=>rfl
 |some o=>have:=k p o e;rw[h]at this;cases this
section
variable {K: W.Frag}
@[reducible]def TI:Stmt:=B8 74
def fz:B0 ["kinds","names","number","left","fields","kind"] ["kinds","names","number"] (An TI):=nofun
abbrev gP:B4:=λts Γ Z _=>∃(a b:Addr) (n:Int) (ks:List Kd) (ss:List Str),ts=[.ref a,.ref b,.int n]∧Γ a=some (.lst (ks.map Kd.tr))∧Γ b=some (.lst (ss.map T.str))∧ks.length≤6∧6≤ss.length∧ss.length≤9∧
 ∀fs:ad,fs.map (·.2)=ks→(ss.Nodup→(fs.map (·.1)).Nodup)→(∀p∈fs,p.1∈ss)→Z (.tup (Br fs)) Γ
def Key(F:cH K "_law_fields" "_law_fields" TI f fd)(qp:mg "list" = none)(aC:mg "len" = none)(aB:mg "tuple" = none):bq P w K mg am Ax 1 f fd ["kinds","names","number"] (Aw gP):=by
 show B7 F fz (λts Γ Z Y h=>?_) (λcy A outer s H E ts Γ Z Y hr h=>?_)
 ·let⟨a,b,n,ks,ss,rfl,_⟩:=h
  rfl
 let⟨a,b,n,ks,ss,rfl,ga,gb,k6,s6,s9,q⟩:=h;show⟨_,(A5 (Ar (i:=3) fz.nd (IL jY rfl qp Zh (A4 (A3 1) A9)))
  (A5 (Ar (i:=4) fz.nd (CG A9))
  (A5 (GS Gh rfl (K1 (A3 0)) (B5 (i:=5) fz.nd) (A5 (IJ (F0 G5 Ia IS Hz (A3 4) (A4 (Ay (A4 (F0 G5 U2 Su oo (A3 3) (A4 (AG Bc (A3 2) (Ap BY rfl aC BD (A4 (A3 3) A9))) A9)) (A4 (A3 5) A9))) A9)))
  (A5 (Ar (i:=2) fz.nd (AG FC (A3 2) A7))
  AB)))
  (A5 (AJ (IL RL rfl aB DS (A4 (A3 4) A9)))
  AB)))),?_⟩
 simp only[Az];left;show Ψ2 (.ref b) _ ⟨rfl,BR gb,?_⟩;clear pl jw e1 Γ1 gl l1
 left;clear pf W5 e2 Γ2 gf l2
 let bl:Γ pl=none:=jw;let bf:Γ pf=none:=le_none l1 W5;let YW:pl≠pf:=Dk gl W5;let Y5:a≠pl:=Dk ga bl;let Y6:a≠pf:=Dk ga bf;left;show Ψ2 a _ ⟨rfl,BR (l2 _ _ (l1 _ _ ga)),?_⟩;show⟨λv6 τ Γ'=>∃(rs:List Kd) (gs:ad) (ls:List Str) (m:Int) (o5:Option T),v6=rs.map Kd.tr∧ks=gs.map (·.2)++rs∧τ=[some (.ref a),some (.ref b),some (.int m),some (.ref pl),some (.ref pf),o5]∧(gs.map (·.1)++ls).Perm ss∧Γ' pl=some (.lst (ls.map T.str))∧Γ' pf=some (.lst (Br gs))∧Kq [pl,pf] Γ Γ',Ψ5 ks [] ss n none ⟨rfl,rfl,rfl,.refl _,l2 _ _ gl,gf,(l1.trans l2).kq⟩,?_,?_⟩
 ·intro τ Γ'⟨rs,gs,ls,m,o5,er,ek,rfl,pm,UW,UX,kq⟩
  let W4:rs=[]:=by
   cases rs with
   |nil=>rfl
   |cons _ _=>cases er
  subst W4;rw[Bg]at ek;show⟨BR (kq _ _ (by simp[Y5,Y6]) ga),?_⟩;left;show Ψ2 (.ref pf) _ ⟨rfl,BR UX,?_⟩;have:Le Γ Γ':=λx o h=>kq x o (by
   let n1:x≠pl:=Dk h bl;let n2:x≠pf:=Dk h bf;simp[n1,n2]) h
  show AD this (q gs ek.symm (λnd=>?_) λp hp=>?_)
  ·have:=pm.nodup_iff.mpr nd
   rw[aa9]at this;show this.1
  ·show pm.mem_iff.mp (K6 _ (aap.mpr ⟨p,hp,rfl⟩))
 ·intro x rr τ Γ'⟨rs,gs,ls,m,o5,er,ek,rfl,pm,UW,UX,kq⟩
  cases rs with
  |nil=>cases er
  |cons k rs=>
   cases er;let hl:gs.length+ls.length=ss.length:=by
    have:=pm.length_eq;rw[B3,Ag]at this;show this
   let hk:gs.length+(rs.length+1)=ks.length:=by rw[ek,B3,Ag,D7]
   show⟨BR (kq _ _ (by simp[Y5,Y6]) ga),?_⟩;left;show G9 UX ?_;left;show G9 UW ?_;left;show GK UW ?_;rw[Ag];show Es (by show(0:Int)<_;lia) ?_;let b0:=DN m (show(ls.length:Int)≠0 by lia);let b1:=Dj m (show(0:Int)<ls.length by lia);obtain⟨j,hj⟩:∃j:Nat,m%(ls.length:Int)=j:=⟨(m%(ls.length:Int)).toNat,by lia⟩;let SV:j<ls.length:=by lia
   rw[hj];left;show Ψ4 pl (ls.map T.str) j (.str ls[j]) ⟨rfl,rfl,UW,by lia,by simp[SV],?_⟩;left;show Ψ3 pf _ _ ⟨rfl,rfl,by rw[Ce YW.symm];show UX,BU (by rw[FW];lia),?_⟩;left;show Ψ5 rs (gs++[(ls[j],k)]) (ls.eraseIdx j) _ _ ⟨rfl,by rw[ek,Au];simp,rfl,?_,?_,?_,(kq.trans (.set (by simp) _)).trans (.set (by simp) _)⟩
   ·rw[Au,ND]
    show(List.Perm.append_left _ (X1 SV)).trans pm
   ·rw[Ce YW,BN,Xr]
   ·rw[BN,ac7];rfl
abbrev Ek(q:Kd×Int):T:=.tup [q.1.tr,.int q.2]
abbrev Mt(ss:List Str)(D:Int)(q:Kd×Int):Prop:=Uc ss q.1∧(q.1.depth:Int)≤q.2∧1≤q.2∧q.2≤D
def Vp{D:Int}{w:Str}{d:Int}(hw:w = "rec" ∨ w = "pick")(nm:∀z∈ss,Nm z)(nd:ss.Nodup→(fs.map (·.1)).Nodup)(mem:∀p∈fs,p.1∈ss)(l1:1≤fs.length)(l6:fs.length≤6)(hk:∀k∈fs.map (·.2),Uc ss k∧(k.depth:Int)≤d)(d0:0≤d)(hd:d<D):
  ∃k:Kd,T.tup [.str w,.tup (Br fs)]=k.tr∧Mt ss D (k,d+1):=by
 let dF:(E9 fs:Int)≤d:=by
  have:=iH (gs:=fs) (D:=d.toNat) λp hp=>by
   have:=(hk p.2 (aap.mpr ⟨p,hp,rfl⟩)).2;lia
  lia
 let gF:ss.Nodup→D4 fs:=λh=>Wc (D:=0) λp hp=>⟨nm _ (mem p hp),(hk p.2 (aap.mpr ⟨p,hp,rfl⟩)).1.1 h⟩;let fF:KN fs:=da λp hp=>⟨nm _ (mem p hp),(hk p.2 (aap.mpr ⟨p,hp,rfl⟩)).1.2⟩;rcases hw with rfl|rfl
 ·show⟨.rec_ fs,by rw[Kd.tr],⟨λh=>?_,?_⟩,?_,?_,?_⟩
  ·show Kd.good (.rec_ fs)
   unfold Kd.good;show⟨gF h,l1,l6,nd h⟩
  ·show Kd.fit (.rec_ fs)
   unfold Kd.fit;show⟨fF,l6⟩
  ·show((Kd.rec_ fs).depth:Int)≤d+1
   rw[Kd.depth];lia
  ·show 1≤d+1;lia
  ·show d+1≤D;lia
 ·show⟨.pick fs,by rw[Kd.tr],⟨λh=>?_,?_⟩,?_,?_,?_⟩
  ·show Kd.good (.pick fs)
   unfold Kd.good;show⟨gF h,l1,l6,nd h⟩
  ·show Kd.fit (.pick fs)
   unfold Kd.fit;show⟨fF,l6⟩
  ·show((Kd.pick fs).depth:Int)≤d+1
   rw[Kd.depth];lia
  ·show 1≤d+1;lia
  ·show d+1≤D;lia
def eZ{c:Int}(h:x::r=Gw lo c n):∃m,n=m+1∧x=.int lo∧r=Gw (lo+c) c m:=by
 cases n with
 |zero=>cases h
 |succ m=>cases h;show⟨m,rfl,rfl,rfl⟩
def wc(l:Nat)(h:2≤l):Builtin.Range.rangeSize 0 ((l:Int)-1) 2=((l/2:Nat):Int):=by
 unfold Builtin.Range.rangeSize;rw[Aa (by decide),Aa (by lia)];lia
def enc{α:Type}{xs:List α}(h:1≤n):Bb xs (some (-(n:Int))) none=xs.drop (xs.length-n):=by
 unfold Bb;let e:HT.dz xs.length 0 (some (-(n:Int)))=xs.length-n:=by
  show(if -(n:Int)<0 then(-(n:Int)+(xs.length:Int)).toNat else _)=_
  rw[Aa (by lia)];lia
 rw[e,HT.oZ,MB (by rw[ET];lia)]
def P2{α:Type}{xs:List α}{x:α}(h:xs[xs.length-1]?=some x):C0 xs (-1)=some x:=by
 let hl:0<xs.length:=by
  rcases QJ xs.length with e|e
  ·rw[QT e]at h;cases h
  ·show e
 unfold C0 GY;rw[AV (by decide),Aa (by lia)];show xs[(-1+(xs.length:Int)).toNat]?=_
 rw[show(-1+(xs.length:Int)).toNat=xs.length-1 by lia];show h
@[reducible]def Qp:Stmt:=B8 75
def cW:B0 ["row","names","deepest","made","k","word","many","deep","fields","taken"] ["row","names","deepest"] (An Qp):=nofun
abbrev eA:B4:=λts Γ Z _=>∃(a b:Addr) (D:Int) (ns:List Int) (ss:List Str),ts=[.ref a,.ref b,.int D]∧Γ a=some (.lst (ns.map T.int))∧Γ b=some (.lst (ss.map T.str))∧2≤ns.length∧ns.length≤100∧ss.length=9∧(∀z∈ss,Nm z)∧1≤D∧
 ∀k:Kd,Uc ss k→(k.depth:Int)≤D→Z k.tr Γ
def wF(F:cH K "_law_kind" "_law_kind" Qp f fd)(qc:Ab P w K mg am "_law_fields" 1 ["kinds","names","number"] gP)(aC:mg "len" = none)(bJ:mg "range" = none)(tj:mg "min" = none)(j3:mg "max" = none)(j4:mg "int" = none):bq P w K mg am Ax 2 f fd ["row","names","deepest"] (Aw eA):=by
 show B7 F cW (λts Γ Z Y h=>?_) (λcy A outer s H E ts Γ Z Y hr h=>?_)
 ·let⟨a,b,D,ns,ss,rfl,_⟩:=h
  rfl
 let⟨a,b,D,ns,ss,rfl,ga,gb,n2,n100,s9,nm,D1,q⟩:=h;show⟨_,(A5 (Ar (i:=3) cW.nd (CG A9))
  (A5 (GS Gh rfl (j7 rfl bJ (A4 A7 (A4 (AG GI (Ap BY rfl aC BD (A4 (A3 0) A9)) A7) (A4 A7 A9)))) (B5 (i:=4) cW.nd) (A5 (Ar (i:=5) cW.nd (AG Bc (AK (A3 0) (A3 4)) A7))
  (A5 (Ar (i:=6) cW.nd (Ap (Rz rfl) rfl tj R5 (A4 (Ap BY rfl aC BD (A4 (A3 3) A9)) (A4 (AG C3 A7 (AG Bc (AG FC (AK (A3 0) (A3 4)) A7) A7)) A9))))
  (A5 (E5 (Ah (Aq Fy (A3 5) A7) (A5 (Ar (i:=6) cW.nd (Ap (Rz rfl) rfl tj R5 (A4 (Ap BY rfl aC BD (A4 (A3 3) A9)) (A4 A7 A9))))
  AB) AB))
  (A5 (Ar (i:=7) cW.nd (Ap (dA rfl) rfl j3 Lo (A4 (AG IB (CG (A4 A7 A9)) (Cs (own:=["one"]) (cap:=[]) Ec rfl (K1 (CN Hn (A3 3) (Be (AG GI (Ap BY rfl aC BD (A4 (A3 3) A9)) (A3 6))) DE)) (λ_ _ _ _=>GQ) (λ_ _ _ _=>DJ) (λ_ _ _ _=>(AK (A3 0) A7)))) A9)))
  (A5 (E5 (Ah (PW.pt (By (Aq Fy (A3 5) A7) (By (Aq BI (A3 6) A7) (Cu (Aq jW (A3 7) (A3 2)))))) (A5 (IJ (F0 G5 Ia IS Hz (A3 3) (A4 (Ay (A4 (AK (CG (A4 (Ay (A4 AP (A4 (AG C3 A7 (AG Bc (AG FC (AK (A3 0) (A3 4)) A7) A7)) A9))) (A4 (Ay (A4 AP A9)) A9))) (IL TT rfl j4 Mi (A4 (CR BI (AG Bc (A3 5) A7) A7) A9))) (A4 A7 A9))) A9)))
  AB) (A5 (E5 (Ah (Aq Fy (A3 5) A7) (A5 (IJ (F0 G5 Ia IS Hz (A3 3) (A4 (Ay (A4 (Ay (A4 AP (A4 (AK (R2 G5 U2 Su ef (A3 3)) A7) A9))) (A4 (AG C3 (A3 7) A7) A9))) A9)))
  AB) (A5 (Ar (i:=8) cW.nd (Aj qc hr (A4 (Cs (own:=["j"]) (cap:=[(3,"made")]) (FK rfl (by done) (by done) rfl (⟨rfl,trivial⟩) rfl (⟨⟨rfl,rfl,rfl⟩,trivial⟩)) rfl (Js rfl bJ (A4 (A3 6) A9)) (λ_ _ _ _=>(BX (i:=0) (show List.Nodup (["j","made"]:List Str)from by done) rfl (Or.inl rfl) (Or.inr rfl))) (λ_ _ _ _=>DJ) (λ_ _ _ _=>(AK (R2 G5 U2 Su ef (A3 1)) A7))) (A4 (A3 1) (A4 (AK (A3 0) (AG C3 (A3 4) A7)) A9)))))
  (A5 (IJ (F0 G5 Ia IS Hz (A3 3) (A4 (Ay (A4 (Ay (A4 (AK (CG (A4 AP (A4 AP A9))) (IL TT rfl j4 Mi (A4 (CR Ii (A3 5) A7) A9))) (A4 (A3 8) A9))) (A4 (AG C3 (A3 7) A7) A9))) A9)))
  AB))))
  AB)))
  AB))))))
  (A5 (Ar (i:=9) cW.nd (CN Hn (A3 3) (Be (EZ A7)) DE))
  (A5 (Ah (PW.pt (By (Aq BI (Ap BY rfl aC BD (A4 (A3 9) A9)) A7) (Cu (Aq jW (Ap (dA rfl) rfl j3 Lo (A4 (Cs (own:=["one"]) (cap:=[]) Ec rfl (K1 (A3 9)) (λ_ _ _ _=>GQ) (λ_ _ _ _=>DJ) (λ_ _ _ _=>(AK (A3 0) A7))) A9)) (A3 2))))) (A5 (AJ (AK (AK (A3 9) (EZ A7)) A7))
  AB) AB)
  (A5 (Ar (i:=8) cW.nd (Aj qc hr (A4 (Cs (own:=["one"]) (cap:=[]) Ec rfl (K1 (A3 9)) (λ_ _ _ _=>GQ) (λ_ _ _ _=>DJ) (λ_ _ _ _=>(AK (A3 0) A7))) (A4 (A3 1) (A4 (AK (A3 0) A7) A9)))))
  (A5 (AJ (Ay (A4 (AK (CG (A4 AP (A4 AP A9))) (AG Bc (AG FC (AK (A3 0) A7) A7) A7)) (A4 (A3 8) A9))))
  AB)))))),?_⟩
 simp only[Az];left;clear pm UM e1 Γ1 gm l1
 let Sb:a≠pm:=Dk ga UM;let UE:b≠pm:=Dk gb UM;left;unfold R1;left;show GK (l1 _ _ ga) ?_;rw[Ag];left;show Ψ4 0 ((ns.length:Int)-1) 2 (ns.length/2) ⟨rfl,.inl rfl,by lia,by lia,by lia,by lia,wc _ n2,?_⟩;show⟨λv6 τ Γ'=>∃(i m:Nat) (ms:List (Kd×Int)) (o4 o5 o6 o7 o8:Option T),v6=Gw ((2*i:Nat):Int) 2 m∧i+m=ns.length/2∧τ=[some (.ref a),some (.ref b),some (.int D),some (.ref pm),o4,o5,o6,o7,o8,none]∧(∀x∈ms,Mt ss D x)∧(i=0∨ms≠[])∧ms.length≤i∧Γ' pm=some (.lst (ms.map Ek))∧Kq [pm] Γ Γ',Ψ8 0 _ [] none none none none none ⟨rfl,by lia,rfl,λ_ h=>(nomatch h),.inl rfl,Av _,gm,l1.kq⟩,?_,?_⟩
 ·intro τ Γ'⟨i,m,ms,o4,o5,o6,o7,o8,er,im,rfl,ok,ne,ml,Tc,kq⟩
  let hm:m=0:=by
   cases m with
   |zero=>rfl
   |succ m=>cases er
  subst hm;let ne:ms≠[]:=ne.resolve_left (by lia);let ml0:0<ms.length:=List.length_pos_iff.mpr ne;show⟨trivial,?_⟩;left;show Ψ2 pm _ ⟨rfl,Tc,?_⟩;clear p2 rB e2 Γ2 g2 l2
  rw[Gj,show(some (-6):Option Int)=some (-((6:Nat):Int))from rfl,enc (by decide)]at g2;let YM:∀x∈ms.drop (ms.length-6),Mt ss D x:=λx hx=>ok x (Lh hx);let lT:(ms.drop (ms.length-6)).length=min 6 ms.length:=by rw[ET];lia
  generalize ms.drop (ms.length-6)=us at *
  let u1:1≤us.length∧us.length≤6:=by lia
  let JZ:=kq.trans (l2.kq (l:=[pm]));let Za:Le Γ Γ2:=λx o h=>JZ x o (by have:=Dk h UM;simpa using this) h;obtain⟨y,hy⟩:∃y,us[us.length-1]?=some y:=⟨us[us.length-1],by simp⟩;let my:=YM y (IT hy);let LH:C0 (us.map Ek) (-1)=some (Ek y):=P2 (by rw[Ag,He,hy];rfl);let fin:∀Γ3,Le Γ2 Γ3→DW Z y.1.tr Γ3:=λΓ3 l3=>AD (Za.trans l3) (q y.1 my.1 (by have:=my.2.1;have:=my.2.2.2;lia));left;show GK g2 ?_;rw[Ag];exists c
  ·left
   show B6 g2 LH ?_;unfold Ek;left;show fin Γ2 .refl
  left;show Ψ2 p2 _ ⟨rfl,BR g2,Bu (BU (by rw[Ag];lia)),?_⟩;show⟨λv6 τ ys Γ4=>∃(vs ws:List (Kd×Int)) (o0:Option T),v6=ws.map Ek∧us=vs++ws∧τ=[o0]∧ys=(vs.map (·.2)).map T.int∧Γ4=Γ2,Ψ3 [] us none ⟨rfl,rfl,rfl,rfl,rfl⟩,?_,?_⟩;rotate_left
  ·intro x rr τ ys Γ4⟨vs,ws,o0,Ea,eu,rfl,rfl,rfl⟩
   cases ws with
   |nil=>cases Ea
   |cons y ws=>
    cases Ea;show⟨BR g2,?_⟩;unfold Ek;left;show Ψ3 (vs++[y]) ws _ ⟨rfl,by rw[eu];simp,rfl,by rw[Au,Au];rfl,rfl⟩
  intro τ ys Γ4⟨vs,ws,o0,Ea,eu,rfl,rfl,rfl⟩;let SA:ws=[]:=by
   cases ws with
   |nil=>rfl
   |cons _ _=>cases Ea
  subst SA;rw[Bg]at eu;subst eu;show⟨BR g2,?_⟩;clear p3 AZ e3 Γ3 g3 l3
  left;show Ψ2 p3 (us.map λx:Kd×Int=>x.2) ⟨rfl,BR g3,λe=>by rw[List.map_eq_nil_iff.mp e]at u1;simp at u1,?_⟩;let dU:∀x∈us,x.2≤F7 (us.map λx:Kd×Int=>x.2):=λx hx=>M4 (aap.mpr ⟨x,hx,rfl⟩);generalize F7 (us.map λx:Kd×Int=>x.2)=deep at *
  let d0:1≤deep:=by
   have:=dU y (IT hy);have:=my.2.2.1;lia
  exists c2
  ·left
   show B6 (l3 _ _ g2) LH ?_;unfold Ek;left;show fin Γ3 l3
  let c2:=DC c2;left;let Ti:=l3 _ _ g2;show Ψ2 p2 _ ⟨rfl,BR Ti,Bu (BU (by rw[Ag];lia)),?_⟩;show⟨λv6 τ ys Γ4=>∃(vs ws:List (Kd×Int)) (o0:Option T),v6=ws.map Ek∧us=vs++ws∧τ=[o0]∧ys=(vs.map (·.1)).map Kd.tr∧Γ4=Γ3,Ψ3 [] us none ⟨rfl,rfl,rfl,rfl,rfl⟩,?_,?_⟩;rotate_left
  ·intro x rr τ ys Γ4⟨vs,ws,o0,Ea,eu,rfl,rfl,rfl⟩
   cases ws with
   |nil=>cases Ea
   |cons y ws=>
    cases Ea;show⟨BR Ti,?_⟩;unfold Ek;left;show Ψ3 (vs++[y]) ws _ ⟨rfl,by rw[eu];simp,rfl,by rw[Au,Au];rfl,rfl⟩
  intro τ ys Γ4⟨vs,ws,o0,er5,eu,rfl,rfl,rfl⟩;let SA:ws=[]:=by
   cases ws with
   |nil=>rfl
   |cons _ _=>cases er5
  subst SA;rw[Bg]at eu;subst eu;show⟨BR Ti,?_⟩;clear p5 Oz e5 Γ5 g5 l5
  let WI:=JZ.trans ((l3.trans l5).kq (l:=[pm]));let⟨r0,_,_,Eu⟩:=EV (ns:=ns) (j:=0) (by lia);let⟨r1,_,_,Vg⟩:=EV (ns:=ns) (j:=1) (by lia);left;show B6 (WI _ _ (by simpa using Sb) ga) Vg ?_;left;show Ψ5 p5 b r1 (us.map (·.1)) ss ⟨rfl,g5,WI _ _ (by simpa using UE) gb,by rw[Ag];lia,by lia,by lia,λfs Tu nd mem=>?_⟩;let lfs:fs.length=us.length:=by
   have:=EJ List.length Tu;rw[Ag,Ag]at this;show this
  left;clear p6 Oy e6 Γ6 g6 l6
  left;show B6 (l6 _ _ (WI _ _ (by simpa using Sb) ga)) Eu ?_;left;obtain⟨wz,WX,WW⟩:∃wz:Str,(wz = "rec" ∨ wz = "pick")∧C0 [T.str "rec",T.str "pick"] (r0/96%2)=some (.str wz):=by
   have:r0/96%2=0∨r0/96%2=1:=by lia
   rcases this with e|e<;>rw[e]
   ·show⟨_,.inl rfl,rfl⟩
   ·show⟨_,.inr rfl,rfl⟩
  show B6 g6 WW ?_;left;let⟨k,ek,NZ⟩:=Vp (D:=D) (d:=deep) WX nm nd mem (by lia) (by lia) (λk hk=>by
   rw[Tu]at hk;let⟨x,hx,rfl⟩:=aap.mp hk;let ox:=YM x hx;let dx:=dU x hx;show⟨ox.1,by have:=ox.2.1;lia⟩) (by lia) (by lia)
  rw[ek];show AD (Za.trans (l3.trans (l5.trans l6))) (q k NZ.1 (by have h1:=NZ.2.1;let h2:deep+1≤D:=NZ.2.2.2;let h1:(k.depth:Int)≤deep+1:=h1;lia))
 ·intro x rr τ Γ'⟨i,m,ms,o4,o5,o6,o7,o8,er,im,rfl,ok,ne,ml,Tc,kq⟩
  let⟨m',rfl,rfl,rfl⟩:=eZ er;let Te:=kq _ _ (by simpa using Sb) ga;let gb':=kq _ _ (by simpa using UE) gb;let⟨r,_,_,xr⟩:=EV (ns:=ns) (j:=2*i) (by lia);let⟨r1,_,_,Vg⟩:=EV (ns:=ns) (j:=2*i+1) (by lia);left;show B6 Te xr ?_;left;let bw:0≤r%16∧r%16<16:=⟨DN _ (by decide),Dj _ (by decide)⟩;generalize r%16=word at *
  show GK Tc ?_;rw[Ag];left;show B6 Te xr ?_;left;let b6:0≤r/16%6∧r/16%6<6:=⟨DN _ (by decide),Dj _ (by decide)⟩;show⟨λτ Γ2=>∃mn:Nat,τ=[some (.ref a),some (.ref b),some (.int D),some (.ref pm),some (.int ((2*i:Nat):Int)),some (.int word),some (.int mn),o7,o8,none]∧mn≤ms.length∧mn≤6∧(word<10→mn≤1)∧Γ2=Γ',?_,?_⟩
  ·left
   show AH (λc=>?_) (λc=>?_)
   ·let c:=Bd c
    left;show GK Tc ?_;rw[Ag];left;obtain⟨mn,SO⟩:∃mn:Nat,(if(1:Int)<(ms.length:Int)then(1:Int)else(ms.length:Int))=mn:=by
     split
     ·show⟨1,rfl⟩
     ·show⟨ms.length,rfl⟩
    rw[SO];have:mn≤ms.length∧mn≤1:=by
     split at SO<;>lia
    show⟨mn,rfl,this.1,by lia,λ_=>this.2,rfl⟩
   ·let c:=DC c
    left;obtain⟨mn,SO⟩:∃mn:Nat,(if 1+r/16%6<(ms.length:Int)then 1+r/16%6 else(ms.length:Int))=mn:=by
     split
     ·show⟨(1+r/16%6).toNat,by lia⟩
     ·show⟨ms.length,rfl⟩
    rw[SO];have:mn≤ms.length∧mn≤6:=by
     split at SO<;>lia
    show⟨mn,rfl,this.1,this.2,λh=>absurd h c,rfl⟩
  intro τ Γ2⟨mn,rfl,mn1,mn6,Wu,rfl⟩;left;clear p2 rB e2 Γ2 g2 l2
  let Tb:=l2 _ _ Tc;left;show GK Tb ?_;rw[Ag];left;show Ψ2 pm _ ⟨rfl,Tb,?_⟩;clear p3 AZ e3 Γ3 g3 l3
  rw[Gj,JV (by lia),show((ms.length:Int)-(mn:Int)).toNat=ms.length-mn by lia]at g3;left;let Xf:(ms.drop (ms.length-mn)).length=mn:=by rw[ET];lia
  obtain⟨us,Z5⟩:∃us,ms.drop (ms.length-mn)=us:=⟨_,rfl⟩;obtain⟨ps,eps⟩:∃ps,ms.take (ms.length-mn)=ps:=⟨_,rfl⟩;let Kj:ms=ps++us:=by rw[←eps,←Z5,List.take_append_drop]
  rw[Z5]at g3 Xf;let YL:∀x∈us,Mt ss D x:=λx hx=>ok x (by rw[Kj];show D2 _ hx);show Ψ2 p3 _ ⟨rfl,BR g3,Bu (BU (by rw[Ag];lia)),?_⟩;show⟨λv6 τ ys Γ4=>∃(vs ws:List (Kd×Int)) (o0:Option T),v6=ws.map Ek∧us=vs++ws∧τ=[o0]∧ys=(vs.map (·.2)).map T.int∧Γ4=Γ3,Ψ3 [] us none ⟨rfl,rfl,rfl,rfl,rfl⟩,?_,?_⟩;rotate_left
  ·intro x rr τ ys Γ4⟨vs,ws,o0,Ea,eu,rfl,rfl,rfl⟩
   cases ws with
   |nil=>cases Ea
   |cons y ws=>
    cases Ea;show⟨BR g3,?_⟩;unfold Ek;left;show Ψ3 (vs++[y]) ws _ ⟨rfl,by rw[eu];simp,rfl,by rw[Au,Au];rfl,rfl⟩
  intro τ ys Γ4⟨vs,ws,o0,Ea,eu,rfl,rfl,rfl⟩;let SA:ws=[]:=by
   cases ws with
   |nil=>rfl
   |cons _ _=>cases Ea
  subst SA;rw[Bg]at eu;subst eu;show⟨BR g3,?_⟩;clear p5 Oz e5 Γ5 g5 l5
  show Ψ4 p2 p5 [T.int 0] _ ⟨rfl,rfl,l5 _ _ (l3 _ _ g2),g5,Bu (BU (by rw[Ag,Ag];show 1+us.length≤1000;lia)),?_⟩;clear p6 Oy e6 Γ6 g6 l6
  left;show Ψ2 p6 (0::us.map λx:Kd×Int=>x.2) ⟨rfl,BR g6,by simp,?_⟩;let d0:0≤F7 (0::us.map λx:Kd×Int=>x.2):=M4 (by simp);let dU:∀x∈us,x.2≤F7 (0::us.map λx:Kd×Int=>x.2):=λx hx=>M4 (Dm _ (aap.mpr ⟨x,hx,rfl⟩));generalize F7 (0::us.map λx:Kd×Int=>x.2)=deep at *
  let Zd:Le Γ2 Γ6:=l3.trans (l5.trans l6);let Sk:Kq [pm] Γ Γ6:=kq.trans ((l2.trans Zd).kq);let PL:=Zd _ _ Tb;let ga6:=Sk _ _ (by simpa using Sb) ga;let gb6:=Sk _ _ (by simpa using UE) gb;clear e2 e3 e5 e6;left;show⟨λτ Γ7=>∃(Pw:List (Kd×Int)) (o8:Option T),τ=[some (.ref a),some (.ref b),some (.int D),some (.ref pm),some (.int ((2*i:Nat):Int)),some (.int word),some (.int mn),some (.int deep),o8,none]∧(∀x∈Pw,Mt ss D x)∧Pw≠[]∧Pw.length≤i+1∧Γ7 pm=some (.lst (Pw.map Ek))∧Kq [pm] Γ Γ7,?_,?_⟩;rotate_left
  ·intro τ Γ7⟨Pw,o82,rfl,NZ,ne2,ml2,gm7,kq7⟩
   left;show Ψ8 (i+1) m' Pw _ _ _ _ _ ⟨by rw[show((2*i:Nat):Int)+2=((2*(i+1):Nat):Int)by lia],by lia,rfl,NZ,.inr ne2,ml2,gm7,kq7⟩
  exists c1;rotate_left;exists c2;rotate_left;exists c3;rotate_left
  ·let c3:=DC c3
   let c2:mn≠0:=λe=>by rw[e]at c2;revert c2;decide
   let c1:=DC c1;left;show Oj ?_;exists c4
   ·let c4:=Bd c4
    let m1:=Wu c4;obtain⟨x,rfl⟩:∃x,us=[x]:=by
     match us,Xf with
     |[x],_=>show⟨x,rfl⟩
     |[],h=>show absurd h (by simp;lia)
     |_::_::_,h=>show absurd h (by simp;lia)
    let ox:=YL x (by simp);let dx:=dU x (by simp);left;show G9 PL ?_;left;show G9 PL ?_;show Ψ3 pm (ms.map Ek) (Ek x) ⟨rfl,rfl,PL,?_,?_⟩
    ·rw[Kj];simp
    unfold Ek;left;show Ψ3 pm _ _ ⟨rfl,rfl,BN,BU (by rw[List.length_dropLast,Ag];lia),?_⟩;left;show Ψ2 (ps++[(.row x.1,deep+1)]) _ ⟨rfl,λy hy=>?_,by simp,?_,?_,(Sk.trans (.set (by simp) _)).trans (.set (by simp) _)⟩
    ·rcases aaK.mp hy with hy|hy
     ·show ok y (by rw[Kj];show K6 _ hy)
     ·rw[aam.mp hy]
      show⟨⟨λnd=>?_,?_⟩,?_,?_,?_⟩
      ·show Kd.good (.row x.1)
       unfold Kd.good;show ox.1.1 nd
      ·show Kd.fit (.row x.1)
       unfold Kd.fit;show ox.1.2
      ·show((Kd.row x.1).depth:Int)≤deep+1
       rw[Kd.depth];have:=ox.2.1;lia
      ·show 1≤deep+1;lia
      ·show deep+1≤D;lia
    ·rw[Kj,B3]at ml
     rw[B3];simp only[L9]at ml ⊢;lia
    ·rw[BN,Kj,Au,Au]
     simp only[CT,GD,List.dropLast_concat];rw[Kd.tr]
   ·let c4:=DC c4
    left;show⟨mn,rfl,by lia,by lia,?_⟩;show⟨Bu (BU (by rw[Iw];lia)),λv6 τ ys Γ8=>∃(j m:Nat) (rem dn:List (Kd×Int)) (o0:Option T),v6=EU j m∧j+m=mn∧ms=rem++dn.reverse∧dn.length=j∧τ=[o0,some (.ref pm)]∧ys=(dn.map (·.1)).map Kd.tr∧Γ8 pm=some (.lst (rem.map Ek))∧Kq [pm] Γ Γ8,Ψ5 0 mn ms [] none ⟨rfl,by lia,by simp,rfl,rfl,rfl,PL,Sk⟩,?_,?_⟩;rotate_left
    ·intro x rr τ ys Γ8⟨j,m,rem,dn,o0,XJ,jm,U1,dj,rfl,rfl,Ta,WH⟩
     let⟨m2,rfl,rfl,rfl⟩:=Jb XJ;let Zq:rem.length+dn.length=ms.length:=by rw[U1,B3,Lx]
     rcases List.eq_nil_or_concat rem with e|⟨Rq,y,e⟩
     ·rw[e]at Zq;simp at Zq;lia
     subst e;left;show G9 Ta ?_;show Ψ3 pm ((Rq.concat y).map Ek) (Ek y) ⟨rfl,rfl,Ta,by simp,?_⟩;let ey:Ek y=.tup [y.1.tr,.int y.2]:=rfl;rw[ey];left;show Ψ5 (j+1) m2 Rq (dn++[y]) _ ⟨rfl,by lia,by rw[U1];simp,by rw[B3,dj];rfl,rfl,by rw[Au,Au];rfl,?_,WH.trans (.set (by simp) _)⟩;rw[BN];simp
    intro τ ys Γ8⟨j,m,rem,dn,o0,XJ,jm,U1,dj,rfl,rfl,Ta,WH⟩;let hm:=KR XJ;subst hm;let hdl:dn.reverse.length=us.length:=by rw[Lx,Xf];lia
    let⟨XI,edn⟩:=List.append_inj' (U1.symm.trans Kj) hdl;subst XI;show⟨trivial,?_⟩;clear p9 SH e9 Γ9 g9 l9
    let WG:=WH.trans (l9.kq (l:=[pm]));left;show B6 (i:=((2*i:Nat):Int)+1) (WG _ _ (by simpa using Sb) ga) (by rw[show((2*i:Nat):Int)+1=((2*i+1:Nat):Int)by lia];show Vg) ?_;left;show Ψ5 p9 b r1 (dn.map (·.1)) ss ⟨rfl,g9,WG _ _ (by simpa using UE) gb,by rw[Ag];lia,by lia,by lia,λfs Tu nd mem=>?_⟩;let lfs:fs.length=mn:=by
     have:=EJ List.length Tu;rw[Ag,Ag]at this;lia
    left;show G9 (l9 _ _ Ta) ?_;left;clear sR Dy TK Γ10 HV Oc
    left;show⟨_,rfl,?_⟩;obtain⟨wz,WX,WW⟩:∃wz:Str,(wz = "rec" ∨ wz = "pick")∧C0 [T.str "rec",T.str "pick"] (if decide (12<word)=true then 1 else 0)=some (.str wz):=by
     by_cases c:decide (12<word)=true
     ·rw[Aa c];show⟨_,.inr rfl,rfl⟩
     ·rw[AV c];show⟨_,.inl rfl,rfl⟩
    show B6 HV WW ?_;left;let⟨k,ek,NZ⟩:=Vp (D:=D) (d:=deep) WX nm nd mem (by lia) (by lia) (λk hk=>by
     rw[Tu]at hk;let⟨x,hx,rfl⟩:=aap.mp hk;let hx:x∈us:=by rw[←edn];simpa using hx
     let ox:=YL x hx;let dx:=dU x hx;show⟨ox.1,by have:=ox.2.1;lia⟩) d0 (by lia)
    rw[ek];show Ψ3 pm _ _ ⟨rfl,rfl,Oc _ _ (l9 _ _ Ta),BU (by rw[Ag];rw[Kj,B3]at ml;lia),?_⟩;left;show Ψ2 (rem++[(k,deep+1)]) _ ⟨rfl,λy hy=>?_,by simp,?_,?_,(WG.trans Oc.kq).trans (.set (by simp) _)⟩
    ·rcases aaK.mp hy with hy|hy
     ·show ok y (by rw[Kj];show K6 _ hy)
     ·rw[aam.mp hy];show NZ
    ·rw[Kj,B3]at ml
     rw[B3];simp only[L9]at ml ⊢;lia
    ·rw[BN,Au];rfl
  all_goals
   left;show G9 PL ?_;left;show B6 ga6 xr ?_;left;clear p7 SI e7 Γ7 g7 l7
   left;show⟨_,rfl,?_⟩;let b4:0≤r/16%4∧r/16%4<4:=⟨DN _ (by decide),Dj _ (by decide)⟩;obtain⟨k0,hk0,ZO,dk0⟩:∃k0:Kd,C0 [T.tup [.str "num",.int (1+r/16%4)],.tup [.str "text"]] (if decide (V.int (word%3)=V.int 1)=true then 1 else 0)=some k0.tr∧(k0.good∧k0.fit)∧k0.depth=1:=by
    by_cases c:decide (V.int (word%3)=V.int 1)=true
    ·rw[Aa c];show⟨.text,by rw[Kd.tr];rfl,⟨by unfold Kd.good;trivial,by unfold Kd.fit;trivial⟩,by rw[Kd.depth]⟩
    ·rw[AV c];show⟨.num (1+r/16%4),by rw[Kd.tr];rfl,⟨by unfold Kd.good;lia,by unfold Kd.fit;lia⟩,by rw[Kd.depth]⟩
   show B6 g7 hk0 ?_;left;show Ψ3 pm _ _ ⟨rfl,rfl,l7 _ _ PL,BU (by rw[Ag];lia),?_⟩;left;show Ψ2 (ms++[(k0,1)]) _ ⟨rfl,λy hy=>?_,by simp,by rw[B3];show ms.length+1≤i+1;lia,?_,(Sk.trans l7.kq).trans (.set (by simp) _)⟩
   ·rcases aaK.mp hy with hy|hy
    ·show ok y hy
    ·rw[aam.mp hy]
     show⟨⟨λ_=>ZO.1,ZO.2⟩,by show(k0.depth:Int)≤1;lia,Int.le_refl 1,D1⟩
   ·rw[BN,Au];rfl
end
inductive Pb(b:Nat)(Γ:AU):T→Prop
 |non:Pb b Γ .non
 |bl (k:Bool):Pb b Γ (.bl k)
 |int {i:Int} (h:i.natAbs<2^b):Pb b Γ (.int i)
 |str {z:Str} (l:z.length≤b):Pb b Γ (.str z)
 |tup {ts:List T} (l:ts.length≤b) (h:∀t∈ts,Pb b Γ t):Pb b Γ (.tup ts)
 |lst {a:Addr} {ts:List T} (g:Γ a=some (.lst ts)):Pb b Γ (.ref a)
 |dct {a:Addr} {aF:List (AI×T)} (g:Γ a=some (.dK aF)):Pb b Γ (.ref a)
def Pb.mono{b:Nat}(hb:b≤c)(l:Le Γ Γ')(h:Pb b Γ t):Pb c Γ' t:=by
 induction h with
 |non=>show .non
 |bl b=>show .bl b
 |int h=>show .int (EE h (R6 (by decide) hb))
 |str l=>show .str (Ci l hb)
 |tup l _ ih=>show .tup (Ci l hb) ih
 |lst g=>show .lst (l _ _ g)
 |dct g=>show .dct (l _ _ g)
def Pb.pt{b:Nat}(hb:b≤999)(h:Pb b Γ t):Pt Γ t:=by
 induction h with
 |non=>show .non
 |bl b=>show .bl b
 |int h=>show .int _
 |str l=>show .str (by lia)
 |tup l _ ih=>show .tup (by lia) ih
 |lst g=>show .lst g
 |dct g=>show .dct g
def Pb.items{b:Nat}(h:Pb b Γ (.tup ts)):ts.length≤b∧∀t∈ts,Pb b Γ t:=by
 cases h with
 |tup l h=>show⟨l,h⟩
mutual
def Jo:T→Bool
 |.non=>true
 |.bl _=>true
 |.int i=>decide (i.natAbs<1267650600228229401496703205376)
 |.str z=>decide (z.length≤100)
 |.tup ts=>decide (ts.length≤100)&&Pj ts
 |_=>false
def Pj:List T→Bool
 |[]=>true
 |t::r=>Jo t&&Pj r
end
mutual
theorem Jm:∀{t:T} {Γ:AU},Jo t=true→Pb 100 Γ t
 |.non,Γ,_=>.non
 |.bl b,Γ,_=>.bl b
 |.int i,Γ,h=>.int (by unfold Jo at h;show Bd h)
 |.str z,Γ,h=>.str (by unfold Jo at h;show Bd h)
 |.tup ts,Γ,h=>by
  unfold Jo at h;rw[Cq]at h;show .tup (Bd h.1) (KH h.2)
 |.ref a,Γ,h=>by unfold Jo at h;cases h
 |.ty n,Γ,h=>by unfold Jo at h;cases h
 |.scr K a ts,Γ,h=>by unfold Jo at h;cases h
theorem KH:∀{ts:List T} {Γ:AU},Pj ts=true→∀t∈ts,Pb 100 Γ t
 |[],Γ,_,t,h=>by cases h
 |x::r,Γ,h,t,ht=>by
  unfold Pj at h;rw[Cq]at h;rcases aaf.mp ht with e|ht
  ·rw[e];show Jm h.1
  ·show KH h.2 t ht
end
def ke{b:Nat}(hb:1≤b)(h:i.natAbs<2^b):(toString i:Str).length≤b+1:=by
 let hl:i.natAbs.log2<b:=by
  rcases QJ i.natAbs with e|e
  ·rw[e];show hb
  ·show(Nat.log2_lt (by lia)).mpr h
 have:=int_text_length_le (a:=i) (k:=b) hb hl;show(Str.ofString (toString i)).length≤_
 rw[ofString_length];show this
abbrev Pl:Str:=Str.ofString "\x20!\"#$&'()*+,-./0123456789:;<=>?@ABCDEFGHIJKLMNOPQRSTUVWXYZ[\\]^_`" ++ Str.ofString "abcdefghijklmnopqrstuvwxyz{|}~\n\t"
def fQ:Pl.cps.toList.length=96:=by done
abbrev Ij(n:Int):Nat:=Pl.cps.toList.getD (n%96).toNat 0
section
variable {K: W.Frag}
@[reducible]def TB:Stmt:=B8 80
def lU:B0 ["number","some"] ["number"] (An TB):=nofun
abbrev Ki:B4:=λts Γ Z _=>∃n:Int,ts=[.int n]∧Z (.str ⟨#[Ij n]⟩) Γ
def ux(F:cH K "_law_sign" "_law_sign" TB f fd):bq P w K mg am Ax 1 f fd ["number"] (Aw Ki):=by
 show B7 F lU (λts Γ Z Y h=>?_) (λcy A outer s H E ts Γ Z Y hr h=>?_)
 ·let⟨n,rfl,_⟩:=h
  rfl
 let⟨n,rfl,q⟩:=h;show⟨_,(A5 (Ar (i:=1) lU.nd AP)
  (A5 (Ar (i:=1) lU.nd (AG GN (A3 1) AP))
  (A5 (AJ (Xs (A3 1) (AG Bc (A3 0) A7)))
  AB))),?_⟩
 simp only[Az];left;show GH ?_ ?_
 ·decide
 left;let h0:=DN n (by decide:(96:Int)≠0);let h1:=Dj n (by decide:(0:Int)<96);let hl:(n%96).toNat<Pl.cps.toList.length:=by rw[fQ];lia
 let hc:C0 Pl.cps.toList (n%96)=some (Ij n):=by
  rw[show n%96=(((n%96).toNat:Nat):Int)by lia];show Fv ?_;unfold Ij;rw[HZ,D0 hl];rfl
 show Ψ3 Pl _ (Ij n) ⟨rfl,rfl,by show Pl.cps.size≤sizeLine;rw[←Ig,fQ];decide,hc,AD .refl q⟩
@[reducible]def Ud:Stmt:=B8 81
def dZ:B0 ["number","some"] ["number"] (An Ud):=nofun
abbrev So:B4:=λts Γ Z _=>∃n:Int,ts=[.int n]∧∀(t:T) (Γ':AU),Pb 100 Γ' t→Le Γ Γ'→Z t Γ'
def rNe(F:cH K "_law_plain" "_law_plain" Ud f fd)(aC:mg "len" = none):bq P w K mg am Ax 1 f fd ["number"] (Aw So):=by
 show B7 F dZ (λts Γ Z Y h=>?_) (λcy A outer s H E ts Γ Z Y hr h=>?_)
 ·let⟨n,rfl,_⟩:=h
  rfl
 let⟨n,rfl,q⟩:=h;show⟨_,(A5 (Ar (i:=1) dZ.nd (CG (A4 Hs (A4 BH (A4 BH (A4 A7 (A4 A7 (A4 A7 (A4 A7 (A4 A7 (A4 A7 (A4 A7 (A4 (EZ A7) (A4 A7 (A4 A7 (A4 A7 (A4 A7 (A4 A7 (A4 (AG JX A7 A7) A9)))))))))))))))))))
  (A5 (Ar (i:=1) dZ.nd (AG IB (A3 1) (CG (A4 AP (A4 AP (A4 AP (A4 AP (A4 AP A9))))))))
  (A5 (Ar (i:=1) dZ.nd (AG IB (A3 1) (CG (A4 AP (A4 AP (A4 AP (A4 AP (A4 AP (A4 AP (A4 AP (A4 AP (A4 AP (A4 AP (A4 AP A9))))))))))))))
  (A5 (Ar (i:=1) dZ.nd (AG IB (A3 1) (CG (A4 AP (A4 (Ay A9) (A4 (CG A9) (A4 aaa (A4 (Ay (A4 AP A9)) (A4 (Ay (A4 AP (A4 A7 A9))) (A4 (Ay (A4 AP (A4 A7 A9))) (A4 (Ay (A4 AP (A4 BH A9))) (A4 (CG (A4 AP A9)) (A4 (Ay (A4 AP A9)) A9)))))))))))))
  (A5 (Ar (i:=1) dZ.nd (AG IB (A3 1) (CG (A4 (Ay (A4 AP (A4 (Ay (A4 AP A9)) A9))) (A4 (Ay (A4 AP (A4 AP (A4 (Ay (A4 AP A9)) (A4 AP A9))))) A9)))))
  (A5 (Ar (i:=1) dZ.nd (AG IB (A3 1) (CG (A4 (Ay (A4 AP (A4 (Ay A9) A9))) (A4 (Ay (A4 AP (A4 (Ay (A4 (Ay (A4 AP (A4 (Ay (A4 AP A9)) A9))) A9)) A9))) (A4 (Ay (A4 AP (A4 (Ay (A4 (Ay (A4 AP (A4 (Ay (A4 AP (A4 A7 A9))) A9))) (A4 (Ay (A4 AP (A4 (Ay (A4 AP (A4 A7 A9))) A9))) A9))) A9))) A9))))))
  (A5 (AJ (AK (A3 1) (AG Bc (A3 0) (Ap BY rfl aC BD (A4 (A3 1) A9)))))
  AB))))))),?_⟩
 simp only[Az];left;clear p1 fO e1 Γ1 g1 l1
 obtain⟨A,hA,gA,nA⟩:∃A:List T,(∀Γ',∀x∈A,Pb 100 Γ' x)∧Γ1 p1=some (.lst A)∧A.length=17:=⟨_,λΓ'=>KH (by done),g1,rfl⟩;left;clear p2 rB e2 Γ2 g2 l2
 obtain⟨B,hB,gB,nB⟩:∃A:List T,(∀Γ',∀x∈A,Pb 100 Γ' x)∧Γ2 p2=some (.lst A)∧A.length=5:=⟨_,λΓ'=>KH (by done),g2,rfl⟩;show Ψ4 p1 p2 _ _ ⟨rfl,rfl,l2 _ _ gA,gB,Bu (BU (by lia)),?_⟩;clear p3 AZ e3 Γ3 g3 l3
 left;clear p4 SJ e4 Γ4 g4 l4
 obtain⟨C,hC,gC,nC⟩:∃A:List T,(∀Γ',∀x∈A,Pb 100 Γ' x)∧Γ4 p4=some (.lst A)∧A.length=11:=⟨_,λΓ'=>KH (by done),g4,rfl⟩;show Ψ4 p3 p4 _ _ ⟨rfl,rfl,l4 _ _ g3,gC,Bu (BU (by rw[B3];lia)),?_⟩;clear p5 Oz e5 Γ5 g5 l5
 left;clear p6 Oy e6 Γ6 g6 l6
 left;unfold iK;intro p7 SI;generalize e7:AF _ p7 (O.dK _)=Γ7;let g7:=Am e7;let l7:=Ao e7 SI
 left;clear p8 W6 e8 Γ8 g8 l8
 left;clear p9 SH e9 Γ9 g9 l9
 obtain⟨D,hD,gD,nD⟩:∃A:List T,(∀x∈A,Pb 100 Γ9 x)∧Γ9 p9=some (.lst A)∧A.length=10:=by
  show⟨_,λx hx=>?_,g9,rfl⟩;simp only[aaf,CD,DH]at hx;rcases hx with rfl|rfl|rfl|rfl|rfl|rfl|rfl|rfl|rfl|rfl
  ·show Jm (by done)
  ·show Jm (by done)
  ·show .lst (l9 _ _ (l8 _ _ (l7 _ _ g6)))
  ·show .dct (l9 _ _ (l8 _ _ g7))
  ·show Jm (by done)
  ·show Jm (by done)
  ·show Jm (by done)
  ·show Jm (by done)
  ·show .lst (l9 _ _ g8)
  ·show Jm (by done)
 let Zb:Le Γ5 Γ9:=l6.trans (l7.trans (l8.trans l9));show Ψ4 p5 p9 _ _ ⟨rfl,rfl,Zb _ _ g5,gD,Bu (BU (by rw[B3,B3];lia)),?_⟩;clear sR Dy TK Γ10 HV Oc
 left;clear Pq OA TJ Γ11 Tj Si
 obtain⟨G,hG,gG,nG⟩:∃A:List T,(∀Γ',∀x∈A,Pb 100 Γ' x)∧Γ11 Pq=some (.lst A)∧A.length=2:=⟨_,λΓ'=>KH (by done),Tj,rfl⟩;show Ψ4 sR Pq _ _ ⟨rfl,rfl,Si _ _ HV,gG,Bu (BU (by rw[B3,B3,B3];lia)),?_⟩;clear YJ W9 e12 Γ12 Xx l12
 left;clear Wh W8 e13 Γ13 Xw Ze
 obtain⟨I,hI,gI,nI⟩:∃A:List T,(∀Γ',∀x∈A,Pb 100 Γ' x)∧Γ13 Wh=some (.lst A)∧A.length=3:=⟨_,λΓ'=>KH (by done),Xw,rfl⟩;show Ψ4 YJ Wh _ _ ⟨rfl,rfl,Ze _ _ Xx,gI,Bu (BU (by rw[B3,B3,B3,B3];lia)),?_⟩;clear YI W7 e14 Γ14 Xv UH
 let Sg:Le Γ9 Γ14:=Oc.trans (Si.trans (l12.trans (Ze.trans UH)));let WC:Le Γ Γ14:=l1.trans (l2.trans (l3.trans (l4.trans (l5.trans (Zb.trans Sg)))));obtain⟨J,hJ,gJ,nJ⟩:∃A:List T,(∀x∈A,Pb 100 Γ14 x)∧Γ14 YI=some (.lst A)∧A.length=48:=by
  show⟨_,λx hx=>?_,Xv,by simp only[B3];lia⟩;simp only[aaK]at hx;rcases hx with((((hx|hx)|hx)|hx)|hx)|hx
  ·show hA _ x hx
  ·show hB _ x hx
  ·show hC _ x hx
  ·show(hD x hx).mono (Av _) Sg
  ·show hG _ x hx
  ·show hI _ x hx
 left;show GK gJ ?_;rw[nJ];show Es (by show(0:Int)<_;decide) ?_;let⟨t,ht,mt⟩:=Lj (xs:=J) (r:=n%((48:Nat):Int)) (DN _ (by decide)) (by rw[nJ];show Dj _ (by decide));show B6 gJ ht ?_;show AD .refl (q t Γ14 (hJ t mt) WC)
end
section
variable {b: Nat}{Γ: AU}{us: List T}
def M5(h:Pb b Γ (.tup us))(lo hi:Option Int):∀t∈Bb us lo hi,Pb b Γ t:=λt ht=>h.items.2 t (Lu ht)
def Kg{vs:List T}(hb:100≤b)(l:vs.length≤2*b)(h:∀t∈vs,Pb b Γ t):Pb (3*b+2) Γ (.tup vs):=.tup (by lia) λt ht=>(h t ht).mono (by lia) .refl
end
section
variable {K: W.Frag}
def gq(r:Int)(n:Nat):0≤r%(if((n:Nat):Int)>1 then((n:Nat):Int)else 1)∧(r%(if((n:Nat):Int)>1 then((n:Nat):Int)else 1)<n∨n=0):=by
 split
 ·show⟨DN _ (by lia),.inl (Dj _ (by lia))⟩
 ·show⟨DN _ (by decide),?_⟩
  have:=Dj r (by decide:(0:Int)<1);lia
@[reducible]def Qo:Stmt:=B8 82
def ie:B0 ["node","way","s","at","second"] ["node","way","s"] (An Qo):=nofun
abbrev jE:B4:=λts Γ Z _=>∃(b:Nat) (us:List T) (wy:Int) (s:Addr) (ns:List Int),ts=[.tup us,.int wy,.ref s]∧100≤b∧b≤400∧Pb b Γ (.tup us)∧Γ s=some (.lst (ns.map T.int))∧ns.length=7∧∀(t:T) (Γ':AU),Pb (3*b+2) Γ' t→Le Γ Γ'→Z t Γ'
def vS(F:cH K "_law_other_row" "_law_other_row" Qo f fd)(jO:Ab P w K mg am "_law_plain" 1 ["number"] So)(j3:mg "max" = none)(aC:mg "len" = none)(qp:mg "list" = none):bq P w K mg am Ax 2 f fd ["node","way","s"] (Aw jE):=by
 show B7 F ie (λts Γ Z Y h=>?_) (λcy A outer s H E ts Γ Z Y hr h=>?_)
 ·let⟨b,us,wy,sa,ns,rfl,_⟩:=h
  rfl
 let⟨b,us,wy,sa,ns,rfl,b1,b2,pu,gs,n7,q⟩:=h;show⟨_,(A5 (Ar (i:=3) ie.nd (AG Bc (AK (A3 2) A7) (Ap (V3 rfl) rfl j3 Lo (A4 A7 (A4 (Ap BY rfl aC BD (A4 (A3 0) A9)) A9)))))
  (A5 (Ah (Aq BI (A3 1) A7) (A5 (AJ (IL jY rfl qp Zh (A4 (A3 0) A9)))
  AB) AB)
  (A5 (Ah (Aq BI (A3 1) A7) (A5 (AJ (AG Hb (CN Ff (A3 0) DE (Be (A3 3))) (CN Ff (A3 0) (Be (AG C3 (A3 3) A7)) DE)))
  AB) AB)
  (A5 (Ah (Aq BI (A3 1) A7) (A5 (AJ (AG Hb (AG Hb (CN Ff (A3 0) DE (Be (A3 3))) (CN Ff (A3 0) (Be (A3 3)) (Be (AG C3 (A3 3) A7)))) (CN Ff (A3 0) (Be (A3 3)) DE)))
  AB) AB)
  (A5 (Ah (Aq BI (A3 1) A7) (A5 (Ar (i:=4) ie.nd (CN Ff (A3 0) (Be (AG C3 (A3 3) A7)) (Be (AG C3 (A3 3) A7))))
  (A5 (AJ (AG Hb (AG Hb (AG Hb (CN Ff (A3 0) DE (Be (A3 3))) (A3 4)) (CN Ff (A3 0) (Be (A3 3)) (Be (AG C3 (A3 3) A7)))) (CN Ff (A3 0) (Be (AG C3 (A3 3) A7)) DE)))
  AB)) AB)
  (A5 (Ah (Aq BI (A3 1) A7) (A5 (AJ (AG Hb (AG Hb (CN Ff (A3 0) DE (Be (A3 3))) (Ay (A4 (Aj jO hr (A4 (AK (A3 2) A7) A9)) A9))) (CN Ff (A3 0) (Be (A3 3)) DE)))
  AB) AB)
  (A5 (Ah (Aq BI (A3 1) A7) (A5 (AJ (AG Hb (A3 0) (Ay (A4 (Aj jO hr (A4 (AK (A3 2) A7) A9)) A9))))
  AB) AB)
  (A5 (AJ (abi (A3 0) (EZ A7)))
  AB)))))))),?_⟩
 simp only[Az];let⟨r5,_,_,x5⟩:=EV (ns:=ns) (j:=5) (by lia);let⟨r4,_,_,x4⟩:=EV (ns:=ns) (j:=4) (by lia);let⟨ul,um⟩:=pu.items;let sl:=Dd;left;show B6 gs x5 ?_;left;show Es (by show(0:Int)<_;split<;>lia) ?_
 let⟨a0,_⟩:=gq r5 us.length;generalize r5%(if((us.length:Nat):Int)>1 then((us.length:Nat):Int)else 1)=at_ at *
 let cl:∀lo hi,(Bb us lo hi).length≤us.length:=λlo hi=>LJ us lo hi;let c1:=cl none (some at_);let c2:=cl (some (at_+1)) none;let c3:=cl (some at_) (some (at_+1));let c4:=cl (some at_) none;let c5:=cl (some (at_+1)) (some (at_+2));let c6:=cl (some (at_+2)) none;let d1:(Bb us none (some at_)).length=min at_.toNat us.length:=by rw[VS a0,EH]
 let d2:(Bb us (some (at_+1)) none).length=us.length-(at_+1).toNat:=by rw[JV (by lia),ET]
 let d3:(Bb us (some at_) (some (at_+1))).length≤1:=by rw[K9 a0 (by lia),EH];lia
 let d4:(Bb us (some at_) none).length=us.length-at_.toNat:=by rw[JV a0,ET]
 let d5:(Bb us (some (at_+1)) (some (at_+2))).length≤1:=by rw[K9 (by lia) (by lia),EH];lia
 let d6:(Bb us (some (at_+2)) none).length=us.length-(at_+2).toNat:=by rw[JV (by lia),ET]
 exists w0
 ·left
  clear p1 fO e1 Γ1 g1 l1
  show AD .refl (q _ Γ1 (.lst g1) l1)
 exists w1
 ·left
  show Hg (by lia) ?_;show AD .refl (q _ Γ (Kg b1 (by rw[B3];lia) λt ht=>?_) .refl);rcases aaK.mp ht with ht|ht<;>show M5 pu _ _ t ht
 exists w2
 ·left
  show Hg (by lia) ?_;left;show Hg (by rw[B3];lia) ?_;show AD .refl (q _ Γ (Kg b1 (by rw[B3,B3];lia) λt ht=>?_) .refl);simp only[aaK]at ht;rcases ht with(ht|ht)|ht<;>show M5 pu _ _ t ht
 exists w3
 ·left
  show Hg (by lia) ?_;left;show Hg (by rw[B3];lia) ?_;left;show Hg (by rw[B3,B3];lia) ?_;show AD .refl (q _ Γ (Kg b1 (by rw[B3,B3,B3];lia) λt ht=>?_) .refl);simp only[aaK]at ht;rcases ht with((ht|ht)|ht)|ht<;>show M5 pu _ _ t ht
 exists w4
 ·left
  show B6 gs x4 ?_;left;show⟨r4,rfl,λt Γ1 pt l1=>?_⟩;left;show Hg (by show _+1≤_;lia) ?_;left;show Hg (by rw[B3];show _+1+_≤_;lia) ?_;show AD .refl (q _ Γ1 (Kg b1 (by rw[B3,B3];show _+1+_≤_;lia) λt2 ht=>?_) l1);simp only[aaK,aam]at ht;rcases ht with(ht|ht)|ht
  ·show(M5 pu _ _ t2 ht).mono (Av _) l1
  ·rw[ht];show pt.mono b1 .refl
  ·show(M5 pu _ _ t2 ht).mono (Av _) l1
 exists w5
 ·left
  show B6 gs x4 ?_;left;show⟨r4,rfl,λt Γ1 pt l1=>?_⟩;left;show Hg (by show _+1≤_;lia) ?_;show AD .refl (q _ Γ1 (Kg b1 (by rw[B3];show _+1≤_;lia) λt2 ht=>?_) l1);simp only[aaK,aam]at ht;rcases ht with ht|ht
  ·show(um t2 ht).mono (Av _) l1
  ·rw[ht];show pt.mono b1 .refl
 left;show⟨rfl,us,rfl,?_⟩;show AD .refl (q _ Γ (Kg b1 (by rw[Lx];lia) λt ht=>um t (List.mem_reverse.mp ht)) .refl)
@[reducible]def Ri:Stmt:=B8 83
def eL:B0 ["node","way","s","at","sign","some"] ["node","way","s"] (An Ri):=nofun
abbrev gM:B4:=λts Γ Z _=>∃(b:Nat) (z:Str) (wy:Int) (s:Addr) (ns:List Int),ts=[.str z,.int wy,.ref s]∧100≤b∧b≤400∧z.length≤b∧0≤wy∧wy<7∧Γ s=some (.lst (ns.map T.int))∧ns.length=7∧∀(y:Str),y.length≤3*b+2→Z (.str y) Γ
def oE(F:cH K "_law_other_word" "_law_other_word" Ri f fd)(jA:Ab P w K mg am "_law_sign" 1 ["number"] Ki)(j3:mg "max" = none)(aC:mg "len" = none):bq P w K mg am Ax 2 f fd ["node","way","s"] (Aw gM):=by
 show B7 F eL (λts Γ Z Y h=>?_) (λcy A outer s H E ts Γ Z Y hr h=>?_)
 ·let⟨b,z,wy,sa,ns,rfl,_⟩:=h
  rfl
 let⟨b,z,wy,sa,ns,rfl,b1,b2,zl,w0,w7,gs,n7,q⟩:=h;show⟨_,(A5 (Ar (i:=3) eL.nd (AG Bc (AK (A3 2) A7) (Ap (V3 rfl) rfl j3 Lo (A4 A7 (A4 (Ap KS rfl aC BD (A4 (A3 0) A9)) A9)))))
  (A5 (Ar (i:=4) eL.nd (Aj jA hr (A4 (AK (A3 2) A7) A9)))
  (A5 (Ar (i:=5) eL.nd (CG (A4 (AG GN (AG GN (CN JG (A3 0) DE (Be (A3 3))) (A3 4)) (CN JG (A3 0) (Be (AG C3 (A3 3) A7)) DE)) (A4 (AG GN (AG GN (CN JG (A3 0) DE (Be (A3 3))) (A3 4)) (CN JG (A3 0) (Be (A3 3)) DE)) (A4 (AG GN (CN JG (A3 0) DE (Be (A3 3))) (CN JG (A3 0) (Be (AG C3 (A3 3) A7)) DE)) A9)))))
  (A5 (AJ (AK (AG IB (A3 5) (CG (A4 (R2 Np PySem.F.slot_str_upper PySem.F.type_str_upper abW (A3 0)) (A4 (AG GN (A3 0) (A3 4)) (A4 (AG GN (A3 0) (A3 0)) (A4 (cE (A3 0) (EZ A7)) A9)))))) (A3 1)))
  AB)))),?_⟩
 simp only[Az];let⟨r5,_,_,x5⟩:=EV (ns:=ns) (j:=5) (by lia);let⟨r6,_,_,x6⟩:=EV (ns:=ns) (j:=6) (by lia);let sl:=Dd;left;show B6 gs x5 ?_;left;show⟨z,rfl,by lia,?_⟩;left;show Es (by show(0:Int)<_;split<;>lia) ?_
 let⟨a0,_⟩:=gq r5 z.length;generalize r5%(if((z.length:Nat):Int)>1 then((z.length:Nat):Int)else 1)=at_ at *
 left;show B6 gs x6 ?_;left;show⟨r6,rfl,?_⟩;let sg1:(⟨#[Ij r6]⟩:Str).length=1:=rfl;generalize (⟨#[Ij r6]⟩:Str)=xE at sg1 ⊢;left;show⟨by lia,λy1 Sz=>?_⟩;let c1:=Ic Sz;left;show GH ?_ ?_
 ·lia
 left;show⟨by lia,λy2 LH=>?_⟩;let c2:=Ic LH;show GH ?_ ?_
 ·rw[Fi];lia
 left;show⟨by lia,λy3 UL=>?_⟩;let c3:=Ic UL;left;show GH ?_ ?_
 ·lia
 left;show⟨by lia,λy4 WV=>?_⟩;let c4:=Ic WV;show GH ?_ ?_
 ·rw[Fi];lia
 left;show⟨by lia,λy5 hy5=>?_⟩;let c5:=Ic hy5;left;show⟨by lia,λy6 hy6=>?_⟩;let c6:=Ic hy6;show GH ?_ ?_
 ·lia
 left;clear p1 fO e1 Γ1 g1 l1
 left;show⟨rfl,by lia,λy7 c7=>?_⟩;left;show GH ?_ ?_
 ·lia
 left;show GH ?_ ?_
 ·lia
 left;show⟨rfl,z,rfl,by lia,λy8 c8 _=>?_⟩;left;clear p2 rB e2 Γ2 g2 l2
 show Ψ4 p1 p2 _ _ ⟨rfl,rfl,l2 _ _ g1,g2,Bu (BU (by show 3+4≤1000;decide)),?_⟩;clear p3 AZ e3 Γ3 g3 l3
 obtain⟨zs,g3,hz,nz⟩:∃zs:List Str,Γ3 p3=some (.lst (zs.map T.str))∧(∀y∈zs,y.length≤3*b+2)∧zs.length=7:=by
  show⟨[_,_,_,_,_,_,_],g3,λy hy=>?_,rfl⟩;simp only[aaf,CD,DH]at hy;rcases hy with rfl|rfl|rfl|rfl|rfl|rfl|rfl
  ·rw[Fi,Fi];lia
  ·rw[Fi,Fi];lia
  ·rw[Fi];lia
  ·lia
  ·rw[Fi];lia
  ·rw[Fi];lia
  ·lia
 left;let⟨t,ht,mt⟩:=Lj (xs:=zs.map T.str) (r:=wy) w0 (by rw[Ag,nz];show w7);let⟨y,my,rfl⟩:=aap.mp mt;show B6 g3 ht ?_;show AD (l1.trans (l2.trans l3)) (q y (hz y my))
@[reducible]def VK:Stmt:=B8 76
def nO:B0 ["thing"] ["thing"] (An VK):=nofun
def ub(F:cH K "_law_whole" "_law_whole" VK f fd)(ai:mg "isinstance" = none)(j4:mg "int" = none)(kc:mg "bool" = none):bq P w K mg am Ax 1 f fd ["thing"] (Aw Fm):=by
 show B7 F nO (λts Γ Z Y h=>?_) (λcy A outer s H E ts Γ Z Y hr h=>?_)
 ·let⟨t,rfl,_⟩:=h
  rfl
 let⟨t,rfl,pt,q⟩:=h;show⟨_,(A5 (AJ (CC (C5 rfl ai rfl j4 Mi (A3 0)) (CM (gj (C5 rfl ai rfl kc RZ (A3 0))))))
  AB),?_⟩
 simp only[Az];left;show BP (jM pt) ?_;exists c
 ·left
  show BP (Ng pt) ?_;left;show AD .refl ?_;cases t with
  |int i=>show q
  |bl b=>show q
  |_=>cases c
 ·show AD .refl ?_
  cases t with
  |int i=>cases c
  |bl b=>cases c
  |_=>show q
@[reducible]def Rx:Stmt:=B8 84
def oV:B0 ["node","s","way"] ["node","s"] (An Rx):=nofun
abbrev iF:B4:=λts Γ Z _=>∃(b:Nat) (t:T) (s:Addr) (ns:List Int),ts=[t,.ref s]∧100≤b∧b≤400∧Pb b Γ t∧Γ s=some (.lst (ns.map T.int))∧ns.length=7∧∀(t':T) (Γ':AU),Pb (3*b+2) Γ' t'→Le Γ Γ'→Z t' Γ'
def acr(F:cH K "_law_other" "_law_other" Rx f fd)(jO:Ab P w K mg am "_law_plain" 1 ["number"] So)(sG:Ab P w K mg am "_law_other_row" 2 ["node","way","s"] jE)(qS:Ab P w K mg am "_law_other_word" 2 ["node","way","s"] gM)(iT:Ab P w K mg am "_law_whole" 1 ["thing"] Fm)(ai:mg "isinstance" = none)(aB:mg "tuple" = none)(bK:mg "str" = none):bq P w K mg am Ax 3 f fd ["node","s"] (Aw iF):=by
 show B7 F oV (λts Γ Z Y h=>?_) (λcy A outer s H E ts Γ Z Y hr h=>?_)
 ·let⟨b,t,sa,ns,rfl,_⟩:=h
  rfl
 let⟨b,t,sa,ns,rfl,b1,b2,pb,gs,n7,q⟩:=h;show⟨_,(A5 (Ar (i:=2) oV.nd (AG Bc (AK (A3 1) A7) A7))
  (A5 (Ah (PW.pt (J3 (BG (C5 rfl ai rfl aB DS (A3 0))) (Jt (Aq Fy (A3 2) A7)))) (A5 (AJ (Aj sG hr (A4 (A3 0) (A4 (A3 2) (A4 (A3 1) A9)))))
  AB) AB)
  (A5 (Ah (PW.pt (J3 (BG (C5 rfl ai rfl bK G7 (A3 0))) (Jt (Aq Fy (A3 2) A7)))) (A5 (AJ (Aj qS hr (A4 (A3 0) (A4 (A3 2) (A4 (A3 1) A9)))))
  AB) AB)
  (A5 (Ah (PW.pt (J3 (BG (Aj iT hr (A4 (A3 0) A9))) (Jt (Aq Fy (A3 2) A7)))) (A5 (AJ (AK (CG (A4 (AG C3 (A3 0) A7) (A4 (AG GI (A3 0) A7) (A4 (AG GI (EZ (A3 0)) A7) (A4 (AG C3 (A3 0) A7) (A4 (AG HF (A3 0) A7) (A4 (CR BI (A3 0) A7) (A4 (IL acd rfl bK G7 (A4 (A3 0) A9)) A9)))))))) (A3 2)))
  AB) AB)
  (A5 (Ah (Aq BI (A3 2) A7) (A5 (AJ (Ay (A4 (A3 0) A9)))
  AB) AB)
  (A5 (Ah (Aq BI (A3 2) A7) (A5 (AJ (Ay (A4 AP (A4 (A3 0) A9))))
  AB) AB)
  (A5 (AJ (Aj jO hr (A4 (AK (A3 1) A7) A9)))
  AB))))))),?_⟩
 simp only[Az];let⟨r3,_,_,x3⟩:=EV (ns:=ns) (j:=3) (by lia);let⟨r4,_,_,x4⟩:=EV (ns:=ns) (j:=4) (by lia);let pt:Pt Γ t:=pb.pt (by lia);left;show B6 gs x3 ?_;left;let w0:0≤r3%11∧r3%11<11:=⟨DN _ (by decide),Dj _ (by decide)⟩;generalize r3%11=wy at *
 let HN:=pb;show BP (DM pt) ?_;left;by_cases hw:wy<7
 ·cases pb with
  |@tup us l h=>
   left;show Jr (BE hw) ?_;left;show Ψ5 b us wy sa ns ⟨rfl,b1,b2,.tup l h,gs,n7,λt' Γ' p' l'=>AD .refl (q t' Γ' p' l')⟩
  |@str z l=>
   left;show BP (in_str pt) ?_;left;show Jr (BE hw) ?_;left;show Ψ5 b z wy sa ns ⟨rfl,b1,b2,l,w0.1,hw,gs,n7,λy ly=>AD .refl (q _ Γ (.str ly) .refl)⟩
  |@int i hi=>
   left;show BP (in_str pt) ?_;left;show⟨.int i,rfl,pt,?_⟩;show ∃k,T.bl true=.bl k∧_
   left;show Jr (BE hw) ?_;left;show⟨i,rfl,?_,?_⟩
   ·rcases QJ i.natAbs with e|e
    ·rw[e];decide
    ·show EE ((Nat.log2_lt (by lia)).mpr hi) (by lia)
   left;clear p1 fO e1 Γ1 g1 l1
   left;let tl:=ke (by lia) hi;let p2:(2:Nat)^b*4≤2^(3*b+2):=by
    rw[show(2:Nat)^b*4=2^(b+2)by rw[Nat.pow_add]];show R6 (by decide) (by lia)
   let p3:(65536:Nat)≤2^b:=Ci (by decide:(65536:Nat)≤2^100) (R6 (by decide) b1);generalize (2:Nat)^b=B at *
   obtain⟨L,g1,hL,nL⟩:∃L:List T,Γ1 p1=some (.lst L)∧(∀x∈L,Pb (3*b+2) Γ1 x)∧L.length=7:=by
    show⟨_,g1,λx hx=>?_,rfl⟩;simp only[aaf,CD,DH]at hx;rcases hx with rfl|rfl|rfl|rfl|rfl|rfl|rfl
    ·show .int (by lia)
    ·show .int (by lia)
    ·show .int (by lia)
    ·show .int (by lia)
    ·show .int (by lia)
    ·show .bl _
    ·show .str (by lia)
   let⟨x,hx,mx⟩:=Lj (xs:=L) (r:=wy) w0.1 (by rw[nL];show hw);show B6 g1 hx ?_;show AD .refl (q x Γ1 (hL x mx) l1)
  |non=>
   let vk:decide (wy<7)=true:=BE hw;left
   try (rw[vk];left)
   show BP (in_str pt) ?_;left
   try (rw[vk];left)
   show⟨_,rfl,pt,?_⟩;left
   try (rw[vk];left)
   show AH (λc7=>?_) (λc7=>?_)
   ·left
    show AD .refl (q _ Γ (.tup (by show 1≤_;lia) (λx hx=>by rw[aam.mp hx];show HN.mono (by lia) .refl)) .refl)
   exists c8
   ·left
    show AD .refl (q _ Γ (.tup (by show 2≤_;lia) (λx hx=>?_)) .refl);simp only[aaf,CD,DH]at hx;rcases hx with rfl|rfl
    ·show .str (by show 3≤_;lia)
    ·show HN.mono (by lia) .refl
   left;show B6 gs x4 ?_;left;show⟨r4,rfl,λt' Γ' p' l'=>AD .refl (q t' Γ' (p'.mono (by lia) .refl) l')⟩
  |bl k=>
   let vk:decide (wy<7)=true:=BE hw;left
   try (rw[vk];left)
   show BP (in_str pt) ?_;left
   try (rw[vk];left)
   show⟨_,rfl,pt,?_⟩;left
   try (rw[vk];left)
   show AH (λc7=>?_) (λc7=>?_)
   ·left
    show AD .refl (q _ Γ (.tup (by show 1≤_;lia) (λx hx=>by rw[aam.mp hx];show HN.mono (by lia) .refl)) .refl)
   exists c8
   ·left
    show AD .refl (q _ Γ (.tup (by show 2≤_;lia) (λx hx=>?_)) .refl);simp only[aaf,CD,DH]at hx;rcases hx with rfl|rfl
    ·show .str (by show 3≤_;lia)
    ·show HN.mono (by lia) .refl
   left;show B6 gs x4 ?_;left;show⟨r4,rfl,λt' Γ' p' l'=>AD .refl (q t' Γ' (p'.mono (by lia) .refl) l')⟩
  |lst g=>
   let vk:decide (wy<7)=true:=BE hw;left
   try (rw[vk];left)
   show BP (in_str pt) ?_;left
   try (rw[vk];left)
   show⟨_,rfl,pt,?_⟩;left
   try (rw[vk];left)
   show AH (λc7=>?_) (λc7=>?_)
   ·left
    show AD .refl (q _ Γ (.tup (by show 1≤_;lia) (λx hx=>by rw[aam.mp hx];show HN.mono (by lia) .refl)) .refl)
   exists c8
   ·left
    show AD .refl (q _ Γ (.tup (by show 2≤_;lia) (λx hx=>?_)) .refl);simp only[aaf,CD,DH]at hx;rcases hx with rfl|rfl
    ·show .str (by show 3≤_;lia)
    ·show HN.mono (by lia) .refl
   left;show B6 gs x4 ?_;left;show⟨r4,rfl,λt' Γ' p' l'=>AD .refl (q t' Γ' (p'.mono (by lia) .refl) l')⟩
  |dct g=>
   let vk:decide (wy<7)=true:=BE hw;left
   try (rw[vk];left)
   show BP (in_str pt) ?_;left
   try (rw[vk];left)
   show⟨_,rfl,pt,?_⟩;left
   try (rw[vk];left)
   show AH (λc7=>?_) (λc7=>?_)
   ·left
    show AD .refl (q _ Γ (.tup (by show 1≤_;lia) (λx hx=>by rw[aam.mp hx];show HN.mono (by lia) .refl)) .refl)
   exists c8
   ·left
    show AD .refl (q _ Γ (.tup (by show 2≤_;lia) (λx hx=>?_)) .refl);simp only[aaf,CD,DH]at hx;rcases hx with rfl|rfl
    ·show .str (by show 3≤_;lia)
    ·show HN.mono (by lia) .refl
   left;show B6 gs x4 ?_;left;show⟨r4,rfl,λt' Γ' p' l'=>AD .refl (q t' Γ' (p'.mono (by lia) .refl) l')⟩
 ·let vk:decide (wy<7)=false:=CA hw
  cases pb
  all_goals
   left
   try (rw[vk];left)
   show BP (in_str pt) ?_;left
   try (rw[vk];left)
   show⟨_,rfl,pt,?_⟩;left
   try (rw[vk];left)
   show AH (λc7=>?_) (λc7=>?_)
   ·left
    show AD .refl (q _ Γ (.tup (by show 1≤_;lia) (λx hx=>by rw[aam.mp hx];show HN.mono (by lia) .refl)) .refl)
   exists c8
   ·left
    show AD .refl (q _ Γ (.tup (by show 2≤_;lia) (λx hx=>?_)) .refl);simp only[aaf,CD,DH]at hx;rcases hx with rfl|rfl
    ·show .str (by show 3≤_;lia)
    ·show HN.mono (by lia) .refl
   left;show B6 gs x4 ?_;left;show⟨r4,rfl,λt' Γ' p' l'=>AD .refl (q t' Γ' (p'.mono (by lia) .refl) l')⟩
end
def tg4(l:Nat):Builtin.Range.rangeSize ((l:Int)-1) (-1) (-1)=(l:Int):=by
 unfold Builtin.Range.rangeSize;rw[AV (by decide)];by_cases h:l=0
 ·subst h;rfl
 ·rw[Aa (by lia),show -(-1:Int)=1 by decide,QI]
  lia
abbrev IC(j:Nat):T:=.int (j:Int)
section
variable {K: W.Frag}
@[reducible]def VE:Stmt:=B8 85
def cV:B0 ["thing","s","nodes","path","number","made","k"] ["thing","s"] (An VE):=nofun
abbrev Yd:B4:=λts Γ Z _=>∃(b:Nat) (t:T) (s:Addr) (ns:List Int),ts=[t,.ref s]∧100≤b∧b≤400∧Pb b Γ t∧Γ s=some (.lst (ns.map T.int))∧ns.length=7∧∀(t':T) (Γ':AU),Pb (3*b+2) Γ' t'→Le Γ Γ'→Z t' Γ'
def mi(F:cH K "_law_spoilt" "_law_spoilt" VE f fd)(zB:Ab P w K mg am "_law_other" 3 ["node","s"] iF)(ai:mg "isinstance" = none)(aB:mg "tuple" = none)(aC:mg "len" = none)(bJ:mg "range" = none):bq P w K mg am Ax 4 f fd ["thing","s"] (Aw Yd):=by
 show B7 F cV (λts Γ Z Y h=>?_) (λcy A outer s H E ts Γ Z Y hr h=>?_)
 ·let⟨b,t,sa,ns,rfl,_⟩:=h
  rfl
 let⟨b,t,sa,ns,rfl,b1,b2,pb,gs,n7,q⟩:=h;show⟨_,(A5 (Ar (i:=2) cV.nd (CG (A4 (A3 0) A9)))
  (A5 (Ar (i:=3) cV.nd (CG A9))
  (A5 (Ar (i:=4) cV.nd (AG C3 (AG HF (AK (A3 1) A7) A7) (AK (A3 1) A7)))
  (A5 (abH Gh (PW.pt (J3 (Aq Fy (Ap BY rfl aC BD (A4 (A3 3) A9)) (AG Bc (AK (A3 1) A7) A7)) (J3 (BG (C5 rfl ai rfl aB DS (AK (A3 2) (EZ A7)))) (Jt (Aq Ii (Ap BY rfl aC BD (A4 (AK (A3 2) (EZ A7)) A9)) A7))))) (A5 (IJ (F0 G5 Ia IS Hz (A3 3) (A4 (AG Bc (A3 4) (Ap BY rfl aC BD (A4 (AK (A3 2) (EZ A7)) A9))) A9)))
  (A5 (Ar (i:=4) cV.nd (AG FC (A3 4) (Ap BY rfl aC BD (A4 (AK (A3 2) (EZ A7)) A9))))
  (A5 (IJ (F0 G5 Ia IS Hz (A3 2) (A4 (AK (AK (A3 2) (EZ A7)) (AK (A3 3) (EZ A7))) A9)))
  AB))))
  (A5 (Ar (i:=5) cV.nd (Aj zB hr (A4 (AK (A3 2) (EZ A7)) (A4 (A3 1) A9))))
  (A5 (GS Gh rfl (j7 rfl bJ (A4 (AG GI (Ap BY rfl aC BD (A4 (A3 3) A9)) A7) (A4 (EZ A7) (A4 (EZ A7) A9)))) (B5 (i:=6) cV.nd) (A5 (Ar (i:=5) cV.nd (AG Hb (AG Hb (CN Ff (AK (A3 2) (A3 6)) DE (Be (AK (A3 3) (A3 6)))) (Ay (A4 (A3 5) A9))) (CN Ff (AK (A3 2) (A3 6)) (Be (AG C3 (AK (A3 3) (A3 6)) A7)) DE)))
  AB))
  (A5 (AJ (A3 5))
  AB))))))),?_⟩
 simp only[Az];let sl:=Dd;let⟨r0,_,_,x0⟩:=EV (ns:=ns) (j:=0) (by lia);let⟨r1,_,_,x1⟩:=EV (ns:=ns) (j:=1) (by lia);let⟨r2,_,_,x2⟩:=EV (ns:=ns) (j:=2) (by lia);left;clear pn GU e1 Γ1 gn l1
 left;clear pp SG e2 Γ2 gp l2
 let bp:Γ pp=none:=le_none l1 SG;let YS:pn≠pp:=Dk gn SG;let nsn:sa≠pn:=Dk gs GU;let nsp:sa≠pp:=Dk gs bp;let WB:=l1.trans l2;left;show B6 (WB _ _ gs) x1 ?_;left;show B6 (WB _ _ gs) x2 ?_;left;let b12:0≤r0%12∧r0%12<12:=⟨DN _ (by decide),Dj _ (by decide)⟩;show⟨λm τ Γ'=>∃(ts:List T) (js:List Nat) (nr:Int),m=12-js.length∧ts.length=js.length+1∧js.length≤12∧(∀k,k<js.length→∃us,ts[k]?=some (.tup us))∧(∀x∈ts,Pb b Γ x)∧τ=[some t,some (.ref sa),some (.ref pn),some (.ref pp),some (.int nr),none,none]∧Γ' pn=some (.lst ts)∧Γ' pp=some (.lst (js.map IC))∧Kq [pn,pp] Γ Γ',Ψ4 12 [t] [] _ ⟨rfl,rfl,by decide,λk h=>absurd h (Jx _),λx hx=>by rw[aam.mp hx];show pb,rfl,l2 _ _ gn,gp,WB.kq⟩,?_⟩;intro m τ Γ'⟨ts,js,nr,rfl,tl,jl,ch,pa,rfl,D9,PJ,kq⟩;let ZK:=kq _ _ (by simp[nsn,nsp]) gs;obtain⟨x,hx⟩:∃x,ts[ts.length-1]?=some x:=⟨ts[ts.length-1]'(by lia),by simp⟩;let px:=pa x (IT hx);let ax:=P2 hx;let lΓ:Le Γ Γ':=λy o h=>kq y o (by
  let n1:y≠pn:=Dk h GU;let n2:y≠pp:=Dk h bp;simp[n1,n2]) h
 left;show GK PJ ?_;rw[Ag];left;show B6 ZK x0 ?_;exists c1;left;show B6 D9 ax ?_;show BP (DM ((px.mono (Av _) lΓ).pt (by lia))) ?_;exists c2;let⟨us,rfl⟩:=Dt c2;left;show B6 D9 ax ?_;exists c3
 ·let c1:=Bd c1
  let c3:=Bd c3;let⟨ul,um⟩:=px.items;left;show⟨λτ Γ3=>∃(j:Nat) (Wm:Int),j<us.length∧τ=[some t,some (.ref sa),some (.ref pn),some (.ref pp),some (.int Wm),none,none]∧Γ3 pn=some (.lst (ts++[us.getD j .non]))∧Γ3 pp=some (.lst ((js++[j]).map IC))∧Kq [pn,pp] Γ Γ3,?_,?_⟩
  ·intro τ Γ3⟨j,Wm,hj,rfl,gn3,gp3,WJ⟩
   show⟨12-(js++[j]).length,?_,ts++[us.getD j .non],js++[j],Wm,rfl,?_,?_,λk hk=>?_,λy hy=>?_,rfl,gn3,gp3,WJ⟩
   ·rw[B3];show 12-(js.length+1)<_;lia
   ·rw[B3,B3,tl];rfl
   ·rw[B3];show js.length+1≤12;lia
   ·rw[B3]at hk
    let hk:k<js.length+1:=hk;by_cases e:k=js.length
    ·show⟨us,?_⟩
     rw[Na (by lia),e,show js.length=ts.length-1 by lia];show hx
    ·let⟨vs,hv⟩:=ch k (by lia)
     show⟨vs,by rw[Na (by lia)];show hv⟩
   ·rcases aaK.mp hy with hy|hy
    ·show pa y hy
    ·rw[aam.mp hy]
     show um _ ?_;rw[HZ,D0 hj];show GJ hj
  left;show G9 PJ ?_;left;show B6 D9 ax ?_;left;show Es (by show(0:Int)<_;lia) ?_;let b0:=DN nr (show(us.length:Int)≠0 by lia);let b1':=Dj nr (show(0:Int)<us.length by lia);obtain⟨j,hj⟩:∃j:Nat,nr%(us.length:Int)=j:=⟨(nr%(us.length:Int)).toNat,by lia⟩;let SV:j<us.length:=by lia
  rw[hj];left;show Ψ3 pp _ _ ⟨rfl,rfl,PJ,BU (by rw[Ag];lia),?_⟩;let UU:(AF Γ' pp (.lst (js.map IC++[T.int (j:Nat)]))) pn=some (.lst ts):=by rw[Ce YS];show D9
  let ZM:(AF Γ' pp (.lst (js.map IC++[T.int (j:Nat)]))) pp=some (.lst ((js++[j]).map IC)):=by rw[BN,Au];rfl
  left;show B6 UU ax ?_;left;show Es ⟨by lia,by lia⟩ ?_;left;show G9 UU ?_;left;show B6 UU ax ?_;left;show B6 ZM (P2 (x:=IC j) (by simp)) ?_;show Gl (t:=us.getD j .non) (by rw[HZ,D0 SV];rfl) ?_;left;show Ψ3 pn _ _ ⟨rfl,rfl,UU,BU (by lia),?_⟩;left;show Ψ2 j _ ⟨SV,rfl,BN,by rw[Ce YS.symm];show ZM,(kq.trans (.set (by simp) _)).trans (.set (by simp) _)⟩
 all_goals
  left;show B6 D9 ax ?_;left;show Ψ4 b _ sa ns ⟨rfl,b1,b2,px.mono (Av _) lΓ,ZK,n7,λt' Γ3 pt' l3=>?_⟩;left;unfold R1;left;show GK (l3 _ _ PJ) ?_;rw[Ag];left;show Ψ4 ((js.length:Int)-1) (-1) (-1) js.length ⟨rfl,.inr rfl,by lia,by lia,by decide,by decide,tg4 _,?_⟩;show⟨λv6 τ Γ4=>∃(m:Nat) (u:T) (o6:Option T),m≤js.length∧v6=Gw ((m:Int)-1) (-1) m∧τ=[some t,some (.ref sa),some (.ref pn),some (.ref pp),some (.int nr),some u,o6]∧Pb (3*b+2) Γ3 u∧Γ4=Γ3,Ψ3 js.length t' none ⟨Av _,rfl,rfl,pt',rfl⟩,?_,?_⟩
  ·intro τ Γ4⟨m,u,o6,mj,er,rfl,pu,rfl⟩
   show⟨trivial,?_⟩;left;show AD .refl (q u Γ4 pu (lΓ.trans l3))
  ·intro y rr τ Γ4⟨m,u,o6,mj,er,rfl,pu,rfl⟩
   let⟨m',rfl,rfl,rfl⟩:=eZ er;let em:((m'+1:Nat):Int)-1=(m':Nat):=by lia
   rw[em];let⟨vs,hv⟩:=ch m' (by lia);let pv:Pb b Γ4 (.tup vs):=(pa _ (IT hv)).mono (Av _) (lΓ.trans l3);let⟨vl,vm⟩:=pv.items;let hj:(js.map IC)[m']?=some (IC js[m']):=by rw[He,D0 (by lia)];rfl
   generalize js[m']=j at *
   left;show B6 (l3 _ _ D9) (Fv hv) ?_;left;show B6 (l3 _ _ PJ) (Fv hj) ?_;unfold IC;left;show Hg (by have:=LJ vs none (some (j:Int));show _+1≤_;lia) ?_;left;show B6 (l3 _ _ D9) (Fv hv) ?_;left;show B6 (l3 _ _ PJ) (Fv hj) ?_;unfold IC;left;let d1:(Bb vs none (some (j:Int))).length=min j vs.length:=by rw[VS (by lia),EH];rfl
   let d2:(Bb vs (some ((j:Int)+1)) none).length=vs.length-(j+1):=by rw[JV (by lia),ET];lia
   show Hg (by rw[B3];show _+1+_≤_;lia) ?_;left;show Ψ3 m' _ _ ⟨by lia,by rw[show(m':Int) + -1=(m':Int)-1 by lia],rfl,.tup (by rw[B3,B3];show _+1+_≤_;lia) (λz hz=>?_),rfl⟩;simp only[aaK,aam]at hz;rcases hz with(hz|hz)|hz
   ·show(vm z (Lu hz)).mono (by lia) .refl
   ·rw[hz];show pu
   ·show(vm z (Lu hz)).mono (by lia) .refl
end
def xb(ss:List Str):(ss.map V.str).all EO=true:=by
 rw[aaW];intro v hv;let⟨z,_,rfl⟩:=aap.mp hv;rfl
def pB{f:T→Bool}{ds:List T}(h:ES f x=false∨∃z b,x=.tup [.str z,b]∧z∈ds.map Eg):Iv f (.tup (ds++x::r))=false:=by
 rw[I0];rcases h with h|⟨z,b,rfl,hz⟩
 ·have:(ds++x::r).all (ES f)=false:=by rw[Me,F4,h];simp
  rw[this];simp
 ·have:¬((ds++.tup [.str z,b]::r).map Eg).Nodup:=by
   rw[Au,CT,aa9];intro⟨_,_,h3⟩;show h3 z hz z (by simp[Eg]) rfl
  rw[CA this,Er]
section
variable {K: W.Frag}
@[reducible]def Qt:Stmt:=B8 77
def oW:B0 ["thing"] ["thing"] (An Qt):=nofun
def t_T(F:cH K "_law_is_name" "_law_is_name" Qt f fd)(ai:mg "isinstance" = none)(bK:mg "str" = none)(aC:mg "len" = none):bq P w K mg am Ax 1 f fd ["thing"] (Aw Hq):=by
 show B7 F oW (λts Γ Z Y h=>?_) (λcy A outer s H E ts Γ Z Y hr h=>?_)
 ·let⟨t,rfl,_⟩:=h
  rfl
 let⟨t,rfl,pt,q⟩:=h;show⟨_,(A5 (Ah (PW.pt (By (BL (BG (C5 rfl ai rfl bK G7 (A3 0)))) (By (Aq Fy (Ap KS rfl aC BD (A4 (A3 0) A9)) A7) (Cu (Aq Ii (Ap KS rfl aC BD (A4 (A3 0) A9)) A7))))) (A5 (AJ BH)
  AB) AB)
  (A5 (AJ (CR (dJ hr.EA) (Cs (own:=["sign"]) (cap:=[]) Ec rfl (NL (A3 0)) (λ_ _ _ _=>GQ) (λ_ _ _ _=>(OX (Jq ay (A3 0) AP (by with_unfolding_all rfl)))) (λ_ _ _ _=>(A3 0))) (CG A9)))
  AB)),?_⟩
 simp only[Az];left;show BP (in_str pt) ?_;exists c
 ·left
  show AD .refl ?_;cases t with
  |str z=>cases c
  |_=>show q
 let⟨z,rfl⟩:=HL (t:=t) (by simpa using c);let zl:=pt.txt;let no:As (.str z)=false→DW Z (.bl false) Γ:=λh=>by rw[h]at q;show AD .refl q
 left;show⟨z,rfl,Ci zl (by decide),?_⟩;exists c1
 ·let c1:=Bd c1
  left;show no ?_;rw[JN,CA (show ¬1≤z.length by lia)];rfl
 let c1:=DC c1;left;show⟨z,rfl,Ci zl (by decide),?_⟩;exists c2
 ·let c2:=Bd c2
  left;show no ?_;rw[JN,CA (show ¬z.length≤8 by lia),Er];rfl
 let c2:=DC c2;left;show⟨Bu (BU (by unfold Hk;rw[Ag,G3];lia)),?_⟩;show⟨λv6 τ ys Γ'=>∃(cs ds:List Nat) (o:Option T),v6=cs.map (λc=>T.str ⟨#[c]⟩)∧z.cps.toList=ds++cs∧τ=[o]∧ys=(ds.filter λc=>!Ht c).map (λc=>T.str ⟨#[c]⟩)∧Γ'=Γ,Ψ3 z.cps.toList [] none ⟨rfl,rfl,rfl,rfl,rfl⟩,?_,?_⟩
 ·intro τ ys Γ'⟨cs,ds,o,er,ez,rfl,rfl,rfl⟩
  let hz:cs=[]:=by
   cases cs with
   |nil=>rfl
   |cons _ _=>cases er
  subst hz;rw[Bg]at ez;subst ez;show⟨trivial,?_⟩;clear p1 fO e1 Γ1 g1 l1
  left;clear p2 rB e2 Γ2 g2 l2
  show Ψ3 p1 p2 _ ⟨rfl,rfl,l2 _ _ g1,g2,?_⟩;have:((z.cps.toList.filter λc=>!Ht c).map λc=>T.str ⟨#[c]⟩).isEmpty=As (.str z):=by
   rw[JN,BE (show 1≤z.length by lia),BE (show z.length≤8 by lia),List.isEmpty_map,GO];generalize z.cps.toList=l;simp[acg]
  rw[this];show AD (l1.trans l2) q
 ·intro x r τ ys Γ'⟨cs,ds,o,er,ez,rfl,rfl,rfl⟩
  cases cs with
  |nil=>cases er
  |cons c cs=>
   cases er;show⟨trivial,?_⟩;left;show Ψ2 _ _ ⟨rfl,rfl,?_⟩;show ∃k,T.bl (!Ht c)=.bl k∧_
   exists c3
   ·left
    show Ψ3 cs (ds++[c]) _ ⟨rfl,by rw[ez];simp,rfl,by rw[K0,Au];simp[c3],rfl⟩
   ·show Ψ3 cs (ds++[c]) _ ⟨rfl,by rw[ez];simp,rfl,by rw[K0,Au];simp[c3],rfl⟩
@[reducible]def Nt:Stmt:=B8 78
def gc:B0 ["thing","depth","names","one"] ["thing","depth"] (An Nt):=nofun
abbrev M9(n:Nat):B4:=λts Γ Z _=>∃(t:T) (d:Int),ts=[t,.int d]∧1≤d∧(6-d).toNat<n∧Pt Γ t∧Z (.bl (B2 (6-d).toNat t)) Γ
abbrev Mz(n:Nat):B4:=λts Γ Z _=>∃(t:T) (d:Int),ts=[t,.int d]∧1≤d∧(5-d).toNat<n∧Pt Γ t∧Z (.bl (Iv (B2 (5-d).toNat) t)) Γ
def atK(F:cH K "_law_are_fields" "_law_are_fields" Nt f fd)(vp:Ab P w K mg am "_law_is_name" 1 ["thing"] Hq)(fC:Ab P w K mg am "_law_is_kind" (lv+1) ["thing","depth"] (M9 n))(ai:mg "isinstance" = none)(aB:mg "tuple" = none)(aC:mg "len" = none):bq P w K mg am Ax (lv+2) f fd ["thing","depth"] (Aw (Mz n)):=by
 show B7 F gc (λts Γ Z Y h=>?_) (λcy A outer s H E ts Γ Z Y hr h=>?_)
 ·let⟨t,d,rfl,_⟩:=h
  rfl
 let⟨t,d,rfl,d1,dn,pt,q⟩:=h;show⟨_,(A5 (Ah (PW.pt (By (BL (BG (C5 rfl ai rfl aB DS (A3 0)))) (By (Aq Fy (Ap BY rfl aC BD (A4 (A3 0) A9)) A7) (Cu (Aq Ii (Ap BY rfl aC BD (A4 (A3 0) A9)) A7))))) (A5 (AJ BH)
  AB) AB)
  (A5 (Ar (i:=2) gc.nd (CG A9))
  (A5 (GS Gh rfl (Du (A3 0)) (B5 (i:=3) gc.nd) (A5 (Ah (PW.pt (By (BL (BG (C5 rfl ai rfl aB DS (A3 3)))) (By (Aq EF (Ap BY rfl aC BD (A4 (A3 3) A9)) A7) (By (BL (BG (Aj vp hr (A4 (AK (A3 3) A7) A9)))) (Cu (Jq Ug (AK (A3 3) A7) (A3 2) (by with_unfolding_all rfl))))))) (A5 (AJ BH)
  AB) AB)
  (A5 (Ah (BL (BG (Aj fC hr (A4 (AK (A3 3) A7) (A4 (AG C3 (A3 1) A7) A9))))) (A5 (AJ BH)
  AB) AB)
  (A5 (IJ (F0 G5 Ia IS Hz (A3 2) (A4 (AK (A3 3) A7) A9)))
  AB))))
  (A5 (AJ BH)
  AB)))),?_⟩
 simp only[Az];left;show BP (DM pt) ?_;exists c
 ·left
  show AD .refl ?_;cases t with
  |tup ts=>cases c
  |_=>show q
 let⟨ts,rfl⟩:=Dt (t:=t) (by simpa using c);let⟨tl,tm⟩:=pt.items;generalize he:(5-d).toNat=e at *
 let no:∀Γ',Le Γ Γ'→Iv (B2 e) (.tup ts)=false→DW Z (.bl false) Γ':=λΓ' l h=>by rw[h]at q;show AD l q
 exists c1
 ·let c1:=Bd c1
  left;show no Γ .refl ?_;rw[I0,CA (show ¬1≤ts.length by lia)];rfl
 let c1:=DC c1;exists c2
 ·let c2:=Bd c2
  left;show no Γ .refl ?_;rw[I0,CA (show ¬ts.length≤6 by lia),Er];rfl
 let c2:=DC c2;left;clear pn GU e1 Γ1 gn l1
 left;show⟨λv6 τ Γ'=>∃(ds:List T) (o3:Option T),ts=ds++v6∧τ=[some (.tup ts),some (.int d),some (.ref pn),o3]∧ds.all (ES (B2 e))=true∧(ds.map Eg).Nodup∧Γ' pn=some (.lst ((ds.map Eg).map T.str))∧Kq [pn] Γ Γ',Ψ2 [] none ⟨rfl,rfl,rfl,VM,gn,l1.kq⟩,?_,?_⟩
 ·intro τ Γ'⟨ds,o3,ez,rfl,al,nd,D9,kq⟩
  rw[Bg]at ez;subst ez;show⟨trivial,?_⟩;left;have:Iv (B2 e) (.tup ts)=true:=by rw[I0,BE (show 1≤ts.length by lia),BE (show ts.length≤6 by lia),al,BE nd];rfl
  rw[this]at q;show AD (λx o h=>kq x o (by have:=Dk h GU;simpa using this) h) q
 ·intro x r τ Γ'⟨ds,o3,ez,rfl,al,nd,D9,kq⟩
  let lΓ:Le Γ Γ':=λx o h=>kq x o (by have:=Dk h GU;simpa using this) h;let px:Pt Γ' x:=(tm x (by rw[ez];simp)).mono lΓ;let bad:(ES (B2 e) x=false∨∃z b,x=.tup [.str z,b]∧z∈ds.map Eg)→DW Z (.bl false) Γ':=λh=>no Γ' lΓ (by rw[ez];show pB h);left;show BP (DM px) ?_;exists c3
  ·left
   show bad (.inl ?_);cases x with
   |tup us=>cases c3
   |_=>rfl
  let⟨us,rfl⟩:=Dt (t:=x) (by simpa using c3);let⟨ul,um⟩:=px.items;exists c4
  ·let c4:us.length≠2:=λe=>by rw[e]at c4;revert c4;decide
   left;show bad (.inl (fM c4))
  let c4:us.length=2:=by
   have:decide (V.int (us.length:Int)=V.int 2)=true:=by simpa using c4
   have:=Ip this;lia
  match us,c4 with
  |[y,k],_=>
   let eb:ES (B2 e) (.tup [y,k])=(As y&&B2 e k):=rfl;left;show⟨y,rfl,um y (by simp),?_⟩;exists c5
   ·left
    show bad (.inl (by rw[eb,show As y=false by simpa using c5];rfl))
   let c5:As y=true:=by simpa using c5
   let⟨z,rfl⟩:=TP c5;left;show gZ D9 rfl (S9 _) rfl (xb _) ?_;show ∃k,T.bl (E0 (.str z) ((ds.map Eg).map V.str))=.bl k∧_
   rw[Ju];exists c6
   ·left
    show bad (.inr ⟨z,k,rfl,Bd c6⟩)
   let c6:=DC c6;left;show Ψ2 k (d+1) ⟨rfl,by lia,by lia,um k (by simp),?_⟩;rw[show(6-(d+1)).toNat=e by lia];exists c7
   ·left
    show bad (.inl (by rw[eb,show B2 e k=false by simpa using c7,Er]))
   let c7:B2 e k=true:=by simpa using c7
   left;show G9 D9 ?_;left;let dl:ds.length≤6:=by rw[ez,B3]at c2;lia
   show Ψ3 pn _ _ ⟨rfl,rfl,D9,BU (by rw[Ag,Ag];lia),?_⟩;left;show Ψ2 (ds++[.tup [.str z,k]]) _ ⟨by rw[ez];simp,rfl,?_,?_,?_,kq.trans (.set (by simp) _)⟩
   ·rw[Me,al]
    show(true&&(ES (B2 e) (.tup [.str z,k])&&true))=true
    rw[eb,c5,c7];rfl
   ·rw[Au,aa9]
    show⟨nd,by simp,λa ha b hb e=>c6 ?_⟩;let hb:b=z:=by simpa[Eg]using hb
    rw[←hb,←e];show ha
   ·rw[BN,Au,Au];rfl
@[reducible]def OZ:Stmt:=B8 79
def l0:B0 ["thing","depth"] ["thing","depth"] (An OZ):=nofun
def adh(F:cH K "_law_is_kind" "_law_is_kind" OZ f fd)(iT:Ab P w K mg am "_law_whole" 1 ["thing"] Fm)(fC:Ab P w K mg am "_law_is_kind" (lv+1) ["thing","depth"] (M9 n))(qT:Ab P w K mg am "_law_are_fields" (lv+2) ["thing","depth"] (Mz n))(ai:mg "isinstance" = none)(aB:mg "tuple" = none)(bK:mg "str" = none)(aC:mg "len" = none):bq P w K mg am Ax (lv+3) f fd ["thing","depth"] (Aw (M9 (n+1))):=by
 show B7 F l0 (λts Γ Z Y h=>?_) (λcy A outer s H E ts Γ Z Y hr h=>?_)
 ·let⟨t,d,rfl,_⟩:=h
  rfl
 let⟨t,d,rfl,d1,dn,pt,q⟩:=h;show⟨_,(A5 (Ah (PW.pt (By (Aq Ii (A3 1) A7) (By (BL (BG (C5 rfl ai rfl aB DS (A3 0)))) (By (Aq Fy (Ap BY rfl aC BD (A4 (A3 0) A9)) A7) (Cu (BL (BG (C5 rfl ai rfl bK G7 (AK (A3 0) A7))))))))) (A5 (AJ BH)
  AB) AB)
  (A5 (Ah (Aq BI (Ap BY rfl aC BD (A4 (A3 0) A9)) A7) (A5 (AJ (CR BI (AK (A3 0) A7) AP))
  AB) AB)
  (A5 (Ah (Aq EF (Ap BY rfl aC BD (A4 (A3 0) A9)) A7) (A5 (AJ BH)
  AB) AB)
  (A5 (Ah (Aq BI (AK (A3 0) A7) AP) (A5 (AJ (CC (Aj iT hr (A4 (AK (A3 0) A7) A9)) (CC (CR El A7 (AK (A3 0) A7)) (CM (CR El (AK (A3 0) A7) A7)))))
  AB) AB)
  (A5 (Ah (Aq BI (AK (A3 0) A7) AP) (A5 (AJ (Aj fC hr (A4 (AK (A3 0) A7) (A4 (AG C3 (A3 1) A7) A9))))
  AB) AB)
  (A5 (AJ (CC (La (CR BI (AK (A3 0) A7) AP) (CM (CR BI (AK (A3 0) A7) AP))) (CM (Aj qT hr (A4 (AK (A3 0) A7) (A4 (A3 1) A9))))))
  AB)))))),?_⟩
 simp only[Az];let no:B2 (6-d).toNat t=false→DW Z (.bl false) Γ:=λh=>by rw[h]at q;show AD .refl q
 exists c
 ·let c:=Bd c
  left;show no ?_;rw[show(6-d).toNat=0 by lia];unfold B2;rfl
 let c:=DC c;obtain⟨e,he⟩:∃e:Nat,(6-d).toNat=e+1:=⟨(5-d).toNat,by lia⟩;let J9:(5-d).toNat=e:=by lia
 rw[he]at no q;left;show BP (DM pt) ?_;exists c
 ·left
  show no (Zg (by simpa using c))
 let⟨ts,rfl⟩:=Dt (t:=t) (by simpa using c);let⟨tl,tm⟩:=pt.items;exists c1
 ·let c1:=Bd c1
  left;show no (T1 (by lia) (by lia))
 let c1:=DC c1;obtain⟨h,ys,rfl⟩:∃h ys,ts=h::ys:=by
  cases ts with
  |nil=>show absurd (by decide) c1
  |cons h ys=>show Ψ2 h ys rfl
 left;show BP (in_str (tm h (by simp))) ?_;exists c2
 ·left
  show no (gK (by simpa using c2))
 let⟨z,rfl⟩:=HL (t:=h) (by simpa using c2);left;match ys with
 |[]=>
  left;rw[Qx]at q;let e:decide (V.str z=V.str "text")=decide (z = "text"):=abj.mpr ⟨V.str.inj,λe=>by rw[e]⟩;rw[e];show AD .refl q
 |x::y::r=>
  show AH (λc3=>?_) (λc3=>?_)
  ·have:=Ip c3
   simp only[D7]at this;lia
  left;show no (T1 (by simp) (by simp))
 |[x]=>
  let px:=tm x (by simp);rw[LR]at q;exists c3
  ·rw[Aa (G1 c3)]at q
   left;show⟨x,rfl,px,?_⟩;exists c4
   ·let⟨i,rfl⟩:=NQ c4
    left;let q:Z (.bl (decide (1≤i)&&decide (i≤4))) Γ:=q;show AH (λc5=>?_) (λc5=>?_)
    ·rw[c5,BM]at q
     left;show AD .refl q
    ·rw[c5,CZ]at q
     show AD .refl q
   ·have:Nn x=false:=by
     cases x with
     |int i=>cases c4
     |_=>rfl
    rw[this]at q;show AD .refl q
  rw[AV (Fu c3)]at q;exists c4
  ·rw[Aa (G1 c4)]at q
   left;show Ψ2 x (d+1) ⟨rfl,by lia,by lia,px,?_⟩;rw[show(6-(d+1)).toNat=e by lia];show AD .refl q
  rw[AV (Fu c4)]at q;left;have fin:(decide (z = "rec")||decide (z = "pick"))=true→Mz n [x,.int d] Γ (DW Z) λ_ _=>False:=λh=>by
   rw[h,BM]at q;show Ψ2 x d ⟨rfl,by lia,by lia,px,?_⟩;rw[J9];show AD .refl q
  show AH (λc5=>?_) (λc5=>?_)
  ·left
   show fin (by rw[BE (G1 c5)];rfl)
  exists c6
  ·left
   show fin (by rw[BE (G1 c6),Bool.or_true])
  ·rw[CA (Fu c5),CA (Fu c6)]at q
   show AD .refl q
end
def rM{s:Str}(h:∀x∈s.cps.toList,x≠c)(i:Nat):Builtin.Str.subAt s ⟨#[c]⟩ i=false:=by
 unfold Builtin.Str.subAt;rw[aa0];intro e;let e:=EJ Array.toList e;rw[Array.toList_extract]at e;let hm:c∈List.take (i+(⟨#[c]⟩:Str).length-i) (List.drop i s.cps.toList):=by
  have:c∈(#[c]:Array Nat).toList:=by simp
  rw[←e]at this;show this
 show h c (Lh (MU hm)) rfl
abbrev IH:Str:=S ((List.range 94).map λk=>Ij (k:Nat))
abbrev KQ(c:Nat):Bool:=!(Builtin.Str.occurrences IH ⟨#[c]⟩ 0 IH.length 1).isEmpty
def wG:∀c:Nat,c<128→KQ c=II ((c:Nat):Int):=by done
def abX:∀x∈IH.cps.toList,x<128:=by done
def abx(c:Nat):KQ c=II ((c:Nat):Int):=by
 by_cases h:c<128
 ·show wG c h
 ·let e:KQ c=false:=by
   unfold KQ;rw[jH (rM λx hx e=>by have:=abX x hx;lia)];rfl
  rw[e];unfold II;rw[CA (show ¬((c:Nat):Int)≤126 by lia),Er,CZ]
def QZ{b:T}{z:Str}:∀{fs:List (Str×Kd)},(fs.map (·.1)).Nodup→FO fs z b=match(fs.filter λp=>decide (p.1=z))with|[p]=>BQ p.2 b|_=>false
 |[],_=>by rw[FO];rfl
 |(m,k)::fs,nd=>by
  rw[CT,abY]at nd;by_cases e:m=z
  ·let no:fs.filter (λp=>decide (p.1=z))=[]:=acg.mpr λp hp h=>nd.1 (by rw[e,←Bd h];show aap.mpr ⟨p,hp,rfl⟩)
   let nA:FO fs z b=false:=by rw[QZ nd.2,no]
   rw[FO,nA,VP,BE e,BM,Rw (by show BE e),no]
  ·rw[FO,CA e,CZ,UY,QZ nd.2,Rv (by rw[IX];show e)]
def bU{z:Str}:∀{fs:List (Str×Kd)},(fs.map (·.1)).Nodup→(fs.filter λp=>decide (p.1=z)).length≤1
 |[],_=>by simp
 |(m,k)::fs,nd=>by
  rw[CT,abY]at nd;by_cases e:m=z
  ·let no:fs.filter (λp=>decide (p.1=z))=[]:=acg.mpr λp hp h=>nd.1 (by rw[e,←Bd h];show aap.mpr ⟨p,hp,rfl⟩)
   rw[Rw (by show BE e),no];show Av _
  ·rw[Rv (by rw[IX];show e)];show bU nd.2
section
variable {K: W.Frag}
@[reducible]def Oq:Stmt:=B8 86
def fE:B0 ["kind","thing","half","signs","found"] ["kind","thing"] (An Oq):=nofun
def ab0(F:cH K "_law_is_worth" "_law_is_worth" Oq f fd)(eV:Ab P w K mg am "_law_is_worth" (lv+1) ["kind","thing"] (Gm n))(iT:Ab P w K mg am "_law_whole" 1 ["thing"] Fm)(jA:Ab P w K mg am "_law_sign" 1 ["number"] Ki)(ai:mg "isinstance" = none)(aB:mg "tuple" = none)(bK:mg "str" = none)(aC:mg "len" = none)(bx:mg "all" = none)(eK:mg "zip" = none)(bJ:mg "range" = none):bq P w K mg am Ax (lv+2) f fd ["kind","thing"] (Aw (Gm (n+1))):=by
 show B7 F fE (λts Γ Z Y h=>?_) (λcy A outer s H E ts Γ Z Y hr h=>?_)
 ·let⟨k,t,rfl,_⟩:=h
  rfl
 let⟨k,t,rfl,kg,kd,pt,q⟩:=h;show⟨_,(A5 (Ah (Aq BI (AK (A3 0) A7) AP) (A5 (Ar (i:=2) fE.nd (AK (CG (A4 A7 (A4 A7 (A4 A7 (A4 A7 (A4 A7 A9)))))) (AK (A3 0) A7)))
  (A5 (AJ (CC (Aj iT hr (A4 (A3 1) A9)) (CC (CR El (EZ (A3 2)) (A3 1)) (CM (CR Fy (A3 1) (A3 2))))))
  AB)) AB)
  (A5 (Ah (Aq BI (AK (A3 0) A7) AP) (A5 (Ar (i:=3) fE.nd (F0 Np Qd Qn RA AP (A4 (Cs (own:=["k"]) (cap:=[]) Ec rfl (Js rfl bJ (A4 A7 A9)) (λ_ _ _ _=>GQ) (λ_ _ _ _=>DJ) (λ_ _ _ _=>(Aj jA hr (A4 (A3 0) A9)))) A9)))
  (A5 (AJ (CC (C5 rfl ai rfl bK G7 (A3 1)) (CC (CR El (Ap KS rfl aC BD (A4 (A3 1) A9)) A7) (CM (CR (dJ hr.EA) (Cs (own:=["one"]) (cap:=[(3,"signs")]) (FK rfl (by done) (by done) rfl (⟨rfl,trivial⟩) rfl (⟨⟨rfl,rfl,rfl⟩,trivial⟩)) rfl (NL (A3 1)) (λ_ _ _ _=>(BX (i:=0) (show List.Nodup (["one","signs"]:List Str)from by done) rfl (Or.inl rfl) (Or.inr rfl))) (λ_ _ _ _=>(OX (Jq ay (A3 0) (A3 1) (by with_unfolding_all rfl)))) (λ_ _ _ _=>(A3 0))) (CG A9))))))
  AB)) AB)
  (A5 (Ah (BL (BG (C5 rfl ai rfl aB DS (A3 1)))) (A5 (AJ BH)
  AB) AB)
  (A5 (Ah (Aq BI (AK (A3 0) A7) AP) (A5 (AJ (CC (CR El (Ap BY rfl aC BD (A4 (A3 1) A9)) A7) (CM (Ap (FN rfl) rfl bx FY (A4 (Cs (own:=["one"]) (cap:=[(0,"kind")]) (FK rfl (by done) (by done) rfl (⟨rfl,trivial⟩) rfl (⟨⟨rfl,rfl,rfl⟩,trivial⟩)) rfl (Du (A3 1)) (λ_ _ _ _=>(BX (i:=0) (show List.Nodup (["one","kind"]:List Str)from by done) rfl (Or.inl rfl) (Or.inr rfl))) (λ_ _ _ _=>DJ) (λ_ _ _ _=>(Aj eV hr (A4 (AK (A3 1) A7) (A4 (A3 0) A9))))) A9)))))
  AB) AB)
  (A5 (Ah (Aq BI (AK (A3 0) A7) AP) (A5 (Ah (Aq EF (Ap BY rfl aC BD (A4 (A3 1) A9)) (Ap BY rfl aC BD (A4 (AK (A3 0) A7) A9))) (A5 (AJ BH)
  AB) AB)
  (A5 (AJ (Ap (FN rfl) rfl bx FY (A4 (Cs (own:=["one","part"]) (cap:=[]) Ec rfl (U6 rfl eK (A4 (AK (A3 0) A7) (A4 (A3 1) A9))) (λ_ _ _ _=>(Cg (n:=2) rfl (Ak (BX (i:=0) (show List.Nodup (["one","part"]:List Str)from by done) rfl (Or.inl rfl) (Or.inr rfl)) (Ak (BX (i:=1) (show List.Nodup (["one","part"]:List Str)from by done) rfl (Or.inl rfl) (Or.inr rfl)) CW)))) (λ_ _ _ _=>DJ) (λ_ _ _ _=>(Aj eV hr (A4 (AK (A3 0) A7) (A4 (A3 1) A9))))) A9)))
  AB)) AB)
  (A5 (Ah (PW.pt (By (Aq EF (Ap BY rfl aC BD (A4 (A3 1) A9)) A7) (Cu (BL (BG (C5 rfl ai rfl bK G7 (AK (A3 1) A7))))))) (A5 (AJ BH)
  AB) AB)
  (A5 (aa2 (i:=4) (own:=["name","part"]) (cap:=[(1,"thing")]) (FK rfl (by done) (by done) rfl (⟨rfl,trivial⟩) rfl (⟨⟨rfl,rfl,rfl⟩,trivial⟩)) rfl (Du (AK (A3 0) A7)) (λ_ _ _ _=>(Cg (n:=2) rfl (Ak (BX (i:=0) (show List.Nodup (["name","part","thing"]:List Str)from by done) rfl (Or.inl rfl) (Or.inr rfl)) (Ak (BX (i:=1) (show List.Nodup (["name","part","thing"]:List Str)from by done) rfl (Or.inl rfl) (Or.inr rfl)) CW)))) (λ_ _ _ _=>(OX (Aq BI (A3 0) (AK (A3 2) A7)))) (λ_ _ _ _=>(A3 1)) fE.nd rfl rfl)
  (A5 (AJ (CC (CR BI (Ap BY rfl aC BD (A4 (A3 4) A9)) A7) (CM (Aj eV hr (A4 (AK (A3 4) A7) (A4 (AK (A3 1) A7) A9))))))
  AB)))))))),?_⟩
 simp only[Az];cases k with
 |num wd=>
  unfold Kd.good at kg;rw[Kd.tr];rw[BQ]at q;left;clear p1 fO e1 Γ1 g1 l1
  left;obtain⟨hf,hh,hi⟩:∃hf:Int,C0 [T.int 0,.int 32768,.int 2147483648,.int 140737488355328,.int 9223372036854775808] wd=some (.int hf)∧65536^wd.toNat=2*hf:=by
   rcases(show wd=1∨wd=2∨wd=3∨wd=4 by lia)with rfl|rfl|rfl|rfl
   ·show⟨32768,rfl,rfl⟩
   ·show⟨2147483648,rfl,rfl⟩
   ·show⟨140737488355328,rfl,rfl⟩
   ·show⟨9223372036854775808,rfl,rfl⟩
  show B6 g1 hh ?_;left;show⟨t,rfl,pt.mono l1,?_⟩;left;cases t with
  |int i=>
   let q:Z (.bl (decide (-((65536:Int)^wd.toNat)≤2*i)&&decide (2*i≤(65536:Int)^wd.toNat-2))) Γ:=q;rw[hi]at q;exists c
   ·let c:=Bd c
    rw[BE (show -(2*hf)≤2*i by lia),BM]at q;left;have:decide (i<hf)=decide (2*i≤2*hf-2):=abj.mpr ⟨λ_=>by lia,λ_=>by lia⟩;rw[this];show AD l1 q
   ·let c:=DC c
    rw[CA (show ¬-(2*hf)≤2*i by lia),CZ]at q;show AD l1 q
  |_=>
   left;show AD l1 q
 |text=>
  rw[Kd.tr];rw[BQ]at q;left;show⟨94,rfl,by lia,by lia,by rw[Iw];show Bu (BU (by lia)),λv6 τ ys Γ'=>∃(lo c:Nat) (o:Option T),τ=[o]∧v6=EU lo c∧lo+c=94∧ys=((List.range lo).map λk=>Ij (k:Nat)).map (λc=>T.str ⟨#[c]⟩)∧Γ=Γ',?_,?_,?_⟩
  ·show Ψ3 0 94 none ⟨rfl,rfl,rfl,rfl,rfl⟩
  rotate_left
  ·intro x rr τ ys Γ'⟨lo,c,o,rfl,e,lc,rfl,rfl⟩
   let⟨c',rfl,rfl,rfl⟩:=Jb e;left;show⟨_,rfl,?_⟩;show Ψ3 (lo+1) c' _ ⟨rfl,rfl,by lia,by rw[VY,Au,Au];rfl,rfl⟩
  intro τ ys Γ'⟨lo,c,o,rfl,e,lc,rfl,rfl⟩;let hc:=KR e;let Zv:lo=94:=by lia
  subst Zv;show⟨trivial,λp1 fO=>?_⟩;revert p1 fO e1 Γ1 g1 l1
  left;show Ψ2 p1 (((List.range 94).map λk=>Ij (k:Nat)).map (λc=>(⟨#[c]⟩:Str))) ⟨rfl,rfl,?_,?_,?_,?_⟩
  ·rw[BR g1,FJ];rfl
  ·rw[Ag,Ag,OY];decide
  ·intro y hy
   let⟨c,_,rfl⟩:=aap.mp hy;show 1≤1000
   decide
  rw[Uq];let JF:=pt.mono l1;left;show BP (in_str JF) ?_;exists c;rotate_left
  ·show AD l1 ?_
   cases t with
   |str z=>cases c
   |_=>show q
  let⟨z,rfl⟩:=HL c;let zl:=pt.txt;let q:Z (.bl (decide (z.length≤60)&&z.cps.toList.all λc=>II (c:Nat))) Γ:=q;left;show⟨z,rfl,Ci zl (by decide),?_⟩;exists c1;rotate_left
  ·let c1:=DC c1
   rw[CA (show ¬z.length≤60 by lia),CZ]at q;show AD l1 q
  let c1:=Bd c1;rw[BE (show z.length≤60 by lia),BM]at q;left;show⟨Bu (BU (by unfold Hk;rw[Ag,G3];lia)),?_⟩;show⟨λv6 τ ys Γ'=>∃(cs ds:List Nat) (o:Option T),v6=cs.map (λc=>T.str ⟨#[c]⟩)∧z.cps.toList=ds++cs∧τ=[o,some (.str IH)]∧ys=(ds.filter λc=>!KQ c).map (λc=>T.str ⟨#[c]⟩)∧Γ1=Γ',Ψ3 z.cps.toList [] none ⟨rfl,rfl,rfl,rfl,rfl⟩,?_,?_⟩
  ·intro τ ys Γ'⟨cs,ds,o,er,ez,rfl,rfl,rfl⟩
   let hz:cs=[]:=by
    cases cs with
    |nil=>rfl
    |cons _ _=>cases er
   subst hz;rw[Bg]at ez;subst ez;show⟨trivial,?_⟩;clear p2 rB e2 Γ2 g2 l2
   left;clear p3 AZ e3 Γ3 g3 l3
   show Ψ3 p2 p3 _ ⟨rfl,rfl,l3 _ _ g2,g3,?_⟩;have:((z.cps.toList.filter λc=>!KQ c).map λc=>T.str ⟨#[c]⟩).isEmpty=z.cps.toList.all λc=>II (c:Nat):=by
    rw[List.isEmpty_map,GO];generalize z.cps.toList=l;simp[acg,abx]
   rw[this];show AD (l1.trans (l2.trans l3)) q
  ·intro x r τ ys Γ'⟨cs,ds,o,er,ez,rfl,rfl,rfl⟩
   cases cs with
   |nil=>cases er
   |cons c cs=>
    cases er;show⟨trivial,?_⟩;left;show Ψ2 _ _ ⟨rfl,rfl,?_⟩;show ∃k,T.bl (!KQ c)=.bl k∧_
    exists c3
    ·left
     show Ψ3 cs (ds++[c]) _ ⟨rfl,by rw[ez];simp,rfl,by rw[K0,Au];simp[c3],rfl⟩
    ·show Ψ3 cs (ds++[c]) _ ⟨rfl,by rw[ez];simp,rfl,by rw[K0,Au];simp[c3],rfl⟩
 |row k=>
  rw[Kd.tr];unfold Kd.good at kg;unfold Kd.depth at kd;left;show BP (DM pt) ?_;exists c
  ·left
   show AD .refl ?_;cases t with
   |tup ts=>cases c
   |_=>unfold BQ at q;show q
  let⟨ts,rfl⟩:=Dt (t:=t) (by simpa using c);let⟨tl,tm⟩:=pt.items;rw[BQ]at q;exists c1;rotate_left
  ·let c1:=DC c1
   rw[CA (show ¬ts.length≤60 by lia)]at q;show AD .refl q
  let c1:=Bd c1;rw[BE (show ts.length≤60 by lia),BM]at q;left;show⟨Bu (BU (by lia)),?_⟩;show⟨λv6 τ ys Γ'=>∃(ds:List T) (o:Option T),ts=ds++v6∧τ=[o,some (.tup [.str "row",k.tr])]∧ys=(ds.map (BQ k)).map T.bl∧Γ'=Γ,Ψ2 [] none ⟨rfl,rfl,rfl,rfl⟩,?_,?_⟩;rotate_left
  ·intro x r τ ys Γ'⟨ds,o,ez,rfl,rfl,rfl⟩
   show⟨trivial,?_⟩;left;show Ψ2 k x ⟨rfl,kg,by lia,tm x (by rw[ez];simp),?_⟩;show Ψ2 (ds++[x]) _ ⟨by rw[ez];simp,rfl,by rw[Au,Au];rfl,rfl⟩
  intro τ ys Γ'⟨ds,o,ez,rfl,rfl,rfl⟩;rw[Bg]at ez;subst ez;show⟨trivial,?_⟩;clear p1 fO e1 Γ1 g1 l1
  left;show Ψ2 p1 _ ⟨rfl,BR g1,?_⟩;rw[FZ];show AD l1 q
 |rec_ fs=>
  rw[Kd.tr];unfold Kd.good at kg;unfold Kd.depth at kd;let f6:=kg.2.2.1;left;show BP (DM pt) ?_;exists c
  ·left
   show AD .refl ?_;cases t with
   |tup ts=>cases c
   |_=>unfold BQ at q;show q
  let⟨us,rfl⟩:=Dt (t:=t) (by simpa using c);let⟨tl,tm⟩:=pt.items;rw[BQ]at q;left;rw[FW];show AH (λc=>?_) (λc=>?_)
  ·let c:us.length≠fs.length:=λe=>by rw[e]at c;simp at c
   left;rw[CA c]at q;show AD .refl q
  let c:us.length=fs.length:=by
   have:decide (V.int (us.length:Int)=V.int (fs.length:Nat))=true:=by simpa using c
   have:=Ip this;lia
  rw[BE c,BM]at q;left;show⟨Bu (BU (by rw[Jd,FW];lia)),?_⟩;show⟨λv6 τ ys Γ'=>∃(gs:List (Str×Kd)) (vs:List T) (bs:List Bool) (o1 o2:Option T),v6=Ew (Br gs) vs∧(∀p∈gs,p∈fs)∧(∀t∈vs,t∈us)∧gs.length=vs.length∧τ=[o1,o2]∧ys=bs.map T.bl∧GL fs us=(bs.all id&&GL gs vs)∧Γ'=Γ,Ψ5 fs us [] none none ⟨rfl,λ_ h=>h,λ_ h=>h,c.symm,rfl,rfl,by simp,rfl⟩,?_,?_⟩
  ·intro τ ys Γ'⟨gs,vs,bs,o1,o2,er,_,_,el,rfl,rfl,e,rfl⟩
   let hz:gs=[]:=by
    cases gs with
    |nil=>rfl
    |cons p gs=>
     cases vs with
     |nil=>cases el
     |cons t vs=>cases er
   subst hz;show⟨trivial,?_⟩;clear p1 fO e1 Γ1 g1 l1
   left;show Ψ2 p1 bs ⟨rfl,BR g1,?_⟩;rw[e]at q;unfold GL at q;rw[LL]at q;show AD l1 q
  ·intro x r τ ys Γ'⟨gs,vs,bs,o1,o2,er,hg,hv,el,rfl,rfl,e,rfl⟩
   cases gs with
   |nil=>cases er
   |cons p gs=>
    cases vs with
    |nil=>cases el
    |cons t vs=>
     obtain⟨nm,k⟩:=p;cases er;show⟨trivial,?_⟩;left;show Ψ2 k t ⟨rfl,Ml (p:=(nm,k)) kg.1 (hg (nm,k) (by simp)),by have:=JH (p:=(nm,k)) (hg (nm,k) (by simp));have:k.depth≤E9 fs:=this;lia,tm t (hv t (by simp)),?_⟩;show Ψ5 gs vs (bs++[BQ k t]) _ _ ⟨rfl,λp h=>hg p (Dm _ h),λp h=>hv p (Dm _ h),by simpa using el,rfl,by simp,?_,rfl⟩;rw[e,GL,Me];simp[QR]
 |pick fs=>
  rw[Kd.tr];unfold Kd.good at kg;unfold Kd.depth at kd;let f6:=kg.2.2.1;left;show BP (DM pt) ?_;exists c
  ·left
   show AD .refl ?_;cases t with
   |tup ts=>cases c
   |_=>unfold BQ at q;show q
  let⟨us,rfl⟩:=Dt (t:=t) (by simpa using c);let⟨tl,tm⟩:=pt.items;exists c
  ·left
   rw[Qh (Oe (n:=2) c)]at q;show AD .refl q
  match us,Pc (n:=2) c with
  |[a,b],_=>
   left;show BP (in_str (tm a (by simp))) ?_;exists c1
   ·left
    rw[Uh (by simpa using c1)]at q;show AD .refl q
   let⟨z,rfl⟩:=HL (t:=a) (by simpa using c1);rw[Sa,QZ kg.2.2.2]at q;left;show⟨Bu (BU (by rw[FW];lia)),?_⟩;show⟨λv6 τ ys Γ'=>∃(gs ds:List (Str×Kd)) (o1 o2:Option T),v6=Br gs∧fs=ds++gs∧τ=[o1,o2,some (.tup [.str z,b])]∧ys=(ds.filter λp=>decide (p.1=z)).map (λp=>p.2.tr)∧Γ=Γ',Ψ4 fs [] none none ⟨rfl,rfl,rfl,rfl,rfl⟩,?_,?_⟩;rotate_left
   ·intro x r τ ys Γ'⟨gs,ds,o1,o2,er,ez,rfl,rfl,rfl⟩
    cases gs with
    |nil=>cases er
    |cons p gs=>
     obtain⟨nm,k⟩:=p;cases er;show⟨trivial,?_⟩;left;let XM:decide (V.str nm=V.str z)=decide (nm=z):=abj.mpr ⟨V.str.inj,λe=>by rw[e]⟩;rw[XM];show AH (λc2=>?_) (λc2=>?_)
     ·left
      show Ψ4 gs (ds++[(nm,k)]) _ _ ⟨rfl,by rw[ez];simp,rfl,by rw[K0,Au,Rw (by show c2)];rfl,rfl⟩
     ·show Ψ4 gs (ds++[(nm,k)]) _ _ ⟨rfl,by rw[ez];simp,rfl,by rw[K0,Au,Rv (by rw[c2];show Cf)];show(Bg _).symm,rfl⟩
   intro τ ys Γ'⟨gs,ds,o1,o2,er,ez,rfl,rfl,rfl⟩;let hz:gs=[]:=by
    cases gs with
    |nil=>rfl
    |cons p gs=>cases er
   subst hz;rw[Bg]at ez;subst ez;show⟨trivial,λp1 fO=>?_⟩;revert p1 fO e1 Γ1 g1 l1
   let SM:=bU (z:=z) kg.2.2.2;let DA:∀p∈fs.filter (λp=>decide (p.1=z)),p∈fs:=λp hp=>(abQ.mp hp).1;generalize fs.filter (λp=>decide (p.1=z))=fl at q g1 SM DA;left;show GK g1 ?_;left;match fl,SM with
   |[],_=>
    left;show AD l1 q
   |[p],_=>
    left;let hp:=DA p (by simp);show Ψ2 p.2 b ⟨rfl,Ml kg.1 hp,by have:=JH hp;lia,(tm b (by simp)).mono l1,AD l1 q⟩
def cT(F:cH K "_law_is_worth" "_law_is_worth" Oq f fd)(m:mg "_law_is_worth" = some (.ref f))(kp:W.keepIn K (.ref f)=true)(b:Binds K fd ["kind","thing"] [])(C1:Ab P w K mg am "_law_whole" 1 ["thing"] Fm)(C2:Ab P w K mg am "_law_sign" 1 ["number"] Ki)(ai:mg "isinstance" = none)(aB:mg "tuple" = none)(bK:mg "str" = none)(aC:mg "len" = none)(bx:mg "all" = none)(eK:mg "zip" = none)(bJ:mg "range" = none):
  ∀n:Nat,Ab P w K mg am "_law_is_worth" (n+1) ["kind","thing"] (Gm n)
 |0=>Ψ2 f fd ⟨KL λts Γ Z Y h=>by obtain⟨_,_,_,_,h,_⟩:=h;lia,m,kp,b⟩
 |n+1=>Ψ2 f fd ⟨ab0 F (cT F m kp b C1 C2 ai aB bK aC bx eK bJ n) C1 C2 ai aB bK aC bx eK bJ,m,kp,b⟩
end
def aaj(k:Kd):∃(hd:Str) (r:List T),k.tr=.tup (.str hd::r):=by cases k<;>(rw[Kd.tr];show Ψ2 _ _ rfl)
section
variable {K: W.Frag}
@[reducible]def Ot:Stmt:=B8 87
def dY:B0 ["kind","seed","half","size","field"] ["kind","seed"] (An Ot):=nofun
abbrev N2(n:Nat):B4:=λts Γ Z _=>∃(k:Kd) (i:Int),ts=[k.tr,.int i]∧k.good∧k.depth<n∧∀v,(∀Γ,Pb 100 Γ v)→Z v Γ
def pj(F:cH K "_law_worth" "_law_worth" Ot f fd)(iS:Ab P w K mg am "_law_worth" m ["kind","seed"] (N2 n))(jA:Ab P w K mg am "_law_sign" 1 ["number"] Ki)(m2:1≤m)(bJ:mg "range" = none)(aB:mg "tuple" = none)(aC:mg "len" = none):bq P w K mg am Ax (m+1) f fd ["kind","seed"] (Aw (N2 (n+1))):=by
 show B7 F dY (λts Γ Z Y h=>?_) (λcy A outer s H E ts Γ Z Y hr h=>?_)
 ·let⟨k,i,rfl,_⟩:=h
  rfl
 let⟨k,i,rfl,kg,kd,q⟩:=h;show⟨_,(A5 (Ar (i:=1) dY.nd (AG Bc (AG JX (AG C3 (AG Bc (A3 1) A7) A7) A7) A7))
  (A5 (Ah (Aq BI (AK (A3 0) A7) AP) (A5 (Ar (i:=2) dY.nd (AK (CG (A4 A7 (A4 A7 (A4 A7 (A4 A7 (A4 A7 A9)))))) (AK (A3 0) A7)))
  (A5 (AJ (AK (CG (A4 (EZ (A3 2)) (A4 (AG GI (A3 2) A7) (A4 A7 (A4 (EZ A7) (A4 (AG GI (A3 2) A7) (A4 (AG GI (AG Bc (AG JX (A3 1) A7) (AG HF A7 (A3 2))) (A3 2)) A9))))))) (AG Bc (AG FC (A3 1) A7) A7)))
  AB)) AB)
  (A5 (Ah (Aq BI (AK (A3 0) A7) AP) (A5 (Ar (i:=3) dY.nd (AK (CG (A4 A7 (A4 A7 (A4 A7 (A4 A7 (A4 A7 (A4 A7 A9))))))) (AG Bc (AG FC (A3 1) A7) A7)))
  (A5 (AJ (F0 Np Qd Qn RA AP (A4 (Cs (own:=["k"]) (cap:=[(1,"seed")]) (FK rfl (by done) (by done) rfl (⟨rfl,trivial⟩) rfl (⟨⟨rfl,rfl,rfl⟩,trivial⟩)) rfl (Js rfl bJ (A4 (A3 3) A9)) (λ_ _ _ _=>(BX (i:=0) (show List.Nodup (["k","seed"]:List Str)from by done) rfl (Or.inl rfl) (Or.inr rfl))) (λ_ _ _ _=>DJ) (λ_ _ _ _=>(Aj jA hr (A4 (AG Bc (AG FC (AG Bc (AG JX (AG C3 (A3 1) (A3 0)) A7) A7) A7) A7) A9)))) A9)))
  AB)) AB)
  (A5 (Ah (Aq BI (AK (A3 0) A7) AP) (A5 (Ar (i:=3) dY.nd (AG Bc (AG FC (A3 1) A7) A7))
  (A5 (E5 (Ah (PW.pt (J3 (Aq BI (AG Bc (AG FC (A3 1) A7) A7) A7) (Jt (Aq BI (AK (AK (A3 0) A7) A7) AP)))) (A5 (Ar (i:=3) dY.nd A7)
  AB) AB))
  (A5 (AJ (IL RL rfl aB DS (A4 (Cs (own:=["k"]) (cap:=[(0,"kind"),(1,"seed")]) (FK rfl (by done) (by done) rfl (⟨rfl,⟨rfl,trivial⟩⟩) rfl (⟨⟨rfl,rfl,rfl⟩,⟨⟨rfl,rfl,rfl⟩,trivial⟩⟩)) rfl (Js rfl bJ (A4 (A3 3) A9)) (λ_ _ _ _=>(BX (i:=0) (show List.Nodup (["k","kind","seed"]:List Str)from by done) rfl (Or.inl rfl) (Or.inr rfl))) (λ_ _ _ _=>DJ) (λ_ _ _ _=>(Aj iS hr (A4 (AK (A3 1) A7) (A4 (AG C3 (AG C3 (AG C3 (A3 2) (AG HF (A3 0) (A3 0))) (A3 0)) A7) A9))))) A9)))
  AB))) AB)
  (A5 (Ah (Aq BI (AK (A3 0) A7) AP) (A5 (AJ (IL RL rfl aB DS (A4 (Cs (own:=["k"]) (cap:=[(1,"seed"),(0,"kind")]) (FK rfl (by done) (by done) rfl (⟨rfl,⟨rfl,trivial⟩⟩) rfl (⟨⟨rfl,rfl,rfl⟩,⟨⟨rfl,rfl,rfl⟩,trivial⟩⟩)) rfl (Js rfl bJ (A4 (Ap BY rfl aC BD (A4 (AK (A3 0) A7) A9)) A9)) (λ_ _ _ _=>(BX (i:=0) (show List.Nodup (["k","seed","kind"]:List Str)from by done) rfl (Or.inl rfl) (Or.inr rfl))) (λ_ _ _ _=>DJ) (λ_ _ _ _=>(Aj iS hr (A4 (AK (AK (AK (A3 2) A7) (A3 0)) A7) (A4 (AG C3 (AG C3 (A3 1) (AG HF (AG HF A7 (A3 0)) (A3 0))) A7) A9))))) A9)))
  AB) AB)
  (A5 (Ar (i:=4) dY.nd (AK (AK (A3 0) A7) (AG Bc (AG FC (A3 1) A7) (Ap BY rfl aC BD (A4 (AK (A3 0) A7) A9)))))
  (A5 (AJ (Ay (A4 (AK (A3 4) A7) (A4 (Aj iS hr (A4 (AK (A3 4) A7) (A4 (AG C3 (A3 1) A7) A9))) A9))))
  AB))))))),?_⟩
 simp only[Az];let cp:∀{x j:Int},0≤x→x<2^63→0≤j→j≤1000→Qk x j:=λa b c d=>⟨c,by lia,by lia⟩;let s1:0≤i%1000000007+3:=by lia
 let s2:i%1000000007+3<2^63:=by lia
 left;show Es (cp s1 s2 (by decide) (by decide)) ?_;left;generalize (i%1000000007+3)^_=X5;let x0:0≤X5%2147483629:=by lia
 let x1:X5%2147483629<2147483629:=by lia
 generalize X5%2147483629=sd at x0 x1 ⊢;cases k with
 |num wd=>
  unfold Kd.good at kg;rw[Kd.tr];left;clear p1 h1 e1 Γ1 g1 l1
  left;obtain⟨hf,hh,hj,hk⟩:∃hf:Int,C0 [T.int 0,.int 32768,.int 2147483648,.int 140737488355328,.int 9223372036854775808] wd=some (.int hf)∧32768≤hf∧hf<2^64:=by
   rcases(show wd=1∨wd=2∨wd=3∨wd=4 by lia)with rfl|rfl|rfl|rfl
   ·show⟨32768,rfl,by decide,by decide⟩
   ·show⟨2147483648,rfl,by decide,by decide⟩
   ·show⟨140737488355328,rfl,by decide,by decide⟩
   ·show⟨9223372036854775808,rfl,by decide,by decide⟩
  show B6 g1 hh ?_;left;show Es (cp x0 (by lia) (by decide) (by decide)) ?_;left;show Es (show(0:Int)<2*hf by lia) ?_;left;generalize sd^_=Y3;let y0:0≤Y3%(2*hf):=DN _ (by lia);let y1:Y3%(2*hf)<2*hf:=Dj _ (by lia);generalize Y3%(2*hf)=y at y0 y1 ⊢;clear p2 h2 e2 Γ2 g2 l2
  left;obtain⟨v,hv,v0⟩:∃v:Int,C0 [T.int (-hf),.int (hf-1),.int 0,.int (-1),.int (hf-1),.int (y-hf)] (sd/8%6)=some (.int v)∧v.natAbs<2^100:=by
   rcases(show sd/8%6=0∨sd/8%6=1∨sd/8%6=2∨sd/8%6=3∨sd/8%6=4∨sd/8%6=5 by lia)with e|e|e|e|e|e<;>rw[e]
   ·show⟨_,rfl,by lia⟩
   ·show⟨_,rfl,by lia⟩
   ·show⟨_,rfl,by lia⟩
   ·show⟨_,rfl,by lia⟩
   ·show⟨_,rfl,by lia⟩
   ·show⟨_,rfl,by lia⟩
  show B6 g2 hv ?_;show AD (l1.trans l2) (q _ λ_=>.int v0)
 |text=>
  rw[Kd.tr];left;clear p1 h1 e1 Γ1 g1 l1
  left;obtain⟨nn,xn,hn⟩:∃nn:Nat,C0 [T.int 0,.int 1,.int 2,.int 9,.int 60,.int 60] (sd/8%6)=some (.int nn)∧nn≤60:=by
   rcases(show sd/8%6=0∨sd/8%6=1∨sd/8%6=2∨sd/8%6=3∨sd/8%6=4∨sd/8%6=5 by lia)with e|e|e|e|e|e<;>rw[e]
   ·show⟨0,rfl,by decide⟩
   ·show⟨1,rfl,by decide⟩
   ·show⟨2,rfl,by decide⟩
   ·show⟨9,rfl,by decide⟩
   ·show⟨60,rfl,by decide⟩
   ·show⟨60,rfl,by decide⟩
  show B6 g1 xn ?_;left;show⟨nn,rfl,by lia,by lia,by rw[Iw];show Bu (BU (by lia)),λv6 τ ys Γ'=>∃(lo:Int) (c:Nat) (o:Option T) (ss:List Nat),τ=[o,some (.int sd)]∧v6=EU lo c∧0≤lo∧lo≤nn∧ss.length+c=nn∧lo+c=nn∧ys=ss.map (λc=>T.str ⟨#[c]⟩)∧Γ'=Γ1,?_,?_,?_⟩
  ·show Ψ4 0 nn none [] ⟨rfl,by simp,by lia,by lia,by simp,by lia,rfl,rfl⟩
  ·intro τ ys Γ'⟨lo,c,o,ss,rfl,e,Wv,lo1,sl,_,rfl,rfl⟩
   let hc:=KR e;show⟨trivial,λD hD=>?_⟩;left;show Ψ2 D (ss.map (λc=>(⟨#[c]⟩:Str))) ⟨rfl,rfl,?_,?_,?_,?_⟩
   ·rw[BR BN,FJ];rfl
   ·rw[Ag];lia
   ·intro y hy
    let⟨c,_,rfl⟩:=aap.mp hy;show 1≤1000
    decide
   ·rw[Uq]
    let hl:(S ss).length≤60:=by show ss.toArray.size≤60;simp;lia
    show AD (l1.trans (.new hD)) (q _ λ_=>.str (Ci hl (by decide)))
  ·intro x rr τ ys Γ'⟨lo,c,o,ss,rfl,e,Wv,lo1,sl,lc,rfl,rfl⟩
   let⟨c',rfl,rfl,rfl⟩:=Jb e;left;show Es (cp (by lia) (by lia) (by decide) (by decide)) ?_;left;show⟨_,rfl,?_⟩;show Ψ4 (lo+1) c' _ (ss++[_]) ⟨rfl,rfl,by lia,by lia,by rw[B3];simp;lia,by lia,by rw[Au];rfl,rfl⟩
 |row k=>
  unfold Kd.good at kg;rw[Kd.depth]at kd;rw[Kd.tr];let⟨hd,Zr,ehd⟩:=aaj k;left;show⟨λτ Γ'=>∃sz:Nat,sz≤60∧τ=[some (.tup [.str "row",k.tr]),some (.int sd),none,some (.int sz),none]∧Γ=Γ',?_,?_⟩
  ·left
   let z3:∃sz:Nat,sz≤60∧sd/8%3=sz:=⟨(sd/8%3).toNat,by lia,by lia⟩;let⟨sz,Ve,ez⟩:=z3;rw[ez];show AH (λc=>?_) (λc=>?_)
   ·rw[ehd]
    exists c2
    ·left
     show⟨60,by decide,rfl,rfl⟩
    ·left
     show⟨sz,Ve,rfl,rfl⟩
   ·left
    show⟨sz,Ve,rfl,rfl⟩
  intro τ Γ'⟨sz,Ve,rfl,rfl⟩;left;show⟨(sz:Int),rfl,by lia,by lia,by rw[Iw];show Bu (BU (by lia)),λv6 τ ys Γ'=>∃(lo:Int) (c:Nat) (o:Option T),τ=[o,some (.tup [.str "row",k.tr]),some (.int sd)]∧v6=EU lo c∧0≤lo∧lo≤60∧lo+c≤60∧ys.length+c≤60∧(∀v∈ys,∀Γ,Pb 100 Γ v)∧Γ'=Γ,?_,?_,?_⟩
  ·show Ψ3 0 _ none ⟨rfl,rfl,by lia,by lia,by lia,by simp;lia,(λz hz=>nomatch hz),rfl⟩
  ·intro τ ys Γ'⟨lo,c,o,rfl,e,Wv,lo1,lc,sl,sb,rfl⟩
   let hc:=KR e;show⟨trivial,λD hD=>?_⟩;show GK BN ?_;show AD (.new hD) (q _ λΓ=>.tup (by lia) λt ht=>sb t ht Γ)
  ·intro x rr τ ys Γ'⟨lo,c,o,rfl,e,Wv,lo1,lc,sl,sb,rfl⟩
   let⟨c',rfl,rfl,rfl⟩:=Jb e;left;show Es (.inl ⟨by lia,by lia⟩) ?_;left;show Ψ2 k _ ⟨rfl,kg,by lia,λv pv=>?_⟩;show Ψ3 (lo+1) c' _ ⟨rfl,rfl,by lia,by lia,by lia,by rw[B3];simp;lia,λy hy=>?_,rfl⟩;rcases aaK.mp hy with h|h
   ·show sb y h
   ·rw[aam.mp h];show pv
 |pick fs=>
  unfold Kd.good at kg;rw[Kd.depth]at kd;rw[Kd.tr];left;rw[FW];let f1:=kg.2.1;show Es (show(0:Int)<(fs.length:Nat)by lia) ?_;let r0:0≤sd/8%(fs.length:Int):=DN _ (by lia);let r1:sd/8%(fs.length:Int)<fs.length:=Dj _ (by lia);generalize sd/8%(fs.length:Int)=r at r0 r1 ⊢;obtain⟨j,rfl⟩:∃j:Nat,r=j:=⟨r.toNat,by lia⟩;let hj:j<fs.length:=by lia
  obtain⟨⟨nm,k⟩,hp⟩:∃p,fs[j]?=some p:=⟨fs[j],by simp[hj]⟩;show Gl (O0 hp) ?_;let km:=IT hp;let dk:k.depth≤E9 fs:=JH km;left;show Ψ2 k _ ⟨rfl,MW kg.1 km,by lia,λv pv=>?_⟩;left;show AD .refl (q _ λΓ=>.tup (by decide:2≤100) λt ht=>?_);rcases aaf.mp ht with rfl|ht
  ·show .str (Ci (fT kg.1 km).2.1 (by decide))
  ·rw[aam.mp ht];show pv Γ
 |rec_ fs=>
  unfold Kd.good at kg;rw[Kd.depth]at kd;rw[Kd.tr];left;rw[FW];let f6:=kg.2.2.1;show⟨fs.length,rfl,by lia,by lia,by rw[Iw];show Bu (BU (by lia)),λv6 τ ys Γ'=>∃(lo c:Nat) (o:Option T),τ=[o,some (.int sd),some (.tup [.str "rec",.tup (Br fs)])]∧v6=EU lo c∧lo+c=fs.length∧ys.length=lo∧(∀v∈ys,∀Γ,Pb 100 Γ v)∧Γ'=Γ,?_,?_,?_⟩
  ·show Ψ3 0 _ none ⟨rfl,rfl,by simp,rfl,(λz hz=>nomatch hz),rfl⟩
  ·intro τ ys Γ'⟨lo,c,o,rfl,e,lc,sl,sp,rfl⟩
   let hc:=KR e;show⟨trivial,λD hD=>?_⟩;show GK BN ?_;show AD (.new hD) (q _ λΓ=>.tup (by lia) λt ht=>sp t ht Γ)
  ·intro x rr τ ys Γ'⟨lo,c,o,rfl,e,lc,sl,sp,rfl⟩
   let⟨c',rfl,rfl,rfl⟩:=Jb e;let hj:lo<fs.length:=by lia
   obtain⟨⟨nm,k⟩,hp⟩:∃p,fs[lo]?=some p:=⟨fs[lo],by simp[hj]⟩;let km:=IT hp;let dk:k.depth≤E9 fs:=JH km;left;show Gl (O0 hp) ?_;left;show Es (.inr ⟨by lia,by lia⟩) ?_;left;show Ψ2 k _ ⟨rfl,MW kg.1 km,by lia,λv pv=>?_⟩;show Ψ3 (lo+1) c' _ ⟨rfl,rfl,by lia,by rw[B3];simp;lia,λy hy=>?_,rfl⟩;rcases aaK.mp hy with h|h
   ·show sp y h
   ·rw[aam.mp h];show pv
def dM(F:cH K "_law_worth" "_law_worth" Ot f fd)(m:mg "_law_worth" = some (.ref f))(kp:W.keepIn K (.ref f)=true)(b:Binds K fd ["kind","seed"] [])(C1:Ab P w K mg am "_law_sign" 1 ["number"] Ki)(bJ:mg "range" = none)(aB:mg "tuple" = none)(aC:mg "len" = none):
  ∀n:Nat,Ab P w K mg am "_law_worth" (n+1) ["kind","seed"] (N2 n)
 |0=>Ψ2 f fd ⟨KL λts Γ Z Y h=>by obtain⟨k,_,_,_,h,_⟩:=h;lia,m,kp,b⟩
 |n+1=>Ψ2 f fd ⟨pj F (dM F m kp b C1 bJ aB aC n) C1 (by lia) bJ aB aC,m,kp,b⟩
end
@[reducible]def nY:Str := "y"
@[reducible]def Cj:Str := "x"
@[reducible]def FQ:Str×Kd:=(nY,.text)
abbrev Ee(k v:T):T:=.tup [.str "new",.str "x",k,v]
abbrev Rl(o:T):List T:=[o,.tup [.str "try",.tup [],.tup [o]],.tup [.str "same",.str "y",.str "y",.tup [],.tup [o]],.tup [.str "try",.tup [o],.tup []],.tup [.str "say",.str "y"]]
abbrev GR(sx:Int)(k v:T):T:=.tup [.str "x",.int sx,k,v]
abbrev FD(s:T):T:=.tup [.tup [.str "new",.str "y",.tup [.str "text"],.str "a"],s]
abbrev Hm(sd:Int):T:=.tup [.str "d",.int sd,.tup [],.non]
abbrev TC(sh:T):List T:=[.tup [],.tup [sh],.tup [.tup [.str "z",.int 0,.tup [.str "text"],.str ""],sh]]
abbrev Kl(sd:Int)(b:T):List T:=[.tup [.tup [Hm sd,b]],.tup [.tup [.tup [.str "e",.int 0,.tup [],.non],.tup []],.tup [Hm sd,b]]]
inductive HI(k v:T)(sx:Int):T→T→Prop
 |a0:HI k v sx (Ee k v) (.tup [])
 |a1:HI k v sx (.tup [.str "try",.tup [],.tup [Ee k v]]) (.tup [])
 |a2:HI k v sx (.tup [.str "same",.str "y",.str "y",.tup [],.tup [Ee k v]]) (.tup [])
 |a3:HI k v sx (.tup [.str "try",.tup [Ee k v],.tup []]) (.tup [])
 |b:HI k v sx (.tup [.str "say",.str "y"]) (.tup [GR sx k v])
 |c:HI k v sx (.tup [.str "say",.str "y"]) (.tup [.tup [.str "z",.int 0,.tup [.str "text"],.str ""],GR sx k v])
abbrev iG(Γ:AU)(t:T)(sF:Bool):Prop:=(Pt Γ t∧je t∧Hh t=false∧sF=false)∨∃(ds:List Dr) (hs:List Sh),t=IF ds hs∧ds.length≤900∧hs.length≤4∧(∀d∈ds,d.Ok)∧(∀s∈hs,s.Ok)∧(∀d∈ds,CP d.b≤90000)∧MM ds hs=sF
def jo:Nm "d" := Lw (by done)
def aO:Nm "e" := Lw (by done)
def NG:Nm "x" := Lw (by done)
def Ll:Nm "y" := Lw (by done)
def jN:Nm "z" := Lw (by done)
def IM:Pt Γ (.tup []):=.tup (by simp) λt m=>by cases m
def JF{a:T}(h:Pt Γ a):Pt Γ (.tup [a]):=.tup (by simp) λt m=>by rw[aam]at m;rw[m];show h
def tg2{a c d e:T}(h:Pt Γ a)(h':Pt Γ b)(h2:Pt Γ c)(h3:Pt Γ d)(h4:Pt Γ e):Pt Γ (.tup [a,b,c,d,e]):=.tup (by simp) λt m=>by
 simp only[aaf,CD,DH]at m;rcases m with rfl|rfl|rfl|rfl|rfl<;>assumption
def ps(h:Nm z):Pt Γ (.str z):=.str (by have:=h.2.1;lia)
section
variable {Γ: AU}{k v s hh: T}{sx sd: Int}
def ada(pk:Pt Γ k)(pv:Pt Γ v):Pt Γ (Ee k v):=Ge (.str (by done)) (ps NG) pk pv
def qj(pk:Pt Γ k)(pv:Pt Γ v)(h:HI k v sx s hh):Pt Γ s∧Pt Γ hh:=by
 let o:=ada pk pv;let sh:Pt Γ (GR sx k v):=Ge (ps NG) (.int _) pk pv;cases h with
 |a0=>show⟨o,IM⟩
 |a1=>show⟨Pk (.str (by done)) IM (JF o),IM⟩
 |a2=>show⟨tg2 (.str (by done)) (ps Ll) (ps Ll) IM (JF o),IM⟩
 |a3=>show⟨Pk (.str (by done)) (JF o) IM,IM⟩
 |b=>show⟨EG (.str (by done)) (ps Ll),JF sh⟩
 |c=>show⟨EG (.str (by done)) (ps Ll),EG (Ge (ps jN) (.int _) (JF (.str (by done))) (.str (by done))) sh⟩
def XY(h:(B2 5 k&&EW k v)=false):DV bd (Ee k v)=false:=by
 unfold Ee;rw[iJ,QR,h,Er]
def tT(h:(B2 5 k&&EW k v)=false)(sk:HI k v sx s hh):DV (CO 3) s=false∨∃hs,hh=.tup hs∧hs.all Gn=false:=by
 let o:CO 3 (.tup [Ee k v])=false:=by rw[L5,F4,XY h,CZ]
 let sh:Gn (GR sx k v)=false:=by
  show(As _&&(GB _&&(B2 5 k&&EW k v)))=false
  rw[h,Er,Er]
 cases sk with
 |a0=>show .inl (XY h)
 |a1=>show .inl (by rw[Vm,o,Er])
 |a2=>show .inl (by rw[XK,o,Er,Er,Er])
 |a3=>show .inl (by rw[Vm,o,CZ])
 |b=>show .inr ⟨_,rfl,by rw[F4,sh,CZ]⟩
 |c=>show .inr ⟨_,rfl,by rw[F4,F4,sh,CZ,Er]⟩
def Yu(n:Nm z)(h:sd=0∨sd=1):(⟨z,sd,[],none⟩:Pr).Ok:=⟨n,h,λq m=>(nomatch m),by simp,by simp,λk e=>(nomatch e)⟩
def VW{b:List Sm}:It Ps hs ⟨z,sd,[],none⟩ b=(BK Ps none [] b (DB hs sd)).1:=by
 unfold It;simp
def cJ:([FQ]:ad).lookup nY=some .text:=by rw[HA,Nk]
def jg:(Sm.new nY .text (.str "a")).sz=1:=by unfold Sm.sz;rfl
def zb(x:Str):IY [] x=true:=rfl
def aI{x:Str}{k:Kd}(h:ks.lookup x=none):Fb [] ks x k=(true,ks++[(x,k)]):=by
 unfold Fb;rw[Aa (zb x),h]
def Wy{s:Sm}(h:ks.lookup nY=none):(BK Ps none [] [.new "y" .text (.str "a"),s] ks).1=(gd Ps none [] s (ks++[FQ])).1:=by
 let e:gd Ps none [] (.new "y" .text (.str "a")) ks=(true,ks++[FQ]):=by rw[gd];show aI h
 rw[BK,e,Aa rfl,BK];by_cases c:(gd Ps none [] s (ks++[FQ])).1=true
 ·rw[Aa c,BK,c]
 ·rw[AV c];show(by simpa using c:(gd Ps none [] s (ks++[FQ])).1=false).symm
structure Good(Ps:List (Str×Pr))(s:Sm)(hs:List Sh):Prop where
 ok:s.Ok
 sz:s.sz≤100
 fm:s.fm 1=true
 hk:∀h∈hs,h.Ok
 hw:hs.all (λs=>BQ s.k s.w)=true
 hn:(hs.map λs=>(s.nm,s.sd)).Nodup
 hl:hs.length≤4
 ny:∀sd,(DB hs sd).lookup nY=none
 gd:∀sd,(gd Ps none [] s (DB hs sd++[FQ])).1=true
def Q9:gd Ps none [] (.new "x" kk v) [FQ]=(true,[FQ,(Cj,kk)]):=by
 rw[gd];show aI (by done)
mutual
theorem Q3:∀{k:Kd} {v:T},k.good→BQ k v=true→∀Γ:AU,Pt Γ v
 |.num w,v,g,h,Γ=>by
  rw[BQ]at h;cases v with
  |int i=>show .int i
  |_=>cases h
 |.text,v,g,h,Γ=>by
  rw[BQ]at h;cases v with
  |str z=>
   let h:(decide (z.length≤60)&&_)=true:=h;rw[Cq]at h;show .str (Ci (Bd h.1) (by decide))
  |_=>cases h
 |.row k,v,g,h,Γ=>by
  unfold Kd.good at g;cases v with
  |tup ts=>
   rw[BQ,Cq]at h;show .tup (Ci (Bd h.1) (by decide)) λt m=>Q3 g (aaW.mp h.2 t m) Γ
  |_=>unfold BQ at h;cases h
 |.rec_ fs,v,g,h,Γ=>by
  unfold Kd.good at g;cases v with
  |tup ts=>
   rw[BQ,Cq]at h;let hl:=Bd h.1;show .tup (by have:=g.2.2.1;lia) (hZ g.1 h.2 hl Γ)
  |_=>unfold BQ at h;cases h
 |.pick fs,v,g,h,Γ=>by
  unfold Kd.good at g;cases v with
  |tup ts=>
   by_cases l2:ts.length=2
   ·match ts,l2 with
    |[a,b],_=>
     cases is:isStr a with
     |false=>rw[Uh is]at h;cases h
     |true=>
      let⟨z,rfl⟩:=HL is;rw[Sa]at h;let o:=X6 g.1 h;show EG (.str (by have:=o.1;lia)) (o.2 Γ)
   ·rw[Qh l2]at h;cases h
  |_=>unfold BQ at h;cases h
theorem hZ:∀{fs:List (Str×Kd)} {ts:List T},D4 fs→GL fs ts=true→ts.length=fs.length→∀(Γ:AU),∀t∈ts,Pt Γ t
 |[],ts,g,h,l,Γ,t,m=>by
  have:ts=[]:=List.length_eq_zero_iff.mp l;rw[this]at m;cases m
 |(n,k)::fs,[],g,h,l,Γ,t,m=>by cases m
 |(n,k)::fs,u::ts,g,h,l,Γ,t,m=>by
  unfold D4 at g;rw[GL,Cq]at h;rcases aaf.mp m with e|m
  ·rw[e];show Q3 g.2.1 h.1 Γ
  ·show hZ g.2.2 h.2 (by simpa using l) Γ t m
theorem X6:∀{fs:List (Str×Kd)} {n:Str} {x:T},D4 fs→FO fs n x=true→n.length≤8∧∀Γ:AU,Pt Γ x
 |[],n,x,g,h=>by rw[FO]at h;cases h
 |(m,k)::fs,n,x,g,h=>by
  unfold D4 at g;rw[FO,Nu,Cq]at h;rcases h with h|h
  ·let e:=Bd h.1
   show⟨by rw[←e];show g.1.2.1,Q3 g.2.1 h.2⟩
  ·show X6 g.2.2 h
end
def iU(kg:kk.good)(kd:kk.depth≤5)(hw:BQ kk v=true)(hx:sx=0∨sx=1)(sk:HI kk.tr v sx s hh):∃(sm:Sm) (hs:List Sh),s=sm.tr∧hh=.tup (hs.map Sh.tr)∧Good Ps sm hs:=by
 let pv:=Q3 kg hw;let no:(Sm.new Cj kk v).Ok:=by unfold Sm.Ok;show⟨by done,kg,kd,pv⟩
 let nf:∀d,(Sm.new Cj kk v).fm d=true:=λd=>by unfold Sm.fm;rw[hw,show EB Cj=true from L8 NG];rfl
 let hy:EB nY=true:=L8 Ll;let ly:nY.length≤1000:=by done
 let a0:∀sd,(DB [] sd).lookup nY=none:=λ_=>rfl;let h0:∀h∈([]:List Sh),h.Ok:=λh m=>(nomatch m);let f2:DL [Sm.new Cj kk v] 2=true:=by rw[DL,DL,nf];rfl
 let so:(⟨Cj,sx,kk,v⟩:Sh).Ok:=⟨NG,hx,⟨kg,kd⟩,pv⟩;let sy:(Sm.say nY).Ok:=by unfold Sm.Ok;show ly
 let ar:∀(hs:List Sh) (sd:Int),(∀h∈hs,h.nm≠nY)→(DB hs sd).lookup nY=none:=λhs sd h=>iw.mpr λm=>by
  unfold DB at m;rw[FJ]at m;let⟨x,hx,e⟩:=aap.mp m;show h x (abQ.mp hx).1 e
 let gs:∀(hs:List Sh) (sd:Int),(DB hs sd).lookup nY=none→(gd Ps none [] (.say nY) (DB hs sd++[FQ])).1=true:=λhs sd h=>by
  rw[gd,bI,h];show((none:Option Kd).or (([FQ]:List (Str×Kd)).lookup nY)).isSome=true
  rw[cJ];rfl
 let xy:Cj≠nY:=by done
 let zy:("z" : Str)≠nY:=by done
 cases sk with
 |a0=>show Ψ2 (.new Cj kk v) [] ⟨by rw[Sm.tr];rfl,rfl,no,by unfold Sm.sz;decide,nf 1,h0,rfl,by simp,by simp,a0,λ_=>by show(gd Ps none [] (.new Cj kk v) [FQ]).1=true;rw[Q9]⟩
 |a1=>show Ψ2 (.tri [] [.new Cj kk v]) [] ⟨by rw[Sm.tr,C6,C6,C6,Sm.tr];rfl,rfl,by unfold Sm.Ok DD DD;show⟨by simp,by simp,trivial,no,trivial⟩,by unfold Sm.sz CP CP Sm.sz;decide,by unfold Sm.fm;rw[f2,DL];rfl,h0,rfl,by simp,by simp,a0,λ_=>by show(gd Ps none [] (.tri [] [.new Cj kk v]) [FQ]).1=true;rw[gd,BK,Aa rfl,BK,Q9,Aa rfl,BK]⟩
 |a2=>show⟨.same nY nY [] [.new Cj kk v],[],by rw[Sm.tr,C6,C6,C6,Sm.tr];rfl,rfl,by unfold Sm.Ok DD DD;show⟨ly,ly,by simp,by simp,trivial,no,trivial⟩,by unfold Sm.sz CP CP Sm.sz;decide,by unfold Sm.fm;rw[f2,DL,hy];rfl,h0,rfl,by simp,by simp,a0,λ_=>by
   show(gd Ps none [] (.same nY nY [] [.new Cj kk v]) [FQ]).1=true
   rw[gd,cJ];dsimp only;rw[bF,Aa rfl,BK,Aa rfl,BK,Q9,Aa rfl,BK]⟩
 |a3=>show⟨.tri [.new Cj kk v] [],[],by rw[Sm.tr,C6,C6,C6,Sm.tr];rfl,rfl,by unfold Sm.Ok DD DD;show⟨by simp,by simp,⟨no,trivial⟩,trivial⟩,by unfold Sm.sz CP CP Sm.sz;decide,by unfold Sm.fm;rw[f2,DL];rfl,h0,rfl,by simp,by simp,a0,λ_=>by
   let e:BK Ps none [] [.new Cj kk v] [FQ]=(true,[FQ,(Cj,kk)]):=by rw[BK,Q9,Aa rfl,BK]
   show(gd Ps none [] (.tri [.new Cj kk v] []) [FQ]).1=true
   rw[gd,e,Aa rfl,BK]⟩
 |b=>
  let n:∀h∈[(⟨Cj,sx,kk,v⟩:Sh)],h.nm≠nY:=λh m=>by rw[aam]at m;rw[m];show xy
  show Ψ2 (.say nY) [⟨Cj,sx,kk,v⟩] ⟨by rw[Sm.tr],rfl,sy,by unfold Sm.sz;decide,by unfold Sm.fm;show hy,λh m=>by rw[aam]at m;rw[m];show so,by rw[F4,hw];rfl,by simp,by simp,λsd=>ar _ sd n,λsd=>gs _ sd (ar _ sd n)⟩
 |c=>
  let n:∀h∈[(⟨"z",0,.text,.str ""⟩:Sh),⟨Cj,sx,kk,v⟩],h.nm≠nY:=λh m=>by
   rcases aaf.mp m with e|m
   ·rw[e];show zy
   ·rw[aam]at m;rw[m];show xy
  let zo:(⟨"z",0,.text,.str ""⟩:Sh).Ok:=⟨jN,.inl rfl,⟨by unfold Kd.good;trivial,by rw[Kd.depth];decide⟩,λ_=>.str (by done)⟩;show Ψ2 (.say nY) ([⟨"z",0,.text,.str ""⟩,⟨Cj,sx,kk,v⟩]) ⟨by rw[Sm.tr],?_,sy,by unfold Sm.sz;decide,by unfold Sm.fm;show hy,λh m=>?_,?_,?_,by simp,λsd=>ar _ sd n,λsd=>gs _ sd (ar _ sd n)⟩
  ·simp only[CT,GD,Sh.tr,Kd.tr];rfl
  ·rcases aaf.mp m with e|m
   ·rw[e];show zo
   ·rw[aam]at m;rw[m];show so
  ·rw[F4,F4,hw];done
  ·have:("z" : Str)≠Cj:=by done
   simp[this]
def jj{sm:Sm}(g:Good Ps sm hs)(hd:sd=0∨sd=1):(⟨⟨"d",sd,[],none⟩,[.new nY .text (.str "a"),sm]⟩:Dr).Ok:=by
 show⟨Yu jo hd,?_,by simp⟩;unfold DD DD DD;show⟨?_,g.ok,trivial⟩;unfold Sm.Ok;show⟨by done,by unfold Kd.good;trivial,by rw[Kd.depth];decide,λ_=>.str (by done)⟩
def we(pk:Pt Γ k)(pv:Pt Γ v)(hx:sx=0∨sx=1)(hd:sd=0∨sd=1)(sk:HI k v sx s hh){d:T}(dm:d∈Kl sd (FD s)):iG Γ (.tup [d,hh]) (B2 5 k&&EW k v):=by
 let eo:(⟨⟨"e",0,[],none⟩,[]⟩:Dr).Ok:=⟨Yu aO (.inl rfl),by unfold DD;trivial,by simp⟩;cases sF:B2 5 k&&EW k v with
 |false=>
  show .inl ?_;let pp:=qj (sx:=sx) pk pv sk;let pb:Pt Γ (FD s):=EG (Ge (.str (by done)) (ps Ll) (JF (.str (by done))) (.str (by done))) pp.1;let pd:Pt Γ (.tup [Hm sd,FD s]):=EG (Ge (ps jo) (.int _) IM .non) pb;let pe:Pt Γ (.tup [.tup [.str "e",.int 0,.tup [],.non],.tup []]):=EG (Ge (ps aO) (.int _) IM .non) IM;let fd:Km (.tup [Hm sd,FD s]):=λx y us d b e=>by cases e;show FI _
  let fe:Km (.tup [.tup [.str "e",.int 0,.tup [],.non],.tup []]):=λx y us d b e=>by cases e;show FI _
  let no:=tT sF sk;let bn:DV (CO 3) s=false→Fw (CO 4) (.tup [Hm sd,FD s])=false:=λh=>by
   show(Jn _&&CO 4 (FD s))=false
   unfold FD;rw[L5,F4,F4,h,CZ,Er,Er]
  let pf:∀ds:List T,.tup [Hm sd,FD s]∈ds→Hh (.tup [.tup ds,hh])=false:=λds m=>by
   rcases no with h|⟨hs,rfl,h⟩
   ·have:ds.all (Fw (CO 4))=false:=by
     cases e:ds.all (Fw (CO 4))with
     |false=>rfl
     |true=>rw[←aaW.mp e _ m];show bn h
    cases hh with
    |tup hs=>show(ds.all (Fw (CO 4))&&hs.all Gn)=false;rw[this];rfl
    |_=>rfl
   ·show(_&&hs.all Gn)=false
    rw[h,Er]
  simp only[Kl,aaf,CD,DH]at dm;rcases dm with rfl|rfl
  ·show⟨EG (JF pd) pp.2,λds hs e d hd'=>by cases e;rw[aam]at hd';rw[hd'];show fd,pf _ (by simp),rfl⟩
  ·show⟨EG (EG pe pd) pp.2,λds hs e d hd'=>by
    cases e;rcases aaf.mp hd' with e|hd'
    ·rw[e];show fe
    ·rw[aam]at hd';rw[hd'];show fd,pf _ (by simp),rfl⟩
 |true=>
  show .inr ?_;rw[Cq]at sF;let⟨kk,rfl,kg,kd⟩:=L6 5 k sF.1;rw[LP]at sF;simp only[Kl,aaf,CD,DH]at dm;let fy:(Sm.new nY .text (.str "a")).fm 1=true:=by unfold Sm.fm;done
  rcases dm with rfl|rfl
  ·let⟨sm,hs,rfl,rfl,g⟩:=iU (Ps:=GA [⟨⟨"d",sd,[],none⟩,[]⟩]) kg kd sF.2 hx sk
   show Ψ2 ([⟨⟨"d",sd,[],none⟩,[.new nY .text (.str "a"),sm]⟩]) hs ⟨?_,by simp,g.hl,λd m=>?_,g.hk,λd m=>?_,?_⟩
   ·unfold IF FD Hm
    simp only[CT,GD,Dr.tr,C6,Sm.tr,Kd.tr,Pr.tr,F6]
   ·rw[aam]at m;rw[m];show jj g hd
   ·rw[aam]at m;rw[m]
    show CP [_,sm]≤90000
    have:=g.sz;rw[CP,CP,CP,jg];lia
   ·unfold MM IG
    show(((_&&DL [_,sm] 1)&&true)&&_&&(decide ([("d" : Str)]).Nodup&&(_&&(It _ _ _ _&&true))))=true
    rw[DL,DL,DL,fy,g.fm,g.hw,BE g.hn,VW];show(BK (GA [⟨⟨"d",sd,[],none⟩,[]⟩]) none [] [.new nY .text (.str "a"),sm] (DB hs sd)).1&&true=true
    rw[Wy (g.ny sd),g.gd sd];rfl
  ·let⟨sm,hs,rfl,rfl,g⟩:=iU (Ps:=GA [⟨⟨"e",0,[],none⟩,[]⟩,⟨⟨"d",sd,[],none⟩,[]⟩]) kg kd sF.2 hx sk
   show Ψ2 ([⟨⟨"e",0,[],none⟩,[]⟩,⟨⟨"d",sd,[],none⟩,[.new nY .text (.str "a"),sm]⟩]) hs ⟨?_,by simp,g.hl,λd m=>?_,g.hk,λd m=>?_,?_⟩
   ·unfold IF FD Hm
    simp only[CT,GD,Dr.tr,C6,Sm.tr,Kd.tr,Pr.tr,F6]
   ·rcases aaf.mp m with e|m
    ·rw[e];show eo
    ·rw[aam]at m;rw[m];show jj g hd
   ·rcases aaf.mp m with e|m
    ·rw[e];show CP []≤_;unfold CP;lia
    ·rw[aam]at m;rw[m]
     show CP [_,sm]≤90000
     have:=g.sz;rw[CP,CP,CP,jg];lia
   ·unfold MM IG
    show(((_&&DL [] 1)&&((_&&DL [_,sm] 1)&&true))&&_&&(decide ([("e" : Str),"d"]).Nodup&&(_&&(It _ _ _ _&&(It _ _ _ _&&true)))))=true
    rw[DL,DL,DL,fy,g.fm,g.hw,BE g.hn,VW,VW,show decide ([("e" : Str),"d"]).Nodup=true by done];show((BK (GA [⟨⟨"e",0,[],none⟩,[]⟩,⟨⟨"d",sd,[],none⟩,[]⟩]) none [] [] (DB hs 0)).1&&((BK (GA [⟨⟨"e",0,[],none⟩,[]⟩,⟨⟨"d",sd,[],none⟩,[]⟩]) none [] [.new nY .text (.str "a"),sm] (DB hs sd)).1&&true))=true
    rw[Wy (g.ny sd),g.gd sd,BK];rfl
end
def MV{b:Nat}(hb:2≤b)(h:Pb b Γ x)(h':Pb b Γ y):Pb b Γ (.tup [x,y]):=.tup hb λt m=>by
 rcases aaf.mp m with rfl|m
 ·show h
 ·rw[aam]at m;rw[m];show h'
mutual
theorem Sf{G0:AU}:∀{k:Kd},k.good→Pb 100 G0 k.tr
 |.num w,g=>by
  unfold Kd.good at g;rw[Kd.tr];show MV (by decide) (.str (by done)) (.int (by lia))
 |.text,g=>by rw[Kd.tr];show .tup (by simp) λt m=>by rw[aam]at m;rw[m];show .str (by done)
 |.row k,g=>by
  unfold Kd.good at g;rw[Kd.tr];show MV (by decide) (.str (by done)) (Sf g)
 |.rec_ fs,g=>by
  unfold Kd.good at g;rw[Kd.tr];show MV (by decide) (.str (by done)) (.tup (by rw[FW];lia) (Up g.1))
 |.pick fs,g=>by
  unfold Kd.good at g;rw[Kd.tr];show MV (by decide) (.str (by done)) (.tup (by rw[FW];lia) (Up g.1))
theorem Up{G0:AU}:∀{fs:List (Str×Kd)},D4 fs→∀t∈Br fs,Pb 100 G0 t
 |[],g,t,h=>by rw[Br]at h;cases h
 |(n,k)::r,g,t,h=>by
  rw[Br]at h;unfold D4 at g;rcases aaf.mp h with rfl|h
  ·show MV (by decide) (.str (by have:=g.1.2.1;lia)) (Sf g.2.1)
  ·show Up g.2.2 t h
end
def MR{c:Int}{i:Nat}(h:i<48):∃x:Int,0≤x∧C0 ((F1 c 48).map T.int) (i:Int)=some (.int x):=by
 let⟨x,hx,_,e⟩:=EV (ns:=F1 c 48) (j:=i) (by rw[Tp];show h);show⟨x,adn x hx,e⟩
section
variable {K: W.Frag}
@[reducible]def V8:Stmt:=B8 88
def bE:B0 ["cell","s","kind","worth","due","one","some","shelf","way","body","paper","shelves","doors"] ["cell"] (An V8):=nofun
abbrev cq:B4:=λts Γ Z _=>∃c:Int,ts=[.int c]∧∀(t:T) (sF:Bool) (Γ':AU),Le Γ Γ'→iG Γ' t sF→Z (.tup [t,.bl sF]) Γ'
def ni(F:cH K "_law_asked" "_law_asked" V8 f fd)(zD:Ab P w K mg am "_law_draws" 1 ["cell","count"] fA)(zC:Ab P w K mg am "_law_names" 2 ["row"] fu)(Bh:Ab P w K mg am "_law_kind" 2 ["row","names","deepest"] eA)(iS:Ab P w K mg am "_law_worth" 8 ["kind","seed"] (N2 7))(pZ:Ab P w K mg am "_law_spoilt" 4 ["thing","s"] Yd)(fC:Ab P w K mg am "_law_is_kind" 13 ["thing","depth"] (M9 6))(eV:Ab P w K mg am "_law_is_worth" 7 ["kind","thing"] (Gm 6))(j4:mg "int" = none)(tj:mg "min" = none)(j3:mg "max" = none):bq P w K mg am Ax 14 f fd ["cell"] (Aw cq):=by
 show B7 F bE (λts Γ Z Y h=>?_) (λcy A outer s H E ts Γ Z Y hr h=>?_)
 ·let⟨_,rfl,_⟩:=h
  rfl
 let⟨c,rfl,q⟩:=h;show⟨_,(A5 (E5 (Ar (i:=1) bE.nd (Aj zD hr (A4 (A3 0) (A4 A7 A9)))))
  (A5 (E5 (Ar (i:=2) bE.nd (Aj Bh hr (A4 (CN Hn (A3 1) (Be A7) (Be (AG C3 A7 (AG HF A7 (AG Bc (AK (A3 1) A7) A7))))) (A4 (Aj zC hr (A4 (CN Hn (A3 1) (Be A7) (Be A7)) A9)) (A4 (AK (CG (A4 A7 (A4 A7 A9))) (IL TT rfl j4 Mi (A4 (CR BI (AG Bc (AG FC (AK (A3 1) A7) A7) A7) A7) A9))) A9))))))
  (A5 (E5 (Ar (i:=3) bE.nd (Aj iS hr (A4 (A3 2) (A4 (AK (A3 1) A7) A9)))))
  (A5 (E5 (Ah (Aq BI (AG Bc (AK (A3 1) A7) A7) A7) (A5 (E5 (Ar (i:=2) bE.nd (Aj pZ hr (A4 (A3 2) (A4 (CN Hn (A3 1) (Be A7) (Be A7)) A9)))))
  AB) (A5 (E5 (Ah (Aq Ii (AG Bc (AK (A3 1) A7) A7) A7) (A5 (E5 (Ar (i:=3) bE.nd (Aj pZ hr (A4 (A3 3) (A4 (CN Hn (A3 1) (Be A7) (Be A7)) A9)))))
  AB) AB))
  AB)))
  (A5 (E5 (Ar (i:=4) bE.nd (CC (Aj fC hr (A4 (A3 2) (A4 A7 A9))) (CM (Aj eV hr (A4 (A3 2) (A4 (A3 3) A9)))))))
  (A5 (E5 (Ar (i:=5) bE.nd (Ay (A4 AP (A4 AP (A4 (A3 2) (A4 (A3 3) A9)))))))
  (A5 (E5 (Ar (i:=6) bE.nd (CG (A4 (A3 5) (A4 (Ay (A4 AP (A4 (Ay A9) (A4 (Ay (A4 (A3 5) A9)) A9)))) (A4 (Ay (A4 AP (A4 AP (A4 AP (A4 (Ay A9) (A4 (Ay (A4 (A3 5) A9)) A9)))))) (A4 (Ay (A4 AP (A4 (Ay (A4 (A3 5) A9)) (A4 (Ay A9) A9)))) (A4 (Ay (A4 AP (A4 AP A9))) A9))))))))
  (A5 (E5 (Ar (i:=7) bE.nd (Ay (A4 AP (A4 (AG Bc (AK (A3 1) A7) A7) (A4 (A3 2) (A4 (A3 3) A9)))))))
  (A5 (E5 (Ar (i:=8) bE.nd (AG Bc (AK (A3 1) A7) A7)))
  (A5 (E5 (Ar (i:=9) bE.nd (Ay (A4 (Ay (A4 AP (A4 AP (A4 (Ay (A4 AP A9)) (A4 AP A9))))) (A4 (AK (A3 6) (Ap (Rz rfl) rfl tj R5 (A4 (A3 8) (A4 A7 A9)))) A9)))))
  (A5 (E5 (Ar (i:=10) bE.nd (Ay (A4 AP (A4 (AG Bc (AG FC (AK (A3 1) A7) A7) A7) (A4 (Ay A9) (A4 Hs A9)))))))
  (A5 (E5 (Ar (i:=11) bE.nd (AK (CG (A4 (Ay A9) (A4 (Ay (A4 (A3 7) A9)) (A4 (Ay (A4 (Ay (A4 AP (A4 A7 (A4 (Ay (A4 AP A9)) (A4 AP A9))))) (A4 (A3 7) A9))) A9)))) (Ap (V3 rfl) rfl j3 Lo (A4 A7 (A4 (AG GI (A3 8) A7) A9))))))
  (A5 (E5 (Ar (i:=12) bE.nd (AK (CG (A4 (Ay (A4 (Ay (A4 (A3 10) (A4 (A3 9) A9))) A9)) (A4 (Ay (A4 (Ay (A4 (Ay (A4 AP (A4 A7 (A4 (Ay A9) (A4 Hs A9))))) (A4 (Ay A9) A9))) (A4 (Ay (A4 (A3 10) (A4 (A3 9) A9))) A9))) A9))) (AG Bc (AG FC (AK (A3 1) A7) A7) A7))))
  (A5 (AJ (Ay (A4 (Ay (A4 (A3 12) (A4 (A3 11) A9))) (A4 (A3 4) A9))))
  AB)))))))))))))),?_⟩
 simp only[Az];let⟨x0,h0,e0⟩:=MR (c:=c) (i:=0) (by decide);let⟨x1,h1,e1⟩:=MR (c:=c) (i:=1) (by decide);let⟨x2,h2,e2⟩:=MR (c:=c) (i:=2) (by decide);let⟨x3,h3,e3⟩:=MR (c:=c) (i:=3) (by decide);let⟨x4,h4,e4⟩:=MR (c:=c) (i:=4) (by decide);let rl:(F1 c 48).length=48:=Tp _ _;let d0:GC c 0=x0:=T.int.inj (FE ((show C0 ((F1 c 48).map T.int) ((0:Nat):Int)=some (.int (GC c 0))by show Ui).symm.trans e0));let d1:GC c 1=x1:=T.int.inj (FE ((show C0 ((F1 c 48).map T.int) ((1:Nat):Int)=some (.int (GC c 1))by show Rr).symm.trans e1));left;show⟨λτ Γ'=>∃(pr:Addr),τ=[some (.int c),some (.ref pr),none,none,none,none,none,none,none,none,none,none,none]∧Le Γ Γ'∧Γ' pr=some (.lst ((F1 c 48).map T.int)),?_,?_⟩
 ·left
  show Ψ2 c 48 ⟨rfl,by decide,λp1 fO=>?_⟩;left;show⟨p1,rfl,.new fO,BN⟩
 intro τ Γ1⟨pr,rfl,le1,gr⟩;left;show⟨λτ Γ'=>∃(k:Kd),τ=[some (.int c),some (.ref pr),some k.tr,none,none,none,none,none,none,none,none,none,none]∧Le Γ1 Γ'∧k.good∧k.depth≤6,?_,?_⟩
 ·left
  rw[d1];show Ψ2 pr _ ⟨rfl,gr,λp1 fO=>?_⟩;rw[Gj];revert p1 fO f1 Γ2 g1 l1
  left;show Ψ2 pr _ ⟨rfl,l1 _ _ gr,λp2 rB=>?_⟩;rw[Gj];revert p2 rB f2 Γ3 g2 l2
  left;show Ψ2 p2 _ ⟨rfl,g2,?_,λss p3 ls nm nd AZ=>?_⟩
  ·rw[K9 (by decide) (by decide),EH,ET,rl];rfl
  revert p3 AZ f3 Γ4 g3 l3
  left;clear p4 SJ f4 Γ5 g4 l4
  left;let UH:=l1.trans (l2.trans (l3.trans l4));show B6 (UH _ _ gr) e0 ?_;left;show⟨_,rfl,?_⟩;obtain⟨D,eD,hD⟩:∃D:Int,C0 [T.int 5,.int 6] (if decide (V.int (x0/9%8)=V.int 5)=true then(1:Int)else 0)=some (.int D)∧(D=5∨D=6):=by
   by_cases cc:decide (V.int (x0/9%8)=V.int 5)=true
   ·rw[Aa cc];show⟨6,rfl,.inr rfl⟩
   ·rw[AV cc];show⟨5,rfl,.inl rfl⟩
  show B6 g4 eD ?_;left;let Xn:(Bb (F1 c 48) (some 36) (some (38+2*(x1%6)))).length=2+2*(x1%6).toNat:=by
   rw[K9 (by decide) (by lia),EH,ET,rl];show min ((38+2*(x1%6)).toNat-36) (48-36)=_
   lia
  show Ψ5 p1 p3 D _ ss ⟨rfl,l4 _ _ (l3 _ _ (l2 _ _ g1)),l4 _ _ g3,by lia,by lia,ls,nm,by lia,λk gf kd=>?_⟩;left;show⟨k,rfl,UH,gf.1 nd,by lia⟩
 intro τ Γ2⟨k,rfl,l2,kg,kd⟩;let UT:=l2 _ _ gr;left;show⟨λτ Γ'=>∃(v:T),τ=[some (.int c),some (.ref pr),some k.tr,some v,none,none,none,none,none,none,none,none,none]∧Γ2=Γ'∧(∀Γ,Pb 100 Γ v),?_,?_⟩
 ·left
  show B6 UT e2 ?_;left;show Ψ2 k x2 ⟨rfl,kg,by lia,λv pv=>?_⟩;left;show⟨v,rfl,rfl,pv⟩
 intro τ Γ'⟨v,rfl,rfl,pv⟩;let Zp:(Bb (F1 c 48) (some 9) (some 16)).length=7:=by rw[K9 (by decide) (by decide),EH,ET,rl];rfl
 left;show⟨λτ Γ'=>∃(BJ vT:T),τ=[some (.int c),some (.ref pr),some BJ,some vT,none,none,none,none,none,none,none,none,none]∧Le Γ2 Γ'∧Pt Γ' BJ∧Pt Γ' vT,?_,?_⟩
 ·left
  show AH (λcc=>?_) (λcc=>?_)
  ·left
   show Oj ?_;left;show Ψ2 pr _ ⟨rfl,UT,λp1 fO=>?_⟩;rw[Gj];revert p1 fO f1 Γ3 g1 l1
   left;show Ψ4 100 k.tr p1 _ ⟨rfl,by decide,by decide,Sf kg,g1,Zp,λt' Γ' pt le=>?_⟩;left;show Ψ2 t' v ⟨rfl,l1.trans le,pt.pt (by decide),(pv _).pt (by decide)⟩
  ·show Oj ?_
   exists c2
   ·left
    show Oj ?_;left;show Ψ2 pr _ ⟨rfl,UT,λp1 fO=>?_⟩;rw[Gj];revert p1 fO f1 Γ3 g1 l1
    left;show Ψ4 100 v p1 _ ⟨rfl,by decide,by decide,pv _,g1,Zp,λt' Γ' pt le=>?_⟩;left;show Ψ2 k.tr t' ⟨rfl,l1.trans le,JU kg,pt.pt (by decide)⟩
   ·left
    show Ψ2 k.tr v ⟨rfl,.refl,JU kg,(pv _).pt (by decide)⟩
 intro τ Γ3⟨BJ,vT,rfl,l3,pk,YH⟩;let gr3:=l3 _ _ UT;let le3:=(le1.trans l2).trans l3;left;show⟨λτ Γ'=>τ=[some (.int c),some (.ref pr),some BJ,some vT,some (.bl (B2 5 BJ&&EW BJ vT)),none,none,none,none,none,none,none,none]∧Γ3=Γ',?_,?_⟩
 ·left
  show Ψ2 BJ 1 ⟨rfl,by decide,by decide,pk,?_⟩;rw[show((6:Int)-1).toNat=5 from rfl];left;cases hk:B2 5 BJ with
  |false=>
   left;show⟨rfl,rfl⟩
  |true=>
   let⟨kk,rfl,kkg,kkd⟩:=L6 5 BJ hk;left;show Ψ2 kk vT ⟨rfl,kkg,by lia,YH,?_⟩;left;show⟨by rw[LP];rfl,rfl⟩
 intro τ Γ'⟨rfl,rfl⟩;generalize XO:(B2 5 BJ&&EW BJ vT)=sF;left;show⟨λτ Γ'=>τ=[some (.int c),some (.ref pr),some BJ,some vT,some (.bl sF),some (Ee BJ vT),none,none,none,none,none,none,none]∧Γ3=Γ',?_,?_⟩
 ·left
  show⟨rfl,rfl⟩
 intro τ Γ'⟨rfl,rfl⟩;left;show⟨λτ Γ'=>∃(po:Addr),τ=[some (.int c),some (.ref pr),some BJ,some vT,some (.bl sF),some (Ee BJ vT),some (.ref po),none,none,none,none,none,none]∧Le Γ3 Γ'∧Γ' po=some (.lst (Rl (Ee BJ vT))),?_,?_⟩
 ·left
  intro p1 fO;left;show⟨p1,rfl,Le.new fO,BN⟩
 intro τ Γ4⟨po,rfl,l4,gpo⟩;let US:=l4 _ _ gr3;obtain⟨sx,esx,hsx⟩:∃sx:Int,x3%2=sx∧(sx=0∨sx=1):=⟨_,rfl,by lia⟩;obtain⟨sd,esd,hsd⟩:∃sd:Int,x3/2%2=sd∧(sd=0∨sd=1):=⟨_,rfl,by lia⟩;obtain⟨wy,ewy,hwy⟩:∃wy:Nat,x4%6=wy∧wy<6:=⟨(x4%6).toNat,by lia,by lia⟩;left;show⟨λτ Γ'=>τ=[some (.int c),some (.ref pr),some BJ,some vT,some (.bl sF),some (Ee BJ vT),some (.ref po),some (GR sx BJ vT),none,none,none,none,none]∧Γ4=Γ',?_,?_⟩
 ·left
  show B6 US e3 ?_;left;rw[esx];show⟨rfl,rfl⟩
 intro τ Γ'⟨rfl,rfl⟩;left;show⟨λτ Γ'=>τ=[some (.int c),some (.ref pr),some BJ,some vT,some (.bl sF),some (Ee BJ vT),some (.ref po),some (GR sx BJ vT),some (.int wy),none,none,none,none]∧Γ4=Γ',?_,?_⟩
 ·left
  show B6 US e4 ?_;left;rw[ewy];show⟨rfl,rfl⟩
 intro τ Γ'⟨rfl,rfl⟩;left;show⟨λτ Γ'=>∃st,τ=[some (.int c),some (.ref pr),some BJ,some vT,some (.bl sF),some (Ee BJ vT),some (.ref po),some (GR sx BJ vT),some (.int wy),some (FD st),none,none,none]∧Γ4=Γ'∧(Rl (Ee BJ vT))[min wy 4]?=some st,?_,?_⟩
 ·left
  obtain⟨st,U0⟩:∃st,(Rl (Ee BJ vT))[min wy 4]?=some st:=⟨_,D0 (by show min wy 4<5;lia)⟩;let ei:(if(4:Int)<(wy:Nat)then(4:Int)else(wy:Nat))=((min wy 4:Nat):Int):=by split<;>lia
  show B6 gpo (by rw[ei];show Fv U0) ?_;left;show⟨st,rfl,rfl,U0⟩
 intro τ Γ'⟨st,rfl,rfl,U0⟩;left;show⟨λτ Γ'=>τ=[some (.int c),some (.ref pr),some BJ,some vT,some (.bl sF),some (Ee BJ vT),some (.ref po),some (GR sx BJ vT),some (.int wy),some (FD st),some (Hm sd),none,none]∧Γ4=Γ',?_,?_⟩
 ·left
  show B6 US e3 ?_;left;rw[esd];show⟨rfl,rfl⟩
 intro τ Γ'⟨rfl,rfl⟩;left;show⟨λτ Γ'=>∃hh,τ=[some (.int c),some (.ref pr),some BJ,some vT,some (.bl sF),some (Ee BJ vT),some (.ref po),some (GR sx BJ vT),some (.int wy),some (FD st),some (Hm sd),some hh,none]∧Le Γ4 Γ'∧(TC (GR sx BJ vT))[wy-3]?=some hh,?_,?_⟩
 ·left
  clear p1 fO f1 Γ5 g1 l1
  left;obtain⟨hh,Tt⟩:∃hh,(TC (GR sx BJ vT))[wy-3]?=some hh:=⟨_,D0 (by show wy-3<3;lia)⟩;let ei:(if(0:Int)<(wy:Nat)-3 then((wy:Nat):Int)-3 else 0)=((wy-3:Nat):Int):=by split<;>lia
  show B6 (ts:=TC (GR sx BJ vT)) g1 (by first|(rw[ei];show Fv Tt)|(show C0 _ (if((wy:Nat):Int)-3>0 then _ else _)=_;rw[show(if((wy:Nat):Int)-3>0 then((wy:Nat):Int)-3 else 0)=((wy-3:Nat):Int)from ei];show Fv Tt)) ?_;left;show⟨hh,rfl,l1,Tt⟩
 intro τ Γ5⟨hh,rfl,l5,Tt⟩;let gr5:=l5 _ _ US;left;show⟨λτ Γ'=>∃d,τ=[some (.int c),some (.ref pr),some BJ,some vT,some (.bl sF),some (Ee BJ vT),some (.ref po),some (GR sx BJ vT),some (.int wy),some (FD st),some (Hm sd),some hh,some d]∧Le Γ5 Γ'∧d∈Kl sd (FD st),?_,?_⟩
 ·left
  clear p1 fO f1 Γ6 g1 l1
  left;show B6 (l1 _ _ gr5) e3 ?_;left;let⟨d,ed,dm⟩:=Lj (xs:=Kl sd (FD st)) (r:=x3/4%2) (by lia) (by show _<(2:Int);lia);show B6 (ts:=Kl sd (FD st)) g1 ed ?_;left;show⟨d,rfl,l1,dm⟩
 intro τ Γ6⟨d,rfl,l6,dm⟩;let sk:HI BJ vT sx st hh:=by
  rcases(show wy=0∨wy=1∨wy=2∨wy=3∨wy=4∨wy=5 by lia)with rfl|rfl|rfl|rfl|rfl|rfl<;>(cases U0;cases Tt)
  ·show .a0
  ·show .a1
  ·show .a2
  ·show .a3
  ·show .b
  ·show .c
 let WA:=l4.trans (l5.trans l6);left;show AD .refl (q _ sF Γ6 (le3.trans WA) ?_);rw[←XO];show we (pk.mono WA) (YH.mono WA) hsx hsd sk dm
end
section
variable {K: W.Frag}
@[reducible]def U4:Stmt:=B8 89
def tM:B0 ["script","cell","program","due","found"] ["script"] (An U4):=nofun
abbrev aP(K:W.Frag):B4:=λts Γ Z _=>∃(a:Addr) (ns:List Int),ts=[.scr K a (ns.map T.int)]∧ns.length≤63∧∀Γ',Z (.bl true) Γ'
def adE(F:cH K "law" "law" U4 f fd)(zE:Ab P w K mg am "_law_asked" 14 ["cell"] cq)(xW:Ab P w K mg am "is_program" 41 ["thing"] iR)
  (aC:mg "len" = none) (ai:mg "isinstance" = none) (kc:mg "bool" = none):bq P w K mg am Ax 42 f fd ["script"] (Aw (aP K)):=by
 show B7 F tM (λts Γ Z Y h=>?_) (λcy A outer s H E ts Γ Z Y hr h=>?_)
 ·let⟨a,ns,rfl,_⟩:=h
  rfl
 let⟨a,cs,rfl,ZI,q⟩:=h;show⟨_,(A5 (GS Gh rfl (K1 (AG IB (CG (A4 (Ap rn rfl aC BD (A4 (A3 0) A9)) A9)) (CN tK (A3 0) DE (Be A7)))) (B5 (i:=1) tM.nd) (A5 (Fl (Aj zE hr (A4 (A3 1) A9)) (Cg (n:=2) rfl (Ak (B5 (i:=2) tM.nd) (Ak (B5 (i:=3) tM.nd) CW))))
  (A5 (Ar (i:=4) tM.nd (Aj xW hr (A4 (A3 2) A9)))
  (A5 (Ah (PW.pt (By (BL (BG (C5 rfl ai rfl kc RZ (A3 4)))) (Cu (Aq EF (A3 4) (A3 3))))) (A5 (AJ BH)
  AB) AB)
  AB))))
  (A5 (AJ BH)
  AB)),?_⟩
 simp only[Az];left;show Ψ2 a _ ⟨rfl,?_⟩;rw[Ag];left;clear p1 fO e1 Γ8 g1 l1
 left;show Ψ2 a _ ⟨rfl,λp2 rB=>?_⟩;revert p2 rB e2 Γ9 g2 l9
 rw[Gj]at g2;let Xn:(Bb cs none (some 30)).length≤cs.length:=by
  unfold Bb;rw[EH,ET];lia
 show Ψ4 p1 p2 _ _ ⟨rfl,rfl,l9 _ _ g1,g2,by rw[Ag,Dd];show 1+_≤_;lia,λp3 AZ=>?_⟩;revert p3 AZ e3 Γ10 g3 Oc
 let g3:Γ10 p3=some (.lst (((cs.length:Int)::Bb cs none (some 30)).map T.int)):=g3;generalize ((cs.length:Int)::Bb cs none (some 30))=ds at g3;show Ψ2 p3 _ ⟨rfl,BR g3,?_⟩;show⟨λv6 τ Γ'=>∃(rs:List Int) (o1 o2 o3 o4:Option T),v6=rs.map T.int∧τ=[some (.scr K a (cs.map T.int)),o1,o2,o3,o4]∧Γ' p3=some (.lst (ds.map T.int)),Ψ5 ds none none none none ⟨rfl,rfl,g3⟩,?_,?_⟩
 ·intro τ Γ'⟨rs,o1,o2,o3,o4,er,rfl,Th⟩
  show⟨BR Th,?_⟩;left;show AD .refl (q _)
 intro x rr τ Γ'⟨rs,o1,o2,o3,o4,er,rfl,Th⟩;cases rs with
 |nil=>cases er
 |cons c rs=>
 cases er;show⟨BR Th,?_⟩;left;show⟨c,rfl,λt sF Γ2 le aq=>?_⟩;left;show⟨t,rfl,?_⟩;rcases aq with⟨pt,fw,pf,rfl⟩|⟨ds',hs,et,h1,h2,h3,h4,h5,ed⟩
 ·show .inl ⟨pt,fw,pf,?_⟩
  left;show BP (Ng (.bl _)) ?_;left;show Ψ2 (.bl false) (.bl false) ⟨rfl,rfl,rfl,?_⟩;left;show Ψ5 rs _ _ _ _ ⟨rfl,rfl,le _ _ Th⟩
 ·show .inr ⟨ds',hs,et,h1,h2,h3,h4,h5,?_⟩
  rw[ed];left;show BP (Ng (.bl _)) ?_;left;show Ψ2 (.bl sF) (.bl sF) ⟨rfl,rfl,rfl,?_⟩;left;show Mf (by rw[BE rfl];rfl) ?_;left;show Ψ5 rs _ _ _ _ ⟨rfl,rfl,le _ _ Th⟩
def jv{f1 f2:Addr}{xD A8:FuncData}(F:cH K "is_kind_within" "is_kind_within" PY f fd)(m:mg "is_kind_within" = some (.ref f))(kp:W.keepIn K (.ref f)=true)(b:Binds K fd ["thing","depth"] [])
  (uM:cH K "is_field" "is_field" QE f1 xD) (ud:mg "is_field" = some (.ref f1)) (rp:W.keepIn K (.ref f1)=true) (uJ:Binds K xD ["thing","depth"] [])
  (ql:cH K "are_fields" "are_fields" Nl f2 A8) (pI:mg "are_fields" = some (.ref f2)) (nM:W.keepIn K (.ref f2)=true) (qf:Binds K A8 ["thing","depth"] [])
  (C1:Ab P w K mg am "is_whole" 1 ["thing"] Fm) (C2:Ab P w K mg am "is_name" 1 ["thing"] Hq) (fb:mg "WIDEST_NUM" = some v1) (ja:DU v1 (.int 4)) (eF:mg "MOST_FIELDS" = some v2) (iI:DU v2 (.int 6)) (ai:mg "isinstance" = none) (aB:mg "tuple" = none) (bK:mg "str" = none) (aC:mg "len" = none) (bx:mg "all" = none) :
  ∀n:Nat,Ab P w K mg am "is_kind_within" (3*n+1) ["thing","depth"] (MF n)
 |0=>Ψ2 f fd ⟨KL λts Γ Z Y h=>by obtain⟨_,d,_,h,_⟩:=h;lia,m,kp,b⟩
 |n+1=>by
  let c:=jv F m kp b uM ud rp uJ ql pI nM qf C1 C2 fb ja eF iI ai aB bK aC bx n;let c1:Ab P w K mg am "is_field" (3*n+2) ["thing","depth"] (Tv n):=Ψ2 f1 xD ⟨aae uM C2 c ai aB aC,ud,rp,uJ⟩;let c2:Ab P w K mg am "are_fields" (3*n+3) ["thing","depth"] (Qz n):=Ψ2 f2 A8 ⟨abS ql eF iI c1 ai aB aC bx,pI,nM,qf⟩;show Ψ2 f fd ⟨by rw[show 3*(n+1)+1=3*n+4 by lia];show mK F fb ja C1 c c2 ai aB bK aC,m,kp,b⟩
def h7{f1:Addr}{xD:FuncData}(F:cH K "_law_is_kind" "_law_is_kind" OZ f fd)(m:mg "_law_is_kind" = some (.ref f))(kp:W.keepIn K (.ref f)=true)(b:Binds K fd ["thing","depth"] [])
  (jR:cH K "_law_are_fields" "_law_are_fields" Nt f1 xD) (jJ:mg "_law_are_fields" = some (.ref f1)) (ju:W.keepIn K (.ref f1)=true) (jQ:Binds K xD ["thing","depth"] [])
  (C1:Ab P w K mg am "_law_whole" 1 ["thing"] Fm) (C2:Ab P w K mg am "_law_is_name" 1 ["thing"] Hq) (ai:mg "isinstance" = none) (aB:mg "tuple" = none) (bK:mg "str" = none) (aC:mg "len" = none) :
  ∀n:Nat,Ab P w K mg am "_law_is_kind" (2*n+1) ["thing","depth"] (M9 n)
 |0=>Ψ2 f fd ⟨KL λts Γ Z Y h=>by obtain⟨_,d,_,_,h,_⟩:=h;lia,m,kp,b⟩
 |n+1=>by
  let c:=h7 F m kp b jR jJ ju jQ C1 C2 ai aB bK aC n;let c1:Ab P w K mg am "_law_are_fields" (2*n+2) ["thing","depth"] (Mz n):=Ψ2 f1 xD ⟨atK jR C2 c ai aB aC,jJ,ju,jQ⟩;show Ψ2 f fd ⟨adh F C1 c c1 ai aB bK aC,m,kp,b⟩
end
def dI{K:W.Frag}{b:Addr}{od:Option Addr}{it:Array Value}{sl:Array (Option Value)}{xs:List V}(l:K.lookup b=some ⟨.type "tuple",od,.seq it n,sl⟩)(z:it.size≤sizeLine)(v:Vals xs it.toList):fo K b xs:=Ψ3 _ _ _ ⟨l,rfl,rfl,z,v⟩
def ML{P:Program}{w:World}{K:W.Frag}{b4 b5 b6 b7 b8 b9 XX XW:Addr}(l:K.lookup a=some ⟨.type "dict",none,.dict es.toArray ep,#[]⟩)(e:sH w es [("new",b0),("copy",b1),("part",b2),("put",b3),("add",b4),("drop",b5),("say",b6),("call",b7),("same",b8),("fail",b9),("try",XX),("back",XW)])(hs:(a==sysModules)=false)
  (k0:fo K b0 ([("name" : Str),("kind" : Str),("worth" : Str)].map V.str)) (k1:fo K b1 ([("name" : Str),("name" : Str)].map V.str)) (k2:fo K b2 ([("name" : Str),("name" : Str),("path" : Str)].map V.str)) (k3:fo K b3 ([("name" : Str),("path" : Str),("name" : Str)].map V.str)) (k4:fo K b4 ([("name" : Str),("path" : Str),("name" : Str)].map V.str)) (k5:fo K b5 ([("name" : Str)].map V.str)) (k6:fo K b6 ([("name" : Str)].map V.str)) (k7:fo K b7 ([("name\x20or\x20none" : Str),("name" : Str),("names" : Str)].map V.str)) (k8:fo K b8 ([("name" : Str),("name" : Str),("body" : Str),("body" : Str)].map V.str)) (k9:fo K b9 ([("fail" : Str)].map V.str)) (k10:fo K XX ([("body" : Str),("body" : Str)].map V.str)) (k11:fo K XW ([("name" : Str)].map V.str)):PU P w K a:=by
 show⟨[b0,b1,b2,b3,b4,b5,b6,b7,b8,b9,XX,XW],rfl,AO l e (show(["new","copy","part","put","add","drop","say","call","same","fail","try","back"]:List Str).Nodup by done) hs,λi z ss b h1 h2=>?_⟩;let hi:i<12:=(aba.mp h1).1;have:i=0∨i=1∨i=2∨i=3∨i=4∨i=5∨i=6∨i=7∨i=8∨i=9∨i=10∨i=11:=by lia
 rcases this with rfl|rfl|rfl|rfl|rfl|rfl|rfl|rfl|rfl|rfl|rfl|rfl<;>(cases h1;cases h2;assumption)
def O8{P:Program}{w:World}{K:W.Frag}(l:K.lookup a=some ⟨.type "dict",none,.dict es.toArray ep,#[]⟩)(e:sH w es [("copy",b0),("give",b1),("lend",b2),("lease",b3)])(hs:(a==sysModules)=false)
  (k0:fo K b0 []) (k1:fo K b1 []) (k2:fo K b2 [.str "give",.str "lease"]) (k3:fo K b3 [.str "give"]):Uj P w K a:=Ψ4 b0 b1 b2 b3 ⟨AO l e (show(["copy","give","lend","lease"]:List Str).Nodup by done) hs,k0,k1,k2,k3⟩
abbrev NV(K:W.Frag):EI:=λvs H Q _=>∃(a:Addr) (ns:List Int),vs=[.ref a]∧Ou H∧lG K H a (ns.map V.int)∧ns.length≤63∧∀H',Q (.bl true) H'
def bT{H:AA}:∀ns:List Int,Rs H (ns.map V.int) (ns.map T.int)
 |[]=>FL
 |n::r=>FU DO (bT r)
def wL{K:W.Frag}(vs:List V)(H:AA)(Q:B1)(E:BS)(h:NV K vs H Q E):Aw (aP K) vs H Q E:=by
 let⟨a,ns,rfl,hO,hS,ZI,q⟩:=h;let sc:KZ K H a (ns.map V.int):=by
  rcases hS with(h|⟨o,h⟩)|h
  ·rcases hO a with z|⟨o,xs,z⟩
   ·rw[h]at z;cases z
   ·rw[h]at z;cases z
  ·show .inl ⟨o,h⟩
  ·show .inr h
 show Ψ4 [.scr K a (ns.map T.int)] (λ_=>none) (λx _=>x=.bl true) (λ_ _=>False) ⟨FU (yM sc (bT ns)) FL,λ_ _ h=>(nomatch h),Ψ2 a ns ⟨rfl,ZI,λ_=>rfl⟩,λv x H' Γ' _ _ r z=>?_,λ_ _ _ _ _ z=>z.elim⟩;subst z;rw[GW r];show q H'
def all_mk{l:W.OpenLaw}{w:World}{K:W.Frag}{h:Heap}{mg:KK}{fa f3 f4 f5 f6 f7 f8 f9 PN PM f12 f13 f14 f15 f16 f17 f18 f19 f20 f21 f22 f23 f24 f25 f26 f27 f28 f29 Z4 Z3 Z2 f33 Z1 Z0 f36 ZZ ZY ZX ZW ZV ZU ZT f44 f45 f46 f47 f48 f49 f50 f51 f52 f53 f54 f55 f56 f57 f58 f59 f60 f61 f62:Addr}{g1 g2 g3 g4 g5 g6 g7 g8 g9 HV Tj Xx Xw Xv g15 g16 g17 g18 g19 g20 g21 g22 Ti g24 g25 g26 g27 g28 g29 g30 g31 g32 g33 g34 g35 g36 g37 g38 g39 g40 g41 g42 g43 g44 g45 g46 g47 g48 g49 g50 g51 g52 g53 g54 g55 g56 g57 g58 g59 g60 g61 ZQ:FuncData}(X:K.In h)(G:h.Ns mainGlobals mg)(hfa:mg "law" = some (.ref fa))
  (d1:Dg K "is_whole" Qr f1 g1) (d2:Dg K "is_name" TY f2 g2) (d3:Dg K "is_kind" Qj f3 g3) (d4:Dg K "is_kind_within" PY f4 g4) (d5:Dg K "are_fields" Nl f5 g5) (d6:Dg K "is_field" QE f6 g6) (d7:Dg K "part_kind" S3 f7 g7) (d8:Dg K "step_kind" R0 f8 g8) (d9:Dg K "field_place" UC f9 g9) (d10:Dg K "is_worth" OC PN HV) (d11:Dg K "is_number" UK PM Tj) (d12:Dg K "is_text" Rj f12 Xx) (d13:Dg K "is_sign" Uz f13 Xw) (d14:Dg K "is_record" My f14 Xv) (d15:Dg K "is_choice" N4 f15 g15) (d16:Dg K "is_paper" VT f16 g16) (d17:Dg K "is_side" RH f17 g17) (d18:Dg K "are_places" Vl f18 g18) (d19:Dg K "is_place" Sn f19 g19) (d20:Dg K "has_program_form" VI f20 g20) (d21:Dg K "is_door" Tr f21 g21) (d22:Dg K "is_shelf" Ss f22 g22) (d23:Dg K "is_body" QF f23 Ti) (d24:Dg K "is_statement" NF f24 g24) (d25:Dg K "is_of_sort" NW f25 g25) (d26:Dg K "is_path" V2 f26 g26) (d27:Dg K "is_program" VQ f27 g27) (d28:Dg K "is_good_door" Qm f28 g28) (d29:Dg K "is_good_body" QQ f29 g29) (d30:Dg K "is_good_new" QD Z4 g30) (d31:Dg K "is_good_copy" OR Z3 g31) (d32:Dg K "is_good_part" Ob Z2 g32) (d33:Dg K "kind_at" VU f33 g33) (d34:Dg K "is_good_put" O3 Z1 g34) (d35:Dg K "is_good_add" Pg Z0 g35) (d36:Dg K "is_good_change" Qe f36 g36) (d37:Dg K "is_good_drop" Nw ZZ g37) (d38:Dg K "is_good_say" Q2 ZY g38) (d39:Dg K "is_good_call" QB ZX g39) (d40:Dg K "is_good_same" Nb ZW g40) (d41:Dg K "is_good_fail" Nf ZV g41) (d42:Dg K "is_good_try" Ow ZU g42) (d43:Dg K "is_good_back" NI ZT g43) (d44:Dg K "_law_draws" Rt f44 g44) (d45:Dg K "_law_word" RB f45 g45) (d46:Dg K "_law_names" VJ f46 g46) (d47:Dg K "_law_fields" TI f47 g47) (d48:Dg K "_law_kind" Qp f48 g48) (d49:Dg K "_law_whole" VK f49 g49) (d50:Dg K "_law_is_name" Qt f50 g50) (d51:Dg K "_law_are_fields" Nt f51 g51) (d52:Dg K "_law_is_kind" OZ f52 g52) (d53:Dg K "_law_sign" TB f53 g53) (d54:Dg K "_law_plain" Ud f54 g54) (d55:Dg K "_law_other_row" Qo f55 g55) (d56:Dg K "_law_other_word" Ri f56 g56) (d57:Dg K "_law_other" Rx f57 g57) (d58:Dg K "_law_spoilt" VE f58 g58) (d59:Dg K "_law_is_worth" Oq f59 g59) (d60:Dg K "_law_worth" Ot f60 g60) (d61:Dg K "_law_asked" V8 f61 g61) (d62:Dg K "law" U4 f62 ZQ)
  (zs:Zs K ["len","range","tuple","isinstance","int","bool","str","all","any","zip","enumerate","dict","ord","min","max","list"])
  {u1:Value} (gk1:W.nsIn K mainGlobals "LETTERS" = some (some u1)) (q1:RelV (.str Ed) u1)
  {u2:Value} (gk2:W.nsIn K mainGlobals "LONGEST_NAME" = some (some u2)) (q2:RelV (.int 8) u2)
  {u3:Value} (gk3:W.nsIn K mainGlobals "WIDEST_NUM" = some (some u3)) (q3:RelV (.int 4) u3)
  {u4:Value} (gk4:W.nsIn K mainGlobals "MOST_FIELDS" = some (some u4)) (q4:RelV (.int 6) u4)
  {u5:Value} (gk5:W.nsIn K mainGlobals "DEEPEST_KIND" = some (some u5)) (q5:RelV (.int 5) u5)
  {u6:Value} (gk6:W.nsIn K mainGlobals "MOST_ITEMS" = some (some u6)) (q6:RelV (.int 60) u6)
  {u7:Value} (gk7:W.nsIn K mainGlobals "WORD_NUMBERS" = some (some u7)) (q7:RelV (.int 65536) u7)
  {u8:Value} (gk8:W.nsIn K mainGlobals "MOST_SIGNS" = some (some u8)) (q8:RelV (.int 60) u8)
  {u9:Value} (gk9:W.nsIn K mainGlobals "FIRST_SIGN" = some (some u9)) (q9:RelV (.int 32) u9)
  {Yt:Value} (gk10:W.nsIn K mainGlobals "LAST_SIGN" = some (some Yt)) (q10:RelV (.int 126) Yt)
  {Ys:Value} (gk11:W.nsIn K mainGlobals "HUNDREDTH_SIGN" = some (some Ys)) (q11:RelV (.int 37) Ys)
  {Yr:Value} (gk12:W.nsIn K mainGlobals "DEEPEST_BODY" = some (some Yr)) (q12:RelV (.int 4) Yr)
  {Yq:Value} (gk13:W.nsIn K mainGlobals "GREATEST_FAIL" = some (some Yq)) (q13:RelV (.int 999) Yq)
  {sY:Addr} (gcNoPart:W.nsIn K mainGlobals "NoPart" = some (some (.ref sY)))
  {cD:Addr} (gcScope:W.nsIn K mainGlobals "Scope" = some (some (.ref cD)))
  (xNoPart:W.excIn K sY [.type "ValueError",.type "Exception",.type "BaseException",.type "object"] "ValueError.__new__" = true)
  (xm:W.exmOne K (.ref sY) (.ref sY)=some true)
  {Bn:Addr} (gSIDES:W.nsIn K mainGlobals "SIDES" = some (some (.ref Bn))) {JP:Option Addr} {xp:Array Value} {JQ:Nat} {ID:Array (Option Value)} (klSIDES:K.lookup Bn=some ⟨.type "tuple",JP,.seq xp JQ,ID⟩) (kzSIDES:xp.size≤sizeLine) (kvSIDES:Vals [.int 0,.int 1] xp.toList)
  {HB:Addr} (gWAYS:W.nsIn K mainGlobals "WAYS" = some (some (.ref HB))) {N0:Option Addr} {AS:Array Value} {N3:Nat} {M0:Array (Option Value)} (klWAYS:K.lookup HB=some ⟨.type "tuple",N0,.seq AS N3,M0⟩) (kzWAYS:AS.size≤sizeLine) (kvWAYS:Vals (kU.map V.str) AS.toList)
  {rG:Addr} (gSTATEMENTS:W.nsIn K mainGlobals "STATEMENTS" = some (some (.ref rG))) (h_ST:PU l.prog w K rG)
  {qi:Addr} (gBARRED_WAYS:W.nsIn K mainGlobals "BARRED_WAYS" = some (some (.ref qi))) (h_BW:Uj l.prog w K qi)
  {HC:Addr} (gRULES:W.nsIn K mainGlobals "RULES" = some (some (.ref HC))) (k_RULES:Cz l.prog w K HC [("new",Z4),("copy",Z3),("part",Z2),("put",Z1),("add",Z0),("drop",ZZ),("say",ZY),("call",ZX),("same",ZW),("fail",ZV),("try",ZU),("back",ZT)])
  {ZR:Addr} {gm1:FuncData} (dm1:LN K cD "__init__" "Scope.__init__" T7 ZR gm1)
  {fm2:Addr} {Tb:FuncData} (dm2:LN K cD "knows" "Scope.knows" Qc fm2 Tb)
  {fm3:Addr} {gm3:FuncData} (dm3:LN K cD "is_own" "Scope.is_own" VN fm3 gm3)
  {fm4:Addr} {gm4:FuncData} (dm4:LN K cD "may_make" "Scope.may_make" VO fm4 gm4)
  {fm5:Addr} {gm5:FuncData} (dm5:LN K cD "may_hand" "Scope.may_hand" Tf fm5 gm5)
  (pgScope:W.plainGet K cD Str.empty=true) (hdScope:W.hasDictIn K cD=true) (poScope:W.plainOver K cD=true) (saScope:W.findIn K (.ref cD) "__setattr__" = some (some (.builtin "object.__setattr__"))) (mkScope:W.makesIn K cD=true) (keScope:W.keepIn K (.ref cD)=true)
  (naScope_papers:W.findIn K (.ref cD) "papers" = some none)
  (naScope_result:W.findIn K (.ref cD) "result" = some none)
  (naScope_ways:W.findIn K (.ref cD) "ways" = some none)
  (naScope_kinds:W.findIn K (.ref cD) "kinds" = some none)
  :
  ∃fd:FuncData,(∀(s:Shared) (v:Value),BindsTo s fd ⟨[v],[]⟩ [("script",v)])∧∀am:Heap,K.In am→am.Ns mainGlobals mg→bq l.prog w K mg am Ax 42 fa fd ["script"] (NV K):=by
 let d1:=d1.df (ps:=["thing"]) X G λ_ _ _ _ _ _=>L3.uO (λ_=>rfl);let d2:=d2.df (ps:=["thing"]) X G λ_ _ _ _ _ _=>L3.uO (λ_=>rfl);let d3:=d3.df (ps:=["thing"]) X G λ_ _ _ _ _ _=>L3.uO (λ_=>rfl);let d4:=d4.df (ps:=["thing","depth"]) X G λ_ _ _ _ _ _=>L3.lM (λ_ _=>rfl);let d5:=d5.df (ps:=["thing","depth"]) X G λ_ _ _ _ _ _=>L3.lM (λ_ _=>rfl);let d6:=d6.df (ps:=["thing","depth"]) X G λ_ _ _ _ _ _=>L3.lM (λ_ _=>rfl);let d7:=d7.df (ps:=["kind","path"]) X G λ_ _ _ _ _ _=>L3.lM (λ_ _=>rfl);let d8:=d8.df (ps:=["kind","step"]) X G λ_ _ _ _ _ _=>L3.lM (λ_ _=>rfl);let d9:=d9.df (ps:=["kind","name"]) X G λ_ _ _ _ _ _=>L3.lM (λ_ _=>rfl);let d10:=d10.df (ps:=["kind","thing"]) X G λ_ _ _ _ _ _=>L3.lM (λ_ _=>rfl);let d11:=d11.df (ps:=["width","thing"]) X G λ_ _ _ _ _ _=>L3.lM (λ_ _=>rfl);let d12:=d12.df (ps:=["thing"]) X G λ_ _ _ _ _ _=>L3.uO (λ_=>rfl);let d13:=d13.df (ps:=["number"]) X G λ_ _ _ _ _ _=>L3.uO (λ_=>rfl);let d14:=d14.df (ps:=["fields","parts"]) X G λ_ _ _ _ _ _=>L3.lM (λ_ _=>rfl);let d15:=d15.df (ps:=["fields","pair"]) X G λ_ _ _ _ _ _=>L3.lM (λ_ _=>rfl);let d16:=d16.df (ps:=["thing"]) X G λ_ _ _ _ _ _=>L3.uO (λ_=>rfl);let d17:=d17.df (ps:=["thing"]) X G λ_ _ _ _ _ _=>L3.uO (λ_=>rfl);let d18:=d18.df (ps:=["thing"]) X G λ_ _ _ _ _ _=>L3.uO (λ_=>rfl);let d19:=d19.df (ps:=["thing"]) X G λ_ _ _ _ _ _=>L3.uO (λ_=>rfl);let d20:=d20.df (ps:=["thing"]) X G λ_ _ _ _ _ _=>L3.uO (λ_=>rfl);let d21:=d21.df (ps:=["thing"]) X G λ_ _ _ _ _ _=>L3.uO (λ_=>rfl);let d22:=d22.df (ps:=["thing"]) X G λ_ _ _ _ _ _=>L3.uO (λ_=>rfl);let d23:=d23.df (ps:=["thing","depth"]) X G λ_ _ _ _ _ _=>L3.lM (λ_ _=>rfl);let d24:=d24.df (ps:=["thing","depth"]) X G λ_ _ _ _ _ _=>L3.lM (λ_ _=>rfl);let d25:=d25.df (ps:=["sort","thing","depth"]) X G λ_ _ _ _ _ _=>L3.K7 (λ_ _ _=>rfl);let d26:=d26.df (ps:=["thing"]) X G λ_ _ _ _ _ _=>L3.uO (λ_=>rfl);let d27:=d27.df (ps:=["thing"]) X G λ_ _ _ _ _ _=>L3.uO (λ_=>rfl);let d28:=d28.df (ps:=["papers","shelves","paper","body"]) X G λ_ _ _ _ _ _=>L3.Yl (λ_ _ _ _=>rfl);let d29:=d29.df (ps:=["scope","body"]) X G λ_ _ _ _ _ _=>L3.lM (λ_ _=>rfl);let d30:=d30.df (ps:=["scope","statement"]) X G λ_ _ _ _ _ _=>L3.lM (λ_ _=>rfl);let d31:=d31.df (ps:=["scope","statement"]) X G λ_ _ _ _ _ _=>L3.lM (λ_ _=>rfl);let d32:=d32.df (ps:=["scope","statement"]) X G λ_ _ _ _ _ _=>L3.lM (λ_ _=>rfl);let d33:=d33.df (ps:=["kind","path"]) X G λ_ _ _ _ _ _=>L3.lM (λ_ _=>rfl);let d34:=d34.df (ps:=["scope","statement"]) X G λ_ _ _ _ _ _=>L3.lM (λ_ _=>rfl);let d35:=d35.df (ps:=["scope","statement"]) X G λ_ _ _ _ _ _=>L3.lM (λ_ _=>rfl);let d36:=d36.df (ps:=["scope","target","name"]) X G λ_ _ _ _ _ _=>L3.K7 (λ_ _ _=>rfl);let d37:=d37.df (ps:=["scope","statement"]) X G λ_ _ _ _ _ _=>L3.lM (λ_ _=>rfl);let d38:=d38.df (ps:=["scope","statement"]) X G λ_ _ _ _ _ _=>L3.lM (λ_ _=>rfl);let d39:=d39.df (ps:=["scope","statement"]) X G λ_ _ _ _ _ _=>L3.lM (λ_ _=>rfl);let d40:=d40.df (ps:=["scope","statement"]) X G λ_ _ _ _ _ _=>L3.lM (λ_ _=>rfl);let d41:=d41.df (ps:=["scope","statement"]) X G λ_ _ _ _ _ _=>L3.lM (λ_ _=>rfl);let d42:=d42.df (ps:=["scope","statement"]) X G λ_ _ _ _ _ _=>L3.lM (λ_ _=>rfl);let d43:=d43.df (ps:=["scope","statement"]) X G λ_ _ _ _ _ _=>L3.lM (λ_ _=>rfl);let d44:=d44.df (ps:=["cell","count"]) X G λ_ _ _ _ _ _=>L3.lM (λ_ _=>rfl);let d45:=d45.df (ps:=["numbers"]) X G λ_ _ _ _ _ _=>L3.uO (λ_=>rfl);let d46:=d46.df (ps:=["row"]) X G λ_ _ _ _ _ _=>L3.uO (λ_=>rfl);let d47:=d47.df (ps:=["kinds","names","number"]) X G λ_ _ _ _ _ _=>L3.K7 (λ_ _ _=>rfl);let d48:=d48.df (ps:=["row","names","deepest"]) X G λ_ _ _ _ _ _=>L3.K7 (λ_ _ _=>rfl);let d49:=d49.df (ps:=["thing"]) X G λ_ _ _ _ _ _=>L3.uO (λ_=>rfl);let d50:=d50.df (ps:=["thing"]) X G λ_ _ _ _ _ _=>L3.uO (λ_=>rfl);let d51:=d51.df (ps:=["thing","depth"]) X G λ_ _ _ _ _ _=>L3.lM (λ_ _=>rfl);let d52:=d52.df (ps:=["thing","depth"]) X G λ_ _ _ _ _ _=>L3.lM (λ_ _=>rfl);let d53:=d53.df (ps:=["number"]) X G λ_ _ _ _ _ _=>L3.uO (λ_=>rfl);let d54:=d54.df (ps:=["number"]) X G λ_ _ _ _ _ _=>L3.uO (λ_=>rfl);let d55:=d55.df (ps:=["node","way","s"]) X G λ_ _ _ _ _ _=>L3.K7 (λ_ _ _=>rfl);let d56:=d56.df (ps:=["node","way","s"]) X G λ_ _ _ _ _ _=>L3.K7 (λ_ _ _=>rfl);let d57:=d57.df (ps:=["node","s"]) X G λ_ _ _ _ _ _=>L3.lM (λ_ _=>rfl);let d58:=d58.df (ps:=["thing","s"]) X G λ_ _ _ _ _ _=>L3.lM (λ_ _=>rfl);let d59:=d59.df (ps:=["kind","thing"]) X G λ_ _ _ _ _ _=>L3.lM (λ_ _=>rfl);let d60:=d60.df (ps:=["kind","seed"]) X G λ_ _ _ _ _ _=>L3.lM (λ_ _=>rfl);let d61:=d61.df (ps:=["cell"]) X G λ_ _ _ _ _ _=>L3.uO (λ_=>rfl);let d62:=d62.df (ps:=["script"]) X G λ_ _ _ _ _ _=>L3.uO (λ_=>rfl);let e:=hfa.symm.trans d62.m;cases e;obtain⟨aC,bJ,aB,ai,j4,kc,bK,bx,oN,eK,lJ,zT,Eh,tj,j3,qp,_⟩:=zs.m X G;show⟨ZQ,λs v=>?_,λam _ _=>?_⟩
 ·let⟨_,_,_,_,_,_,_,_,_,rfl,_⟩:=d62.F.ex
  show .of_eq rfl
 let qJ:=ED X G gk1;let jr:=ED X G gk2;let fb:=ED X G gk3;let eF:=ED X G gk4;let jt:=ED X G gk5;let cU:=ED X G gk6;let jq:=ED X G gk7;let kK:=ED X G gk8;let kL:=ED X G gk9;let mB:=ED X G gk10;let iu:=ED X G gk11;let dQ:=ED X G gk12;let du:=ED X G gk13;let fB:=ED X G gcNoPart;let xg:=ED X G gcScope;let Fm1:=dm1.F;let bm1:=Fm1.binds (ps:=["self","papers","paper","around"]) λ_ _ _ _ _ _=>L3.Yl (λ_ _ _ _=>rfl);let mt1:=dm1.t;let Fm2:=dm2.F;let bm2:=Fm2.binds (ps:=["self","name"]) λ_ _ _ _ _ _=>L3.lM (λ_ _=>rfl);let mt2:=dm2.t;let Fm3:=dm3.F;let bm3:=Fm3.binds (ps:=["self","name"]) λ_ _ _ _ _ _=>L3.lM (λ_ _=>rfl);let mt3:=dm3.t;let Fm4:=dm4.F;let bm4:=Fm4.binds (ps:=["self","name","kind"]) λ_ _ _ _ _ _=>L3.K7 (λ_ _ _=>rfl);let mt4:=dm4.t;let Fm5:=dm5.F;let bm5:=Fm5.binds (ps:=["self","name","place"]) λ_ _ _ _ _ _=>L3.K7 (λ_ _ _=>rfl);let mt5:=dm5.t;let aE:qX K cD:=⟨pgScope,hdScope,poScope,saScope⟩;let Gu:PZ K cD ZR:=⟨mkScope,dm1.t.1,dm1.t.2,keScope⟩;let bY:bW K cD "papers" := naScope_papers;let bX:bW K cD "result" := naScope_result;let bZ:bW K cD "ways" := naScope_ways;let aD:bW K cD "kinds" := naScope_kinds;let xh:=ED X G gSIDES;let xo:fo K Bn [.int 0,.int 1]:=Ψ3 _ _ _ ⟨klSIDES,rfl,rfl,kzSIDES,kvSIDES⟩;let AM:=ED X G gWAYS;let AR:fo K HB (kU.map V.str):=Ψ3 _ _ _ ⟨klWAYS,rfl,rfl,kzWAYS,kvWAYS⟩;let ff:=ED X G gSTATEMENTS;let jX:=ED X G gBARRED_WAYS;let ng:=ED X G gRULES;let C44:=d44.cl (xt (P:=l.prog) (w:=w) (am:=am) d44.F bJ);let C1:=d1.cl (t_c (P:=l.prog) (w:=w) (am:=am) d1.F ai j4 kc);let C2:=d2.cl (pT (P:=l.prog) (w:=w) (am:=am) d2.F jr (gl_int q2) qJ (gl_str q1) ai bK aC bx);let C17:=d17.cl (zm (P:=l.prog) (w:=w) (am:=am) d17.F C1 xh xo);let C45:=d45.cl (rD (P:=l.prog) (w:=w) (am:=am) d45.F);let C46:=d46.cl (se (P:=l.prog) (w:=w) (am:=am) d46.F C45 aC bJ);let C13:=d13.cl (ku (P:=l.prog) (w:=w) (am:=am) d13.F kL (gl_int q9) mB (gl_int q10) iu (gl_int q11));let C11:=d11.cl (acv (P:=l.prog) (w:=w) (am:=am) d11.F C1 jq (gl_int q7) bJ);let C12:=d12.cl (wU (P:=l.prog) (w:=w) (am:=am) d12.F C13 kK (gl_int q8) ai bK aC bx Eh);let C9:=d9.cx (pS (P:=l.prog) (w:=w) (am:=am) d9.F fB xNoPart lJ);let C8:=d8.cx (lL (P:=l.prog) (w:=w) (am:=am) d8.F C1 C9 fB xNoPart cU (gl_int q6));let C7:=d7.cx (ot (P:=l.prog) (w:=w) (am:=am) d7.F C8);let C33:=d33.cl (mv (P:=l.prog) (w:=w) (am:=am) d33.F C7 fB xm);let C26:=d26.cl (rX (P:=l.prog) (w:=w) (am:=am) d26.F C1 ai aB bK bx);let C10:=i9 (P:=l.prog) (w:=w) (am:=am) d10.F d10.m d10.k d10.b d14.F d14.m d14.k d14.b d15.F d15.m d15.k d15.b C11 C12 cU (gl_int q6) ai aB aC bx oN eK bK 6;let Ye:DT l.prog w K mg am cD "knows" _ _ _:=Ψ2 _ _ ⟨xl Fm2 aE aD,aE,mt2,bm2⟩;let Cm3:DT l.prog w K mg am cD "is_own" _ _ _:=Ψ2 _ _ ⟨xC Fm3 aE bZ,aE,mt3,bm3⟩;let Cm4:DT l.prog w K mg am cD "may_make" _ _ _:=Ψ2 _ _ ⟨wN Fm4 aE aD Cm3,aE,mt4,bm4⟩;let Cm5:DT l.prog w K mg am cD "may_hand" _ _ _:=Ψ2 _ _ ⟨sr Fm5 aE aD bZ Ye jX h_BW,aE,mt5,bm5⟩;let Cm1:VB l.prog w K mg am cD _ _ _:=Ψ2 _ _ ⟨vw Fm1 aE bY bX bZ aD zT,Gu,bm1⟩;let C36:=d36.cl (qt (P:=l.prog) (w:=w) (am:=am) d36.F aE bZ Ye);let C29:=aA (P:=l.prog) (w:=w) (am:=am) d29.F d29.m d29.k d29.b d30.F d30.k d30.b d31.F d31.k d31.b d32.F d32.k d32.b d34.F d34.k d34.b d35.F d35.k d35.b d37.F d37.k d37.b d38.F d38.k d38.b d39.F d39.k d39.b d40.F d40.k d40.b d41.F d41.k d41.b d42.F d42.k d42.b d43.F d43.k d43.b k_RULES ng aE aD bY bX Ye Cm3 Cm4 Cm5 C33 C36 aC bx eK 5;let C28:=d28.cl (mH (P:=l.prog) (w:=w) (am:=am) d28.F xg Cm1 C29 oN);let C47:=d47.cl (Key (P:=l.prog) (w:=w) (am:=am) d47.F qp aC aB);let C48:=d48.cl (wF (P:=l.prog) (w:=w) (am:=am) d48.F C47 aC bJ tj j3 j4);let Yg:=d53.cl (ux (P:=l.prog) (w:=w) (am:=am) d53.F);let C54:=d54.cl (rNe (P:=l.prog) (w:=w) (am:=am) d54.F aC);let C55:=d55.cl (vS (P:=l.prog) (w:=w) (am:=am) d55.F C54 j3 aC qp);let C56:=d56.cl (oE (P:=l.prog) (w:=w) (am:=am) d56.F Yg j3 aC);let Yh:=d49.cl (ub (P:=l.prog) (w:=w) (am:=am) d49.F ai j4 kc);let C57:=d57.cl (acr (P:=l.prog) (w:=w) (am:=am) d57.F C54 C55 C56 Yh ai aB bK);let C58:=d58.cl (mi (P:=l.prog) (w:=w) (am:=am) d58.F C57 ai aB aC bJ);let C50:=d50.cl (t_T (P:=l.prog) (w:=w) (am:=am) d50.F ai bK aC);let C59:=cT (P:=l.prog) (w:=w) (am:=am) d59.F d59.m d59.k d59.b Yh Yg ai aB bK aC bx eK bJ 6;let C60:=dM (P:=l.prog) (w:=w) (am:=am) d60.F d60.m d60.k d60.b Yg bJ aB aC 7;let C4:=jv (P:=l.prog) (w:=w) (am:=am) d4.F d4.m d4.k d4.b d6.F d6.m d6.k d6.b d5.F d5.m d5.k d5.b C1 C2 fb (gl_int q3) eF (gl_int q4) ai aB bK aC bx 6;let C52:=h7 (P:=l.prog) (w:=w) (am:=am) d52.F d52.m d52.k d52.b d51.F d51.m d51.k d51.b Yh C50 ai aB bK aC 6;let CJ:=d3.cl (acn (P:=l.prog) (w:=w) (am:=am) d3.F jt (gl_int q5) C4);let C19:=d19.cl (wQ (P:=l.prog) (w:=w) (am:=am) d19.F C2 CJ AM AR ai aB bK aC);let C18:=d18.cl (ac9 (P:=l.prog) (w:=w) (am:=am) d18.F C19 ai aB aC bx);let C16:=d16.cl (oB (P:=l.prog) (w:=w) (am:=am) d16.F C2 C17 C18 CJ ai aB aC);let C23:=Yf (P:=l.prog) (w:=w) (am:=am) d23.F d23.m d23.k d23.b d24.F d24.m d24.k d24.b d25.F d25.m d25.k d25.b C2 C26 CJ C1 C10 du (gl_int q13) dQ (gl_int q12) ff h_ST ai aB bK aC bx eK 6;let C21:=d21.cl (aa4 (P:=l.prog) (w:=w) (am:=am) d21.F C16 C23 ai aB aC);let C22:=d22.cl (uD (P:=l.prog) (w:=w) (am:=am) d22.F C2 C17 CJ C10 ai aB aC);let C20:=d20.cl (yA (P:=l.prog) (w:=w) (am:=am) d20.F C21 C22 ai aB aC bx);let C27:=d27.cl (kO (P:=l.prog) (w:=w) (am:=am) d27.F C20 C28 aC bx);let C61:=d61.cl (ni (P:=l.prog) (w:=w) (am:=am) d61.F C44 C46 C48 C60 C58 C52 C59 j4 tj j3);show(adE d62.F C61 C27 aC ai kc).imp wL
def walk{l:W.OpenLaw}{q:Program}{loose:List Str}{XP:(KK)→Heap→Prop}{YP:World→Heap→Prop}{d:DefRec}{K:Params→W.Frag}(hn:l.most=some 63)(PD:d.params.defaults=[])
  (hY:∀(w:World) (h:Heap),YP w h→(K w.params).In h)
  (F:∀(w:World) (mg:KK) (fa:Addr) (h:Heap),(K w.params).In h→h.Ns mainGlobals mg→mg d.name=some (.ref fa)→
   ∃fd:FuncData,(∀(s:Shared) (u:Value),BindsTo s fd ⟨[u],[]⟩ [("script",u)])∧∀am:Heap,(K w.params).In am→am.Ns mainGlobals mg→bq l.prog w (K w.params) mg am Ax 42 fa fd ["script"] (NV (K w.params))) :
  W.WalkO q loose XP YP l.row.toRowW d [] (λf vs=>PySem.call f vs):=
 L2.Ib (n:=63) (k:=42) (x := "script") (CX:=λ_=>Ax) (sp:=λw=>NV (K w.params)) hn (by decide) PD ⟨rfl,by decide,by decide⟩ hY F (λ_ _ a ns hl hO hS=>Ψ2 a ns ⟨rfl,hO,hS,hl,λ_=>rfl⟩) λ_ _ _ _ _ z=>z
end Tg
open PySem PySem.W PyProof.Rows
namespace PySem.W.Fast
def tw14249144332884243624:=()
def tw1417646391265849222:=()
def tw8567906123304784922:=()
def tw6204294065274066427:=()
def tw15071048636492738386:=()
def tw16388609342564092572:=()
def tw17723137577205513305:=()
def tw14710695811746050108:=()
def tw4171414081009030796:=()
def tw17345452960361733337:=()
def tw9705002330745709704:=()
def tw1430232493125706601:=()
def tw9532609462952670241:=()
def tw8511870707404789328:=()
def tw1892476015291552668:=()
def tw14452470186042066924:=()
def tw12476371777757175298:=()
def tw10020614157738623978:=()
def tw17484728685588974778:=()
def tw10867122002581745471:=()
def tw7936993830869258329:=()
def tw13547216614263285453:=()
def tw3282427567447188171:=()
def tw2052457870010672533:=()
def tw5533502751866382608:=()
def tw15499215328063985287:=()
def tw7657777172480147557:=()
def tw10016648080182307651:=()
def tw8653814102074274759:=()
def tw12098510235386963679:=()
def tw1873874937993440016:=()
def tw11297292546926027837:=()
def tw6580351844049007141:=()
def tw7458823512290430565:=()
def tw14804246156048885011:=()
def tw17669984607369386544:=()
def tw13946376230139549597:=()
def tw15832009505999090575:=()
def tw8491973291457614149:=()
def tw5920586887020122199:=()
def tw12737111583875912604:=()
def tw801067623252487905:=()
def tw7591758630086034220:=()
def tw11657637576503285835:=()
def tw6421735845543723188:=()
def tw12417000028175719569:=()
def tw6687507363314370733:=()
def tw4255847800964995270:=()
def tw12050848654733652699:=()
def tw3966955330880538522:=()
def tw14880223358999299591:=()
def tw9560578083405984910:=()
def tw876327565264893808:=()
def tw7325525492491178364:=()
def tw6591177730549045946:=()
def tw16669138994655906881:=()
def tw9827396640480942311:=()
def tw16818381904854224445:=()
def tw12678407365796484311:=()
def tw8788638292097689426:=()
def tw8072806373471730066:=()
def tw1455029527424219710:=()
def tw2051749094343134702:=()
def tw6635592406019731304:=()
def tw15793942294729172738:=()
def tw10224074100625746628:=()
def tw13735589716742812338:=()
def tw11941154069432270346:=()
def tw12817422527516974922:=()
def tw18374564616455852818:=()
def tw11357811641944410334:=()
def tw15476519504775235682:=()
def tw4170310953952860310:=()
def tw8802514330684299686:=()
def tw6603506478054182443:=()
def tw13562793274724027524:=()
def tw7292511490335666320:=()
def tw3751395946770788602:=()
def tw5248804186775429112:=()
def tw9149499507915898663:=()
def tw10146397333822661649:=()
def tw5453628773832468923:=()
def tw4147747563376712949:=()
def tw17125289339011201287:=()
def tw13055062901230422107:=()
def tw4916819522767632660:=()
def tw13141364272034593131:=()
def tw16093509727375161136:=()
def tw6346357556396464386:=()
def tw15734277844050881468:=()
def tw12393188746585770453:=()
def tw9496321200167903667:=()
def tw13012151171679110629:=()
def tw5578993721399025458:=()
def tw3082604833506758912:=()
def tw248793925311929728:=()
def tw10552683591926026881:=()
def tw10489921345189962914:=()
def tw1224158178926251427:=()
def tw8783675707899610659:=()
def tw436030629254725828:=()
def tw6140646790342036676:=()
def tw15019435814484078597:=()
def tw12323759358143628870:=()
def tw821135860085016711:=()
def tw3103958840861255304:=()
def tw11169290324289666159:=()
def tw8284841795944510191:=()
def tw13819372321031501360:=()
def tw3219357821878107601:=()
def tw13225160560342366801:=()
def tw7350610302234531125:=()
def tw17937948868806994679:=()
def tw2294212675063708985:=()
def tw15261330703929740825:=()
def tw5999537010024439483:=()
def tw2747123742883316093:=()
def tw16408837487221960317:=()
def tw6746989405297329342:=()
def tw13106550809954157703:=()
def tw3236462008734377717:=()
def tw10045529133115803619:=()
def tw291591356057931174:=()
def tw7335000957989622465:=()
def tw7681939849487999934:=()
def tw13027815480963992496:=()
def tw1269913268125144533:=()
def tw10759985567828532053:=()
def tw15024097722041195551:=()
def tw10019435595978356624:=()
def tw7490411515962761119:=()
def tw13333615215680418858:=()
def tw12015669887886720241:=()
def tw11516160927593283746:=()
def tw15850000767815307608:=()
def tw15277260911570279688:=()
def tw11929579991969095851:=()
def tw14268351794536690927:=()
def tw6304365888638117664:=()
def tw5970535051979415026:=()
def tw2667099784503877051:=()
def tw18170392927594273861:=()
def tw14614282853791699463:=()
def tw16696288987378392553:=()
def tw1546738349228791467:=()
def tw17994161430041443242:=()
def tw16288314404874554551:=()
def tw6597094613900304534:=()
def tw4482045105325908727:=()
def tw18198194507304048569:=()
def tw8923922541492857888:=()
def tw11809022392935780539:=()
def tw6468475393333275919:=()
def tw5518669836092341271:=()
def tw11069925673874017111:=()
def tw11081181509171548657:=()
def tw7851900165802036228:=()
def tw6160177024742414892:=()
def tw13663039157493858275:=()
def tw11915644134151736070:=()
def tw17740467946450218390:=()
def tw4121516951490180907:=()
def tw9830003005443242017:=()
def tw1562958022967088423:=()
def tw5044729161914765084:=()
def tw17985124810983944236:=()
def tw232478402152120405:=()
def tw5113338559896952307:=()
def tw10544005597819861029:=()
def tw17782008275145775311:=()
def tw3495943133616827500:=()
def tw7721503719983909723:=()
def tw12680303567434524764:=()
def tw2542340666131138802:=()
def tw5489412727572951514:=()
def tw13888903471332222231:=()
def tw2005856825043648072:=()
def tw8245004603087042266:=()
def tw951312604138198620:=()
def tw7218876061802567736:=()
def tw1775321949415590284:=()
def tw6275637177425801468:=()
def tw15889434138988463459:=()
def tw9691505597401933459:=()
def tw3804380398111990794:=()
def tw4318748908849609580:=()
def tw10181407079264497650:=()
def tw10590724598401287833:=()
def tw202275865198432121:=()
def tw14034702713566159950:=()
def tw6313171208608146247:=()
def tw13595174307128641345:=()
def tw17056081662307352242:=()
def tw3357817171887328567:=()
def tw6438237935661662450:=()
def tw655228966364817474:=()
def tw8855511009898575363:=()
def tw10262764976165964422:=()
def tw13777705573212036133:=()
def tw5917087620603115628:=()
def tw14312558349280408178:=()
def tw10456549689489181100:=()
def tw15766420558552779508:=()
def tw13412278263471372954:=()
def tw10708749193855226935:=()
def tw6178105203382743265:=()
def tw6938119006551174828:=()
def tw12304126169002725490:=()
def tw3627917277868672312:=()
def tw14310091016026209807:=()
def tw469603052549810311:=()
def tw2847842292295953499:=()
def tw5309381083877304049:=()
def tw9853342880888197815:=()
def tw11496183107212581990:=()
def tw14187949210704757330:=()
def tw15845509848459306367:=()
def tw15241675875008090874:=()
def tw17723650758843606073:=()
def tw7786921846327456305:=()
def tw622863198381090708:=()
def tw8638155033652279125:=()
def tw3659513064408022115:=()
def tw15301914131728723562:=()
def tw1633013995463159817:=()
def tw1343902380370717947:=()
def tw7155546721846559919:=()
def tw2406299209167354339:=()
def tw18072361358559601508:=()
def tw5319634971313350466:=()
def tw5778096926986204836:=()
def tw8035935135591609940:=()
def tw8576608645743415749:=()
def tw7626470186341305511:=()
def tw3116284929011622815:=()
def tw8348435235992023153:=()
def tw5653889944645704237:=()
def tw11774059060860925375:=()
def tw11215633666597385160:=()
def tw16454879003709091779:=()
def tw10790885641149586680:=()
def tw6479172764221780846:=()
def tw15109903540907664469:=()
def tw1548011359627757392:=()
def tw701369365393595139:=()
def tw14935877946838630290:=()
def tw11199596410379354859:=()
def tw1758172532753636689:=()
def tw354982324453920790:=()
def tw15935903127478983046:=()
def tw16739737143186564969:=()
def tw18054499220301346043:=()
def tw14321111144721068314:=()
def tw2404018440573078849:=()
def tw5336816134505177120:=()
def tw13377041540188457261:=()
def tw3020196226881168679:=()
def tw7764748328577125014:=()
def tw14371214750650863094:=()
def tw3946370267995627840:=()
def tw13273847710245012463:=()
def tw16455260086197869318:=()
def tw8148199798519602000:=()
def tw882892995636600427:=()
def tw12866648031083308902:=()
def tw18192008963262309417:=()
def tw18014957230900925126:=()
def tw5504649132111950490:=()
def tw3113500828397750178:=()
def tw6345907837129232090:=()
def tw1295690776330106292:=()
def tw2791775740009157736:=()
def tw1438528449759020268:=()
def tw13734452072276060845:=()
def tw5952381805508196098:=()
def tw12143644712224575765:=()
def tw9611099286554857009:=()
def tw959800946016664690:=()
def tw3678236918610021266:=()
def tw12251942746671727808:=()
def tw14511770661901146085:=()
def tw12487343739731988689:=()
def tw11486821333253251924:=()
def tw2610249718439340448:=()
def tw2209582238330307780:=()
def tw3845992646407078737:=()
def tw4505789705055049340:=()
def tw11625475971267963475:=()
def tw15525655545108085278:=()
def tw9482184610192608498:=()
def tw6021701601011480580:=()
def tw5185114868843266987:=()
end PySem.W.Fast
set_option maxRecDepth 100000 in
set_option maxHeartbeats 0 in
theorem PySem.Challenge.cw_tonguegate_k63_worths_in_programs_holds : PySem.Challenge.rw_tonguegate_k63_worths_in_programs.Holds := by
 w_on;o_law;k_head;(case hw=>w_witness2)
 k_fill
 show Tg.walk (l:=PySem.Challenge.rw_tonguegate_k63_worths_in_programs) rfl rfl (λw h Y=>PySem.W.kIn_of Y) ?F
 case F=>
  intro w mg fa h KX G SQ;refine' Tg.all_mk KX G SQ ?d1 ?d2 ?d3 ?d4 ?d5 ?d6 ?d7 ?d8 ?d9 ?d10 ?d11 ?d12 ?d13 ?d14 ?d15 ?d16 ?d17 ?d18 ?d19 ?d20 ?d21 ?d22 ?d23 ?d24 ?d25 ?d26 ?d27 ?d28 ?d29 ?d30 ?d31 ?d32 ?d33 ?d34 ?d35 ?d36 ?d37 ?d38 ?d39 ?d40 ?d41 ?d42 ?d43 ?d44 ?d45 ?d46 ?d47 ?d48 ?d49 ?d50 ?d51 ?d52 ?d53 ?d54 ?d55 ?d56 ?d57 ?d58 ?d59 ?d60 ?d61 ?d62 ?zs ?gk1 ?q1 ?gk2 ?q2 ?gk3 ?q3 ?gk4 ?q4 ?gk5 ?q5 ?gk6 ?q6 ?gk7 ?q7 ?gk8 ?q8 ?gk9 ?q9 ?gk10 ?q10 ?gk11 ?q11 ?gk12 ?q12 ?gk13 ?q13 ?gcNoPart ?gcScope ?xNoPart ?xm ?gSIDES ?klSIDES ?kzSIDES ?kvSIDES ?gWAYS ?klWAYS ?kzWAYS ?kvWAYS  ?gSTATEMENTS ?h_ST ?gBARRED_WAYS ?h_BW ?gRULES ?k_RULES ?dm1 ?dm2 ?dm3 ?dm4 ?dm5 ?pgScope ?hdScope ?poScope ?saScope ?mkScope ?keScope ?naScope_papers ?naScope_result ?naScope_ways ?naScope_kinds
  (case d1|d2|d3|d4|d5|d6|d7|d8|d9|d10|d11|d12|d13|d14|d15|d16|d17|d18|d19|d20|d21|d22|d23|d24|d25|d26|d27|d28|d29|d30|d31|d32|d33|d34|d35|d36|d37|d38|d39|d40|d41|d42|d43|d44|d45|d46|d47|d48|d49|d50|d51|d52|d53|d54|d55|d56|d57|d58|d59|d60|d61|d62=>refine' L3.dg ?a ?l ?c ?k;(case a|l|c|k=>k_is))
  (case zs=>(iterate 16 (show L3.zc ?_ ?_;k_is));show trivial)
  (case gk1=>k_is);(case q1=>show⟨_,rfl⟩)
  (case gk2=>k_is);(case q2=>show⟨_,rfl⟩)
  (case gk3=>k_is);(case q3=>show⟨_,rfl⟩)
  (case gk4=>k_is);(case q4=>show⟨_,rfl⟩)
  (case gk5=>k_is);(case q5=>show⟨_,rfl⟩)
  (case gk6=>k_is);(case q6=>show⟨_,rfl⟩)
  (case gk7=>k_is);(case q7=>show⟨_,rfl⟩)
  (case gk8=>k_is);(case q8=>show⟨_,rfl⟩)
  (case gk9=>k_is);(case q9=>show⟨_,rfl⟩)
  (case gk10=>k_is);(case q10=>show⟨_,rfl⟩)
  (case gk11=>k_is);(case q11=>show⟨_,rfl⟩)
  (case gk12=>k_is);(case q12=>show⟨_,rfl⟩)
  (case gk13=>k_is);(case q13=>show⟨_,rfl⟩)
  (case gcNoPart|gcScope=>k_is)
  (case xNoPart=>k_exc)
  (case xm=>kts_exm)
  (case gSIDES=>k_is);(case klSIDES=>k_is);(case kzSIDES=>decide);(case kvSIDES=>show(.cons ⟨_,rfl⟩ (.cons ⟨_,rfl⟩ .nil)))
  (case gWAYS=>k_is);(case klWAYS=>k_is);(case kzWAYS=>decide);(case kvWAYS=>show(.cons ⟨_,rfl⟩ (.cons ⟨_,rfl⟩ (.cons ⟨_,rfl⟩ (.cons ⟨_,rfl⟩ .nil)))))
  (case gSTATEMENTS=>k_is);(case h_ST=>(refine' Tg.ML ?l ?e ?s ?k0 ?k1 ?k2 ?k3 ?k4 ?k5 ?k6 ?k7 ?k8 ?k9 ?k10 ?k11;(case l=>k_is);(case e=>show(.cons rfl (.cons rfl (.cons rfl (.cons rfl (.cons rfl (.cons rfl (.cons rfl (.cons rfl (.cons rfl (.cons rfl (.cons rfl (.cons rfl .nil)))))))))))));(case s=>rfl);(case k0=>refine' Tg.dI ?l ?z ?v;(case l=>k_is);(case z=>decide);(case v=>show(.cons ⟨_,rfl⟩ (.cons ⟨_,rfl⟩ (.cons ⟨_,rfl⟩ .nil)))));(case k1=>refine' Tg.dI ?l ?z ?v;(case l=>k_is);(case z=>decide);(case v=>show(.cons ⟨_,rfl⟩ (.cons ⟨_,rfl⟩ .nil))));(case k2=>refine' Tg.dI ?l ?z ?v;(case l=>k_is);(case z=>decide);(case v=>show(.cons ⟨_,rfl⟩ (.cons ⟨_,rfl⟩ (.cons ⟨_,rfl⟩ .nil)))));(case k3=>refine' Tg.dI ?l ?z ?v;(case l=>k_is);(case z=>decide);(case v=>show(.cons ⟨_,rfl⟩ (.cons ⟨_,rfl⟩ (.cons ⟨_,rfl⟩ .nil)))));(case k4=>refine' Tg.dI ?l ?z ?v;(case l=>k_is);(case z=>decide);(case v=>show(.cons ⟨_,rfl⟩ (.cons ⟨_,rfl⟩ (.cons ⟨_,rfl⟩ .nil)))));(case k5=>refine' Tg.dI ?l ?z ?v;(case l=>k_is);(case z=>decide);(case v=>show(.cons ⟨_,rfl⟩ .nil)));(case k6=>refine' Tg.dI ?l ?z ?v;(case l=>k_is);(case z=>decide);(case v=>show(.cons ⟨_,rfl⟩ .nil)));(case k7=>refine' Tg.dI ?l ?z ?v;(case l=>k_is);(case z=>decide);(case v=>show(.cons ⟨_,rfl⟩ (.cons ⟨_,rfl⟩ (.cons ⟨_,rfl⟩ .nil)))));(case k8=>refine' Tg.dI ?l ?z ?v;(case l=>k_is);(case z=>decide);(case v=>show(.cons ⟨_,rfl⟩ (.cons ⟨_,rfl⟩ (.cons ⟨_,rfl⟩ (.cons ⟨_,rfl⟩ .nil))))));(case k9=>refine' Tg.dI ?l ?z ?v;(case l=>k_is);(case z=>decide);(case v=>show(.cons ⟨_,rfl⟩ .nil)));(case k10=>refine' Tg.dI ?l ?z ?v;(case l=>k_is);(case z=>decide);(case v=>show(.cons ⟨_,rfl⟩ (.cons ⟨_,rfl⟩ .nil))));(case k11=>refine' Tg.dI ?l ?z ?v;(case l=>k_is);(case z=>decide);(case v=>show(.cons ⟨_,rfl⟩ .nil)))))
  (case gBARRED_WAYS=>k_is);(case h_BW=>(refine' Tg.O8 ?l ?e ?s ?k0 ?k1 ?k2 ?k3;(case l=>k_is);(case e=>show(.cons rfl (.cons rfl (.cons rfl (.cons rfl .nil)))));(case s=>rfl);(case k0=>refine' Tg.dI ?l ?z ?v;(case l=>k_is);(case z=>decide);(case v=>show .nil));(case k1=>refine' Tg.dI ?l ?z ?v;(case l=>k_is);(case z=>decide);(case v=>show .nil));(case k2=>refine' Tg.dI ?l ?z ?v;(case l=>k_is);(case z=>decide);(case v=>show(.cons ⟨_,rfl⟩ (.cons ⟨_,rfl⟩ .nil))));(case k3=>refine' Tg.dI ?l ?z ?v;(case l=>k_is);(case z=>decide);(case v=>show(.cons ⟨_,rfl⟩ .nil)))))
  (case gRULES=>k_is);(case k_RULES=>(refine' L2.AO ?l ?e ?n ?s;(case l=>k_is);(case e=>show(.cons rfl (.cons rfl (.cons rfl (.cons rfl (.cons rfl (.cons rfl (.cons rfl (.cons rfl (.cons rfl (.cons rfl (.cons rfl (.cons rfl .nil)))))))))))));(case n=>done);(case s=>rfl)))
  (case dm1|dm2|dm3|dm4|dm5=>refine' L3.dm ?a ?l ?c ?k ?i;(case a|l|c|k|i=>k_is))
  (case pgScope=>k_is);(case hdScope=>k_is);(case poScope=>k_is);(case saScope=>k_is);(case mkScope=>k_is);(case keScope=>k_is)
  (case naScope_papers=>k_is)
  (case naScope_result=>k_is)
  (case naScope_ways=>k_is)
  (case naScope_kinds=>k_is)

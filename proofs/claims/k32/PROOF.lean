import PyProof.Rows.All
import Wide.All
import OpenK.AllK
import Wide.FinOn
import Lean
import PyProof.EqAt
import PyProof.EqKinds
import PyProof.TupleCall
import PySem.Challenge.RW_tonguegate_k32_texts_of_none
section
variable{r:Prop}{α β γ δ ε η ι κ μ:Type}
section
variable{A B C D E F G H I J:Prop}
theorem Ξ02(h:A∧B)(k:A→B→r):r:=k h.1 h.2
theorem Ξ03(h:A∧B∧C)(k:A→B→C→r):r:=k h.1 h.2.1 h.2.2
theorem Ξ04(h:A∧B∧C∧D)(k:A→B→C→D→r):r:=k h.1 h.2.1 h.2.2.1 h.2.2.2
theorem Ξ05(h:A∧B∧C∧D∧E)(k:A→B→C→D→E→r):r:=k h.1 h.2.1 h.2.2.1 h.2.2.2.1 h.2.2.2.2
theorem Ξ06(h:A∧B∧C∧D∧E∧F)(k:A→B→C→D→E→F→r):r:=k h.1 h.2.1 h.2.2.1 h.2.2.2.1 h.2.2.2.2.1 h.2.2.2.2.2
theorem Ξ07(h:A∧B∧C∧D∧E∧F∧G)(k:A→B→C→D→E→F→G→r):r:=k h.1 h.2.1 h.2.2.1 h.2.2.2.1 h.2.2.2.2.1 h.2.2.2.2.2.1 h.2.2.2.2.2.2
theorem Ξ08(h:A∧B∧C∧D∧E∧F∧G∧H)(k:A→B→C→D→E→F→G→H→r):r:=k h.1 h.2.1 h.2.2.1 h.2.2.2.1 h.2.2.2.2.1 h.2.2.2.2.2.1 h.2.2.2.2.2.2.1 h.2.2.2.2.2.2.2
theorem Ξ09(h:A∧B∧C∧D∧E∧F∧G∧H∧I)(k:A→B→C→D→E→F→G→H→I→r):r:=k h.1 h.2.1 h.2.2.1 h.2.2.2.1 h.2.2.2.2.1 h.2.2.2.2.2.1 h.2.2.2.2.2.2.1 h.2.2.2.2.2.2.2.1 h.2.2.2.2.2.2.2.2
theorem Ξ010(h:A∧B∧C∧D∧E∧F∧G∧H∧I∧J)(k:A→B→C→D→E→F→G→H→I→J→r):r:=k h.1 h.2.1 h.2.2.1 h.2.2.2.1 h.2.2.2.2.1 h.2.2.2.2.2.1 h.2.2.2.2.2.2.1 h.2.2.2.2.2.2.2.1 h.2.2.2.2.2.2.2.2.1 h.2.2.2.2.2.2.2.2.2
end
section
variable{A B C D E:α→Prop}
theorem Ξ11(h:∃x,A x)(k:∀x,A x→r):r:=h.elim k
theorem Ξ12(h:∃x,A x∧B x)(k:∀x,A x→B x→r):r:=Ξ11 h λx h=>Ξ02 h (k x)
theorem Ξ13(h:∃x,A x∧B x∧C x)(k:∀x,A x→B x→C x→r):r:=Ξ11 h λx h=>Ξ03 h (k x)
theorem Ξ14(h:∃x,A x∧B x∧C x∧D x)(k:∀x,A x→B x→C x→D x→r):r:=Ξ11 h λx h=>Ξ04 h (k x)
theorem Ξ15(h:∃x,A x∧B x∧C x∧D x∧E x)(k:∀x,A x→B x→C x→D x→E x→r):r:=Ξ11 h λx h=>Ξ05 h (k x)
end
section
variable{A B C D E F:α→β→Prop}
theorem Ξ21(h:∃x y,A x y)(k:∀x y,A x y→r):r:=h.elim λx h=>Ξ11 h (k x)
theorem Ξ22(h:∃x y,A x y∧B x y)(k:∀x y,A x y→B x y→r):r:=Ξ21 h λx y h=>Ξ02 h (k x y)
theorem Ξ23(h:∃x y,A x y∧B x y∧C x y)(k:∀x y,A x y→B x y→C x y→r):r:=Ξ21 h λx y h=>Ξ03 h (k x y)
theorem Ξ24(h:∃x y,A x y∧B x y∧C x y∧D x y)(k:∀x y,A x y→B x y→C x y→D x y→r):r:=Ξ21 h λx y h=>Ξ04 h (k x y)
theorem Ξ25(h:∃x y,A x y∧B x y∧C x y∧D x y∧E x y)(k:∀x y,A x y→B x y→C x y→D x y→E x y→r):r:=Ξ21 h λx y h=>Ξ05 h (k x y)
theorem Ξ26(h:∃x y,A x y∧B x y∧C x y∧D x y∧E x y∧F x y)(k:∀x y,A x y→B x y→C x y→D x y→E x y→F x y→r):r:=Ξ21 h λx y h=>Ξ06 h (k x y)
end
section
variable{A B C D E F G H:α→β→γ→Prop}
theorem Ξ31(h:∃x y z,A x y z)(k:∀x y z,A x y z→r):r:=h.elim λx h=>Ξ21 h (k x)
theorem Ξ32(h:∃x y z,A x y z∧B x y z)(k:∀x y z,A x y z→B x y z→r):r:=Ξ31 h λx y z h=>Ξ02 h (k x y z)
theorem Ξ33(h:∃x y z,A x y z∧B x y z∧C x y z)(k:∀x y z,A x y z→B x y z→C x y z→r):r:=Ξ31 h λx y z h=>Ξ03 h (k x y z)
theorem Ξ34(h:∃x y z,A x y z∧B x y z∧C x y z∧D x y z)(k:∀x y z,A x y z→B x y z→C x y z→D x y z→r):r:=Ξ31 h λx y z h=>Ξ04 h (k x y z)
theorem Ξ35(h:∃x y z,A x y z∧B x y z∧C x y z∧D x y z∧E x y z)(k:∀x y z,A x y z→B x y z→C x y z→D x y z→E x y z→r):r:=Ξ31 h λx y z h=>Ξ05 h (k x y z)
theorem Ξ37(h:∃x y z,A x y z∧B x y z∧C x y z∧D x y z∧E x y z∧F x y z∧G x y z)(k:∀x y z,A x y z→B x y z→C x y z→D x y z→E x y z→F x y z→G x y z→r):r:=Ξ31 h λx y z h=>Ξ07 h (k x y z)
theorem Ξ38(h:∃x y z,A x y z∧B x y z∧C x y z∧D x y z∧E x y z∧F x y z∧G x y z∧H x y z)(k:∀x y z,A x y z→B x y z→C x y z→D x y z→E x y z→F x y z→G x y z→H x y z→r):r:=Ξ31 h λx y z h=>Ξ08 h (k x y z)
end
section
variable{A B C D E F G H:α→β→γ→δ→Prop}
theorem Ξ41(h:∃x y z w,A x y z w)(k:∀x y z w,A x y z w→r):r:=h.elim λx h=>Ξ31 h (k x)
theorem Ξ42(h:∃x y z w,A x y z w∧B x y z w)(k:∀x y z w,A x y z w→B x y z w→r):r:=Ξ41 h λx y z w h=>Ξ02 h (k x y z w)
theorem Ξ44(h:∃x y z w,A x y z w∧B x y z w∧C x y z w∧D x y z w)(k:∀x y z w,A x y z w→B x y z w→C x y z w→D x y z w→r):r:=Ξ41 h λx y z w h=>Ξ04 h (k x y z w)
theorem Ξ45(h:∃x y z w,A x y z w∧B x y z w∧C x y z w∧D x y z w∧E x y z w)(k:∀x y z w,A x y z w→B x y z w→C x y z w→D x y z w→E x y z w→r):r:=Ξ41 h λx y z w h=>Ξ05 h (k x y z w)
theorem Ξ46(h:∃x y z w,A x y z w∧B x y z w∧C x y z w∧D x y z w∧E x y z w∧F x y z w)(k:∀x y z w,A x y z w→B x y z w→C x y z w→D x y z w→E x y z w→F x y z w→r):r:=Ξ41 h λx y z w h=>Ξ06 h (k x y z w)
theorem Ξ48(h:∃x y z w,A x y z w∧B x y z w∧C x y z w∧D x y z w∧E x y z w∧F x y z w∧G x y z w∧H x y z w)(k:∀x y z w,A x y z w→B x y z w→C x y z w→D x y z w→E x y z w→F x y z w→G x y z w→H x y z w→r):r:=Ξ41 h λx y z w h=>Ξ08 h (k x y z w)
end
section
variable{A B C D E F G H:α→β→γ→δ→ε→Prop}
theorem Ξ51(h:∃x y z w u,A x y z w u)(k:∀x y z w u,A x y z w u→r):r:=h.elim λx h=>Ξ41 h (k x)
theorem Ξ52(h:∃x y z w u,A x y z w u∧B x y z w u)(k:∀x y z w u,A x y z w u→B x y z w u→r):r:=Ξ51 h λx y z w u h=>Ξ02 h (k x y z w u)
theorem Ξ55(h:∃x y z w u,A x y z w u∧B x y z w u∧C x y z w u∧D x y z w u∧E x y z w u)(k:∀x y z w u,A x y z w u→B x y z w u→C x y z w u→D x y z w u→E x y z w u→r):r:=Ξ51 h λx y z w u h=>Ξ05 h (k x y z w u)
theorem Ξ56(h:∃x y z w u,A x y z w u∧B x y z w u∧C x y z w u∧D x y z w u∧E x y z w u∧F x y z w u)(k:∀x y z w u,A x y z w u→B x y z w u→C x y z w u→D x y z w u→E x y z w u→F x y z w u→r):r:=Ξ51 h λx y z w u h=>Ξ06 h (k x y z w u)
theorem Ξ57(h:∃x y z w u,A x y z w u∧B x y z w u∧C x y z w u∧D x y z w u∧E x y z w u∧F x y z w u∧G x y z w u)(k:∀x y z w u,A x y z w u→B x y z w u→C x y z w u→D x y z w u→E x y z w u→F x y z w u→G x y z w u→r):r:=Ξ51 h λx y z w u h=>Ξ07 h (k x y z w u)
theorem Ξ58(h:∃x y z w u,A x y z w u∧B x y z w u∧C x y z w u∧D x y z w u∧E x y z w u∧F x y z w u∧G x y z w u∧H x y z w u)(k:∀x y z w u,A x y z w u→B x y z w u→C x y z w u→D x y z w u→E x y z w u→F x y z w u→G x y z w u→H x y z w u→r):r:=Ξ51 h λx y z w u h=>Ξ08 h (k x y z w u)
end
section
variable{A:α→β→γ→δ→ε→η→Prop}
theorem Ξ61(h:∃x y z w u v,A x y z w u v)(k:∀x y z w u v,A x y z w u v→r):r:=h.elim λx h=>Ξ51 h (k x)
end
section
variable{A:α→β→γ→δ→ε→η→ι→Prop}
theorem Ξ71(h:∃x y z w u v s,A x y z w u v s)(k:∀x y z w u v s,A x y z w u v s→r):r:=h.elim λx h=>Ξ61 h (k x)
end
section
variable{A:α→β→γ→δ→ε→η→ι→κ→Prop}
theorem Ξ81(h:∃x y z w u v s t,A x y z w u v s t)(k:∀x y z w u v s t,A x y z w u v s t→r):r:=h.elim λx h=>Ξ71 h (k x)
end
section
variable{A B C:α→β→γ→δ→ε→η→ι→κ→μ→Prop}
theorem Ξ91(h:∃x y z w u v s t p,A x y z w u v s t p)(k:∀x y z w u v s t p,A x y z w u v s t p→r):r:=h.elim λx h=>Ξ81 h (k x)
theorem Ξ93(h:∃x y z w u v s t p,A x y z w u v s t p∧B x y z w u v s t p∧C x y z w u v s t p)(k:∀x y z w u v s t p,A x y z w u v s t p→B x y z w u v s t p→C x y z w u v s t p→r):r:=Ξ91 h λx y z w u v s t p h=>Ξ03 h (k x y z w u v s t p)
end
theorem Ψ2{P:α→β→Prop}(x:α)(y:β)(h:P x y):∃x y,P x y:=⟨x,y,h⟩
theorem Ψ3{P:α→β→γ→Prop}(x:α)(y:β)(z:γ)(h:P x y z):∃x y z,P x y z:=⟨x,y,z,h⟩
theorem Ψ4{P:α→β→γ→δ→Prop}(x:α)(y:β)(z:γ)(w:δ)(h:P x y z w):∃x y z w,P x y z w:=⟨x,y,z,w,h⟩
theorem Ψ5{P:α→β→γ→δ→ε→Prop}(x:α)(y:β)(z:γ)(w:δ)(u:ε)(h:P x y z w u):∃x y z w u,P x y z w u:=⟨x,y,z,w,u,h⟩
theorem Ψ6{P:α→β→γ→δ→ε→η→Prop}(x:α)(y:β)(z:γ)(w:δ)(u:ε)(v:η)(h:P x y z w u v):∃x y z w u v,P x y z w u v:=⟨x,y,z,w,u,v,h⟩
theorem Ψ7{P:α→β→γ→δ→ε→η→ι→Prop}(x:α)(y:β)(z:γ)(w:δ)(u:ε)(v:η)(s:ι)(h:P x y z w u v s):∃x y z w u v s,P x y z w u v s:=⟨x,y,z,w,u,v,s,h⟩
theorem Ψ8{P:α→β→γ→δ→ε→η→ι→κ→Prop}(x:α)(y:β)(z:γ)(w:δ)(u:ε)(v:η)(s:ι)(t:κ)(h:P x y z w u v s t):∃x y z w u v s t,P x y z w u v s t:=⟨x,y,z,w,u,v,s,t,h⟩
theorem Ψ9{P:α→β→γ→δ→ε→η→ι→κ→μ→Prop}(x:α)(y:β)(z:γ)(w:δ)(u:ε)(v:η)(s:ι)(t:κ)(p:μ)(h:P x y z w u v s t p):∃x y z w u v s t p,P x y z w u v s t p:=⟨x,y,z,w,u,v,s,t,p,h⟩
end
open Lean in
local macro_rules
|`(tactic|let ⟨$ps,*⟩:=$h)=>do
 let mut b:Array Term:=#[];let mut t←`(tactic|skip)
 for p in ps.getElems do
  if p.raw.isOfKind ``Parser.Term.anonymousCtor||p.raw.getId==`rfl then
   let z←withFreshMacroScope `(z);b:=b.push z
   if p.raw.isIdent then t←`(tactic|($t;subst $z:term))else t←`(tactic|($t;let $p:term:=$z))
  else b:=b.push p
 unless b.any (·.raw.getId==h.raw.getId)||!h.raw.isIdent do t←`(tactic|((try clear $(⟨h⟩));$t))
 let mut a←`(tactic|fail)
 let g(n m:Nat):=mkIdent (.mkSimple s!"Ξ{n}{m}")
 for i in [0:b.size]do
  let m:=b.size-i
  if m*i==0||m==1||[(1,2),(1,3),(1,4),(1,5),(2,2),(2,3),(2,4),(2,5),(2,6),(3,2),(3,3),(3,4),(3,5),(3,7),(3,8),(4,2),(4,4),(4,5),(4,6),(4,8),(5,2),(5,5),(5,6),(5,7),(5,8),(9,3)].contains (i,m)then a←`(tactic|first|refine $(g i m) $h fun $b* =>?_|$a:tactic)
  else a←`(tactic|first|(refine $(g i 1) $h fun $(b[:i])* z=>$(g 0 m) z fun $(b[i:])* =>?_;clear z)|$a:tactic)
 `(tactic|($a;$t))
|`(tactic|intro $ps*)=>do
 unless ps.any fun p=>p.raw.isOfKind ``Parser.Term.anonymousCtor||p.raw.getId==`rfl do Macro.throwUnsupported
 let mut t←`(tactic|skip)
 for p in ps do
  if p.raw.isOfKind ``Parser.Term.anonymousCtor then t←`(tactic|($t;intro z;let $p:term:=z))
  else if p.raw.getId==`rfl then t←`(tactic|($t;intro z;subst z))
  else t←`(tactic|($t;intro $p:term))
 return t
|`(tactic|exact $e)=>`(tactic|refine $e)
|`(tactic|lia)=>`(tactic|omega)
open PySem in abbrev xz:=Value→Shared→Prop
open PySem in abbrev KK:=Str→Option Value
open PySem in abbrev ac:=List (Addr×Obj)
def AG:=@List.length_append
def AO:=@Option.bind_some
def Ae:=@List.length_map
def Aw:=@List.length_cons
def Ba:=@PySem.Heap.get?_push_of_some
def AN:=@PySem.wpAny_bind
def B1:=@List.map_append
def BJ:=@List.append_assoc
def BV:=@List.append_nil
def BW:=@decide_eq_false
def Bi:=@List.length_take
def B8:=@List.cons.inj
def aam:=@List.mem_cons
def BY:=@decide_eq_true
def C5:=@of_decide_eq_true
def Ax:=@Nat.le_refl
def Bx:=@List.not_mem_nil
def Cc:=@Int.emod_lt_of_pos
def Bl:=@PySem.boot_len
def CH:=@List.length_drop
def aau:=@List.mem_singleton
def BZ:=@PySem.Heap.lt_size
def AE:=@if_neg
def CK:=@Int.emod_nonneg
def Ai:=@congrArg
def D5:=@List.size_toArray
def DO:=@of_decide_eq_false
def DH:=@Bool.false_ne_true
def Dh:=@PySem.Heap.get?_push_size
def AM:=@if_pos
def Cr:=@Option.some.inj
def EH:=@List.mem_append_right
def El:=@PySem.F.plainAttrs_list
def aaH:=@List.mem_append
def Cu:=@List.length_nil
def BR:=@PySem.wpAny_pure
def DN:=@Bool.and_eq_true
def CV:=@List.map_cons
def Fu:=@PySem.F.type_list_append
def Fn:=@PySem.F.slot_list_append
def Ce:=@Nat.le_trans
def EN:=@Nat.lt_of_lt_of_le
def Dq:=@Bool.false_and
def DE:=@Nat.le_of_lt
def aaS:=@List.all_eq_true
def GW:=@List.getElem?_eq_getElem
def Dj:=@Bool.true_and
def aaV:=@List.mem_map
def Ds:=@PySem.W.mg_of
def DU:=@Nat.ne_of_lt
def F9:=@decide_eq_true_eq
def GO:=@List.mem_cons_of_mem
def E3:=@PySem.sizeLine_eq
def IJ:=@PySem.F.plainAttrs_str
def G3:=@PySem.PassesOwn.never
def Dn:=@PySem.wpAny_mono
def Hw:=@Array.length_toList
def Ha:=@List.getElem?_map
def D7:=@or_false
def Gf:=@PySem.W.kia_one
def Gr:=@List.nil_append
def aa9:=@List.getElem?_eq_some_iff
def GD:=@List.drop_drop
def GV:=@Bool.eq_iff_iff
def Kj:=@List.eq_nil_of_length_eq_zero
def Fo:=@List.map_map
def KV:=@List.dropLast_concat_getLast
def Ga:=@Bool.and_false
def Iz:=@List.mem_append_left
def KJ:=@PySem.F.excBase_ValueError
def Fe:=@Nat.zero_le
def IS:=@PySem.wpAny_truthy_bool
def JH:=@List.mem_cons_self
def abl:=@beq_iff_eq
def Kx:=@List.take_append_drop
def Hl:=@List.sum_cons
def Gq:=@Nat.le_succ
def L6:=@List.mem_of_mem_drop
def K0:=@List.nodup_append
def Ju:=@Int.toNat_natCast
def GP:=@PySem.wpAny_field
def IE:=@PySem.Heap.size_push
def Ib:=@Nat.lt_irrefl
def Jk:=@Nat.lt_succ_self
def NW:=@List.take_of_length_le
def O3:=@PyProof.Rows.boot_isinstance
def abz:=@List.mem_filterMap
def Lp:=@PySem.F.type_str_join
def MB:=@PySem.F.slot_str_join
def Qz:=@PyProof.Rows.callWith_type1
def Jf:=@Bool.or_eq_true
def JB:=@PySem.wpAny_seqItems
def PR:=@List.getD_eq_getElem?_getD
def LU:=@List.mem_of_mem_take
def M9:=@List.mem_of_getElem?
def Je:=@PySem.wpAny_passesOwn
def Nl:=@List.getElem?_append_left
def HG:=@PySem.typeIs_str
def abL:=@beq_eq_false_iff_ne
def NZ:=@PySem.mem_of_lookup
def LX:=@List.filterMap_cons
def abO:=@Option.isSome_iff_exists
def Im:=@List.map_nil
def QT:=@PySem.F.slot_tuple_iterator_next
def La:=@PySem.W.callWith_K
def KP:=@List.foldl_cons
def MQ:=@List.flatten_cons
def Jy:=@PySem.wpAny_standAt
def Qy:=@PySem.wpAny_callSpecial?_slot
def Lw:=@PySem.wpAny_Call_Name_kw
def OY:=@PySem.W.methodCall_KW
def O9:=@PyProof.Rows.boot_all
def abZ:=@decide_eq_decide
def Lq:=@List.getElem_mem
def Mb:=@List.drop_length
def Lg:=@List.cons_append
def ab3:=@Array.toList_inj
def OV:=@Nat.mul_le_mul_right
def Oe:=@List.dropLast_concat
def JY:=@PySem.codeAny_mono
def ab7:=@List.nodup_cons
def Q8:=@List.map_congr_left
def NY:=@List.all_append
def R6:=@Array.toList_append
def fM:=@List.getElem?_append_right
def LG:=@PySem.wpAny_holding
def ace:=@List.mem_range
def Ly:=@List.drop_left
def gj:=@List.drop_eq_getElem_cons
def JA:=@PySem.call_meets
def Mv:=@PySem.wpAny_execs_nil
def OB:=@List.reverse_cons
def UO:=@List.getElem?_cons_succ
def Lk:=@List.all_cons
def QU:=@Nat.min_eq_right
def aco:=@List.mem_flatten
def SU:=@List.getElem?_set_self
def Wq:=@List.drop_of_length_le
def Tv:=@PySem.wpAny_comprehension_free
def K4:=@PySem.wpAny_call
def SS:=@PySem.F.type_list_pop
def de:=@PySem.F.slot_list_pop
def ON:=@Nat.min_eq_left
def fN:=@Nat.le_of_ble_eq_true
def fo:=@List.length_singleton
def SO:=@List.eq_nil_or_concat
def eZ:=@Array.getElem?_toList
def UM:=@List.getElem?_set_ne
def OD:=@PySem.wpAny_call_entry
def Ot:=@Nat.mul_le_mul
def OW:=@List.nodup_nil
def OT:=@List.drop_zero
def eD:=@ne_true_of_eq_false
def cC:=@PySem.W.plainGet_of
def IC:=@Ne.symm
def bh:=@List.replicate_succ
def UP:=@List.length_reverse
def acL:=@List.length_pos_iff
def UQ:=@List.length_flatten
def QN:=@PySem.F.slot_zip_next
def SH:=@PySem.wpAny_updateSeq_pair
def Iw:=@if_true
def dM:=@Nat.lt_succ_of_lt
def eY:=@List.length_range
def kL:=@List.eraseIdx_eq_take_drop_succ
def jn:=@List.eraseIdxIfInBounds_toArray
def RZ:=@PySem.Str.cps_append
def OF:=@Nat.succ_mul
def Ow:=@Nat.ne_of_gt
def jT:=@Array.eq_empty_of_size_eq_zero
def WV:=@Nat.succ_le_succ
def cA:=@List.map_reverse
def gK:=@List.append_inj'
def ag:=@PySem.wpAny_pyIter_tuple
def PQ:=@PySem.wpAny_onRaise
def Q0:=@PySem.wpAny_attempt
def cj:=@List.of_mem_zip
def ah:=@PySem.F.args_str_split_2
def LY:=@PySem.wpAny_rule
def ae:=@PySem.wpAny_pyIter_list
def dC:=@PySem.wpAny_newObj_type
def ac9:=@PySem.slot_list_getitem
def c0:=@List.take_zero
def Zm:=@PySem.F.entry_str_split
def oF:=@Classical.byContradiction
def qM:=@PyProof.noPylong_of_log2
def oO:=@Nat.add_sub_cancel_left
def bo:=@List.take_nil
def qu:=@List.getElem?_replicate
def fL:=@List.any_cons
def Sn:=@PySem.F.slot_str_split
set_option Elab.async false
set_option linter.all false
set_option maxRecDepth 100000
set_option maxHeartbeats 1000000
set_option maxHeartbeats 4000000
namespace L2
open PySem PySem.Spec PyProof.Rows
variable {us:List Value}{x qual:Str}{u:Value}{H:A7}{a b it C:Addr}{o:Obj}{P:Program}{w:World}{h base:Heap}{g':Array GenState}{t' i j k n:Nat}{d':Drawn}{ch fp:List Addr}{e c tg l:Expr}{N ps:List Str}{M:Model}{A:Around}{E Q:xz}{v y:V}{s' s:Shared}{X: Cx}{t: Cm}{pos p: Pos}{v0:ac}{σ:St}{K:W.Frag}{f:Value→Value→Sem Value}{tc:D0}{es: List Expr}{te tb ta: Ah}{g:Int→Int→Int}{body:List Stmt}{H': A7}{vs:List V}{tl:Ah}{pl:Sem Bool}{r r':EE}{zK:CmpOp}{dx: Addr}{mA mg:KK}{kw:List (Str×Value)}{CX:Gy}{fd:FuncData}{sp:Dc}{outer:List Env}{kindOf:Str→Option NameKind}{scope:Scope}{h': Heap}
abbrev DF:=Sum Int Str
def oN:DF→Value→Bool
 |.inl k,v=>Value.isInt k v
 |.inr x,v=>Value.isStrOf x v
def zq(w:World):DF→Int
 |.inl k=>hashInt k
 |.inr x=>hashStr w x
theorem IZ:∀{k:DF} {v:Value},oN k v=true→(∃i t,k=Sum.inl i∧v=Value.int i t)∨(∃x t,k=Sum.inr x∧v=Value.str x t)
 |.inl i,v,h=>by
  let⟨t,e⟩:=Value.isInt_shape (k:=i) (v:=v) h;exact .inl ⟨i,t,rfl,e⟩
 |.inr x,v,h=>by
  let⟨t,e⟩:=Value.isStrOf_shape (x:=x) (v:=v) h;exact .inr ⟨x,t,rfl,e⟩
theorem ab1(a b:Int):decide ((Sum.inl a:DF)=Sum.inl b)=(a==b):=by
 by_cases e:a=b
 ·subst e;simp
 ·have h:¬(Sum.inl a:DF)=Sum.inl b:=λq=>e (Sum.inl.inj q)
  rw[BW h];exact(abL.mpr e).symm
theorem uq(a b:Str):decide ((Sum.inr a:DF)=Sum.inr b)=decide (a=b):=by
 by_cases e:a=b
 ·subst e;simp
 ·have h:¬(Sum.inr a:DF)=Sum.inr b:=λq=>e (Sum.inr.inj q)
  rw[BW h,BW e]
theorem acM(a:Int)(b:Str):decide ((Sum.inl a:DF)=Sum.inr b)=false:=BW (λq=>nomatch q)
theorem acg(a:Str)(b:Int):decide ((Sum.inr a:DF)=Sum.inl b)=false:=BW (λq=>nomatch q)
def rK(prog:Program)(w:World):PySem.KeyKind prog w DF where
 is:=oN
 hash:=zq w
 inj:=λv a b ha hb=>by
  rcases IZ ha with⟨i,t,rfl,rfl⟩|⟨x,t,rfl,rfl⟩
  ·rcases IZ hb with⟨j,u,rfl,e⟩|⟨y,u,rfl,e⟩
   ·injection e with e1 _;rw[e1]
   ·exact nomatch e
  ·rcases IZ hb with⟨j,u,rfl,e⟩|⟨y,u,rfl,e⟩
   ·exact nomatch e
   ·injection e with e1 _;rw[e1]
 byValue:=λk v h=>by
  rcases IZ h with⟨i,t,rfl,rfl⟩|⟨x,t,rfl,rfl⟩<;>rfl
 pyHash:=λhv h=>by
  rcases IZ hv with⟨i,t,rfl,rfl⟩|⟨x,t,rfl,rfl⟩
  ·exact wpAny_pyHash_int h
  ·exact wpAny_pyHash_str h
 eqBool:=λhu hv h=>by
  rcases IZ hu with⟨i,t,rfl,rfl⟩|⟨x,t,rfl,rfl⟩
  ·rcases IZ hv with⟨j,u,rfl,rfl⟩|⟨y,u,rfl,rfl⟩
   ·rw[ab1]at h;exact wpAny_eqBool_int h
   ·rw[acM]at h;exact SeqAt.EqAt.int_str i t y u _ _ _ _ h
  ·rcases IZ hv with⟨j,u,rfl,rfl⟩|⟨y,u,rfl,rfl⟩
   ·rw[acg]at h;exact SeqAt.EqAt.str_int x t j u _ _ _ _ h
   ·rw[uq]at h;exact wpAny_eqBool_str h
 «strs»:=λk x t v h=>by
  rcases IZ h with⟨i,u,rfl,e⟩|⟨y,u,rfl,e⟩
  ·exact nomatch e
  ·injection e with e1 _
   subst e1;cases v<;>rfl
inductive V where
 |non|bl (b:Bool)|int (i:Int)|str (x:Str)|byt (b:Array UInt8)|flt (b:UInt64)|ref (a:Addr)|ty (n:String)
 deriving DecidableEq
def RelV:V→Value→Prop
 |.non,u=>u=Value.none
 |.bl b,u=>u=Value.bool b
 |.int i,u=>∃t,u=Value.int i t
 |.str x,u=>∃t,u=Value.str x t
 |.byt b,u=>∃t,u=Value.bytes b t
 |.flt b,u=>∃t,u=Value.float b t
 |.ref a,u=>u=Value.ref a
 |.ty n,u=>u=Value.type n
abbrev Vals:List V→List Value→Prop:=Paired RelV
theorem Vals.length{xs:List V}(r:Vals xs us):xs.length=us.length:=Paired.length r
theorem Vals.get:∀{xs:List V} {us:List Value} {i:Nat} {x:V},Vals xs us→xs[i]?=some x→∃u,us[i]?=some u∧RelV x u
 |_,_,_,_,.nil,e=>by simp at e
 |_,_,0,_,.cons r _,e=>by simp at e;subst e;exact⟨_,rfl,r⟩
 |_,_,i+1,x,.cons _ t,e=>by
  let⟨u,h1,h2⟩:=Vals.get (i:=i) (x:=x) t (by simpa using e);exact⟨u,by simpa using h1,h2⟩
theorem Vals.set{x:V}(r:RelV x u):∀{xs:List V} {us:List Value} (i:Nat),Vals xs us→Vals (xs.set i x) (us.set i u)
 |_,_,_,.nil=>.nil
 |_,_,0,.cons _ t=>.cons r t
 |_,_,i+1,.cons q t=>.cons q (Vals.set r i t)
theorem Vals.append:∀{xs ys:List V} {us ws:List Value},Vals xs us→Vals ys ws→Vals (xs++ys) (us++ws)
 |_,_,_,_,.nil,s=>s
 |_,_,_,_,.cons r t,s=>.cons r (Vals.append t s)
theorem Vals.take:∀{xs:List V} {us:List Value} (n:Nat),Vals xs us→Vals (xs.take n) (us.take n)
 |_,_,0,_=>.nil
 |_,_,_+1,.nil=>.nil
 |_,_,n+1,.cons r t=>.cons r (Vals.take n t)
theorem Vals.drop:∀{xs:List V} {us:List Value} (n:Nat),Vals xs us→Vals (xs.drop n) (us.drop n)
 |_,_,0,r=>r
 |_,_,_+1,.nil=>.nil
 |_,_,n+1,.cons _ t=>Vals.drop n t
def rX:Option V→Option Value→Prop
 |some v,some u=>RelV v u
 |none,none=>True
 |_,_=>False
def adi{κ:Type}:List (κ×V)→List (κ×Value)→Prop:=Paired λ(p:κ×V) (q:κ×Value)=>p.1=q.1∧RelV p.2 q.2
def DQ:DF→V
 |.inl i=>.int i
 |.inr x=>.str x
inductive HO where
 /-- a list -/
 |lst (xs:List V)
 /-- a tuple (never changes) -/
 |tup (xs:List V)
 /-- a dict NQ keys are ints and texts;one NQ keys are tuples of ints and texts (zf empty one is both) -/
 |dK (lz:List (DF×V))|dT (lz:List (List DF×V))
 /-- a set of ints: bg members,bg size -/
 |set (S:Int→Bool) (n:Nat)
 /-- an instance of zf class at C,bg dict at dx,bg attributes -/
 |ins (C dx:Addr) (fs:List (Str×V))
 /-- zf dict of zf instance at x -/
 |own (x:Addr)
 /-- zf dict of an exception -/
 |xd (fs:List (Str×V))
 /-- a bound method,f of x -/
 |met (f x:Addr)
 /-- a range object lo,lo+1,.. below hi -/
 |rng (lo hi:Int)
 /-- a IY N4 is known to zf object (zf xD;a dict while a loop walks it): read,never written while it is so -/
 |frz (o:Obj) (u:HO)
 /-- a code Ph table -/
 |tbl (ps:Array Value)
 /-- any other IY,by NS is true of bg one object (a def of Vp own: SetO a S n:=HO.ext λh=>..) -/
 |ext (φ:Heap→Prop)
abbrev A7:=Addr→Option HO
def Aa(H:A7)(a:Addr)(o:HO):A7:=λb=>if b=a then some o else H b
theorem D3{o:HO}:Aa H a o a=some o:=by unfold Aa;rw[AM rfl]
theorem BA{o:HO}(h:b≠a):Aa H a o b=H b:=by unfold Aa;rw[AE h]
theorem FA{o:HO}(h:H a=some o)(h':H b=none):a≠b:=by
 intro e;subst e;rw[h]at h';cases h'
section
variable (P: Program)(w: World)
def cZ(H:A7)(h:Heap)(a:Addr):HO→Prop
 |.lst xs=>xs.length≤sizeLine∧∃(bg:List Value) (n:Nat),Vals xs bg∧h.get? a=some {cls:=.type "list",data:=.seq bg.toArray n}
 |.tup xs=>xs.length≤sizeLine∧∃bg:List Value,Vals xs bg∧IsTup h a bg.toArray
 |.dK lz=>lz.length≤sizeLine∧(a==sysModules)=false∧∃vs,adi lz vs∧h.DictOf (rK P w) a vs
 |.dT lz=>lz.length≤sizeLine∧(a==sysModules)=false∧∃xs:List (List DF×Addr×Value),
   Paired (λ(p:List DF×V) (q:List DF×Addr×Value)=>p.1=q.1∧H q.2.1=some (.tup (p.1.map DQ))∧RelV p.2 q.2.2) lz xs∧
   ∃o es ep,h.get? a=some o∧o.ExactDict∧o.data=.dict es ep∧es.toList=xs.map (entryOfKey (tupleKind (rK P w)))∧(xs.map (·.1)).Nodup
 |.set S n=>h.SetOf (intKind P w) a S n
 |.ins C dx fs=>H dx=some (.own a)∧fs.length≤1000∧dx≠a∧h.get? a=some (W.instObj C dx)∧
   ∃mA,h.Ns1 dx mA∧(∀f,rX (fs.lookup f) (mA f))∧PySem.Within mA (fs.map (·.1))
 |.own _=>∃o,h.get? a=some o
 |.xd fs=>∃mA,h.Ns1 a mA∧∀f,rX (fs.lookup f) (mA f)
 |.rng lo hi=>∃t u v,h.get? a=some {cls:=.type "range",data:=.fields #[.int lo t,.int hi u,.int 1 v]}
 |.frz o u=>h.get? a=some o∧cZ H h a u
 |.tbl ps=>h.get? a=some {cls:=.none,data:=.fields ps}
 |.met f x=>h.get? a=some (W.methodObj (.ref f) (.ref x))
 |.ext φ=>φ h∧(∃o,h.get? a=some o)∧∀h1 h2:Heap,φ h1→(∀o,h1.get? a=some o→h2.get? a=some o)→φ h2
def oM(H:A7)(h:Heap):Prop:=∀a o,H a=some o→cZ P w H h a o
end
section
variable {P: Program}{w: World}{H: A7}{h: Heap}{a: Addr}{o: HO}
theorem cZ.lt(x:cZ P w H h a o):a<h.objs.size:=by
 cases o with
 |lst xs=>let⟨_,⟨_,_,_,e⟩⟩:=x;exact BZ e
 |tup xs=>let⟨_,⟨_,_,p⟩⟩:=x;exact p.lt
 |dK lz=>let⟨_,_,⟨_,_,⟨o,_,_,e,_⟩⟩⟩:=x;exact BZ e
 |dT lz=>let⟨_,_,⟨_,_,⟨o,_,_,e,_⟩⟩⟩:=x;exact BZ e
 |set S n=>let⟨o,_,_,_,e,_⟩:=x;exact BZ e
 |ins C dx fs=>let⟨_,_,_,e,_⟩:=x;exact BZ e
 |own y=>let⟨_,e⟩:=x;exact BZ e
 |xd fs=>let⟨_,⟨_,_,_,e,_⟩,_⟩:=x;exact BZ e
 |rng lo hi=>let⟨_,_,_,e⟩:=x;exact BZ e
 |frz ob u=>let⟨e,_⟩:=x;exact BZ e
 |tbl ps=>exact BZ (show h.get? a=some _ from x)
 |met f y=>exact BZ (show h.get? a=some _ from x)
 |ext φ=>let⟨_,⟨_,e⟩,_⟩:=x;exact BZ e
theorem Paired.Pr{α β:Type}{F G:α→β→Prop}:∀{l₁:List α} {l₂:List β},Paired F l₁ l₂→(∀a b,F a b→G a b)→Paired G l₁ l₂
 |_,_,.nil,_=>.nil
 |_,_,.cons r t,f=>.cons (f _ _ r) (Paired.Pr t f)
theorem cZ.rE(x:cZ P w H h a o)(k:∀b u,(b=a∨H b=some (.own a))→h.get? b=some u→h'.get? b=some u)
  (ho:∀b,H b=some (.own a)→H' b=some (.own a)) (ht:∀b xs,H b=some (.tup xs)→H' b=some (.tup xs)):cZ P w H' h' a o:=by
 induction o with
 |lst xs=>let⟨z,⟨bg,n,r,e⟩⟩:=x;exact⟨z,bg,n,r,k _ _ (.inl rfl) e⟩
 |tup xs=>let⟨z,⟨bg,r,⟨ob,e,c⟩⟩⟩:=x;exact⟨z,bg,r,ob,k _ _ (.inl rfl) e,c⟩
 |dK lz=>let⟨z,y,⟨vs,r,⟨ob,es,ep,e,c⟩⟩⟩:=x;exact⟨z,y,vs,r,ob,es,ep,k _ _ (.inl rfl) e,c⟩
 |dT lz=>
  let⟨z,y,⟨xs,r,⟨ob,es,ep,e,c⟩⟩⟩:=x;exact⟨z,y,xs,Paired.Pr r λp q z=>⟨z.1,ht _ _ z.2.1,z.2.2⟩,ob,es,ep,k _ _ (.inl rfl) e,c⟩
 |set S n=>let⟨ob,es,ep,t,e,c⟩:=x;exact Ψ4 ob es ep t ⟨k _ _ (.inl rfl) e,c⟩
 |ins C dx fs=>
  let⟨d,z,ne,e,⟨mA,⟨od,es,ep,e2,c⟩,r⟩⟩:=x;exact⟨ho _ d,z,ne,k _ _ (.inl rfl) e,mA,Ψ3 od es ep ⟨k _ _ (.inr d) e2,c⟩,r⟩
 |own y=>let⟨ob,e⟩:=x;exact⟨ob,k _ _ (.inl rfl) e⟩
 |xd fs=>let⟨mA,⟨od,es,ep,e,c⟩,r⟩:=x;exact⟨mA,Ψ3 od es ep ⟨k _ _ (.inl rfl) e,c⟩,r⟩
 |rng lo hi=>let⟨t,u,v,e⟩:=x;exact Ψ3 t u v (k _ _ (.inl rfl) e)
 |frz ob u ih=>let⟨e,q⟩:=x;exact⟨k _ _ (.inl rfl) e,ih q⟩
 |tbl ps=>
  have e:h.get? a=some {cls:=.none,data:=.fields ps}:=x;show h'.get? a=some {cls:=.none,data:=.fields ps}
  exact k a _ (.inl rfl) e
 |met f y=>
  have e:h.get? a=some (W.methodObj (.ref f) (.ref y)):=x;show h'.get? a=some (W.methodObj (.ref f) (.ref y))
  exact k a _ (.inl rfl) e
 |ext φ=>let⟨p,⟨o,e⟩,st⟩:=x;exact⟨st _ _ p λo q=>k _ _ (.inl rfl) q,⟨o,k _ _ (.inl rfl) e⟩,st⟩
theorem oM.lt(x:oM P w H h)(e:H a=some o):a<h.objs.size:=(x a o e).lt
theorem oM.fresh(x:oM P w H h)(e:h.objs.size≤a):H a=none:=by
 cases q:H a with
 |none=>rfl
 |some u=>exact absurd (EN (x.lt q) e) (Ib _)
theorem oM.kept(x:oM P w H h)(k:∀b u,h.get? b=some u→h'.get? b=some u):oM P w H h':=λa o e=>
 (x a o e).rE (λb u _ q=>k b u q) (λ_ q=>q) λ_ _ q=>q
theorem oM.laid(x:oM P w H h)(k:∀b u,h.get? b=some u→h'.get? b=some u)(hp:h.objs.size≤a)(new:cZ P w (Aa H a o) h' a o):oM P w (Aa H a o) h':=λb u e=>by
 have hn:=x.fresh hp;by_cases hb:b=a
 ·subst hb;rw[D3]at e;cases e;exact new
 ·rw[BA hb]at e
  exact(x b u e).rE (λc v _ q=>k c v q) (λc q=>by rw[BA (FA q hn)];exact q) λc xs q=>by rw[BA (FA q hn)];exact q
end
def Rd(H:A7)(a:Addr)(u:HO):Prop:=H a=some u∨∃o,H a=some (.frz o u)
theorem Rd.ok{u:HO}(r:Rd H a u)(x:oM P w H h):cZ P w H h a u:=by
 rcases r with r|⟨o,r⟩
 ·exact x a u r
 ·let⟨_,q⟩:=x a _ r
  exact q
def QO:Option HO→Prop
 |some (.lst _)=>True
 |some (.dK _)=>True
 |some (.dT _)=>True
 |some (.set _ _)=>True
 |some (.ins _ _ _)=>True
 |some (.ext _)=>True
 |_=>False
section
variable {P: Program}{w: World}{H: A7}{h: Heap}{x e: Addr}{o': HO}
theorem oM.write(ok:oM P w H h)(mu:QO (H x))(he:e=x∨H e=some (.own x))(k:∀b u,b≠e→h.get? b=some u→h'.get? b=some u)(NF:∃u,h'.get? e=some u)
  (new:cZ P w (Aa H x o') h' x o'):oM P w (Aa H x o') h':=λb u q=>by
 have Pj:∀c y,H c=some (.own y)→c≠x:=λc y r z=>by subst z;rw[r]at mu;exact mu
 have S1:∀c xs,H c=some (.tup xs)→c≠x:=λc xs r z=>by subst z;rw[r]at mu;exact mu
 by_cases hb:b=x
 ·subst hb;rw[D3]at q;cases q;exact new
 ·rw[BA hb]at q
  by_cases MU:b=e
  ·have q':H b=some (.own x):=by
    rcases he with z|z
    ·exact absurd (MU.trans z) hb
    ·rw[MU];exact z
   rw[q]at q';cases q';let⟨v,hv⟩:=NF;exact⟨v,by rw[MU];exact hv⟩
  ·exact(ok b u q).rE (λc v hc r=>k c v ?_ r) (λc r=>by rw[BA (Pj c b r)];exact r) λc xs r=>by rw[BA (S1 c xs r)];exact r
   rcases hc with rfl|hc
   ·exact MU
   ·rintro rfl
    rcases he with z|z
    ·exact Pj c b hc z
    ·rw[hc]at z;cases z;exact hb rfl
end
structure Un(fs ex:List Addr)(H H':A7)(h h':Heap):Prop where
 keep:∀b o,h.get? b=some o→H b=none→b∉fs→b∉ex→h'.get? b=some o
 slot:∀b o,h.get? b=some o→H b=none→b∈fs→b∉ex→∃sl,h'.get? b=some {o with slots:=sl}
 free:∀b o,h.get? b=some o→H b=none→b∉ex→H' b=none
 there:∀b o,h.get? b=some o→b∉ex→∃o',h'.get? b=some o'
 j6:∀b xs,H b=some (.tup xs)→H' b=some (.tup xs)
 jY:∀b o u,H b=some (.frz o u)→H' b=some (.frz o u)
 kc:∀b ps,H b=some (.tbl ps)→∃more,H' b=some (.tbl (ps++more))
section
variable {fs ex: List Addr}{H H1: A7}{h h1: Heap}{a x e: Addr}{o: HO}
theorem Un.any(u:Un fs ex H H1 h h1){ob:Obj}(q:h.get? b=some ob)(n:H b=none)(hx:b∉ex):∃sl,h1.get? b=some {ob with slots:=sl}:=by
 by_cases hb:b∈fs
 ·exact u.slot b ob q n hb hx
 ·exact⟨ob.slots,u.keep b ob q n hb hx⟩
theorem Un.kept(k:∀b u,h.get? b=some u→h'.get? b=some u):Un fs ex H H h h':=
 ⟨λb ob q _ _ _=>k b ob q,λb ob q _ _ _=>⟨ob.slots,k b ob q⟩,λ_ _ _ n _=>n,λb ob q _=>⟨ob,k b ob q⟩,λ_ _ q=>q,λ_ _ _ q=>q,λ_ ps q=>⟨#[],by rw[q];simp⟩⟩
theorem Un.refl:Un fs ex H H h h:=Un.kept λ_ _ q=>q
theorem Un.laid(k:∀b u,h.get? b=some u→h'.get? b=some u)(hp:h.objs.size≤a)(hn:H a=none):Un fs ex H (Aa H a o) h h' where
 keep:=λb u q _ _ _=>k b u q
 slot:=λb u q _ _ _=>⟨u.slots,k b u q⟩
 free:=λb u q n _=>by rw[BA (DU (EN (BZ q) hp))];exact n
 there:=λb u q _=>⟨u,k b u q⟩
 j6:=λb xs q=>by rw[BA (FA q hn)];exact q
 jY:=λb u xs q=>by rw[BA (FA q hn)];exact q
 kc:=λb ps q=>⟨#[],by rw[BA (FA q hn),q];simp⟩
theorem Un.write(mu:QO (H x))(he:e=x∨H e=some (.own x))(k:∀b u,b≠e→h.get? b=some u→h'.get? b=some u)(NF:∃u,h'.get? e=some u):Un fs ex H (Aa H x o) h h':=by
 have hx:∀b,H b=none→b≠x:=λb n z=>by subst z;rw[n]at mu;exact mu
 have hb:∀b,H b=none→b≠e:=λb n z=>by
  subst z;rcases he with r|r
  ·exact hx b n r
  ·rw[n]at r;cases r
 have hm:∀b u,H b=some u→¬QO (some u)→b≠x:=λb u q nm z=>by subst z;rw[q]at mu;exact nm mu
 exact⟨λb u q n _ _=>k b u (hb b n) q,λb u q n _ _=>⟨u.slots,k b u (hb b n) q⟩,λb u q n _=>by rw[BA (hx b n)];exact n,λb u q _=>?_,
  λb xs q=>by rw[BA (hm b _ q λz=>z)];exact q,λb u xs q=>by rw[BA (hm b _ q λz=>z)];exact q,λb ps q=>⟨#[],by rw[BA (hm b _ q λz=>z),q];simp⟩⟩
 by_cases MU:b=e
 ·subst MU;exact NF
 ·exact⟨u,k b u MU q⟩
end
def Nf(h:Heap)(H:A7):List Addr:=(List.range h.objs.size).filter λa=>(H a).isSome
def Ij(h:Heap)(H:A7):Heap:=W.hideAll h (Nf h H)
theorem acP(h:Heap)(H:A7):(Ij h H).objs.size=h.objs.size:=W.hideAll_size _ _
theorem xV(e:h.get? b=some o)(n:H b=none):(Ij h H).get? b=some o:=
 W.hideAll_get _ e λhm=>by
  have q:(H b).isSome=true:=(List.mem_filter.mp hm).2;rw[n]at q;simp at q
theorem xO(e:(Ij h H).get? b=some o):h.get? b=some o∧H b=none:=by
 have e':h.get? b=some o:=W.of_hideAll (Nf h H) e;exact⟨e',?_⟩;cases q:H b with
 |none=>rfl
 |some x=>
  have hm:b∈Nf h H:=List.mem_filter.mpr ⟨ace.mpr (BZ e'),by simp[q]⟩;have z:(Ij h H).get? b=none:=W.hideAll_none (Nf h H) hm;rw[z]at e;cases e
def sQ(g h:Heap)(L:Addr):ac:=(List.range h.objs.size).filterMap λa=>if a=L∨(g.get? a).isSome=true then none else(h.get? a).map λo=>(a,o)
def v4(g h:Heap)(L d:Addr):ac:=(sQ g h L).filter λp=>decide (p.1≠d)
structure Mod(K:W.Frag)(mg:KK)(base:Heap):Prop where
 JJ:K.In base
 glob:base.Ns mainGlobals mg
 blt:∃mb,base.Ns builtinsNs mb∧∀x:Str,x ≠ "__name__" → mb x=bootBuiltins x
 nolimit:base.NoLimit
structure Cx where
 prog:Program
 w:World
 K:W.Frag
 mg:KK
 base:Heap
 A:Around
 N:List Str
 s₀:Shared
 H₀:A7
 env:Env
 outer:List Env
 stack:List Env
 ex:List Addr
 fn:Str→Bool
 calm:Bool
 pn:ac
 xe:xz
def DV(l:List Env):List Addr:=l.filterMap (·.frame)
abbrev Cx.fs(X:Cx):List Addr:=DV X.outer
def Lm(sc:Scope)(x:Str):Prop:=sc.names.lookup x=some .local∨sc.names.lookup x=some .cell∨sc.names.lookup x=some .free
def I0(sc:Scope)(x:Str):Prop:=sc.names.lookup x=some .local∨sc.names.lookup x=some .cell
abbrev Fk(X:Cx)(x:Str):Prop:=X.fn x=true∨X.env.scope.names.lookup x=some .local
def Look(env:Env)(h:Heap)(m:KK)(x:Str)(u:Value):Prop:=
 (env.kindOf x=some .local∧m x=some u)∨((env.kindOf x=some .cell∨env.kindOf x=some .free)∧∃c,env.cells.lookup x=some c∧h.IsCell c (some u))
structure Cx.Ok(X:Cx):Prop where
 mod:Mod X.K X.mg X.base
 kind:X.env.scope.kind=.function
 glob:X.env.globals=mainGlobals
 blt:X.env.builtins=builtinsNs
 above:X.s₀.heap.objs.size≤X.env.locals
 inj:∀x y c,X.env.cells.lookup x=some c→X.env.cells.lookup y=some c→x=y
 has:∀x,(X.env.kindOf x=some .cell∨X.env.kindOf x=some .free)→∃c,X.env.cells.lookup x=some c
 J3:∀x c,X.fn x=true→X.env.cells.lookup x=some c→X.s₀.heap.objs.size≤c
 hd:X.calm=true→X.A.handled=none
 frames:X.A.frames=some X.stack
 K5:X.stack=X.outer∨(X.stack=X.env::X.outer∧X.env.frame=some X.env.locals)
 M8:∀b∈X.ex,b≠X.env.locals∧∀x c,X.env.cells.lookup x=some c→c≠b
 bs:∀b o,X.base.get? b=some o→X.s₀.heap.get? b=some o∧X.H₀ b=none
 FH:X.base.objs.size≤X.s₀.heap.objs.size
 vJ:∀b o,X.base.get? b=some o→b∉X.ex
 uA:∀b∈X.ex,b∉X.fs
 lL:X.s₀.heap.FunFrames X.base X.outer
 F0:∀b∈X.fs,X.H₀ b=none
structure Inv(X:Cx)(v0:ac)(σ:List (Option V))(H:A7)(s:Shared):Prop where
 ok:X.Ok
 os:s.os=X.s₀.os
 bare:AllBare s.gens
 base:Un X.fs X.ex X.H₀ H X.s₀.heap s.heap
 loc:∃m,s.heap.Ns X.env.locals m∧∀(i:Nat) (x:Str) (v:V),X.N[i]?=some x→σ[i]?=some (some v)→Lm X.env.scope x→∃u,RelV v u∧Look X.env s.heap m x u
 cell:∀x c,X.env.cells.lookup x=some c→∃v,s.heap.IsCell c v
 free:H X.env.locals=none
 gh:∀x c,X.env.cells.lookup x=some c→H c=none
 pin:∀p∈X.pn++v0,s.heap.get? p.1=some p.2∧H p.1=none∧p.1≠X.env.locals∧p.1∉X.fs∧∀v,p.2.data≠.cell v
 cN:oM X.prog X.w H s.heap
 len:σ.length=X.N.length
section
variable {v0: List (Addr×Obj)}{σ: List (Option V)}{H: A7}{s: Shared}
theorem Cx.Ok.S4(ok:X.Ok)(e:X.base.get? b=some o):b∉X.fs:=λhb=>by
 have:=(ok.lL.mem hb).1;rw[e]at this;cases this
theorem Inv.bs(I:Inv X v0 σ H s):∀b o,X.base.get? b=some o→s.heap.get? b=some o∧H b=none:=λb o e=>
 ⟨I.base.keep b o (I.ok.bs b o e).1 (I.ok.bs b o e).2 (I.ok.S4 e) (I.ok.vJ b o e),I.base.free b o (I.ok.bs b o e).1 (I.ok.bs b o e).2 (I.ok.vJ b o e)⟩
theorem Inv.bk(I:Inv X v0 σ H s):∀b o,X.base.get? b=some o→s.heap.get? b=some o:=λb o e=>(I.bs b o e).1
theorem Inv.mod(I:Inv X v0 σ H s):Mod X.K X.mg X.base:=I.ok.mod
theorem Inv.kN(I:Inv X v0 σ H s):X.K.In s.heap:=I.ok.mod.JJ.keeps I.bk
theorem Inv.lt(I:Inv X v0 σ H s):X.env.locals<s.heap.objs.size:=let⟨_,hn,_⟩:=I.loc;hn.lt
theorem Inv.sz(I:Inv X v0 σ H s):X.s₀.heap.objs.size≤s.heap.objs.size:=Ce I.ok.above (DE I.lt)
theorem Inv.S2(I:Inv X v0 σ H s)(h:s.heap.objs.size≤a):a∉X.fs:=λhb=>by
 let⟨_,⟨o,ho,_⟩⟩:=I.ok.lL.mem hb;exact absurd (EN (BZ ho) (Ce I.sz h)) (Ib _)
theorem Inv.Iv(I:Inv X v0 σ H s):∀x c,X.env.cells.lookup x=some c→c≠X.env.locals:=λx c e z=>by
 let⟨v,o,ho,hd⟩:=I.cell x c e;let⟨m,⟨o',es,ep,nc,E2,_⟩,_⟩:=I.loc;rw[z,nc]at ho;cases ho;rw[E2]at hd;cases hd
theorem Inv.lL(I:Inv X v0 σ H s):s.heap.FunFrames X.base X.outer:=by
 have all:∀(l:List Env),(∀b∈DV l,b∈X.fs)→X.s₀.heap.FunFrames X.base l→s.heap.FunFrames X.base l:=by
  intro l;induction l with
  |nil=>intro _ _;trivial
  |cons env r ih=>
   intro hs hl;let⟨hk,⟨L,o,hf,hn,ho,hd⟩,hr⟩:=hl;have hL:L∈X.fs:=hs L (by unfold DV;rw[LX,hf];exact JH);let⟨sl,e⟩:=I.base.slot L o ho (I.ok.F0 L hL) hL λz=>I.ok.uA L z hL;exact⟨hk,Ψ2 L _ ⟨hf,hn,e,hd⟩,ih (λb hb=>hs b (by unfold DV;rw[LX,hf];exact GO _ hb)) hr⟩
 exact all X.outer (λ_ hb=>hb) I.ok.lL
theorem Inv.stack(I:Inv X v0 σ H s):s.heap.FunFrames X.base X.stack:=by
 rcases I.ok.K5 with e|⟨e,hf⟩
 ·rw[e];exact I.lL
 ·rw[e]
  let⟨m,hn,_⟩:=I.loc;exact .cons (by rw[I.ok.kind];decide) hf hn ?_ I.lL;exact Heap.get?_none_of_le (Ce I.ok.FH I.ok.above)
theorem Inv.tN(I:Inv X v0 σ H s):∀b∈DV X.stack,b∈X.env.locals::X.fs:=λb hb=>by
 rcases I.ok.K5 with e|⟨e,hf⟩
 ·rw[e]at hb;exact GO _ hb
 ·rw[e]at hb
  unfold DV at hb;rw[LX,hf]at hb;exact hb
theorem Inv.mO(I:Inv X v0 σ H s):∀b∈DV X.stack,H b=none:=λb hb=>by
 rcases aam.mp (I.tN b hb)with e|hb
 ·rw[e];exact I.free
 ·let⟨_,⟨o,ho,_⟩⟩:=I.ok.lL.mem hb
  exact I.base.free b o ho (I.ok.F0 b hb) λz=>I.ok.uA b z hb
theorem Inv.step(I:Inv X v0 σ H s)
  (FX:∀b∈ch,(b∈X.ex∨X.s₀.heap.objs.size≤b)∧b≠X.env.locals∧(∀x c,X.env.cells.lookup x=some c→c≠b)∧∀p∈X.pn++v0,p.1≠b)
  (keep:∀b o,b≠X.env.locals→b∉X.fs→b∉ch→s.heap.get? b=some o→H b=none→h'.get? b=some o)
  (slot:∀b o,b≠X.env.locals→b∈X.fs→b∉ch→s.heap.get? b=some o→H b=none→∃sl,h'.get? b=some {o with slots:=sl}) (free:∀b o,b∉ch→s.heap.get? b=some o→H b=none→H' b=none)
  (there:∀b o,b∉ch→s.heap.get? b=some o→∃o',h'.get? b=some o')
  (j6:∀b xs,H b=some (.tup xs)→H' b=some (.tup xs)) (jY:∀b o u,H b=some (.frz o u)→H' b=some (.frz o u)) (kc:∀b ps,H b=some (.tbl ps)→∃more,H' b=some (.tbl (ps++more)))
  (ns:∀m,s.heap.Ns X.env.locals m→h'.Ns X.env.locals m) (cN:oM X.prog X.w H' h') (hg:AllBare g') :
  Inv X v0 σ H' {s with heap:=h',gens:=g',drawn:=d',toks:=t'}:=by
 have Vw:∀b o,X.s₀.heap.get? b=some o→b≠X.env.locals:=λb o e=>DU (EN (BZ e) I.ok.above);have Ru:∀b o,X.s₀.heap.get? b=some o→b∉X.ex→b∉ch:=λb o e hx hb=>by
  rcases(FX b hb).1 with z|z
  ·exact hx z
  ·exact absurd (EN (BZ e) z) (Ib _)
 have cellK:∀x c,X.env.cells.lookup x=some c→∀v,s.heap.IsCell c v→h'.IsCell c v:=λx c e v ξ=>Ξ12 ξ λo ho hd=>by
  have Eo:c∉ch:=λz=>(FX c z).2.2.1 x c e rfl;by_cases hc:c∈X.fs
  ·let⟨sl,q⟩:=slot c o (I.Iv x c e) hc Eo ho (I.gh x c e)
   exact⟨_,q,hd⟩
  ·exact⟨o,keep c o (I.Iv x c e) hc Eo ho (I.gh x c e),hd⟩
 exact⟨I.ok,I.os,hg,⟨λb o e n hb hx=>?_,λb o e n hb hx=>?_,λb o e n hx=>?_,λb o e hx=>?_,λb xs e=>j6 b xs (I.base.j6 b xs e),λb o xs e=>jY b o xs (I.base.jY b o xs e),λb ps e=>?_⟩,?_,λx c e=>?_,?_,λx c e=>?_,λp hp=>?_,cN,I.len⟩
 ·exact keep b o (Vw b o e) hb (Ru b o e hx) (I.base.keep b o e n hb hx) (I.base.free b o e n hx)
 ·let⟨sl,e1⟩:=I.base.slot b o e n hb hx
  let⟨SI,e2⟩:=slot b _ (Vw b o e) hb (Ru b o e hx) e1 (I.base.free b o e n hx);exact⟨SI,e2⟩
 ·let⟨o',e1⟩:=I.base.there b o e hx
  exact free b o' (Ru b o e hx) e1 (I.base.free b o e n hx)
 ·let⟨o',e1⟩:=I.base.there b o e hx
  exact there b o' (Ru b o e hx) e1
 ·let⟨m1,e1⟩:=I.base.kc b ps e
  let⟨m2,e2⟩:=kc b _ e1;exact⟨m1++m2,by rw[e2,Array.append_assoc]⟩
 ·let⟨m,hn,hl⟩:=I.loc
  exact⟨m,ns m hn,λi x v e1 e2 e3=>?_⟩;let⟨u,r,l⟩:=hl i x v e1 e2 e3;exact⟨u,r,?_⟩;rcases l with l|⟨k,c,e,z⟩
  ·exact .inl l
  ·exact .inr ⟨k,c,e,cellK x c e _ z⟩
 ·let⟨v,z⟩:=I.cell x c e
  exact⟨v,cellK x c e v z⟩
 ·let⟨m,⟨o,_,_,ho,_⟩,_⟩:=I.loc
  exact free _ o (λz=>(FX _ z).2.1 rfl) ho I.free
 ·let⟨v,o,ho,hd⟩:=I.cell x c e
  exact free c o (λz=>(FX c z).2.2.1 x c e rfl) ho (I.gh x c e)
 ·let⟨e,n,ne,nf,d⟩:=I.pin p hp
  have Eo:p.1∉ch:=λz=>(FX p.1 z).2.2.2 p hp rfl;exact⟨keep p.1 p.2 ne nf Eo e n,free p.1 p.2 Eo e n,ne,nf,d⟩
theorem Inv.un(I:Inv X v0 σ H s)(u:Un X.fs [] H H' s.heap h')(cN:oM X.prog X.w H' h'):Inv X v0 σ H' {s with heap:=h',toks:=t'}:=by
 let⟨m,⟨o,es,ep,ho,r⟩,_⟩:=id I.loc;let⟨sl,hL⟩:=u.any ho I.free (by simp);exact I.step (g':=s.gens) (d':=s.drawn) (ch:=[]) (λ_ z=>nomatch z) (λb o _ hb _ e n=>u.keep b o e n hb (by simp)) (λb o _ hb _ e n=>u.slot b o e n hb (by simp)) (λb o _ e n=>u.free b o e n (by simp)) (λb o _ e=>u.there b o e (by simp)) u.j6 u.jY u.kc (λm' hm=>by
  let⟨o',UC,UG,nc,r'⟩:=hm;rw[ho]at nc;cases nc;exact Ψ3 _ UC UG ⟨hL,r'⟩) cN I.bare
theorem Inv.call(I:Inv X v0 σ H s)(u:Un (DV X.stack) ch H H' s.heap h')(cN:oM X.prog X.w H' h')(hg:AllBare g')
  (FX:∀b∈ch,(b∈X.ex∨X.s₀.heap.objs.size≤b)∧b≠X.env.locals∧(∀x c,X.env.cells.lookup x=some c→c≠b)∧∀p∈X.pn++v0,p.1≠b) :
  Inv X v0 σ H' {s with heap:=h',gens:=g',drawn:=d',toks:=t'}:=by
 let⟨m,⟨o,es,ep,ho,r⟩,_⟩:=id I.loc;let⟨sl,hL⟩:=u.any ho I.free λz=>(FX _ z).2.1 rfl;exact I.step (ch:=ch) FX (λb o hL hb hc e n=>u.keep b o e n (λz=>(aam.mp (I.tN b z)).elim hL hb) hc) (λb o _ _ hc e n=>u.any e n hc) (λb o hc e n=>u.free b o e n hc) (λb o hc e=>u.there b o e hc) u.j6 u.jY u.kc (λm' hm=>by
  let⟨o',UC,UG,nc,r'⟩:=hm;rw[ho]at nc;cases nc;exact Ψ3 _ UC UG ⟨hL,r'⟩) cN hg
theorem Inv.turned(I:Inv X v0 σ H s)(k:∀b o,b≠it→s.heap.get? b=some o→h'.get? b=some o)(hn:H it=none)(hL:it≠X.env.locals)
  (h1:it∈X.ex∨X.s₀.heap.objs.size≤it) (h2:∀x c,X.env.cells.lookup x=some c→c≠it) (h3:∀p∈X.pn++v0,p.1≠it):Inv X v0 σ H {s with heap:=h',toks:=t'}:=by
 have Vu:∀b u,H b=some u→b≠it:=λb u e z=>by rw[z,hn]at e;cases e
 exact I.step (g':=s.gens) (d':=s.drawn) (ch:=[it]) (λb hb=>?_) (λb o _ _ hc e _=>k b o (λz=>hc (by simp[z])) e) (λb o _ _ hc e _=>⟨o.slots,k b o (λz=>hc (by simp[z])) e⟩) (λ_ _ _ _ n=>n)
  (λb o hc e=>⟨o,k b o (λz=>hc (by simp[z])) e⟩) (λ_ _ e=>e) (λ_ _ _ e=>e) (λb ps e=>⟨#[],by rw[e];simp⟩) (λm hm=>?_) (λb u e=>?_) I.bare
 ·have e:b=it:=by simpa using hb
  subst e;exact⟨h1,hL,h2,h3⟩
 ·let⟨o,es,ep,ho,r⟩:=hm
  exact Ψ3 o es ep ⟨k _ o (IC hL) ho,r⟩
 ·exact(I.cN b u e).rE (λc v hc q=>k c v ?_ q) (λ_ q=>q) λ_ _ q=>q
  rcases hc with z|z
  ·rw[z];exact Vu b u e
  ·exact Vu c _ z
theorem Inv.tok(I:Inv X v0 σ H s)(t:Nat):Inv X v0 σ H {s with toks:=t}:=I.un (h':=s.heap) (t':=t) Un.refl I.cN
theorem Inv.kept(I:Inv X v0 σ H s)(k:∀b u,s.heap.get? b=some u→h'.get? b=some u):Inv X v0 σ H {s with heap:=h',toks:=t'}:=I.un (Un.kept k) (I.cN.kept k)
theorem Inv.laid{o:HO}(I:Inv X v0 σ H s)(k:∀b u,s.heap.get? b=some u→h'.get? b=some u)(hp:s.heap.objs.size≤a)(new:cZ X.prog X.w (Aa H a o) h' a o):
  Inv X v0 σ (Aa H a o) {s with heap:=h',toks:=t'}:=I.un (Un.laid k hp (I.cN.fresh hp)) (I.cN.laid k hp new)
theorem Inv.write{x e:Addr}{o:HO}(I:Inv X v0 σ H s)(mu:QO (H x))(he:e=x∨H e=some (.own x))(k:∀b u,b≠e→s.heap.get? b=some u→h'.get? b=some u)(NF:∃u,h'.get? e=some u)
  (new:cZ X.prog X.w (Aa H x o) h' x o):Inv X v0 σ (Aa H x o) {s with heap:=h',toks:=t'}:=I.un (Un.write mu he k NF) (I.cN.write mu he k NF new)
theorem Inv.zA{oB:ac}(I:Inv X v0 σ H s)(h:∀p∈oB,s.heap.get? p.1=some p.2∧H p.1=none∧p.1≠X.env.locals∧p.1∉X.fs∧∀v,p.2.data≠.cell v):Inv X oB σ H s:=
 ⟨I.ok,I.os,I.bare,I.base,I.loc,I.cell,I.free,I.gh,λp hp=>(aaH.mp hp).elim (λz=>I.pin p (Iz _ z)) (h p),I.cN,I.len⟩
theorem fm(hN:N.Nodup)(a:N[i]?=some x)(b:N[j]?=some x):i=j:=by
 obtain⟨h1,e1⟩:=aa9.mp a;obtain⟨h2,e2⟩:=aa9.mp b;exact(List.getElem_inj hN).mp (e1.trans e2.symm)
theorem jZ{Q:Unit→Shared→Prop}(I:Inv X v0 σ H s)(hN:X.N.Nodup)(hi:X.N[i]?=some x)(hx:I0 X.env.scope x)(r:RelV v u)
  (h:∀s',Inv X v0 (σ.set i (some v)) H s'→(∃a,Heap.SameBut a s.heap s'.heap∧(a=X.env.locals∨X.env.cells.lookup x=some a))→Q () s') (hf:Fk X x:=by first|exact .inl rfl|exact .inr rfl|assumption):wpAny M A (storeName X.env x u) Q E s:=by
 let⟨m,hn,hl⟩:=id I.loc;have MS:(X.env.scope.kind == .class||(X.env.scope.kind == .module&&X.env.locals != X.env.globals))=false:=by rw[I.ok.kind];rfl
 have V1:i<σ.length:=by rw[I.len];exact(aa9.mp hi).1
 have Iv:=I.Iv;have tracked:∀{a:Addr} {h':Heap},(∃o,s.heap.get? a=some o∧H a=none)→Heap.SameBut a s.heap h'→oM X.prog X.w H h':=λ{a h'} ha hs b ob e=>by
  let⟨_,_,JQ⟩:=ha;exact(I.cN b ob e).rE (λc w' hc q=>(hs.2 c ?_).trans q) (λ_ q=>q) λ_ _ q=>q;rintro rfl;rcases hc with rfl|hc
  ·rw[JQ]at e;cases e
  ·rw[JQ]at hc;cases hc
 rcases hx with hk|hk
 ·exact wpAny_storeName_local hk hn (λh' MH hs=>?_) MS
  let⟨oL,_,_,Ya,_⟩:=id hn;exact h _ ⟨I.ok,I.os,I.bare,⟨λb o e n hb hx=>?_,λb o e n hb hx=>?_,I.base.free,λb o e hx=>?_,I.base.j6,I.base.jY,I.base.kc⟩,⟨_,MH,λj y v' e1 e2 e3=>?_⟩,λy c e=>?_,I.free,I.gh,λp hp=>?_,tracked ⟨oL,Ya,I.free⟩ hs,by simpa using I.len⟩ ⟨_,hs,.inl rfl⟩
  ·exact(hs.2 b (DU (EN (BZ e) I.ok.above))).trans (I.base.keep b o e n hb hx)
  ·let⟨sl,e1⟩:=I.base.slot b o e n hb hx
   exact⟨sl,(hs.2 b (DU (EN (BZ e) I.ok.above))).trans e1⟩
  ·let⟨o',e1⟩:=I.base.there b o e hx
   exact⟨o',(hs.2 b (DU (EN (BZ e) I.ok.above))).trans e1⟩
  ·by_cases hj:j=i
   ·subst hj
    rw[hi]at e1;cases e1;rw[SU V1]at e2;cases e2;exact⟨u,r,.inl ⟨hk,by simp⟩⟩
   ·rw[UM (IC hj)]at e2
    let⟨u',r',q⟩:=hl j y v' e1 e2 e3;exact⟨u',r',?_⟩;rcases q with⟨k,e⟩|⟨k,c,e,z⟩
    ·exact .inl ⟨k,?_⟩
     have:y≠x:=λe=>hj (fm hN e1 (e ▸ hi));simp[this,e]
    ·exact .inr ⟨k,c,e,z.sameBut hs (Iv y c e)⟩
  ·let⟨w',z⟩:=I.cell y c e
   exact⟨w',z.sameBut hs (Iv y c e)⟩
  ·let⟨e,n,ne,nf,d⟩:=I.pin p hp
   exact⟨(hs.2 p.1 ne).trans e,n,ne,nf,d⟩
 ·have Uc:X.fn x=true:=by
   rcases hf with z|z
   ·exact z
   ·rw[z]at hk;cases hk
  let⟨c,hc⟩:=I.ok.has x (.inl hk);let⟨w',z⟩:=I.cell x c hc;exact wpAny_storeName_cell I.ok.kind hk hc z (λh' MT hs=>?_);let⟨oc,JP,T1⟩:=id z;exact h {s with heap:=h'} ⟨I.ok,I.os,I.bare,⟨λb o e n hb hx=>?_,λb o e n hb hx=>?_,I.base.free,λb o e hx=>?_,I.base.j6,I.base.jY,I.base.kc⟩,⟨m,hn.sameBut hs (IC (Iv x c hc)),λj y v' e1 e2 e3=>?_⟩,λy c' e=>?_,I.free,I.gh,λp hp=>?_,tracked ⟨oc,JP,I.gh x c hc⟩ hs,by simpa using I.len⟩ ⟨c,hs,.inr hc⟩
  ·exact(hs.2 b (DU (EN (BZ e) (I.ok.J3 x c Uc hc)))).trans (I.base.keep b o e n hb hx)
  ·let⟨sl,e1⟩:=I.base.slot b o e n hb hx
   exact⟨sl,(hs.2 b (DU (EN (BZ e) (I.ok.J3 x c Uc hc)))).trans e1⟩
  ·let⟨o',e1⟩:=I.base.there b o e hx
   exact⟨o',(hs.2 b (DU (EN (BZ e) (I.ok.J3 x c Uc hc)))).trans e1⟩
  ·by_cases hj:j=i
   ·subst hj
    rw[hi]at e1;cases e1;rw[SU V1]at e2;cases e2;exact⟨u,r,.inr ⟨.inl hk,c,hc,MT⟩⟩
   ·rw[UM (IC hj)]at e2
    let⟨u',r',q⟩:=hl j y v' e1 e2 e3;exact⟨u',r',?_⟩;rcases q with q|⟨k,c',e,z'⟩
    ·exact .inl q
    ·exact .inr ⟨k,c',e,z'.sameBut hs ?_⟩
     rintro rfl;exact hj (fm hN e1 (I.ok.inj _ _ _ e hc ▸ hi))
  ·by_cases V3:c'=c
   ·subst V3;exact⟨_,MT⟩
   ·let⟨w2,z2⟩:=I.cell y c' e
    exact⟨w2,z2.sameBut hs V3⟩
  ·let⟨e,n,ne,nf,d⟩:=I.pin p hp
   exact⟨(hs.2 p.1 ?_).trans e,n,ne,nf,d⟩;intro q;rw[q,JP]at e;have q':oc=p.2:=Cr e;exact d w' (by rw[←q'];exact T1)
theorem S0{Q:Unit→Shared→Prop}(I:Inv X v0 σ H s)(hN:X.N.Nodup)(hi:X.N[i]?=some x)(hx:I0 X.env.scope x)(r:RelV v u)
  (h:∀s',Inv X v0 (σ.set i (some v)) H s'→Q () s') (hf:Fk X x:=by first|exact .inl rfl|exact .inr rfl|assumption):wpAny M A (storeName X.env x u) Q E s:=
 jZ I hN hi hx r (λs' I' _=>h s' I') hf
theorem Inv.FF(I:Inv X v0 σ H s)(ho:s'.os=s.os)(u:Un (DV X.stack) ch H H' s.heap s'.heap)(cN:oM X.prog X.w H' s'.heap)(hg:AllBare s'.gens)
  (FX:∀b∈ch,(b∈X.ex∨X.s₀.heap.objs.size≤b)∧b≠X.env.locals∧(∀x c,X.env.cells.lookup x=some c→c≠b)∧∀p∈X.pn++v0,p.1≠b):Inv X v0 σ H' s':=by
 obtain⟨h',g',d',t',o'⟩:=s';have e:o'=s.os:=ho;subst e;exact I.call (g':=g') (t':=t') (d':=d') u cN hg FX
end
abbrev BG:=Value→Option Addr→A7→Prop
abbrev St:=List (Option V)
abbrev Ar:=V→A7→Prop
abbrev Ah:=St→A7→Ar→Prop
abbrev D0:=St→A7→(Bool→A7→Prop)→Prop
abbrev Cm:=St→A7→(List V→A7→Prop)→Prop
structure Ends where
 nx:St→A7→Prop
 rt:Ar
 bk:St→A7→Prop:=λ_ _=>False
 ct:St→A7→Prop:=λ_ _=>False
abbrev Bu:=Ends→St→A7→Prop
def Cf(X:Cx)(v0:ac)(σ:St)(Q:Ar)(u:Value)(s':Shared):Prop:=∃v H',Inv X v0 σ H' s'∧RelV v u∧Q v H'
def Km(X:Cx)(v0:ac)(σ:St)(Q:Bool→A7→Prop)(b:Bool)(s':Shared):Prop:=∃H',Inv X v0 σ H' s'∧Q b H'
def OC(X:Cx)(v0:ac)(σ:St)(Q:List V→A7→Prop)(us:List Value)(s':Shared):Prop:=∃vs H',Inv X v0 σ H' s'∧Vals vs us∧Q vs H'
def SP(X:Cx)(v0:ac)(D:Ends)(f:Flow)(s':Shared):Prop:=
 match f with
 |.next=>∃σ' H',Inv X v0 σ' H' s'∧D.nx σ' H'
 |.brk=>∃σ' H',Inv X v0 σ' H' s'∧D.bk σ' H'
 |.cont=>∃σ' H',Inv X v0 σ' H' s'∧D.ct σ' H'
 |.ret u=>∃v σ' H',Inv X v0 σ' H' s'∧RelV v u∧D.rt v H'
structure PE(X:Cx)(e:Expr)(t:Ah):Prop where
 run:∀v0 s σ H (Q:Ar),Inv X v0 σ H s→t σ H Q→wpAny (model X.prog X.w) X.A (eval e X.env) (Cf X v0 σ Q) X.xe s
instance {X:Cx}{e:Expr}{t:Ah}:CoeFun (PE X e t) λ_=>∀v0 s σ H (Q:Ar),Inv X v0 σ H s→t σ H Q→wpAny (model X.prog X.w) X.A (eval e X.env) (Cf X v0 σ Q) X.xe s:=⟨PE.run⟩
structure PT(X:Cx)(e:Expr)(t:D0):Prop where
 run:∀v0 s σ H (Q:Bool→A7→Prop),Inv X v0 σ H s→t σ H Q→wpAny (model X.prog X.w) X.A (isTrue e X.env (eval e X.env)) (Km X v0 σ Q) X.xe s
instance {X:Cx}{e:Expr}{t:D0}:CoeFun (PT X e t) λ_=>∀v0 s σ H (Q:Bool→A7→Prop),Inv X v0 σ H s→t σ H Q→wpAny (model X.prog X.w) X.A (isTrue e X.env (eval e X.env)) (Km X v0 σ Q) X.xe s:=⟨PT.run⟩
structure PW(X:Cx)(e:Expr)(t:D0):Prop where
 run:∀(whole:Sem Value) v0 s σ H (Q:Bool→A7→Prop),Inv X v0 σ H s→t σ H Q→wpAny (model X.prog X.w) X.A (isTrue e X.env whole) (Km X v0 σ Q) X.xe s
instance {X:Cx}{e:Expr}{t:D0}:CoeFun (PW X e t) λ_=>∀(whole:Sem Value) v0 s σ H (Q:Bool→A7→Prop),Inv X v0 σ H s→t σ H Q→wpAny (model X.prog X.w) X.A (isTrue e X.env whole) (Km X v0 σ Q) X.xe s:=⟨PW.run⟩
theorem PW.pt{X:Cx}{t:D0}(h:PW X e t):PT X e t:=⟨h.run _⟩
structure PA(X:Cx)(es:List Expr)(t:Cm):Prop where
 run:∀(pos:Pos) v0 s σ H (Q:List V→A7→Prop),Inv X v0 σ H s→t σ H Q→wpAny (model X.prog X.w) X.A (spliced (backTo pos (starEach es X.env))) (OC X v0 σ Q) X.xe s
instance {X:Cx}{es:List Expr}{t:Cm}:CoeFun (PA X es t) λ_=>∀(pos:Pos) v0 s σ H (Q:List V→A7→Prop),Inv X v0 σ H s→t σ H Q→wpAny (model X.prog X.w) X.A (spliced (backTo pos (starEach es X.env))) (OC X v0 σ Q) X.xe s:=⟨PA.run⟩
structure PS(X:Cx)(st:Stmt)(t:Bu):Prop where
 run:∀v0 s σ H (D:Ends),Inv X v0 σ H s→t D σ H→wpAny (model X.prog X.w) X.A (exec st X.env) (SP X v0 D) X.xe s
instance {X:Cx}{st:Stmt}{t:Bu}:CoeFun (PS X st t) λ_=>∀v0 s σ H (D:Ends),Inv X v0 σ H s→t D σ H→wpAny (model X.prog X.w) X.A (exec st X.env) (SP X v0 D) X.xe s:=⟨PS.run⟩
structure jU(X:Cx)(st:List Stmt)(t:Bu):Prop where
 run:∀v0 s σ H (D:Ends),Inv X v0 σ H s→t D σ H→wpAny (model X.prog X.w) X.A (execs st X.env) (SP X v0 D) X.xe s
instance {X:Cx}{st:List Stmt}{t:Bu}:CoeFun (jU X st t) λ_=>∀v0 s σ H (D:Ends),Inv X v0 σ H s→t D σ H→wpAny (model X.prog X.w) X.A (execs st X.env) (SP X v0 D) X.xe s:=⟨jU.run⟩
theorem AV{α:Type}{t:Sem α}{Q Q':α→Shared→Prop}(h:wpAny M A t Q E s)(hQ:∀a s,Q a s→Q' a s):wpAny M A t Q' E s:=Dn h hQ λ_ _ x=>x
section
def rI(i:Nat):Ah:=λσ H Q=>∃v,σ[i]?=some (some v)∧Q v H
def J7(v:V):Ah:=λ_ H Q=>Q v H
theorem ib{pos:Pos}(hN:X.N[i]?=some x)(hv:Lm X.env.scope x)(hd:(x ==("__debug__" : Str))=false:=by decide)(yw:(x ==("__classdict__" : Str))=false:=by decide):PE X (.Name x pos) (rI i):=by
 exact .mk ?_;intro v0 s σ H Q I h;obtain⟨v,e,h⟩:=h;let⟨m,hn,hl⟩:=I.loc;let⟨u,r,l⟩:=hl i x v hN e hv;have fin:Cf X v0 σ Q u s:=Ψ2 v H ⟨I,r,h⟩;rcases l with⟨hk,hm⟩|⟨hk,c,hc,JR⟩
 ·exact wpAny_Name (wpAny_loadName_local I.ok.kind hk hn hm fin) hd
 ·rcases hk with hk|hk
  ·exact wpAny_Name (wpAny_loadName_cell I.ok.kind hk hc JR fin) hd
  ·exact wpAny_Name (wpAny_loadName_free I.ok.kind hk hc JR fin yw) hd
theorem abc{i j pos}:PE X (.Constant (.int i) j pos) (J7 (.int i)):=.mk λ_ _ _ H _ I h=>wpAny_Constant_int ⟨.int i,H,I.tok _,⟨_,rfl⟩,h⟩
theorem zy{b j pos}:PE X (.Constant (.bool b) j pos) (J7 (.bl b)):=.mk λ_ _ _ H _ I h=>Constant_bool ⟨.bl b,H,I,rfl,h⟩
theorem z9{j pos}:PE X (.Constant .none j pos) (J7 .non):=.mk λ_ _ _ H _ I h=>Constant_none ⟨.non,H,I,rfl,h⟩
theorem uB{x j pos}:PE X (.Constant (.str x) j pos) (J7 (.str x)):=.mk λ_ _ _ H _ I h=>Calls.Constant_str ⟨.str x,H,I.tok _,⟨_,rfl⟩,h⟩
def C6(X:Cx)(x:Str):Prop:=X.env.kindOf x=some .globalImplicit
theorem Jj{pos:Pos}(I:Inv X v0 σ H s)(hg:C6 X x)(hm:X.mg x=some u)(h:Q u s)
  (hd:(x ==("__debug__" : Str))=false:=by decide):wpAny (model X.prog X.w) X.A (eval (.Name x pos) X.env) Q E s:=
 Calls.Name_function_global I.ok.kind hg (Calls.loadGlobal_global (by rw[I.ok.glob];exact I.mod.glob.keeps I.bk) hm h) hd
theorem KI{pos:Pos}(I:Inv X v0 σ H s)(hg:C6 X x)(hm:X.mg x=none)(hv:bootBuiltins x=some u)(h:Q u s)
  (hn:x ≠ "__name__" := by decide) (hd:(x ==("__debug__" : Str))=false:=by decide):wpAny (model X.prog X.w) X.A (eval (.Name x pos) X.env) Q E s:=by
 let⟨mb,h1,h2⟩:=I.mod.blt;exact Calls.Name_function_global I.ok.kind hg (Calls.loadGlobal_builtin (by rw[I.ok.glob];exact I.mod.glob.keeps I.bk) hm (by rw[I.ok.blt];exact h1.keeps I.bk) ((h2 x hn).trans hv) h) hd
theorem zm{pos:Pos}(hg:C6 X x)(hm:X.mg x=some u)(r:RelV v u)(hd:(x ==("__debug__" : Str))=false:=by decide):PE X (.Name x pos) (J7 v):=
 .mk λ_ _ _ H _ I h=>Jj I hg hm ⟨v,H,I,r,h⟩ hd
theorem nh{pos:Pos}(hg:C6 X x)(hm:X.mg x=none)(hv:bootBuiltins x=some u)(r:RelV v u)(hn:x ≠ "__name__" := by decide)(hd:(x ==("__debug__" : Str))=false:=by decide):PE X (.Name x pos) (J7 v):=
 .mk λ_ _ _ H _ I h=>KI I hg hm hv ⟨v,H,I,r,h⟩ hn hd
variable {a b: Expr}
structure PC(X:Cx)(op:CmpOp)(a b:Expr)(t:Ah):Prop where
 run:∀v0 s σ H (Q:Ar),Inv X v0 σ H s→t σ H Q→
  wpAny (model X.prog X.w) X.A (eval a X.env) (λv s₁=>wpAny (model X.prog X.w) X.A (eval b X.env) (λu s₂=>wpAny (model X.prog X.w) X.A (compareOp op v u) (Cf X v0 σ Q) X.xe s₂) X.xe s₁) X.xe s
instance {X:Cx}{op:CmpOp}{a b:Expr}{t:Ah}:CoeFun (PC X op a b t) λ_=>∀v0 s σ H (Q:Ar),Inv X v0 σ H s→t σ H Q→wpAny (model X.prog X.w) X.A (eval a X.env) (λv s₁=>wpAny (model X.prog X.w) X.A (eval b X.env) (λu s₂=>wpAny (model X.prog X.w) X.A (compareOp op v u) (Cf X v0 σ Q) X.xe s₂) X.xe s₁) X.xe s:=⟨PC.run⟩
def LK(t:Ah):D0:=λσ H Q=>t σ H λx H1=>∃c,x=.bl c∧Q c H1
theorem acB{t:Ah}(h:PE X e t)(he:∀whole,isTrue e X.env whole=(do let v ←whole;standAt e.pos;holding [v] (truthy v)):=by intro _;rfl):PT X e (LK t):=by
 exact .mk ?_;intro v0 s σ H Q I hw;exact isTrue_plain (AV (h v0 s σ H _ I hw) λv s1 ξ=>Ξ23 ξ λx H1 I1 r1 q1=>?_) (he _);let⟨d,rfl,q⟩:=q1;cases r1;exact IS ⟨H1,I1,q⟩
variable {tA Rh: D0}{v4: List Expr}
def acq(t u:D0):D0:=λσ H Q=>t σ H λc H1=>if c=true then u σ H1 Q else Q false H1
def zt(t u:D0):D0:=λσ H Q=>t σ H λc H1=>if c=true then Q true H1 else u σ H1 Q
def zS(t:D0):D0:=λσ H Q=>t σ H λc H1=>Q (!c) H1
theorem sN(ha:PT X a tA):PW X (.BoolOp .And [a] pos) tA:=by
 exact .mk ?_;intro wh v0 s σ H Q I h;exact isTrue_and (AV (ha v0 s σ H Q I h) λc s1 e=>?_);cases c with
 |true=>exact isTrue_and_nil e
 |false=>exact e
theorem abb(ha:PT X a tA):PW X (.BoolOp .Or [a] pos) tA:=by
 exact .mk ?_;intro wh v0 s σ H Q I h;exact isTrue_or (AV (ha v0 s σ H Q I h) λc s1 e=>?_);cases c with
 |false=>exact isTrue_or_nil e
 |true=>exact e
theorem acn(ha:PT X a tA)(hb:PW X (.BoolOp .And (b::v4) pos) Rh):PW X (.BoolOp .And (a::b::v4) pos) (acq tA Rh):=by
 exact .mk ?_;intro wh v0 s σ H Q I h;exact isTrue_and (AV (ha v0 s σ H _ I h) λc s1 ξ=>Ξ12 ξ λH1 I1 q1=>?_);cases c with
 |true=>exact hb wh v0 s1 σ H1 Q I1 q1
 |false=>exact⟨H1,I1,q1⟩
theorem sU(ha:PT X a tA)(hb:PW X (.BoolOp .Or (b::v4) pos) Rh):PW X (.BoolOp .Or (a::b::v4) pos) (zt tA Rh):=by
 exact .mk ?_;intro wh v0 s σ H Q I h;exact isTrue_or (AV (ha v0 s σ H _ I h) λc s1 ξ=>Ξ12 ξ λH1 I1 q1=>?_);cases c with
 |true=>exact⟨H1,I1,q1⟩
 |false=>exact hb wh v0 s1 σ H1 Q I1 q1
theorem zJ(ha:PT X a tA):PT X (.UnaryOp .Not a pos) (zS tA):=by
 exact .mk ?_;intro v0 s σ H Q I h;exact isTrue_not (ha v0 s σ H (λc H1=>Q (!c) H1) I h)
def aaK(ta tb:Ah):Ah:=λσ H Q=>ta σ H λx H1=>∃c,x=.bl c∧if c=true then tb σ H1 Q else Q (.bl false) H1
def xQ(ta tb:Ah):Ah:=λσ H Q=>ta σ H λx H1=>∃c,x=.bl c∧if c=true then Q (.bl true) H1 else tb σ H1 Q
def aaG(ta:Ah):Ah:=λσ H Q=>ta σ H λx H1=>∃c,x=.bl c∧Q (.bl (!c)) H1
theorem xI{op}{t:Ah}(h:PE X a t):PE X (.BoolOp op [a] pos) t:=.mk λv0 s σ H Q I hw=>BoolOp_one (h v0 s σ H Q I hw)
theorem acH(ha:PE X a ta)(hb:PE X (.BoolOp .And (b::v4) pos) tb):PE X (.BoolOp .And (a::b::v4) pos) (aaK ta tb):=by
 exact .mk ?_;intro v0 s σ H Q I h;exact BoolOp_and (AV (ha v0 s σ H _ I h) λv s1 ξ=>Ξ23 ξ λx H1 I1 r1 q1=>?_);obtain⟨c,rfl,q1⟩:=q1;cases r1;exact IS ?_;cases c with
 |true=>exact hb v0 s1 σ H1 Q I1 q1
 |false=>exact Ψ2 (.bl false) H1 ⟨I1,rfl,q1⟩
theorem vp(ha:PE X a ta)(hb:PE X (.BoolOp .Or (b::v4) pos) tb):PE X (.BoolOp .Or (a::b::v4) pos) (xQ ta tb):=by
 exact .mk ?_;intro v0 s σ H Q I h;exact BoolOp_or (AV (ha v0 s σ H _ I h) λv s1 ξ=>Ξ23 ξ λx H1 I1 r1 q1=>?_);obtain⟨c,rfl,q1⟩:=q1;cases r1;exact IS ?_;cases c with
 |false=>exact hb v0 s1 σ H1 Q I1 q1
 |true=>exact Ψ2 (.bl true) H1 ⟨I1,rfl,q1⟩
theorem vS(ha:PE X a ta):PE X (.UnaryOp .Not a pos) (aaG ta):=by
 exact .mk ?_;intro v0 s σ H Q I h;exact UnaryOp_ (AV (ha v0 s σ H _ I h) λv s1 ξ=>Ξ23 ξ λx H1 I1 r1 q1=>?_);obtain⟨c,rfl,q1⟩:=q1;cases r1;exact not_of (IS ⟨.bl (!c),H1,I1,rfl,q1⟩)
def rZ(t:D0)(ta tb:Ah):Ah:=λσ H Q=>t σ H λc H1=>if c=true then ta σ H1 Q else tb σ H1 Q
theorem xU(hc:PT X c tA)(ha:PE X a ta)(hb:PE X b tb):PE X (.IfExp c a b pos) (rZ tA ta tb):=by
 exact .mk ?_;intro v0 s σ H Q I h;exact wpAny_IfExp (AV (hc v0 s σ H _ I h) λd s1 ξ=>Ξ12 ξ λH1 I1 q1=>?_);cases d with
 |true=>exact ha v0 s1 σ H1 Q I1 q1
 |false=>exact hb v0 s1 σ H1 Q I1 q1
end
def jK(K:W.Frag)(H:A7)(a:Addr)(xs:List V):Prop:=
 Rd H a (.lst xs) ∨
  ∃(o:Obj) (bg:Array Value) (n:Nat),K.lookup a=some o∧o.cls=.type "list" ∧ o.dict=none∧o.data=.seq bg n∧bg.size≤sizeLine∧Vals xs bg.toList
def js(K:W.Frag)(H:A7)(a:Addr)(xs:List V):Prop:=
 Rd H a (.tup xs) ∨
  ∃(o:Obj) (bg:Array Value) (n:Nat),K.lookup a=some o∧o.cls=.type "tuple" ∧ o.data=.seq bg n∧bg.size≤sizeLine∧Vals xs bg.toList
def aat:Value→Option V
 |.none=>some .non
 |.bool b=>some (.bl b)
 |.int i _=>some (.int i)
 |.str x _=>some (.str x)
 |.bytes b _=>some (.byt b)
 |.float b _=>some (.flt b)
 |.ref a=>some (.ref a)
 |.type n=>some (.ty n)
 |_=>none
theorem RelV.abs{x:V}(r:RelV x u):aat u=some x:=by
 cases x with
 |non=>cases r;rfl
 |bl _=>cases r;rfl
 |int _=>let⟨t,rfl⟩:=r;rfl
 |str _=>let⟨t,rfl⟩:=r;rfl
 |byt _=>let⟨t,rfl⟩:=r;rfl
 |flt _=>let⟨t,rfl⟩:=r;rfl
 |ref _=>cases r;rfl
 |ty _=>cases r;rfl
theorem RelV.inj{x:V}(r:RelV x u)(q:RelV y u):x=y:=Cr (r.abs.symm.trans q.abs)
theorem Vals.inj:∀{xs ys:List V} {us:List Value},Vals xs us→Vals ys us→xs=ys
 |_,_,_,.nil,.nil=>rfl
 |_,_,_,.cons r t,.cons r' t'=>by rw[r.inj r',Vals.inj t t']
section
variable {v0: List (Addr×Obj)}{σ: St}{H: A7}{s: Shared}{a: Addr}{xs ys: List V}
theorem jK.of(h:H a=some (.lst xs)):jK K H a xs:=.inl (.inl h)
theorem js.of(h:H a=some (.tup xs)):js K H a xs:=.inl (.inl h)
theorem Inv.list(I:Inv X v0 σ H s)(h:jK X.K H a xs):∃bg:List Value,Vals xs bg∧PlainL s.heap a bg.toArray∧xs.length≤sizeLine:=by
 rcases h with h|⟨o,bg,n,hk,hc,hd,hs,hz,r⟩
 ·let⟨z,⟨bg,n,r,e⟩⟩:=h.ok I.cN
  exact⟨bg,r,Ψ2 _ n ⟨e,rfl,rfl,rfl⟩,z⟩
 ·exact⟨bg.toList,r,Ψ2 o n ⟨I.kN a o hk,hc,hd,by simpa using hs⟩,?_⟩
  have e:=r.length;simp only[Hw]at e;lia
theorem Inv.tuple(I:Inv X v0 σ H s)(h:js X.K H a xs):∃bg:List Value,Vals xs bg∧IsTup s.heap a bg.toArray∧xs.length≤sizeLine:=by
 rcases h with h|⟨o,bg,n,hk,hc,hs,hz,r⟩
 ·let⟨z,⟨bg,r,p⟩⟩:=h.ok I.cN
  exact⟨bg,r,p,z⟩
 ·exact⟨bg.toList,r,⟨o,I.kN a o hk,hc,n,by simpa using hs⟩,?_⟩
  have e:=r.length;simp only[Hw]at e;lia
theorem Inv.EA(I:Inv X v0 σ H s)(h:jK X.K H a xs)(h':jK X.K H a ys):xs=ys:=by
 let⟨bg,r,⟨o,n,e,_,_,d⟩,_⟩:=I.list h;let⟨v6',r',⟨o',n',e',_,_,d'⟩,_⟩:=I.list h';rw[e]at e';cases e';rw[d]at d';injection d' with d1 _
 have:bg=v6':=by simpa using Ai Array.toList d1
 subst this;exact r.inj r'
theorem Inv.nG(I:Inv X v0 σ H s)(h:js X.K H a xs)(h':js X.K H a ys):xs=ys:=by
 let⟨bg,r,⟨o,e,_,⟨n,d⟩⟩,_⟩:=I.tuple h;let⟨v6',r',⟨o',e',_,⟨n',d'⟩⟩,_⟩:=I.tuple h';rw[e]at e';cases e';rw[d]at d';injection d' with d1 _
 have:bg=v6':=by simpa using Ai Array.toList d1
 subst this;exact r.inj r'
end
abbrev Cx.rC(X:Cx)(E:xz):Cx:={X with xe:=E}
abbrev Cx.sD(X:Cx):Cx:=X.rC λ_ _=>False
theorem Cx.Ok.rC{X:Cx}(ok:X.Ok)(E:xz):(X.rC E).Ok:=
 ⟨ok.mod,ok.kind,ok.glob,ok.blt,ok.above,ok.inj,ok.has,ok.J3,ok.hd,ok.frames,ok.K5,ok.M8,ok.bs,ok.FH,ok.vJ,ok.uA,ok.lL,ok.F0⟩
theorem Cx.Ok.j3{X:Cx}(ok:(X.rC E).Ok):X.Ok:=
 ⟨ok.mod,ok.kind,ok.glob,ok.blt,ok.above,ok.inj,ok.has,ok.J3,ok.hd,ok.frames,ok.K5,ok.M8,ok.bs,ok.FH,ok.vJ,ok.uA,ok.lL,ok.F0⟩
section
variable {v0: List (Addr×Obj)}{σ: St}{H: A7}{s: Shared}{E: Value→Shared→Prop}
theorem Inv.rC(I:Inv X v0 σ H s)(E:xz):Inv (X.rC E) v0 σ H s:=⟨I.ok.rC E,I.os,I.bare,I.base,I.loc,I.cell,I.free,I.gh,I.pin,I.cN,I.len⟩
theorem Inv.j3(I:Inv (X.rC E) v0 σ H s):Inv X v0 σ H s:=⟨I.ok.j3,I.os,I.bare,I.base,I.loc,I.cell,I.free,I.gh,I.pin,I.cN,I.len⟩
theorem SP.j3{D:Ends}{f:Flow}(h:SP (X.rC E) v0 D f s'):SP X v0 D f s':=by
 cases f with
 |next=>let⟨σ',H',I,q⟩:=h;exact Ψ2 σ' H' ⟨I.j3,q⟩
 |brk=>let⟨σ',H',I,q⟩:=h;exact Ψ2 σ' H' ⟨I.j3,q⟩
 |cont=>let⟨σ',H',I,q⟩:=h;exact Ψ2 σ' H' ⟨I.j3,q⟩
 |ret u=>let⟨v,σ',H',I,r,q⟩:=h;exact Ψ3 v σ' H' ⟨I.j3,r,q⟩
theorem jU.sD{st:List Stmt}{t:Bu}(h:jU X.sD st t):jU X st t:=.mk λv0 s σ H D I hw=>
 Dn (h v0 s σ H D (I.rC _) hw) (λ_ _ q=>q.j3) λ_ _ z=>False.elim z
end
section
variable {st: Stmt}{v4: List Stmt}{t u: Bu}{e: Expr}
def wU:Bu:=λD σ H=>D.nx σ H
def acd(t u:Bu):Bu:=λD σ H=>t {D with nx:=u D} σ H
theorem xY:jU X [] wU:=.mk λ_ _ σ H _ I h=>Mv ⟨σ,H,I,h⟩
theorem tI(h1:PS X st t)(h2:jU X v4 u):jU X (st::v4) (acd t u):=by
 exact .mk ?_;intro v0 s σ H D I h;exact wpAny_execs_cons (AV (h1 v0 s σ H {D with nx:=u D} I h) λf s1 q=>?_);cases f with
 |next=>
  obtain⟨σ',H',I',q⟩:=q;exact h2 v0 s1 σ' H' D I' q
 |ret v=>exact q
 |brk=>exact q
 |cont=>exact q
theorem Inv.quiet(I:Inv X v0 σ H s):interactive X.env=false:=by simp[interactive,I.ok.kind]
def tL(te:Ah):Bu:=λD σ H=>te σ H λ_ H1=>D.nx σ H1
theorem zw(he:PE X e te)(hs:swapsWith e none pos.line X.env=pure false:=by rfl):PS X (.Expr e pos) (tL te):=by
 exact .mk ?_;intro v0 s σ H D I h;exact wpAny_Expr_any (AV (he v0 s σ H _ I h) λv s1 ξ=>Ξ23 ξ λx H1 I1 r1 q1=>Ψ2 σ H1 ⟨I1,q1⟩) I.quiet hs
def ade(te:Ah):Bu:=λD σ H=>te σ H D.rt
theorem zg(he:PE X e te):PS X (.Return (some e) pos) (ade te):=by
 exact .mk ?_;intro v0 s σ H D I h;exact wpAny_Return_some (AV (he v0 s σ H _ I h) λv s1 ξ=>Ξ23 ξ λx H1 I1 r1 q1=>Ψ3 x σ H1 ⟨I1,r1,q1⟩)
def tY(c:D0)(t u:Bu):Bu:=λD σ H=>c σ H λb H1=>if b=true then t D σ H1 else u D σ H1
theorem abQ{a b:List Stmt}(hc:PT X c tc)(ha:jU X a t)(hb:jU X b u):PS X (.If c a b pos) (tY tc t u):=by
 exact .mk ?_;intro v0 s σ H D I h;exact wpAny_If (AV (hc v0 s σ H _ I h) λd s1 ξ=>Ξ12 ξ λH1 I1 q1=>?_);cases d with
 |true=>exact ha v0 s1 σ H1 D I1 q1
 |false=>exact hb v0 s1 σ H1 D I1 q1
end
abbrev Ed:=V→St→A7→(St→A7→Prop)→Prop
abbrev HX:=List V→St→A7→(St→A7→Prop)→Prop
structure PG(X:Cx)(target:Expr)(t:Ed):Prop where
 run:∀v0 s σ H (v:V) (u:Value) (Q:St→A7→Prop),Inv X v0 σ H s→RelV v u→t v σ H Q→
  wpAny (model X.prog X.w) X.A (assign target X.env u) (λ_ s'=>∃σ' H',Inv X v0 σ' H' s'∧Q σ' H') X.xe s
instance {X:Cx}{target:Expr}{t:Ed}:CoeFun (PG X target t) λ_=>∀v0 s σ H (v:V) (u:Value) (Q:St→A7→Prop),Inv X v0 σ H s→RelV v u→t v σ H Q→wpAny (model X.prog X.w) X.A (assign target X.env u) (λ_ s'=>∃σ' H',Inv X v0 σ' H' s'∧Q σ' H') X.xe s:=⟨PG.run⟩
structure Au(X:Cx)(ts:List Expr)(t:HX):Prop where
 run:∀v0 s σ H (vs:List V) (us:List Value) (Q:St→A7→Prop),Inv X v0 σ H s→Vals vs us→t vs σ H Q→
  wpAny (model X.prog X.w) X.A (assignInOrder ((assignEach ts X.env).map (·.2)) us) (λ_ s'=>∃σ' H',Inv X v0 σ' H' s'∧Q σ' H') X.xe s
instance {X:Cx}{ts:List Expr}{t:HX}:CoeFun (Au X ts t) λ_=>∀v0 s σ H (vs:List V) (us:List Value) (Q:St→A7→Prop),Inv X v0 σ H s→Vals vs us→t vs σ H Q→wpAny (model X.prog X.w) X.A (assignInOrder ((assignEach ts X.env).map (·.2)) us) (λ_ s'=>∃σ' H',Inv X v0 σ' H' s'∧Q σ' H') X.xe s:=⟨Au.run⟩
abbrev UX:=V→V→V→A7→(A7→Prop)→Prop
def j0(X:Cx)(t:UX):Prop:=
 ∀v0 s σ H (o i v:V) (ov iv u:Value) (Q:A7→Prop),Inv X v0 σ H s→RelV o ov→RelV i iv→RelV v u→t o i v H Q→
  wpAny (model X.prog X.w) X.A (setItem ov iv u) (λ_ s'=>∃H',Inv X v0 σ H' s'∧Q H') X.xe s
section
def pT(i:Nat):Ed:=λv σ H Q=>Q (σ.set i (some v)) H
theorem abr(hN:X.N.Nodup)(hi:X.N[i]?=some x)(hx:I0 X.env.scope x)(hf:Fk X x:=by first|exact .inl rfl|exact .inr rfl|assumption):PG X (.Name x pos) (pT i):=by
 exact .mk ?_;intro v0 s σ H v u Q I r h;exact wpAny_assign_Name (S0 I hN hi hx r (λs' I'=>Ψ2 _ H ⟨I',h⟩) hf)
def yc:HX:=λvs σ H Q=>vs=[]∧Q σ H
def zO(t:Ed)(u:HX):HX:=λvs σ H Q=>∃v r,vs=v::r∧t v σ H λσ' H'=>u r σ' H' Q
theorem adh:Au X [] yc:=by
 exact .mk ?_;intro v0 s σ H vs us Q I r h;obtain⟨e,h⟩:=h;subst e;cases r;exact assignInOrder_nil ⟨σ,H,I,h⟩
theorem abT{es:List Expr}{t:Ed}{u:HX}(h1:PG X e t)(h2:Au X es u)
  (hs:(assignEach (e::es) X.env).map (·.2)=assign e X.env::(assignEach es X.env).map (·.2):=by rfl):Au X (e::es) (zO t u):=by
 exact .mk ?_;intro v0 s σ H vs us Q I r h;obtain⟨v,vr,e1,h⟩:=h;subst e1;cases r with
 |cons r rr=>
  rw[hs];exact assignInOrder_cons (AV (h1 v0 s σ H _ _ _ I r h) λ_ s1 ξ=>Ξ22 ξ λσ1 H1 I1 q1=>?_);exact h2 v0 s1 σ1 H1 _ _ Q I1 rr q1
def xk(K:W.Frag)(n:Nat)(t:HX):Ed:=λv σ H Q=>∃a xs,v=.ref a∧js K H a xs∧xs.length=n∧t xs σ H Q
theorem vn{es:List Expr}{t:HX}(hc:X.calm=true)(h:Au X es t)
  (hn:(assignEach es X.env).length=n:=by rfl) (oJ:(assignEach es X.env).findIdx? (·.1)=none:=by rfl):PG X (.Tuple es k pos) (xk X.K n t):=by
 exact .mk ?_;intro v0 s σ H v u Q I r hw;obtain⟨a,xs,e1,hq,hl,hw⟩:=hw;subst e1;cases r;let⟨bg,rv,ht,hz⟩:=I.tuple hq;exact assign_Tuple_tuple (I.ok.hd hc) ht (by simp[hn,←hl,rv.length]) oJ λh' hx=>?_;have I1:Inv X v0 σ H {s with heap:=h'}:=I.kept (t':=s.toks) λb o e=>hx b o (DU (BZ e)) e;exact h v0 _ σ H xs _ Q I1 (by simpa using rv) hw
def xg(to ti:Ah)(t:UX):Ed:=λv σ H Q=>to σ H λo H1=>ti σ H1 λi H2=>t o i v H2 λH3=>Q σ H3
theorem ab0{o i:Expr}{to ti:Ah}{t:UX}(ho:PE X o to)(hi:PE X i ti)(hs:j0 X t)
  (ha:∀v,assign (.Subscript o i pos) X.env v=(do
   let ov ←holding [v] (eval o X.env)
   let iv ←holding [v,ov] (eval i X.env)
   standAt pos
   holding [v,ov,iv] (setItem ov iv v)
   release [v,ov,iv] []):=by intro _;rfl):PG X (.Subscript o i pos) (xg to ti t):=by
 exact .mk ?_;intro v0 s σ H v u Q I r h;rw[ha];exact AN (LG (AV (ho v0 s σ H _ I h) λov s1 ξ=>Ξ23 ξ λx H1 I1 r1 q1=>?_));exact AN (LG (AV (hi v0 s1 σ H1 _ I1 q1) λiv s2 ξ=>Ξ23 ξ λy H2 I2 r2 q2=>?_));exact AN (Jy (AN (LG (AV (hs v0 s2 σ H2 x y v ov iv u _ I2 r1 r2 r q2) λ_ s3 ξ=>Ξ12 ξ λH3 I3 q3=>?_))));exact wpAny_release ⟨σ,H3,I3,q3⟩
def bX(te:Ah)(g:Ed):Bu:=λD σ H=>te σ H λx H1=>g x σ H1 D.nx
theorem abP{te:Ah}{g:Ed}(he:PE X e te)(hg:PG X tg g)(hs:swapsWithSole [tg] e pos.line X.env=pure false:=by rfl)(hw:swappedStores [tg] e X.env=pure none:=by rfl)
  (h1:(assignEach [tg] X.env).map (·.2)=[assign tg X.env]:=by rfl):PS X (.Assign [tg] e pos) (bX te g):=by
 exact .mk ?_;intro v0 s σ H D I h;exact wpAny_Assign_stores (AV (he v0 s σ H _ I h) λv s1 ξ=>Ξ23 ξ λx H1 I1 r1 q1=>?_) hs hw;rw[h1];exact AV (hg v0 s1 σ H1 x v _ I1 r1 q1) λ_ s2 q=>q
theorem abW{te:Ah}{pos':Pos}(hN:X.N.Nodup)(hi:X.N[i]?=some x)(hx:I0 X.env.scope x)(he:PE X e te)(hs:swapsWith e (some (.Name x pos')) pos.line X.env=pure false:=by rfl)(hf:Fk X x:=by first|exact .inl rfl|exact .inr rfl|assumption):
  PS X (.Assign [.Name x pos'] e pos) (bX te (pT i)):=by
 exact .mk ?_;intro v0 s σ H D I h;exact wpAny_Assign_Name (AV (he v0 s σ H _ I h) λv s1 ξ=>Ξ23 ξ λy H1 I1 r1 q1=>?_) hs;exact S0 I1 hN hi hx r1 (λs2 I2=>Ψ2 _ H1 ⟨I2,q1⟩) hf
def tE(c:D0)(tb:Bu):Bu:=λD σ H=>∃W:Nat→St→A7→Prop,(∃m,W m σ H)∧∀m σ H,W m σ H→
 c σ H λb H1=>if b=true then ∃N:St→A7→Prop,(∀σ' H',N σ' H'→∃m',m' < m∧W m' σ' H')∧tb {D with nx:=N,ct:=N,bk:=D.nx} σ H1 else D.nx σ H1
theorem xc{tb:Bu}(hp:PassesOwn (model X.prog X.w) X.A X.env X.xe)(hc:PT X c tc)(hb:jU X body tb):PS X (.While c body [] pos) (tE tc tb):=by
 exact .mk ?_;intro v0 s σ H D I h;let⟨W,⟨m0,w0⟩,turn⟩:=h;exact wpAny_While (codeAny_whileLoop (λn s'=>∃σ' H',Inv X v0 σ' H' s'∧W n σ' H') ?_ m0 ⟨σ,H,I,w0⟩);intro n s1⟨σ1,H1,I1,w1⟩;exact Je hp (AV (hc v0 s1 σ1 H1 _ I1 (turn n σ1 H1 w1)) λb s2 ξ=>Ξ12 ξ λH2 I2 q2=>?_);cases b with
 |true=>
  obtain⟨N,hN,q2⟩:=q2;rw[AM rfl];exact Je hp (AV (hb v0 s2 σ1 H2 _ I2 q2) λf s3 q3=>?_);cases f with
  |next=>
   let⟨σ3,H3,I3,n3⟩:=q3;let⟨m',hm,w3⟩:=hN σ3 H3 n3;exact⟨m',hm,σ3,H3,I3,w3⟩
  |cont=>
   let⟨σ3,H3,I3,n3⟩:=q3;let⟨m',hm,w3⟩:=hN σ3 H3 n3;exact⟨m',hm,σ3,H3,I3,w3⟩
  |brk=>exact q3
  |ret v=>exact q3
 |false=>
  rw[AE DH];exact Mv ⟨σ1,H2,I2,q2⟩
end
structure It where
 go:Nat→A7→Prop
 uZ:Nat→A7→V→A7→Prop
 stop:Nat→A7→Prop
def Ee(X:Cx)(v0:ac)(H:A7)(b:Addr):Prop:=
 H b=none∧b≠X.env.locals∧b∉X.fs∧(b∈X.ex∨X.s₀.heap.objs.size≤b)∧(∀x c,X.env.cells.lookup x=some c→c≠b)∧∀p∈X.pn++v0,p.1≠b
theorem Inv.yz{X:Cx}{H':A7}(I:Inv X v0 σ H s)(hb:s.heap.objs.size≤b)(hn:H' b=none):Ee X v0 H' b:=by
 exact⟨hn,Ow (EN I.lt hb),I.S2 hb,.inr (Ce I.sz hb),λx c e z=>?_,λp hp z=>?_⟩
 ·let⟨v,q⟩:=I.cell x c e
  exact absurd (EN q.lt (by rw[z];exact hb)) (Ib _)
 ·exact absurd (EN (BZ (I.pin p hp).1) (by rw[z];exact hb)) (Ib _)
structure Turn(P:Program)(w:World)(K:W.Frag)(tg:Expr)(J:It)(fp:List Addr)(it:Addr)(tn:Nat→Heap→Prop):Prop where
 mem:it∈fp
 obj:∀i h,tn i h→∀b∈fp,∃o,h.get? b=some o∧∀v,o.data≠.cell v
 keep:∀i h h',tn i h→(∀b∈fp,∀o,h.get? b=some o→h'.get? b=some o)→tn i h'
 item:∀(X:Cx),X.prog=P→X.w=w→X.K=K→X.calm=true→∀(i:Nat) v0 s σ H (E:xz),Inv X v0 σ H s→(∀b∈fp,Ee X v0 H b)→tn i s.heap→J.go i H→
  wpAny (model P w) X.A (pyNext (.ref it)) (λr s1=>∃u,r=some u∧
   wpAny (model P w) X.A (letOwnedTupleGo tg (.ref it) u) (λ_ s2=>∃x H',Inv X v0 σ H' s2∧RelV x u∧J.uZ i H x H'∧tn (i+1) s2.heap∧∀b∈fp,H' b=none) E s1) E s
 done:∀(X:Cx),X.prog=P→X.w=w→X.K=K→X.calm=true→∀(i:Nat) v0 s σ H (E:xz),Inv X v0 σ H s→(∀b∈fp,Ee X v0 H b)→tn i s.heap→J.stop i H→
  wpAny (model P w) X.A (pyNext (.ref it)) (λr s1=>r=none∧Inv X v0 σ H s1) E s
 self:∀(A:Around) (i:Nat) (s:Shared) (Q:xz) (E:xz),tn i s.heap→Q (.ref it) s→wpAny (model P w) A (pyIter (.ref it)) Q E s
abbrev Es:=St→A7→(It→A7→Prop)→Prop
def OS(X:Cx)(v0:ac)(σ:St)(tg:Expr)(R:It→A7→Prop)(PJ:Value)(s2:Shared):Prop:=
 ∃(it:Addr) (fp:List Addr) (tn:Nat→Heap→Prop) (J:It) (H':A7),PJ=.ref it∧Inv X v0 σ H' s2∧Turn X.prog X.w X.K tg J fp it tn∧tn 0 s2.heap∧(∀b∈fp,Ee X v0 H' b)∧R J H'
structure PI(X:Cx)(tg iter:Expr)(wi:Es):Prop where
 run:∀v0 s σ H (R:It→A7→Prop),Inv X v0 σ H s→wi σ H R→
  wpAny (model X.prog X.w) X.A (eval iter X.env) (λv s1=>wpAny (model X.prog X.w) X.A (pyIter v) (OS X v0 σ tg R) X.xe s1) X.xe s
instance {X:Cx}{tg iter:Expr}{wi:Es}:CoeFun (PI X tg iter wi) λ_=>∀v0 s σ H (R:It→A7→Prop),Inv X v0 σ H s→wi σ H R→wpAny (model X.prog X.w) X.A (eval iter X.env) (λv s1=>wpAny (model X.prog X.w) X.A (pyIter v) (OS X v0 σ tg R) X.xe s1) X.xe s:=⟨PI.run⟩
theorem M1{n:String}{vs:Array Value}{Q:Unit→Shared→Prop}(ho:s.heap.get? it=some o)(hc:o.cls=.type n)(hd:o.data=.fields vs)
    (hn:["enumerate","zip","dict_itemiterator","dict_reverseitemiterator","odict_iterator","itertools.zip_longest","itertools.pairwise"].contains n=false) (hQ:Q () s):wpAny M A (letOwnedTupleGo tg (.ref it) u) Q E s:=by
  unfold letOwnedTupleGo;cases tg<;>first
    |exact BR hQ
    | (cases u<;>first
        |exact BR hQ
        | (exact AN (wpAny_load ho ?_)
           rw[hc,hd];show wpAny M A (if(["enumerate","zip","dict_itemiterator","dict_reverseitemiterator","odict_iterator","itertools.zip_longest","itertools.pairwise"].contains n&&vs[0]? == some (rawInt _))=true then _ else _) Q E s
           rw[AE (by intro h;rw[hn,Dq]at h;cases h)];exact BR hQ))
def W8(K:W.Frag)(a:Addr):It:=
 ⟨λi H=>∃xs x,jK K H a xs∧xs[i]?=some x,λi H x H'=>H'=H∧∀xs,jK K H a xs→xs[i]?=some x,λi H=>∃xs,jK K H a xs∧xs.length≤i⟩
def fe(K:W.Frag)(a:Addr):It:=
 ⟨λi H=>∃xs x,js K H a xs∧xs[i]?=some x,λi H x H'=>H'=H∧∀xs,js K H a xs→xs[i]?=some x,λi H=>∃xs,js K H a xs∧xs.length≤i⟩
def Nm(lo:Int)(n:Nat):It:=⟨λi _=>i<n,λi H x H'=>H'=H∧x=.int (lo+i),λi _=>n≤i⟩
theorem vj(a it:Addr):Turn P w K tg (W8 K a) [it] it (λi h=>h.IsListIter it a i) where
 mem:=by simp
 obj:=λi h st b hb=>by
  have e:b=it:=by simpa using hb
  subst e;let⟨o,e,c,d⟩:=st;exact⟨o,e,λv z=>by rw[d]at z;cases z⟩
 keep:=λi h h' st k=>st.at λo e=>k it (by simp) o e
 item:=by
  intro X hP hw hK hc i v0 s σ H E I hf st hg;subst hP hw hK;let⟨xs,x,hq,hx⟩:=hg;let⟨bg,rv,p,hz⟩:=I.list hq;let⟨u,hu,ru⟩:=rv.get hx;let⟨f0,f1,f2,f3,f4,f5⟩:=hf it (by simp);exact wpAny_pyNext_list_item st p.isList (x:=u) (by simpa using hu) λh' zi sb=>?_;have I1:Inv X v0 σ H {s with heap:=h'}:=I.turned (t':=s.toks) (λb o hb e=>(sb.2 b hb).trans e) f0 f1 f3 f4 f5;let⟨o,e,c,d⟩:=id zi;exact⟨u,rfl,M1 (s:={s with heap:=h'}) e c d (by decide) ⟨x,H,I1,ru,⟨rfl,λys hy=>by rw[I.EA hy hq];exact hx⟩,zi,λb hb=>(hf b hb).1⟩⟩
 done:=by
  intro X hP hw hK hc i v0 s σ H E I hf st hg;subst hP hw hK;let⟨xs,hq,hx⟩:=hg;let⟨bg,rv,p,hz⟩:=I.list hq;let⟨f0,f1,f2,f3,f4,f5⟩:=hf it (by simp);have hl:=rv.length;exact wpAny_pyNext_list_end (I.ok.hd hc) st p.isList (by simp;lia) λh' eb=>⟨rfl,I.turned (t':=s.toks) (λb o hb e=>eb b o hb e) f0 f1 f3 f4 f5⟩
 self:=λ_ _ _ _ _ st h=>wpAny_pyIter_listiter st h
theorem aba(a it:Addr):Turn P w K tg (fe K a) [it] it (λi h=>h.IsTupleIter it a i) where
 mem:=by simp
 obj:=λi h st b hb=>by
  have e:b=it:=by simpa using hb
  subst e;let⟨o,e,c,d⟩:=st;exact⟨o,e,λv z=>by rw[d]at z;cases z⟩
 keep:=λi h h' st k=>st.at λo e=>k it (by simp) o e
 item:=by
  intro X hP hw hK hc i v0 s σ H E I hf st hg;subst hP hw hK;let⟨xs,x,hq,hx⟩:=hg;let⟨bg,rv,p,hz⟩:=I.tuple hq;let⟨u,hu,ru⟩:=rv.get hx;let⟨f0,f1,f2,f3,f4,f5⟩:=hf it (by simp);exact wpAny_pyNext_tuple_item st (show s.heap.IsTuple a bg.toArray from p) (x:=u) (by simpa using hu) λh' zi sb=>?_;have I1:Inv X v0 σ H {s with heap:=h'}:=I.turned (t':=s.toks) (λb o hb e=>(sb.2 b hb).trans e) f0 f1 f3 f4 f5;let⟨o,e,c,d⟩:=id zi;exact⟨u,rfl,M1 (s:={s with heap:=h'}) e c d (by decide) ⟨x,H,I1,ru,⟨rfl,λys hy=>by rw[I.nG hy hq];exact hx⟩,zi,λb hb=>(hf b hb).1⟩⟩
 done:=by
  intro X hP hw hK hc i v0 s σ H E I hf st hg;subst hP hw hK;let⟨xs,hq,hx⟩:=hg;let⟨bg,rv,p,hz⟩:=I.tuple hq;let⟨f0,f1,f2,f3,f4,f5⟩:=hf it (by simp);have hl:=rv.length;exact wpAny_pyNext_tuple_end (I.ok.hd hc) st (show s.heap.IsTuple a bg.toArray from p) (by simp;lia) λh' eb=>⟨rfl,I.turned (t':=s.toks) (λb o hb e=>eb b o hb e) f0 f1 f3 f4 f5⟩
 self:=λ_ _ _ _ _ st h=>wpAny_pyIter_tupleiter st h
theorem z0(it:Addr)(lo:Int)(n:Nat):Turn P w K tg (Nm lo n) [it] it (λi h=>IsRangeIter h it (lo+(i:Nat)*1) ((n:Int)-(i:Nat)) 1) where
 mem:=by simp
 obj:=λi h st b hb=>by
  have e:b=it:=by simpa using hb
  subst e;exact⟨_,st,λv z=>by
   have z':Data.fields _=Data.cell v:=z;cases z'⟩
 keep:=λi h h' st k=>k it (by simp) _ st
 item:=by
  intro X hP hw hK hc i v0 s σ H E I hf st hg;subst hP hw hK;let⟨f0,f1,f2,f3,f4,f5⟩:=hf it (by simp);have W:=Walks.range (prog:=X.prog) (w:=X.w) (I.ok.hd hc) it lo 1 n;exact W.item i s _ _ hg st λv h' tk hv zi kk=>?_;let⟨t,rfl⟩:=hv;have I1:Inv X v0 σ H {s with heap:=h',toks:=tk}:=I.turned (λb o hb e=>kk b o (by simpa using hb) e) f0 f1 f3 f4 f5;exact⟨_,rfl,M1 (s:={s with heap:=h',toks:=tk}) (n := "range_iterator") zi rfl rfl (by decide) ⟨.int (lo+i),H,I1,⟨t,?_⟩,⟨rfl,rfl⟩,zi,λb hb=>(hf b hb).1⟩⟩;rw[Int.mul_one]
 done:=by
  intro X hP hw hK hc i v0 s σ H E I hf st hg;subst hP hw hK;let⟨f0,f1,f2,f3,f4,f5⟩:=hf it (by simp);exact wpAny_pyNext_range_end (I.ok.hd hc) st (by have:n≤i:=hg;lia) λh' eb=>⟨rfl,I.turned (t':=s.toks) (λb o hb e=>eb b o hb e) f0 f1 f3 f4 f5⟩
 self:=λ_ _ _ _ _ st h=>wpAny_pyIter_rangeiter st h
section
variable {tg: Expr}
def u9(K:W.Frag)(tl:Ah):Es:=λσ H R=>tl σ H λx H1=>∃a,x=.ref a∧(∃xs,jK K H1 a xs)∧R (W8 K a) H1
def acY(K:W.Frag)(tl:Ah):Es:=λσ H R=>tl σ H λx H1=>∃a,x=.ref a∧(∃xs,js K H1 a xs)∧R (fe K a) H1
theorem ve(hl:PE X l tl):PI X tg l (u9 X.K tl):=by
 exact .mk ?_;intro v0 s σ H R I h;exact AV (hl v0 s σ H _ I h) λv s1 ξ=>Ξ23 ξ λx H1 I1 r1 q1=>?_;let⟨a,e,⟨xs,hq⟩,q⟩:=q1;subst e;cases r1;let⟨bg,rv,p,hz⟩:=I1.list hq;exact ae p.isList ?_;exact Ψ5 s1.heap.objs.size [s1.heap.objs.size] _ _ H1 ⟨rfl,I1.kept (t':=s1.toks) λb o e=>Ba _ e,vj a _,⟨_,Dh _ rfl,rfl,rfl⟩,λb hb=>?_,q⟩;have e:b=s1.heap.objs.size:=by simpa using hb
 subst e;exact I1.yz (Ax _) (I1.cN.fresh (Ax _))
theorem aaX(hl:PE X l tl):PI X tg l (acY X.K tl):=by
 exact .mk ?_;intro v0 s σ H R I h;exact AV (hl v0 s σ H _ I h) λv s1 ξ=>Ξ23 ξ λx H1 I1 r1 q1=>?_;let⟨a,e,⟨xs,hq⟩,q⟩:=q1;subst e;cases r1;let⟨bg,rv,p,hz⟩:=I1.tuple hq;exact ag (show s1.heap.IsTuple a bg.toArray from p) ?_;exact Ψ5 s1.heap.objs.size [s1.heap.objs.size] _ _ H1 ⟨rfl,I1.kept (t':=s1.toks) λb o e=>Ba _ e,aba a _,⟨_,Dh _ rfl,rfl,rfl⟩,λb hb=>?_,q⟩;have e:b=s1.heap.objs.size:=by simpa using hb
 subst e;exact I1.yz (Ax _) (I1.cN.fresh (Ax _))
theorem tD{R:It→A7→Prop}{lo hi:Int}{t u v:Tok}{tk:Nat}(I:Inv X v0 σ H s)(h1:-(2^62)≤lo)(h2:lo<2^62)(h3:-(2^62)≤hi)(h4:hi<2^62)
  (q:R (Nm lo (hi-lo).toNat) H):wpAny (model X.prog X.w) X.A (pyIter (.ref s.heap.objs.size)) (OS X v0 σ tg R) E {s with heap:=s.heap.push {cls:=.type "range",data:=.fields #[.int lo t,.int hi u,.int 1 v]},toks:=tk}:=by
 exact wpAny_pyIter_range (IsRange.new ..) (small_one h1 h2 h3 h4) ?_;have I1:Inv X v0 σ H {s with heap:=s.heap.push {cls:=.type "range",data:=.fields #[.int lo t,.int hi u,.int 1 v]},toks:=tk}:=I.kept λb o e=>Ba _ e;exact Ψ5 ((s.heap.push {cls:=.type "range",data:=.fields #[.int lo t,.int hi u,.int 1 v]}).objs.size) ([(s.heap.push {cls:=.type "range",data:=.fields #[.int lo t,.int hi u,.int 1 v]}).objs.size]) _ _ H ⟨rfl,
  I1.kept (t':=tk) λb o e=>Ba _ e,z0 _ lo (hi-lo).toNat,?_,λb hb=>?_,q⟩
 ·have e1:lo+((0:Nat):Int)*1=lo:=by simp
  have e2:(((hi-lo).toNat:Nat):Int)-((0:Nat):Int)=Builtin.Range.rangeSize lo hi 1:=by rw[rangeSize_one];split<;>lia
  show IsRangeIter _ _ (lo+((0:Nat):Int)*1) ((((hi-lo).toNat:Nat):Int)-((0:Nat):Int)) 1
  rw[e1,e2];exact Dh _ rfl
 ·have e:b=(s.heap.push {cls:=.type "range",data:=.fields #[.int lo t,.int hi u,.int 1 v]}).objs.size:=by simpa using hb
  subst e;exact I1.yz (Ax _) (I1.cN.fresh (Ax _))
def acv(ta:Cm):Es:=λσ H R=>ta σ H λvs H1=>∃j:Int,vs=[.int j]∧-(2^62)≤j∧j<2^62∧R (Nm 0 j.toNat) H1
theorem vi{a:Expr}{ta:Cm}{p pos:Pos}(hg:C6 X "range")(hm:X.mg "range" = none)(ha:PA X [a] ta)(hs:starEach [a] X.env=[(false,eval a X.env)]:=by rfl):PI X tg (.Call (.Name "range" p) [a] [] pos) (acv ta):=by
 exact .mk ?_;intro v0 s σ H R I h;exact Call_ (KI I hg hm boot_range (Qz (AV (ha pos v0 s σ H _ I h) λus s1 ξ=>Ξ23 ξ λvs H1 I1 r1 q1=>?_) hs rfl));obtain⟨j,e,q1,q2,q⟩:=q1;subst e;cases r1 with
 |cons r rr=>
  cases rr;let⟨t,rfl⟩:=r;exact call_range_1 (tD I1 (by lia) (by lia) q1 q2 (by simpa using q))
def uD(wi:Es)(g:Ed)(tb:Bu):Bu:=λD σ H=>wi σ H λJ H1=>∃W:Nat→Nat→St→A7→Prop,(∃m,W 0 m σ H1)∧∀i m σ H,W i m σ H→
 (J.stop i H∧D.nx σ H)∨(J.go i H∧∃N:St→A7→Prop,(∀σ' H',N σ' H'→∃m',m' < m∧W (i+1) m' σ' H')∧∀x H',J.uZ i H x H'→g x σ H' λσ2 H2=>tb {D with nx:=N,ct:=N,bk:=D.nx} σ2 H2)
def KW(fp:List Addr)(h:Heap):ac:=fp.filterMap λb=>(h.get? b).map λo=>(b,o)
theorem LC(hb:b∈fp)(e:h.get? b=some o):(b,o)∈KW fp h:=abz.mpr ⟨b,hb,by rw[e];rfl⟩
theorem xB{p:Addr×Obj}(hp:p∈KW fp h):p.1∈fp∧h.get? p.1=some p.2:=by
 let⟨b,hb,e⟩:=abz.mp hp;cases q:h.get? b with
 |none=>rw[q]at e;cases e
 |some o=>
  rw[q]at e;have e':(b,o)=p:=Cr e;subst e';exact⟨hb,q⟩
theorem Inv.pinned(I:Inv X v0 σ H s)(hf:∀b∈fp,Ee X v0 H b)(ho:∀b∈fp,∃o,s.heap.get? b=some o∧∀v,o.data≠.cell v):Inv X (v0++KW fp s.heap) σ H s:=
 I.zA λp hp=>(aaH.mp hp).elim (λz=>I.pin p (EH _ z)) λz=>by
  let⟨hb,e⟩:=xB z;let⟨f0,f1,f2,_⟩:=hf p.1 hb;let⟨o,e',d⟩:=ho p.1 hb;rw[e]at e';cases e';exact⟨e,f0,f1,f2,d⟩
theorem Inv.j5{pl:ac}(I:Inv X (v0++pl) σ H s):Inv X v0 σ H s:=I.zA λp hp=>I.pin p (EH _ (Iz _ hp))
theorem aaN{iter:Expr}{wi:Es}{g:Ed}{tb:Bu}{pos:Pos}(hp:PassesOwn (model X.prog X.w) X.A X.env X.xe)(hc:X.calm=true)(hi:PI X tg iter wi)(hg:PG X tg g)(hb:jU X body tb)
  (hs:∀x,foldedSetIterable iter X.env x=pure x:=by intro _;rfl):PS X (.For tg iter body [] pos) (uD wi g tb):=by
 exact .mk ?_;intro v0 s σ H D I h;exact wpAny_For (AV (hi v0 s σ H _ I h) λv s1 h1=>AV h1 λPJ s2 h2=>?_) hs;let⟨it,fp,tn,J,H2,e,I2,T,uR,f2,⟨W,⟨m0,w0⟩,turn⟩⟩:=h2;subst e
 -- NS stays true of zf Mz objects through zf loop
 have K6:∀{H':A7},(∀b∈fp,H' b=none)→∀b∈fp,Ee X v0 H' b:=λhn b hb=>⟨hn b hb,(f2 b hb).2⟩;exact codeAny_forLoop_any (λn s'=>∃i σ' H',Inv X v0 σ' H' s'∧tn i s'.heap∧(∀b∈fp,H' b=none)∧W i n σ' H') ?_ m0 ⟨0,σ,H2,I2,uR,λb hb=>(f2 b hb).1,w0⟩;intro n s3⟨i,σ3,H3,I3,Jg,JX,w3⟩;rcases turn i n σ3 H3 w3 with⟨stop,qn⟩|⟨go,N,hN,step⟩
 ·exact Je hp (AV (T.done X rfl rfl rfl hc i v0 s3 σ3 H3 X.xe I3 (K6 JX) Jg stop) λr s4 ξ=>Ξ02 ξ λhr I4=>?_)
  subst hr;exact Mv ⟨σ3,H3,I4,qn⟩
 ·exact Je hp (AV (T.item X rfl rfl rfl hc i v0 s3 σ3 H3 X.xe I3 (K6 JX) Jg go) λr s4 ξ=>Ξ12 ξ λu hr h4=>?_)
  subst hr;exact Je hp (AV h4 λ_ s5 ξ=>Ξ25 ξ λx H5 I5 r5 y5 CS Qn=>?_);have Q3:=I5.pinned (K6 Qn) (T.obj _ _ CS);exact Je hp (AV (hg _ s5 σ3 H5 x u _ Q3 r5 (step x H5 y5)) λ_ s6 ξ=>Ξ22 ξ λσ6 H6 I6 q6=>?_);exact Je hp (AV (hb _ s6 σ6 H6 _ I6 q6) λf s7 q7=>?_);have again:∀{σ7:St} {H7:A7},Inv X (v0++KW fp s5.heap) σ7 H7 s7→N σ7 H7→∃m,m<n∧∃i σ' H',Inv X v0 σ' H' s7∧tn i s7.heap∧(∀b∈fp,H' b=none)∧W i m σ' H':=λ{σ7 H7} I7 n7=>by
   let⟨m',hm,w7⟩:=hN σ7 H7 n7;exact⟨m',hm,i+1,σ7,H7,I7.j5,T.keep _ _ _ CS λb hb o e=>(I7.pin (b,o) (EH _ (EH _ (LC hb e)))).1,λb hb=>?_,w7⟩;let⟨o,e,d⟩:=T.obj _ _ CS b hb;exact(I7.pin (b,o) (EH _ (EH _ (LC hb e)))).2.1
  cases f with
  |next=>let⟨σ7,H7,I7,n7⟩:=q7;exact again I7 n7
  |cont=>let⟨σ7,H7,I7,n7⟩:=q7;exact again I7 n7
  |brk=>obtain⟨σ7,H7,I7,q7⟩:=q7;exact Ψ2 σ7 H7 ⟨I7.j5,q7⟩
  |ret v=>obtain⟨x7,σ7,H7,I7,r7,q7⟩:=q7;exact Ψ3 x7 σ7 H7 ⟨I7.j5,r7,q7⟩
end
abbrev EE:=V→V→A7→Ar→Prop
def By(X:Cx)(f:Value→Value→Sem Value)(r:EE):Prop:=
 ∀v0 s σ H (x y:V) (v u:Value) (Q:Ar),Inv X v0 σ H s→RelV x v→RelV y u→r x y H Q→
  wpAny (model X.prog X.w) X.A (f v u) (Cf X v0 σ Q) X.xe s
def af(X:Cx)(f:Value→Sem Value)(r:V→A7→Ar→Prop):Prop:=
 ∀v0 s σ H (x:V) (v:Value) (Q:Ar),Inv X v0 σ H s→RelV x v→r x H Q→
  wpAny (model X.prog X.w) X.A (f v) (Cf X v0 σ Q) X.xe s
def FN(X:Cx)(f:Value)(r:List V→A7→Ar→Prop):Prop:=
 ∀v0 s σ H (xs:List V) (us:List Value) (Q:Ar),Inv X v0 σ H s→Vals xs us→r xs H Q→
  wpAny (model X.prog X.w) X.A (call f us) (Cf X v0 σ Q) X.xe s
def NU(r:EE)(ta tb:Ah):Ah:=λσ H Q=>ta σ H λx H1=>tb σ H1 λy H2=>r x y H2 Q
def Gap(r:V→A7→Ar→Prop)(ta:Ah):Ah:=λσ H Q=>ta σ H λx H1=>r x H1 Q
def Ku(C:Int→Int→Prop)(g:Int→Int→V):EE:=λx y H Q=>∃i j,x=.int i∧y=.int j∧C i j∧Q (g i j) H
def Hk(g:Int→Int→V):EE:=λx y H Q=>∃i j,x=.int i∧y=.int j∧Q (g i j) H
def kF(g:Int→V):V→A7→Ar→Prop:=λx H Q=>∃i,x=.int i∧Q (g i) H
section
variable {a b: Expr}
theorem eT(ha:PE X a ta)(hb:PE X b tb){R:V→V→A7→Prop}(I:Inv X v0 σ H s)
  (h:ta σ H λx H1=>tb σ H1 λy H2=>R x y H2)  
  (hf:∀v u s2 x y H2,Inv X v0 σ H2 s2→RelV x v→RelV y u→R x y H2→wpAny (model X.prog X.w) X.A (f v u) Q X.xe s2) :
  wpAny (model X.prog X.w) X.A (eval a X.env) (λv s₁=>wpAny (model X.prog X.w) X.A (eval b X.env) (λu s₂=>wpAny (model X.prog X.w) X.A (f v u) Q X.xe s₂) X.xe s₁) X.xe s:=by
 exact AV (ha v0 s σ H _ I h) λv s1 ξ=>Ξ23 ξ λx H1 I1 r1 q1=>?_;exact AV (hb v0 s1 σ H1 _ I1 q1) λu s2 ξ=>Ξ23 ξ λy H2 I2 r2 q2=>?_;exact hf v u s2 x y H2 I2 r1 r2 q2
theorem sj{op:Operator}(ho:By X (binaryOp op) r)(ha:PE X a ta)(hb:PE X b tb):PE X (.BinOp a op b pos) (NU r ta tb):=by
 exact .mk ?_;intro v0 s σ H Q I h;exact wpAny_BinOp (eT ha hb I h λv u s2 x y H2 I2 rx ry q=>ho v0 s2 σ H2 x y v u Q I2 rx ry q)
theorem abH{op:UnaryOp}{r:V→A7→Ar→Prop}(ho:af X (unaryOp op) r)(ha:PE X a ta):PE X (.UnaryOp op a pos) (Gap r ta):=by
 exact .mk ?_;intro v0 s σ H Q I h;exact UnaryOp_ (AV (ha v0 s σ H _ I h) λv s1 ξ=>Ξ23 ξ λx H1 I1 r1 q1=>ho v0 s1 σ H1 x v Q I1 r1 q1)
theorem Nr{C:Int→Int→Prop}
  (rule:∀(i j:Int) (t u:Tok) (s:Shared) (Q:xz) (E:xz),C i j→Q (.int (g i j) s.toks) {s with toks:=s.toks+1}→wpAny (model X.prog X.w) X.A (f (.int i t) (.int j u)) Q E s) :
  By X f (Ku C λi j=>.int (g i j)):=by
 intro v0 s σ H x y v u Q I rx ry h;let⟨i,j,rfl,rfl,hc,q⟩:=h;let⟨t,rfl⟩:=rx;let⟨t',rfl⟩:=ry;exact rule i j t t' s _ _ hc ⟨.int (g i j),H,I.tok _,⟨_,rfl⟩,q⟩
theorem Wl
  (rule:∀(i j:Int) (t u:Tok) (s:Shared) (Q:xz) (E:xz),Q (.int (g i j) s.toks) {s with toks:=s.toks+1}→wpAny (model X.prog X.w) X.A (f (.int i t) (.int j u)) Q E s) :
  By X f (Hk λi j=>.int (g i j)):=by
 intro v0 s σ H x y v u Q I rx ry h;let⟨i,j,rfl,rfl,q⟩:=h;let⟨t,rfl⟩:=rx;let⟨t',rfl⟩:=ry;exact rule i j t t' s _ _ ⟨.int (g i j),H,I.tok _,⟨_,rfl⟩,q⟩
theorem O8{g:Int→Int→Bool}
  (rule:∀(i j:Int) (t u:Tok) (s:Shared) (Q:xz) (E:xz),Q (.bool (g i j)) s→wpAny (model X.prog X.w) X.A (f (.int i t) (.int j u)) Q E s) :
  By X f (Hk λi j=>.bl (g i j)):=by
 intro v0 s σ H x y v u Q I rx ry h;let⟨i,j,rfl,rfl,q⟩:=h;let⟨t,rfl⟩:=rx;let⟨t',rfl⟩:=ry;exact rule i j t t' s _ _ ⟨.bl (g i j),H,I,rfl,q⟩
def mD(i j:Int):Prop:=0≤j∧j≤1000000∧i.natAbs<2^64
def IU(i j:Int):Prop:=(-(2^64)<i∧i<2^64)∨(-(2^64)<j∧j<2^64)
theorem IU.ok{i j:Int}(h:IU i j):IntMulOk i j:=by
 rcases h with⟨h1,h2⟩|⟨h1,h2⟩
 ·exact .of_left (intBits_le_64 h1 h2)
 ·exact .of_right (intBits_le_64 h1 h2)
theorem xK:By X (binaryOp .Add) (Hk λi j=>.int (i+j)):=Wl λ_ _ _ _ _ _ _ q=>add_int q
theorem v9:By X (binaryOp .Sub) (Hk λi j=>.int (i-j)):=Wl λ_ _ _ _ _ _ _ q=>sub_int q
theorem aaw:By X (binaryOp .Mult) (Ku IU λi j=>.int (i*j)):=Nr λ_ _ _ _ _ _ _ hc q=>mul_int q hc.ok
theorem yC:By X (binaryOp .Mod) (Ku (λ_ j=>0<j) λi j=>.int (i%j)):=Nr λi j _ _ _ _ _ hc q=>by
 have h1:(0:Int)<j:=hc;exact mod_int' (by lia) (by rw[Int.fmod_eq_emod_of_nonneg i (by lia)];exact q)
theorem yy:By X (binaryOp .Pow) (Ku mD λi j=>.int (i^j.toNat)):=Nr λ_ _ _ _ _ _ _ hc q=>pow_int_small hc.1 hc.2.1 hc.2.2 q
theorem acx:By X (inplaceOp .Add) (Hk λi j=>.int (i+j)):=Wl λ_ _ _ _ _ _ _ q=>iadd_int q
theorem adb{f:Value→Sem Value}{g:Int→Int}
  (rule:∀(i:Int) (t:Tok) (s:Shared) (Q:xz) (E:xz),Q (.int (g i) s.toks) {s with toks:=s.toks+1}→wpAny (model X.prog X.w) X.A (f (.int i t)) Q E s) :
  af X f (kF λi=>.int (g i)):=by
 intro v0 s σ H x v Q I rx h;let⟨i,rfl,q⟩:=h;let⟨t,rfl⟩:=rx;exact rule i t s _ _ ⟨.int (g i),H,I.tok _,⟨_,rfl⟩,q⟩
theorem aan:af X (unaryOp .USub) (kF λi=>.int (-i)):=adb λ_ _ _ _ _ q=>neg_int q
end
def Ox:V→V→Bool
 |.non,.non=>true|.non,.int _=>true|.int _,.non=>true|.non,.bl _=>true|.bl _,.non=>true|.non,.str _=>true|.str _,.non=>true
 |.int _,.int _=>true|.bl _,.bl _=>true|.str _,.str _=>true|.byt _,.byt _=>true
 |.int _,.str _=>true|.str _,.int _=>true|.bl _,.str _=>true|.str _,.bl _=>true
 |_,_=>false
def wN:EE:=λx y H Q=>Ox x y=true∧Q (.bl (decide (x=y))) H
def acy:EE:=λx y H Q=>Ox x y=true∧Q (.bl (!decide (x=y))) H
theorem jS{i j:Int}:decide (V.int i=V.int j)=(i==j):=by
 rw[GV];simp
theorem mj{i j:Bool}:decide (V.bl i=V.bl j)=(i==j):=by
 rw[GV];simp
theorem qt{i j:Str}:decide (V.str i=V.str j)=(i==j):=by
 rw[GV];simp
theorem iz{i j:Array UInt8}:decide (V.byt i=V.byt j)=(i.toList==j.toList):=by
 rw[GV];cases i;cases j;simp
section
variable {a b c: Expr}{tc: Ah}
theorem CJ{Q:Ar}{k k':Bool}(I:Inv X v0 σ H s)(q:Q (.bl k) H)(e:k=k'):Cf X v0 σ Q (.bool k') s:=by
 subst e;exact Ψ2 (.bl k) H ⟨I,rfl,q⟩
theorem abG:By X (compareOp .Eq) wN:=by
 intro v0 s σ H x y v u Q I rx ry h;let⟨hs,q⟩:=h;cases x with
 |non=>
  cases rx;cases y with
  |non=>cases ry;exact PySem.EqNone.eq_none_none (CJ I q (by simp))
  |bl j=>cases ry;exact PySem.EqNone.eq_none_bool (CJ I q (by simp))
  |int j=>let⟨t',rfl⟩:=ry;exact PySem.EqNone.eq_none_int (CJ I q (by simp))
  |str j=>let⟨t',rfl⟩:=ry;exact PySem.EqNone.eq_none_str (CJ I q (by simp))
  |_=>exact absurd (show false=true from hs) DH
 |bl i=>
  cases rx;cases y with
  |non=>cases ry;exact PySem.EqNone.eq_bool_none (CJ I q (by simp))
  |bl j=>cases ry;exact eq_bool (CJ I q mj)
  |str j=>let⟨t',rfl⟩:=ry;exact PySem.EqMixed.eq_bool_str (CJ I q (by simp))
  |_=>exact absurd (show false=true from hs) DH
 |int i=>
  let⟨t,rfl⟩:=rx;cases y with
  |non=>cases ry;exact PySem.EqNone.eq_int_none (CJ I q (by simp))
  |int j=>let⟨t',rfl⟩:=ry;exact eq_int (CJ I q jS)
  |str j=>let⟨t',rfl⟩:=ry;exact PySem.EqMixed.eq_int_str (CJ I q (by simp))
  |_=>exact absurd (show false=true from hs) DH
 |str i=>
  let⟨t,rfl⟩:=rx;cases y with
  |non=>cases ry;exact PySem.EqNone.eq_str_none (CJ I q (by simp))
  |bl j=>cases ry;exact PySem.EqMixed.eq_str_bool (CJ I q (by simp))
  |int j=>let⟨t',rfl⟩:=ry;exact PySem.EqMixed.eq_str_int (CJ I q (by simp))
  |str j=>let⟨t',rfl⟩:=ry;exact eq_str (CJ I q qt)
  |_=>exact absurd (show false=true from hs) DH
 |byt i=>
  let⟨t,rfl⟩:=rx;cases y with
  |byt j=>let⟨t',rfl⟩:=ry;exact W.eq_bytes (CJ I q iz)
  |_=>exact absurd (show false=true from hs) DH
 |_=>cases y<;>exact absurd (show false=true from hs) DH
theorem uv:By X (compareOp .NotEq) acy:=by
 intro v0 s σ H x y v u Q I rx ry h;let⟨hs,q⟩:=h;cases x with
 |non=>
  cases rx;cases y with
  |non=>cases ry;exact PySem.EqNone.ne_none_none (CJ I q (by simp))
  |bl j=>cases ry;exact PySem.EqNone.ne_none_bool (CJ I q (by simp))
  |int j=>let⟨t',rfl⟩:=ry;exact PySem.EqNone.ne_none_int (CJ I q (by simp))
  |str j=>let⟨t',rfl⟩:=ry;exact PySem.EqNone.ne_none_str (CJ I q (by simp))
  |_=>exact absurd (show false=true from hs) DH
 |bl i=>
  cases rx;cases y with
  |non=>cases ry;exact PySem.EqNone.ne_bool_none (CJ I q (by simp))
  |bl j=>cases ry;exact ne_bool (CJ I q (Ai not mj))
  |str j=>let⟨t',rfl⟩:=ry;exact PySem.EqMixed.ne_bool_str (CJ I q (by simp))
  |_=>exact absurd (show false=true from hs) DH
 |int i=>
  let⟨t,rfl⟩:=rx;cases y with
  |non=>cases ry;exact PySem.EqNone.ne_int_none (CJ I q (by simp))
  |int j=>let⟨t',rfl⟩:=ry;exact ne_int (CJ I q (Ai not jS))
  |str j=>let⟨t',rfl⟩:=ry;exact PySem.EqMixed.ne_int_str (CJ I q (by simp))
  |_=>exact absurd (show false=true from hs) DH
 |str i=>
  let⟨t,rfl⟩:=rx;cases y with
  |non=>cases ry;exact PySem.EqNone.ne_str_none (CJ I q (by simp))
  |bl j=>cases ry;exact PySem.EqMixed.ne_str_bool (CJ I q (by simp))
  |int j=>let⟨t',rfl⟩:=ry;exact PySem.EqMixed.ne_str_int (CJ I q (by simp))
  |str j=>let⟨t',rfl⟩:=ry;exact ne_str (CJ I q (Ai not qt))
  |_=>exact absurd (show false=true from hs) DH
 |byt i=>
  let⟨t,rfl⟩:=rx;cases y with
  |byt j=>let⟨t',rfl⟩:=ry;exact W.ne_bytes (CJ I q (Ai not iz))
  |_=>exact absurd (show false=true from hs) DH
 |_=>cases y<;>exact absurd (show false=true from hs) DH
theorem abf:By X (compareOp .Lt) (Hk λi j=>.bl (decide (i<j))):=O8 λ_ _ _ _ _ _ _ q=>lt_int q
theorem vd:By X (compareOp .LtE) (Hk λi j=>.bl (decide (i≤j))):=O8 λ_ _ _ _ _ _ _ q=>le_int q
theorem y0:By X (compareOp .Gt) (Hk λi j=>.bl (decide (j<i))):=O8 λ_ _ _ _ _ _ _ q=>gt_int q
theorem rp:By X (compareOp .GtE) (Hk λi j=>.bl (decide (j≤i))):=O8 λ_ _ _ _ _ _ _ q=>ge_int q
theorem sH:By X (compareOp .In) (λx y H Q=>∃i j,x=.str i∧y=.str j∧Q (.bl (!(Builtin.Str.occurrences j i 0 j.length 1).isEmpty)) H):=by
 intro v0 s σ H x y v u Q I rx ry h;let⟨i,j,rfl,rfl,q⟩:=h;let⟨t,rfl⟩:=rx;let⟨t',rfl⟩:=ry;exact in_str (CJ I q rfl)
theorem sx:By X (compareOp .Is) (λx y H Q=>y=.non∧Q (.bl (decide (x=.non))) H):=by
 intro v0 s σ H x y v u Q I rx ry h;let⟨rfl,q⟩:=h;cases ry;exact is_none_gen (CJ I q ?_);cases x<;>first
  |(cases rx;rfl)
  |(let⟨t,rfl⟩:=rx;rfl)
theorem tW:By X (compareOp .IsNot) (λx y H Q=>y=.non∧Q (.bl (!decide (x=.non))) H):=by
 intro v0 s σ H x y v u Q I rx ry h;let⟨rfl,q⟩:=h;cases ry;exact isnot_none_gen (CJ I q ?_);cases x<;>first
  |(cases rx;rfl)
  |(let⟨t,rfl⟩:=rx;rfl)
theorem uC:By X (compareOp .NotIn) (λx y H Q=>∃i j,x=.str i∧y=.str j∧Q (.bl (!(!(Builtin.Str.occurrences j i 0 j.length 1).isEmpty))) H):=by
 intro v0 s σ H x y v u Q I rx ry h;let⟨i,j,rfl,rfl,q⟩:=h;let⟨t,rfl⟩:=rx;let⟨t',rfl⟩:=ry;exact notIn_str (CJ I q rfl)
theorem lP(b:Expr){op:CmpOp}(h:op≠.In:=by decide)(h2:op≠.NotIn:=by decide):behindInMarks op b=false:=by
 have e1:(op==CmpOp.In)=false:=by cases op<;>first|rfl|exact absurd rfl h
 have e2:(op==CmpOp.NotIn)=false:=by cases op<;>first|rfl|exact absurd rfl h2
 cases b<;>simp[behindInMarks,e1,e2]
theorem aa8{op:CmpOp}(ho:By X (compareOp op) r)(ha:PE X a ta)(hb:PE X b tb)(hm:behindInMarks op b=false):PE X (.Compare a [op] [b] pos) (NU r ta tb):=by
 exact .mk ?_;intro v0 s σ H Q I h;exact wpAny_Compare1 (eT ha hb I h λv u s2 x y H2 I2 rx ry q=>ho v0 s2 σ H2 x y v u Q I2 rx ry q) hm
def bD(t:Ah):D0:=λσ H Q=>t σ H λx H'=>∃k,x=.bl k∧Q k H'
theorem abw{op:CmpOp}(ho:By X (compareOp op) r)(ha:PE X a ta)(hb:PE X b tb)(hm:behindInMarks op b=false):PT X (.Compare a [op] [b] pos) (bD (NU r ta tb)):=by
 exact .mk ?_;intro v0 s σ H Q I h;exact wpAny_isTrue_Compare1 (AV (ha v0 s σ H _ I h) λv s1 ξ=>Ξ23 ξ λx H1 I1 r1 q1=>AV (hb v0 s1 σ H1 _ I1 q1) λu s2 ξ=>Ξ23 ξ λy H2 I2 r2 q2=>
  AV (ho v0 s2 σ H2 x y v u _ I2 r1 r2 q2) λc s3⟨z,H3,I3,r3,k,e,q3⟩=>?_) hm
 subst e;cases r3;exact IS ⟨H3,I3,q3⟩
def fJ(r r':EE)(ta tb tc:Ah):Ah:=λσ H Q=>ta σ H λx H1=>tb σ H1 λy H2=>r x y H2 λz H3=>∃k,z=.bl k∧
 (if k=true then tc σ H3 λw' H4=>r' y w' H4 Q else Q (.bl false) H3)
theorem ac5{op:CmpOp}(ho:By X (compareOp op) r)(nc:By X (compareOp zK) r')(ha:PE X a ta)(hb:PE X b tb)(hc:PE X c tc)
  (hm:lastMarks [op,zK] [b,c]=false:=by with_unfolding_all rfl):PE X (.Compare a [op,zK] [b,c] pos) (fJ r r' ta tb tc):=by
 exact .mk ?_;intro v0 s σ H Q I h;exact Compare_chain (AV (ha v0 s σ H _ I h) λv s1 ξ=>Ξ23 ξ λx H1 I1 r1 q1=>chain_link (AV (hb v0 s1 σ H1 _ I1 q1) λu s2 ξ=>Ξ23 ξ λy H2 I2 r2 q2=>
  AV (ho v0 s2 σ H2 x y v u _ I2 r1 r2 q2) λd s3⟨z,H3,I3,r3,k,e,q3⟩=>?_)) hm
 subst e;cases r3;exact IS ?_;cases k with
 |false=>exact ite_ff ⟨.bl false,H3,I3,rfl,q3⟩
 |true=>exact ite_tt (chain_last (AV (hc v0 s3 σ H3 _ I3 q3) λw' s4 ξ=>Ξ23 ξ λz' H4 I4 r4 q4=>nc v0 s4 σ H4 y z' u w' Q I4 r2 r4 q4))
theorem acr{op:CmpOp}(ho:By X (compareOp op) r)(nc:By X (compareOp zK) r')(ha:PE X a ta)(hb:PE X b tb)(hc:PE X c tc)
  (hm:lastMarks [op,zK] [b,c]=false:=by with_unfolding_all rfl):PT X (.Compare a [op,zK] [b,c] pos) (bD (fJ r r' ta tb tc)):=by
 exact .mk ?_;intro v0 s σ H Q I h;exact isTrue_chain (AV (ha v0 s σ H _ I h) λv s1 ξ=>Ξ23 ξ λx H1 I1 r1 q1=>test_link (AV (hb v0 s1 σ H1 _ I1 q1) λu s2 ξ=>Ξ23 ξ λy H2 I2 r2 q2=>
  AV (ho v0 s2 σ H2 x y v u _ I2 r1 r2 q2) λd s3⟨z,H3,I3,r3,k,e,q3⟩=>?_)) hm
 subst e;cases r3;exact IS ?_;cases k with
 |false=>
  let⟨k',e',q'⟩:=q3;cases e';exact ite_ff ⟨H3,I3,q'⟩
 |true=>
  exact ite_tt (test_last (AV (hc v0 s3 σ H3 _ I3 q3) λw' s4 ξ=>Ξ23 ξ λz' H4 I4 r4 q4=>AV (nc v0 s4 σ H4 y z' u w' _ I4 r2 r4 q4) λd' s5⟨z2,H5,I5,r5,k2,e2,q5⟩=>?_));subst e2;cases r5;exact IS ⟨H5,I5,q5⟩
theorem Ky:(sizeLine:Nat)<2^63:=by rw[E3];decide
theorem si:By X (binaryOp .Add) (λx y H Q=>∃i j,x=.str i∧y=.str j∧i.length+j.length≤sizeLine∧Q (.str (i++j)) H):=by
 intro v0 s σ H x y v u Q I rx ry h;let⟨i,j,rfl,rfl,hz,q⟩:=h;let⟨t,rfl⟩:=rx;let⟨t',rfl⟩:=ry;exact add_str (λt' tk=>Ψ2 (.str (i++j)) H ⟨I.tok _,⟨_,rfl⟩,q⟩) hz
theorem vals1{x:V}(r:Vals [x] us):∃u,us=[u]∧RelV x u:=by
 cases r with
 |cons r1 r2=>cases r2;exact⟨_,rfl,r1⟩
theorem vals2{x:V}(r:Vals [x,y] us):∃u w',us=[u,w']∧RelV x u∧RelV y w':=by
 cases r with
 |cons r1 r2=>
  cases r2 with
  |cons r3 r4=>cases r4;exact Ψ2 _ _ ⟨rfl,r1,r3⟩
theorem xf(hc:X.calm=true):FN X (.builtin "min") (λxs H Q=>∃i j,xs=[.int i,.int j]∧Q (.int (if j<i then j else i)) H):=by
 intro v0 s σ H xs us Q I r h;let⟨i,j,rfl,q⟩:=h;let⟨u,w',rfl,⟨t,rfl⟩,⟨t',rfl⟩⟩:=vals2 r;exact min_two_ints (I.ok.hd hc) λh' tk k=>Ψ2 _ H ⟨I.kept k,?_,q⟩;by_cases hj:j<i
 ·rw[AM hj,AM hj];exact⟨_,rfl⟩
 ·rw[AE hj,AE hj];exact⟨_,rfl⟩
end
structure yS(h:Heap)(x dx C:Addr)(mA:KK):Prop where
 obj:h.get? x=some (W.instObj C dx)
 ns:h.Ns1 dx mA
 ne:dx≠x
theorem wA{dx:Addr}(n:h.Ns1 dx mA):∃od,h.get? dx=some od∧∀name,W.lookIn name od=some (mA name):=by
 let⟨o,es,ep,ho,hd,hk,_,hm⟩:=n;exact⟨o,ho,λname=>?_⟩;have e:=hm name;unfold nsFind findBy at e;rw[←Array.find?_toList]at e;unfold W.lookIn;rw[hd];dsimp only;split
 ·rename_i y q
  rw[q]at e;exact Ai some e
 ·rename_i q
  rw[q]at e;have a:es.toList.any (·.refKey)=false:=by
   rw[List.any_eq_false];intro y hy;let⟨z,t,T9⟩:=hk y (Array.mem_toList_iff.mp hy);simp[DictEntry.refKey,T9]
  have a':¬es.toList.any (·.refKey)=true:=by rw[a];exact DH
  rw[AE a'];exact Ai some e
theorem yS.look{x dx:Addr}(I:yS h x dx C mA):∃od,W.InstAt h x (W.instObj C dx) C (some od)∧∀name,W.lookIn name od=some (mA name):=
 let⟨od,ho,hl⟩:=wA I.ns
 ⟨od,⟨I.obj,rfl,rfl,ho⟩,hl⟩
section
variable {prog: Program}{w: World}{A: Around}{E: Value→Shared→Prop}{s: Shared}{K: W.Frag}{x C f: Addr}{mA: Str→Option Value}{name: Str}{v: Value}
theorem get_map{expr:Bool}(X:K.In s.heap)(I:yS s.heap x dx C mA)(hg:W.plainGet K C name=true)(hh:W.hasDictIn K C=true)
  (ha:W.findIn K (.ref C) name=some none) (hv:mA name=some v) (JO:W.handedIn v=true) (h:Q v {s with toks:=s.toks+1}) :
  wpAny (model prog w) A (getAttr (.ref x) name expr) Q E s:=by
 let⟨od,J,hl⟩:=I.look;exact W.get_value X J (cC hg).1 (W.findObj_own hh ha rfl (by rw[hl,hv])) JO h
theorem uJ{Q:Value×List Value→Shared→Prop}(X:K.In s.heap)(I:yS s.heap x dx C mA)(hg:W.plainGet K C name=true)
  (hf:W.findIn K (.ref C) name=some (some (.ref f))) (ht:W.isFn K (.ref f)=true) (hv:mA name=none) (h:Q (.ref f,[.ref x]) s) :
  wpAny (model prog w) A (getMethod (.ref x) name pl) Q E s:=by
 let⟨od,J,hl⟩:=I.look;exact W.method_fn X J (cC hg).1 (cC hg).2 hf (abl.mp ht) (by show(W.lookIn name od).map (·.isSome)=some false;rw[hl,hv];rfl) h
theorem acI{ns:List Str}{Q:Unit→Shared→Prop}(X:K.In s.heap)(I:yS s.heap x dx C mA)
  (hs:W.findIn K (.ref C) "__setattr__" = some (some (.builtin "object.__setattr__"))) (hp:W.plainOver K C=true) (ht:W.takerIn K C name=some none) (hh:W.hasDictIn K C=true)
  (hw:PySem.Within mA ns) (HK:ns.length≤sizeLine)
  (h:∀h',yS h' x dx C (λy=>if y=name then some v else mA y)→Heap.SameBut dx s.heap h'→Q () {s with heap:=h',toks:=s.toks+2}) :
  wpAny (model prog w) A (setAttr (.ref x) name v) Q E s:=by
 let⟨od,J,hl⟩:=I.look;exact W.set_plain X J hs (W.osa_open (s:={s with toks:=s.toks+1}) (r:=none) X J hp ht λb=>?_);let⟨cd,hc,E2⟩:=W.any_some hh;have hx:s.heap.get? x=some ⟨.ref C,some dx,.plain,#[]⟩:=I.obj;exact AN (BR (AN (AN (wpAny_loadPart hx (AN (W.Looks.here (s:={s with toks:=s.toks+1}) (W.looks_clsIn X hc) ?_))))));rw[E2];exact BR (a:=some dx) (AN (BR (AN ?_)));exact wpAny_nsSet1 (s:={s with toks:=s.toks+1}) I.ns λh' RH wI=>?_;let⟨oD,esD,epD,Yb,Yp,Yr⟩:=RH.count (PySem.Within.cons name v hw);exact AN (wpAny_lookBehind Yb (by rw[Yp];exact pastItsLine_dict (Ce Yr (by rw[Aw];lia))) ?_);exact BR (h _ ⟨(wI.2 _ (IC I.ne)).trans I.obj,RH,I.ne⟩ wI)
theorem zP{R:Result→Shared→Prop}{vs:List Value}(X:K.In s.heap)(hm:W.makesIn K C=true)
  (hi:W.findIn K (.ref C) "__init__" = some (some (.ref f))) (hf:W.typeIn K (.ref f)=some (.type "function"))
  (h:codeAny (model prog w) (A.under (.builtin "type.__call__" ⟨.ref C::vs,kw⟩)) (.call (.ref f) ⟨.ref (s.heap.objs.size+1)::vs,kw⟩) (W.InitBack (s.heap.objs.size+1) R)
   {s with heap:=(s.heap.push W.emptyDict).push (W.instObj C s.heap.objs.size)}) :
  codeAny (model prog w) A (.call (.ref C) ⟨vs,kw⟩) R s:=by
 obtain⟨hh,g,d,t,os⟩:=s;exact W.make_core (W.makes_of X hm) (W.looks_findIn X hi) (λself=>W.bind_fn X self hf) (.inl rfl) h
end
def E9(f:Str)(v:V):List (Str×V)→List (Str×V)
 |[]=>[(f,v)]
 |(g,x)::r=>if g=f then(g,v)::r else(g,x)::E9 f v r
theorem nR(f g:Str)(v:V):∀fs:List (Str×V),(E9 f v fs).lookup g=if g=f then some v else fs.lookup g
 |[]=>by
  show List.lookup g [(f,v)]=_
  by_cases h:g=f
  ·have hb:(g==f)=true:=abl.mpr h
   simp only[List.lookup,hb,AM h]
  ·have hb:(g==f)=false:=abL.mpr h
   simp only[List.lookup,hb,AE h]
 |(k,x)::r=>by
  have ih:=nR f g v r;rw[show E9 f v ((k,x)::r)=(if k=f then(k,v)::r else(k,x)::E9 f v r)from rfl];by_cases hk:k=f
  ·rw[AM hk]
   by_cases h:g=k
   ·have hb:(g==k)=true:=abl.mpr h
    simp only[List.lookup,hb,AM (h.trans hk)]
   ·have hb:(g==k)=false:=abL.mpr h
    simp only[List.lookup,hb,AE (λe:g=f=>h (e.trans hk.symm))]
  ·rw[AE hk]
   by_cases h:g=k
   ·have hb:(g==k)=true:=abl.mpr h
    simp only[List.lookup,hb,AE (λe:g=f=>hk (h.symm.trans e))]
   ·have hb:(g==k)=false:=abL.mpr h
    simp only[List.lookup,hb];exact ih
theorem Sx(f:Str)(v:V):∀fs:List (Str×V),f∈(E9 f v fs).map (·.1)∧∀g,g∈fs.map (·.1)→g∈(E9 f v fs).map (·.1)
 |[]=>⟨by simp[E9],λg h=>by simp at h⟩
 |(k,x)::r=>by
  let⟨i1,i2⟩:=Sx f v r;rw[show E9 f v ((k,x)::r)=(if k=f then(k,v)::r else(k,x)::E9 f v r)from rfl];by_cases hk:k=f
  ·rw[AM hk]
   subst hk;exact⟨by simp,λg h=>by simpa using h⟩
  ·rw[AE hk]
   exact⟨?_,λg h=>?_⟩
   ·rw[CV]
    exact GO _ i1
   ·rw[CV]at h ⊢
    rcases aam.mp h with e|e
    ·exact aam.mpr (.inl e)
    ·exact GO _ (i2 g e)
theorem qD(f:Str)(v:V):∀fs:List (Str×V),(E9 f v fs).length≤fs.length+1
 |[]=>by simp[E9]
 |(k,x)::r=>by
  have ih:=qD f v r;rw[show E9 f v ((k,x)::r)=(if k=f then(k,v)::r else(k,x)::E9 f v r)from rfl];by_cases hk:k=f
  ·rw[AM hk,Aw,Aw];lia
  ·rw[AE hk,Aw,Aw];lia
theorem rX.some_of{o:Option Value}(r:rX (some v) o):∃u,o=some u∧RelV v u:=by
 cases o with
 |none=>exact(show False from r).elim
 |some u=>exact⟨u,rfl,r⟩
theorem rX.none_of{o:Option Value}(r:rX none o):o=none:=by
 cases o with
 |none=>rfl
 |some u=>exact(show False from r).elim
theorem xM(r:RelV v u):W.handedIn u=true:=by
 cases v with
 |non=>cases(show u=Value.none from r);rfl
 |bl b=>cases(show u=Value.bool b from r);rfl
 |int i=>let⟨t,e⟩:=(show ∃t,u=Value.int i t from r);cases e;rfl
 |str x=>let⟨t,e⟩:=(show ∃t,u=Value.str x t from r);cases e;rfl
 |byt b=>let⟨t,e⟩:=(show ∃t,u=Value.bytes b t from r);cases e;rfl
 |flt b=>let⟨t,e⟩:=(show ∃t,u=Value.float b t from r);cases e;rfl
 |ref a=>cases(show u=Value.ref a from r);rfl
 |ty n=>cases(show u=Value.type n from r);rfl
section
variable {P: Program}{w: World}{H: A7}{h: Heap}{a C: Addr}{fs: List (Str×V)}
theorem QC(cN:oM P w H h)(e:H a=some (.ins C dx fs)):∃mA,yS h a dx C mA∧(∀f,rX (fs.lookup f) (mA f))∧PySem.Within mA (fs.map (·.1))∧fs.length≤1000∧H dx=some (.own a):=by
 let⟨d,z,ne,ob,⟨mA,n,r,q⟩⟩:=(show cZ P w H h a (.ins C dx fs)from cN a _ e);exact⟨mA,⟨ob,n,ne⟩,r,q,z,d⟩
end
structure rB(K:W.Frag)(C:Addr):Prop where
 pg:W.plainGet K C Str.empty=true
 hd:W.hasDictIn K C=true
 po:W.plainOver K C=true
 sa:W.findIn K (.ref C) "__setattr__" = some (some (.builtin "object.__setattr__"))
theorem rB.get(c:rB K C)(f:Str):W.plainGet K C f=true:=c.pg
def da(K:W.Frag)(C:Addr)(f:Str):Prop:=W.findIn K (.ref C) f=some none
theorem da.N6{f:Str}(n:da K C f):W.takerIn K C f=some none:=by
 unfold W.takerIn;rw[show W.findIn K (.ref C) f=some none from n];rfl
structure Meth(K:W.Frag)(C:Addr)(m:Str)(f:Addr):Prop where
 at_:W.findIn K (.ref C) m=some (some (.ref f))
 fn:W.isFn K (.ref f)=true
 kp:W.keepIn K (.ref f)=true
section
variable {v0: List (Addr×Obj)}{σ: St}{H: A7}{s: Shared}{a C: Addr}{fs: List (Str×V)}{f: Str}{v: V}{A: Around}{E: Value→Shared→Prop}
theorem oU{b:Bool}(I:Inv X v0 σ H s)(e:H a=some (.ins C dx fs))(c:rB X.K C)(n:da X.K C f)(l:fs.lookup f=some v)
  (h:∀u s',Inv X v0 σ H s'→RelV v u→Q u s'):wpAny (model X.prog X.w) A (getAttr (.ref a) f b) Q E s:=by
 let⟨mA,O,r,_,_,_⟩:=QC I.cN e;let⟨u,hu,ru⟩:=rX.some_of (v:=v) (o:=mA f) (by rw[←l];exact r f);exact get_map I.kN O (c.get f) c.hd n hu (xM ru) (h u _ (I.tok _) ru)
theorem Qf{m:Str}{g:Addr}{Q:Value×List Value→Shared→Prop}(I:Inv X v0 σ H s)(e:H a=some (.ins C dx fs))(c:rB X.K C)(k:Meth X.K C m g)(l:fs.lookup m=none)
  (h:Q (.ref g,[.ref a]) s):wpAny (model X.prog X.w) A (getMethod (.ref a) m pl) Q E s:=by
 let⟨mA,O,r,_,_,_⟩:=QC I.cN e;have hn:mA m=none:=rX.none_of (by rw[←l];exact r m);exact uJ I.kN O (c.get m) k.at_ k.fn hn h
theorem oV{Q:Unit→Shared→Prop}(I:Inv X v0 σ H s)(e:H a=some (.ins C dx fs))(c:rB X.K C)(n:da X.K C f)(hl:fs.length<1000)(ry:RelV y u)
  (h:∀s',Inv X v0 σ (Aa H a (.ins C dx (E9 f y fs))) s'→Q () s'):wpAny (model X.prog X.w) A (setAttr (.ref a) f u) Q E s:=by
 let⟨mA,O,r,wi,_,ho⟩:=QC I.cN e;have hz:(fs.map (·.1)).length≤sizeLine:=by rw[Ae,E3];lia
 exact acI I.kN O c.sa c.po n.N6 c.hd wi hz λh' O' sb=>h _ ?_;have hd:∃o,h'.get? dx=some o:=let⟨o,_,_,e',_⟩:=O'.ns;⟨o,e'⟩
 exact I.write (x:=a) (e:=dx) (by rw[e];exact True.intro) (.inr ho) (λb q hb z=>(sb.2 b hb).trans z) hd ?_;exact⟨by rw[BA O.ne];exact ho,?_,O.ne,O'.obj,_,O'.ns,λg=>?_,λg hg=>?_⟩
 ·have:=qD f y fs;lia
 ·show rX ((E9 f y fs).lookup g) (if g=f then some u else mA g)
  rw[nR];by_cases q:g=f
  ·rw[AM q,AM q];exact ry
  ·rw[AE q,AE q];exact r g
 ·by_cases q:g=f
  ·rw[q];exact(Sx f y fs).1
  ·exact(Sx f y fs).2 g (wi g λz=>hg ?_)
   show(if g=f then some u else mA g)=none
   rw[AE q];exact z
theorem Inv.made(I:Inv X v0 σ H s):Inv X v0 σ (Aa (Aa H s.heap.objs.size (.own (s.heap.objs.size+1))) (s.heap.objs.size+1) (.ins C s.heap.objs.size []))
  {s with heap:=(s.heap.push W.emptyDict).push (W.instObj C s.heap.objs.size)}:=by
 have e1:(s.heap.push W.emptyDict).get? s.heap.objs.size=some W.emptyDict:=Dh s.heap rfl;have e2:((s.heap.push W.emptyDict).push (W.instObj C s.heap.objs.size)).get? (s.heap.objs.size+1)=some (W.instObj C s.heap.objs.size):=by
  have:=Dh (s.heap.push W.emptyDict) (o:=W.instObj C s.heap.objs.size) rfl;rwa[IE]at this
 have e3:(s.heap.push W.emptyDict).Ns s.heap.objs.size (λ_=>none):=Ψ3 W.emptyDict (#[]) _ ⟨e1,rfl,(λe he=>absurd he (by simp)),λ_=>rfl⟩;have I1:=I.laid (a:=s.heap.objs.size) (o:=.own (s.heap.objs.size+1)) (h':=s.heap.push W.emptyDict) (t':=s.toks) (λb u q=>Ba _ q) (Ax _) ⟨_,e1⟩;exact I1.laid (a:=s.heap.objs.size+1) (o:=.ins C s.heap.objs.size []) (t':=s.toks) (λb u q=>Ba _ q) (Nat.le_of_eq (IE _ _)) ?_;have ne:s.heap.objs.size≠s.heap.objs.size+1:=DU (Jk _);exact⟨by rw[BA ne,D3],Fe _,ne,e2,λ_=>none,(Heap.Ns1.of_empty e3).at λo q=>Ba _ q,λ_=>True.intro,λy hy=>absurd rfl hy⟩
theorem aaZ{prog:Program}{env:Env}{f:Str}{pos:Pos}(hb:attributeBase e f env (eval e env)=eval e env)
  (h:wpAny (model prog w) A (eval e env) (λo s₁=>wpAny (model prog w) A (getAttr o f true) Q E s₁) E s):wpAny (model prog w) A (eval (.Attribute e f pos) env) Q E s:=
 Attribute_any_ h (by rw[arm_eval_Attribute,hb])
end
def aac(K:W.Frag)(ta:Ah)(f:Str):Ah:=λσ H Q=>ta σ H λx H1=>∃a C dx fs v,x=.ref a∧H1 a=some (.ins C dx fs)∧rB K C∧da K C f∧fs.lookup f=some v∧Q v H1
def u7(K:W.Frag)(ta tv:Ah)(f:Str):Bu:=λD σ H=>tv σ H λy H1=>ta σ H1 λx H2=>∃a C dx fs,x=.ref a∧H2 a=some (.ins C dx fs)∧rB K C∧da K C f∧fs.length<1000∧
 D.nx σ (Aa H2 a (.ins C dx (E9 f y fs)))
def zo(X:Cx)(op:Operator)(rd:V→V→A7→Ar→Prop):Prop:=
 ∀v0 s σ H (x y:V) (u v:Value) (Q:Ar),Inv X v0 σ H s→RelV x u→RelV y v→rd x y H Q→wpAny (model X.prog X.w) X.A (inplaceOp op u v) (Cf X v0 σ Q) X.xe s
def xP(K:W.Frag)(ta tv:Ah)(rd:V→V→A7→Ar→Prop)(f:Str):Bu:=λD σ H=>ta σ H λx H1=>∃a C dx fs v,x=.ref a∧H1 a=some (.ins C dx fs)∧rB K C∧da K C f∧fs.lookup f=some v∧
 tv σ H1 λy H2=>rd v y H2 λz H3=>∃ph mq,H3 a=some (.ins C ph mq)∧mq.length<1000∧D.nx σ (Aa H3 a (.ins C ph (E9 f z mq)))
section
variable {o e value: Expr}{f: Str}{pos' xb: Pos}{tv: Ah}
theorem uO(he:PE X e ta)(hb:attributeBase e f X.env (eval e X.env)=eval e X.env):PE X (.Attribute e f pos) (aac X.K ta f):=by
 exact .mk ?_;intro v0 s σ H Q I h;exact aaZ hb (AV (he v0 s σ H _ I h) λu s1⟨x,H1,I1,rx,a,C,dx,fs,v,ex,ea,c,n,l,q⟩=>?_);subst ex;obtain rfl:u=Value.ref a:=rx;exact oU I1 ea c n l λu' s2 I2 ru=>Ψ2 v H1 ⟨I2,ru,q⟩
theorem sF(ha:PE X o ta)(hv:PE X value tv)(hs:swapsWith value (some (.Attribute o f pos')) pos.line X.env=pure false):PS X (.Assign [.Attribute o f pos'] value pos) (u7 X.K ta tv f):=by
 exact .mk ?_;intro v0 s σ H D I h;exact plainObj_wpAny_Assign_Attribute (AV (hv v0 s σ H _ I h) λu s1 ξ=>Ξ23 ξ λy H1 I1 ry q=>AV (ha v0 s1 σ H1 _ I1 q) λov s2⟨x,H2,I2,rx,a,C,dx,fs,ex,ea,c,n,l,q2⟩=>?_) hs;subst ex;obtain rfl:ov=Value.ref a:=rx;exact oV I2 ea c n l ry λs3 I3=>Ψ2 σ _ ⟨I3,q2⟩
theorem aaI{op:Operator}{rd:V→V→A7→Ar→Prop}(ha:PE X o ta)(hv:PE X value tv)(X9:zo X op rd):PS X (.AugAssign (.Attribute o f xb) op value pos) (xP X.K ta tv rd f):=by
 exact .mk ?_;intro v0 s σ H D I h;exact wpAny_AugAssign_AttributeAny (AV (ha v0 s σ H _ I h) λov s1⟨x,H1,I1,rx,a,C,dx,fs,v,ex,ea,c,n,l,q⟩=>?_);subst ex;obtain rfl:ov=Value.ref a:=rx;exact oU I1 ea c n l λu s2 I2 ru=>AV (hv v0 s2 σ H1 _ I2 q) λw3 s3 ξ=>Ξ23 ξ λy H2 I3 ry q3=>AV (X9 v0 s3 σ H2 v y u w3 _ I3 ru ry q3) λw4 s4⟨z,H3,I4,rz,ph,mq,ZV,l',q4⟩=>?_;exact oV I4 ZV c n l' rz λs5 I5=>Ψ2 σ _ ⟨I5,q4⟩
end
section
variable {v0: List (Addr×Obj)}{σ: St}{H: A7}{s: Shared}{A: Around}{E: Value→Shared→Prop}{Q: Value→Shared→Prop}{c: Value}{b: Bool}
inductive Fm(K:W.Frag)(H:A7):V→Value→Prop where
 |non:Fm K H .non (.type "NoneType")
 |bl (x:Bool):Fm K H (.bl x) (.type "bool")
 |int (i:Int):Fm K H (.int i) (.type "int")
 |str (x:Str):Fm K H (.str x) (.type "str")
 |flt (x:UInt64):Fm K H (.flt x) (.type "float")
 |lst {a:Addr} {xs:List V} (e:H a=some (.lst xs)):Fm K H (.ref a) (.type "list")
 |frz {a:Addr} {o:Obj} {xs:List V} (e:H a=some (.frz o (.lst xs))):Fm K H (.ref a) (.type "list")
 |tup {a:Addr} {xs:List V} (e:H a=some (.tup xs)):Fm K H (.ref a) (.type "tuple")
 |dK {a:Addr} {lz:List (DF×V)} (e:H a=some (.dK lz)):Fm K H (.ref a) (.type "dict")
 |dT {a:Addr} {lz:List (List DF×V)} (e:H a=some (.dT lz)):Fm K H (.ref a) (.type "dict")
 |ins {a C dx:Addr} {fs:List (Str×V)} (e:H a=some (.ins C dx fs)) (cl:rB K C) (ha:W.findIn K (.ref C) "__class__" = some (some (.builtin "object.__class__")))
   (hn:W.specialIn K (.builtin "object.__class__") "__get__" = some (some (.builtin "getset_descriptor.__get__"))) (VU:W.takesIn K (.builtin "object.__class__")=some true)
   (hm:W.mroIn K C (.type "object")=some true):Fm K H (.ref a) (.ref C)
theorem acf{x:V}{t:Value}(I:Inv X v0 σ H s)(rx:RelV x u)(ty:Fm X.K H x t)(e:W.kitOne X.K t c=some b)(h:∀tk,Q (.bool b) {s with toks:=tk}):
  wpAny (model X.prog X.w) A (call (.builtin "isinstance") [u,c]) Q E s:=by
 cases ty with
 |non=>cases(show u=Value.none from rx);exact Gf W.kitx_none I.kN True.intro e (λz=>nomatch z) h
 |bl y=>cases(show u=Value.bool y from rx);exact Gf W.kitx_bool I.kN True.intro e (λz=>nomatch z) h
 |int i=>let⟨t,q⟩:=(show ∃t,u=Value.int i t from rx);cases q;exact Gf W.kitx_int I.kN True.intro e (λz=>nomatch z) h
 |str y=>let⟨t,q⟩:=(show ∃t,u=Value.str y t from rx);cases q;exact Gf W.kitx_str I.kN True.intro e (λz=>nomatch z) h
 |flt y=>let⟨t,q⟩:=(show ∃t,u=Value.float y t from rx);cases q;exact Gf W.kitx_float I.kN True.intro e (λz=>nomatch z) h
 |@lst a xs ea=>
  cases(show u=Value.ref a from rx);let⟨_,⟨_,n,_,h1⟩⟩:=(show cZ X.prog X.w H s.heap a (.lst xs)from I.cN a _ ea);exact Gf W.kitx_list I.kN ⟨_,h1,rfl⟩ e (λz=>nomatch z) h
 |@frz a ob xs ea=>
  cases(show u=Value.ref a from rx);let⟨_,_,⟨_,n,_,h1⟩⟩:=(show cZ X.prog X.w H s.heap a (.frz ob (.lst xs))from I.cN a _ ea);exact Gf W.kitx_list I.kN ⟨_,h1,rfl⟩ e (λz=>nomatch z) h
 |@tup a xs ea=>
  cases(show u=Value.ref a from rx);let⟨_,⟨_,_,p⟩⟩:=(show cZ X.prog X.w H s.heap a (.tup xs)from I.cN a _ ea);let⟨o,h1,h2,_⟩:=p;exact Gf W.kitx_tuple I.kN ⟨o,h1,h2⟩ e (λz=>nomatch z) h
 |@dK a lz ea=>
  cases(show u=Value.ref a from rx);let⟨_,_,⟨vs,_,p⟩⟩:=(show cZ X.prog X.w H s.heap a (.dK lz)from I.cN a _ ea);let⟨o,es,ep,h1,h2,_⟩:=p;exact Gf W.kitx_dict I.kN ⟨o,h1,h2.1⟩ e (λz=>nomatch z) h
 |@dT a lz ea=>
  cases(show u=Value.ref a from rx);let⟨_,_,⟨xs,_,⟨o,es,ep,h1,h2,_⟩⟩⟩:=(show cZ X.prog X.w H s.heap a (.dT lz)from I.cN a _ ea);exact Gf W.kitx_dict I.kN ⟨o,h1,h2.1⟩ e (λz=>nomatch z) h
 |@ins a C dx fs ea cl ha hn VU hm=>
  cases(show u=Value.ref a from rx);let⟨mA,O,_⟩:=QC I.cN ea;let⟨od,J,_⟩:=O.look;exact Gf (W.kitx_own (cl.get _) cl.hd ha hn VU hm) I.kN J e (λz=>nomatch z) h
end
structure dH(k:Nat)(A:Around):Prop where
 hd:A.handled=none
 dp:A.depth+3*k+5<recursionLimit
 un:A.units+16*k+200<cLine
theorem dH.mono(r:dH k A)(h:j≤k):dH j A:=⟨r.hd,by have:=r.dp;lia,by have:=r.un;lia⟩
theorem dH.deeper(r:dH (k+1) A)(env:Env):dH k (A.deeper env):=
 ⟨r.hd,by have:=r.dp;show A.depth+1+3*k+5<_;lia,by have:=r.un;show A.units+3+16*k+200<_;lia⟩
theorem acs:(A.under (.builtin "type.__call__" ⟨.ref C::us,kw⟩)).depth=A.depth+1:=by
 first|rfl|simp[Around.under,Code.weight,Code.isCreation,Code.isGuard,Code.isCaller,Code.frames,Code.isFrame,guardIds]
theorem aaC:(A.under (.builtin "type.__call__" ⟨.ref C::us,kw⟩)).units=A.units+1:=by
 first|rfl|simp[Around.under,Code.cUnits,Code.frames,Code.isFrame]
theorem dH.make(r:dH (k+1) A)(C:Addr)(us:List Value)(kw:List (Str×Value)):dH k (A.under (.builtin "type.__call__" ⟨.ref C::us,kw⟩)):=
 ⟨r.hd,by have:=r.dp;rw[acs];lia,by have:=r.un;rw[aaC];lia⟩
theorem dH.depth(r:dH k A):A.depth<recursionLimit:=by have:=r.dp;lia
theorem dH.Ko(r:dH k A):A.units<cLine:=by have:=r.un;lia
def Pc:Cm:=λ_ H Q=>Q [] H
def W9(ta:Ah)(tr:Cm):Cm:=λσ H Q=>ta σ H λx H1=>tr σ H1 λxs H2=>Q (x::xs) H2
section
variable {e: Expr}
theorem nH:PA X [] Pc:=.mk λ_ _ _ _ H Q I h=>Calls.spliced_nil ⟨[],H,I,.nil,h⟩
theorem WZ(ha:PE X e te)(hr:PA X es t)(hs:starEach (e::es) X.env=(false,eval e X.env)::starEach es X.env:=by rfl):PA X (e::es) (W9 te t):=by
 exact .mk ?_;intro pos v0 s σ H Q I h;rw[hs];show wpAny _ _ (spliced ((false,eval e X.env)::backTo pos (starEach es X.env))) _ _ s
 exact Calls.spliced_cons (AV (ha v0 s σ H _ I h) λu s1 ξ=>Ξ23 ξ λx H1 I1 r1 q1=>?_);exact AV (hr pos v0 s1 σ H1 _ I1 q1) λus s2 ξ=>Ξ23 ξ λxs H2 I2 r2 q2=>Ψ2 (x::xs) H2 ⟨I2,.cons r1 r2,q2⟩
def vZ(t:Cm):Ah:=λσ H Q=>t σ H λxs H1=>xs.length≤sizeLine∧∀p,H1 p=none→Q (.ref p) (Aa H1 p (.tup xs))
def xZ(t:Cm):Ah:=λσ H Q=>t σ H λxs H1=>xs.length≤sizeLine∧∀p,H1 p=none→Q (.ref p) (Aa H1 p (.lst xs))
theorem xN{x1}(h:PA X es t):PE X (.Tuple es x1 pos) (vZ t):=by
 exact .mk ?_;intro v0 s σ H Q I hq;exact wpAny_Tuple_spliced (AV (h pos v0 s σ H _ I hq) λus s1 ξ=>Ξ24 ξ λxs H1 I1 r z q=>⟨by rw[←r.length];exact z,?_⟩);have hf:H1 s1.heap.objs.size=none:=I1.cN.fresh (Ax _);exact Ψ2 (.ref s1.heap.objs.size) (Aa H1 s1.heap.objs.size (.tup xs)) ⟨I1.laid (t':=s1.toks) (λb u e=>Ba _ e) (Ax _) ?_,rfl,q _ hf⟩;exact⟨z,us,r,⟨_,Dh _ rfl,rfl,_,rfl⟩⟩
theorem vq(h:PA X es t):PE X (.List es pos) (xZ t):=by
 exact .mk ?_;intro v0 s σ H Q I hq;exact wpAny_List_spliced (AV (h pos v0 s σ H _ I hq) λus s1 ξ=>Ξ24 ξ λxs H1 I1 r z q=>⟨by rw[←r.length];exact z,?_⟩);have hf:H1 s1.heap.objs.size=none:=I1.cN.fresh (Ax _);exact Ψ2 (.ref s1.heap.objs.size) (Aa H1 s1.heap.objs.size (.lst xs)) ⟨I1.laid (t':=s1.toks) (λb u e=>Ba _ e) (Ax _) ?_,rfl,q _ hf⟩;exact⟨z,us,0,r,Dh _ rfl⟩
end
abbrev Dc:=List V→A7→Ar→BG→Prop
abbrev Gy:=List Env→A7→Shared→BG→xz
structure yV(P:Program)(w:World)(K:W.Frag)(mg:KK)(base:Heap)(A:Around)(outer:List Env)(s:Shared)(H:A7):Prop where
 frames:A.frames=some outer
 mod:Mod K mg base
 bs:∀b o,base.get? b=some o→s.heap.get? b=some o∧H b=none
 FH:base.objs.size≤s.heap.objs.size
 lL:s.heap.FunFrames base outer
 F0:∀b∈DV outer,H b=none
 cN:oM P w H s.heap
 bare:AllBare s.gens
def cB(outer:List Env)(P:Program)(w:World)(H:A7)(s:Shared)(Q:Ar)(u:Value)(s':Shared):Prop:=
 ∃v H',s'.os=s.os∧AllBare s'.gens∧Un (DV outer) [] H H' s.heap s'.heap∧oM P w H' s'.heap∧RelV v u∧Q v H'
def tP(CX:Gy)(outer:List Env)(P:Program)(w:World)(H:A7)(s:Shared)(Q:Ar)(E:BG)(r:Result)(s':Shared):Prop:=
 match r with
 |.ok (.ret u)=>cB outer P w H s Q u s'
 |.ok _=>False
 |.error e=>CX outer H s E e s'
structure bJ(P:Program)(w:World)(K:W.Frag)(mg:KK)(base:Heap)(CX:Gy)(k:Nat)(f:Addr)(fd:FuncData)(ps:List Str)(sp:Dc):Prop where
 len:∀vs H Q E,sp vs H Q E→vs.length=ps.length
 run:∀(A:Around) (outer:List Env) (s:Shared) (H:A7) (args:Args) (us:List Value) (vs:List V) (Q:Ar) (E:BG),dH k A→yV P w K mg base A outer s H→BindsTo s fd args (ps.zip us)→Vals vs us→sp vs H Q E→
  codeAny (model P w) A (.call (.ref f) args) (tP CX outer P w H s Q E) s
theorem bJ.imp{f:Addr}{Vh:Dc}(F:bJ P w K mg base CX k f fd ps sp)
  (h:∀vs H Q E,Vh vs H Q E→sp vs H Q E):bJ P w K mg base CX k f fd ps Vh:=
 ⟨λvs H Q E q=>F.len vs H Q E (h _ _ _ _ q),λA outer s H args us vs Q E hr he hb hv hs=>F.run A outer s H args us vs Q E hr he hb hv (h _ _ _ _ hs)⟩
theorem yV.make(e:yV P w K mg base A outer s H)(C:Addr)(us:List Value)(kw:List (Str×Value)):
  yV P w K mg base (A.under (.builtin "type.__call__" ⟨.ref C::us,kw⟩)) outer s H:=⟨by first|exact e.frames|(simpa[Around.under,Code.envs,Code.isFrame,pushEnvs]using e.frames),e.mod,e.bs,e.FH,e.lL,e.F0,e.cN,e.bare⟩
section
variable {v0: List (Addr×Obj)}{σ: St}{H: A7}{s s': Shared}
theorem Inv.Fi(I:Inv X v0 σ H s):yV X.prog X.w X.K X.mg X.base X.A X.stack s H:=
 ⟨I.ok.frames,I.ok.mod,I.bs,Ce I.ok.FH I.sz,I.stack,I.mO,I.cN,I.bare⟩
theorem Inv.after{Q:Ar}(I:Inv X v0 σ H s)(h:cB X.stack X.prog X.w H s Q u s'):Cf X v0 σ Q u s':=by
 let⟨v,H',os,bare,un,cN,r,q⟩:=h;obtain⟨hh,g,d,t,Xg⟩:=s';obtain rfl:Xg=s.os:=os;exact Ψ2 v H' ⟨I.call (h':=hh) (g':=g) (d':=d) (t':=t) (ch:=[]) un cN bare (λb z=>absurd z (by simp)),r,q⟩
end
def mL(sp:Dc)(rR:List V)(E:BG)(t:Cm):Ah:=λσ H Q=>t σ H λvs H1=>sp (vs++rR) H1 Q E
def nE(C:Addr)(m:Str)(sp:Dc)(rR:List V)(E:BG)(ta:Ah)(t:Cm):Ah:=λσ H Q=>ta σ H λx H1=>∃a dx fs,x=.ref a∧H1 a=some (.ins C dx fs)∧fs.lookup m=none∧
 t σ H1 λvs H2=>sp (x::(vs++rR)) H2 Q E
def uz(C:Addr)(sp:Dc)(rR:List V)(E:BG)(t:Cm):Ah:=λσ H Q=>t σ H λvs H1=>∀x dx,H1 x=none→H1 dx=none→dx≠x→
 sp (.ref x::(vs++rR)) (Aa (Aa H1 dx (.own x)) x (.ins C dx [])) (λv H2=>v=.non∧Q (.ref x) H2) E
def Binds(K:W.Frag)(fd:FuncData)(ps:List Str)(ds:List Value):Prop:=
 ∀(s:Shared) (us:List Value),K.In s.heap→(us++ds).length=ps.length→BindsTo s fd ⟨us,[]⟩ (ps.zip (us++ds))
theorem Binds.all(h:∀us:List Value,us.length=ps.length→bindArgs fd ⟨us,[]⟩=pure (ps.zip us)):Binds K fd ps []:=λs us _ hl=>by
 rw[BV]at hl ⊢;exact .of_eq (h us hl)
def Passes(CX:Gy)(X:Cx)(E:BG):Prop:=∀(v0:ac) (σ:St) (H:A7) (s:Shared) (e:Value) (s':Shared),Inv X v0 σ H s→CX X.stack H s E e s'→X.xe e s'
section
variable {CX: Gy}{k: Nat}{f C: Addr}{fd: FuncData}{ps: List Str}{sp: Dc}{rR: List V}{ds: List Value}{E: BG}{x m: Str}{apos: Pos}{e o: Expr}
theorem SJ{Q:Ar}(F:bJ X.prog X.w X.K X.mg X.base CX k f fd ps sp)(hr:dH k X.A)(hb:Binds X.K fd ps ds)(hd:Vals rR ds)(hx:Passes CX X E)
  (I:Inv X v0 σ H s) (r:Vals vs us) (h:sp (vs++rR) H Q E):wpAny (model X.prog X.w) X.A (call (.ref f) us) (Cf X v0 σ Q) X.xe s:=by
 have r2:Vals (vs++rR) (us++ds):=r.append hd;have hl:(us++ds).length=ps.length:=by rw[←r2.length];exact F.len _ _ _ _ h
 exact K4 (JY (F.run X.A X.stack s H ⟨us,[]⟩ (us++ds) (vs++rR) Q E hr I.Fi (hb s us I.kN hl) r2 h) λr s' hq=>?_);cases r with
 |error e=>exact hx v0 σ H s e s' I hq
 |ok fl=>
  cases fl with
  |ret u=>exact I.after hq
  |next=>exact False.elim hq
  |brk=>exact False.elim hq
  |cont=>exact False.elim hq
theorem zR(F:bJ X.prog X.w X.K X.mg X.base CX k f fd ps sp)(hr:dH k X.A)(hg:C6 X x)(hm:X.mg x=some (.ref f))(hk:W.keepIn X.K (.ref f)=true)(hb:Binds X.K fd ps ds)(hd:Vals rR ds)(hx:Passes CX X E)
  (ha:PA X (e::es) t) (oX:(x ==("__debug__" : Str))=false:=by decide) (he:starEach (e::es) X.env=(false,eval e X.env)::starEach es X.env:=by rfl) (iM:(backTo pos (starEach es X.env)).any (·.1)=false:=by rfl) :
  PE X (.Call (.Name x p) (e::es) [] pos) (mL sp rR E t):=by
 exact .mk ?_;intro v0 s σ H Q I h;exact Lw (Jj I hg hm ?_ oX);exact La (h₀:=X.base) I.ok.mod.JJ hk (AV (ha pos v0 s σ H _ I h) λus s1 ξ=>Ξ23 ξ λvs H1 I1 r q=>⟨I1.kN,?_⟩) he iM;exact SJ F hr hb hd hx I1 r q
theorem aaO(he:PE X o ta)(c:rB X.K C)(hm:Meth X.K C m f)(F:bJ X.prog X.w X.K X.mg X.base CX k f fd ps sp)(hr:dH k X.A)(hb:Binds X.K fd ps ds)(hd:Vals rR ds)(hx:Passes CX X E)(ha:PA X (e::es) t)
  (oJ:starEach (e::es) X.env=(false,eval e X.env)::starEach es X.env:=by rfl) (iM:(backTo pos (starEach es X.env)).any (·.1)=false:=by rfl)
  (ht:eval (.Call (.Attribute o m apos) (e::es) [] pos) X.env=(do
   let ov ←eval o X.env
   standAt apos.atName
   let(f,first) ←holding [ov] (getMethod ov m pl)
   callWith pos f first (backTo pos (starEach (e::es) X.env)) (backToKw pos (keywordEach [] X.env))):=by rfl) :
  PE X (.Call (.Attribute o m apos) (e::es) [] pos) (nE C m sp rR E ta t):=by
 exact .mk ?_;intro v0 s σ H Q I h;exact OY (pl:=pl) (AV (he v0 s σ H _ I h) λu s1⟨x,H1,I1,rx,a,dx,fs,ex,ea,l,q⟩=>?_) ht;subst ex;obtain rfl:u=Value.ref a:=rx;exact Qf I1 ea c hm l ?_;exact La (first:=[.ref a]) (h₀:=X.base) I.ok.mod.JJ hm.kp (AV (ha pos v0 s1 σ H1 _ I1 q) λus s2 ξ=>Ξ23 ξ λvs H2 I2 r q2=>⟨I2.kN,?_⟩) oJ iM;exact SJ (us:=.ref a::us) (vs:=.ref a::vs) F hr hb hd hx I2 (.cons rfl r) q2
theorem xp(he:PE X o ta)(c:rB X.K C)(hm:Meth X.K C m f)(F:bJ X.prog X.w X.K X.mg X.base CX k f fd ps sp)(hr:dH k X.A)(hb:Binds X.K fd ps ds)(hd:Vals rR ds)(hx:Passes CX X E)
  (ht:eval (.Call (.Attribute o m apos) [] [] pos) X.env=(do
   let ov ←eval o X.env
   standAt apos.atName
   let(f,first) ←holding [ov] (getMethod ov m pl)
   callWith pos f first (backTo pos (starEach [] X.env)) (backToKw pos (keywordEach [] X.env))):=by rfl) :
  PE X (.Call (.Attribute o m apos) [] [] pos) (nE C m sp rR E ta Pc):=by
 exact .mk ?_;intro v0 s σ H Q I h;exact OY (pl:=pl) (AV (he v0 s σ H _ I h) λu s1⟨x,H1,I1,rx,a,dx,fs,ex,ea,l,q⟩=>?_) ht;subst ex;obtain rfl:u=Value.ref a:=rx;exact Qf I1 ea c hm l ?_;exact W.callWith_K0 (first:=[.ref a]) I1.kN hm.kp (SJ (us:=[.ref a]) (vs:=[.ref a]) F hr hb hd hx I1 (.cons rfl .nil) q)
structure Oy(K:W.Frag)(C f:Addr):Prop where
 makes:W.makesIn K C=true
 init:W.findIn K (.ref C) "__init__" = some (some (.ref f))
 fn:W.isFn K (.ref f)=true
 kp:W.keepIn K (.ref C)=true
theorem ac8{Q:Ar}(M:Oy X.K C f)(F:bJ X.prog X.w X.K X.mg X.base CX k f fd ps sp)(hr:dH (k+1) X.A)(hb:Binds X.K fd ps ds)(hd:Vals rR ds)
  (hx:Passes CX X E) (I:Inv X v0 σ H s) (r:Vals vs us)
  (h:∀x dx,H x=none→H dx=none→dx≠x→sp (.ref x::(vs++rR)) (Aa (Aa H dx (.own x)) x (.ins C dx [])) (λv H2=>v=.non∧Q (.ref x) H2) E) :
  wpAny (model X.prog X.w) X.A (call (.ref C) us) (Cf X v0 σ Q) X.xe s:=by
 have hq:=h (s.heap.objs.size+1) s.heap.objs.size (I.cN.fresh (Gq _)) (I.cN.fresh (Ax _)) (DU (Jk _));have I2:=Inv.made (C:=C) I;have r2:Vals (V.ref (s.heap.objs.size+1)::(vs++rR)) (Value.ref (s.heap.objs.size+1)::(us++ds)):=.cons rfl (r.append hd);have hl:(Value.ref (s.heap.objs.size+1)::us++ds).length=ps.length:=by
  have e:=r2.length;rw[F.len _ _ _ _ hq]at e;exact e.symm
 exact K4 (zP (f:=f) I.kN M.makes M.init (abl.mp M.fn) (JY (F.run _ X.stack _ _ ⟨Value.ref (s.heap.objs.size+1)::us,[]⟩ (Value.ref (s.heap.objs.size+1)::(us++ds)) _ _ E (hr.make C us [])
  (I2.Fi.make C us []) (hb _ (Value.ref (s.heap.objs.size+1)::us) I2.kN hl) r2 hq) λr s' P1=>?_))
 cases r with
 |error e=>exact hx v0 σ _ _ e s' I2 P1
 |ok fl=>
  cases fl with
  |ret u=>
   let⟨v,H',I3,rv,ev,q3⟩:=I2.after P1;subst ev;exact⟨rv,Ψ2 (V.ref (s.heap.objs.size+1)) H' ⟨I3,rfl,q3⟩⟩
  |next=>exact False.elim P1
  |brk=>exact False.elim P1
  |cont=>exact False.elim P1
theorem ab9(M:Oy X.K C f)(F:bJ X.prog X.w X.K X.mg X.base CX k f fd ps sp)(hr:dH (k+1) X.A)(hg:C6 X x)(hm:X.mg x=some (.ref C))(hb:Binds X.K fd ps ds)(hd:Vals rR ds)(hx:Passes CX X E)
  (ha:PA X (e::es) t) (oX:(x ==("__debug__" : Str))=false:=by decide) (he:starEach (e::es) X.env=(false,eval e X.env)::starEach es X.env:=by rfl) (iM:(backTo pos (starEach es X.env)).any (·.1)=false:=by rfl) :
  PE X (.Call (.Name x p) (e::es) [] pos) (uz C sp rR E t):=by
 exact .mk ?_;intro v0 s σ H Q I h;exact Lw (Jj I hg hm ?_ oX);exact La (h₀:=X.base) I.ok.mod.JJ M.kp (AV (ha pos v0 s σ H _ I h) λus s1 ξ=>Ξ23 ξ λvs H1 I1 r q=>⟨I1.kN,?_⟩) he iM;exact ac8 M F hr hb hd hx I1 r q
end
structure PK(X:Cx)(RA:List Keyword)(t:Cm):Prop where
 run:∀(pos:Pos) v0 s σ H (Q:List V→A7→Prop),Inv X v0 σ H s→t σ H Q→wpAny (model X.prog X.w) X.A (evalAll ((backToKw pos (keywordEach RA X.env)).map (·.2))) (OC X v0 σ Q) X.xe s
instance {X:Cx}{RA:List Keyword}{t:Cm}:CoeFun (PK X RA t) λ_=>∀(pos:Pos) v0 s σ H (Q:List V→A7→Prop),Inv X v0 σ H s→t σ H Q→wpAny (model X.prog X.w) X.A (evalAll ((backToKw pos (keywordEach RA X.env)).map (·.2))) (OC X v0 σ Q) X.xe s:=⟨PK.run⟩
structure B6(N P:List Str)(sc:Scope):Prop where
 kind:sc.kind=.function
 co:sc.isCoroutine=false
 gen:sc.isGenerator=false
 nd:N.Nodup
 pre:N.take P.length=P
 par:∀x∈P,sc.names.lookup x=some .local∨sc.names.lookup x=some .cell
 Mg:∀y∈sc.names,y.2≠.free
theorem ju{kindOf:Str→Option NameKind}{x:Str}:∀{binds:List (Str×Value)} {m:KK},(∀v,(x,v)∉binds)→bindL kindOf binds m x=m x
 |[],_,_=>rfl
 |(n,v)::r,m,h=>by
  unfold bindL;rw[ju λw hw=>h w (GO _ hw)];split
  ·have:x≠n:=by rintro rfl;exact h v JH
   simp[this]
  ·rfl
theorem kj{kindOf:Str→Option NameKind}{x:Str}:∀{binds:List (Str×Value)} {m:KK},(∀v,(x,v)∉binds)→bindC kindOf binds m x=m x
 |[],_,_=>rfl
 |(n,v)::r,m,h=>by
  unfold bindC;rw[kj λw hw=>h w (GO _ hw)];split
  ·rfl
  ·have:x≠n:=by rintro rfl;exact h v JH
   simp[this]
theorem jb{kindOf:Str→Option NameKind}{x:Str}{v:Value}:∀{P:List Str} {vs:List Value} {i:Nat} {m:KK},P.Nodup→P[i]?=some x→vs[i]?=some v→kindOf x=some .local→
  bindL kindOf (P.zip vs) m x=some v
 |[],_,_,_,_,h,_,_=>by simp at h
 |_::_,[],_,_,_,_,h,_=>by simp at h
 |p::P,w::vs,0,m,nd,h1,h2,hk=>by
  simp at h1 h2;subst h1;subst h2;show bindL kindOf ((p,w)::P.zip vs) m p=_
  unfold bindL;rw[ju λv hv=>(ab7.mp nd).1 (cj hv).1,AM hk];simp
 |p::P,w::vs,i+1,m,nd,h1,h2,hk=>by
  show bindL kindOf ((p,w)::P.zip vs) m x=_
  unfold bindL;exact jb (i:=i) (ab7.mp nd).2 (by simpa using h1) (by simpa using h2) hk
theorem nF{kindOf:Str→Option NameKind}{x:Str}{v:Value}:∀{P:List Str} {vs:List Value} {i:Nat} {m:KK},P.Nodup→P[i]?=some x→vs[i]?=some v→kindOf x≠some .local→
  bindC kindOf (P.zip vs) m x=some v
 |[],_,_,_,_,h,_,_=>by simp at h
 |_::_,[],_,_,_,_,h,_=>by simp at h
 |p::P,w::vs,0,m,nd,h1,h2,hk=>by
  simp at h1 h2;subst h1;subst h2;show bindC kindOf ((p,w)::P.zip vs) m p=_
  unfold bindC;rw[kj λv hv=>(ab7.mp nd).1 (cj hv).1,AE hk];simp
 |p::P,w::vs,i+1,m,nd,h1,h2,hk=>by
  show bindC kindOf ((p,w)::P.zip vs) m x=_
  unfold bindC;exact nF (i:=i) (ab7.mp nd).2 (by simpa using h1) (by simpa using h2) hk
def start(N:List Str)(vs:List V):St:=vs.map some++List.replicate (N.length-vs.length) none
def JW(CX:Gy)(P:Program)(w:World)(K:W.Frag)(mg:KK)(base:Heap)(N:List Str)(qual:Str)(scope:Scope)(f:Addr)(cd:Value)(A:Around)(outer:List Env)(s:Shared)(H:A7)(E:BG):Cx where
 prog:=P
 w:=w
 K:=K
 mg:=mg
 base:=base
 A:=A.deeper (envOfC qual scope s.heap.objs.size f cd)
 N:=N
 s₀:=s
 H₀:=H
 env:=envOfC qual scope s.heap.objs.size f cd
 outer:=outer
 stack:=envOfC qual scope s.heap.objs.size f cd::outer
 ex:=[]
 calm:=true
 fn:=λ_=>true
 pn:=[]
 xe:=λe s'=>wpAny (model P w) (A.deeper (envOfC qual scope s.heap.objs.size f cd)) (leaving (envOfC qual scope s.heap.objs.size f cd) e) (λ_ AJ=>CX outer H s E e AJ) (λe' AJ=>CX outer H s E e' AJ) s'
theorem ma{sc:Scope}(h:sc.names.lookup x=some .cell):∃c,(cellsFrom n sc.names []).lookup x=some c:=by
 have q:=W.cellsFrom_some sc.names n [] (.inl h);exact abO.mp q
theorem t6{f:Addr}{cd:Value}{s1:Shared}{E:BG}
  (S:B6 N ps scope) (hd:A.handled=none) (e0:yV P w K mg base A outer s H) (hl:vs.length=ps.length) (r:Vals vs us)
  (x:InCallC s s.heap.objs.size (bindL (envOfC qual scope s.heap.objs.size f cd).kindOf (ps.zip us) λ_=>none) (cellsFrom (s.heap.objs.size+1) scope.names []) (bindC (envOfC qual scope s.heap.objs.size f cd).kindOf (ps.zip us) λ_=>none) s1) :
  Inv (JW CX P w K mg base N qual scope f cd A outer s H E) [] (start N vs) H s1:=by
 have iM:ps.length≤N.length:=by have:=Ai List.length S.pre;rw[Bi]at this;lia
 let⟨h1,tk,rfl,hk⟩:=x.done;have Pk:∀b:Addr,b∉(JW CX P w K mg base N qual scope f cd A outer s H E).ex:=λb z=>absurd (show b∈([]:List Addr)from z) (by simp);exact⟨⟨e0.mod,S.kind,rfl,rfl,Ax _,λy z c h1 h2=>?_,λy hy=>?_,λy c _ h=>?_,λ_=>hd,Around.frames_deeper e0.frames,.inr ⟨rfl,rfl⟩,λb z=>absurd z (Pk b),e0.bs,e0.FH,λb _ _=>Pk b,λb z=>absurd z (Pk b),e0.lL,e0.F0⟩,
  rfl,e0.bare,Un.kept hk,⟨_,x.toInCall.ns,λi y v h1 h2 h3=>?_⟩,λy c h=>⟨_,x.cell y c h⟩,e0.cN.fresh (Ax _),λy c h=>?_,λp hp=>absurd (show p∈([]:ac)from hp) (by simp),e0.cN.kept hk,?_⟩
 ·exact name_of_addr x.apart (NZ h1) (NZ h2)
 ·have hy:scope.names.lookup y=some .cell∨scope.names.lookup y=some .free:=hy
  rcases hy with hy|hy
  ·exact ma hy
  ·exact absurd rfl (S.Mg _ (NZ hy))
 ·exact DE (x.above y c (NZ h))
 ·have hi:i<vs.length:=by
   unfold start at h2;by_cases hi:i<vs.length
   ·exact hi
   ·rw[fM (by simpa using hi)]at h2
    rw[qu]at h2;split at h2<;>cases h2
  have ha:vs[i]?=some v:=by
   unfold start at h2;rw[Nl (by simpa using hi),Ha]at h2;cases e:vs[i]? with
   |none=>rw[e]at h2;cases h2
   |some a=>rw[e]at h2;cases h2;rfl
  let⟨u,hu,rv⟩:=r.get ha;have hp:ps[i]?=some y:=by
   rw[←S.pre,List.getElem?_take_of_lt (by lia)];exact h1
  have Vy:ps.Nodup:=by rw[←S.pre];exact S.nd.sublist (List.take_sublist _ _)
  exact⟨u,rv,?_⟩;rcases S.par y (M9 hp)with k|k
  ·exact .inl ⟨k,jb Vy hp hu k⟩
  ·let⟨c,e⟩:=ma (n:=s.heap.objs.size+1) k
   exact .inr ⟨.inl k,c,e,?_⟩;have q:=x.cell y c e;rw[nF Vy hp hu (by show scope.names.lookup y≠_;rw[k];decide)]at q;exact q
 ·exact e0.cN.fresh (DE (x.above y c (NZ h)))
 ·unfold start
  show _=N.length
  rw[AG,Ae,List.length_replicate];lia
theorem pP{f:Addr}{name:Str}{params:Arguments}{dV DQ doc pm cO ct oc:Value}{an od:Option Addr}
  {zG:Array (Option Value)}   (lk:K.lookup f=some ⟨oc,od,.func (W.fnOf name qual params body scope dV DQ doc pm an cO ct),zG⟩) (yw:W.codeIn K cO qual=true) (S:B6 N ps scope)
  (len:∀vs H Q E,sp vs H Q E→vs.length=ps.length)
  (ng:∀(A:Around) (outer:List Env) (s:Shared) (H:A7) (vs:List V) (Q:Ar) (E:BG),dH k (A.deeper (envOfC qual scope s.heap.objs.size f cO))→sp vs H Q E→
   ∃t,jU (JW CX P w K mg base N qual scope f cO A outer s H E) body t∧t {nx:=λ_ H'=>Q .non H',rt:=Q} (start N vs) H) :
  bJ P w K mg base CX (k+1) f (W.fnOf name qual params body scope dV DQ doc pm an cO ct) ps sp:=by
 exact⟨len,λA outer s H args us vs Q E hr e0 hb r wH=>?_⟩;have hl:=len _ _ _ _ wH;have KX:K.In s.heap:=e0.mod.JJ.keeps λb o e=>(e0.bs b o e).1;have lim:s.heap.NoLimit:=e0.mod.nolimit.keeps λb o e=>(e0.bs b o e).1;have P6:∀y∈ps.zip us,scope.names.lookup y.1=some .local∨(scope.names.lookup y.1=some .cell∧((cellsFrom (s.heap.objs.size+1) scope.names []).lookup y.1).isSome=true):=λ⟨n,v⟩ hy=>by
  rcases S.par n (cj hy).1 with q|q
  ·exact .inl q
  ·exact .inr ⟨q,W.cellsFrom_some _ _ _ (.inl q)⟩
 exact codeAny_call_function hr.depth (KX _ _ lk) rfl S.co S.gen rfl (W.codeRec_of KX yw) (hb _ _ _ _ ?_);exact wpAny_newFunctionEnv_cells S.kind P6 λenv he s1 x=>?_;subst he;exact⟨lim.keeps x.toInCall.keep,codeAny_func ?_⟩;let⟨t,ht,hq⟩:=ng A outer s H vs Q E (hr.deeper _) wH;have I:Inv (JW CX P w K mg base N qual scope f cO A outer s H E) [] (start N vs) H s1:=t6 S hr.hd e0 hl r x;exact Dn (ht [] s1 (start N vs) H _ I hq) (λfl s' hs=>?_) λe s' hs=>hs;have fin:∀{σ':St} {H':A7} {v:V} {u:Value},Inv (JW CX P w K mg base N qual scope f cO A outer s H E) [] σ' H' s'→RelV v u→Q v H'→cB outer P w H s Q u s':=
  λ{σ' H' v u} J rv q=>Ψ2 v H' ⟨J.os,J.bare,J.base,J.cN,rv,q⟩
 cases fl with
 |ret u=>
  let⟨v,σ',H',J,rv,q⟩:=hs;exact fin J rv q
 |next=>
  let⟨σ',H',J,q⟩:=hs;exact fin (v:=V.non) (u:=Value.none) J rfl q
 |brk=>
  let⟨_,_,_,q⟩:=hs;exact False.elim q
 |cont=>
  let⟨_,_,_,q⟩:=hs;exact False.elim q
section
variable {x: Str}{e: Expr}{id T: String}{r: List V→A7→Ar→Prop}
def aL(r:List V→A7→Ar→Prop)(t:Cm):Ah:=λσ H Q=>t σ H λvs H1=>r vs H1 Q
theorem pZ(hc:FN X (.builtin id) r)(hg:C6 X x)(hm:X.mg x=none)(hv:bootBuiltins x=some (.builtin id))(ha:PA X (e::es) t)(hn:x ≠ "__name__" := by decide)(oX:(x ==("__debug__" : Str))=false:=by decide)
  (he:starEach (e::es) X.env=(false,eval e X.env)::starEach es X.env:=by rfl) (iM:(backTo pos (starEach es X.env)).any (·.1)=false:=by rfl):PE X (.Call (.Name x p) (e::es) [] pos) (aL r t):=by
 exact .mk ?_;intro v0 s σ H Q I h;exact Lw (KI I hg hm hv ?_ hn oX);exact PyProof.Rows.callWith_builtin1 (AV (ha pos v0 s σ H _ I h) λus s1 ξ=>Ξ23 ξ λvs H1 I1 r1 q1=>hc v0 s1 σ H1 vs us Q I1 r1 q1) he iM
theorem abm(hc:FN X (.type T) r)(hg:C6 X x)(hm:X.mg x=none)(hv:bootBuiltins x=some (.type T))(ha:PA X (e::es) t)(hn:x ≠ "__name__" := by decide)(oX:(x ==("__debug__" : Str))=false:=by decide)
  (he:starEach (e::es) X.env=(false,eval e X.env)::starEach es X.env:=by rfl) (iM:(backTo pos (starEach es X.env)).any (·.1)=false:=by rfl):PE X (.Call (.Name x p) (e::es) [] pos) (aL r t):=by
 exact .mk ?_;intro v0 s σ H Q I h;exact Lw (KI I hg hm hv ?_ hn oX);exact Qz (AV (ha pos v0 s σ H _ I h) λus s1 ξ=>Ξ23 ξ λvs H1 I1 r1 q1=>hc v0 s1 σ H1 vs us Q I1 r1 q1) he iM
end
end L2
namespace HT
open PySem PyProof.Rows
section
open PySem.SeqAt
open PySem.AutoSeq1 (wpAny_loadPart')
open PySem.MeetsSeq PySem.MeetsSeq2 PySem.MeetsSeq3
end
def jQ(n d:Nat):Option Int→Nat
 |none=>d
 |some v=>if v<0 then(v+(n:Int)).toNat else min v.toNat n
theorem mT(n d:Nat):jQ n d none=d:=rfl
theorem xJ(n d:Nat)(hd:d≤n)(o:Option Int):jQ n d o≤n:=by
 cases o with
 |none=>exact hd
 |some v=>
  show(if v<0 then(v+(n:Int)).toNat else min v.toNat n)≤n
  by_cases hv:v<0
  ·rw[AM hv];lia
  ·rw[AE hv];exact Nat.min_le_right _ _
end HT
namespace L2
open PySem PySem.Spec PyProof.Rows
variable {n j t':Nat}{i:Int}{v0:ac}{σ:St}{H:A7}{s:Shared}{p:Addr}{xs:List V}{bg v6':List Value}{A:Around}{y x:V}{u v:Value}{X: Cx}{e: Expr}{pos: Pos}
abbrev Ih:=St→A7→(Option Int→A7→Prop)→Prop
structure PO(X:Cx)(e:Option Expr)(t:Ih):Prop where
 run:∀v0 s σ H (Q:Option Int→A7→Prop),Inv X v0 σ H s→t σ H Q→
  wpAny (model X.prog X.w) X.A (evalPart e X.env) (λu s'=>∃o H',Inv X v0 σ H' s'∧IsPart u o∧Q o H') X.xe s
instance {X:Cx}{e:Option Expr}{t:Ih}:CoeFun (PO X e t) λ_=>∀v0 s σ H (Q:Option Int→A7→Prop),Inv X v0 σ H s→t σ H Q→wpAny (model X.prog X.w) X.A (evalPart e X.env) (λu s'=>∃o H',Inv X v0 σ H' s'∧IsPart u o∧Q o H') X.xe s:=⟨PO.run⟩
def sZ:Ih:=λ_ H Q=>Q none H
def abU(t:Ah):Ih:=λσ H Q=>t σ H λx H1=>∃i,x=.int i∧Q (some i) H1
theorem intsAre_of{ns:List Int}:∀{us:List Value},Vals (ns.map V.int) us→IntsAre us ns:=by
 induction ns with
 |nil=>intro us r;rw[Im]at r;cases r;exact .nil
 |cons n ns ih=>
  intro us r;rw[CV]at r;cases r with
  |cons r1 r2=>
   let⟨t,e⟩:=r1;subst e;exact .cons n t (ih r2)
section
variable {te: Ah}{lo hi: Option Expr}{tl th: Ih}{p2: Pos}
theorem sS:PO X none sZ:=by
 exact .mk ?_;intro v0 s σ H Q I h;rw[evalPart_none];exact BR ⟨none,H,I,.none,h⟩
theorem abK(h:PE X e te):PO X (some e) (abU te):=by
 exact .mk ?_;intro v0 s σ H Q I hw;rw[evalPart_some];exact AV (h v0 s σ H _ I hw) λu s1 ξ=>Ξ23 ξ λx H1 I1 r1 q1=>?_;let⟨i,rfl,q⟩:=q1;let⟨t,rfl⟩:=r1;exact Ψ2 (some i) H1 ⟨I1,.int i t,q⟩
def R4(X:Cx)(r:V→Option Int→Option Int→A7→Ar→Prop):Prop:=
 ∀v0 s σ H (x:V) (v vl vu:Value) (lo hi:Option Int) (sl:Addr) (Q:Ar),Inv X v0 σ H s→RelV x v→s.heap.IsSliceOf sl vl vu .none→IsPart vl lo→IsPart vu hi→r x lo hi H Q→
  ∃T id,typeLookup (.type T) "__getitem__" = pure (some (.builtin id))∧s.TypeIs v T∧wpAny (model X.prog X.w) X.A (getItem v (.ref sl)) (Cf X v0 σ Q) X.xe s
def xC(r:V→Option Int→Option Int→A7→Ar→Prop)(te:Ah)(tl th:Ih):Ah:=λσ H Q=>te σ H λx H1=>tl σ H1 λl H2=>th σ H2 λu H3=>r x l u H3 Q
theorem aaf{r:V→Option Int→Option Int→A7→Ar→Prop}(hr:R4 X r)(he:PE X e te)(hl:PO X lo tl)(hu:PO X hi th):PE X (.Subscript e (.Slice lo hi none p2) pos) (xC r te tl th):=by
 exact .mk ?_;intro v0 s σ H Q I h;exact Subscript_ (AV (he v0 s σ H _ I h) λv s1 ξ=>Ξ23 ξ λx H1 I1 r1 q1=>?_);exact wpAny_Slice (AV (hl v0 s1 σ H1 _ I1 q1) λvl s2 ξ=>Ξ23 ξ λl H2 I2 pl q2=>AV (hu v0 s2 σ H2 _ I2 q2) λvu s3 ξ=>Ξ23 ξ λu H3 I3 pu q3=>?_);rw[evalPart_none];exact BR ?_;have I4:Inv X v0 σ H3 {s3 with heap:=s3.heap.push {cls:=.type "slice",data:=.fields #[vl,vu,.none]}}:=I3.kept (t':=s3.toks) λb ob q=>Ba _ q;let⟨T,id,hT,ht,hg⟩:=hr v0 {s3 with heap:=s3.heap.push {cls:=.type "slice",data:=.fields #[vl,vu,.none]}} σ H3 x v vl vu l u s3.heap.objs.size Q I4 r1 (Heap.IsSliceOf.new ..) pl pu q3;show wpAny (model X.prog X.w) X.A (subscriptTail e (.Slice lo hi none p2) v (.ref s3.heap.objs.size)) (Cf X v0 σ Q) X.xe {s3 with heap:=s3.heap.push {cls:=.type "slice",data:=.fields #[vl,vu,.none]}}
 exact tail_any (ops:=[.ref s3.heap.objs.size,v]) ht hT hg (by with_unfolding_all rfl)
def KD(xs:List V)(lo hi:Option Int):List V:=(xs.drop (HT.jQ xs.length 0 lo)).take (HT.jQ xs.length xs.length hi-HT.jQ xs.length 0 lo)
theorem wW(xs:List V)(lo hi:Option Int):(KD xs lo hi).length≤xs.length:=by
 unfold KD;rw[Bi,CH];lia
end
def Dm(n:Nat)(i:Int):Option Nat:=if 0≤i then(if i<n then some i.toNat else none)else if -(n:Int)≤i then some (i+n).toNat else none
def B7{α:Type}(xs:List α)(i:Int):Option α:=(Dm xs.length i).bind λj=>xs[j]?
theorem Vl(h:Dm n i=some j):seqIndex? i n=some j∧j<n∧-(n:Int)≤i∧i<n:=by
 unfold Dm at h;by_cases h0:0≤i
 ·rw[AM h0]at h
  by_cases h1:i<n
  ·rw[AM h1]at h
   have e:i.toNat=j:=Cr h;exact⟨by rw[seqIndex_of h0 h1,e],by lia,by lia,h1⟩
  ·rw[AE h1]at h;cases h
 ·rw[AE h0]at h
  by_cases h1:-(n:Int)≤i
  ·rw[AM h1]at h
   have e:(i+n).toNat=j:=Cr h;exact⟨by rw[seqIndex_neg (by lia) h1,e],by lia,h1,by lia⟩
  ·rw[AE h1]at h;cases h
theorem cK{α:Type}{xs:List α}{v:α}(h:B7 xs i=some v):∃j,seqIndex? i xs.length=some j∧xs[j]?=some v∧j<xs.length∧-(xs.length:Int)≤i∧i<xs.length:=by
 unfold B7 at h;cases e:Dm xs.length i with
 |none=>rw[e]at h;cases h
 |some j=>
  rw[e]at h;let⟨h1,h2,h3,h4⟩:=Vl e;exact⟨j,h1,h,h2,h3,h4⟩
theorem Ey{α:Type}{xs:List α}{v:α}(h:xs[j]?=some v):B7 xs (j:Int)=some v:=by
 have hj:j<xs.length:=(aa9.mp h).1;have e:Dm xs.length (j:Int)=some j:=by
  unfold Dm;rw[AM (by lia),AM (by lia)];simp
 unfold B7;rw[e];exact h
theorem pQ{α:Type}(xs:List α)(v:α):B7 (xs++[v]) (-1)=some v:=by
 have hl:(xs++[v]).length=xs.length+1:=by simp
 have e:Dm (xs++[v]).length (-1)=some xs.length:=by
  unfold Dm;rw[hl,AE (by decide),AM (by lia)];congr 1
  lia
 unfold B7;rw[e];show(xs++[v])[xs.length]?=some v
 simp
def M2(b:Expr):Prop:=∀o i,subscripted b false o i=operate [o,i] (getItem o i)
def IQ(X:Cx)(r:EE):Prop:=
 ∀(value slice:Expr) v0 s σ H (x y:V) (v u:Value) (Q:Ar),Inv X v0 σ H s→RelV x v→RelV y u→r x y H Q→
  subscripted slice false v u=operate [v,u] (getItem v u)→wpAny (model X.prog X.w) X.A (subscriptTail value slice v u) (Cf X v0 σ Q) X.xe s
def Iy(X:Cx)(id:String)(r:V→List V→A7→Ar→Prop):Prop:=
 ∀v0 s σ H (x:V) (xs:List V) (v:Value) (us:List Value) (Q:Ar),Inv X v0 σ H s→RelV x v→Vals xs us→r x xs H Q→
  wpAny (model X.prog X.w) X.A (call (.builtin id) (v::us)) (Cf X v0 σ Q) X.xe s
section
variable {a b: Expr}{ta tb: Ah}
theorem IQ.or{r r':EE}(h:IQ X r)(h':IQ X r'):IQ X (λx y H Q=>r x y H Q∨r' x y H Q):=by
 intro value slice v0 s σ H x y v u Q I rx ry q hs;rcases q with q|q
 ·exact h value slice v0 s σ H x y v u Q I rx ry q hs
 ·exact h' value slice v0 s σ H x y v u Q I rx ry q hs
theorem qi{r:EE}(hr:IQ X r)(ha:PE X a ta)(hb:PE X b tb)(hs:M2 b):PE X (.Subscript a b pos) (NU r ta tb):=by
 exact .mk ?_;intro v0 s σ H Q I h;exact Subscript_ (eT ha hb I h λv u s2 x y H2 I2 rx ry q=>hr a b v0 s2 σ H2 x y v u Q I2 rx ry q (hs _ _))
def rH(K:W.Frag):EE:=λx y H Q=>∃p xs i v,x=.ref p∧y=.int i∧jK K H p xs∧B7 xs i=some v∧Q v H
def iQ(K:W.Frag):EE:=λx y H Q=>∃p xs i v,x=.ref p∧y=.int i∧js K H p xs∧B7 xs i=some v∧Q v H
def pJ:EE:=λx y H Q=>∃z i c,x=.str z∧y=.int i∧z.length≤sizeLine∧B7 z.cps.toList i=some c∧Q (.str ⟨#[c]⟩) H
theorem HH:IQ X (rH X.K):=by
 intro value slice v0 s σ H x y v u Q I rx ry h hs;let⟨p,xs,i,z,rfl,rfl,hq,he,q⟩:=h;cases rx;let⟨t,rfl⟩:=ry;let⟨bg,r,pl,hz⟩:=I.list hq;let⟨j,h1,h2,h3,h4,h5⟩:=cK he;let⟨w,ew,tR⟩:=r.get h2;have hl:=r.length;have hn:=Ky;have fin:Cf X v0 σ Q w s:=Ψ2 z H ⟨I,tR,q⟩;by_cases h0:0≤i
 ·have hj:i.toNat=j:=by
   rw[seqIndex_of h0 h5]at h1;exact Cr h1
  exact item_listR pl.isList h0 (by lia) (by rw[hj];simpa using ew) fin hs
 ·have hj:(i+(bg.toArray.size:Int)).toNat=j:=by
   rw[seqIndex_neg (by lia) h4]at h1;rw[D5,←hl];exact Cr h1
  exact subscriptTail_builtinR (x:=w) pl.isList.typeIs ac9.lookup
   (wpAny_getItem_list_neg (Q:=λr s'=>r=w∧Cf X v0 σ Q r s') pl.isList (by lia) (by rw[D5]<;>lia) (by lia) (by rw[hj];simpa using ew) ⟨rfl,fin⟩) hs
theorem Mx:IQ X (iQ X.K):=by
 intro value slice v0 s σ H x y v u Q I rx ry h hs;let⟨p,xs,i,z,rfl,rfl,hq,he,q⟩:=h;cases rx;let⟨t,rfl⟩:=ry;let⟨bg,r,pl,hz⟩:=I.tuple hq;let⟨j,h1,h2,h3,h4,h5⟩:=cK he;let⟨w,ew,tR⟩:=r.get h2;have hl:=r.length;have hn:=Ky;have fin:Cf X v0 σ Q w s:=Ψ2 z H ⟨I,tR,q⟩;exact subscriptTail_builtinR (x:=w) pl.typeIs slot_tuple_getitem.lookup
  (getItem_tuple (j:=j) (Q:=λr s'=>r=w∧Cf X v0 σ Q r s') pl (by lia) (by lia) (by rw[D5,←hl];exact h1) (by simpa using ew) ⟨rfl,fin⟩) hs
theorem nA:IQ X pJ:=by
 intro value slice v0 s σ H x y v u Q I rx ry h hs;let⟨z,i,c,rfl,rfl,hz,he,q⟩:=h;let⟨t,rfl⟩:=rx;let⟨t',rfl⟩:=ry;let⟨j,h1,h2,h3,h4,h5⟩:=cK he;have hl:z.cps.toList.length=z.length:=by simp[Str.length]
 rw[hl]at h1 h4 h5;have hn:=Ky;exact tail_any (HG s z t) slot_str_getitem.lookup (getItem_str (c:=c) (by
  have e1:decide (i < -(2^63:Int))=false:=BW (by lia);have e2:decide (i ≥ 2^63)=false:=BW (by lia);rw[e1,e2,Bool.or_false]) (by rw[h1];simpa using h2) ⟨.str ⟨#[c]⟩,H,I.tok _,⟨_,rfl⟩,q⟩) hs
def xa(K:W.Frag):EE:=λx y H Q=>rH K x y H Q∨iQ K x y H Q∨pJ x y H Q
theorem abg:IQ X (xa X.K):=HH.or (Mx.or nA)
theorem sf(bg:List Value)(n j:Nat)(u:Value):Obj.mapSeq (·.setIfInBounds j u) {cls:=.type "list",data:=.seq bg.toArray n}={cls:=.type "list",data:=.seq (bg.set j u).toArray n}:=by
 simp[Obj.mapSeq]
theorem Inv.lst(I:Inv X v0 σ H s)(h:H p=some (.lst xs)):
  ∃(bg:List Value) (n:Nat),Vals xs bg∧s.heap.get? p=some {cls:=.type "list",data:=.seq bg.toArray n}∧xs.length≤sizeLine:=by
 let⟨z,⟨bg,n,r,e⟩⟩:=I.cN p _ h;exact Ψ2 bg n ⟨r,e,z⟩
theorem Inv.Mn{ys:List V}{n':Nat}{f:Obj→Obj}(I:Inv X v0 σ H s)(h:H p=some (.lst xs))
  (ho:s.heap.get? p=some {cls:=.type "list",data:=.seq bg.toArray n}) (hf:f {cls:=.type "list",data:=.seq bg.toArray n}={cls:=.type "list",data:=.seq v6'.toArray n'}) (r:Vals ys v6') (hz:ys.length≤sizeLine) (t:Nat) :
  Inv X v0 σ (Aa H p (.lst ys)) {s with heap:=s.heap.update p f,toks:=t}:=by
 have e:(s.heap.update p f).get? p=some {cls:=.type "list",data:=.seq v6'.toArray n'}:=by
  rw[Heap.get?_update_self f ho (by rw[hf]<;>rfl),hf]
 exact I.write (x:=p) (e:=p) (by rw[h];trivial) (.inl rfl) (λb u hb q=>(Heap.get?_update_other _ _ (IC hb)).trans q) ⟨_,e⟩ ?_;exact⟨hz,v6',n',r,e⟩
def acb:V→V→V→A7→(A7→Prop)→Prop:=λo i v H Q=>∃p xs k j,o=.ref p∧i=.int k∧H p=some (.lst xs)∧Dm xs.length k=some j∧Q (Aa H p (.lst (xs.set j v)))
theorem set_list:j0 X acb:=by
 intro v0 s σ H o i v ov iv u Q I ro ri rv h;let⟨p,xs,k,j,rfl,rfl,hp,hj,q⟩:=h;cases ro;let⟨t,rfl⟩:=ri;let⟨bg,n,r,ho,hz⟩:=I.lst hp;let⟨h1,h2,h3,h4⟩:=Vl hj;have hl:=r.length;have hn:=Ky;have I':Inv X v0 σ (Aa H p (.lst (xs.set j v))) {s with heap:=s.heap.update p (Obj.mapSeq (·.setIfInBounds j u))}:=
  I.Mn hp ho (sf bg n j u) (r.set rv j) (by rw[List.length_set];exact hz) s.toks
 by_cases h0:0≤k
 ·have hk:k.toNat=j:=by
   rw[seqIndex_of h0 h4]at h1;exact Cr h1
  exact W.ki_setAt ho h0 (by lia) (by rw[D5,←hl];exact h4) (by rw[hk];exact⟨_,I',q⟩)
 ·have hk:(k+(bg.toArray.size:Int)).toNat=j:=by
   rw[seqIndex_neg (by lia) h3]at h1;rw[D5,←hl];exact Cr h1
  exact W.ki_setBack ho (by lia) (by rw[D5,←hl];exact h3) (by lia) (by rw[hk];exact⟨_,I',q⟩)
theorem sr(lo hi:Option Int)(n:Nat):(sliceBounds lo hi none n).1=((HT.jQ n 0 lo:Nat):Int)∧(sliceBounds lo hi none n).2.1=((HT.jQ n n hi:Nat):Int)∧(sliceBounds lo hi none n).2.2=1:=by
 exact⟨?_,?_,rfl⟩
 ·cases lo with
  |none=>simp[sliceBounds,HT.jQ]
  |some i=>
   simp only[sliceBounds,HT.jQ,Option.getD_none,show(1:Int)>0 by decide,Iw];by_cases h:i<0
   ·simp only[h,Iw]<;>lia
   ·simp only[h,if_false]<;>lia
 ·cases hi with
  |none=>simp[sliceBounds,HT.jQ]
  |some i=>
   simp only[sliceBounds,HT.jQ,Option.getD_none,show(1:Int)>0 by decide,Iw];by_cases h:i<0
   ·simp only[h,Iw]<;>lia
   ·simp only[h,if_false]<;>lia
theorem adj(bg:List Value)(lo hi:Option Int):slicePick bg.toArray lo hi none=((bg.drop (HT.jQ bg.length 0 lo)).take (HT.jQ bg.length bg.length hi-HT.jQ bg.length 0 lo)).toArray:=by
 let⟨h1,h2,h3⟩:=sr lo hi bg.toArray.size;unfold slicePick;rw[h1,h2,h3];simp only[sliceRange_one,pick_run,D5]<;>rfl
def yI(K:W.Frag):V→Option Int→Option Int→A7→Ar→Prop:=λx lo hi H Q=>∃a xs,x=.ref a∧jK K H a xs∧∀p,H p=none→Q (.ref p) (Aa H p (.lst (KD xs lo hi)))
theorem abj:R4 X (yI X.K):=by
 intro v0 s σ H x v vl vu lo hi sl Q I rx hs pl pu h;let⟨a,xs,rfl,hx,q⟩:=h;cases rx;let⟨bg,r,ht,hz⟩:=I.list hx;have hlen:=r.length;exact Ψ2 ("list") _ ⟨ac9.lookup,ht.isList.typeIs,?_⟩;exact wpAny_getItem_list_slice ht.isList hs pl pu .none (by simp) ?_ (by rw[D5]<;>lia)
 rw[adj,←hlen];exact Ψ2 (.ref s.heap.objs.size) _ ⟨I.laid (t':=s.toks) (o:=.lst (KD xs lo hi)) (λb ob q=>Ba _ q) (Ax _) ?_,rfl,q _ (I.cN.fresh (Ax _))⟩;exact⟨Ce (wW xs lo hi) hz,_,0,(r.drop (HT.jQ xs.length 0 lo)).take (HT.jQ xs.length xs.length hi-HT.jQ xs.length 0 lo),Dh _ rfl⟩
def EV:V→Bool
 |.non=>true
 |.bl _=>true
 |.int _=>true
 |.str _=>true
 |_=>false
def Hm:V→V→Bool
 |.non,.non=>true
 |.bl a,.bl b=>a==b
 |.bl a,.int b=>(if a then 1 else 0)==b
 |.int a,.bl b=>a ==(if b then 1 else 0)
 |.int a,.int b=>a==b
 |.str a,.str b=>a==b
 |_,_=>false
theorem vL(ry:RelV y u)(rx:RelV x v)(fy:EV y=true)(fx:EV x=true):SeqAt.EqAt A s u v (Hm y x):=by
 cases y with
 |non=>
  cases ry;cases x with
  |non=>cases rx;exact SeqAt.EqAt.same _
  |bl b=>cases rx;exact SeqAt.EqAt.none_bool b
  |int b=>let⟨t,rfl⟩:=rx;exact SeqAt.EqAt.none_int b t
  |str b=>let⟨t,rfl⟩:=rx;exact SeqAt.EqAt.none_str b t
  |_=>exact absurd (show false=true from fx) DH
 |bl a=>
  cases ry;cases x with
  |non=>cases rx;exact SeqAt.EqAt.bool_none a
  |bl b=>cases rx;exact SeqAt.EqAt.bool_bool a b
  |int b=>let⟨t,rfl⟩:=rx;exact SeqAt.EqAt.bool_int a b t
  |str b=>let⟨t,rfl⟩:=rx;exact SeqAt.EqAt.bool_str a b t
  |_=>exact absurd (show false=true from fx) DH
 |int a=>
  let⟨t',rfl⟩:=ry;cases x with
  |non=>cases rx;exact SeqAt.EqAt.int_none a t'
  |bl b=>cases rx;exact SeqAt.EqAt.int_bool a t' b
  |int b=>let⟨t,rfl⟩:=rx;exact SeqAt.EqAt.int_int a t' b t
  |str b=>let⟨t,rfl⟩:=rx;exact SeqAt.EqAt.int_str a t' b t
  |_=>exact absurd (show false=true from fx) DH
 |str a=>
  let⟨t',rfl⟩:=ry;cases x with
  |non=>cases rx;exact SeqAt.EqAt.str_none a t'
  |bl b=>cases rx;exact SeqAt.EqAt.str_bool a t' b
  |int b=>let⟨t,rfl⟩:=rx;exact SeqAt.EqAt.str_int a t' b t
  |str b=>let⟨t,rfl⟩:=rx;exact SeqAt.EqAt.str_str a t' b t
  |_=>exact absurd (show false=true from fx) DH
 |_=>exact absurd (show false=true from fy) DH
def Ff(x:V)(u:Value):Bool:=match u with
 |.none=>Hm .non x
 |.bool b=>Hm (.bl b) x
 |.int i _=>Hm (.int i) x
 |.str z _=>Hm (.str z) x
 |_=>false
theorem gw(r:RelV y u)(f:EV y=true):Ff x u=Hm y x:=by
 cases y with
 |non=>cases r;rfl
 |bl b=>cases r;rfl
 |int i=>let⟨t,rfl⟩:=r;rfl
 |str z=>let⟨t,rfl⟩:=r;rfl
 |_=>exact absurd (show false=true from f) DH
theorem Mk{x:V}:∀{xs:List V} {us:List Value},Vals xs us→xs.all EV=true→us.any (Ff x)=xs.any λy=>Hm y x
 |_,_,.nil,_=>rfl
 |y::xs,u::us,.cons r t,f=>by
  rw[Lk,DN]at f;rw[fL,fL,gw r f.1,Mk t f.2]
theorem LV{A:Around}{s:Shared}{x:V}{v:Value}(rx:RelV x v)(fx:EV x=true):∀{xs:List V} {us:List Value},Vals xs us→xs.all EV=true→∀u∈us,SeqAt.EqAt A s u v (Ff x u)
 |_,_,.nil,_=>λu hu=>by cases hu
 |y::xs,u::us,.cons r t,f=>λu' hu=>by
  rw[Lk,DN]at f;rcases aam.mp hu with rfl|hu
  ·rw[gw r f.1];exact vL r rx f.1 fx
  ·exact LV rx fx t f.2 u' hu
def DX(x:V)(xs:List V):Bool:=xs.any λy=>Hm y x
def gc(K:W.Frag)(neg:Bool):EE:=λx y H Q=>∃p xs,y=.ref p∧(jK K H p xs∨js K H p xs)∧EV x=true∧xs.all EV=true∧Q (.bl (if neg then !DX x xs else DX x xs)) H
theorem nK:By X (compareOp .In) (gc X.K false):=by
 intro v0 s σ H x y v u Q I rx ry h;let⟨p,xs,rfl,hq,fx,fs,q⟩:=h;cases ry;rcases hq with hq|hq
 ·let⟨bg,r,pl,hz⟩:=I.list hq
  exact SeqAt.in_listAt (Ff x) pl.isList (λw hw=>LV rx fx r fs w (by simpa using hw)) ⟨.bl _,H,I,rfl,?_⟩;rw[show bg.toArray.any (Ff x)=bg.any (Ff x)by simp,Mk r fs];exact q
 ·let⟨bg,r,pl,hz⟩:=I.tuple hq
  exact SeqAt.in_tupleAt (Ff x) pl (λw hw=>LV rx fx r fs w (by simpa using hw)) ⟨.bl _,H,I,rfl,?_⟩;rw[show bg.toArray.any (Ff x)=bg.any (Ff x)by simp,Mk r fs];exact q
theorem rQ:By X (compareOp .NotIn) (gc X.K true):=by
 intro v0 s σ H x y v u Q I rx ry h;let⟨p,xs,rfl,hq,fx,fs,q⟩:=h;cases ry;rcases hq with hq|hq
 ·let⟨bg,r,pl,hz⟩:=I.list hq
  exact SeqAt.notIn_listAt (Ff x) pl.isList (λw hw=>LV rx fx r fs w (by simpa using hw)) ⟨.bl _,H,I,rfl,?_⟩;rw[show bg.toArray.any (Ff x)=bg.any (Ff x)by simp,Mk r fs];exact q
 ·let⟨bg,r,pl,hz⟩:=I.tuple hq
  exact SeqAt.notIn_tupleAt (Ff x) pl (λw hw=>LV rx fx r fs w (by simpa using hw)) ⟨.bl _,H,I,rfl,?_⟩;rw[show bg.toArray.any (Ff x)=bg.any (Ff x)by simp,Mk r fs];exact q
theorem jA:FN X (.builtin "len") (λxs H Q=>∃p ys,xs=[.ref p]∧(jK X.K H p ys∨js X.K H p ys)∧Q (.int ys.length) H):=by
 intro v0 s σ H xs us Q I r h;let⟨p,ys,rfl,hq,q⟩:=h;let⟨u,rfl,rx⟩:=vals1 r;cases rx;have hn:=Ky;rcases hq with hq|hq
 ·let⟨bg,r',pl,hz⟩:=I.list hq
  have hlen:=r'.length;exact Calls.call_len_list pl.isList (by simp only[D5]<;>lia) ⟨.int ys.length,H,I.tok _,⟨s.toks+1,by rw[D5,hlen]⟩,q⟩
 ·let⟨bg,r',pl,hz⟩:=I.tuple hq
  have hlen:=r'.length;exact len_tuple pl (by simp only[D5]<;>lia) ⟨.int ys.length,H,I.tok _,⟨s.toks+1,by rw[D5,hlen]⟩,q⟩
theorem rn:FN X (.builtin "len") (λxs H Q=>∃z,xs=[.str z]∧z.length≤sizeLine∧Q (.int z.length) H):=by
 intro v0 s σ H xs us Q I r h;let⟨z,rfl,hz,q⟩:=h;let⟨u,rfl,⟨t,rfl⟩⟩:=vals1 r;have hn:=Ky;exact len_str (by lia) ⟨.int z.length,H,I.tok _,⟨_,rfl⟩,q⟩
theorem sG:FN X (.type "list") (λxs H Q=>∃p ys,xs=[.ref p]∧(jK X.K H p ys∨js X.K H p ys)∧∀l,H l=none→Q (.ref l) (Aa H l (.lst ys))):=by
 intro v0 s σ H xs us Q I r h;let⟨p,ys,rfl,hq,q⟩:=h;let⟨u,rfl,rx⟩:=vals1 r;cases rx;have fin:∀(bg:List Value),Vals ys bg→ys.length≤sizeLine→∀(h':Heap) (c':Nat),(∀b o',s.heap.get? b=some o'→h'.get? b=some o')→
   h'.get? s.heap.objs.size=some {cls:=.type "list",dict:=none,data:=.seq bg.toArray c',slots:=#[]}→Cf X v0 σ Q (.ref s.heap.objs.size) {s with heap:=h'}:=λbg r' hz h' c' kp e=>
  ⟨.ref s.heap.objs.size,_,I.laid (t':=s.toks) kp (Ax _) (show cZ X.prog X.w _ h' _ (.lst ys)from⟨hz,bg,c',r',e⟩),rfl,q _ (I.cN.fresh (Ax _))⟩
 rcases hq with hq|hq
 ·let⟨bg,r',pl,hz⟩:=I.list hq
  have hlen:=r'.length;let⟨o,ho,hc,⟨n,hd⟩⟩:=pl.isList;exact call_list_seq p (.inl rfl) ho hc hd (λh' c' kp e=>fin bg r' hz h' c' kp e) (by simp only[D5]<;>lia)
 ·let⟨bg,r',pl,hz⟩:=I.tuple hq
  have hlen:=r'.length;let⟨o,ho,hc,⟨n,hd⟩⟩:=pl;exact call_list_seq p (.inr rfl) ho hc hd (λh' c' kp e=>fin bg r' hz h' c' kp e) (by simp only[D5]<;>lia)
theorem yg:FN X (.type "tuple") (λxs H Q=>∃p ys,xs=[.ref p]∧((jK X.K H p ys∧∀l,H l=none→Q (.ref l) (Aa H l (.tup ys)))∨(js X.K H p ys∧Q (.ref p) H))):=by
 intro v0 s σ H xs us Q I r h;obtain⟨p,ys,rfl,h⟩:=h;let⟨u,rfl,rx⟩:=vals1 r;cases rx;rcases h with⟨hq,q⟩|⟨hq,q⟩
 ·let⟨bg,r',pl,hz⟩:=I.list hq
  have hlen:=r'.length;exact call_tuple_list pl.isList (λh' kp=>?_) (by simp only[D5]<;>lia)
  have I1:Inv X v0 σ H {s with heap:=h'}:=I.kept (t':=s.toks) kp;have I2:Inv X v0 σ (Aa H h'.objs.size (.tup ys)) {s with heap:=h'.push {cls:=.type "tuple",data:=.seq bg.toArray}}:=
   I1.laid (t':=s.toks) (λb o e=>Ba _ e) (Ax _) (show cZ X.prog X.w _ _ _ (.tup ys)from⟨hz,bg,r',IsTup.new _ _⟩)
  exact Ψ2 (.ref h'.objs.size) _ ⟨I2,rfl,q _ (I1.cN.fresh (Ax _))⟩
 ·let⟨bg,r',pl,hz⟩:=I.tuple hq
  exact call_tuple_same pl ⟨.ref p,H,I,rfl,q⟩
def Nj(K:W.Frag)(T:String)(x:V)(H:A7):Prop:=match x with
 |.str _=>T = "str"
 |.int _=>T = "int"
 |.ref p=>(T = "list" ∧ ∃xs,jK K H p xs)∨(T = "tuple" ∧ ∃o,K.lookup p=some o∧o.cls=.type "tuple" ∧ o.dict=none) ∨
   (T = "dict" ∧((∃lz,H p=some (.dK lz))∨∃lz,H p=some (.dT lz)))∨(T = "set" ∧ ∃S n,H p=some (.set S n))
 |_=>False
theorem qQ{T:String}(I:Inv X v0 σ H s)(r:RelV x v)(ty:Nj X.K T x H):
  s.TypeIs v T∧∀a,v=.ref a→∃ob,s.heap.get? a=some ob∧ob.dict=none:=by
 cases x with
 |str z=>
  let⟨t,rfl⟩:=r;cases(show T = "str" from ty);exact⟨HG s z t,λ_ e=>nomatch e⟩
 |int i=>
  let⟨t,rfl⟩:=r;cases(show T = "int" from ty);exact⟨typeIs_int s i t,λ_ e=>nomatch e⟩
 |ref p=>
  cases r;rcases ty with⟨rfl,xs,hq⟩|⟨rfl,o,hk,hc,hd⟩|⟨rfl,hk⟩|⟨rfl,S,n,hk⟩
  ·let⟨bg,_,pl,_⟩:=I.list hq
   exact⟨pl.isList.typeIs,λa e=>?_⟩;cases e;let⟨o,n,e,c,hd,_⟩:=pl;exact⟨o,e,hd⟩
  ·exact⟨⟨o,I.kN p o hk,hc⟩,λa e=>?_⟩
   cases e;exact⟨o,I.kN _ o hk,hd⟩
  ·have z:∃o,s.heap.get? p=some o∧o.ExactDict:=by
    rcases hk with⟨lz,hk⟩|⟨lz,hk⟩
    ·let⟨_,_,⟨_,_,⟨o,_,_,e,ex,_⟩⟩⟩:=I.cN p _ hk
     exact⟨o,e,ex⟩
    ·let⟨_,_,⟨_,_,⟨o,_,_,e,ex,_⟩⟩⟩:=I.cN p _ hk
     exact⟨o,e,ex⟩
   let⟨o,e,ex⟩:=z;exact⟨⟨o,e,ex.1⟩,λa e2=>?_⟩;cases e2;exact⟨o,e,ex.2.1⟩
  ·let⟨o,_,_,_,e,ex,_⟩:=I.cN p _ hk
   exact⟨⟨o,e,ex.1⟩,λa e2=>?_⟩;cases e2;exact⟨o,e,ex.2.1⟩
 |_=>exact False.elim ty
def v5(K:W.Frag)(T:String)(r:V→List V→A7→Ar→Prop)(to:Ah):Ah:=λσ H Q=>to σ H λx H1=>Nj K T x H1∧r x [] H1 Q
def uP(K:W.Frag)(T:String)(r:V→List V→A7→Ar→Prop)(to:Ah)(t:Cm):Ah:=λσ H Q=>to σ H λx H1=>Nj K T x H1∧t σ H1 λxs H2=>r x xs H2 Q
variable {o: Expr}{es: List Expr}{to: Ah}{t: Cm}{name: Str}{apos eE: Pos}{T id: String}{r: V→List V→A7→Ar→Prop}
theorem zY(pa:PlainAttrs T)(slot:Slot T name id)(zW:typeOf (.builtin id)=pure (.type "method_descriptor"))(hm:Iy X id r)(ho:PE X o to)
  (qB:attributeBase o name X.env (eval o X.env)=eval o X.env:=by rfl) (qA:(apos.endLine==eE.line)=true:=by rfl):PE X (.Call (.Attribute o name apos) [] [] eE) (v5 X.K T r to):=by
 exact .mk ?_;intro v0 s σ H Q I h;exact wpAny_Call_method0_late qB qA (AV (ho v0 s σ H _ I h) λv s1 ξ=>Ξ24 ξ λx H1 I1 r1 ty q1=>?_);let⟨h1,h2⟩:=qQ I1 r1 ty;exact Ψ2 T id ⟨pa,slot,zW,h1,h2,Calls.callWith_builtin rfl (PySem.evalArgs_none (hm v0 s1 σ H1 x [] v [] Q I1 r1 .nil q1))⟩
theorem tG(pa:PlainAttrs T)(slot:Slot T name id)(zW:typeOf (.builtin id)=pure (.type "method_descriptor"))(hm:Iy X id r)(ho:PE X o to)(ha:PA X (e::es) t)
  (qB:attributeBase o name X.env (eval o X.env)=eval o X.env:=by rfl)
  (ML:((backTo eE (starEach (e::es) X.env)).all (λx=>!x.1)&&(backToKw eE (keywordEach [] X.env)).all (λx=>x.1.isSome)
   && decide ((e::es).length+([]:List Keyword).length+(if([]:List Keyword).isEmpty then 0 else 1)<30))=true:=by rfl)
  (qA:(apos.endLine==eE.line)=true:=by rfl) (hs:starEach (e::es) X.env=(false,eval e X.env)::starEach es X.env:=by rfl) (yu:(backTo eE (starEach es X.env)).any (·.1)=false:=by rfl) :
  PE X (.Call (.Attribute o name apos) (e::es) [] eE) (uP X.K T r to t):=by
 exact .mk ?_;intro v0 s σ H Q I h;exact wpAny_Call_method_late qB ML qA rfl (AV (ho v0 s σ H _ I h) λv s1 ξ=>Ξ24 ξ λx H1 I1 r1 ty q1=>?_);let⟨h1,h2⟩:=qQ I1 r1 ty;exact Ψ2 T id ⟨pa,slot,zW,h1,h2,?_⟩;have hA:=ha eE v0 s1 σ H1 _ I1 q1;rw[hs]at hA ⊢;exact Calls.callWith_builtin (by show(false||(backTo eE (starEach es X.env)).any (·.1))=false;rw[yu]<;>rfl) (Calls.evalArgs_plain ?_)
 exact AV hA λus s2 ξ=>Ξ23 ξ λvs H2 I2 r2 q2=>hm v0 s2 σ H2 x vs v us Q I2 r1 r2 q2
end
def aV(X:Cx)(id:String)(r:V→List V→A7→Ar→Prop):Prop:=
 ∀v0 s σ H (x:V) (xs:List V) (v:Value) (us:List Value) (Q:Ar),Inv X v0 σ H s→RelV x v→Vals xs us→r x xs H Q→
  wpAny (model X.prog X.w) X.A (call (.builtin id) (v::us)) (Cf X v0 σ Q) X.xe s
theorem Vals.one:∀{x:V} {us:List Value},Vals [x] us→∃u,us=[u]∧RelV x u
 |_,_,.cons r .nil=>⟨_,rfl,r⟩
theorem Vals.zero:∀{us:List Value},Vals [] us→us=[]
 |_,.nil=>rfl
theorem Vals.dropLast{us:List Value}(h:Vals xs us):Vals xs.dropLast us.dropLast:=by
 induction h with
 |nil=>exact .nil
 |cons r t ih=>
  cases t with
  |nil=>exact .nil
  |cons q t'=>exact .cons r ih
theorem Vals.eraseIdx:∀{xs:List V} {us:List Value} (i:Nat),Vals xs us→Vals (xs.eraseIdx i) (us.eraseIdx i)
 |_,_,_,.nil=>.nil
 |_,_,0,.cons _ t=>t
 |_,_,i+1,.cons r t=>.cons r (Vals.eraseIdx i t)
theorem acJ{α:Type}(l:List α):l.eraseIdx (l.length-1)=l.dropLast:=by
 induction l with
 |nil=>rfl
 |cons a r ih=>
  cases r with
  |nil=>rfl
  |cons b r=>
   have e:(a::b::r).length-1=((b::r).length-1)+1:=by
    have h1:(a::b::r).length=r.length+2:=rfl;have h2:(b::r).length=r.length+1:=rfl;lia
   rw[e,List.eraseIdx_cons_succ,ih]
   all_goals rfl
theorem lh{α:Type}:∀(l:List α) (i:Nat),(l.eraseIdx i).length≤l.length
 |[],_=>Ax _
 |_::_,0=>Gq _
 |_::r,i+1=>WV (lh r i)
section
variable {v0: List (Addr×Obj)}{σ: St}{H: A7}{s: Shared}{l: Addr}{xs ys: List V}
theorem Inv.Mo{f:Array Value→Array Value}(I:Inv X v0 σ H s)(hH:H l=some (.lst xs))
  (e:s.heap.get? l=some {cls:=.type "list",data:=.seq bg.toArray n}) (hf:f bg.toArray=v6'.toArray) (hv:Vals ys v6') (hz:ys.length≤sizeLine) :
  Inv X v0 σ (Aa H l (.lst ys)) {s with heap:=s.heap.update l (Obj.mapSeq f),toks:=t'}:=by
 have q:=PySem.IsL.update e f;rw[hf]at q;exact I.write (x:=l) (e:=l) (by rw[hH];exact trivial) (.inl rfl) (λb' u hb hu=>(Heap.get?_update_other s.heap (Obj.mapSeq f) (IC hb)).trans hu) ⟨_,q⟩ ?_;exact⟨hz,v6',_,hv,q⟩
theorem Inv.Px(I:Inv X v0 σ H s)(hv:Vals ys bg)(hz:ys.length≤sizeLine):
  Inv X v0 σ (Aa H s.heap.objs.size (.lst ys)) {s with heap:=s.heap.push {cls:=.type "list",data:=.seq bg.toArray},toks:=t'}:=
 I.laid (λ_ _ q=>Ba _ q) (Ax _) ⟨hz,bg,0,hv,Dh _ rfl⟩
theorem Inv.fresh(I:Inv X v0 σ H s):H s.heap.objs.size=none:=I.cN.fresh (Ax _)
theorem Inv.Ew(I:Inv X v0 σ H s)(hH:H l=some (.lst xs)):xs.length≤sizeLine∧∃(bg:List Value) (n:Nat),Vals xs bg∧xs.length=bg.length∧s.heap.get? l=some {cls:=.type "list",data:=.seq bg.toArray n}:=by
 let⟨z,⟨bg,n,r,e⟩⟩:=I.cN l _ hH;exact⟨z,bg,n,r,r.length,e⟩
end
section
def abC:V→List V→A7→Ar→Prop:=λx vs H Q=>∃l xs y,x=.ref l∧vs=[y]∧H l=some (.lst xs)∧xs.length<sizeLine∧Q .non (Aa H l (.lst (xs++[y])))
theorem mS:aV X "list.append" abC:=by
 intro v0 s σ H x vs v us Q I rx rv h;let⟨l,xs,y,rfl,rfl,hH,hz,q⟩:=h;cases rx;let⟨u,rfl,ru⟩:=rv.one;let⟨z,⟨bg,n,r,hl,e⟩⟩:=I.Ew hH;exact JA F.slot_list_append ⟨_,e,rfl⟩ F.entry_list_append (F.args_list_append_2 _ _) (PySem.list_append l bg.toArray n u (by rw[D5];lia)) ⟨e,?_⟩;exact Ψ2 (.non) _ ⟨I.Mo (v6':=bg++[u]) hH e (by simp) (r.append (.cons ru .nil)) ?_,rfl,q⟩;rw[AG,fo];lia
def tT:V→List V→A7→Ar→Prop:=λx vs H Q=>∃l xs y,x=.ref l∧vs=[]∧H l=some (.lst xs)∧xs[xs.length-1]?=some y∧Q y (Aa H l (.lst xs.dropLast))
theorem acQ:aV X "list.pop" tT:=by
 intro v0 s σ H x vs v us Q I rx rv h;let⟨l,xs,y,rfl,rfl,hH,hy,q⟩:=h;cases rx;have XU:=rv.zero;subst XU;let⟨z,⟨bg,n,r,hl,e⟩⟩:=I.Ew hH;let⟨u,hu,ru⟩:=r.get hy;have XM:bg.toArray[bg.toArray.size-1]?=some u:=by
  show bg.toArray[bg.length-1]?=some u
  rw[←eZ,←hl];exact hu
 exact JA F.slot_list_pop ⟨_,e,rfl⟩ F.entry_list_pop (F.args_list_pop_1 _) (MeetsSeq.list_pop_last l bg.toArray n u XM (by rw[D5];lia)) ⟨e,?_⟩;exact Ψ2 y _ ⟨I.Mo (v6':=bg.dropLast) hH e ?_ r.dropLast ?_,ru,q⟩
 ·show bg.toArray.eraseIdxIfInBounds (bg.toArray.size-1)=bg.dropLast.toArray
  rw[D5,jn,acJ]
 ·rw[List.length_dropLast]
  lia
def vh:V→List V→A7→Ar→Prop:=λx vs H Q=>∃l xs i k y,x=.ref l∧vs=[.int i]∧H l=some (.lst xs)∧-(2^63)≤i∧i<2^63∧seqIndex? i xs.length=some k∧xs[k]?=some y∧Q y (Aa H l (.lst (xs.eraseIdx k)))
theorem aal:aV X "list.pop" vh:=by
 intro v0 s σ H x vs v us Q I rx rv h;let⟨l,xs,i,k,y,rfl,rfl,hH,h1,h2,hk,hy,q⟩:=h;cases rx;let⟨u,rfl,ru⟩:=rv.one;let⟨t,rfl⟩:=ru;let⟨z,⟨bg,n,r,hl,e⟩⟩:=I.Ew hH;let⟨w,hw,tR⟩:=r.get hy;exact JA F.slot_list_pop ⟨_,e,rfl⟩ F.entry_list_pop (F.args_list_pop_2 _ _)
  (MeetsSeq.list_pop_at l bg.toArray n i t k w (fitsIndex_both h1 h2) (by rw[D5,←hl];exact hk) (by rw[←eZ];exact hw) (by rw[D5];lia)) ⟨e,?_⟩
 exact Ψ2 y _ ⟨I.Mo (v6':=bg.eraseIdx k) hH e ?_ (r.eraseIdx k) ?_,tR,q⟩
 ·show bg.toArray.eraseIdxIfInBounds k=(bg.eraseIdx k).toArray
  rw[jn]
 ·have:=lh xs k
  lia
def aav:EE:=λx y H Q=>∃l b xs zs,x=.ref l∧y=.ref b∧H l=some (.lst xs)∧H b=some (.lst zs)∧xs.length+zs.length≤sizeLine∧∀p,H p=none→Q (.ref p) (Aa H p (.lst (xs++zs)))
theorem vX:By X (binaryOp .Add) aav:=by
 intro v0 s σ H x y v u Q I rx ry h;let⟨l,b,xs,zs,rfl,rfl,hH,hB,hz,q⟩:=h;cases rx;cases ry;let⟨z,⟨bg,n,r,hl,e⟩⟩:=I.Ew hH;let⟨z2,⟨qx,n2,r2,hl2,e2⟩⟩:=I.Ew hB;exact PySem.P.add_list e e2 ?_ (by rw[D5,D5];lia);have ea:bg.toArray++qx.toArray=(bg++qx).toArray:=by simp
 rw[ea];exact Ψ2 (.ref _) _ ⟨I.Px (t':=s.toks) (r.append r2) (by rw[AG];lia),rfl,q _ I.fresh⟩
theorem len_rep{α:Type}(xs:List α)(k:Nat):(List.replicate k xs).flatten.length=k*xs.length:=by
 induction k with
 |zero=>simp
 |succ k ih=>rw[bh,MQ,AG,ih,OF,Nat.add_comm]
end
section
set_option maxRecDepth 100000 in
end
end L2
namespace Sf
open PySem PySem.W PySem.Calls PyProof.Rows
variable {P:Params}{h:Heap}{l:OpenLaw}{n:Nat}
theorem ui:∀(ns:List Int) (vs:List Value),WellAll P h vs (ns.map WData.int)→IntsAre vs ns:=by
 intro ns;induction ns with
 |nil=>
  intro vs w;rw[Im]at w;cases w;exact .nil
 |cons n ns ih=>
  intro vs w;rw[CV]at w;cases w with
  |cons a b=>
   cases a;exact .cons _ _ (ih _ b)
theorem yU(hn:l.most=some n){args:List WData}{vals:List Value}
  (HM:l.row.toRowW.claim.pre args=true) (TJ:WellAll P h vals args) :
  ∃a vs ns,vals=[Value.ref a]∧args=[WData.list (ns.map WData.int)]∧h.get? a=some {cls:=.type "list",data:=.seq vs.toArray}∧IntsAre vs ns∧ns.length≤n:=by
 have X1:WShape.hasAll [] args [.list .int]=true:=(pre_splitW HM).1;have hc:l.pre.holds [] {args:=args}=true:=(pre_splitW HM).2;let⟨d,r,rfl,h1,h2⟩:=hasAllW_cons X1;obtain rfl:=hasAllW_nil h2;let⟨xs,rfl,h3⟩:=hasW_list h1;let⟨ns,rfl⟩:=items_int h3;have hlen:ns.length≤n:=by
  unfold OpenLaw.pre at hc;have h4:(WTm.not (.lt (.lit (.int (n:Int))) (.len (.arg 0)))).holds [] {args:=[.list (ns.map .int)]}=true:=by
   have h4:=(holds_andW hc).1;rw[hn]at h4;exact h4
  have h5:=condW_of h4 (w_not (w_lt w_lit (w_len_list (w_arg rfl))));rw[Ae]at h5;exact Nat.le_of_not_lt λq=>?_;have q':(n:Int)<((ns.length:Nat):Int):=by lia
  first
   |(rw[BY q']at h5;exact absurd h5 (by decide))
   |(simp at h5;lia)
 cases TJ with
 |cons w1 w2=>
  cases w2;cases w1 with
  |list ho Bj=>exact Ψ3 _ _ ns ⟨rfl,rfl,ho,ui ns _ Bj,hlen⟩
theorem acO(l:OpenLaw)(args:List WData):l.row.toRowW.claim.post args (.bool true) args=true:=
 postW_of (r:=l.row.toRowW) (X:=(true==true))
  (show WShape.has [] (.bool true) .bool=true by first|rfl|decide|simp[WShape.has,WShape.arms,WShape.armsAll])
  (show(WTm.eq .res (.lit (.bool true))).value [] {args:=args,res:=some (.bool true),after:=args}=some (.bool (true==true))from w_eq_bool (w_res rfl) w_lit) rfl
theorem wB{q:Program}{loose:List Str}{XP:(KK)→Heap→Prop}{YP:World→Heap→Prop}{d:DefRec}
  (hn:l.most=some n) (P9:d.params.defaults=[])
  (call:∀(w:World) (s₀ s₁:Shared) (mg mb:KK) (fa:Addr) (o:Obj) (pm cd doc:Value) (a:Addr) (vs:List Value) (ns:List Int),
   Ground q loose [] XP w s₀ mg mb s₁.heap→YP w s₁.heap→
   s₁.heap.get? fa=some o→o.data=.func (docDef d.name d.params d.body d.scope pm cd doc)→s₁.heap.CodeRec cd d.name→mg d.name=some (.ref fa)→
   s₁.heap.get? a=some {cls:=.type "list",data:=.seq vs.toArray}→IntsAre vs ns→ns.length≤n→s₁.gens=#[]→
   codeAny (model l.prog w) callerA (.call (.ref fa) ⟨[.ref a],[]⟩) (λr s'=>r=.ok (.ret (.bool true))∧OldK s₁.heap s'.heap∧s'.os=s₁.os∧AllBare s'.gens) s₁) :
  WalkO q loose XP YP l.row.toRowW d [] (λf vs=>PySem.call f vs):=by
 intro w s₀ s₁ mg mb G Y fa o pm cd doc dV DQ ho hd yw hD P5 hg args vals as HM Yf hrd TJ hlo;obtain rfl:dV=.none:=Dflts.none hD P9;obtain rfl:DQ=.none:=Dflts.noKw hD;let⟨a,vs,ns,rfl,rfl,MF,hints,hlen⟩:=yU hn HM TJ;exact enter_call (JY (call w s₀ s₁ mg mb fa o pm cd doc a vs ns G Y ho (fd_plain hd) yw P5 MF hints hlen hg) λr s' hq=>?_);let⟨rfl,h2,h3,h4⟩:=hq;exact⟨.inl ⟨.bool true,.bool true,[],rfl,λ_=>rfl,.bool true,acO l _,λ_=>⟨List.Pairwise.nil,λ_ hm=>(nomatch hm)⟩⟩,h2,h3,h4⟩
end Sf
namespace L2
open PySem PySem.Spec PyProof.Rows
variable {w:World}{k n i:Nat}{fd:FuncData}{x qual:Str}{sp:Dc}{ns:List Int}{X: Cx}{st:Stmt}{f C:Addr}{ps:List Str}{pos p: Pos}{scope: Scope}{env:Env}{own: List Str}{cap: List (Nat×Str)}{σ:St}{s2:Shared}{cl: List (Str×Addr)}{te: Ah}
theorem i8:∀{vs:List Value} {ns:List Int},IntsAre vs ns→Vals (ns.map V.int) vs
 |_,_,.nil=>.nil
 |_,_,.cons n t h=>.cons ⟨t,rfl⟩ (i8 h)
def Oi(H:A7):Prop:=∀b,H b=none∨∃o xs,H b=some (.frz o (.lst xs))
theorem xy{P:Program}{K:W.Frag}{mg mb:KK}{CX:Gy}{fa a:Addr}{s₁:Shared}{vs:List Value}
  (KX:K.In s₁.heap) (VY:s₁.heap.Ns mainGlobals mg) (hb:s₁.heap.Ns builtinsNs mb) (Ys:∀x:Str,x ≠ "__name__" → mb x=bootBuiltins x) (T7:s₁.heap.NoLimit) (hg:s₁.gens=#[])
  (ha:s₁.heap.get? a=some {cls:=.type "list",data:=.seq vs.toArray}) (hi:IntsAre vs ns) (hl:ns.length≤sizeLine) (hr:dH k callerA)
  (F:∀base:Heap,K.In base→base.Ns mainGlobals mg→bJ P w K mg base CX k fa fd [x] sp) (Qc:∀(s:Shared) (u:Value),BindsTo s fd ⟨[u],[]⟩ [(x,u)])
  (wH:∀H:A7,Oi H→jK K H a (ns.map V.int)→sp [.ref a] H (λv _=>v=.bl true) λ_ _ _=>False)
  (Um:∀H e s',CX [] H s₁ (λ_ _ _=>False) e s'→False) :
  codeAny (model P w) callerA (.call (.ref fa) ⟨[.ref a],[]⟩) (λr s'=>r=.ok (.ret (.bool true))∧OldK s₁.heap s'.heap∧s'.os=s₁.os∧AllBare s'.gens) s₁:=by
 have rv:=i8 hi;have Td:=hi.length
 -- from an abstract heap in U9 nothing but zf xD may be tracked
 have core:∀H:A7,Oi H→jK K H a (ns.map V.int)→oM P w H s₁.heap→(∀b,H b≠none→b=a)→(H a≠none→K.lookup a=none)→
   codeAny (model P w) callerA (.call (.ref fa) ⟨[.ref a],[]⟩) (λr s'=>r=.ok (.ret (.bool true))∧OldK s₁.heap s'.heap∧s'.os=s₁.os∧AllBare s'.gens) s₁:=by
  intro H hO hS cN hA hK;have As:∀{b:Addr} {o:Obj},s₁.heap.get? b=some o→H b=none→(Ij s₁.heap H).get? b=some o:=λe n=>xV e n;have Pk:∀{b:Addr} {o:Obj} {es:Array DictEntry} {ep:Nat},s₁.heap.get? b=some o→o.data=.dict es ep→H b=none:=λ{b o es ep} e d=>by
   cases q:H b with
   |none=>rfl
   |some u=>
    have e':b=a:=hA b (by rw[q];simp);subst e';rw[ha]at e;cases e;have d':Data.seq vs.toArray _=Data.dict es ep:=d;cases d'
  have Rq:∀{b:Addr} {m:KK},s₁.heap.Ns b m→(Ij s₁.heap H).Ns b m:=λ{b m} ⟨o,es,ep,e,d,r⟩=>Ψ3 o es ep ⟨As e (Pk e d),d,r⟩;have V5:K.In (Ij s₁.heap H):=λb o e=>As (KX b o e) (by
   cases q:H b with
   |none=>rfl
   |some u=>
    have e':b=a:=hA b (by rw[q];simp);subst e';rw[hK (by rw[q];simp)]at e;cases e)
  have hM:Mod K mg (Ij s₁.heap H):=⟨V5,Rq VY,⟨mb,Rq hb,Ys⟩,let⟨mc,h1,h2⟩:=T7;⟨mc,Rq h1,h2⟩⟩;have e0:yV P w K mg (Ij s₁.heap H) callerA [] s₁ H:=⟨rfl,hM,λb o e=>xO e,Nat.le_of_eq (acP _ _),trivial,λb hb=>absurd (show b∈([]:List Addr)from hb) (by simp),cN,.of_eq hg⟩;exact JY ((F _ V5 (Rq VY)).run callerA [] s₁ H ⟨[.ref a],[]⟩ [.ref a] [.ref a] _ _ hr e0 (Qc s₁ (.ref a)) (.cons rfl .nil) (wH H hO hS)) λr s' h=>?_;cases r with
  |error e=>exact(Um H e s' h).elim
  |ok fl=>
   cases fl with
   |next=>exact False.elim h
   |brk=>exact False.elim h
   |cont=>exact False.elim h
   |ret u=>
    let⟨v,H',os,bare,un,TZ,r',q⟩:=h;have q':v=.bl true:=q;subst q';obtain rfl:u=Value.bool true:=r';exact⟨rfl,OldK.of_keep λb o e=>?_,os,bare⟩;cases q:H b with
    |none=>exact un.keep b o e q (by intro z;exact absurd (show b∈([]:List Addr)from z) (by simp)) (by simp)
    |some u=>
     rcases hO b with z|⟨ob,xs,z⟩
     ·rw[q]at z;cases z
     ·have z2:=un.jY b ob _ z
      let⟨e1,_⟩:=cN b _ z;let⟨e2,_⟩:=TZ b _ z2;rw[e]at e1;cases e1;exact e2
 cases hk:K.lookup a with
 |some o=>
  -- zf xD is one of zf Pn own objects
  have e:=KX a o hk;rw[ha]at e;cases e;exact core (λ_=>none) (λ_=>.inl rfl) (.inr ⟨_,vs.toArray,_,hk,rfl,rfl,rfl,by rw[D5,Td];exact hl,by simpa using rv⟩) (λb u z=>by have z':(none:Option HO)=some u:=z;cases z') (λb z=>absurd rfl z) λz=>absurd rfl z
 |none=>
  exact core (λb=>if b=a then some (.frz {cls:=.type "list",data:=.seq vs.toArray} (.lst (ns.map V.int)))else none) (λb=>?_) (.inl (.inr ⟨{cls:=.type "list",data:=.seq vs.toArray},AM rfl⟩)) (λb u z=>?_) (λb z=>?_) λ_=>hk
  ·by_cases hb:b=a
   ·exact .inr ⟨_,_,AM hb⟩
   ·exact .inl (AE hb)
  ·by_cases hb:b=a
   ·have z':=(AM hb).symm.trans z
    cases z';subst hb;exact⟨ha,by rw[Ae];exact hl,vs,_,rv,ha⟩
   ·have z':=(AE hb).symm.trans z
    cases z'
  ·by_cases hb:b=a
   ·exact hb
   ·exact absurd (AE hb) z
theorem Gb{l:W.OpenLaw}{q:Program}{loose:List Str}{XP:(KK)→Heap→Prop}{YP:World→Heap→Prop}{d:DefRec}{K:Params→W.Frag}{CX:World→Gy}{sp:World→Dc}
  (hn:l.most=some n) (RH:n≤sizeLine) (P9:d.params.defaults=[]) (hr:dH k callerA)
  (hY:∀(w:World) (h:Heap),YP w h→(K w.params).In h)
  (F:∀(w:World) (mg:KK) (fa:Addr) (h:Heap),(K w.params).In h→h.Ns mainGlobals mg→mg d.name=some (.ref fa)→
   ∃fd:FuncData,(∀(s:Shared) (u:Value),BindsTo s fd ⟨[u],[]⟩ [(x,u)])∧
    ∀base:Heap,(K w.params).In base→base.Ns mainGlobals mg→bJ l.prog w (K w.params) mg base (CX w) k fa fd [x] (sp w))
  (wH:∀(w:World) (H:A7) (a:Addr) (ns:List Int),ns.length≤n→Oi H→jK (K w.params) H a (ns.map V.int)→sp w [.ref a] H (λv _=>v=.bl true) λ_ _ _=>False)
  (Um:∀(w:World) (H:A7) (s:Shared) (e:Value) (s':Shared),CX w [] H s (λ_ _ _=>False) e s'→False) :
  W.WalkO q loose XP YP l.row.toRowW d [] (λf vs=>PySem.call f vs):=by
 exact Sf.wB hn P9 λw s₀ s₁ mg mb fa o pm cd doc a vs ns G Y ho hd yw P5 MF hints hlen hg=>?_;have KX:=hY w _ Y;let⟨fd,hb,hF⟩:=F w mg fa _ KX G.T.g P5;exact xy KX G.T.g G.T.b G.T.builtins G.T.nolimit hg MF hints (Ce hlen RH) hr hF hb (λH hO hS=>wH w H a ns hlen hO hS) λH e s'=>Um w H s₁ e s'
def IB(s:Stmt):Arguments:=match s with
 |.FunctionDef _ a _ _ _ _ _ _ _ _=>a
 |_=>{posonlyargs:=[],args:=[],vararg:=none,kwonlyargs:=[],kw_defaults:=[],kwarg:=none,defaults:=[]}
def GL(s:Stmt):List Stmt:=match s with
 |.FunctionDef _ _ b _ _ _ _ _ _ _=>b
 |_=>[]
def Am(s:Stmt):Scope:=match s with
 |.FunctionDef _ _ _ _ _ _ sc _ _ _=>sc
 |_=>{kind:=.function,names:=[],isGenerator:=false,isCoroutine:=false}
abbrev BK:Gy:=λ_ _ _ _ _ _=>False
abbrev IG:BG:=λ_ _ _=>False
theorem aaz{X:Cx}:Passes BK X IG:=λ_ _ _ _ _ _ _ h=>h.elim
structure eG(K:W.Frag)(x qual:Str)(st:Stmt)(f:Addr)(fd:FuncData):Prop where
 ex:∃(oc:Value) (od:Option Addr) (DQ doc pm:Value) (an:Option Addr) (cO ct:Value) (zG:Array (Option Value)),
  fd=W.fnOf x qual (IB st) (GL st) (Am st) .none DQ doc pm an cO ct∧K.lookup f=some ⟨oc,od,.func fd,zG⟩∧W.codeIn K cO qual=true
 kp:W.keepIn K (.ref f)=true
section
variable {P: Program}{w: World}{K: W.Frag}{mg: Str→Option Value}{base: Heap}
theorem eG.ok{N:List Str}(F:eG K x qual st f fd)(S:B6 N ps (Am st))(len:∀vs H Q E,sp vs H Q E→vs.length=ps.length)
  (ng:∀(cO:Value) (A:Around) (outer:List Env) (s:Shared) (H:A7) (vs:List V) (Q:Ar) (E:BG),dH k (A.deeper (envOfC qual (Am st) s.heap.objs.size f cO))→sp vs H Q E→
   ∃t,jU (JW BK P w K mg base N qual (Am st) f cO A outer s H E).sD (GL st) t∧t {nx:=λ_ H'=>Q .non H',rt:=Q} (start N vs) H):bJ P w K mg base BK (k+1) f fd ps sp:=by
 let⟨oc,od,DQ,doc,pm,an,cO,ct,zG,rfl,lk,yw⟩:=F.ex;exact pP lk yw S len λA outer s H vs Q E hr wH=>?_;let⟨t,h,q⟩:=ng cO A outer s H vs Q E hr wH;exact⟨t,h.sD,q⟩
theorem eG.binds(F:eG K x qual st f fd)
  (h:∀(DQ doc pm:Value) (an:Option Addr) (cO ct:Value) (us:List Value),us.length=ps.length→bindArgs (W.fnOf x qual (IB st) (GL st) (Am st) .none DQ doc pm an cO ct) ⟨us,[]⟩=pure (ps.zip us)):Binds K fd ps []:=by
 let⟨oc,od,DQ,doc,pm,an,cO,ct,zG,rfl,lk,yw⟩:=F.ex;exact .all (h DQ doc pm an cO ct)
theorem kP{oc:Value}{od an:Option Addr}{zG:Array (Option Value)}{DQ doc pm cO ct:Value}(l:K.lookup f=some ⟨oc,od,.func (W.fnOf x qual (IB st) (GL st) (Am st) .none DQ doc pm an cO ct),zG⟩)
  (c:W.codeIn K cO qual=true) (k:W.keepIn K (.ref f)=true):eG K x qual st f (W.fnOf x qual (IB st) (GL st) (Am st) .none DQ doc pm an cO ct):=⟨Ψ9 oc od DQ doc pm an cO ct zG ⟨rfl,l,c⟩,k⟩
end
theorem CM(h:n≤1000):n<sizeLine:=Nat.lt_of_le_of_lt h (by decide)
section
theorem Ln(i:Nat){pos:Pos}(hN:X.N[i]?=some x:=by rfl)(hv:Lm X.env.scope x:=by first|exact Or.inl rfl|exact Or.inr (Or.inl rfl)|exact Or.inr (Or.inr rfl))(hd:(x ==("__debug__" : Str))=false:=by decide)
  (yw:(x ==("__classdict__" : Str))=false:=by decide):PE X (.Name x pos) (rI i):=ib hN hv hd yw
end
theorem aaP{prog:Program}{A:Around}{R:Result→Shared→Prop}{s:Shared}{elt target iter:Expr}{ifs:List Expr}{scope:Scope}{pos:Pos}{it acc:Value}(I:Nat→Shared→Prop)
  (turn:∀n s,I n s→wpAny (model prog w) A (pyNext it) (λr s₁=>match r with
   |none=>R (.ok .next) s₁
   |some v=>wpAny (model prog w) A (letOwnedTupleGo target it v) (λ_ Ou=>wpAny (model prog w) A (assign target env v) (λ_ s₂=>
     wpAny (model prog w) A (forIn ifs true λc r=>if r=true then do let ok ←isTrue c env (eval c env);pure (ForInStep.yield ok)else pure (ForInStep.yield r)) (λok s₃=>
      if ok=true then wpAny (model prog w) A (eval elt env) (λx s₄=>
       wpAny (model prog w) A (call (.builtin "list.append") [acc,x]) (λ_ s₅=>∃m,m<n∧I m s₅) (notedBy (model prog w) A env λe s'=>R (.error e) s') s₄) (notedBy (model prog w) A env λe s'=>R (.error e) s') s₃
      else ∃m,m<n∧I m s₃) (notedBy (model prog w) A env λe s'=>R (.error e) s') s₂) (notedBy (model prog w) A env λe s'=>R (.error e) s') Ou) (notedBy (model prog w) A env λe s'=>R (.error e) s') s₁) (notedBy (model prog w) A env λe s'=>R (.error e) s') s)
  (n:Nat) (h:I n s) :
  codeAny (model prog w) A (.compLoop (.ListComp elt [⟨target,iter,ifs,0⟩] scope pos) 0 it acc env) R s:=by
 exact codeAny_loop rfl I (λn s hI=>?_) n h;show wpAny _ A ((compTurn (.ListComp elt [⟨target,iter,ifs,0⟩] scope pos) 0 it acc env).onRaise (λx=>do noteFrame x env;theTreesLotGoes x)) _ _ s
 exact wpAny_noted ?_;rw[compTurn_list];exact AN (Jy (AN (Dn (turn n s hI) (λr s₁ h₁=>?_) λ_ _ h'=>h')));cases r with
 |none=>exact BR h₁
 |some v=>
  exact AN (Dn h₁ (λ_ Ou TB=>?_) λ_ _ h'=>h');exact AN (Dn TB (λ_ s₂ h₂=>AN (Dn h₂ (λok s₃ h₃=>?_) λ_ _ h'=>h')) λ_ _ h'=>h');cases ok with
  |false=>exact BR ⟨rfl,h₃⟩
  |true=>
   exact AN (AN (Dn h₃ (λx s₄ h₄=>AN (Dn h₄ (λ_ s₅ h₅=>BR (BR ⟨rfl,h₅⟩)) λ_ _ h'=>h')) λ_ _ h'=>h'))
structure wM(X:Cx)(ifs:List Expr)(t:D0):Prop where
 run:∀v0 s σ H (Q:Bool→A7→Prop),Inv X v0 σ H s→t σ H Q→
  wpAny (model X.prog X.w) X.A (forIn ifs true λc r=>if r=true then do let ok ←isTrue c X.env (eval c X.env);pure (ForInStep.yield ok)else pure (ForInStep.yield r)) (Km X v0 σ Q) X.xe s
instance {X:Cx}{ifs:List Expr}{t:D0}:CoeFun (wM X ifs t) λ_=>∀v0 s σ H (Q:Bool→A7→Prop),Inv X v0 σ H s→t σ H Q→wpAny (model X.prog X.w) X.A (forIn ifs true λc r=>if r=true then do let ok ←isTrue c X.env (eval c X.env);pure (ForInStep.yield ok)else pure (ForInStep.yield r)) (Km X v0 σ Q) X.xe s:=⟨wM.run⟩
def vR:D0:=λ_ H Q=>Q true H
theorem tJ{X:Cx}:wM X [] vR:=.mk λ_ _ _ H _ I h=>wpAny_tests_nil ⟨H,I,h⟩
theorem xo{X:Cx}{c:Expr}{t:D0}(h:PT X c t):wM X [c] t:=.mk λv0 s σ H Q I q=>wpAny_tests_one (h v0 s σ H Q I q)
def DW(X:Cx)(Nc:List Str)(scope:Scope)(cl:List (Str×Addr))(C:Addr)(s:Shared)(H:A7)(fp:List Addr)(E:xz):Cx where
 prog:=X.prog
 w:=X.w
 K:=X.K
 mg:=X.mg
 base:=X.base
 A:=X.A
 N:=Nc
 s₀:=s
 H₀:=H
 env:=compEnvC scope cl C X.env
 outer:=X.stack
 stack:=X.stack
 ex:=fp
 calm:=X.calm
 fn:=λ_=>false
 pn:=[]
 xe:=E
def wd(X:Cx)(scope:Scope)(cl:List (Str×Addr))(j:Nat)(x:Str):Prop:=
 X.N[j]?=some x∧Lm X.env.scope x∧X.env.kindOf x≠some .local∧(relabel scope X.env).names.lookup x≠some .local∧((relabel scope X.env).names.lookup x=some .cell∨(relabel scope X.env).names.lookup x=some .free)
structure fv(X:Cx)(scope:Scope)(cl:List (Str×Addr))(own:List Str)(cap:List (Nat×Str)):Prop where
 Fy:closureFor scope X.env=pure cl
 cell:∀y∈scope.names,y.2≠.cell
 kind:scope.kind=.function
 names:∀y∈scope.names,y.2=.local→scope.names.lookup y.1=some .local
 sub:∀x c,cl.lookup x=some c→X.env.cells.lookup x=some c
 has:∀p∈(relabel scope X.env).names,p.2=.cell∨p.2=.free→(cl.lookup p.1).isSome=true
 IA:∀p∈cap,wd X scope cl p.1 p.2
def Gn(own:List Str)(cap:List (Nat×Str))(σ:St):St:=List.replicate own.length none++cap.map λp=>(σ[p.1]?).getD none
theorem lookup_mem{α:Type}:∀{l:List (Str×α)} {n:Str} {c:α},l.lookup n=some c→(n,c)∈l:=λh=>mem_of_lookup h
section
variable {v0: List (Addr×Obj)}{σ: St}{H: A7}{s: Shared}{fp: List Addr}{E: Value→Shared→Prop}
theorem fv.MW(c:fv X scope cl own cap)(x:Str)(h:(relabel scope X.env).names.lookup x=some .cell∨(relabel scope X.env).names.lookup x=some .free):∃a,cl.lookup x=some a:=by
 have:(cl.lookup x).isSome=true:=by
  rcases h with h|h
  ·exact c.has (x,.cell) (lookup_mem h) (.inl rfl)
  ·exact c.has (x,.free) (lookup_mem h) (.inr rfl)
 exact abO.mp this
theorem Kc(c:fv X scope cl own cap)(I:Inv X v0 σ H s)(hf:∀b∈fp,Ee X v0 H b)(jX:∀b∈fp,b<s.heap.objs.size)(hC:s.heap.objs.size≤C):
  (DW X (own++cap.map (·.2)) scope cl C s H fp E).Ok where
 mod:=I.ok.mod
 kind:=c.kind
 glob:=I.ok.glob
 blt:=I.ok.blt
 above:=hC
 inj:=λx y a h1 h2=>I.ok.inj x y a (c.sub x a h1) (c.sub y a h2)
 has:=λx h=>c.MW x h
 J3:=λx a h=>absurd h (by intro z;exact Bool.noConfusion z)
 hd:=I.ok.hd
 frames:=I.ok.frames
 K5:=.inl rfl
 M8:=λb hb=>⟨λz=>by
   have:=jX b hb;rw[z]at this;exact absurd (EN this hC) (Ib _),λx a h=>(hf b hb).2.2.2.2.1 x a (c.sub x a h)⟩
 bs:=I.bs
 FH:=Ce I.ok.FH I.sz
 vJ:=λb o e hb=>by
  rcases(hf b hb).2.2.2.1 with z|z
  ·exact I.ok.vJ b o e z
  ·exact absurd (EN (BZ (I.ok.bs b o e).1) z) (Ib _)
 uA:=λb hb hs=>by
  rcases aam.mp (I.tN b hs)with z|z
  ·exact(hf b hb).2.1 z
  ·exact(hf b hb).2.2.1 z
 lL:=I.stack
 F0:=I.mO
theorem oP{own:List Str}{cap:List (Nat×Str)}{v:V}(h1:(own++cap.map (·.2))[i]?=some x)(h2:(Gn own cap σ)[i]?=some (some v)):∃p∈cap,p.2=x∧σ[p.1]?=some (some v):=by
 unfold Gn at h2;by_cases hi:i<own.length
 ·rw[Nl (by simpa using hi),qu]at h2
  split at h2<;>cases h2
 ·rw[fM (by simpa using hi)]at h2 h1
  rw[List.length_replicate,Ha]at h2;rw[Ha]at h1;cases e:cap[i-own.length]? with
  |none=>rw[e]at h2;cases h2
  |some p=>
   rw[e]at h1 h2;exact⟨p,M9 e,Cr h1,?_⟩;have h3:(σ[p.1]?).getD none=some v:=Cr h2;cases q:σ[p.1]? with
   |none=>rw[q]at h3;cases h3
   |some z=>rw[q]at h3;exact Ai some h3
theorem acE(c:fv X scope cl own cap)(I:Inv X v0 σ H s)(hf:∀b∈fp,Ee X v0 H b)(jX:∀b∈fp,b<s.heap.objs.size){h₁:Heap}{tk:Nat}{m:KK}
  (hk:∀b o,s.heap.get? b=some o→h₁.get? b=some o) (hD:h₁.get? s.heap.objs.size=some {cls:=.type "list",data:=.seq ([]:List Value).toArray}) (hn:h₁.Ns (s.heap.objs.size+1) m) :
  Inv (DW X (own++cap.map (·.2)) scope cl (s.heap.objs.size+1) s H fp E) [] (Gn own cap σ) (Aa H s.heap.objs.size (.lst [])) {s with heap:=h₁,toks:=tk}:=by
 have yv:H s.heap.objs.size=none:=I.fresh;have MK:H (s.heap.objs.size+1)=none:=I.cN.fresh (Gq _);have MG:cZ X.prog X.w (Aa H s.heap.objs.size (.lst [])) h₁ s.heap.objs.size (.lst []):=⟨Fe _,[],0,.nil,hD⟩;exact⟨Kc c I hf jX (Gq _),rfl,I.bare,Un.laid hk (Ax _) yv,⟨m,hn,λi x v e1 e2 _=>?_⟩,λx a e=>?_,?_,λx a e=>?_,λp hp=>absurd (show p∈([]:ac)from hp) (by simp),I.cN.laid hk (Ax _) MG,?_⟩
 ·let⟨p,hp,ex,es⟩:=oP e1 e2
  let⟨q1,q2,q3,q4,q5⟩:=c.IA p hp;rw[ex]at q1 q2 q3 q4 q5;let⟨m',MH,hl⟩:=I.loc;let⟨u,r,l⟩:=hl p.1 x v q1 es q2;exact⟨u,r,?_⟩;rcases l with l|⟨k,a,e,z⟩
  ·exact absurd l.1 q3
  ·let⟨a',e'⟩:=c.MW x q5
   have ea:=c.sub x a' e';rw[e]at ea;cases ea;exact .inr ⟨q5,a,e',z.keeps hk⟩
 ·let⟨v,z⟩:=I.cell x a (c.sub x a e)
  exact⟨v,z.keeps hk⟩
 ·show Aa H s.heap.objs.size (.lst []) (s.heap.objs.size+1)=none
  rw[BA (Nat.succ_ne_self _)];exact MK
 ·let⟨v,z⟩:=I.cell x a (c.sub x a e)
  show Aa H s.heap.objs.size (.lst []) a=none
  rw[BA (DU z.lt)];exact I.gh x a (c.sub x a e)
 ·show(Gn own cap σ).length=(own++cap.map (·.2)).length
  simp[Gn]
theorem rG{H':A7}{σ':St}{Nc:List Str}{oB:ac}(I:Inv X v0 σ H s)(hf:∀b∈fp,Ee X v0 H b)(hC:s.heap.objs.size≤C)(J:Inv (DW X Nc scope cl C s H fp E) oB σ' H' s2):
  Inv X v0 σ H' s2∧Ee X v0 H' C:=by
 have os:s2.os=s.os:=J.os;have un:Un (DV X.stack) fp H H' s.heap s2.heap:=J.base;exact⟨I.FF os un J.cN J.bare λb hb=>⟨(hf b hb).2.2.2.1,(hf b hb).2.1,(hf b hb).2.2.2.2.1,(hf b hb).2.2.2.2.2⟩,I.yz hC J.free⟩
end
def fI(wi:Es)(g:Ed)(tc:D0)(te:Ah)(own:List Str)(cap:List (Nat×Str)):Ah:=λσ H Q=>wi σ H λJ H1=>∀D,H1 D=none→
 ∃W:Nat→Nat→St→List V→A7→Prop,(∃m,W 0 m (Gn own cap σ) [] (Aa H1 D (.lst [])))∧∀i m σ' ys H',W i m σ' ys H'→H' D=some (.lst ys)∧
  ((J.stop i H'∧Q (.ref D) H')∨(J.go i H'∧ys.length<sizeLine∧∃N:St→List V→A7→Prop,(∀σ ys H,N σ ys H→∃m',m' < m∧W (i+1) m' σ ys H)∧∀x H2,J.uZ i H' x H2→g x σ' H2 λσ3 H3=>tc σ3 H3 λb H4=>if b=true then te σ3 H4 λy H5=>H5 D=some (.lst ys)∧N σ3 (ys++[y]) (Aa H5 D (.lst (ys++[y])))
   else N σ3 ys H4))
section
variable {tg iter elt: Expr}{ifs: List Expr}{wi: Es}{g: Ed}{tc: D0}
theorem lD{v0:ac}{H2:A7}{it:Addr}{fp:List Addr}{tn:Nat→Heap→Prop}{J:It}{Q:Ar}{RR:Value→Addr→Result→Shared→Prop}{E':xz}
  (c:fv X scope cl own cap) (hc:X.calm=true)
  (hg:∀C s H fp,PG (DW X (own++cap.map (·.2)) scope cl C s H fp λ_ _=>False) tg g) (ht:∀C s H fp,wM (DW X (own++cap.map (·.2)) scope cl C s H fp λ_ _=>False) ifs tc)
  (he:∀C s H fp,PE (DW X (own++cap.map (·.2)) scope cl C s H fp λ_ _=>False) elt te)
  (I2:Inv X v0 σ H2 s2) (T:Turn X.prog X.w X.K tg J fp it tn) (uR:tn 0 s2.heap) (f2:∀b∈fp,Ee X v0 H2 b)
  (hw:∀D,H2 D=none→∃W:Nat→Nat→St→List V→A7→Prop,(∃m,W 0 m (Gn own cap σ) [] (Aa H2 D (.lst [])))∧∀i m σ' ys H',W i m σ' ys H'→H' D=some (.lst ys)∧
   ((J.stop i H'∧Q (.ref D) H')∨(J.go i H'∧ys.length<sizeLine∧∃N:St→List V→A7→Prop,(∀σ ys H,N σ ys H→∃m',m' < m∧W (i+1) m' σ ys H)∧∀x H2,J.uZ i H' x H2→g x σ' H2 λσ3 H3=>tc σ3 H3 λb H4=>if b=true then te σ3 H4 λy H5=>H5 D=some (.lst ys)∧N σ3 (ys++[y]) (Aa H5 D (.lst (ys++[y])))
    else N σ3 ys H4)))
  (Ul:∀D C s' H' m,Inv X v0 σ H' s'→Ee X v0 H' C→s'.heap.Ns C m→Q (.ref D) H'→RR (.ref D) C (.ok .next) s') :
  wpAny (model X.prog X.w) X.A (newList []) (λacc s₃=>wpAny (model X.prog X.w) X.A (newFunctionEnv scope X.env.globals cl [] X.env.qual none .none (some X.env)) (λQK s₄=>
   codeAny (model X.prog X.w) X.A (.compStart (.ListComp elt [⟨tg,iter,ifs,0⟩] scope pos) 0 (.ref it) acc {QK with scope:=relabel scope X.env}) (RR acc QK.locals) s₄) E' s₃) E' s2:=by
 exact dC (wpAny_newFunctionEnv c.cell (by intro y hy;simp at hy) (λh₁ vP vN=>?_) c.kind);dsimp only at vP vN ⊢;have HK:(s2.heap.push {cls:=.type "list",dict:=none,data:=.seq ([]:List Value).toArray}).objs.size=s2.heap.objs.size+1:=IE _ _;have kk:∀b o,s2.heap.get? b=some o→h₁.get? b=some o:=λb o e=>vN.extBut b o (by rw[HK];exact DU (dM (BZ e))) (Ba _ (Ba _ e));have hD:h₁.get? s2.heap.objs.size=some {cls:=.type "list",data:=.seq ([]:List Value).toArray}:=
  vN.extBut _ _ (by rw[HK];exact DU (Jk _)) (Ba _ (Dh _ rfl))
 rw[HK]at vP ⊢;have jX:∀b∈fp,b<s2.heap.objs.size:=λb hb=>by
  let⟨o,e,_⟩:=T.obj _ _ uR b hb;exact BZ e
 let⟨W,⟨m0,w0⟩,turn⟩:=hw s2.heap.objs.size I2.fresh;have J1:=acE (E:=λ_ _=>False) c I2 f2 jX (tk:=s2.toks+([]:List (Str×Value)).length) kk hD vP;generalize pD:DW X (own++cap.map (·.2)) scope cl (s2.heap.objs.size+1) s2 H2 fp (λ_ _=>False)=X' at J1;have P8:PG X' tg g:=pD ▸ hg _ _ _ _;have XY:wM X' ifs tc:=pD ▸ ht _ _ _ _;have Ue:PE X' elt te:=pD ▸ he _ _ _ _;have pX:X'.prog=X.prog:=by rw[←pD];rfl
 have wX:X'.w=X.w:=by rw[←pD];rfl
 have kX:X'.K=X.K:=by rw[←pD];rfl
 have aX:X'.A=X.A:=by rw[←pD];rfl
 have cX:X'.calm=true:=by rw[←pD];exact hc
 have nX:X'.env=compEnvC scope cl (s2.heap.objs.size+1) X.env:=by rw[←pD];rfl
 have xX:X'.xe=λ_ _=>False:=by rw[←pD];rfl
 have fX:∀b∈fp,∀{H':A7},H' b=none→Ee X' [] H' b:=λb hb {H'} hn=>by
  have o1:=(Kc (E:=λ_ _=>False) c I2 f2 jX (C:=s2.heap.objs.size+1) (Gq _)).M8 b hb;have o2:=(Kc (E:=λ_ _=>False) c I2 f2 jX (C:=s2.heap.objs.size+1) (Gq _)).uA b hb;rw[←pD];exact⟨hn,o1.1,o2,.inl hb,o1.2,λp hp=>absurd (show p∈([]:ac)from hp) (by simp)⟩
 have fin:∀{σ':St} {H':A7} {s':Shared},Inv X' [] σ' H' s'→Q (.ref s2.heap.objs.size) H'→RR (.ref s2.heap.objs.size) (s2.heap.objs.size+1) (.ok .next) s':=λ{σ' H' s'} J' q=>by
  rw[←pD]at J';let⟨A1,A2⟩:=rG I2 f2 (Gq _) J';let⟨m,hm,_⟩:=J'.loc;exact Ul _ _ s' H' m A1 A2 hm q
 have loop:codeAny (model X.prog X.w) X.A (.compLoop (.ListComp elt [⟨tg,iter,ifs,0⟩] scope pos) 0 (.ref it) (.ref s2.heap.objs.size) (compEnvC scope cl (s2.heap.objs.size+1) X.env)) (RR (.ref s2.heap.objs.size) (s2.heap.objs.size+1))
   {s2 with heap:=h₁,toks:=s2.toks+([]:List (Str×Value)).length}:=by
  exact aaP (λn s'=>∃i σ' ys H',Inv X' [] σ' H' s'∧tn i s'.heap∧(∀b∈fp,H' b=none)∧W i n σ' ys H') ?_ m0
   ⟨0,_,[],_,J1,T.keep _ _ _ uR λb _ o e=>kk b o e,λb hb=>by rw[BA (DU (jX b hb))];exact(f2 b hb).1,w0⟩
  intro n s3⟨i,σ3,ys,H3,I3,Jg,JX,w3⟩;let⟨Yv,w4⟩:=turn i n σ3 ys H3 w3;rw[←nX,←aX,←pX,←wX];have sD:∀{α:Type} {t:Sem α} {Q1:α→Shared→Prop} {E1:xz} {s:Shared},wpAny (model X'.prog X'.w) X'.A t Q1 X'.xe s→wpAny (model X'.prog X'.w) X'.A t Q1 E1 s:=λ{α t Q1 E1 s} h=>by
   rw[xX]at h;exact Dn h (λ_ _ q=>q) λ_ _ f=>f.elim
  rcases w4 with⟨stop,qn⟩|⟨go,NC,N,hN,step⟩
  ·have d:=T.done X' pX wX kX cX i [] s3 σ3 H3 X'.xe I3 (λb hb=>fX b hb (JX b hb)) Jg stop
   rw[←pX,←wX]at d;exact sD (AV d λr s4 ξ=>Ξ02 ξ λhr I4=>?_);subst hr;exact fin I4 qn
  ·have d:=T.item X' pX wX kX cX i [] s3 σ3 H3 X'.xe I3 (λb hb=>fX b hb (JX b hb)) Jg go
   rw[←pX,←wX]at d;exact sD (AV d λr s4 ξ=>Ξ12 ξ λu hr h4=>?_);subst hr;exact sD (AV h4 λ_ s5 ξ=>Ξ25 ξ λx H5 I5 r5 y5 CS Qn=>?_);have Q3:=I5.pinned (λb hb=>fX b hb (Qn b hb)) (T.obj _ _ CS);have again:∀{σ7:St} {H7:A7} {s7:Shared} {Sg:List V},Inv X' ([]++KW fp s5.heap) σ7 H7 s7→N σ7 Sg H7→
     ∃m,m<n∧∃i σ' ys H',Inv X' [] σ' H' s7∧tn i s7.heap∧(∀b∈fp,H' b=none)∧W i m σ' ys H':=λ{σ7 H7 s7 Sg} I7 n7=>by
    let⟨m',hm,w7⟩:=hN _ _ _ n7;exact⟨m',hm,i+1,σ7,Sg,H7,I7.j5,T.keep _ _ _ CS λb hb o e=>(I7.pin (b,o) (EH _ (EH _ (LC hb e)))).1,λb hb=>?_,w7⟩;let⟨o,e,d⟩:=T.obj _ _ CS b hb;exact(I7.pin (b,o) (EH _ (EH _ (LC hb e)))).2.1
   exact sD (AV (P8 _ s5 σ3 H5 x u _ Q3 r5 (step x H5 y5)) λ_ s6 ξ=>Ξ22 ξ λσ6 H6 I6 q6=>?_);exact sD (AV (XY _ s6 σ6 H6 _ I6 q6) λb s7 ξ=>Ξ12 ξ λH7 I7 q7=>?_);cases b with
   |false=>
    rw[AE DH]at q7 ⊢;exact again I7 q7
   |true=>
    rw[AM rfl]at q7 ⊢;exact sD (AV (Ue _ s7 σ6 H7 _ I7 q7) λu8 s8 ξ=>Ξ24 ξ λy8 H8 I8 r8 d8 q8=>?_);exact sD (AV (mS _ s8 σ6 H8 (.ref s2.heap.objs.size) [y8] (.ref s2.heap.objs.size) [u8] (λ_ H9=>N σ6 (ys++[y8]) H9) I8 rfl (.cons r8 .nil) ⟨_,ys,y8,rfl,rfl,d8,NC,q8⟩) λ_ s9 ξ=>Ξ23 ξ λ_ H9 I9 _ q9=>?_);exact again I9 q9
 exact codeAny_compStart_list loop (T.self X.A 0 _ _ _ (T.keep _ _ _ uR λb _ o e=>kk b o e) loop)
theorem uj(c:fv X scope cl own cap)(hc:X.calm=true)(hi:PI X tg iter wi)
  (hg:∀C s H fp,PG (DW X (own++cap.map (·.2)) scope cl C s H fp λ_ _=>False) tg g) (ht:∀C s H fp,wM (DW X (own++cap.map (·.2)) scope cl C s H fp λ_ _=>False) ifs tc)
  (he:∀C s H fp,PE (DW X (own++cap.map (·.2)) scope cl C s H fp λ_ _=>False) elt te) (hs:∀x,foldedSetIterable iter X.env x=pure x:=by intro _;rfl) :
  PE X (.ListComp elt [⟨tg,iter,ifs,0⟩] scope pos) (fI wi g tc te own cap):=by
 exact .mk ?_;intro v0 s σ H Q I h;rw[eval_ListComp];exact Tv (use:=none) rfl hs c.Fy c.kind c.names (AV (hi v0 s σ H _ I h) λv s1 h1=>AV h1 λPJ s2 h2=>?_);let⟨it,fp,tn,J,H2,e,I2,T,uR,f2,hw⟩:=h2;subst e;exact lD (Q:=Q) (RR:=λacc C=>compPost (model X.prog X.w) X.A X.xe none (Cf X v0 σ Q) acc C) c hc hg ht he I2 T uR f2 hw ?_;intro D C s' H' m I' hC hm q;exact⟨m,hm,λh' PZ=>Ψ2 (.ref D) H' ⟨?_,rfl,q⟩⟩;exact I'.turned (t':=s'.toks) (λb o hb e=>(PZ.2 b hb).trans e) hC.1 hC.2.1 hC.2.2.2.1 hC.2.2.2.2.1 hC.2.2.2.2.2
def tH(i:Nat)(t:Ah):Bu:=λD σ H=>t σ H λx H1=>D.nx (σ.set i (some x)) H1
theorem aa6{y:Str}{py CT:Pos}(c:fv X scope cl own cap)(hc:X.calm=true)(hi:PI X tg iter wi)
  (hg:∀C s H fp,PG (DW X (own++cap.map (·.2)) scope cl C s H fp λ_ _=>False) tg g) (ht:∀C s H fp,wM (DW X (own++cap.map (·.2)) scope cl C s H fp λ_ _=>False) ifs tc)
  (he:∀C s H fp,PE (DW X (own++cap.map (·.2)) scope cl C s H fp λ_ _=>False) elt te)
  (hN:X.N.Nodup) (hy:X.N[i]?=some y) (hl:X.env.scope.names.lookup y=some .local)
  (TL:swapsWith (.ListComp elt [⟨tg,iter,ifs,0⟩] scope pos) (some (.Name y py)) CT.line X.env=pure true:=by rfl) (hs:∀x,foldedSetIterable iter X.env x=pure x:=by intro _;rfl) :
  PS X (.Assign [.Name y py] (.ListComp elt [⟨tg,iter,ifs,0⟩] scope pos) CT) (tH i (fI wi g tc te own cap)):=by
 exact .mk ?_;intro v0 s σ H D I h;rw[exec_Assign_Name_used _ _ _ _ TL];exact AN (Jy (AN ?_));show wpAny _ X.A (do let _ ←comprehension (.ListComp elt [⟨tg,iter,ifs,0⟩] scope pos) scope X.env _ (newList []) false (eval iter X.env) (some (assign (.Name y py) X.env))) _ _ s
 exact AN (Dn (Tv (use:=some (assign (.Name y py) X.env)) (Q:=λ_ s'=>SP X v0 D .next s') rfl hs c.Fy c.kind c.names (AV (hi v0 s σ H _ I h) λv s1 h1=>AV h1 λPJ s2 h2=>?_)) (λ_ s' hq=>BR (BR hq)) λ_ _ e=>e);let⟨it,fp,tn,J,H2,e,I2,T,uR,f2,hw⟩:=h2;subst e;exact lD (Q:=λx H1=>D.nx (σ.set i (some x)) H1) (RR:=λacc C=>compPost (model X.prog X.w) X.A X.xe (some (assign (.Name y py) X.env)) (λ_ s'=>SP X v0 D .next s') acc C) c hc hg ht he I2 T uR f2 hw ?_;intro D' C s' H' m I' hC hm q;show wpAny _ X.A (assign (.Name y py) X.env (.ref D')) _ _ _
 exact wpAny_assign_Name (jZ (v:=.ref D') I' hN hy (.inl hl) rfl (λAJ I'' ch=>?_) (.inr hl));let⟨a,sb,ha⟩:=ch;have Yw:C≠a:=by
  rcases ha with ha|ha
  ·rw[ha];exact hC.2.1
  ·exactλz=>hC.2.2.2.2.1 _ _ ha z.symm
 exact⟨m,hm.sameBut sb Yw,λh' PZ=>Ψ2 _ H' ⟨?_,q⟩⟩;exact I''.turned (t':=AJ.toks) (λb o hb e=>(PZ.2 b hb).trans e) hC.1 hC.2.1 hC.2.2.2.1 hC.2.2.2.2.1 hC.2.2.2.2.2
end
def Ej:List Int→Int
 |[]=>0
 |[x]=>x
 |x::y::r=>max x (Ej (y::r))
theorem jL:∀{ns:List Int},ns≠[]→Ej ns∈ns
 |[x],_=>by simp[Ej]
 |x::y::r,_=>by
  have ih:=jL (ns:=y::r) (by simp);rw[Ej];by_cases h:x≤Ej (y::r)
  ·rw[Int.max_eq_right h];exact GO _ ih
  ·rw[Int.max_eq_left (by lia)];exact JH
theorem Ll:∀{ns:List Int} {a:Int},a∈ns→a≤Ej ns
 |[x],a,h=>by simp at h;subst h;simp[Ej]
 |x::y::r,a,h=>by
  rw[Ej];rcases aam.mp h with rfl|h
  ·exact Int.le_max_left _ _
  ·exact Int.le_trans (Ll h) (Int.le_max_right _ _)
theorem vK{M:Int}(h1:M∈ns)(h2:∀a∈ns,a≤M):M=Ej ns:=
 Int.le_antisymm (Ll h1) (h2 _ (jL (by intro z;rw[z]at h1;cases h1)))
def Ct{α:Type}(xs:List α)(lo hi:Option Int):List α:=(xs.drop (HT.jQ xs.length 0 lo)).take (HT.jQ xs.length xs.length hi-HT.jQ xs.length 0 lo)
theorem R3{α:Type}(xs:List α)(lo hi:Option Int):(Ct xs lo hi).length≤xs.length:=by
 unfold Ct;rw[Bi,CH];lia
theorem O7(v:Int)(n d:Nat):max (0:Int) (min (if v<0 then v+(n:Int)else v) (n:Int))=((HT.jQ n d (some v):Nat):Int):=by
 show _=(((if v<0 then(v+(n:Int)).toNat else min v.toNat n):Nat):Int)
 by_cases hv:v<0
 ·rw[AM hv,AM hv];lia
 ·rw[AE hv,AE hv];lia
theorem iK(lo hi:Option Int)(n:Nat):Builtin.Str.strSliceIndices lo hi 1 n=Builtin.Str.strSliceIndices (some ((HT.jQ n 0 lo:Nat):Int)) (some ((HT.jQ n n hi:Nat):Int)) 1 n:=by
 have a1:=HT.xJ n 0 (Fe _) lo;have a2:=HT.xJ n n (Ax _) hi;have n1:¬(((HT.jQ n 0 lo:Nat):Int)<0):=by lia
 have n2:¬(((HT.jQ n n hi:Nat):Int)<0):=by lia
 have e1:max (0:Int) (min ((HT.jQ n 0 lo:Nat):Int) (n:Int))=((HT.jQ n 0 lo:Nat):Int):=by lia
 have e2:max (0:Int) (min ((HT.jQ n n hi:Nat):Int) (n:Int))=((HT.jQ n n hi:Nat):Int):=by lia
 have p1:((1:Int)>0)=True:=by simp
 simp only[Builtin.Str.strSliceIndices,n1,n2,if_false,e1,e2,p1,Iw];cases lo with
 |none=>
  cases hi with
  |none=>rfl
  |some v=>simp only[O7 v n n];rfl
 |some u=>
  cases hi with
  |none=>simp only[O7 u n 0];rfl
  |some v=>simp only[O7 u n 0,O7 v n n]
theorem ac1{a b:Nat}(h:b≤a):Builtin.Str.strSliceIndices (some (a:Int)) (some (b:Int)) 1 n=[]:=by
 have n1:¬((a:Int)<0):=by lia
 have n2:¬((b:Int)<0):=by lia
 have p1:((1:Int)>0)=True:=by simp
 have p2:¬(max (0:Int) (min (a:Int) (n:Int))<max (0:Int) (min (b:Int) (n:Int))):=by lia
 simp only[Builtin.Str.strSliceIndices,PySem.sliceRange,n1,n2,if_false,p1,Iw,p2];rfl
theorem zH(x:Str)(lo hi:Option Int):(StrLaws.sliceText x lo hi).cps.toList=Ct x.cps.toList lo hi:=by
 have hn:x.cps.toList.length=x.length:=by simp[Str.length]
 unfold Ct;rw[hn];have a2:=HT.xJ x.length x.length (Ax _) hi;by_cases h:HT.jQ x.length 0 lo≤HT.jQ x.length x.length hi
 ·have q:=StrLaws.sliceText_nat x h a2
  have e:StrLaws.sliceText x lo hi=StrLaws.sliceText x (some ((HT.jQ x.length 0 lo:Nat):Int)) (some ((HT.jQ x.length x.length hi:Nat):Int)):=by
   unfold StrLaws.sliceText;rw[iK lo hi x.length]
  rw[e,q]
 ·have z:HT.jQ x.length x.length hi-HT.jQ x.length 0 lo=0:=by lia
  rw[z,c0];unfold StrLaws.sliceText;rw[iK lo hi x.length,ac1 (by lia)];split
  ·rename_i c
   have c':(0:Nat)=x.length:=by simpa using c
   exact Kj (by rw[hn];exact c'.symm)
  ·rfl
def rN:V→Option Int→Option Int→A7→Ar→Prop:=λx lo hi H Q=>∃z:Str,x=.str z∧z.length≤sizeLine∧∀y:Str,y.cps.toList=Ct z.cps.toList lo hi→Q (.str y) H
theorem sk{X:Cx}:R4 X rN:=by
 intro v0 s σ H x v vl vu lo hi sl Q I rx hs pl pu h;let⟨z,rfl,hz,q⟩:=h;let⟨t,rfl⟩:=rx;exact Ψ2 ("str") _ ⟨F.slot_str_getitem.lookup,HG _ z t,?_⟩;have fin:∀(l u:Option (Int×Tok)),l.map (·.1)=lo→u.map (·.1)=hi→s.heap.IsSlice sl l u none→wpAny (model X.prog X.w) X.A (getItem (.str z t) (.ref sl)) (Cf X v0 σ Q) X.xe s:=λl u el eu hq=>by
  exact wpAny_getItem_str_slice hq rfl ?_;have hc:=zH z lo hi;unfold StrLaws.sliceText at hc;unfold sliceMade slicePicked;rw[el,eu];show(if((1:Int)==1&&(Builtin.Str.strSliceIndices lo hi 1 z.length).length==z.length)=true then Made.val (.str z t)else .str ⟨((Builtin.Str.strSliceIndices lo hi 1 z.length).filterMap (z.cps[·]?)).toArray⟩).post (Cf X v0 σ Q) s
  split
  ·rename_i c
   rw[AM c]at hc;exact Ψ2 (.str z) H ⟨I,⟨t,rfl⟩,q z hc⟩
  ·rename_i c
   rw[AE c]at hc;have hl:(Str.mk ((Builtin.Str.strSliceIndices lo hi 1 z.length).filterMap (z.cps[·]?)).toArray).length≤z.length:=by
    have e:=R3 z.cps.toList lo hi;rw[←hc]at e;simpa[Str.length]using e
   exact⟨Ce hl hz,.str ⟨((Builtin.Str.strSliceIndices lo hi 1 z.length).filterMap (z.cps[·]?)).toArray⟩,H,I.tok _,⟨_,rfl⟩,q _ hc⟩
 cases pl with
 |none=>
  cases pu with
  |none=>exact fin none none rfl rfl hs
  |int j t'=>exact fin none (some (j,t')) rfl rfl hs
 |int i K1=>
  cases pu with
  |none=>exact fin (some (i,K1)) none rfl rfl hs
  |int j t'=>exact fin (some (i,K1)) (some (j,t')) rfl rfl hs
section
variable {x: Expr}{p2: Pos}{T: Str}{Ty: String}
def tQ(K:W.Frag)(Ty:String)(te:Ah):Ah:=λσ H Q=>te σ H λv H1=>∃v',[v,V.ty Ty]=[v',V.ty Ty]∧∃t b,Fm K H1 v' t∧W.kitOne K t (.type Ty)=some b∧Q (.bl b) H1
theorem vU(hg:C6 X "isinstance")(hm:X.mg "isinstance" = none)(Ub:C6 X T)(T5:X.mg T=none)(TK:bootBuiltins T=some (.type Ty))(he:PE X x te)(hn:T ≠ "__name__" := by decide)(Uh:(T ==("__debug__" : Str))=false:=by decide)
  (hs:starEach [x,.Name T p2] X.env=(false,eval x X.env)::starEach [.Name T p2] X.env:=by rfl) (wI:starEach [.Name T p2] X.env=[(false,eval (.Name T p2) X.env)]:=by rfl)
  (iM:(backTo pos (starEach [.Name T p2] X.env)).any (·.1)=false:=by rfl) :
  PE X (.Call (.Name "isinstance" p) [x,.Name T p2] [] pos) (tQ X.K Ty te):=by
 have c:FN X (.builtin "isinstance") (λxs H Q=>∃v,xs=[v,.ty Ty]∧∃t b,Fm X.K H v t∧W.kitOne X.K t (.type Ty)=some b∧Q (.bl b) H):=by
  intro v0 s σ H xs us Q I r h;let⟨v,rfl,⟨t,b,ty,e,q⟩⟩:=h;let⟨u,w',rfl,ru,tR⟩:=vals2 r;cases(show w'=Value.type Ty from tR);exact acf I ru ty e λtk=>Ψ2 (.bl b) H ⟨I.tok tk,rfl,q⟩
 have pa:PA X [x,.Name T p2] (W9 te (W9 (J7 (.ty Ty)) Pc)):=WZ he (WZ (nh Ub T5 TK rfl hn Uh) nH wI) hs;exact pZ (p:=p) (pos:=pos) c hg hm O3 pa (by decide) (by decide) hs iM
end
def Callee(P:Program)(w:World)(K:W.Frag)(mg:KK)(base:Heap)(x:Str)(k:Nat)(ps:List Str)(sp:Dc):Prop:=
 ∃f fd,bJ P w K mg base BK k f fd ps sp∧mg x=some (.ref f)∧W.keepIn K (.ref f)=true∧Binds K fd ps []
section
variable {x: Str}{k j: Nat}{ps: List Str}{sp: Dc}{e: Expr}{es: List Expr}{t: Cm}
theorem ac6(c:Callee X.prog X.w X.K X.mg X.base x k ps sp)(hr:dH j X.A)(hk:k≤j)(hg:C6 X x)(ha:PA X (e::es) t)(oX:(x ==("__debug__" : Str))=false:=by decide)
  (he:starEach (e::es) X.env=(false,eval e X.env)::starEach es X.env:=by rfl) (iM:(backTo pos (starEach es X.env)).any (·.1)=false:=by rfl):PE X (.Call (.Name x p) (e::es) [] pos) (mL sp [] IG t):=by
 let⟨f,fd,F,m,kp,b⟩:=c;exact zR F (hr.mono hk) hg m kp b .nil aaz ha oX he iM
end
section
theorem ack{p:Str×NameKind}(h:p∈(relabel scope env).names):∃q∈scope.names,q.1=p.1∧(p.2=q.2∨(q.2=.free∧p.2=.cell)):=by
 let⟨q,hq,e⟩:=aaV.mp (show p∈scope.names.map _ from h);exact⟨q,hq,?_⟩;obtain⟨n,k⟩:=q;dsimp only at e;split at e
 ·rename_i c
  subst e;exact⟨rfl,.inr ⟨?_,rfl⟩⟩;simp only[DN,abl]at c;exact c.1.1
 ·subst e
  exact⟨rfl,.inl rfl⟩
theorem xx(hk:scope.kind=.function)(hn:∀y∈scope.names,y.2≠.free∧y.2≠.cell)(hl:∀y∈scope.names,y.2=.local→scope.names.lookup y.1=some .local):fv X scope [] own [] where
 Fy:=closureFor_none λy hy=>(hn y hy).1
 cell:=λy hy=>(hn y hy).2
 kind:=hk
 names:=hl
 sub:=λx c h=>nomatch h
 has:=λp hp h=>by
  let⟨q,hq,e1,e2⟩:=ack hp;have n:=hn q hq;rcases e2 with e2|⟨e2,_⟩
  ·rw[e2]at h
   rcases h with h|h
   ·exact absurd h n.2
   ·exact absurd h n.1
  ·exact absurd e2 n.1
 IA:=λp hp=>nomatch hp
def wF(cells:List (Str×Addr)):List (Str×Addr)→Prop
 |[]=>True
 |p::r=>cells.lookup p.1=some p.2∧wF cells r
theorem wF.mem{cells:List (Str×Addr)}:∀{cl:List (Str×Addr)},wF cells cl→∀p∈cl,cells.lookup p.1=some p.2
 |[],_,p,h=>nomatch h
 |q::r,h,p,hp=>by
  rcases aam.mp hp with rfl|hp
  ·exact h.1
  ·exact wF.mem h.2 p hp
def rk(X:Cx)(scope:Scope):List (Nat×Str)→Prop
 |[]=>True
 |p::r=>(X.N[p.1]?=some p.2∧X.env.kindOf p.2=some .cell∧(relabel scope X.env).names.lookup p.2=some .cell)∧rk X scope r
theorem rk.mem:∀{cap:List (Nat×Str)},rk X scope cap→∀p∈cap,X.N[p.1]?=some p.2∧X.env.kindOf p.2=some .cell∧(relabel scope X.env).names.lookup p.2=some .cell
 |[],_,p,h=>nomatch h
 |q::r,h,p,hp=>by
  rcases aam.mp hp with rfl|hp
  ·exact h.1
  ·exact rk.mem h.2 p hp
theorem kC{cl:List (Str×Addr)}{cap:List (Nat×Str)}(hk:scope.kind=.function)(hn:∀y∈scope.names,y.2≠.cell)(hl:∀y∈scope.names,y.2=.local→scope.names.lookup y.1=some .local)
  (hc:closureFor scope X.env=pure cl) (ha:wF X.env.cells cl) (hh:((relabel scope X.env).names.all λp=>!(p.2 == .cell||p.2 == .free)||(cl.lookup p.1).isSome)=true) (Uk:rk X scope cap):fv X scope cl own cap where
 Fy:=hc
 cell:=hn
 kind:=hk
 names:=hl
 sub:=λx c h=>ha.mem _ (mem_of_lookup h)
 has:=λp hp h=>by
  have q:=aaS.mp hh p hp;rcases h with h|h<;>· rw[h]at q;simpa using q
 IA:=λp hp=>by
  let⟨h1,h2,h3⟩:=Uk.mem p hp;exact⟨h1,.inr (.inl h2),by rw[h2];decide,by rw[h3];decide,.inl h3⟩
end
theorem To:bootBuiltins "bool" = some (.type "bool"):=by decide +kernel
theorem Jh:bootBuiltins "int" = some (.type "int"):=by decide +kernel
theorem J5:bootBuiltins "str" = some (.type "str"):=by decide +kernel
theorem EJ:bootBuiltins "tuple" = some (.type "tuple"):=by decide +kernel
theorem acC:bootBuiltins "list" = some (.type "list"):=by decide +kernel
end L2
namespace L2
open PySem PySem.Spec PyProof.Rows PySem.W
variable {h:Heap}{H: A7}{v0:ac}{σ σ1:St}{H1:A7}{s1 s2:Shared}{b a:Addr}{o:Obj}{P:Program}{w:World}{x y: Str}{j: Nat}{pos np rP: Pos}{D:Ends}{e:Value}{X: Cx}{t: Cm}{s: Shared}{body gZ: List Stmt}{b₀: Stmt}{Cy: Addr}{tb:(St→BG)→Bu}{ts: Bu}
theorem vM{K:Frag}{C:Addr}{Ka:List Value}{newId:String}(X:K.In h)(q:excIn K C Ka newId=true):
  ∃bm N nm q bs hdct sn sub ab col dd k0 k1 k2 k3 k5 mN,h.get? C=some (excClassObj nm q C N bs bm hdct sn sub ab col dd k0 k1 k2 k3 k5 newId)∧h.Ns N mN∧mN "__init__" = none∧OwnTail h Ka bm:=by
 unfold excIn at q;split at q
 ·rename_i dd cd sl ho
  split at q
  ·rename_i C' bm k0 k1 k2 k3 n k5 hm hs
   simp only[DN,abl,Bool.not_eq_true']at q;let⟨⟨⟨⟨⟨rfl,rfl⟩,Qa⟩,ht⟩,cN⟩,RG⟩:=q;obtain⟨nm,bs,mro,ns,qn,hd,sn,sub,ab,col,del⟩:=cd;dsimp only at hm Qa cN RG;subst hm Qa;have X0:sl=#[k0,k1,k2,k3,some (.builtin n),k5]:=by
    obtain⟨l⟩:=sl;simp only at hs;rw[hs]
   subst X0;exact⟨bm,ns,nm,qn,bs,hd,sn,sub,ab,col,dd,k0,k1,k2,k3,k5,_,X _ _ ho,.of_isNs (isNs_of_in X cN),nsMap_none_of_in X cN RG,tail_of_in X ht⟩
  ·cases q
 ·cases q
structure QY(fs:List Addr)(H H':A7)(h B h':Heap):Prop where
 keep:∀b o,h.get? b=some o→H b=none→b∉fs→B.get? b=some o
 slot:∀b o,h.get? b=some o→H b=none→b∈fs→∃sl,h'.get? b=some {o with slots:=sl}
 free:∀b o,h.get? b=some o→H b=none→H' b=none
 there:∀b o,h.get? b=some o→b∉fs→∃o',B.get? b=some o'
 j6:∀b xs,H b=some (.tup xs)→H' b=some (.tup xs)
 jY:∀b o u,H b=some (.frz o u)→H' b=some (.frz o u)
 kc:∀b ps,H b=some (.tbl ps)→∃more,H' b=some (.tbl (ps++more))
theorem QY.un{fs:List Addr}{H H':A7}{B h':Heap}(u:QY fs H H' h B h')(st:B.StaysIn h')(hf:∀b∈fs,H b=none):Un fs [] H H' h h':=
 ⟨λb o e n hb _=>st b o (u.keep b o e n hb),λb o e n hb _=>u.slot b o e n hb,λb o e n _=>u.free b o e n,λb o e _=>by
  by_cases hb:b∈fs
  ·let⟨sl,q⟩:=u.slot b o e (hf b hb) hb
   exact⟨_,q⟩
  ·let⟨o',q⟩:=u.there b o e hb
   exact⟨o',st b o' q⟩,u.j6,u.jY,u.kc⟩
def DC(P:Program)(w:World):Gy:=λouter H s E e s'=>∃(x:Addr) (C a0:Value) (H':A7) (B:Heap),e=.ref x∧s'.os=s.os∧AllBare s'.gens∧
 Heap.FlyingW B outer x C a0 s'.heap∧oM P w H' B∧QY (DV outer) H H' s.heap B s'.heap∧E C none H'
def Raises(X:Cx)(E:BG):Prop:=∀(v0:ac) (σ:St) (H:A7) (s:Shared) (h':Heap) (x:Addr) (C:Value) (vs:List Value),Inv X v0 σ H s→Heap.MadeExcOf s.heap h' x C vs→E C none H→X.xe (.ref x) {s with heap:=h'}
section
variable {C: Addr}{Ka: List Value}{B newId yr: String}{eE: Pos}{e₀: Expr}{v4: List Expr}{E: BG}
def uk(E:BG)(C:Addr)(t:Cm):Bu:=λ_ σ H=>t σ H λvs H1=>vs.length≤sizeLine∧E (.ref C) none H1
theorem tZ(hc:X.calm=true)(hg:C6 X x)(hm:X.mg x=some (.ref C))(hx:excIn X.K C Ka newId=true)(FB:ExcBaseFacts B newId yr Ka)(ha:PA X (e₀::v4) t)(hE:Raises X E)
  (hd:(x ==("__debug__" : Str))=false:=by decide) (he:starEach (e₀::v4) X.env=(false,eval e₀ X.env)::starEach v4 X.env:=by rfl) (iM:(backTo eE (starEach v4 X.env)).any (·.1)=false:=by rfl) :
  PS X (.Raise (some (.Call (.Name x np) (e₀::v4) [] eE)) none pos) (uk E C t):=by
 exact .mk ?_;intro v0 s σ H D I h;obtain⟨bm,N,nm,q,bs,hdct,sn,sub,ab,col,dd,k0,k1,k2,k3,k5,mN,hC,hN,RG,T⟩:=vM I.mod.JJ hx;exact wpAny_Raise_call_subT (C:=C) (nm:=nm) (q:=q) (N:=N) (bs:=bs) (bm:=bm) (hdct:=hdct) (sn:=sn) (sub:=sub) (ab:=ab) (col:=col) (dd:=dd) (k0:=k0) (k1:=k1) (k2:=k2) (k3:=k3) (k5:=k5)
  FB (mN:=mN) (T.hasType FB.hasBase) (I.ok.hd hc) (by rw[he];show(false||(backTo eE (starEach v4 X.env)).any (·.1))=false;rw[iM];rfl) RG (Jj I hg hm ⟨rfl,?_⟩ hd)
 have hA:=ha eE v0 s σ H _ I h;rw[he]at hA ⊢;exact Calls.evalArgs_plain (AV hA λus s2 ξ=>Ξ24 ξ λvs H1 I1 r1 hz q1=>?_);exact⟨rfl,by rw[←r1.length];exact hz,I1.bk _ _ hC,hN.keeps I1.bk,T.keeps I1.bk,λh' e hM=>hE v0 σ H1 s2 h' e _ _ I1 hM q1⟩
end
section
variable {P: Program}{w: World}{K: W.Frag}{mg: Str→Option Value}{base: Heap}{N: List Str}{qual: Str}{scope: Scope}{f: Addr}{cd: Value}{A: Around}{outer: List Env}{E: BG}
abbrev Ii(P:Program)(w:World)(K:W.Frag)(mg:KK)(base:Heap)(N:List Str)(qual:Str)(scope:Scope)(f:Addr)(cd:Value)(A:Around)(outer:List Env)(s:Shared)(H:A7)(E:BG):Cx:=
 JW (DC P w) P w K mg base N qual scope f cd A outer s H E
theorem Qr(I:Inv (Ii P w K mg base N qual scope f cd A outer s H E) v0 σ H1 s1)(e:s.heap.get? b=some o)(hb:b∉DV outer):
  b∉DV (envOfC qual scope s.heap.objs.size f cd::outer):=λhm=>by
 rcases aam.mp (I.tN b hm)with z|z
 ·exact absurd (BZ e) (by rw[z];exact Ib _)
 ·exact hb z
theorem lY(I:Inv (Ii P w K mg base N qual scope f cd A outer s H E) v0 σ H1 s1)(e:s.heap.get? b=some o)(hb:b∈DV outer):∀vs,o.data≠.fields vs:=by
 let⟨_,⟨o',nc,E2⟩⟩:=I.ok.lL.mem hb;have e':s.heap.get? b=some o':=nc;rw[e]at e';cases e';exact E2
theorem LP:Raises (Ii P w K mg base N qual scope f cd A outer s H E) E:=by
 intro v0 σ H1 s1 h' x C vs I M hE;show wpAny (model P w) (A.deeper (envOfC qual scope s.heap.objs.size f cd)) (leaving (envOfC qual scope s.heap.objs.size f cd) (.ref x)) (λ_ AJ=>DC P w outer H s E (.ref x) AJ) (λe' AJ=>DC P w outer H s E e' AJ) {s1 with heap:=h'}
 have Yj:∀Fj∈envOfC qual scope s.heap.objs.size f cd::outer,∀a,Fj.frame=some a→a∈DV (envOfC qual scope s.heap.objs.size f cd::outer):=λFj he a ha=>abz.mpr ⟨Fj,he,ha⟩;exact wpAny_leaves_madeW (base:=hideAll s1.heap (DV (envOfC qual scope s.heap.objs.size f cd::outer))) (h:=s1.heap) I.ok.frames rfl (λb o q=>of_hideAll _ q) (funFrames_hide I.stack Yj) M λh2 t x1 x2 x3 x4=>?_;have nf:∀b u,H1 b=some u→b∉DV (envOfC qual scope s.heap.objs.size f cd::outer):=λb u q hm=>by
  have z:=I.mO b hm;rw[q]at z;cases z
 exact Ψ5 x C (.ref t) H1 _ ⟨rfl,I.os,I.bare,x1,λa o q=>?_,⟨λb o q n hb=>?_,λb o q n hb=>?_,λb o q n=>?_,λb o q hb=>?_,I.base.j6,I.base.jY,I.base.kc⟩,hE⟩
 ·exact(I.cN a o q).rE (λb u hb z=>hideAll_get _ z ?_) (λ_ z=>z) λ_ _ z=>z
  rcases hb with rfl|hb
  ·exact nf _ _ q
  ·exact nf _ _ hb
 ·exact hideAll_get _ (I.base.keep b o q n hb (by exact Bx)) (Qr I q hb)
 ·let⟨sl,z⟩:=I.base.slot b o q n hb (by exact Bx)
  let⟨Jp,z2⟩:=x4 b _ (M.keeps _ _ z) (have fd:=lY I q hb;λvs=>fd vs);exact⟨Jp,z2⟩
 ·exact I.base.free b o q n (by exact Bx)
 ·let⟨o',z⟩:=I.base.there b o q (by exact Bx)
  exact⟨o',hideAll_get _ z (Qr I q hb)⟩
theorem Dl:Passes (DC P w) (Ii P w K mg base N qual scope f cd A outer s H E) E:=by
 intro v0 σ H1 s1 e s2 I h;let⟨x,C,a0,H',B,rfl,os,bare,fl,cN,u,hE⟩:=h;show wpAny (model P w) (A.deeper (envOfC qual scope s.heap.objs.size f cd)) (leaving (envOfC qual scope s.heap.objs.size f cd) (.ref x)) (λ_ AJ=>DC P w outer H s E (.ref x) AJ) (λe' AJ=>DC P w outer H s E e' AJ) s2
 exact wpAny_leaves_onW I.ok.frames rfl fl λh2 f2 up=>?_;exact Ψ5 x C a0 H' B ⟨rfl,os.trans I.os,bare,f2,cN,⟨λb o q n hb=>?_,λb o q n hb=>?_,λb o q n=>?_,λb o q hb=>?_,λb xs q=>u.j6 b xs (I.base.j6 b xs q),λb o v q=>u.jY b o v (I.base.jY b o v q),λb ps q=>?_⟩,hE⟩
 ·exact u.keep b o (I.base.keep b o q n hb (by exact Bx)) (I.base.free b o q n (by exact Bx)) (Qr I q hb)
 ·let⟨sl,z⟩:=I.base.slot b o q n hb (by exact Bx)
  have hm:b∈DV (envOfC qual scope s.heap.objs.size f cd::outer):=by
   let⟨Fj,he,ha⟩:=abz.mp hb;exact abz.mpr ⟨Fj,GO _ he,ha⟩
  let⟨Jp,z2⟩:=u.slot b _ z (I.base.free b o q n (by exact Bx)) hm;let⟨W6,z3⟩:=up b _ z2 (have fd:=lY I q hb;λvs=>fd vs);exact⟨W6,z3⟩
 ·let⟨o',z⟩:=I.base.there b o q (by exact Bx)
  exact u.free b o' z (I.base.free b o q n (by exact Bx))
 ·let⟨o',z⟩:=I.base.there b o q (by exact Bx)
  exact u.there b o' z (Qr I q hb)
 ·let⟨m1,z1⟩:=I.base.kc b ps q
  let⟨m2,z2⟩:=u.kc b _ z1;exact⟨m1++m2,by rw[z2,Array.append_assoc]⟩
theorem iR:PassesOwn (model P w) (Ii P w K mg base N qual scope f cd A outer s H E).A (Ii P w K mg base N qual scope f cd A outer s H E).env (Ii P w K mg base N qual scope f cd A outer s H E).xe:=PassesOwn.leaving
end
theorem eG.Xh{K:W.Frag}{mg:KK}{base:Heap}{x qual:Str}{st:Stmt}{f:Addr}{fd:FuncData}{N ps:List Str}{k:Nat}{sp:Dc}(F:eG K x qual st f fd)(S:B6 N ps (Am st))(len:∀vs H Q E,sp vs H Q E→vs.length=ps.length)
  (ng:∀(cO:Value) (A:Around) (outer:List Env) (s:Shared) (H:A7) (vs:List V) (Q:Ar) (E:BG),dH k (A.deeper (envOfC qual (Am st) s.heap.objs.size f cO))→sp vs H Q E→
   ∃t,jU (Ii P w K mg base N qual (Am st) f cO A outer s H E) (GL st) t∧t {nx:=λ_ H'=>Q .non H',rt:=Q} (start N vs) H):bJ P w K mg base (DC P w) (k+1) f fd ps sp:=by
 let⟨oc,od,DQ,doc,pm,an,cO,ct,zG,rfl,lk,yw⟩:=F.ex;exact pP lk yw S len λA outer s H vs Q E hr wH=>ng cO A outer s H vs Q E hr wH
def eh(P:Program)(w:World)(K:W.Frag)(mg:KK)(base:Heap)(x:Str)(k:Nat)(ps:List Str)(sp:Dc):Prop:=
 ∃f fd,bJ P w K mg base (DC P w) k f fd ps sp∧mg x=some (.ref f)∧W.keepIn K (.ref f)=true∧Binds K fd ps []
theorem cZ.got{H:A7}{o:HO}(x:cZ P w H h a o):∃u,h.get? a=some u:=by
 cases o with
 |lst xs=>let⟨_,⟨_,_,_,e⟩⟩:=x;exact⟨_,e⟩
 |tup xs=>let⟨_,⟨_,_,⟨o,e,_⟩⟩⟩:=x;exact⟨_,e⟩
 |dK lz=>let⟨_,_,⟨_,_,⟨o,_,_,e,_⟩⟩⟩:=x;exact⟨_,e⟩
 |dT lz=>let⟨_,_,⟨_,_,⟨o,_,_,e,_⟩⟩⟩:=x;exact⟨_,e⟩
 |set S n=>let⟨o,_,_,_,e,_⟩:=x;exact⟨_,e⟩
 |ins C dx fs=>let⟨_,_,_,e,_⟩:=x;exact⟨_,e⟩
 |own y=>exact x
 |xd fs=>let⟨_,⟨_,_,_,e,_⟩,_⟩:=x;exact⟨_,e⟩
 |rng lo hi=>let⟨_,_,_,e⟩:=x;exact⟨_,e⟩
 |frz ob u=>let⟨e,_⟩:=x;exact⟨_,e⟩
 |tbl ps=>exact⟨_,(show h.get? a=some _ from x)⟩
 |met f y=>exact⟨_,(show h.get? a=some _ from x)⟩
 |ext φ=>let⟨_,e,_⟩:=x;exact e
def excAt(x:Addr)(C:Value):Heap→Prop:=λh=>∃ob,h.get? x=some ob∧ob.cls=C
section
variable {v0: List (Addr×Obj)}{σ: St}
theorem Inv.N3{φ:Heap→Prop}(I:Inv X v0 σ H s)(hn:H a=none)(h0:∀b o,X.s₀.heap.get? b=some o→b∉X.ex→b≠a)(hL:a≠X.env.locals)(hC:∀x c,X.env.cells.lookup x=some c→c≠a)
  (hp:∀p∈X.pn++v0,p.1≠a) (new:cZ X.prog X.w (Aa H a (.ext φ)) s.heap a (.ext φ)):Inv X v0 σ (Aa H a (.ext φ)) s where
 ok:=I.ok
 os:=I.os
 bare:=I.bare
 base:=⟨I.base.keep,I.base.slot,λb o e n hx=>by rw[BA (h0 b o e hx)];exact I.base.free b o e n hx,I.base.there,
  λb xs q=>by have z:=I.base.j6 b xs q;rw[BA (FA z hn)];exact z,λb o u q=>by have z:=I.base.jY b o u q;rw[BA (FA z hn)];exact z,
  λb ps q=>by let⟨m,z⟩:=I.base.kc b ps q;exact⟨m,by rw[BA (FA z hn)];exact z⟩⟩
 loc:=I.loc
 cell:=I.cell
 free:=by rw[BA hL.symm];exact I.free
 gh:=λx c e=>by rw[BA (hC x c e)];exact I.gh x c e
 pin:=λp VX=>by
  let⟨a1,a2,a3⟩:=I.pin p VX;exact⟨a1,by rw[BA (hp p VX)];exact a2,a3⟩
 cN:=λb o e=>by
  by_cases hb:b=a
  ·subst hb;rw[D3]at e;cases e;exact new
  ·rw[BA hb]at e
   exact(I.cN b o e).rE (λ_ _ _ q=>q) (λc q=>by rw[BA (FA q hn)];exact q) λc xs q=>by rw[BA (FA q hn)];exact q
 len:=I.len
abbrev Cx.tr(X:Cx)(E':xz)(pn:ac):Cx:={X with xe:=E',pn:=pn}
abbrev Cx.su(X:Cx)(x:Addr):Cx:={X with A:=X.A.mark (some (.ref x)),calm:=false,xe:=λ_ _=>False}
theorem Cx.Ok.tr(ok:X.Ok)(E':xz)(pn:ac):(X.tr E' pn).Ok:=
 ⟨ok.mod,ok.kind,ok.glob,ok.blt,ok.above,ok.inj,ok.has,ok.J3,ok.hd,ok.frames,ok.K5,ok.M8,ok.bs,ok.FH,ok.vJ,ok.uA,ok.lL,ok.F0⟩
theorem Cx.Ok.su(ok:X.Ok)(x:Addr):(X.su x).Ok:=
 ⟨ok.mod,ok.kind,ok.glob,ok.blt,ok.above,ok.inj,ok.has,ok.J3,(λz=>absurd (show false=true from z) (by decide)),ok.frames,ok.K5,ok.M8,ok.bs,ok.FH,ok.vJ,ok.uA,ok.lL,ok.F0⟩
theorem Inv.tr(I:Inv X v0 σ H s)(E':xz):Inv (X.tr E' (X.pn++v0)) [] σ H s:=
 ⟨I.ok.tr E' _,I.os,I.bare,I.base,I.loc,I.cell,I.free,I.gh,λp hp=>I.pin p (by simpa using hp),I.cN,I.len⟩
theorem Inv.rD{E':xz}{oB:ac}(ok:X.Ok)(I:Inv (X.tr E' (X.pn++v0)) oB σ H s):Inv X v0 σ H s:=
 ⟨ok,I.os,I.bare,I.base,I.loc,I.cell,I.free,I.gh,λp hp=>I.pin p (Iz _ hp),I.cN,I.len⟩
theorem Inv.su(I:Inv X v0 σ H s)(x:Addr):Inv (X.su x) v0 σ H s:=⟨I.ok.su x,I.os,I.bare,I.base,I.loc,I.cell,I.free,I.gh,I.pin,I.cN,I.len⟩
theorem Inv.vc{x:Addr}(ok:X.Ok)(I:Inv (X.su x) v0 σ H s):Inv X v0 σ H s:=⟨ok,I.os,I.bare,I.base,I.loc,I.cell,I.free,I.gh,I.pin,I.cN,I.len⟩
theorem PN{M:Model}{A:Around}{E:xz}{j:Nat}{n:Str}{pos:Pos}{Q:Unit→Shared→Prop}(I:Inv X v0 σ H s)(hN:X.N.Nodup)(hi:X.N[j]?=some n)(hk:X.env.scope.names.lookup n=some .local)
  (h:∀s',Inv X v0 (σ.set j none) H s'→Q () s'):wpAny M A (do bindName X.env n .none;unbindBehindTheSuite X.env n pos) Q E s:=by
 let⟨m,hn,hl⟩:=id I.loc;have MS:(X.env.scope.kind == .class||(X.env.scope.kind == .module&&X.env.locals != X.env.globals))=false:=by rw[I.ok.kind];rfl
 have Yh:j<σ.length:=by rw[I.len];exact(aa9.mp hi).1
 exact wpAny_nameGoes_keeps hk hn MS λh' v MH hs=>h _ ?_;have nL:∀b o,X.s₀.heap.get? b=some o→b≠X.env.locals:=λb o e=>DU (EN (BZ e) I.ok.above);exact⟨I.ok,I.os,I.bare,⟨λb o e n' hb hx=>(hs.2 b (nL b o e)).trans (I.base.keep b o e n' hb hx),λb o e n' hb hx=>?_,I.base.free,λb o e hx=>?_,I.base.j6,I.base.jY,I.base.kc⟩,⟨_,MH,λi y v' e1 e2 e3=>?_⟩,λy c e=>?_,I.free,I.gh,λp hp=>?_,λb ob e=>?_,by simpa using I.len⟩
 ·let⟨sl,e1⟩:=I.base.slot b o e n' hb hx
  exact⟨sl,(hs.2 b (nL b o e)).trans e1⟩
 ·let⟨o',e1⟩:=I.base.there b o e hx
  exact⟨o',(hs.2 b (nL b o e)).trans e1⟩
 ·by_cases hj:i=j
  ·subst hj
   rw[SU Yh]at e2;cases e2
  ·rw[UM (IC hj)]at e2
   let⟨u',r',q⟩:=hl i y v' e1 e2 e3;exact⟨u',r',?_⟩;rcases q with⟨k,e⟩|⟨k,c,e,z⟩
   ·exact .inl ⟨k,?_⟩
    have ny:y≠n:=λe=>hj (fm hN e1 (e ▸ hi));simp[ny,e]
   ·exact .inr ⟨k,c,e,z.sameBut hs (I.Iv y c e)⟩
 ·let⟨w',z⟩:=I.cell y c e
  exact⟨w',z.sameBut hs (I.Iv y c e)⟩
 ·let⟨e,n',ne,nf,d⟩:=I.pin p hp
  exact⟨(hs.2 p.1 ne).trans e,n',ne,nf,d⟩
 ·exact(I.cN b ob e).rE (λc w' hc q=>(hs.2 c ?_).trans q) (λ_ q=>q) λ_ _ q=>q
  rintro rfl;rcases hc with z|z
  ·rw[←z,I.free]at e;cases e
  ·rw[I.free]at z;cases z
end
section
variable {n: Str}
def dD(K:W.Frag)(Cy:Addr)(j:Nat)(ts:Bu)(D:Ends):St→BG:=λσ C _ H'=>exmOne K C (.ref Cy)=some true∧∀x,H' x=none→
 ts {nx:=λσ2 H2=>D.nx (σ2.set j none) H2,rt:=D.rt,bk:=λσ2 H2=>D.bk (σ2.set j none) H2,ct:=λσ2 H2=>D.ct (σ2.set j none) H2} (σ.set j (some (.ref x))) (Aa H' x (.ext (excAt x C)))
def aci(K:W.Frag)(Cy:Addr)(j:Nat)(tb:(St→BG)→Bu)(ts:Bu):Bu:=λD σ H=>tb (dD K Cy j ts D) D σ H
def Nk(X:Cx)(v0:ac)(D:Ends)(hs:List ExceptHandler):xz:=λe s₁=>
 wpAny (model X.prog X.w) X.A (noteFrame e X.env) (λ_ s₂=>wpAny (model X.prog X.w) X.A (setFlight e none) (λ_ s₃=>wpAny (model X.prog X.w) X.A (handleBy e X.env hs) (SP X v0 D) X.xe s₃) X.xe s₂) X.xe s₁
theorem abN(ok:X.Ok)(oJ:X.stack=X.env::X.outer)(yv:X.env.frame=some X.env.locals)(hy:C6 X y)(EX:X.mg y=some (.ref Cy))(hN:X.N.Nodup)(hj:X.N[j]?=some n)(hl:X.env.scope.names.lookup n=some .local)
  (hs:∀x,jU (X.su x) (b₀::gZ) ts) (hd:(y ==("__debug__" : Str))=false)      (J1:Inv X v0 σ1 H1 s1) (MR:DC X.prog X.w X.stack H1 s1 (dD X.K Cy j ts D σ1) e s2) :
  Nk X v0 D [.ExceptHandler (some (.Name y np)) (some n) (b₀::gZ) rP] e s2:=by
 let⟨x,C,a0,H',B,rfl,os,bare,fl,cN,u,hm,hw⟩:=MR;have MJ:X.A.frames=some (X.env::X.outer):=by rw[←oJ];exact ok.frames
 have yA:Heap.FlyingW B (X.env::X.outer) x C a0 s2.heap:=by rw[←oJ];exact fl
 have data:∀b∈DV X.stack,∀o,s1.heap.get? b=some o→∀vs,o.data≠.fields vs:=λb hb o q=>by
  let⟨_,⟨o',nc,E2⟩⟩:=J1.stack.mem hb;rw[q]at nc;cases nc;exact E2
 have Pp:∀h5:Heap,B.StaysIn h5→s2.heap.UpToSlots h5→Inv X v0 σ1 H' {s2 with heap:=h5}:=λh5 st up=>by
  have u5:QY (DV X.stack) H1 H' s1.heap B h5:=⟨u.keep,λb o q n' hb=>by
   let⟨sl,z⟩:=u.slot b o q n' hb;let⟨Jp,z2⟩:=up b _ z (have dd:=data b hb o q;λvs=>dd vs);exact⟨Jp,z2⟩,u.free,u.there,u.j6,u.jY,u.kc⟩
  exact J1.FF (s':={s2 with heap:=h5}) (ch:=[]) os (u5.un st J1.mO) (cN.kept st) bare (λb hb=>nomatch hb)
 have RC:B.get? x=none:=yA.2.1;have Hx:H' x=none:=by
  cases q:H' x with
  |none=>rfl
  |some o=>
   let⟨z,hz⟩:=(cN x o q).got;rw[RC]at hz;cases hz
 exact wpAny_looks_onW MJ yv yA λh4 EZ N1=>?_;exact wpAny_landsW EZ λh5 HY N0=>?_;have Rp:∀o,s1.heap.get? x=some o→False:=λo q=>by
  by_cases T6:x∈DV X.stack
  ·rw[oJ]at T6
   let⟨_,⟨o',nc,E2⟩⟩:=HY.2.2.1.mem T6;let⟨oe,vs,_,_,_,he,_,Ug,_⟩:=HY.2.2.2;rw[nc]at he;cases he;exact E2 vs Ug
  ·let⟨o',z⟩:=u.there x o q T6
   rw[RC]at z;cases z
 have I5:=Pp h5 HY.1 (N1.trans N0);let⟨ob,T4,JP⟩:=HY.there;have LT:Looks (model X.prog X.w) h5 (typeOf (.ref x)) C:=by rw[←JP];exact(Looks.ld T4).andThen .now
 exact wpAny_handleBy_cons (codeAny_handlers_test (Jj (X:=X.su x) (I5.su x) hy EX ?_ hd)) (by intro q;cases q);exact(exm_one I5.kN LT hm).here ?_;exact codeAny_handlers_suite_as ?_;exact lands_againW HY λh6 RU Sj=>?_;have I6:=Pp h6 RU.1 ((N1.trans N0).trans Sj);let⟨Vs,P4,T2⟩:=RU.there;have It:Inv X v0 σ1 (Aa H' x (.ext (excAt x C))) {s2 with heap:=h6}:=by
  exact I6.N3 Hx (λb o q XN z=>?_) (λz=>?_) (λx' c q z=>?_) (λp hp z=>?_) ⟨⟨Vs,P4,T2⟩,⟨Vs,P4⟩,λh1 h2 ξ=>Ξ12 ξ λo a b k=>⟨o,k o a,b⟩⟩
  ·subst z
   let⟨o',z⟩:=J1.base.there _ o q XN;exact Rp o' z
  ·let⟨m,⟨o,_,_,ho,_⟩,_⟩:=J1.loc
   rw[←z]at ho;exact Rp o ho
  ·let⟨v,o,ho,_⟩:=J1.cell x' c q
   rw[z]at ho;exact Rp o ho
  ·have q:=(J1.pin p hp).1
   rw[z]at q;exact Rp _ q
 exact S0 (X:=X.su x) (v:=.ref x) (It.su x) hN hj (.inl hl) rfl (λs7 I7=>?_) (.inr hl);exact Dn ((hs x).run v0 s7 _ _ _ I7 (hw x Hx)) (λf s8 q=>?_) (λ_ _ z=>z.elim);cases f with
 |next=>obtain⟨σ2,H2,I8,q⟩:=q;exact PN (Inv.vc ok I8) hN hj hl λs9 I9=>Ψ2 _ _ ⟨I9,q⟩
 |brk=>obtain⟨σ2,H2,I8,q⟩:=q;exact PN (Inv.vc ok I8) hN hj hl λs9 I9=>Ψ2 _ _ ⟨I9,q⟩
 |cont=>obtain⟨σ2,H2,I8,q⟩:=q;exact PN (Inv.vc ok I8) hN hj hl λs9 I9=>Ψ2 _ _ ⟨I9,q⟩
 |ret v=>obtain⟨v',σ2,H2,I8,r,q⟩:=q;exact PN (Inv.vc ok I8) hN hj hl λs9 I9=>Ψ3 v' _ _ ⟨I9,r,q⟩
theorem y7(oJ:X.stack=X.env::X.outer)(yv:X.env.frame=some X.env.locals)(hy:C6 X y)(EX:X.mg y=some (.ref Cy))(hN:X.N.Nodup)(hj:X.N[j]?=some n)(hl:X.env.scope.names.lookup n=some .local)
  (hb:∀(E':xz) (pn:ac) (W:St→BG),(∀v0 σ H s e s',Inv (X.tr E' pn) v0 σ H s→DC X.prog X.w X.stack H s (W σ) e s'→E' e s')→jU (X.tr E' pn) body (tb W))
  (hs:∀x,jU (X.su x) (b₀::gZ) ts) (hd:(y ==("__debug__" : Str))=false:=by decide) :
  PS X (.Try body [.ExceptHandler (some (.Name y np)) (some n) (b₀::gZ) rP] [] [] pos) (aci X.K Cy j tb ts):=by
 exact .mk ?_;intro v0 s σ H D I h;have ok:=I.ok;exact wpAny_Try_except ?_;have fin:=(hb (Nk X v0 D [.ExceptHandler (some (.Name y np)) (some n) (b₀::gZ) rP]) (X.pn++v0) (dD X.K Cy j ts D) (λoB σ1 H1 s1 e s2 J MR=>abN ok oJ yv hy EX hN hj hl hs hd (Inv.rD ok J) MR)).run [] s σ H D (I.tr _) h;exact Dn fin (λf s1 q=>?_) λe s1 q=>q;cases f with
 |next=>
  obtain⟨σ',H',I',q⟩:=q;exact Mv ⟨σ',H',Inv.rD ok I',q⟩
 |brk=>obtain⟨σ',H',I',q⟩:=q;exact Ψ2 σ' H' ⟨Inv.rD ok I',q⟩
 |cont=>obtain⟨σ',H',I',q⟩:=q;exact Ψ2 σ' H' ⟨Inv.rD ok I',q⟩
 |ret v=>obtain⟨v',σ',H',I',r,q⟩:=q;exact Ψ3 v' σ' H' ⟨Inv.rD ok I',r,q⟩
end
section
variable {k: Nat}{ps: List Str}{sp: Dc}{p: Pos}{e: Expr}{es: List Expr}{W: St→BG}
def ab6(sp:Dc)(W:St→BG)(t:Cm):Ah:=λσ H Q=>t σ H λvs H1=>sp vs H1 Q (W σ)
def Jz(X:Cx)(W:St→BG):Prop:=∀(v0:ac) (σ:St) (H:A7) (s:Shared) (e:Value) (s':Shared),Inv X v0 σ H s→DC X.prog X.w X.stack H s (W σ) e s'→X.xe e s'
theorem acm(c:eh X.prog X.w X.K X.mg X.base x k ps sp)(hr:dH j X.A)(hk:k≤j)(hg:C6 X x)(hx:Jz X W)(ha:PA X (e::es) t)(oX:(x ==("__debug__" : Str))=false:=by decide)
  (he:starEach (e::es) X.env=(false,eval e X.env)::starEach es X.env:=by rfl) (iM:(backTo pos (starEach es X.env)).any (·.1)=false:=by rfl):PE X (.Call (.Name x p) (e::es) [] pos) (ab6 sp W t):=by
 exact .mk ?_;let⟨f,fd,F,m,kp,b⟩:=c;intro v0 s σ H Q I h;exact Lw (Jj I hg m ?_ oX);exact La (h₀:=X.base) I.ok.mod.JJ kp (AV (ha pos v0 s σ H _ I h) λus s1 ξ=>Ξ23 ξ λvs H1 I1 r q=>⟨I1.kN,?_⟩) he iM;have hl:us.length=ps.length:=by rw[←r.length];exact F.len _ _ _ _ q
 have hb:=b s1 us I1.kN (by rw[BV];exact hl);rw[BV]at hb;exact K4 (JY (F.run X.A X.stack s1 H1 ⟨us,[]⟩ us vs Q (W σ) (hr.mono hk) I1.Fi hb r q) λr' s' hq=>?_);cases r' with
 |error e=>exact hx v0 σ H1 s1 e s' I1 hq
 |ok fl=>
  cases fl with
  |ret u=>exact I1.after hq
  |next=>exact False.elim hq
  |brk=>exact False.elim hq
  |cont=>exact False.elim hq
end
section
def Uu(K:W.Frag)(Cy:Addr)(ts:Bu)(D:Ends):St→BG:=λσ C _ H'=>exmOne K C (.ref Cy)=some true∧ts D σ H'
def aa2(K:W.Frag)(Cy:Addr)(tb:(St→BG)→Bu)(ts:Bu):Bu:=λD σ H=>tb (Uu K Cy ts D) D σ H
theorem zT(ok:X.Ok)(oJ:X.stack=X.env::X.outer)(yv:X.env.frame=some X.env.locals)(hy:C6 X y)(EX:X.mg y=some (.ref Cy))
  (hs:∀x,jU (X.su x) (b₀::gZ) ts) (hd:(y ==("__debug__" : Str))=false)      (J1:Inv X v0 σ1 H1 s1) (MR:DC X.prog X.w X.stack H1 s1 (Uu X.K Cy ts D σ1) e s2) :
  Nk X v0 D [.ExceptHandler (some (.Name y np)) none (b₀::gZ) rP] e s2:=by
 let⟨x,C,a0,H',B,rfl,os,bare,fl,cN,u,hm,hw⟩:=MR;have MJ:X.A.frames=some (X.env::X.outer):=by rw[←oJ];exact ok.frames
 have yA:Heap.FlyingW B (X.env::X.outer) x C a0 s2.heap:=by rw[←oJ];exact fl
 have data:∀b∈DV X.stack,∀o,s1.heap.get? b=some o→∀vs,o.data≠.fields vs:=λb hb o q=>by
  let⟨_,⟨o',nc,E2⟩⟩:=J1.stack.mem hb;rw[q]at nc;cases nc;exact E2
 have Pp:∀h5:Heap,B.StaysIn h5→s2.heap.UpToSlots h5→Inv X v0 σ1 H' {s2 with heap:=h5}:=λh5 st up=>by
  have u5:QY (DV X.stack) H1 H' s1.heap B h5:=⟨u.keep,λb o q n' hb=>by
   let⟨sl,z⟩:=u.slot b o q n' hb;let⟨Jp,z2⟩:=up b _ z (have dd:=data b hb o q;λvs=>dd vs);exact⟨Jp,z2⟩,u.free,u.there,u.j6,u.jY,u.kc⟩
  exact J1.FF (s':={s2 with heap:=h5}) (ch:=[]) os (u5.un st J1.mO) (cN.kept st) bare (λb hb=>nomatch hb)
 have RC:B.get? x=none:=yA.2.1;have Hx:H' x=none:=by
  cases q:H' x with
  |none=>rfl
  |some o=>
   let⟨z,hz⟩:=(cN x o q).got;rw[RC]at hz;cases hz
 exact wpAny_looks_onW MJ yv yA λh4 EZ N1=>?_;exact wpAny_landsW EZ λh5 HY N0=>?_;have I5:=Pp h5 HY.1 (N1.trans N0);let⟨ob,T4,JP⟩:=HY.there;have LT:Looks (model X.prog X.w) h5 (typeOf (.ref x)) C:=by rw[←JP];exact(Looks.ld T4).andThen .now
 exact wpAny_handleBy_cons (codeAny_handlers_test (Jj (X:=X.su x) (I5.su x) hy EX ?_ hd)) (by intro q;cases q);exact(exm_one I5.kN LT hm).here ?_;exact codeAny_handlers_suite ?_;exact lands_againW HY λh6 RU Sj=>?_;have I6:=Pp h6 RU.1 ((N1.trans N0).trans Sj);exact Dn ((hs x).run v0 {s2 with heap:=h6} _ _ _ (I6.su x) hw) (λf s8 q=>?_) (λ_ _ z=>z.elim);cases f with
 |next=>obtain⟨σ2,H2,I8,q⟩:=q;exact Ψ2 _ _ ⟨Inv.vc ok I8,q⟩
 |brk=>obtain⟨σ2,H2,I8,q⟩:=q;exact Ψ2 _ _ ⟨Inv.vc ok I8,q⟩
 |cont=>obtain⟨σ2,H2,I8,q⟩:=q;exact Ψ2 _ _ ⟨Inv.vc ok I8,q⟩
 |ret v=>obtain⟨v',σ2,H2,I8,r,q⟩:=q;exact Ψ3 v' _ _ ⟨Inv.vc ok I8,r,q⟩
theorem x6(oJ:X.stack=X.env::X.outer)(yv:X.env.frame=some X.env.locals)(hy:C6 X y)(EX:X.mg y=some (.ref Cy))
  (hb:∀(E':xz) (pn:ac) (W:St→BG),(∀v0 σ H s e s',Inv (X.tr E' pn) v0 σ H s→DC X.prog X.w X.stack H s (W σ) e s'→E' e s')→jU (X.tr E' pn) body (tb W))
  (hs:∀x,jU (X.su x) (b₀::gZ) ts) (hd:(y ==("__debug__" : Str))=false:=by decide) :
  PS X (.Try body [.ExceptHandler (some (.Name y np)) none (b₀::gZ) rP] [] [] pos) (aa2 X.K Cy tb ts):=by
 exact .mk ?_;intro v0 s σ H D I h;have ok:=I.ok;exact wpAny_Try_except ?_;have fin:=(hb (Nk X v0 D [.ExceptHandler (some (.Name y np)) none (b₀::gZ) rP]) (X.pn++v0) (Uu X.K Cy ts D) (λoB σ1 H1 s1 e s2 J MR=>zT ok oJ yv hy EX hs hd (Inv.rD ok J) MR)).run [] s σ H D (I.tr _) h;exact Dn fin (λf s1 q=>?_) λe s1 q=>q;cases f with
 |next=>
  obtain⟨σ',H',I',q⟩:=q;exact Mv ⟨σ',H',Inv.rD ok I',q⟩
 |brk=>obtain⟨σ',H',I',q⟩:=q;exact Ψ2 σ' H' ⟨Inv.rD ok I',q⟩
 |cont=>obtain⟨σ',H',I',q⟩:=q;exact Ψ2 σ' H' ⟨Inv.rD ok I',q⟩
 |ret v=>obtain⟨v',σ',H',I',r,q⟩:=q;exact Ψ3 v' σ' H' ⟨Inv.rD ok I',r,q⟩
end
end L2
namespace L2
open PySem PySem.Spec PyProof.Rows
variable {i t':Nat}{j a u z p j1 j2 u1 u2:Addr}{pos:Pos}{bs:List Bool}{s: Shared}{ss:List Str}{ch:List Addr}{P:Program}{w:World}{K:W.Frag}{vs ws:Array Value}{Q:xz}{b:Value}{X: Cx}
theorem oh{α β:Type}{f g:α→Option β}:∀{l:List α},(∀x∈l,f x=g x)→l.filterMap f=l.filterMap g
 |[],_=>rfl
 |x::r,h=>by rw[LX,LX,h x JH,oh λy hy=>h y (GO _ hy)]
section
def Av(i j:Int):Prop:=0<j∧j<2^200
theorem Av.S6{i j:Int}(h:Av i j):Builtin.divisionGoesByPylong i j=false:=by
 exact qM ?_;have h1:j.natAbs<2^200:=by have:=h.1;have:=h.2;lia
 have h2:j.natAbs≠0:=by have:=h.1;lia
 have:=(Nat.log2_lt h2).mpr h1;lia
theorem zB:By X (binaryOp .FloorDiv) (Ku Av λi j=>.int (i/j)):=Nr λi j _ _ _ _ _ hc q=>by
 have h1:(0:Int)<j:=hc.1;exact floordiv_int (by lia) (by rw[Int.fdiv_eq_ediv_of_nonneg i (by lia)];exact q) (.inl hc.S6)
def b7(X:Cx)(r:V→A7→Ar→Prop):Prop:=
 ∀v0 s σ H (x:V) (v vs:Value) (sl:Addr) (Q:Ar),Inv X v0 σ H s→RelV x v→s.heap.IsSliceOf sl .none .none vs→IsPart vs (some (-1))→r x H Q→
  ∃T id,typeLookup (.type T) "__getitem__" = pure (some (.builtin id))∧s.TypeIs v T∧wpAny (model X.prog X.w) X.A (getItem v (.ref sl)) (Cf X v0 σ Q) X.xe s
theorem ly{r:V→A7→Ar→Prop}{e st:Expr}{te ts:Ah}{p2:Pos}(hr:b7 X r)(he:PE X e te)(hs:PE X st ts):
  PE X (.Subscript e (.Slice none none (some st) p2) pos) (λσ H Q=>te σ H λx H1=>ts σ H1 λy H2=>y=.int (-1)∧r x H2 Q):=by
 exact .mk ?_;intro v0 s σ H Q I h;exact Subscript_ (AV (he v0 s σ H _ I h) λv s1 ξ=>Ξ23 ξ λx H1 I1 r1 q1=>?_);exact wpAny_Slice ?_;rw[evalPart_none];exact BR ?_;exact BR ?_;rw[evalPart_some];exact AV (hs v0 s1 σ H1 _ I1 q1) λvs s2 ξ=>Ξ23 ξ λy H2 I2 r2 q2=>?_;let⟨rfl,q3⟩:=q2;let⟨t,rfl⟩:=r2;have I4:Inv X v0 σ H2 {s2 with heap:=s2.heap.push {cls:=.type "slice",data:=.fields #[.none,.none,.int (-1) t]}}:=I2.kept (t':=s2.toks) λb ob q=>Ba _ q;let⟨T,id,hT,ht,hg⟩:=hr v0 {s2 with heap:=s2.heap.push {cls:=.type "slice",data:=.fields #[.none,.none,.int (-1) t]}} σ H2 x v _ s2.heap.objs.size Q I4 r1 (Heap.IsSliceOf.new ..) (.int (-1) t) q3;show wpAny (model X.prog X.w) X.A (subscriptTail e (.Slice none none (some st) p2) v (.ref s2.heap.objs.size)) (Cf X v0 σ Q) X.xe {s2 with heap:=s2.heap.push {cls:=.type "slice",data:=.fields #[.none,.none,.int (-1) t]}}
 exact tail_any (ops:=[v,.ref s2.heap.objs.size]) ht hT hg (by with_unfolding_all rfl)
theorem aas(bg:List Value):((List.range bg.length).map λk=>bg.length-1-k).filterMap (bg.toArray[·]?)=bg.reverse:=by
 apply List.ext_getElem?
 intro i;have e:((List.range bg.length).map λk=>bg.length-1-k).filterMap (bg.toArray[·]?)=(List.range bg.length).map λk=>bg.getD (bg.length-1-k) .none:=by
  rw[List.filterMap_map];rw[←List.filterMap_eq_map];apply oh
  intro k hk;have hk':k<bg.length:=ace.mp hk;show bg.toArray[bg.length-1-k]?=some (bg.getD (bg.length-1-k) .none)
  have h2:bg.length-1-k<bg.length:=by lia
  simp[List.getD,GW h2]
 rw[e,Ha];by_cases h:i<bg.length
 ·rw[List.getElem?_range h,List.getElem?_reverse h]
  have h2:bg.length-1-i<bg.length:=by lia
  simp[List.getD,GW h2]
 ·rw[List.getElem?_eq_none (by simpa using h),List.getElem?_eq_none (by simpa using h)]
  rfl
theorem vx(bg:List Value):slicePick bg.toArray none none (some (-1))=bg.reverse.toArray:=by
 unfold slicePick;have e:sliceRange (sliceBounds none none (some (-1)) bg.toArray.size).1 (sliceBounds none none (some (-1)) bg.toArray.size).2.1 (sliceBounds none none (some (-1)) bg.toArray.size).2.2=(List.range bg.length).map λk=>bg.length-1-k:=picked_rev bg.length;rw[e,aas]
theorem Vals.rev{xs:List V}{us:List Value}(r:Vals xs us):Vals xs.reverse us.reverse:=by
 induction r with
 |nil=>exact .nil
 |cons r1 r2 ih=>
  rw[OB,OB];exact ih.append (.cons r1 .nil)
def zv(K:W.Frag):V→A7→Ar→Prop:=λx H Q=>∃a xs,x=.ref a∧jK K H a xs∧∀p,H p=none→Q (.ref p) (Aa H p (.lst xs.reverse))
theorem xA:b7 X (zv X.K):=by
 intro v0 s σ H x v vs sl Q I rx hs ps h;let⟨a,xs,rfl,hx,q⟩:=h;cases rx;let⟨bg,r,ht,hz⟩:=I.list hx;have hlen:=r.length;exact Ψ2 ("list") _ ⟨ac9.lookup,ht.isList.typeIs,?_⟩;exact wpAny_getItem_list_slice ht.isList hs .none .none ps (by decide) ?_ (by rw[D5]<;>lia)
 rw[vx];exact Ψ2 (.ref s.heap.objs.size) _ ⟨I.laid (t':=s.toks) (o:=.lst xs.reverse) (λb ob q=>Ba _ q) (Ax _) ?_,rfl,q _ (I.cN.fresh (Ax _))⟩;exact⟨by rw[UP];exact hz,_,0,Vals.rev r,Dh _ rfl⟩
theorem xE:∀{us:List Value},Vals (bs.map V.bl) us→us=bs.map Value.bool:=by
 induction bs with
 |nil=>intro us r;rw[Im]at r;cases r;rfl
 |cons n ns ih=>
  intro us r;rw[CV]at r;cases r with
  |cons r1 r2=>
   rw[ih r2];cases r1;rfl
theorem range_all:(List.range bs.length).all (λi=>bs.getD i true)=bs.all id:=by
 rw[GV,aaS,aaS];constructor
 ·intro h b hb
  obtain⟨i,hi,rfl⟩:=List.getElem_of_mem hb;have:=h i (ace.mpr hi);simpa[List.getD,GW hi]using this
 ·intro h i hi
  have P7:=ace.mp hi;have:=h bs[i] (Lq P7);simpa[List.getD,GW P7]using this
theorem oE{s:Shared}{o₀:Obj}{h':Heap}(hk:∀b o,b∉[s.heap.objs.size]→(s.heap.push o₀).get? b=some o→h'.get? b=some o):∀b o,s.heap.get? b=some o→h'.get? b=some o:=λb o e=>by
 exact hk b o (λhm=>?_) (Ba _ e);exact absurd ((aau.mp hm) ▸ BZ e) (Ib _)
theorem xl(hc:X.calm=true):FN X (.builtin "all") (λxs H Q=>∃(p:Addr) (bs:List Bool),xs=[.ref p]∧jK X.K H p (bs.map V.bl)∧Q (.bl (bs.all id)) H):=by
 intro v0 s σ H xs us Q I r h;let⟨p,bs,rfl,hq,q⟩:=h;let⟨u,rfl,ru⟩:=vals1 r;cases ru;let⟨bg,rv,pl,hz⟩:=I.list hq;have eb:=xE rv;have hl:s.heap.IsList p bg.toArray:=pl.isList;have jX:p<s.heap.objs.size:=by let⟨_,e,_⟩:=hl;exact BZ e
 exact call_all_walk (ae hl ?_);exact Ψ7 s.heap.objs.size _ _ _ _ _ (λi=>bs.getD i true) ⟨rfl,Walks.list (prog:=X.prog) (w:=X.w) (A:=X.A.in1) (I.ok.hd hc) s.heap.objs.size p (DU jX) bg.toArray,⟨⟨_,Dh _ rfl,rfl,rfl⟩,hl.push _⟩,?_,?_⟩
 ·intro i v s' Q' E' hP hQ
  have e:v=.bool (bs.getD i true):=by
   rw[eb]at hP;simp only[List.getElem?_toArray,Ha,Option.map_eq_some_iff]at hP;let⟨b,hb,rfl⟩:=hP;simp[List.getD,hb]
  rw[e];exact IS hQ
 ·intro h' tk hk
  exact Ψ2 (.bl (bs.all id)) H ⟨I.kept (oE hk),?_,q⟩;have e2:bg.toArray.size=bs.length:=by rw[eb];simp
  rw[e2,range_all];rfl
end
section
def ED(x:Str)(n:Nat):Str:=⟨(List.replicate n x.cps).foldl (· ++ ·) #[]⟩
theorem hX(x:Array Nat):∀(n:Nat) (acc:Array Nat),((List.replicate n x).foldl (· ++ ·) acc).toList=acc.toList++(List.replicate n x.toList).flatten
 |0,acc=>by simp
 |n+1,acc=>by
  rw[bh,KP,hX x n,bh,MQ,R6,BJ]
theorem RY(x:Str)(n:Nat):(ED x n).cps.toList=(List.replicate n x.cps.toList).flatten:=by
 show((List.replicate n x.cps).foldl (· ++ ·) #[]).toList=_
 rw[hX];rfl
theorem Lb(x:Str)(n:Nat):(ED x n).length=n*x.length:=by
 show(ED x n).cps.size=_
 rw[←Hw,RY,len_rep,Hw];rfl
theorem Pl{x:Str}{n:Nat}(h:n=0∨x.length=0):ED x n=Str.empty:=by
 have e:(ED x n).cps.toList=[]:=by
  apply Kj
  rw[Hw];show(ED x n).length=0
  rw[Lb];rcases h with h|h<;>simp[h]
 show(⟨(ED x n).cps⟩:Str)=⟨#[]⟩
 congr 1
 exact ab3.mp (by rw[e])
theorem mV(x:Str):ED x 1=x:=by
 show(⟨(ED x 1).cps⟩:Str)=⟨x.cps⟩
 congr 1
 apply ab3.mp
 rw[RY];simp
theorem acu:By X (binaryOp .Mult) (λx y H Q=>∃z k,x=.str z∧y=.int k∧-(2^62)<k∧k≤1000∧z.length≤1000∧Q (.str (ED z k.toNat)) H):=by
 intro v0 s σ H x y v u Q I rx ry h;let⟨z,k,rfl,rfl,k1,k2,z1,q⟩:=h;let⟨t,rfl⟩:=rx;let⟨t',rfl⟩:=ry;have hr:(decide (k < -(2^63:Int))||decide (k ≥ 2^63))=false:=by
  rw[BW (by lia),BW (by lia)];rfl
 have hm:z.length*k.toNat≤1000*1000:=Ot z1 (by lia);have hs:(1000*1000:Nat)≤sizeLine:=by decide
 exact PySem.P.mul_str hr (λh1 _=>?_) (λh1 _=>?_) ?_
 ·have e:(2^63-1:Int)/k ≥ 9223372036854775:=by
   rw[ge_iff_le,Int.le_ediv_iff_mul_le (by lia)];lia
  lia
 ·show decide (z.length*k.toNat>sizeLine)=false
  exact BW (by lia)
 ·by_cases c:k<1
  ·rw[AM c]
   exact⟨by decide,.str Str.empty,H,I.tok _,⟨_,rfl⟩,?_⟩;rw[Pl (.inl (by lia))]at q;exact q
  ·rw[AE c]
   by_cases c2:(k==1||z.length==0)=true
   ·rw[AM c2]
    exact Ψ2 (.str z) H ⟨I,⟨t,rfl⟩,?_⟩;rw[Jf,abl,abl]at c2;rcases c2 with rfl|c2
    ·rw[show(1:Int).toNat=1 from rfl,mV]at q
     exact q
    ·rw[Pl (.inr c2)]at q
     have ez:z=Str.empty:=by
      show(⟨z.cps⟩:Str)=⟨#[]⟩
      congr 1
      exact jT c2
     rw[ez];exact q
   ·rw[AE c2]
    exact⟨?_,.str (ED z k.toNat),H,I.tok _,⟨_,rfl⟩,q⟩;show(ED z k.toNat).length≤sizeLine
    rw[Lb,Nat.mul_comm];lia
theorem pS:∀{us:List Value},Vals (ss.map V.str) us→∃l:List (Str×Tok),us=strValues l∧l.map (·.1)=ss:=by
 induction ss with
 |nil=>intro us r;rw[Im]at r;cases r;exact⟨[],rfl,rfl⟩
 |cons x r ih=>
  intro us rv;rw[CV]at rv;cases rv with
  |cons r1 r2=>
   let⟨t,rfl⟩:=r1;let⟨l,rfl,e⟩:=ih r2;exact⟨(x,t)::l,rfl,by rw[CV,e]⟩
def Iu(ss:List Str):Str:=⟨(ss.map (·.cps.toList)).flatten.toArray⟩
theorem pO:∀(ss:List Str) (x:Array Nat),ss.foldl (λacc (p:Str)=>acc++(Str.empty).cps++p.cps) x=(x.toList++(ss.map (·.cps.toList)).flatten).toArray
 |[],x=>by simp
 |y::r,x=>by
  rw[KP,pO r];simp[Str.empty,R6,BJ]
theorem sv:∀ss:List Str,Builtin.Str.glued Str.empty ss=Iu ss
 |[]=>rfl
 |y::r=>by
  show(⟨r.foldl (λacc (p:Str)=>acc++(Str.empty).cps++p.cps) y.cps⟩:Str)=_
  rw[pO];rfl
theorem mZ(sep:Nat):∀(ss:List Str) (n B:Nat),(∀y∈ss,y.length≤B)→ss.foldl (λa (p:Str)=>a+p.length+sep) n≤n+ss.length*(B+sep)
 |[],n,B,_=>by simp
 |y::r,n,B,h=>by
  rw[KP];have h1:=mZ sep r (n+y.length+sep) B λz hz=>h z (GO _ hz);have h2:=h y JH;rw[Aw,OF];lia
theorem ic{α:Type}(B:Nat):∀ls:List (List α),(∀l∈ls,l.length≤B)→ls.flatten.length≤ls.length*B
 |[],_=>by simp
 |l::r,h=>by
  rw[MQ,AG,Aw,OF];have h1:=ic B r λz hz=>h z (GO _ hz);have h2:=h l JH;lia
theorem abJ{B:Nat}(h:∀y∈ss,y.length≤B):(Iu ss).length≤ss.length*B:=by
 show(ss.map (·.cps.toList)).flatten.toArray.size≤_
 rw[D5];have:=ic B (ss.map (·.cps.toList)) λl hl=>by
  let⟨y,hy,rfl⟩:=aaV.mp hl;rw[Hw];exact h y hy
 rwa[Ae]at this
theorem yb:Iy X "str.join" (λx vs H Q=>∃(p:Addr) (ss:List Str),x=.str Str.empty∧vs=[.ref p]∧jK X.K H p (ss.map V.str)∧ss.length≤1000∧(∀y∈ss,y.length≤1000)∧Q (.str (Iu ss)) H):=by
 intro v0 s σ H x vs v us Q I rx rv h;let⟨p,ss,rfl,rfl,hq,l1,l2,q⟩:=h;let⟨t,rfl⟩:=rx;let⟨u,rfl,ru⟩:=rv.one;cases ru;let⟨bg,r,pl,hz⟩:=I.list hq;let⟨l,rfl,rfl⟩:=pS r;have hs:(1000*1000:Nat)≤sizeLine:=by decide
 have hlen:(l.map (·.1)).foldl (λa (p:Str)=>a+p.length+(Str.empty).length) 0≤1000*1000:=by
  have h1:=mZ (Str.empty).length (l.map (·.1)) 0 1000 l2;have h2:(Str.empty).length=0:=rfl;rw[h2]at h1 ⊢;have h3:(l.map (·.1)).length*(1000+0)≤1000*1000:=Ot l1 (by lia);lia
 have hl:Builtin.Str.tooLong ((l.map (·.1)).toArray.foldl (· + ·.length+(Str.empty).length) 0)=false:=by
  unfold Builtin.Str.tooLong;rw[List.foldl_toArray];exact BW (by lia)
 exact JA F.slot_str_join (HG s _ t) F.entry_str_join (F.args_str_join_2 _ _) (meets_str_join_list Str.empty t p l hl) ⟨pl.isList,?_⟩;have fin:∀z:Str,z=Iu (l.map (·.1))→Q (.str z) H:=λz e=>by rw[e];exact q
 match l,sv (l.map (·.1)),fin,l1,l2 with
 |[],_,fin,_,_=>exact⟨by decide,.str Str.empty,H,I.tok _,⟨_,rfl⟩,fin _ rfl⟩
 |[y],_,fin,_,_=>exact Ψ2 (.str y.1) H ⟨I,⟨y.2,rfl⟩,fin _ (by simp[Iu])⟩
 |y::z::r,e,fin,l1,l2=>
  exact⟨?_,.str (Builtin.Str.glued Str.empty ((y::z::r).map (·.1))),H,I.tok _,⟨_,rfl⟩,fin _ e⟩;show(Builtin.Str.glued Str.empty ((y::z::r).map (·.1))).length≤sizeLine
  rw[e];have h1:=abJ (B:=1000) l2;have h2:((y::z::r).map (·.1)).length*1000≤1000*1000:=Ot l1 (Ax _);lia
end
section
variable {v0: List (Addr×Obj)}{σ: St}{H: A7}{h': Heap}
theorem Inv.Ay{o:HO}(I:Inv X v0 σ H s)(k:∀b u,b∉ch→s.heap.get? b=some u→h'.get? b=some u)(hf:∀b∈ch,Ee X v0 H b)(ha:s.heap.objs.size≤a)
  (new:cZ X.prog X.w (Aa H a o) h' a o):Inv X v0 σ (Aa H a o) {s with heap:=h',toks:=t'}:=by
 have hn:H a=none:=I.cN.fresh ha;have Eo:∀b u,H b=some u→b∉ch:=λb u e z=>by rw[(hf b z).1]at e;cases e
 exact I.step (g':=s.gens) (d':=s.drawn) (ch:=ch) (λb hb=>?_) (λb o _ _ hc e _=>k b o hc e) (λb o _ _ hc e _=>⟨o.slots,k b o hc e⟩) (λb o _ e n=>?_)
  (λb o hc e=>⟨o,k b o hc e⟩) (λb xs e=>by rw[BA (FA e hn)];exact e) (λb u v e=>by rw[BA (FA e hn)];exact e) (λb ps e=>⟨#[],by rw[BA (FA e hn),e];simp⟩) (λm hm=>?_) (λb u e=>?_) I.bare
 ·let⟨f0,f1,f2,f3,f4,f5⟩:=hf b hb
  exact⟨f3,f1,f4,f5⟩
 ·rw[BA (DU (EN (BZ e) ha))]
  exact n
 ·let⟨o,es,ep,ho,r⟩:=hm
  exact Ψ3 o es ep ⟨k _ o (λz=>(hf _ z).2.1 rfl) ho,r⟩
 ·by_cases hb:b=a
  ·subst hb;rw[D3]at e;cases e;exact new
  ·rw[BA hb]at e
   exact(I.cN b u e).rE (λc v hc q=>k c v ?_ q) (λc q=>by rw[BA (FA q hn)];exact q) λc xs q=>by rw[BA (FA q hn)];exact q
   rcases hc with z|z
   ·rw[z];exact Eo b u e
   ·exact Eo c _ z
theorem Inv.Az(I:Inv X v0 σ H s)(k:∀b u,b∉ch→s.heap.get? b=some u→h'.get? b=some u)(hf:∀b∈ch,Ee X v0 H b):Inv X v0 σ H {s with heap:=h',toks:=t'}:=by
 have Eo:∀b u,H b=some u→b∉ch:=λb u e z=>by rw[(hf b z).1]at e;cases e
 exact I.step (g':=s.gens) (d':=s.drawn) (ch:=ch) (λb hb=>?_) (λb o _ _ hc e _=>k b o hc e) (λb o _ _ hc e _=>⟨o.slots,k b o hc e⟩) (λb o _ e n=>n)
  (λb o hc e=>⟨o,k b o hc e⟩) (λb xs e=>e) (λb u v e=>e) (λb ps e=>⟨#[],by rw[e];simp⟩) (λm hm=>?_) (λb u e=>?_) I.bare
 ·let⟨f0,f1,f2,f3,f4,f5⟩:=hf b hb
  exact⟨f3,f1,f4,f5⟩
 ·let⟨o,es,ep,ho,r⟩:=hm
  exact Ψ3 o es ep ⟨k _ o (λz=>(hf _ z).2.1 rfl) ho,r⟩
 ·exact(I.cN b u e).rE (λc v hc q=>k c v ?_ q) (λ_ q=>q) λ_ _ q=>q
  rcases hc with z|z
  ·rw[z];exact Eo b u e
  ·exact Eo c _ z
end
def pK(c:Nat):V:=.str ⟨#[c]⟩
def OH(x:Str):It:=⟨λi _=>i<x.cps.size,λi H v H'=>H'=H∧∃c,x.cps[i]?=some c∧v=pK c,λi _=>x.cps.size≤i⟩
theorem uH{tg:Expr}(it:Addr)(x:Str)(t:Tok)(ty:String)(zW:ty = "str_ascii_iterator" ∨ ty = "str_iterator"):Turn P w K tg (OH x) [it] it (λi h=>h.IsStrIter it ty x t i) where
 mem:=by simp
 obj:=λi h st b hb=>by
  have e:b=it:=by simpa using hb
  subst e;let⟨o,e,c,d⟩:=st;exact⟨o,e,λv z=>by rw[d]at z;cases z⟩
 keep:=λi h h' st k=>by
  let⟨o,e,r⟩:=st;exact⟨o,k it (by simp) o e,r⟩
 item:=by
  intro X hP hw hK hc i v0 s σ H E I hf st hg;subst hP hw hK;let⟨f0,f1,f2,f3,f4,f5⟩:=hf it (by simp);have key:∀v h' tk,SignAt x i v→h'.IsStrIter it ty x t (i+1)→(∀b o,b∉[it]→s.heap.get? b=some o→h'.get? b=some o)→∃u,some v=some u∧
    wpAny (model X.prog X.w) X.A (letOwnedTupleGo tg (.ref it) u) (λ_ s2=>∃y H',Inv X v0 σ H' s2∧RelV y u∧(OH x).uZ i H y H'∧s2.heap.IsStrIter it ty x t (i+1)∧∀b∈[it],H' b=none) E {s with heap:=h',toks:=tk}:=by
   intro v h' tk hv zi kk;let⟨c,u,MT,rfl⟩:=hv;have I1:Inv X v0 σ H {s with heap:=h',toks:=tk}:=I.turned (λb o hb e=>kk b o (by simpa using hb) e) f0 f1 f3 f4 f5;let⟨o,e,ec,ed⟩:=id zi;exact⟨_,rfl,M1 (s:={s with heap:=h',toks:=tk}) e ec ed (by rcases zW with rfl|rfl<;>decide) ⟨pK c,H,I1,⟨u,rfl⟩,⟨rfl,c,MT,rfl⟩,zi,λb hb=>(hf b hb).1⟩⟩
  rcases zW with rfl|rfl
  ·exact(Walks.strAscii (prog:=X.prog) (w:=X.w) (I.ok.hd hc) it x t).item i s _ _ hg st key
  ·exact(Walks.strWide (prog:=X.prog) (w:=X.w) (I.ok.hd hc) it x t).item i s _ _ hg st key
 done:=by
  intro X hP hw hK hc i v0 s σ H E I hf st hg;subst hP hw hK;let⟨f0,f1,f2,f3,f4,f5⟩:=hf it (by simp);have hx:x.cps[i]?=none:=Array.getElem?_eq_none hg;rcases zW with rfl|rfl
  ·exact wpAny_pyNext_ascii_end (I.ok.hd hc) st hx λh' eb=>⟨rfl,I.turned (t':=s.toks) (λb o hb e=>eb b o hb e) f0 f1 f3 f4 f5⟩
  ·exact wpAny_pyNext_wide_end (I.ok.hd hc) st hx λh' eb=>⟨rfl,I.turned (t':=s.toks) (λb o hb e=>eb b o hb e) f0 f1 f3 f4 f5⟩
 self:=λ_ _ _ _ _ st h=>by
  rcases zW with rfl|rfl
  ·exact wpAny_pyIter_striter_ascii st h
  ·exact wpAny_pyIter_striter_wide st h
section
variable {tg: Expr}
def xG(tl:Ah):Es:=λσ H R=>tl σ H λx H1=>∃z,x=.str z∧R (OH z) H1
theorem acG{l:Expr}{tl:Ah}(hl:PE X l tl):PI X tg l (xG tl):=by
 exact .mk ?_;intro v0 s σ H R I h;exact AV (hl v0 s σ H _ I h) λv s1 ξ=>Ξ23 ξ λx H1 I1 r1 q1=>?_;let⟨z,e,q⟩:=q1;subst e;let⟨t,rfl⟩:=r1;have fin:∀ty:String,(ty = "str_ascii_iterator" ∨ ty = "str_iterator")→OS X v0 σ tg R (.ref s1.heap.objs.size) {s1 with heap:=s1.heap.push {cls:=.type ty,data:=.fields #[.str z t,.int 0 0]}}:=by
  intro ty zW;exact Ψ5 s1.heap.objs.size [s1.heap.objs.size] _ _ H1 ⟨rfl,I1.kept (t':=s1.toks) λb o e=>Ba _ e,uH s1.heap.objs.size z t ty zW,⟨_,Dh _ rfl,rfl,rfl⟩,λb hb=>?_,q⟩;have e:b=s1.heap.objs.size:=by simpa using hb
  subst e;exact I1.yz (Ax _) (I1.cN.fresh (Ax _))
 cases ha:z.cps.all (· < 128)
 ·exact wpAny_pyIter_wide ha (fin _ (.inr rfl))
 ·exact wpAny_pyIter_ascii ha (fin _ (.inl rfl))
end
section
variable {prog: Program}{w: World}{A: Around}{E: Value→Shared→Prop}
theorem US{v:Value}(hj:s.heap.IsTupleIter j u i)(hu:s.heap.IsTuple u vs)(hv:vs[i]?=some v)
  (q:∀h',h'.IsTupleIter j u (i+1)→Heap.SameBut j s.heap h'→Q v {s with heap:=h'}):wpAny (model prog w) A (Builtin.SmallTypes.nextOf (.ref j)) Q E s:=by
 let⟨ob,b1,b2,b3⟩:=id hj;let⟨ou,c1,_,⟨nu,c3⟩⟩:=hu;unfold Builtin.SmallTypes.nextOf;exact AN (Qy (name:=Str.ofString "__next__") hj.typeIs QT (OD QT hj.typeIs F.entry_tuple_iterator_next ?_ (F.args_tuple_iterator_next_1 _)));show wpAny _ _ (field (.ref j) 0 >>= _) _ _ s
 exact AN (GP b1 b3 (x:=.ref u) rfl ?_);show wpAny _ _ (if(Value.ref u==Value.none)=true then _ else _) _ _ s
 rw[AE (show ¬((Value.ref u==Value.none)=true)from DH)];show wpAny _ _ (field (.ref j) 1 >>= _) _ _ s
 exact AN (GP b1 b3 (x:=.int i 0) rfl ?_);show wpAny _ _ (seqItems? (.ref u) >>= _) _ _ s
 exact AN (JB c1 c3 ?_);simp only[Ju,hv];exact AN (wpAny_setField b1 b3 (by simp) (BR ⟨v,rfl,BR (q _ ?_ (Heap.SameBut.update ..))⟩));exact⟨_,Heap.get?_update_self _ b1 (Obj.isFreed_of_fields (Obj.data_mapFields b3 _)),(Obj.cls_mapFields ..).trans b2,by rw[Obj.data_mapFields b3];simp[rawInt]⟩
theorem qO(hh:A.handled=none)(hj:s.heap.IsTupleIter j u i)(hu:s.heap.IsTuple u vs)(hv:vs[i]?=none)
  (q:∀h' e,Heap.ExtBut j s.heap h'→(∃o,h'.get? e=some o∧o.cls=.type "StopIteration")→E (.ref e) {s with heap:=h'}):wpAny (model prog w) A (Builtin.SmallTypes.nextOf (.ref j)) Q E s:=by
 let⟨ob,b1,b2,b3⟩:=id hj;let⟨ou,c1,_,⟨nu,c3⟩⟩:=hu;unfold Builtin.SmallTypes.nextOf;exact AN (Qy (name:=Str.ofString "__next__") hj.typeIs QT (OD QT hj.typeIs F.entry_tuple_iterator_next ?_ (F.args_tuple_iterator_next_1 _)));show wpAny _ _ (field (.ref j) 0 >>= _) _ _ s
 exact AN (GP b1 b3 (x:=.ref u) rfl ?_);show wpAny _ _ (if(Value.ref u==Value.none)=true then _ else _) _ _ s
 rw[AE (show ¬((Value.ref u==Value.none)=true)from DH)];show wpAny _ _ (field (.ref j) 1 >>= _) _ _ s
 exact AN (GP b1 b3 (x:=.int i 0) rfl ?_);show wpAny _ _ (seqItems? (.ref u) >>= _) _ _ s
 exact AN (JB c1 c3 ?_);simp only[Ju,hv];exact AN (LY (AN (wpAny_setField b1 b3 (by simp) ?_)));show wpAny _ _ (newExc (.type "StopIteration") [] >>= _) _ _ _
 exact AN ?_;simp only[newExc,newTuple];exact AN (dC ?_ (by show 0≤sizeLine;exact Fe _));exact AN (m:=firstArgMember _ _) (wpAny_of_eq (a:=Value.none) (by first|rfl|(simp only[firstArgMember]<;>rfl)) ?_)
 exact dC ?_ (by size_fits);simp only[raiseNew];exact AN (wpAny_handled ?_);first|rw[show A.in1.handled=none from hh]|rw[hh]
 exact AN (BR (wpAny_throw ?_));exact q _ _ (((Heap.SameBut.update ..).extBut.push _).push _) ⟨_,Dh _ rfl,rfl⟩
structure Apart(z p r j1 j2 u1 u2:Addr):Prop where
 pz:p≠z
 rz:r≠z
 JL:j1≠z
 NA:j2≠z
 pr:p≠r
 Xe:p≠j1
 Xd:p≠j2
 Rj:r≠j1
 Ri:r≠j2
 Tp:j1≠j2
 Sk:u1≠z
 u1r:u1≠r
 WY:u1≠j1
 WX:u1≠j2
 Vb:u2≠z
 Vc:u2≠r
 N2:u2≠j1
 WW:u2≠j2
theorem QA{h h':Heap}{t:Addr}(x:h.IsTupleIter a t i)(e:∀o,h.get? a=some o→h'.get? a=some o):h'.IsTupleIter a t i:=let⟨o,ho,r⟩:=x;⟨o,e o ho,r⟩
theorem tO{r:Addr}{x y a:Value}(D:Apart z p r j1 j2 u1 u2)
  (hz:IsZip s.heap z p r .none) (hp:IsPair s.heap p (.ref j1) (.ref j2)) (hr:IsPair s.heap r a b)
  (h1:s.heap.IsTupleIter j1 u1 i) (h2:s.heap.IsTupleIter j2 u2 i) (l1:s.heap.IsTuple u1 vs) (l2:s.heap.IsTuple u2 ws) (hx:vs[i]?=some x) (hy:ws[i]?=some y)
  (q:∀h',IsZip h' z p r (rawInt s.heap.objs.size)→IsPair h' r x y→h'.IsTupleIter j1 u1 (i+1)→h'.IsTupleIter j2 u2 (i+1)→IsPair h' s.heap.objs.size x y→h'.objs.size=s.heap.objs.size+1→
   (∀c o,c≠z→c≠r→c≠j1→c≠j2→s.heap.get? c=some o→h'.get? c=some o)→Q (.ref s.heap.objs.size) {s with heap:=h'}) :
  wpAny (model prog w) A (Builtin.«zip.__next__» ⟨[.ref z],[]⟩) (λfin s'=>∃v,fin=.done (.ret v)∧Q v s') E s:=by
 show wpAny _ _ (field (.ref z) 2 >>= _) _ _ _
 exact AN (GP hz rfl (x:=.bool false) rfl ?_);show wpAny _ _ (field (.ref z) 3 >>= _) _ _ _
 exact AN (GP hz rfl (x:=.ref p) rfl ?_);exact AN (JB hp rfl ?_);show wpAny _ _ (Builtin.SmallTypes.ownedTupleIsFree (.ref z) >>= _) _ _ _
 exact AN ?_;unfold Builtin.SmallTypes.ownedTupleIsFree;exact AN (GP hz rfl (x:=.none) rfl (BR ?_));simp only[Iw];exact AN (LY ?_);exact AN (GP hz rfl (x:=.ref r) rfl ?_);exact AN (wpAny_setField_rec hz (by simp) λg1 z1 e1=>?_)
 replace z1:IsZip g1 z p r .ellipsis:=z1
 exact AN ?_;simp only[List.zipIdx_cons,List.zipIdx_nil,List.forIn_cons,List.forIn_nil];exact AN (AN (PQ ?_));show wpAny _ _ (Builtin.SmallTypes.nextOf (.ref j1) >>= _) _ _ _
 exact AN (US (h1.extBut e1.extBut D.JL) (l1.extBut e1.extBut D.Sk) hx λg2 a2 e2=>BR ?_);have r2:IsPair g2 r a b:=e2.extBut _ _ D.Rj (e1.extBut _ _ D.rz hr);exact AN (JB r2 rfl ?_);exact AN (SH r2 λg3 r3 e3=>?_)
 replace r3:IsPair g3 r x b:=r3
 exact AN (wpAny_letGo (BR ?_));exact AN (AN (PQ ?_));show wpAny _ _ (Builtin.SmallTypes.nextOf (.ref j2) >>= _) _ _ _
 exact AN (US (((h2.extBut e1.extBut D.NA).extBut e2.extBut D.Tp.symm).extBut e3.extBut D.Ri.symm) (((l2.extBut e1.extBut D.Vb).extBut e2.extBut D.N2).extBut e3.extBut D.Vc) hy λg4 a4 e4=>BR ?_);have r4:IsPair g4 r x b:=e4.extBut _ _ D.Ri r3;exact AN (JB r4 rfl ?_);exact AN (SH r4 λg5 r5 e5=>?_)
 replace r5:IsPair g5 r x y:=r5
 exact AN (wpAny_letGo (BR (BR ?_)));exact AN (JB r5 rfl ?_);exact AN (wpAny_newTuple ?_);have sz:g5.objs.size=s.heap.objs.size:=by rw[e5.1,e4.1,e3.1,e2.1,e1.1]
 have z5:IsZip g5 z p r .ellipsis:=e5.extBut _ _ D.rz.symm (e4.extBut _ _ D.NA.symm (e3.extBut _ _ D.rz.symm (e2.extBut _ _ D.JL.symm z1)));have k5:∀c o,c≠z→c≠r→c≠j1→c≠j2→s.heap.get? c=some o→g5.get? c=some o:=λc o n1 n2 n3 n4 e=>
  e5.extBut _ _ n2 (e4.extBut _ _ n4 (e3.extBut _ _ n2 (e2.extBut _ _ n3 (e1.extBut _ _ n1 e))))
 have b1:g5.IsTupleIter j1 u1 (i+1):=((a2.extBut e3.extBut D.Rj.symm).extBut e4.extBut D.Tp).extBut e5.extBut D.Rj.symm;have b2:g5.IsTupleIter j2 u2 (i+1):=a4.extBut e5.extBut D.Ri.symm;have zl:z<g5.objs.size:=BZ z5;show wpAny _ _ (Builtin.SmallTypes.ownedTupleHandOut (.ref z) (.ref g5.objs.size) >>= _) _ _ _
 exact AN ?_;unfold Builtin.SmallTypes.ownedTupleHandOut;have z6:IsZip (g5.push {cls:=.type "tuple",data:=.seq #[x,y]}) z p r .ellipsis:=Ba _ z5;exact AN (wpAny_setField_rec z6 (by simp) λg7 z7 e7=>?_)
 replace z7:IsZip g7 z p r (rawInt g5.objs.size):=z7
 exact wpAny_setField_rec z7 (by simp) λg8 z8 e8=>?_
 replace z8:IsZip g8 z p r (rawInt g5.objs.size):=z8
 have up:∀c o,c≠z→g5.get? c=some o→g8.get? c=some o:=λc o n1 e=>e8.extBut _ _ n1 (e7.extBut _ _ n1 (Ba _ e));have t8:IsPair g8 g5.objs.size x y:=e8.extBut _ _ (Ow zl) (e7.extBut _ _ (Ow zl) (Dh _ rfl));have s8:g8.objs.size=g5.objs.size+1:=by rw[e8.1,e7.1,IE]
 rw[sz]at z8 t8 s8;exact BR ⟨_,rfl,?_⟩;show Q (.ref g5.objs.size) _
 rw[sz];exact q g8 z8 (up _ _ D.rz r5) (QA b1 λo e=>up _ o D.JL e) (QA b2 λo e=>up _ o D.NA e) t8 s8 λc o n1 n2 n3 n4 e=>up c o n1 (k5 c o n1 n2 n3 n4 e)
theorem vB{r:Addr}{a:Value}{Q:Fin→Shared→Prop}(hh:A.handled=none)(D:Apart z p r j1 j2 u1 u2)
  (hz:IsZip s.heap z p r .none) (hp:IsPair s.heap p (.ref j1) (.ref j2)) (hr:IsPair s.heap r a b)
  (h1:s.heap.IsTupleIter j1 u1 i) (h2:s.heap.IsTupleIter j2 u2 i) (l1:s.heap.IsTuple u1 vs) (l2:s.heap.IsTuple u2 ws) (MN:vs[i]?=none∨ws[i]?=none)
  (q:∀h' e,(∀c o,c≠z→c≠r→c≠j1→c≠j2→s.heap.get? c=some o→h'.get? c=some o)→(∃o,h'.get? e=some o∧o.cls=.type "StopIteration")→E (.ref e) {s with heap:=h'}) :
  wpAny (model prog w) A (Builtin.«zip.__next__» ⟨[.ref z],[]⟩) Q E s:=by
 show wpAny _ _ (field (.ref z) 2 >>= _) _ _ _
 exact AN (GP hz rfl (x:=.bool false) rfl ?_);show wpAny _ _ (field (.ref z) 3 >>= _) _ _ _
 exact AN (GP hz rfl (x:=.ref p) rfl ?_);exact AN (JB hp rfl ?_);show wpAny _ _ (Builtin.SmallTypes.ownedTupleIsFree (.ref z) >>= _) _ _ _
 exact AN ?_;unfold Builtin.SmallTypes.ownedTupleIsFree;exact AN (GP hz rfl (x:=.none) rfl (BR ?_));simp only[Iw];exact AN (LY ?_);exact AN (GP hz rfl (x:=.ref r) rfl ?_);exact AN (wpAny_setField_rec hz (by simp) λg1 z1 e1=>?_)
 replace z1:IsZip g1 z p r .ellipsis:=z1
 exact AN ?_;simp only[List.zipIdx_cons,List.zipIdx_nil,List.forIn_cons,List.forIn_nil];exact AN (AN (PQ ?_));show wpAny _ _ (Builtin.SmallTypes.nextOf (.ref j1) >>= _) _ _ _
 cases hx:vs[i]? with
 |none=>
  exact AN (qO hh (h1.extBut e1.extBut D.JL) (l1.extBut e1.extBut D.Sk) hx λg2 e e2 he=>?_);let⟨oe,MP,MO⟩:=he;have z2:IsZip g2 z p r .ellipsis:=e2 _ _ D.JL.symm z1;have S8:e≠z:=λx=>by subst x;rw[z2]at MP;cases MP;simp at MO
  exact wpAny_setField_rec z2 (by simp) λg3 _ e3=>q g3 e (λc o n1 _ n3 _ x=>e3.extBut _ _ n1 (e2 _ _ n3 (e1.extBut _ _ n1 x))) ⟨oe,e3.extBut _ _ S8 MP,MO⟩
 |some x=>
  have hy:ws[i]?=none:=by rcases MN with h|h;rw[hx]at h;cases h;exact h
  exact AN (US (h1.extBut e1.extBut D.JL) (l1.extBut e1.extBut D.Sk) hx λg2 a2 e2=>BR ?_);have r2:IsPair g2 r a b:=e2.extBut _ _ D.Rj (e1.extBut _ _ D.rz hr);exact AN (JB r2 rfl ?_);exact AN (SH r2 λg3 r3 e3=>?_);exact AN (wpAny_letGo (BR ?_));exact AN (AN (PQ ?_));show wpAny _ _ (Builtin.SmallTypes.nextOf (.ref j2) >>= _) _ _ _
  exact AN (qO hh (((h2.extBut e1.extBut D.NA).extBut e2.extBut D.Tp.symm).extBut e3.extBut D.Ri.symm) (((l2.extBut e1.extBut D.Vb).extBut e2.extBut D.N2).extBut e3.extBut D.Vc) hy λg4 e e4 he=>?_);let⟨oe,MP,MO⟩:=he;have z4:IsZip g4 z p r .ellipsis:=e4 _ _ D.NA.symm (e3.extBut _ _ D.rz.symm (e2.extBut _ _ D.JL.symm z1));have S8:e≠z:=λx=>by subst x;rw[z4]at MP;cases MP;simp at MO
  exact wpAny_setField_rec z4 (by simp) λg5 _ e5=>q g5 e (λc o n1 n2 n3 n4 x=>e5.extBut _ _ n1 (e4 _ _ n4 (e3.extBut _ _ n2 (e2.extBut _ _ n3 (e1.extBut _ _ n1 x))))) ⟨oe,e5.extBut _ _ S8 MP,MO⟩
end
def UR(K:W.Frag)(a b:Addr):It:=
  ⟨λi H=>∃xs ys x y,js K H a xs∧js K H b ys∧xs[i]?=some x∧ys[i]?=some y,
   λi H v H'=>∃p x y,H p=none∧v=.ref p∧H'=Aa H p (.tup [x,y])∧(∀xs,js K H a xs→xs[i]?=some x)∧(∀ys,js K H b ys→ys[i]?=some y),
   λi H=>∃xs ys,js K H a xs∧js K H b ys∧(xs.length≤i∨ys.length≤i)⟩
theorem zZ{elts:List Expr}{kk:Nat}(a b z p r j1 j2:Addr)(D:Apart z p r j1 j2 a b):
  Turn P w K (.Tuple elts kk pos) (UR K a b) [z,p,r,j1,j2] z (λi h=>IsZip h z p r .none∧IsPair h p (.ref j1) (.ref j2)∧(∃u v,IsPair h r u v)∧h.IsTupleIter j1 a i∧h.IsTupleIter j2 b i) where
 mem:=by simp
 obj:=λi h st c hc=>by
  let⟨hz,hp,⟨u,v,hr⟩,⟨o1,e1,_,d1⟩,⟨o2,e2,_,d2⟩⟩:=st;simp only[aam,Bx,D7]at hc;rcases hc with rfl|rfl|rfl|rfl|rfl
  ·exact⟨_,hz,λv z=>by have z':Data.fields _=Data.cell v:=z;cases z'⟩
  ·exact⟨_,hp,λv z=>by have z':Data.seq _ _=Data.cell v:=z;cases z'⟩
  ·exact⟨_,hr,λv z=>by have z':Data.seq _ _=Data.cell v:=z;cases z'⟩
  ·exact⟨o1,e1,λv z=>by rw[d1]at z;cases z⟩
  ·exact⟨o2,e2,λv z=>by rw[d2]at z;cases z⟩
 keep:=λi h h' st k=>by
  let⟨hz,hp,⟨u,v,hr⟩,h1,h2⟩:=st;exact⟨k z (by simp) _ hz,k p (by simp) _ hp,Ψ2 u v (k r (by simp) _ hr),QA h1 λo e=>k j1 (by simp) o e,QA h2 λo e=>k j2 (by simp) o e⟩
 item:=by
  intro X hP hw hK hc i v0 s σ H E I hf st hg;subst hP hw hK;let⟨hz,hp,⟨u,v,hr⟩,h1,h2⟩:=st;let⟨xs,ys,x,y,JN,NC,hx,hy⟩:=hg;let⟨bg,rv,pl,_⟩:=I.tuple JN;let⟨qx,Nu,DP,_⟩:=I.tuple NC;let⟨Su,ex,rx⟩:=rv.get hx;let⟨vy,ey,ry⟩:=Nu.get hy;have hT:s.TypeIs (.ref z) "zip" :=⟨_,hz,rfl⟩;have n0:H s.heap.objs.size=none:=I.cN.fresh (Ax _);unfold pyNext;exact AN (Q0 (Qy (name:=Str.ofString "__next__") hT QN (OD QN hT F.entry_zip_next
   (tO D hz hp hr h1 h2 pl DP (by simpa using ex) (by simpa using ey) λg a1 a2 a3 a4 a5 a6 a7=>BR ?_) (F.args_zip_next_1 _))))
  exact⟨_,rfl,?_⟩;exact wpAny_letOwnedTupleGo_zip a1 λg2 b1 b2=>?_;have zl:z<s.heap.objs.size:=BZ hz;have lt:∀c∈[z,p,r,j1,j2],c<s.heap.objs.size:=λc hc=>by
   simp only[aam,Bx,D7]at hc;let⟨_,q1,_⟩:=h1;let⟨_,q2,_⟩:=h2;rcases hc with rfl|rfl|rfl|rfl|rfl
   ·exact zl
   ·exact BZ hp
   ·exact BZ hr
   ·exact BZ q1
   ·exact BZ q2
  exact Ψ2 (.ref s.heap.objs.size) (Aa H s.heap.objs.size (.tup [x,y])) ⟨?_,rfl,Ψ3 _ x y ⟨n0,rfl,rfl,λzs TC=>by rw[I.nG TC JN];exact hx,λzs TC=>by rw[I.nG TC NC];exact hy⟩,⟨b1,?_,Ψ2 Su vy ?_,?_,?_⟩,λc hc=>?_⟩
  ·exact I.Ay (t':=s.toks) (ch:=[z,r,j1,j2]) (λc o hc e=>?_) (λc hc=>hf c ?_) (Ax _) ⟨by show 2≤sizeLine;decide,[Su,vy],.cons rx (.cons ry .nil),?_⟩
   ·simp only[aam,Bx,D7,not_or]at hc
    exact b2.extBut _ _ hc.1 (a7 c o hc.1 hc.2.1 hc.2.2.1 hc.2.2.2 e)
   ·simp only[aam,Bx,D7]at hc ⊢
    rcases hc with rfl|rfl|rfl|rfl<;>simp
   ·exact⟨_,b2.extBut _ _ (Ow zl) a5,rfl,0,rfl⟩
  ·exact b2.extBut _ _ D.pz (a7 _ _ D.pz D.pr D.Xe D.Xd hp)
  ·exact b2.extBut _ _ D.rz a2
  ·exact a3.extBut b2.extBut D.JL
  ·exact a4.extBut b2.extBut D.NA
  ·rw[BA (DU (lt c hc))]
   exact(hf c hc).1
 done:=by
  intro X hP hw hK hc i v0 s σ H E I hf st hg;subst hP hw hK;let⟨hz,hp,⟨u,v,hr⟩,h1,h2⟩:=st;let⟨xs,ys,JN,NC,he⟩:=hg;let⟨bg,rv,pl,_⟩:=I.tuple JN;let⟨qx,Nu,DP,_⟩:=I.tuple NC;have l1:=rv.length;have l2:=Nu.length;have MN:bg.toArray[i]?=none∨qx.toArray[i]?=none:=he.imp (λe=>by simp;lia) (λe=>by simp;lia);have hT:s.TypeIs (.ref z) "zip" :=⟨_,hz,rfl⟩;unfold pyNext;exact AN (Q0 (Qy (name:=Str.ofString "__next__") hT QN (OD QN hT F.entry_zip_next
   (vB (I.ok.hd hc) D hz hp hr h1 h2 pl DP MN λg e kk he=>?_) (F.args_zip_next_1 _))))
  let⟨o,ho,Yq⟩:=he;exact AN (wpAny_isInstance (T := "StopIteration") (b:=true) ⟨o,ho,Yq⟩ isSubtype_stop ?_);exact BR ⟨rfl,I.Az (t':=s.toks) (ch:=[z,r,j1,j2]) (λc o hc e=>?_) (λc hc=>hf c ?_)⟩
  ·simp only[aam,Bx,D7,not_or]at hc
   exact kk c o hc.1 hc.2.1 hc.2.2.1 hc.2.2.2 e
  ·simp only[aam,Bx,D7]at hc ⊢
   rcases hc with rfl|rfl|rfl|rfl<;>simp
 self:=λ_ _ _ _ _ st h=>wpAny_pyIter_zip st.1 h
abbrev OA(h:Heap)(a:Addr):Heap:=h.push {cls:=.type "tuple_iterator",data:=.fields #[.ref a,.int 0 0]}
abbrev Nv(h:Heap)(a b:Addr):Heap:=(OA h a).push {cls:=.type "tuple_iterator",data:=.fields #[.ref b,.int 0 0]}
abbrev QL(h:Heap)(a b:Addr):Heap:=(Nv h a b).push {cls:=.type "tuple",data:=.seq #[.ref h.objs.size,.ref (OA h a).objs.size]}
abbrev Nw(h:Heap)(a b:Addr):Heap:=(QL h a b).push {cls:=.type "tuple",data:=.seq #[.none,.none]}
abbrev LH(h:Heap)(a b:Addr):Heap:=(Nw h a b).push {cls:=.type "zip",data:=.fields #[.none,.bool false,.bool false,.ref (Nv h a b).objs.size,.ref (QL h a b).objs.size]}
theorem acZ(a b:Addr)(vs ws:Array Value):
  Meets (Builtin.«zip.__new__» ⟨[.type "zip",.ref a,.ref b],[]⟩) (λ_ R s=>s.heap.IsTuple a vs∧s.heap.IsTuple b ws∧R (.ok (.ret (.ref (Nw s.heap a b).objs.size))) {s with heap:=LH s.heap a b}):=
 .of_wp λprog w A R s h=>by
  obtain⟨hp,g,d,tk,os⟩:=s;obtain⟨la,lb,h⟩:=h;have XZ:=sub_zip;have L1:Heap.IsTuple (Shared.heap ⟨hp,g,d,tk,os⟩) a vs:=la;have L2:Heap.IsTuple (Shared.heap ⟨hp.push {cls:=.type "tuple_iterator",data:=.fields #[.ref a,.int 0 0]},g,d,tk,os⟩) b ws:=Heap.IsTuple.push lb _
  wp_walk using ag L1,ag L2
  exact⟨_,rfl,h⟩
theorem acS{prog:Program}{A:Around}{E:xz}{s:Shared}{b:Addr}(la:s.heap.IsTuple a vs)(lb:s.heap.IsTuple b ws)
  (q:∀h',IsZip h' (s.heap.objs.size+4) (s.heap.objs.size+2) (s.heap.objs.size+3) .none→IsPair h' (s.heap.objs.size+2) (.ref s.heap.objs.size) (.ref (s.heap.objs.size+1))→
   IsPair h' (s.heap.objs.size+3) .none .none→h'.IsTupleIter s.heap.objs.size a 0→h'.IsTupleIter (s.heap.objs.size+1) b 0→(∀c o,s.heap.get? c=some o→h'.get? c=some o)→Q (.ref (s.heap.objs.size+4)) {s with heap:=h'}) :
  wpAny (model prog w) A (call (.type "zip") [.ref a,.ref b]) Q E s:=by
 exact callType_new F.called_zip (by decide) (F.typeCall_zip_2 _ _) (F.newCall_zip_2 _ _) (λobj=>F.args_object_init_3 obj _ _) F.entry_zip_new (acZ a b vs ws) ⟨la,lb,?_⟩;have z1:(OA s.heap a).objs.size=s.heap.objs.size+1:=IE ..;have z2:(Nv s.heap a b).objs.size=s.heap.objs.size+2:=by rw[IE,z1]
 have z3:(QL s.heap a b).objs.size=s.heap.objs.size+3:=by rw[IE,z2]
 have z4:(Nw s.heap a b).objs.size=s.heap.objs.size+4:=by rw[IE,z3]
 have g5:(LH s.heap a b).get? (Nw s.heap a b).objs.size=some _:=Dh _ rfl;have g4:(LH s.heap a b).get? (QL s.heap a b).objs.size=some _:=Ba _ (Dh _ rfl);have g3:(LH s.heap a b).get? (Nv s.heap a b).objs.size=some _:=Ba _ (Ba _ (Dh _ rfl));have g2:(LH s.heap a b).get? (OA s.heap a).objs.size=some _:=Ba _ (Ba _ (Ba _ (Dh _ rfl)));have g1:(LH s.heap a b).get? s.heap.objs.size=some _:=Ba _ (Ba _ (Ba _ (Ba _ (Dh _ rfl))));show _∧_
 rw[z2,z3,z4]at g5;rw[z1,z2]at g3;rw[z3]at g4;rw[z1]at g2;rw[z4];exact⟨⟨_,g5,rfl⟩,q _ g5 g3 g4 ⟨_,g1,rfl,rfl⟩ ⟨_,g2,rfl,rfl⟩ λc o x=>Ba _ (Ba _ (Ba _ (Ba _ (Ba _ x))))⟩
theorem apart_new{n b:Addr}(ha:a<n)(hb:b<n):Apart (n+4) (n+2) (n+3) n (n+1) a b:=by
 have ne:∀i j:Nat,i≠j→(Nat.add n i:Addr)≠Nat.add n j:=λi j h e=>h (Nat.add_left_cancel e);have lo:∀(c:Addr) (i:Nat),c<n→c≠Nat.add n i:=λc i h=>DU (EN h (Nat.le_add_right n i));exact⟨ne 2 4 (by decide),ne 3 4 (by decide),ne 0 4 (by decide),ne 1 4 (by decide),ne 2 3 (by decide),ne 2 0 (by decide),ne 2 1 (by decide),ne 3 0 (by decide),ne 3 1 (by decide),ne 0 1 (by decide),
  lo a 4 ha,lo a 3 ha,lo a 0 ha,lo a 1 ha,lo b 4 hb,lo b 3 hb,lo b 0 hb,lo b 1 hb⟩
section
variable {elts: List Expr}{kk: Nat}{xb: Pos}
def aa4(K:W.Frag)(ta:Cm):Es:=λσ H R=>ta σ H λvs H1=>∃a b xs ys,vs=[.ref a,.ref b]∧js K H1 a xs∧js K H1 b ys∧R (UR K a b) H1
theorem tU{a b:Expr}{ta:Cm}{p:Pos}(hg:C6 X "zip")(hm:X.mg "zip" = none)(ha:PA X [a,b] ta)(hs:starEach [a,b] X.env=[(false,eval a X.env),(false,eval b X.env)]:=by rfl)(wI:starEach [b] X.env=[(false,eval b X.env)]:=by rfl):
  PI X (.Tuple elts kk xb) (.Call (.Name "zip" p) [a,b] [] pos) (aa4 X.K ta):=by
 exact .mk ?_;intro v0 s σ H R I h;exact Call_ (KI I hg hm boot_zip (Qz (AV (ha pos v0 s σ H _ I h) λus s1 ξ=>Ξ23 ξ λvs H1 I1 r1 q1=>?_) (by rw[hs,wI]) (by rw[wI];rfl)));let⟨u1,u2,xs,ys,e,hx,hy,q⟩:=q1;subst e;cases r1 with
 |cons r rr=>
  cases rr with
  |cons r' rr=>
   cases rr;cases r;cases r';let⟨bg,rv,pl,_⟩:=I1.tuple hx;let⟨qx,Nu,DP,_⟩:=I1.tuple hy;let⟨o1,e1,_⟩:=id pl;let⟨o2,e2,_⟩:=id DP;exact acS pl DP λh' hz hp hr j1 j2 k=>?_;exact wpAny_pyIter_zip hz ?_;exact Ψ5 (s1.heap.objs.size+4) [s1.heap.objs.size+4,s1.heap.objs.size+2,s1.heap.objs.size+3,s1.heap.objs.size,s1.heap.objs.size+1] _ _ H1 ⟨rfl,I1.kept (t':=s1.toks) k,zZ u1 u2 _ _ _ _ _ (apart_new (BZ e1) (BZ e2)),⟨hz,hp,Ψ2 _ _ hr,j1,j2⟩,λc hc=>?_,q⟩;have MT:s1.heap.objs.size≤c:=by
    simp only[aam,Bx,D7]at hc;rcases hc with rfl|rfl|rfl|rfl|rfl<;>first|exact Ax _|exact Nat.le_add_right _ _
   exact I1.yz MT (I1.cN.fresh MT)
end
end L2
namespace L2
open PySem PySem.Spec PyProof.Rows PySem.W PySem.Calls PySem.Builtin PySem.Builtin.ObjectAttr PySem.Builtin.Getset_descriptor
variable {M:Model}{h:Heap}{tk:Tok}
structure Fv(K:Frag)(D:Addr):Prop where
 ga:findIn K (.ref D) "__getattribute__" = some (some (.builtin "BaseException.__getattribute__"))
 hk:findIn K (.ref D) "__getattr__" = some none
 cl:findIn K (.ref D) "__class__" = some (some (.builtin "object.__class__"))
 gt:specialIn K (.builtin "object.__class__") "__get__" = some (some (.builtin "getset_descriptor.__get__"))
 tk:takesIn K (.builtin "object.__class__")=some true
 ob:mroIn K D (.type "object")=some true
 bx:mroIn K D (.type "BaseException")=some true
 cd:(clsIn K D).isSome=true
def nD(x D:Addr):Heap→Prop:=λh=>∃o,h.get? x=some o∧o.cls=.ref D
section
variable {K: Frag}{x D: Addr}
theorem nD.type(I:nD x D h):Looks M h (typeOf (.ref x)) (.ref D):=by
 let⟨o,e,c⟩:=I;exact c ▸ (Looks.ld e).andThen .now
theorem aaT(X:K.In h)(F:Fv K D):Looks M h (find (.ref x) (.ref D) "__class__") (.bind (.builtin "getset_descriptor.__get__") (.builtin "object.__class__")):=by
 have n1:=looks_findIn (M:=M) X F.cl;have n2:Looks M h (getOf (some (.builtin "object.__class__"))) (some (.builtin "getset_descriptor.__get__")):=looks_specialIn X F.gt;have n3:=looks_takesIn (M:=M) X F.tk;have n4:Looks M h (dataDescriptor? (some (.builtin "object.__class__")) (some (.builtin "getset_descriptor.__get__"))) (some (.builtin "getset_descriptor.__get__",.builtin "object.__class__")):=n3.andThen .now;exact n1.andThen (n2.andThen (n4.andThen (Looks.tag .now)))
variable {prog: Program}{w: World}{A: Around}{E: Value→Shared→Prop}{s: Shared}
theorem abx{tp:Value}{R:Result→Shared→Prop}(X:K.In s.heap)(F:Fv K D)(I:nD x D s.heap)(h:R (.ok (.ret (.ref D))) s):
  codeAny (model prog w) A (.call (.builtin "getset_descriptor.__get__") ⟨[.builtin "object.__class__",.ref x,tp],[]⟩) R s:=by
 obtain⟨hh,gg,dr,tt,os⟩:=s;have n0:=I.type (M:=model prog w);have n1:=looks_mroIn (M:=model prog w) X F.ob;exact codeAny_call_builtin KF.slot_gs.plain KF.entry_gs (KF.slot_gs.check _ _ _ _ _ _ _ _ KF.type_class (KF.args_gs _ _ _) ?_);unfold Builtin.«getset_descriptor.__get__» descrGet;rw[dga_obj];exact AN (BR ?_);unfold descrGetter descrCheckInstance descrNameAndClass isInstance;simp only[KF.owner_class]
 repeat lk
 exact⟨Code.quiet_builtin _ (by decide +kernel),codeAny_builtin KF.entry_class ?_⟩;unfold Builtin.«object.__class__» shownTypeOf
 repeat lk
 exact h
theorem Blk{Q:Fin→Shared→Prop}(X:K.In s.heap)(F:Fv K D)(I:nD x D s.heap)(h:Q (.done (.ret (.ref D))) s):
  wpAny (model prog w) A (Builtin.«object.__getattribute__» ⟨[.ref x,.str "__class__" tk],[]⟩) Q E s:=by
 have n0:=I.type (M:=model prog w);have n1:=aaT (M:=model prog w) (x:=x) X F;exact AN (BR ?_);exact AN (BR ?_);exact AN (n0.at ?_);exact AN (n1.at ?_);show wpAny _ _ (holding [.builtin "object.__class__"] (call (.builtin "getset_descriptor.__get__") [.builtin "object.__class__",.ref x,.ref D]) >>= ret) _ _ _
 exact AN (LG (K4 (abx X F I (BR h))))
theorem vG{zL:Value}{Q:Unit→Shared→Prop}(X:K.In s.heap)(F:Fv K D)(I:nD x D s.heap)(h:Q () s):wpAny (model prog w) A (checkBuiltinCall "BaseException.__getattribute__" ⟨[.ref x,zL],[]⟩) Q E s:=by
 have b1:builtinKind "BaseException.__getattribute__" = some .slot:=by decide +kernel
 have b2:splitId "BaseException.__getattribute__" = some ("BaseException","__getattribute__"):=by decide +kernel
 have n0:=I.type (M:=model prog w);have n1:=looks_mroIn (M:=model prog w) X F.bx;have b3:=PySem.F.args_bexc_ga (.ref x) zL;obtain⟨hh,gg,dr,tt,os⟩:=s;simp only[checkBuiltinCall,b1,b2];exact AN ?_;unfold isInstance;exact AN (n0.at ?_);exact n1.at ?_;rw[AE (by decide)];cases TN:Manifest.signature? "BaseException.__getattribute__" with
 |none=>exact BR h
 |some sig=>
  simp only[argsOk,TN]at b3;have b4:Bind.checkArgs "BaseException.__getattribute__" sig ⟨[.ref x,zL],[]⟩=pure ():=b3;show wpAny _ _ (Bind.checkArgs "BaseException.__getattribute__" sig ⟨[.ref x,zL],[]⟩) _ _ _
  rw[b4];exact BR h
theorem uN{R:Result→Shared→Prop}(X:K.In s.heap)(F:Fv K D)(I:nD x D s.heap)(h:R (.ok (.ret (.ref D))) s):
  codeAny (model prog w) A (.call (.builtin "BaseException.__getattribute__") ⟨[.ref x,.str "__class__" tk],[]⟩) R s:=
 codeAny_call_builtin (by decide +kernel) PySem.F.entry_bexc_ga (vG X F I (Blk X F I h))
theorem abk{Q:Option Value→Shared→Prop}(X:K.In s.heap)(F:Fv K D)(I:nD x D s.heap)(h:Q (some (.ref D)) {s with toks:=s.toks+1}):wpAny (model prog w) A (getAttr? (.ref x) "__class__") Q E s:=by
 obtain⟨hh,gg,dr,tt,os⟩:=s;have n0:=I.type (M:=model prog w);have n1:=looks_findIn (M:=model prog w) X F.ga;have n2:=looks_findIn (M:=model prog w) X F.hk;unfold getAttr? getAttrBy? getAttrBy;exact AN (wpAny_mkText (AN (Q0 (LG (AN (n0.at (AN (n1.at ?_))))))));show wpAny _ _ (getAttrByItsOwn _ _ _ _ _ _) _ _ _
 unfold getAttrByItsOwn hookBefore;exact AN ?_;exact n2.at ?_;exact AN (Q0 (LG ?_));have b1:bindSpecial (.builtin "BaseException.__getattribute__") (.ref x)=pure (.builtin "BaseException.__getattribute__",[.ref x]):=by kernel_rfl
 show wpAny _ _ (bindSpecial (.builtin "BaseException.__getattribute__") (.ref x) >>= _) _ _ _
 rw[b1];exact AN (BR ?_);exact K4 (uN X F I ?_);exact wpAny_of_eq (handedOut_of rfl) (BR h)
theorem pE(F:Fv K D):KitX K (.ref x) (.ref D) (nD x D) where
 ty:=λ_ _ _ I=>I.type
 it:=λ_ _ X _=>by
  let⟨cd,hc⟩:=abO.mp F.cd;unfold clsIn at hc;split at hc
  ·rename_i c' d' Z3 SI ho
   intro A' Q' E' s' k q;unfold isType loadHead;exact AN (wpAny_loadPart (k _ _ (X _ _ ho)) (BR q))
  ·cases hc
 ne:=λh tp dd bg n sl X XW=>by
  let⟨cd,hc⟩:=abO.mp F.cd;exact Bool.eq_false_iff.mpr λq=>?_;have e:D=tp:=Value.ref.inj (abl.mp q);subst e;unfold clsIn at hc;split at hc
  ·rename_i c' d' Z3 SI ho
   have z:=(X _ _ ho).symm.trans XW;cases z
  ·cases hc
 ca:=λX I k=>abk X F I k
end
end L2
namespace L2
open PySem PySem.Spec PyProof.Rows
variable {prog:Program}{w:World}{A:Around}{s:Shared}{scope: Scope}{X: Cx}{cl: List (Str×Addr)}{own: List Str}{cap: List (Nat×Str)}
theorem abn(elt target iter:Expr)(ifs:List Expr)(scope:Scope)(pos:Pos)(it acc:Value)(env:Env):
  compTurn (.SetComp elt [⟨target,iter,ifs,0⟩] scope pos) 0 it acc env=(do
   standAt iter.pos
   match ←pyNext it with
   |none=>pure (.done .next)
   |some v=>
    letOwnedTupleGo target it v
    assign target env v
    let mut ok:=true
    for c in ifs do
     if ok then ok ←isTrue c env (eval c env)
    if ok then
     (do let v ←eval elt env;standAt elt.pos;let _ ←call (.builtin "set.add") [acc,v])
    again (.compLoop (.SetComp elt [⟨target,iter,ifs,0⟩] scope pos) 0 it acc env)):=by rfl
theorem vC{R:Result→Shared→Prop}{elt target iter ifs v4 scope pos it acc env}
  (h0:codeAny (model prog w) A (.compLoop (.SetComp elt (⟨target,iter,ifs,0⟩::v4) scope pos) 0 it acc env) R s)
  (h:wpAny (model prog w) A (pyIter it) (λTt s'=>codeAny (model prog w) A (.compLoop (.SetComp elt (⟨target,iter,ifs,0⟩::v4) scope pos) 0 Tt acc env) R s')
   (notedBy (model prog w) A env λx s'=>R (.error x) s') s) :
  codeAny (model prog w) A (.compStart (.SetComp elt (⟨target,iter,ifs,0⟩::v4) scope pos) 0 it acc env) R s:=by
 exact codeAny_of_tree ?_;show wpAny _ _ ((compStart (.SetComp elt (⟨target,iter,ifs,0⟩::v4) scope pos) 0 it acc env).onRaise (λx=>do noteFrame x env;standAt theWindowsPlace)) _ _ s
 exact wpAny_notedAt ?_;unfold compStart;show wpAny _ _ (ask >>= _) _ _ s
 exact AN (wpAny_askSetting (wpAny_ite ?_));split
 ·first
   |exact AN (BR (BR (And.intro rfl h0)))
   |exact BR (And.intro rfl h0)
 ·first
   |exact AN (LY (AN (Jy (AN (Dn h (λTt s' h'=>BR (And.intro rfl h')) λ_ _ x=>x)))))
   |(exact AN (LY ?_);show wpAny _ _ (standAt iter.pos >>= _) _ _ s;exact AN (Jy (AN (Dn h (λTt s' h'=>BR (And.intro rfl h')) λ_ _ x=>x))))
theorem xq{R:Result→Shared→Prop}{elt target iter:Expr}{scope:Scope}{pos:Pos}{it acc:Value}{env:Env}(I:Nat→Shared→Prop)
  (turn:∀n s,I n s→wpAny (model prog w) A (pyNext it) (λr s₁=>match r with
   |none=>R (.ok .next) s₁
   |some v=>wpAny (model prog w) A (letOwnedTupleGo target it v) (λ_ Ou=>wpAny (model prog w) A (assign target env v) (λ_ s₂=>
      wpAny (model prog w) A (eval elt env) (λx s₄=>
       wpAny (model prog w) A (call (.builtin "set.add") [acc,x]) (λ_ s₅=>∃m,m<n∧I m s₅) (notedBy (model prog w) A env λe s'=>R (.error e) s') s₄) (notedBy (model prog w) A env λe s'=>R (.error e) s') s₂) (notedBy (model prog w) A env λe s'=>R (.error e) s') Ou) (notedBy (model prog w) A env λe s'=>R (.error e) s') s₁) (notedBy (model prog w) A env λe s'=>R (.error e) s') s)
  (n:Nat) (h:I n s) :
  codeAny (model prog w) A (.compLoop (.SetComp elt [⟨target,iter,[],0⟩] scope pos) 0 it acc env) R s:=by
 exact codeAny_loop rfl I (λn s hI=>?_) n h;show wpAny _ A ((compTurn (.SetComp elt [⟨target,iter,[],0⟩] scope pos) 0 it acc env).onRaise (λx=>do noteFrame x env;theTreesLotGoes x)) _ _ s
 exact wpAny_noted ?_;rw[abn];exact AN (Jy (AN (Dn (turn n s hI) (λr s₁ h₁=>?_) λ_ _ h'=>h')));cases r with
 |none=>exact BR h₁
 |some v=>
  exact AN (Dn h₁ (λ_ Ou TB=>?_) λ_ _ h'=>h');exact AN (Dn TB (λ_ s₂ h₂=>AN (wpAny_tests_nil ?_)) λ_ _ h'=>h');exact AN (AN (Dn h₂ (λx s₄ h₄=>AN (Jy (AN (Dn h₄ (λ_ s₅ h₅=>BR (BR ⟨rfl,h₅⟩)) λ_ _ h'=>h')))) λ_ _ h'=>h'))
def setAt(P:Program)(w:World)(a:Addr)(S:Str→Bool)(n:Nat):Heap→Prop:=λh=>h.SetOf (strKind P w) a S n
theorem oA{P:Program}{H:A7}{h:Heap}{a:Addr}{S:Str→Bool}{n:Nat}(q:h.SetOf (strKind P w) a S n):cZ P w H h a (.ext (setAt P w a S n)):=by
 exact⟨q,?_,λh1 h2 q1 k=>?_⟩
 ·let⟨o,_,_,_,e,_⟩:=q
  exact⟨o,e⟩
 ·let⟨o,es,ep,t,e,r⟩:=q1
  exact Ψ4 o es ep t ⟨k o e,r⟩
section
variable {v0: List (Addr×Obj)}{σ: St}{H: A7}{s: Shared}{fp: List Addr}{E: Value→Shared→Prop}
theorem vz{o:HO}(c:fv X scope cl own cap)(I:Inv X v0 σ H s)(hf:∀b∈fp,Ee X v0 H b)(jX:∀b∈fp,b<s.heap.objs.size){h₁:Heap}{tk:Nat}{m:KK}
  (hk:∀b o,s.heap.get? b=some o→h₁.get? b=some o) (MG:cZ X.prog X.w (Aa H s.heap.objs.size o) h₁ s.heap.objs.size o) (hn:h₁.Ns (s.heap.objs.size+1) m) :
  Inv (DW X (own++cap.map (·.2)) scope cl (s.heap.objs.size+1) s H fp E) [] (Gn own cap σ) (Aa H s.heap.objs.size o) {s with heap:=h₁,toks:=tk}:=by
 have yv:H s.heap.objs.size=none:=I.fresh;have MK:H (s.heap.objs.size+1)=none:=I.cN.fresh (Gq _);exact⟨Kc c I hf jX (Gq _),rfl,I.bare,Un.laid hk (Ax _) yv,⟨m,hn,λi x v e1 e2 _=>?_⟩,λx a e=>?_,?_,λx a e=>?_,λp hp=>absurd (show p∈([]:ac)from hp) (by simp),I.cN.laid hk (Ax _) MG,?_⟩
 ·let⟨p,hp,ex,es⟩:=oP e1 e2
  let⟨q1,q2,q3,q4,q5⟩:=c.IA p hp;rw[ex]at q1 q2 q3 q4 q5;let⟨m',MH,hl⟩:=I.loc;let⟨u,r,l⟩:=hl p.1 x v q1 es q2;exact⟨u,r,?_⟩;rcases l with l|⟨k,a,e,z⟩
  ·exact absurd l.1 q3
  ·let⟨a',e'⟩:=c.MW x q5
   have ea:=c.sub x a' e';rw[e]at ea;cases ea;exact .inr ⟨q5,a,e',z.keeps hk⟩
 ·let⟨v,z⟩:=I.cell x a (c.sub x a e)
  exact⟨v,z.keeps hk⟩
 ·show Aa H s.heap.objs.size o (s.heap.objs.size+1)=none
  rw[BA (Nat.succ_ne_self _)];exact MK
 ·let⟨v,z⟩:=I.cell x a (c.sub x a e)
  show Aa H s.heap.objs.size o a=none
  rw[BA (DU z.lt)];exact I.gh x a (c.sub x a e)
 ·show(Gn own cap σ).length=(own++cap.map (·.2)).length
  simp[Gn]
end
def more(S:Str→Bool)(n:Nat)(k:Str):Nat:=if S k then n else n+1
def k9(P:Program)(w:World)(wi:Es)(g:Ed)(te:Ah)(own:List Str)(cap:List (Nat×Str)):Ah:=λσ H Q=>wi σ H λJ H1=>∀D,H1 D=none→
 ∃W:Nat→Nat→St→(Str→Bool)→Nat→A7→Prop,(∃m,W 0 m (Gn own cap σ) (λ_=>false) 0 (Aa H1 D (.ext (setAt P w D (λ_=>false) 0))))∧∀i m σ' S n H',W i m σ' S n H'→H' D=some (.ext (setAt P w D S n))∧
  ((J.stop i H'∧Q (.ref D) H')∨(J.go i H'∧n<1000∧∃N:St→(Str→Bool)→Nat→A7→Prop,(∀σ S n H,N σ S n H→∃m',m' < m∧W (i+1) m' σ S n H)∧∀x H2,J.uZ i H' x H2→g x σ' H2 λσ3 H3=>te σ3 H3 λy H5=>∃k,y=.str k∧H5 D=some (.ext (setAt P w D S n))∧
   N σ3 (λk'=>S k'||decide (k'=k)) (more S n k) (Aa H5 D (.ext (setAt P w D (λk'=>S k'||decide (k'=k)) (more S n k))))))
section
variable {tg iter elt: Expr}{wi: Es}{g: Ed}{te: Ah}{pos: Pos}
theorem zM(c:fv X scope cl own cap)(hc:X.calm=true)(hi:PI X tg iter wi)
  (hg:∀C s H fp,PG (DW X (own++cap.map (·.2)) scope cl C s H fp λ_ _=>False) tg g)
  (he:∀C s H fp,PE (DW X (own++cap.map (·.2)) scope cl C s H fp λ_ _=>False) elt te) (hs:∀x,foldedSetIterable iter X.env x=pure x:=by intro _;rfl) :
  PE X (.SetComp elt [⟨tg,iter,[],0⟩] scope pos) (k9 X.prog X.w wi g te own cap):=by
 exact .mk ?_;intro v0 s σ H Q I h;show wpAny _ X.A (comprehension (.SetComp elt [⟨tg,iter,[],0⟩] scope pos) scope X.env _ (newSet (.type "set")) false (eval iter X.env)) _ _ s
 exact Tv (use:=none) rfl hs c.Fy c.kind c.names (AV (hi v0 s σ H _ I h) λv s1 h1=>AV h1 λPJ s2 h2=>?_);let⟨it,fp,tn,J,H2,e,I2,T,uR,f2,hw⟩:=h2;subst e;exact wpAny_newSet_of (knd:=strKind X.prog X.w) λled hS=>wpAny_newFunctionEnv c.cell (by intro y hy;simp at hy) (λh₁ vP vN=>?_) c.kind;dsimp only at vP vN ⊢;generalize hO:({cls:=.type "set",dict:=none,data:=.set #[] 0 (.fresh 0 0 led)}:Obj)=O at hS vP vN ⊢;have HK:(s2.heap.push O).objs.size=s2.heap.objs.size+1:=IE _ _;have kk:∀b o,s2.heap.get? b=some o→h₁.get? b=some o:=λb o e=>vN.extBut b o (by rw[HK];exact DU (dM (BZ e))) (Ba _ (Ba _ e));have Yt:h₁.SetOf (strKind X.prog X.w) s2.heap.objs.size (λ_=>false) 0:=by
  let⟨o,es,ep,t,e,r⟩:=hS;exact Ψ4 o es ep t ⟨vN.extBut _ _ (by rw[HK];exact DU (Jk _)) (Ba _ e),r⟩
 rw[HK]at vP ⊢;have jX:∀b∈fp,b<s2.heap.objs.size:=λb hb=>by
  let⟨o,e,_⟩:=T.obj _ _ uR b hb;exact BZ e
 let⟨W,⟨m0,w0⟩,turn⟩:=hw s2.heap.objs.size I2.fresh;have J1:=vz (E:=λ_ _=>False) c I2 f2 jX (tk:=s2.toks+([]:List (Str×Value)).length) kk (oA Yt) vP;generalize pD:DW X (own++cap.map (·.2)) scope cl (s2.heap.objs.size+1) s2 H2 fp (λ_ _=>False)=X' at J1;have P8:PG X' tg g:=pD ▸ hg _ _ _ _;have Ue:PE X' elt te:=pD ▸ he _ _ _ _;have pX:X'.prog=X.prog:=by rw[←pD];rfl
 have wX:X'.w=X.w:=by rw[←pD];rfl
 have kX:X'.K=X.K:=by rw[←pD];rfl
 have aX:X'.A=X.A:=by rw[←pD];rfl
 have cX:X'.calm=true:=by rw[←pD];exact hc
 have nX:X'.env=compEnvC scope cl (s2.heap.objs.size+1) X.env:=by rw[←pD];rfl
 have xX:X'.xe=λ_ _=>False:=by rw[←pD];rfl
 have fX:∀b∈fp,∀{H':A7},H' b=none→Ee X' [] H' b:=λb hb {H'} hn=>by
  have o1:=(Kc (E:=λ_ _=>False) c I2 f2 jX (C:=s2.heap.objs.size+1) (Gq _)).M8 b hb;have o2:=(Kc (E:=λ_ _=>False) c I2 f2 jX (C:=s2.heap.objs.size+1) (Gq _)).uA b hb;rw[←pD];exact⟨hn,o1.1,o2,.inl hb,o1.2,λp hp=>absurd (show p∈([]:ac)from hp) (by simp)⟩
 have Ul:∀D C s' H' m,Inv X v0 σ H' s'→Ee X v0 H' C→s'.heap.Ns C m→Q (.ref D) H'→compPost (model X.prog X.w) X.A X.xe none (Cf X v0 σ Q) (.ref D) C (.ok .next) s':=by
  intro D C s' H' m I' hC hm q;exact⟨m,hm,λh' PZ=>Ψ2 (.ref D) H' ⟨?_,rfl,q⟩⟩;exact I'.turned (t':=s'.toks) (λb o hb e=>(PZ.2 b hb).trans e) hC.1 hC.2.1 hC.2.2.2.1 hC.2.2.2.2.1 hC.2.2.2.2.2
 have fin:∀{σ':St} {H':A7} {s':Shared},Inv X' [] σ' H' s'→Q (.ref s2.heap.objs.size) H'→compPost (model X.prog X.w) X.A X.xe none (Cf X v0 σ Q) (.ref s2.heap.objs.size) (s2.heap.objs.size+1) (.ok .next) s':=λ{σ' H' s'} J' q=>by
  rw[←pD]at J';let⟨A1,A2⟩:=rG I2 f2 (Gq _) J';let⟨m,hm,_⟩:=J'.loc;exact Ul _ _ s' H' m A1 A2 hm q
 have loop:codeAny (model X.prog X.w) X.A (.compLoop (.SetComp elt [⟨tg,iter,[],0⟩] scope pos) 0 (.ref it) (.ref s2.heap.objs.size) (compEnvC scope cl (s2.heap.objs.size+1) X.env)) (compPost (model X.prog X.w) X.A X.xe none (Cf X v0 σ Q) (.ref s2.heap.objs.size) (s2.heap.objs.size+1))
   {s2 with heap:=h₁,toks:=s2.toks+([]:List (Str×Value)).length}:=by
  exact xq (λn s'=>∃i σ' S z H',Inv X' [] σ' H' s'∧tn i s'.heap∧(∀b∈fp,H' b=none)∧W i n σ' S z H') ?_ m0
   ⟨0,_,_,0,_,J1,T.keep _ _ _ uR λb _ o e=>kk b o e,λb hb=>by rw[BA (DU (jX b hb))];exact(f2 b hb).1,w0⟩
  intro n s3⟨i,σ3,S,z,H3,I3,Jg,JX,w3⟩;let⟨Yv,w4⟩:=turn i n σ3 S z H3 w3;rw[←nX,←aX,←pX,←wX];have sD:∀{α:Type} {t:Sem α} {Q1:α→Shared→Prop} {E1:xz} {s:Shared},wpAny (model X'.prog X'.w) X'.A t Q1 X'.xe s→wpAny (model X'.prog X'.w) X'.A t Q1 E1 s:=λ{α t Q1 E1 s} h=>by
   rw[xX]at h;exact Dn h (λ_ _ q=>q) λ_ _ f=>f.elim
  rcases w4 with⟨stop,qn⟩|⟨go,hz,N,hN,step⟩
  ·have d:=T.done X' pX wX kX cX i [] s3 σ3 H3 X'.xe I3 (λb hb=>fX b hb (JX b hb)) Jg stop
   rw[←pX,←wX]at d;exact sD (AV d λr s4 ξ=>Ξ02 ξ λhr I4=>?_);subst hr;have f4:=fin I4 qn;rw[←pX,←wX,←aX]at f4;exact f4
  ·have d:=T.item X' pX wX kX cX i [] s3 σ3 H3 X'.xe I3 (λb hb=>fX b hb (JX b hb)) Jg go
   rw[←pX,←wX]at d;exact sD (AV d λr s4 ξ=>Ξ12 ξ λu hr h4=>?_);subst hr;exact sD (AV h4 λ_ s5 ξ=>Ξ25 ξ λx H5 I5 r5 y5 CS Qn=>?_);have Q3:=I5.pinned (λb hb=>fX b hb (Qn b hb)) (T.obj _ _ CS);have again:∀{σ7:St} {H7:A7} {s7:Shared} {S':Str→Bool} {z':Nat},Inv X' ([]++KW fp s5.heap) σ7 H7 s7→N σ7 S' z' H7→
     ∃m,m<n∧∃i σ' S z H',Inv X' [] σ' H' s7∧tn i s7.heap∧(∀b∈fp,H' b=none)∧W i m σ' S z H':=λ{σ7 H7 s7 S' z'} I7 n7=>by
    let⟨m',hm,w7⟩:=hN _ _ _ _ n7;exact⟨m',hm,i+1,σ7,S',z',H7,I7.j5,T.keep _ _ _ CS λb hb o e=>(I7.pin (b,o) (EH _ (EH _ (LC hb e)))).1,λb hb=>?_,w7⟩;let⟨o,e,d⟩:=T.obj _ _ CS b hb;exact(I7.pin (b,o) (EH _ (EH _ (LC hb e)))).2.1
   exact sD (AV (P8 _ s5 σ3 H5 x u _ Q3 r5 (step x H5 y5)) λ_ s6 ξ=>Ξ22 ξ λσ6 H6 I6 q6=>?_);exact sD (AV (Ue _ s6 σ6 H6 _ I6 q6) λu8 s8⟨y8,H8,I8,r8,k8,e8,d8,q8⟩=>?_);subst e8;let⟨t8,rfl⟩:=r8;have Xj:=(I8.cN _ _ d8).1;have Xi:s8.heap.SetOf (strKind X'.prog X'.w) s2.heap.objs.size S z:=by rw[pX,wX];exact Xj
   exact sD (call_set_add (k:=k8) (knd:=strKind X'.prog X'.w) (by show Value.isStrOf k8 (.str k8 t8)=true;simp[Value.isStrOf]) rfl Xi (Nat.lt_of_le_of_lt (Nat.succ_le_of_lt hz) (by decide)) λh' X2 V4=>?_);exact again (I8.write (x:=s2.heap.objs.size) (e:=s2.heap.objs.size) (o:=.ext (setAt X.prog X.w s2.heap.objs.size (λk'=>S k'||decide (k'=k8)) (more S z k8))) (by rw[d8];exact trivial) (.inl rfl) (λb' u hb hu=>(X2.2 b' hb).trans hu) ?_ ?_) q8
   ·let⟨o,_,_,_,e,_⟩:=V4
    exact⟨o,e⟩
   ·rw[←pX,←wX]
    exact oA V4
 exact vC loop (T.self X.A 0 _ _ _ (T.keep _ _ _ uR λb _ o e=>kk b o e) loop)
theorem yE:FN X (.builtin "len") (λxs H Q=>∃(p:Addr) (S:Str→Bool) (n:Nat),xs=[.ref p]∧H p=some (.ext (setAt X.prog X.w p S n))∧Q (.int n) H):=by
 intro v0 s σ H vs us Q I rv h;let⟨p,S,n,rfl,hp,q⟩:=h;let⟨u,rfl,ru⟩:=rv.one;cases ru;let⟨o,es,ep,t,e,ex,d,hel,hm,hb,hf,hn⟩:=(I.cN p _ hp).1;have RL:es.size<4096:=hb;exact call_len_set e ex d hf (by lia) ⟨.int n,H,I.tok _,⟨s.toks+1,by rw[hn]⟩,q⟩
end
section
theorem v8(hc:X.calm=true):FN X (.builtin "max") (λxs H Q=>∃(p:Addr) (ns:List Int),xs=[.ref p]∧jK X.K H p (ns.map V.int)∧ns≠[]∧Q (.int (Ej ns)) H):=by
 intro v0 s σ H xs us Q I r h;let⟨p,ns,rfl,hq,EW,q⟩:=h;let⟨u,rfl,ru⟩:=vals1 r;cases ru;let⟨bg,rv,pl,hz⟩:=I.list hq;have hi:=intsAre_of rv;let⟨xs,JN⟩:=hi.allInts.items;have hn:numsOf bg=ns:=hi.numsOf;have hl:s.heap.IsList p (intItems xs):=by rw[←JN];exact pl.isList
 let⟨o,ho,_⟩:=id hl;have jX:p<s.heap.objs.size:=BZ ho;have hlen:0<(intItems xs).size:=by
  rw[←JN,D5,←rv.length,Ae];exact acL.mpr EW
 exact call_max_walk (ae hl ?_);exact Ψ7 s.heap.objs.size _ _ _ _ _ _ ⟨rfl,Walks.list (prog:=X.prog) (w:=X.w) (A:=X.A.in1) (I.ok.hd hc) s.heap.objs.size p (DU jX) (intItems xs),⟨⟨_,Dh _ rfl,rfl,rfl⟩,hl.at λo e=>Ba _ e⟩,λb hb=>?_,hlen,CmpOf.ints_gt (numAt xs) (λ_ _=>intItems_at),λv h' tk hP hk=>?_⟩
 ·rcases aam.mp hb with rfl|hb
  ·exact BZ (Dh _ rfl)
  ·obtain rfl:=aau.mp hb
   exact BZ (Ba _ ho)
 ·let⟨t,rfl⟩:=intItems_at hP
  have e3:(intItems xs).size=xs.size:=by simp[intItems]
  let⟨h1,h2⟩:=argBest_gt (numAt xs) ((intItems xs).size-1);have e:numsOf (intItems xs).toList=ns:=by rw[←JN];exact hn
  rw[nums_intItems]at e;have gz:numAt xs (argBest (λi j=>decide (numAt xs i>numAt xs j)) ((intItems xs).size-1))∈ns:=by
   rw[←e,numAt_eq];exact getD_mem (by rw[Ae,Hw];lia)
  have nI:∀b∈ns,b≤numAt xs (argBest (λi j=>decide (numAt xs i>numAt xs j)) ((intItems xs).size-1)):=λb hb=>by
   rw[←e]at hb;let⟨j,hj,rfl⟩:=mem_getD hb;rw[Ae,Hw]at hj;rw[←numAt_eq];exact h2 j (by lia)
  exact Ψ2 (.int (Ej ns)) H ⟨I.kept (oE hk),⟨t,by rw[vK gz nI]⟩,q⟩
end
inductive yW:V→Value→Prop
 |own (a:Addr):yW (.ref a) (.ref a)
 |ty (T:String):yW (.ty T) (.type T)
inductive rh:List V→List Value→Prop
 |nil:rh [] []
 |cons {v:V} {c:Value} {vs:List V} {cs:List Value}:yW v c→rh vs cs→rh (v::vs) (c::cs)
theorem yW.rel{v:V}{c u:Value}(h:yW v c)(r:RelV v u):u=c:=by
 cases h with
 |own a=>exact r
 |ty T=>exact r
theorem rh.rel:∀{vs:List V} {cs us:List Value},rh vs cs→Vals vs us→us=cs
 |_,_,_,.nil,.nil=>rfl
 |_,_,_,.cons h t,.cons r rs=>by rw[h.rel r,t.rel rs]
section
theorem x5:FN X (.builtin "isinstance") (λxs H Q=>∃(x D:Addr) (cv:V) (c:Value) (b:Bool),xs=[.ref x,cv]∧yW cv c∧Fv X.K D∧H x=some (.ext (nD x D))∧W.kitOne X.K (.ref D) c=some b∧Q (.bl b) H):=by
 intro v0 s σ H xs us Q I r h;let⟨x,D,cv,c,b,rfl,hc,F,hx,e,q⟩:=h;let⟨u,w',rfl,ru,tR⟩:=vals2 r;cases ru;have:=hc.rel tR;subst this;exact Gf (pE F) I.kN (I.cN x _ hx).1 e (λz=>nomatch z) λtk=>Ψ2 (.bl b) H ⟨I.tok tk,rfl,q⟩
theorem aaW:FN X (.builtin "isinstance") (λxs H Q=>∃(x D p:Addr) (R0:List V) (cs:List Value) (b:Bool),xs=[.ref x,.ref p]∧H p=some (.tup R0)∧rh R0 cs∧Fv X.K D∧H x=some (.ext (nD x D))∧W.kitAny X.K (.ref D) cs=some b∧Q (.bl b) H):=by
 intro v0 s σ H xs us Q I r h;let⟨x,D,p,R0,cs,b,rfl,hp,hc,F,hx,e,q⟩:=h;let⟨u,w',rfl,ru,tR⟩:=vals2 r;cases ru;cases tR;let⟨_,⟨bg,rv,⟨o,h1,h2,⟨n,h3⟩⟩⟩⟩:=(show cZ X.prog X.w H s.heap p (.tup R0)from I.cN p _ hp);have:=hc.rel rv;subst this;obtain⟨oc,od,odt,zG⟩:=o;cases h2;cases h3;exact W.kia_tup (pE F) I.kN (I.cN x _ hx).1 h1 e (λz=>nomatch z) λtk=>Ψ2 (.bl b) H ⟨I.tok tk,rfl,q⟩
theorem abe(hu:X.A.units<cLine):By X (compareOp .Eq) (λx y H Q=>∃a b xs,x=.ref a∧y=.ref b∧jK X.K H a xs∧jK X.K H b []∧Q (.bl xs.isEmpty) H):=by
 intro v0 s σ H x y v u Q I rx ry h;let⟨a,b,xs,rfl,rfl,ha,hb,q⟩:=h;cases rx;cases ry;let⟨bg,rv,pl,hz⟩:=I.list ha;let⟨qx,Nu,DP,hz2⟩:=I.list hb;cases Nu;cases xs with
 |nil=>
  cases rv;exact SeqAt.eq_listAt (e:=λ_=>true) pl.isList DP.isList rfl hu (λj h1 _=>absurd h1 (by simp)) ⟨.bl true,H,I,rfl,q⟩
 |cons x r=>
  cases rv with
  |cons r1 r2=>exact SeqAt.eq_list_lengthsAt pl.isList DP.isList (by simp) hu ⟨.bl false,H,I,rfl,q⟩
end
def zU(H:A7)(P:Addr)(q:Str)(pos:Pos):Prop:=H P=some (.tbl #[])∨∃(c':Addr) (oc:Obj) (vs:Array Value) (t:Tok) (u:HO),
 H P=some (.tbl #[rawInt pos.line,rawInt pos.col,.ref c'])∧H c'=some (.frz oc u)∧oc.data=.fields vs∧vs[1]?=some (.str q t)
end L2
namespace Sr
open PySem PyProof.Rows
def wZ(M:Model)(A:Around)(s:Shared)(kd:SortKind)(a0:Array Keyed):Prop:=∀x∈a0.toList,∀y∈a0.toList,∀(Q:Bool→Shared→Prop) (E:xz),(∀b,Q b s)→wpAny M A (keyLt' kd x.1 y.1) Q E s
section
variable {prog: Program}{w: World}{A: Around}{E: Value→Shared→Prop}{s: Shared}
def SQ(prog:Program)(w:World)(s:Shared)(a:Addr)(vs:List Value):Prop:=2≤vs.length→∃kd:SortKind,∀(A:Around) (h5:Heap),(∀b o,b≠a→s.heap.get? b=some o→h5.get? b=some o)→
 (∀(Q:SortKind→Shared→Prop) (E:xz),Q kd {s with heap:=h5}→wpAny (model prog w) A (keyKind' vs.toArray) Q E {s with heap:=h5})∧wZ (model prog w) A {s with heap:=h5} kd (pairsOf vs)
end
end Sr
namespace L2
open PySem PySem.Spec PyProof.Rows
variable {K:W.Frag}{X: Cx}
def eV(lo c:Int)(n:Nat):It:=⟨λi _=>i<n,λi H x H'=>H'=H∧x=.int (lo+(i:Int)*c),λi _=>n≤i⟩
theorem uM{P:Program}{w:World}{tg:Expr}(it:Addr)(lo c:Int)(n:Nat):Turn P w K tg (eV lo c n) [it] it (λi h=>IsRangeIter h it (lo+(i:Nat)*c) ((n:Int)-(i:Nat)) c) where
 mem:=by simp
 obj:=λi h st b hb=>by
  have e:b=it:=by simpa using hb
  subst e;exact⟨_,st,λv z=>by
   have z':Data.fields _=Data.cell v:=z;cases z'⟩
 keep:=λi h h' st k=>k it (by simp) _ st
 item:=by
  intro X hP hw hK hc i v0 s σ H E I hf st hg;subst hP hw hK;let⟨f0,f1,f2,f3,f4,f5⟩:=hf it (by simp);have W:=Walks.range (prog:=X.prog) (w:=X.w) (I.ok.hd hc) it lo c n;exact W.item i s _ _ hg st λv h' tk hv zi kk=>?_;let⟨t,rfl⟩:=hv;have I1:Inv X v0 σ H {s with heap:=h',toks:=tk}:=I.turned (λb o hb e=>kk b o (by simpa using hb) e) f0 f1 f3 f4 f5;exact⟨_,rfl,M1 (s:={s with heap:=h',toks:=tk}) (n := "range_iterator") zi rfl rfl (by decide) ⟨.int (lo+(i:Int)*c),H,I1,⟨t,rfl⟩,⟨rfl,rfl⟩,zi,λb hb=>(hf b hb).1⟩⟩
 done:=by
  intro X hP hw hK hc i v0 s σ H E I hf st hg;subst hP hw hK;let⟨f0,f1,f2,f3,f4,f5⟩:=hf it (by simp);exact wpAny_pyNext_range_end (I.ok.hd hc) st (by have:n≤i:=hg;lia) λh' eb=>⟨rfl,I.turned (t':=s.toks) (λb o hb e=>eb b o hb e) f0 f1 f3 f4 f5⟩
 self:=λ_ _ _ _ _ st h=>wpAny_pyIter_rangeiter st h
section
variable {tg: Expr}
def acK(ta:Cm):Es:=λσ H R=>ta σ H λvs H1=>∃(i j c:Int) (n:Nat),vs=[.int i,.int j,.int c]∧(c=2∨c=-1)∧-(2^30)≤i∧i<2^30∧-(2^30)≤j∧j<2^30∧Builtin.Range.rangeSize i j c=(n:Int)∧R (eV i c n) H1
theorem uX{i j c:Int}{n:Nat}(hc:c=2∨c=-1)(h1:-(2^30)≤i)(h2:i<2^30)(h3:-(2^30)≤j)(h4:j<2^30)(hn:Builtin.Range.rangeSize i j c=(n:Int)):Builtin.Range.small i j c=true:=by
 have hs:(n:Int)≤2^32:=by
  rw[←hn];unfold Builtin.Range.rangeSize;rcases hc with rfl|rfl
  ·rw[AM (by decide)]
   split<;>lia
  ·rw[AE (by decide),show(- (-1:Int))=1 from rfl,Int.ediv_one]
   split<;>lia
 unfold Builtin.Range.small Builtin.Range.rangeFitsLong;rw[hn];rcases hc with rfl|rfl
 ·simp
  lia
 ·simp
  lia
theorem acX{a b c:Expr}{ta:Cm}{p pos:Pos}(hg:C6 X "range")(hm:X.mg "range" = none)(ha:PA X [a,b,c] ta)(hs:starEach [a,b,c] X.env=[(false,eval a X.env),(false,eval b X.env),(false,eval c X.env)]:=by rfl)(wI:starEach [b,c] X.env=[(false,eval b X.env),(false,eval c X.env)]:=by rfl):
  PI X tg (.Call (.Name "range" p) [a,b,c] [] pos) (acK ta):=by
 exact .mk ?_;intro v0 s σ H R I h;exact Call_ (KI I hg hm boot_range (Qz (AV (ha pos v0 s σ H _ I h) λus s1 ξ=>Ξ23 ξ λvs H1 I1 r1 q1=>?_) (by rw[hs,wI]) (by rw[wI];rfl)));let⟨i,j,c',n,e,hc,b1,b2,b3,b4,hn,q⟩:=q1;subst e;cases r1 with
 |cons r rr=>
  cases rr with
  |cons r' rr=>
   cases rr with
   |cons Xb rr=>
    cases rr;let⟨t,rfl⟩:=r;let⟨t',rfl⟩:=r';let⟨K1,rfl⟩:=Xb;exact call_range_3 (by rcases hc with rfl|rfl<;>decide) ?_ (.inl ?_)
    ·exact wpAny_pyIter_range (IsRange.new ..) (uX hc b1 b2 b3 b4 hn) ?_
     have I2:Inv X v0 σ H1 {s1 with heap:=s1.heap.push {cls:=.type "range",data:=.fields #[.int i t,.int j t',.int c' K1]}}:=I1.kept (t':=s1.toks) λb o e=>Ba _ e;exact Ψ5 ((s1.heap.push {cls:=.type "range",data:=.fields #[.int i t,.int j t',.int c' K1]}).objs.size) ([(s1.heap.push {cls:=.type "range",data:=.fields #[.int i t,.int j t',.int c' K1]}).objs.size]) _ _ H1 ⟨rfl,I2.kept (t':=s1.toks) λb o e=>Ba _ e,uM _ i c' n,?_,λb hb=>?_,q⟩
     ·have e1:i+((0:Nat):Int)*c'=i:=by simp
      have e2:((n:Nat):Int)-((0:Nat):Int)=Builtin.Range.rangeSize i j c':=by rw[hn];lia
      show IsRangeIter _ _ (i+((0:Nat):Int)*c') (((n:Nat):Int)-((0:Nat):Int)) c'
      rw[e1,e2];exact Dh _ rfl
     ·have e:b=(s1.heap.push {cls:=.type "range",data:=.fields #[.int i t,.int j t',.int c' K1]}).objs.size:=by simpa using hb
      subst e;exact I2.yz (Ax _) (I2.cN.fresh (Ax _))
    ·exact qM ?_
     rcases hc with rfl|rfl<;>decide
end
section
theorem Key:FN X (.type "int") (λxs H Q=>∃b:Bool,xs=[.bl b]∧Q (.int (if b=true then 1 else 0)) H):=by
 intro v0 s σ H xs us Q I r h;let⟨b,rfl,q⟩:=h;let⟨u,rfl,rx⟩:=vals1 r;cases rx;exact call_int_1 (meets_int_new_bool b) ?_;exact⟨typeIs_int _ _ _,.int _,H,I.tok _,⟨_,rfl⟩,q⟩
def yT(K:W.Frag)(a:Addr)(xs:List V):Prop:=∃(o:Obj) (bg:Array Value) (n:Nat),K.lookup a=some o∧o.cls=.type "tuple" ∧ o.data=.seq bg n∧bg.size≤sizeLine∧Vals xs bg.toList
theorem yT.sq{H:A7}{a:Addr}{xs:List V}(h:yT K a xs):js K H a xs:=.inr h
end
end L2
namespace L2
open PySem PySem.Spec PyProof.Rows
variable {ss:List Str}{n:Nat}{X: Cx}
def zd(P:Program)(w:World)(K:W.Frag)(mg:KK)(base:Heap)(C:Addr)(m:Str)(k:Nat)(ps:List Str)(sp:Dc):Prop:=
 ∃f fd,bJ P w K mg base BK k f fd ps sp∧rB K C∧Meth K C m f∧Binds K fd ps []
def bV(P:Program)(w:World)(K:W.Frag)(mg:KK)(base:Heap)(C:Addr)(m:Str)(k:Nat)(ps:List Str)(sp:Dc):Prop:=
 ∃f fd,bJ P w K mg base (DC P w) k f fd ps sp∧rB K C∧Meth K C m f∧Binds K fd ps []
def yX(P:Program)(w:World)(K:W.Frag)(mg:KK)(base:Heap)(C:Addr)(k:Nat)(ps:List Str)(sp:Dc):Prop:=
 ∃f fd,bJ P w K mg base BK k f fd ps sp∧Oy K C f∧Binds K fd ps []
section
theorem lN:By X (binaryOp .Add) (λx y H Q=>∃l b xs zs,x=.ref l∧y=.ref b∧jK X.K H l xs∧jK X.K H b zs∧xs.length+zs.length≤sizeLine∧∀p,H p=none→Q (.ref p) (Aa H p (.lst (xs++zs)))):=by
 intro v0 s σ H x y v u Q I rx ry h;let⟨l,b,xs,zs,rfl,rfl,hH,hB,hz,q⟩:=h;cases rx;cases ry;let⟨bg,r,pl,z⟩:=I.list hH;let⟨qx,r2,DP,z2⟩:=I.list hB;have l1:=r.length;have l2:=r2.length;obtain⟨⟨cls,dd,data,sl⟩,ho,hc,n,hd⟩:=pl.isList;obtain⟨⟨Z2,ZX,data2,Jp⟩,RF,FY,n2,hd2⟩:=DP.isList;simp only at hc hd FY hd2;subst hc hd FY hd2;have e:bg.toArray++qx.toArray=(bg++qx).toArray:=by simp
 exact concat_meets ⟨_,ho,rfl⟩ ⟨_,RF,rfl⟩ noFill_list_add seq_list_add PySem.F.slot_list_add PySem.F.entry_list_add (PySem.F.args_list_add_2 _ _) (list_addW l b bg.toArray qx.toArray n n2 dd ZX sl Jp (by simp only[D5];lia)) ⟨ho,RF,?_⟩;rw[e];exact Ψ2 (.ref _) _ ⟨I.Px (t':=s.toks) (r.append r2) (by rw[AG];lia),rfl,q _ I.fresh⟩
theorem tX:FN X (.type "int") (λxs H Q=>∃(z:Str) (n:Int),xs=[.str z]∧z.length≤640∧PySem.intText? z=some n∧Q (.int n) H):=by
 intro v0 s σ H xs us Q I r h;let⟨z,n,rfl,hl,hn,q⟩:=h;let⟨u,rfl,rx⟩:=vals1 r;let⟨t,rfl⟩:=rx;exact W.KIN.call_text hn hl ⟨.int n,H,I.tok _,⟨_,rfl⟩,q⟩
theorem zp:Iy X "str.startswith" (λx vs H Q=>∃(z y:Str) (i:Int),x=.str z∧vs=[.str y,.int i]∧Q (.bl (fromIndex z.length i+y.length≤z.length&&Builtin.Str.subAt z y (fromIndex z.length i))) H):=by
 intro v0 s σ H x vs v us Q I rx rv h;let⟨z,y,i,rfl,rfl,q⟩:=h;let⟨t,rfl⟩:=rx;cases rv with
 |cons r1 r2=>
  cases r2 with
  |cons r3 r4=>
   cases r4;let⟨t1,rfl⟩:=r1;let⟨t2,rfl⟩:=r3;exact call_givesAt F.slot_str_startswith (HG s z t) F.entry_str_startswith (F.args_str_startswith_3 _ _ _) (P:=λ_=>True) (Gives.at (gives_str_startswith_from z y i t t1 t2)) trivial ⟨.bl _,H,I,rfl,q⟩
def S(l:List Nat):Str:=⟨l.toArray⟩
def B9(sep:List Nat):List (List Nat)→List Nat
 |[]=>[]
 |x::r=>x++(r.map λy=>sep++y).flatten
theorem lA(sep:List Nat):∀(ls:List (List Nat)) (x:List Nat),(ls.map S).foldl (λacc (p:Str)=>acc++(S sep).cps++p.cps) x.toArray=(x++(ls.map λy=>sep++y).flatten).toArray
 |[],x=>by simp
 |y::r,x=>by
  rw[CV,KP];have:x.toArray++(S sep).cps++(S y).cps=(x++(sep++y)).toArray:=by simp[S]
  rw[this,lA sep r];simp
theorem uE(sep:List Nat)(ls:List (List Nat)):Builtin.Str.glued (S sep) (ls.map S)=S (B9 sep ls):=by
 cases ls with
 |nil=>rfl
 |cons x r=>
  show(⟨(r.map S).foldl (λacc (p:Str)=>acc++(S sep).cps++p.cps) (S x).cps⟩:Str)=_
  rw[show(S x).cps=x.toArray from rfl,lA];rfl
theorem kZ(sep:Nat):∀(ls:List (List Nat)) (n:Nat),(ls.map S).foldl (λa (p:Str)=>a+p.length+sep) n=n+(ls.map λl=>l.length+sep).sum
 |[],n=>by simp
 |y::r,n=>by
  rw[CV,KP,kZ sep r,CV,Hl];have:(S y).length=y.length:=by simp[S,Str.length]
  rw[this];lia
theorem Ad(l:List Nat):(S l).length=l.length:=by simp[S,Str.length]
theorem HI(sep:List Nat):∀(ls:List (List Nat)),(B9 sep ls).length≤(ls.map λl=>l.length+sep.length).sum
 |[]=>by simp[B9]
 |x::r=>by
  unfold B9;rw[AG,UQ,Fo,CV,Hl];have:(r.map (List.length ∘ λy=>sep++y))=r.map λl=>l.length+sep.length:=by
   exact Q8 λy _=>?_;simp[Nat.add_comm]
  rw[this];lia
theorem abM:Iy X "str.join" (λx vs H Q=>∃(p:Addr) (sep:List Nat) (ls:List (List Nat)),x=.str (S sep)∧vs=[.ref p]∧jK X.K H p (ls.map λl=>V.str (S l))∧(ls.map λl=>l.length+sep.length).sum≤sizeLine∧Q (.str (S (B9 sep ls))) H):=by
 intro v0 s σ H x vs v us Q I rx rv h;let⟨p,sep,ls,rfl,rfl,hq,hs,q⟩:=h;let⟨t,rfl⟩:=rx;let⟨u,rfl,ru⟩:=rv.one;cases ru;have em:(ls.map λl=>V.str (S l))=(ls.map S).map V.str:=by rw[Fo];rfl
 rw[em]at hq;let⟨bg,r,pl,hz⟩:=I.list hq;let⟨l,rfl,el⟩:=pS r;have hl:Builtin.Str.tooLong ((l.map (·.1)).toArray.foldl (· + ·.length+(S sep).length) 0)=false:=by
  unfold Builtin.Str.tooLong;rw[List.foldl_toArray,el,Ad,kZ];exact BW (by lia)
 exact JA F.slot_str_join (HG s _ t) F.entry_str_join (F.args_str_join_2 _ _) (meets_str_join_list (S sep) t p l hl) ⟨pl.isList,?_⟩;have hg:=uE sep ls;rw[←el]at hg;have hlen:(S (B9 sep ls)).length≤sizeLine:=by rw[Ad];exact Ce (HI sep ls) hs
 match l,hg with
 |[],hg=>exact⟨by rw[hg];exact hlen,.str (Builtin.Str.glued (S sep) (([]:List (Str×Tok)).map (·.1))),H,I.tok _,⟨_,rfl⟩,by rw[hg];exact q⟩
 |[y],hg=>exact Ψ2 (.str y.1) H ⟨I,⟨y.2,rfl⟩,by rw[←hg]at q;exact q⟩
 |y::z::r,hg=>
  exact⟨?_,.str (Builtin.Str.glued (S sep) ((y::z::r).map (·.1))),H,I.tok _,⟨_,rfl⟩,by rw[hg];exact q⟩;rw[hg];exact hlen
def kU(ss:List Str)(S:Str→Bool)(n:Nat):Prop:=(∀k,S k=true↔k∈ss)∧((ss.Nodup∧n=ss.length)∨(¬ss.Nodup∧n<ss.length))
theorem kU.nil:kU [] (λ_=>false) 0:=⟨λk=>by simp,.inl ⟨OW,rfl⟩⟩
theorem kU.le{S:Str→Bool}(h:kU ss S n):n≤ss.length:=by
 rcases h.2 with⟨_,h⟩|⟨_,h⟩<;>lia
theorem kU.snoc{S:Str→Bool}{k:Str}(h:kU ss S n):kU (ss++[k]) (λk'=>S k'||decide (k'=k)) (more S n k):=by
 let⟨h1,h2⟩:=h;exact⟨λk'=>by rw[Jf,F9,h1 k',aaH,aau],?_⟩;have e:(ss++[k]).Nodup↔ss.Nodup∧k∉ss:=by
  rw[K0];constructor
  ·intro⟨a,_,b⟩
   exact⟨a,λm=>b k m k (by simp) rfl⟩
  ·intro⟨a,b⟩
   exact⟨a,by simp,λx hx y hy e=>b ?_⟩;rw[aau]at hy;rw[←hy,←e];exact hx
 rw[e,AG];show(_∧(if S k=true then n else n+1)=_)∨(_∧(if S k=true then n else n+1)<_)
 by_cases c:S k=true
 ·rw[AM c]
  have m:=(h1 k).mp c;rcases h2 with⟨a,b⟩|⟨a,b⟩
  ·exact .inr ⟨λz=>z.2 m,by rw[b];exact Jk _⟩
  ·exact .inr ⟨λz=>z.2 m,dM b⟩
 ·rw[AE c]
  have m:k∉ss:=λz=>c ((h1 k).mpr z);rcases h2 with⟨a,b⟩|⟨a,b⟩
  ·exact .inl ⟨⟨a,m⟩,by rw[b];rfl⟩
  ·exact .inr ⟨λz=>a z.1,Nat.succ_lt_succ b⟩
end
section
theorem uW:b7 X (λx H Q=>∃z:Str,x=.str z∧z.length≤sizeLine∧∀y:Str,y.length≤z.length→(∀c∈y.cps.toList,c∈z.cps.toList)→Q (.str y) H):=by
 intro v0 s σ H x v vs sl Q I rx hs ps h;let⟨z,rfl,hz,q⟩:=h;let⟨t,rfl⟩:=rx;exact Ψ2 ("str") _ ⟨F.slot_str_getitem.lookup,HG _ z t,?_⟩;let⟨o,h1,h2,h3⟩:=hs;cases ps with
 |int j t'=>
  exact wpAny_getItem_str_slice (l:=none) (u:=none) (st:=some (-1,t')) ⟨o,h1,h2,h3⟩ rfl ?_;unfold sliceMade slicePicked;show(if((-1:Int)==1&&(Builtin.Str.strSliceIndices none none (-1) z.length).length==z.length)=true then Made.val (.str z t)else .str ⟨((Builtin.Str.strSliceIndices none none (-1) z.length).filterMap (z.cps[·]?)).toArray⟩).post _ _
  rw[AE (by rw[show((-1:Int)==1)=false from rfl,Dq];exact DH)];have hl:(Str.mk ((Builtin.Str.strSliceIndices none none (-1) z.length).filterMap (z.cps[·]?)).toArray).length≤z.length:=by
   show((Builtin.Str.strSliceIndices none none (-1) z.length).filterMap (z.cps[·]?)).toArray.size≤z.length
   rw[D5];exact Ce (List.length_filterMap_le _ _) ?_;rw[picked_rev,Ae,eY];exact Ax _
  exact⟨Ce hl hz,.str _,H,I.tok _,⟨_,rfl⟩,q _ hl λc hc=>?_⟩;have hc:c∈(Builtin.Str.strSliceIndices none none (-1) z.length).filterMap (z.cps[·]?):=by simpa using hc
  let⟨i,_,e⟩:=abz.mp hc;exact Array.mem_toList_iff.mpr (Array.mem_of_getElem? e)
end
abbrev upd:=St→A7→(St→A7→Prop)→Prop
end L2
namespace L2
open PySem PySem.Spec PyProof.Rows
section
variable {κ: Type}[DecidableEq κ]
end
section
variable {P: Program}{w: World}{H: A7}{h: Heap}{a: Addr}
theorem mX{u:HO}(ok:oM P w H h)(e:Rd H a u):cZ P w H h a u:=e.ok ok
end
structure gz(X:Cx)(o:Expr)(m:Str)(apos:Pos)(e:Expr)(eE:Pos):Prop where
 base:attributeBase o m X.env (eval o X.env)=eval o X.env
 UA:((backTo eE (starEach [e] X.env)).all (λx=>!x.1)&&(backToKw eE (keywordEach [] X.env)).all (λx=>x.1.isSome)
  && decide (([e]:List Expr).length+([]:List Keyword).length+(if([]:List Keyword).isEmpty then 0 else 1)<30))=true
 line:(apos.endLine==eE.line)=true
 trees:backTo eE (starEach [e] X.env)=[(false,eval e X.env)]
structure nI(X:Cx)(o:Expr)(m:Str)(apos:Pos)(e f:Expr)(eE:Pos):Prop where
 base:attributeBase o m X.env (eval o X.env)=eval o X.env
 UA:((backTo eE (starEach [e,f] X.env)).all (λx=>!x.1)&&(backToKw eE (keywordEach [] X.env)).all (λx=>x.1.isSome)
  && decide (([e,f]:List Expr).length+([]:List Keyword).length+(if([]:List Keyword).isEmpty then 0 else 1)<30))=true
 line:(apos.endLine==eE.line)=true
 trees:backTo eE (starEach [e,f] X.env)=[(false,eval e X.env),(false,eval f X.env)]
end L2
namespace L2
open PySem PySem.Spec PyProof.Rows
section
variable {κ: Type}[DecidableEq κ]
end
section
variable {X: Cx}{C: Addr}{m: Str}{k j: Nat}{ps: List Str}{sp: Dc}{o e: Expr}{es: List Expr}{ta: Ah}{t: Cm}{apos pos: Pos}{W: St→BG}
def kf(C:Addr)(m:Str)(sp:Dc)(W:St→BG)(ta:Ah)(t:Cm):Ah:=λσ H Q=>ta σ H λx H1=>∃a dx fs,x=.ref a∧H1 a=some (.ins C dx fs)∧fs.lookup m=none∧t σ H1 λvs H2=>sp (.ref a::vs) H2 Q (W σ)
theorem ud{pl:Sem Bool}(c:bV X.prog X.w X.K X.mg X.base C m k ps sp)(hr:dH j X.A)(hk:k≤j)(hx:Jz X W)(he:PE X o ta)(ha:PA X (e::es) t)
  (oJ:starEach (e::es) X.env=(false,eval e X.env)::starEach es X.env:=by rfl) (iM:(backTo pos (starEach es X.env)).any (·.1)=false:=by rfl)
  (ht:eval (.Call (.Attribute o m apos) (e::es) [] pos) X.env=(do
   let ov ←eval o X.env
   standAt apos.atName
   let(f,first) ←holding [ov] (getMethod ov m pl)
   callWith pos f first (backTo pos (starEach (e::es) X.env)) (backToKw pos (keywordEach [] X.env))):=by rfl) :
  PE X (.Call (.Attribute o m apos) (e::es) [] pos) (kf C m sp W ta t):=by
 exact .mk ?_;obtain⟨f,fd,F,c,hm,b⟩:=c;intro v0 s σ H Q I h;exact OY (pl:=pl) (AV (he v0 s σ H _ I h) λu s1⟨x,H1,I1,rx,a,dx,fs,ex,ea,l,q⟩=>?_) ht;subst ex;obtain rfl:u=Value.ref a:=rx;exact Qf I1 ea c hm l ?_;exact La (first:=[.ref a]) (h₀:=X.base) I.ok.mod.JJ hm.kp (AV (ha pos v0 s1 σ H1 _ I1 q) λus s2 ξ=>Ξ23 ξ λvs H2 I2 r q2=>⟨I2.kN,?_⟩) oJ iM;have r2:Vals (V.ref a::vs) (Value.ref a::us):=.cons rfl r;have hl:(Value.ref a::us).length=ps.length:=by rw[←r2.length];exact F.len _ _ _ _ q2
 have hb:=b s2 (Value.ref a::us) I2.kN (by rw[BV];exact hl);rw[BV]at hb;exact K4 (JY (F.run X.A X.stack s2 H2 ⟨Value.ref a::us,[]⟩ (Value.ref a::us) (V.ref a::vs) Q (W σ) (hr.mono hk) I2.Fi hb r2 q2) λr' s' hq=>?_);cases r' with
 |error e=>exact hx v0 σ H2 s2 e s' I2 hq
 |ok fl=>
  cases fl with
  |ret u=>exact I2.after hq
  |next=>exact False.elim hq
  |brk=>exact False.elim hq
  |cont=>exact False.elim hq
end
end L2
namespace Sr
open PySem PyProof.Rows
section
variable {Kk: Type}[DecidableEq Kk]
end
end Sr
namespace Sr
open PySem PyProof.Rows
section
variable {K: Type}[DecidableEq K]
end
end Sr
namespace Sr
open PySem PyProof.Rows
section
variable {Kk: Type}[DecidableEq Kk]
end
end Sr
namespace Sr
open PySem PyProof.Rows
abbrev rv(out:Array Keyed):List Keyed:=out.toList.reverse
end Sr
namespace Sr
open PySem PyProof.Rows
section
variable {Kk: Type}[DecidableEq Kk]
end
end Sr
namespace L2
open PySem PySem.Spec
variable {X: Cx}
section
variable {C: Addr}{m: Str}{k j: Nat}{ps: List Str}{sp: Dc}{o: Expr}{ta: Ah}{apos pos: Pos}{W: St→BG}
theorem aaE{pl:Sem Bool}(c:bV X.prog X.w X.K X.mg X.base C m k ps sp)(hr:dH j X.A)(hk:k≤j)(hx:Jz X W)(he:PE X o ta)
  (ht:eval (.Call (.Attribute o m apos) [] [] pos) X.env=(do
   let ov ←eval o X.env
   standAt apos.atName
   let(f,first) ←holding [ov] (getMethod ov m pl)
   callWith pos f first (backTo pos (starEach [] X.env)) (backToKw pos (keywordEach [] X.env))):=by rfl) :
  PE X (.Call (.Attribute o m apos) [] [] pos) (kf C m sp W ta Pc):=by
 exact .mk ?_;obtain⟨f,fd,F,c,hm,b⟩:=c;intro v0 s σ H Q I h;exact OY (pl:=pl) (AV (he v0 s σ H _ I h) λu s1⟨x,H1,I1,rx,a,dx,fs,ex,ea,l,q⟩=>?_) ht;subst ex;obtain rfl:u=Value.ref a:=rx;exact Qf I1 ea c hm l ?_;exact PySem.W.callWith_K0 (first:=[.ref a]) I1.kN hm.kp ?_;have r2:Vals [V.ref a] [Value.ref a]:=.cons rfl .nil;have hl:[Value.ref a].length=ps.length:=by rw[←r2.length];exact F.len _ _ _ _ q
 have hb:=b s1 [Value.ref a] I1.kN (by rw[BV];exact hl);rw[BV]at hb;exact K4 (JY (F.run X.A X.stack s1 H1 ⟨[Value.ref a],[]⟩ [Value.ref a] [V.ref a] Q (W σ) (hr.mono hk) I1.Fi hb r2 q) λr' s' hq=>?_);cases r' with
 |error e=>exact hx v0 σ H1 s1 e s' I1 hq
 |ok fl=>
  cases fl with
  |ret u=>exact I1.after hq
  |next=>exact False.elim hq
  |brk=>exact False.elim hq
  |cont=>exact False.elim hq
end
section
theorem abV:By X (binaryOp .Mult) (λx y H Q=>∃z k,x=.str z∧y=.int k∧-(2^62)<k∧k≤5000∧z.length≤1000∧Q (.str (ED z k.toNat)) H):=by
 intro v0 s σ H x y v u Q I rx ry h;let⟨z,k,rfl,rfl,k1,k2,z1,q⟩:=h;let⟨t,rfl⟩:=rx;let⟨t',rfl⟩:=ry;have hr:(decide (k < -(2^63:Int))||decide (k ≥ 2^63))=false:=by
  rw[BW (by lia),BW (by lia)];rfl
 have hm:z.length*k.toNat≤1000*5000:=Ot z1 (by lia);have hs:(1000*5000:Nat)≤sizeLine:=by decide
 exact PySem.P.mul_str hr (λh1 _=>?_) (λh1 _=>?_) ?_
 ·have e:(2^63-1:Int)/k ≥ 1844674407370955:=by
   rw[ge_iff_le,Int.le_ediv_iff_mul_le (by lia)];lia
  lia
 ·show decide (z.length*k.toNat>sizeLine)=false
  exact BW (by lia)
 ·by_cases c:k<1
  ·rw[AM c]
   exact⟨by decide,.str Str.empty,H,I.tok _,⟨_,rfl⟩,?_⟩;rw[Pl (.inl (by lia))]at q;exact q
  ·rw[AE c]
   by_cases c2:(k==1||z.length==0)=true
   ·rw[AM c2]
    exact Ψ2 (.str z) H ⟨I,⟨t,rfl⟩,?_⟩;rw[Jf,abl,abl]at c2;rcases c2 with rfl|c2
    ·rw[show(1:Int).toNat=1 from rfl,mV]at q
     exact q
    ·rw[Pl (.inr c2)]at q
     have ez:z=Str.empty:=by
      show(⟨z.cps⟩:Str)=⟨#[]⟩
      congr 1
      exact jT c2
     rw[ez];exact q
   ·rw[AE c2]
    exact⟨?_,.str (ED z k.toNat),H,I.tok _,⟨_,rfl⟩,q⟩;show(ED z k.toNat).length≤sizeLine
    rw[Lb,Nat.mul_comm];lia
end
section
theorem zr:Iy X "str.index" (λx vs H Q=>∃(z y:Str) (i:Nat) (r:List Nat),x=.str z∧vs=[.str y]∧Builtin.Str.occurrences z y 0 z.length 1=i::r∧Q (.int (i:Nat)) H):=by
 intro v0 s σ H x vs v us Q I rx rv h;let⟨z,y,i,r,rfl,rfl,e,q⟩:=h;let⟨t,rfl⟩:=rx;cases rv with
 |cons r1 r2=>
  cases r2;let⟨t1,rfl⟩:=r1;exact call_givesAt F.slot_str_index (HG s z t) F.entry_str_index (F.args_str_index_2 _ _) (P:=λ_=>True) (Gives.at (gives_str_index z y t t1 i r e)) trivial ⟨.int _,H,I.tok _,⟨_,rfl⟩,q⟩
theorem oC:∀(l:List (Str×Tok)),Vals ((l.map (·.1)).map V.str) (strValues l)
 |[]=>.nil
 |(x,t)::r=>.cons ⟨t,rfl⟩ (oC r)
theorem aah:Iy X "str.split" (λx vs H Q=>∃z y:Str,x=.str z∧vs=[.str y]∧(y.length==0)=false∧z.length+2≤sizeLine∧∀l,H l=none→Q (.ref l) (Aa H l (.lst ((Txt.split z y).map V.str)))):=by
 intro v0 s σ H x vs v us Q I rx rv h;let⟨z,y,rfl,rfl,hy,HK,q⟩:=h;let⟨t,rfl⟩:=rx;cases rv with
 |cons r1 r2=>
  cases r2;let⟨u,rfl⟩:=r1;have hn:(Builtin.Str.partsBetween z (Builtin.Str.occurrences z y 0 z.length (z.length+1)) y.length).length≤sizeLine:=by
   have e1:=StrLaws.occ_length_le z y 0 z.length (z.length+1);rw[length_partsBetween];lia
  have fin:∀(l:List (Str×Tok)) (k:Nat),l.map (·.1)=Txt.split z y→l.length≤sizeLine→Cf X v0 σ Q (.ref s.heap.objs.size) {s with toks:=k,heap:=s.heap.push {cls:=.type "list",data:=.seq (strValues l).toArray}}:=λl k e hl=>by
   exact Ψ2 (.ref s.heap.objs.size) _ ⟨I.laid (t':=k) (λb o e=>Ba _ e) (Ax _) (show cZ X.prog X.w _ _ _ (.lst ((Txt.split z y).map V.str))from⟨?_,strValues l,0,?_,Dh _ rfl⟩),rfl,q _ (I.cN.fresh (Ax _))⟩
   ·rw[←e,Ae,Ae];exact hl
   ·rw[←e];exact oC l
  cases h1:(decide (z.length<y.length)||decide (Builtin.Str.strKind z<Builtin.Str.strKind y))
  ·cases hf:(Builtin.Str.occurrences z y 0 z.length (z.length+1)).isEmpty
   ·exact JA Sn (HG _ _ _) Zm (ah _ _) (meets_str_split_sep z y t u h1 hy hf (by lia) hn) ?_
    have e:=fin (numbered s.toks (Builtin.Str.partsBetween z (Builtin.Str.occurrences z y 0 z.length (z.length+1)) y.length)) (s.toks+(Builtin.Str.partsBetween z (Builtin.Str.occurrences z y 0 z.length (z.length+1)) y.length).length) ((numbered_texts _ _).trans ((AE (eD h1)).trans (AE (eD hf))).symm) (by have:=Ai List.length (numbered_texts s.toks (Builtin.Str.partsBetween z (Builtin.Str.occurrences z y 0 z.length (z.length+1)) y.length));rw[Ae]at this;lia);rw[←strsFrom_eq]at e;exact e
   ·exact JA Sn (HG _ _ _) Zm (ah _ _) (meets_str_split_not_found z y t u h1 hy hf)
     (fin [(z,t)] s.toks ((AE (eD h1)).trans (AM hf)).symm (by show 1≤_;lia))
  ·exact JA Sn (HG _ _ _) Zm (ah _ _) (meets_str_split_cannot_occur z y t u h1)
    (fin [(z,t)] s.toks (AM h1).symm (by show 1≤_;lia))
end
end L2
namespace Sto
abbrev pad:=Int×Int
abbrev ent:=Int×Int×Int
end Sto
namespace L3
open PySem PySem.Spec L2
open PyProof.Rows hiding St
variable {Γ Γ1 Γ':AS}{a p:Addr}{o:HO}{b neg:Bool}{u:Value}{K:W.Frag}{vs:List V}{xs ts us:List T}{i j:Int}{v:V}{x:T}{H:A7}{H': A7}{o3 o2:O}{Y: G6}{E: St→BG}{Z:Bh→AS→Prop}{Q:Option Int→AS→Prop}{e tg c:Expr}{t ta:DA}{t' t0:D0}{z qual:Str}{pos p2 np eE: Pos}{n Ty:String}{r:T→AS→DI→Prop}{tb:CC}{v4:List Expr}{tc:DJ}{es: List Expr}{g:FG}{gs:Jn}{k:Nat}{to ti te tl:Ab}{body:List Stmt}{wi:I3}{τ: Bh}{own ps:List Str}{cap:List (Nat×Str)}{N: Bh→AS→Prop}{f:Value→Value→Sem Value}{C:Int→Int→Prop}{g3:Int→Int→T}{th:J8}{Tn: String}{l:List Addr}{st:Stmt}{fd:FuncData}{sp:B2}{A:List T→AS→Prop}{I:List T→(AS→Prop)→AS→Prop}{X: Cx}{D: KZ}
inductive T where
 |non|bl (b:Bool)|int (i:Int)|str (z:Str)|tup (ts:List T)|ref (a:Addr)|ty (n:String)
 /-- a list N4 S5 changes (zf xD) -/
 |scr (K:W.Frag) (a:Addr) (ts:List T)
def IM(K:W.Frag)(H:A7)(a:Addr)(vs:List V):Prop:=(∃o,H a=some (.frz o (.lst vs))) ∨
 ∃(o:Obj) (bg:Array Value) (n:Nat),K.lookup a=some o∧o.cls=.type "list" ∧ o.dict=none∧o.data=.seq bg n∧bg.size≤sizeLine∧Vals vs bg.toList
inductive O where
 |lst (ts:List T)
 |ins (C dx:Addr) (fs:List (Str×T))
 |own (x:Addr)
 |dK (lz:List (DF×T))
 |ext (φ:Heap→Prop)
 /-- zf table of a def N4 makes a Te -/
 |lam (q:Str) (pos:Pos)
abbrev AS:=Addr→Option O
def up(Γ:AS)(a:Addr)(o:O):AS:=λb=>if b=a then some o else Γ b
theorem AP{o:O}:up Γ a o a=some o:=by unfold up;rw[AM rfl]
theorem CB{b:Addr}{o:O}(h:b≠a):up Γ a o b=Γ b:=by unfold up;rw[AE h]
theorem DM{o u:O}:up (up Γ a o) a u=up Γ a u:=by
 funext b;unfold up;split<;>rfl
theorem CF{b:Addr}{o:O}(h:Γ a=some o)(h':Γ b=none):a≠b:=by
 intro e;subst e;rw[h]at h';cases h'
mutual
def R(H:A7):V→T→Prop
 |v,.non=>v=.non
 |v,.bl b=>v=.bl b
 |v,.int i=>v=.int i
 |v,.str z=>v=.str z
 |v,.ref a=>v=.ref a
 |v,.ty n=>v=.ty n
 |v,.tup ts=>∃a vs,v=.ref a∧H a=some (.tup vs)∧Rs H vs ts
 |v,.scr K a ts=>v=.ref a∧∃vs,IM K H a vs∧Rs H vs ts
def Rs(H:A7):List V→List T→Prop
 |vs,[]=>vs=[]
 |vs,t::r=>∃v ws,vs=v::ws∧R H v t∧Rs H ws r
end
def Tq(H H':A7):Prop:=(∀a vs,H a=some (.tup vs)→H' a=some (.tup vs))∧∀a o u,H a=some (.frz o u)→H' a=some (.frz o u)
section
variable {H: A7}
theorem Tq.refl:Tq H H:=⟨λ_ _ h=>h,λ_ _ _ h=>h⟩
theorem Tq.trans{H1:A7}(a:Tq H H1)(b:Tq H1 H'):Tq H H':=⟨λx vs h=>b.1 x vs (a.1 x vs h),λx o u h=>b.2 x o u (a.2 x o u h)⟩
theorem IM.mono(t:Tq H H')(h:IM K H a vs):IM K H' a vs:=by
 rcases h with⟨o,h⟩|h
 ·exact .inl ⟨o,t.2 _ _ _ h⟩
 ·exact .inr h
mutual
theorem R.mono(t:Tq H H'):∀{x:T} {v:V},R H v x→R H' v x
 |.non,v,h=>by unfold R at h ⊢;exact h
 |.bl _,v,h=>by unfold R at h ⊢;exact h
 |.int _,v,h=>by unfold R at h ⊢;exact h
 |.str _,v,h=>by unfold R at h ⊢;exact h
 |.ref _,v,h=>by unfold R at h ⊢;exact h
 |.ty _,v,h=>by unfold R at h ⊢;exact h
 |.tup ts,v,h=>by
  unfold R at h ⊢;let⟨a,vs,e,s,q⟩:=h;exact Ψ2 a vs ⟨e,t.1 a vs s,Rs.mono t q⟩
 |.scr K a ts,v,h=>by
  unfold R at h ⊢;let⟨e,⟨vs,s,q⟩⟩:=h;exact⟨e,vs,s.mono t,Rs.mono t q⟩
theorem Rs.mono(t:Tq H H'):∀{xs:List T} {vs:List V},Rs H vs xs→Rs H' vs xs
 |[],vs,h=>by unfold Rs at h ⊢;exact h
 |x::r,vs,h=>by
  unfold Rs at h ⊢;let⟨v,ws,e,p,q⟩:=h;exact Ψ2 v ws ⟨e,R.mono t p,Rs.mono t q⟩
end
theorem Rs.length:∀{xs:List T} {vs:List V},Rs H vs xs→vs.length=xs.length
 |[],vs,h=>by unfold Rs at h;subst h;rfl
 |x::r,vs,h=>by
  unfold Rs at h;let⟨v,ws,e,_,q⟩:=h;rw[e,Aw,Aw,Rs.length q]
theorem Rs.get:∀{xs:List T} {vs:List V} {i:Nat} {x:T},Rs H vs xs→xs[i]?=some x→∃v,vs[i]?=some v∧R H v x
 |[],vs,i,x,h,e=>by simp at e
 |y::r,vs,i,x,h,e=>by
  unfold Rs at h;let⟨v,ws,e1,p,q⟩:=h;subst e1;cases i with
  |zero=>cases e;exact⟨v,rfl,p⟩
  |succ i=>exact Rs.get (i:=i) q e
theorem Rs.HU{i:Nat}(h:Rs H vs xs)(e:vs[i]?=some v):∃x,xs[i]?=some x∧R H v x:=by
 have hl:=h.length;obtain⟨hi,_⟩:=aa9.mp e;have P7:i<xs.length:=by lia
 let⟨v',e',r⟩:=h.get (i:=i) (x:=xs[i]) (by simp[P7]);rw[e]at e';cases e';exact⟨xs[i],by simp[P7],r⟩
theorem Rs.app:∀{xs ys:List T} {vs ws:List V},Rs H vs xs→Rs H ws ys→Rs H (vs++ws) (xs++ys)
 |[],ys,vs,ws,h,h'=>by unfold Rs at h;subst h;exact h'
 |x::r,ys,vs,ws,h,h'=>by
  unfold Rs at h;let⟨v,us,e,p,q⟩:=h;subst e;show Rs H (v::(us++ws)) (x::(r++ys))
  unfold Rs;exact Ψ2 v _ ⟨rfl,p,Rs.app q h'⟩
theorem F1:Rs H [] []:=by unfold Rs;rfl
theorem Ez(a:R H v x)(b:Rs H vs xs):Rs H (v::vs) (x::xs):=by
 unfold Rs;exact Ψ2 v vs ⟨rfl,a,b⟩
theorem Fp(h:Rs H vs (x::xs)):∃v ws,vs=v::ws∧R H v x∧Rs H ws xs:=by unfold Rs at h;exact h
theorem G2(h:Rs H vs []):vs=[]:=by unfold Rs at h;exact h
theorem Rs.drop:∀{xs:List T} {vs:List V} (n:Nat),Rs H vs xs→Rs H (vs.drop n) (xs.drop n)
 |xs,vs,0,h=>h
 |[],vs,n+1,h=>by rw[G2 h];exact F1
 |x::r,vs,n+1,h=>by
  let⟨v,ws,e,_,q⟩:=Fp h;subst e;exact Rs.drop n q
theorem Rs.take:∀{xs:List T} {vs:List V} (n:Nat),Rs H vs xs→Rs H (vs.take n) (xs.take n)
 |xs,vs,0,h=>by rw[c0,c0];exact F1
 |[],vs,n+1,h=>by rw[G2 h];exact F1
 |x::r,vs,n+1,h=>by
  let⟨v,ws,e,p,q⟩:=Fp h;subst e;exact Ez p (Rs.take n q)
theorem Rs.reverse:∀{xs:List T} {vs:List V},Rs H vs xs→Rs H vs.reverse xs.reverse
 |[],vs,h=>by rw[G2 h];exact F1
 |x::r,vs,h=>by
  let⟨v,ws,e,p,q⟩:=Fp h;subst e;rw[OB,OB];exact Rs.app (Rs.reverse q) (Ez p F1)
theorem Rs.set:∀{xs:List T} {vs:List V} {v:V} {x:T} (n:Nat),Rs H vs xs→R H v x→Rs H (vs.set n v) (xs.set n x)
 |[],vs,v,x,n,h,p=>by rw[G2 h];exact F1
 |y::r,vs,v,x,0,h,p=>by
  let⟨u,ws,e,_,q⟩:=Fp h;subst e;exact Ez p q
 |y::r,vs,v,x,n+1,h,p=>by
  let⟨u,ws,e,p',q⟩:=Fp h;subst e;exact Ez p' (Rs.set n q p)
end
def Fs(H:A7):List (Str×V)→List (Str×T)→Prop:=Paired λ(p:Str×V) (q:Str×T)=>p.1=q.1∧R H p.2 q.2
def Ks(H:A7):List (DF×V)→List (DF×T)→Prop:=Paired λ(p:DF×V) (q:DF×T)=>p.1=q.1∧R H p.2 q.2
theorem fQ{α β:Type}{P Q:α→β→Prop}(h:∀a b,P a b→Q a b):∀{xs:List α} {ys:List β},Paired P xs ys→Paired Q xs ys
 |_,_,.nil=>.nil
 |_,_,.cons a b=>.cons (h _ _ a) (fQ h b)
theorem Fs.mono{H':A7}(t:Tq H H'){a:List (Str×V)}{b:List (Str×T)}(h:Fs H a b):Fs H' a b:=fQ (λ_ _ q=>⟨q.1,q.2.mono t⟩) h
theorem Ks.mono{H':A7}(t:Tq H H'){a:List (DF×V)}{b:List (DF×T)}(h:Ks H a b):Ks H' a b:=fQ (λ_ _ q=>⟨q.1,q.2.mono t⟩) h
def Ho(H:A7)(a:Addr):O→Prop
 |.lst ts=>∃vs,H a=some (.lst vs)∧Rs H vs ts
 |.ins C dx fs=>∃gs,H a=some (.ins C dx gs)∧Fs H gs fs
 |.own x=>H a=some (.own x)
 |.dK lz=>∃us,H a=some (.dK us)∧Ks H us lz
 |.ext φ=>H a=some (.ext φ)
 |.lam q pos=>zU H a q pos
def HR(H:A7)(Γ:AS):Prop:=∀a o,Γ a=some o→Ho H a o
structure gN(H:A7)(Γ:AS)(H':A7)(Γ':AS):Prop where
 tq:Tq H H'
 F6:∀a,H a≠none→H' a≠none
 new:∀a,H a≠none→Γ a=none→Γ' a=none
 FZ:∀a o,H a=some o→Γ a=none→H' a=some o
section
variable {H H1: A7}{Γ Γ' Γ1: AS}
theorem gN.refl:gN H Γ H Γ:=⟨.refl,λ_ h=>h,λ_ _ h=>h,λ_ _ h _=>h⟩
theorem gN.trans(a:gN H Γ H1 Γ1)(b:gN H1 Γ1 H' Γ'):gN H Γ H' Γ':=
 ⟨a.tq.trans b.tq,λx h=>b.F6 x (a.F6 x h),λx h g=>b.new x (a.F6 x h) (a.new x h g),λx o h g=>b.FZ x o (a.FZ x o h g) (a.new x (by rw[h];exactλz=>(nomatch z)) g)⟩
theorem Ho.mono{o:O}(t:Tq H H')(e:∀u,H a=some u→H' a=some u)(h:Ho H a o):Ho H' a o:=by
 cases o with
 |lst ts=>obtain⟨vs,h,r⟩:=h;exact⟨vs,e _ h,r.mono t⟩
 |ins C dx fs=>obtain⟨vs,h,r⟩:=h;exact⟨vs,e _ h,r.mono t⟩
 |own x=>exact e _ h
 |dK lz=>obtain⟨vs,h,r⟩:=h;exact⟨vs,e _ h,r.mono t⟩
 |ext φ=>exact e _ h
 |lam q pos=>
  rcases h with h|⟨c',oc,vs,t',u,h1,h2,h3⟩
  ·exact .inl (e _ h)
  ·exact .inr ⟨c',oc,vs,t',u,e _ h1,t.2 _ _ _ h2,h3⟩
theorem Ho.some{o:O}(h:Ho H a o):∃u,H a=some u∧(∀vs:List V,u≠.tup vs)∧∀b w,u≠.frz b w:=by
 cases o with
 |lst ts=>obtain⟨vs,h,r⟩:=h;exact⟨_,h,⟨λ_ z=>(nomatch z),λ_ _ z=>(nomatch z)⟩⟩
 |ins C dx fs=>obtain⟨vs,h,r⟩:=h;exact⟨_,h,⟨λ_ z=>(nomatch z),λ_ _ z=>(nomatch z)⟩⟩
 |own x=>exact⟨_,h,⟨λ_ z=>(nomatch z),λ_ _ z=>(nomatch z)⟩⟩
 |dK lz=>obtain⟨vs,h,r⟩:=h;exact⟨_,h,⟨λ_ z=>(nomatch z),λ_ _ z=>(nomatch z)⟩⟩
 |ext φ=>exact⟨_,h,⟨λ_ z=>(nomatch z),λ_ _ z=>(nomatch z)⟩⟩
 |lam q pos=>
  rcases h with h|⟨c',oc,vs,t',u,h,_⟩
  ·exact⟨_,h,⟨λ_ z=>(nomatch z),λ_ _ z=>(nomatch z)⟩⟩
  ·exact⟨_,h,⟨λ_ z=>(nomatch z),λ_ _ z=>(nomatch z)⟩⟩
theorem HR.free(h:HR H Γ)(n:H a=none):Γ a=none:=by
 cases e:Γ a with
 |none=>rfl
 |some o=>
  let⟨u,hu,_⟩:=(h a o e).some;rw[n]at hu;cases hu
theorem E7(k:∀b o,H b=some o→H' b=some o):Tq H H':=⟨λa vs h=>k _ _ h,λa o u h=>k _ _ h⟩
theorem gN.keep(k:∀b o,H b=some o→H' b=some o):gN H Γ H' Γ:=
 ⟨E7 k,λa h z=>by
  cases e:H a with
  |none=>exact h e
  |some o=>exact(by rw[k a o e]at z;cases z),λ_ _ h=>h,λa o h _=>k a o h⟩
theorem HR.keep(h:HR H Γ)(k:∀b o,H b=some o→H' b=some o):HR H' Γ:=λa o e=>(h a o e).mono (E7 k) (k a)
theorem Dy(h:H p=none):∀b u,H b=some u→Aa H p o b=some u:=λb u q=>by rw[BA (FA q h)];exact q
theorem gN.make(h:H p=none):gN H Γ (Aa H p o) (up Γ p o3):=by
 exact⟨E7 (Dy h),λa q z=>?_,λa q g=>?_,λa u q _=>Dy h a u q⟩
 ·by_cases e:a=p
  ·subst e;exact q h
  ·rw[BA e]at z;exact q z
 ·have e:a≠p:=λe=>q (by rw[e];exact h)
  rw[CB e];exact g
theorem HR.make(hr:HR H Γ)(h:H p=none)(k:Ho (Aa H p o) p o3):HR (Aa H p o) (up Γ p o3):=λa u e=>by
 by_cases z:a=p
 ·subst z;rw[AP]at e;cases e;exact k
 ·rw[CB z]at e
  exact(hr a u e).mono (E7 (Dy h)) λ_ q=>by rw[BA z];exact q
theorem LL{u:HO}(h:H a=some u)(n:(∀vs:List V,u≠.tup vs)∧∀b w,u≠.frz b w):Tq H (Aa H a o):=⟨λx vs q=>by
 have:x≠a:=λe=>by subst e;rw[h]at q;exact n.1 vs (Cr q)
 rw[BA this];exact q,λx b w q=>by
 have:x≠a:=λe=>by subst e;rw[h]at q;exact n.2 b w (Cr q)
 rw[BA this];exact q⟩
theorem gN.set(hr:HR H Γ)(g:Γ a=some o2):gN H Γ (Aa H a o) (up Γ a o3):=by
 let⟨u,hu,n⟩:=(hr a o2 g).some;exact⟨LL hu n,λx q z=>?_,λx q g'=>?_,λx w q g'=>?_⟩
 ·by_cases e:x=a
  ·subst e;rw[D3]at z;cases z
  ·rw[BA e]at z;exact q z
 ·have e:x≠a:=λe=>by subst e;rw[g]at g';cases g'
  rw[CB e];exact g'
 ·have e:x≠a:=λe=>by subst e;rw[g]at g';cases g'
  rw[BA e];exact q
theorem HR.set(hr:HR H Γ)(g:Γ a=some o2)(k:Ho (Aa H a o) a o3):HR (Aa H a o) (up Γ a o3):=λx u e=>by
 let⟨w,hw,n⟩:=(hr a o2 g).some;by_cases z:x=a
 ·subst z;rw[AP]at e;cases e;exact k
 ·rw[CB z]at e
  exact(hr x u e).mono (LL hw n) λ_ q=>by rw[BA z];exact q
theorem HR.hide{u:HO}(hr:HR H Γ)(g:Γ a=none)(h:H a=some u)(n:(∀vs:List V,u≠.tup vs)∧∀b w,u≠.frz b w):HR (Aa H a o) Γ:=λx w e=>by
 have z:x≠a:=λz=>by subst z;rw[g]at e;cases e
 exact(hr x w e).mono (LL h n) λ_ q=>by rw[BA z];exact q
end
abbrev Bh:=List (Option T)
abbrev G6:=Bh→Value→AS→Prop
abbrev DI:=T→AS→Prop
abbrev Ab:=G6→Bh→AS→DI→Prop
abbrev DJ:=G6→Bh→AS→(Bool→AS→Prop)→Prop
abbrev DA:=G6→Bh→AS→(List T→AS→Prop)→Prop
structure KZ where
 nx:Bh→AS→Prop
 rt:DI
 bk:Bh→AS→Prop:=λ_ _=>False
 ct:Bh→AS→Prop:=λ_ _=>False
abbrev CC:=G6→KZ→Bh→AS→Prop
def QZ(H:A7):Option V→Option T→Prop
 |_,none=>True
 |some v,some x=>R H v x
 |none,some _=>False
def RS(H:A7):St→Bh→Prop
 |[],[]=>True
 |v::r,x::q=>QZ H v x∧RS H r q
 |_,_=>False
section
variable {H: A7}{Γ Γ': AS}
theorem QZ.mono(t:Tq H H'){v:Option V}{x:Option T}(h:QZ H v x):QZ H' v x:=by
 cases x with
 |none=>exact trivial
 |some x=>cases v with
  |none=>exact h.elim
  |some v=>exact R.mono t h
theorem RS.mono(t:Tq H H'):∀{σ:St} {τ:Bh},RS H σ τ→RS H' σ τ
 |[],[],_=>trivial
 |_::_,_::_,h=>⟨h.1.mono t,RS.mono t h.2⟩
 |[],_::_,h=>h.elim
 |_::_,[],h=>h.elim
theorem RS.get:∀{σ:St} {τ:Bh} {i:Nat} {x:T},RS H σ τ→τ[i]?=some (some x)→∃v,σ[i]?=some (some v)∧R H v x
 |[],[],i,x,_,e=>by simp at e
 |v::r,y::q,i,x,h,e=>by
  cases i with
  |zero=>
   cases e;cases v with
   |none=>exact h.1.elim
   |some v=>exact⟨v,rfl,h.1⟩
  |succ i=>exact RS.get (i:=i) h.2 e
 |[],_::_,_,_,h,_=>h.elim
 |_::_,[],_,_,h,_=>h.elim
theorem RS.set(r:R H v x):∀{σ:St} {τ:Bh} (i:Nat),RS H σ τ→RS H (σ.set i (some v)) (τ.set i (some x))
 |[],[],_,_=>trivial
 |_::_,_::_,0,h=>⟨r,h.2⟩
 |_::_,_::_,i+1,h=>⟨h.1,RS.set r i h.2⟩
 |[],_::_,_,h=>h.elim
 |_::_,[],_,h=>h.elim
def XR(H:A7)(Γ:AS)(Y:G6)(E:St→BG):Prop:=∀σ τ C H' Γ',gN H Γ H' Γ'→HR H' Γ'→RS H' σ τ→Y τ C Γ'→E σ C none H'
theorem XR.mono{Y:G6}{E:St→BG}(x:XR H Γ Y E)(s:gN H Γ H' Γ'):XR H' Γ' Y E:=λσ τ C H2 Γ2 s2 h2 r y=>x σ τ C H2 Γ2 (s.trans s2) h2 r y
def VR(H:A7)(Γ:AS)(Z:DI)(Q:Ar):Prop:=∀v x H' Γ',gN H Γ H' Γ'→HR H' Γ'→R H' v x→Z x Γ'→Q v H'
theorem VR.mono{Z:DI}{Q:Ar}(x:VR H Γ Z Q)(s:gN H Γ H' Γ'):VR H' Γ' Z Q:=λv x' H2 Γ2 s2 h2 r y=>x v x' H2 Γ2 (s.trans s2) h2 r y
def NR(H:A7)(Γ:AS)(Z:Bh→AS→Prop)(Q:St→A7→Prop):Prop:=∀σ τ H' Γ',gN H Γ H' Γ'→HR H' Γ'→RS H' σ τ→Z τ Γ'→Q σ H'
theorem NR.mono{Q:St→A7→Prop}(x:NR H Γ Z Q)(s:gN H Γ H' Γ'):NR H' Γ' Z Q:=λv x' H2 Γ2 s2 h2 r y=>x v x' H2 Γ2 (s.trans s2) h2 r y
structure DR(H:A7)(Γ:AS)(Z:KZ)(Q:Ends):Prop where
 nx:NR H Γ Z.nx Q.nx
 rt:VR H Γ Z.rt Q.rt
 bk:NR H Γ Z.bk Q.bk
 ct:NR H Γ Z.ct Q.ct
theorem DR.mono{Z:KZ}{Q:Ends}(x:DR H Γ Z Q)(s:gN H Γ H' Γ'):DR H' Γ' Z Q:=⟨x.nx.mono s,x.rt.mono s,x.bk.mono s,x.ct.mono s⟩
end
section
variable (E: St→BG)
def AF(t:Ab):Ah:=λσ H Q=>∃τ Γ Y Z,RS H σ τ∧HR H Γ∧t Y τ Γ Z∧VR H Γ Z Q∧XR H Γ Y E
def Cv(t:DJ):D0:=λσ H Q=>∃τ Γ Y Z,RS H σ τ∧HR H Γ∧t Y τ Γ Z∧(∀b H' Γ',gN H Γ H' Γ'→HR H' Γ'→Z b Γ'→Q b H')∧XR H Γ Y E
def E8(t:DA):Cm:=λσ H Q=>∃τ Γ Y Z,RS H σ τ∧HR H Γ∧t Y τ Γ Z∧(∀vs xs H' Γ',gN H Γ H' Γ'→HR H' Γ'→Rs H' vs xs→Z xs Γ'→Q vs H')∧XR H Γ Y E
def CL(t:CC):Bu:=λD σ H=>∃τ Γ Y Z,RS H σ τ∧HR H Γ∧t Y Z τ Γ∧DR H Γ Z D∧XR H Γ Y E
end
section
theorem GU{t t':Ah}(h:PE X e t)(w:∀σ H Q,t' σ H Q→t σ H Q):PE X e t':=⟨λv0 s σ H Q I q=>h.run v0 s σ H Q I (w _ _ _ q)⟩
theorem Qu{t:D0}(h:PT X e t)(w:∀σ H Q,t' σ H Q→t σ H Q):PT X e t':=⟨λv0 s σ H Q I q=>h.run v0 s σ H Q I (w _ _ _ q)⟩
theorem abq{t:D0}(h:PW X e t)(w:∀σ H Q,t' σ H Q→t σ H Q):PW X e t':=⟨λwh v0 s σ H Q I q=>h.run wh v0 s σ H Q I (w _ _ _ q)⟩
theorem wr{e:List Expr}{t t':Cm}(h:PA X e t)(w:∀σ H Q,t' σ H Q→t σ H Q):PA X e t':=⟨λpos v0 s σ H Q I q=>h.run pos v0 s σ H Q I (w _ _ _ q)⟩
theorem iD{e:Stmt}{t t':Bu}(h:PS X e t)(w:∀D σ H,t' D σ H→t D σ H):PS X e t':=⟨λv0 s σ H D I q=>h.run v0 s σ H D I (w _ _ _ q)⟩
theorem aaq{e:List Stmt}{t t':Bu}(h:jU X e t)(w:∀D σ H,t' D σ H→t D σ H):jU X e t':=⟨λv0 s σ H D I q=>h.run v0 s σ H D I (w _ _ _ q)⟩
theorem vg{t t':Ed}(h:PG X e t)(w:∀v σ H Q,t' v σ H Q→t v σ H Q):PG X e t':=⟨λv0 s σ H v u Q I r q=>h.run v0 s σ H v u Q I r (w _ _ _ _ q)⟩
theorem uT{e:List Expr}{t t':HX}(h:Au X e t)(w:∀v σ H Q,t' v σ H Q→t v σ H Q):Au X e t':=⟨λv0 s σ H v u Q I r q=>h.run v0 s σ H v u Q I r (w _ _ _ _ q)⟩
theorem acU{t t':Es}(h:PI X tg e t)(w:∀σ H Q,t' σ H Q→t σ H Q):PI X tg e t':=⟨λv0 s σ H Q I q=>h.run v0 s σ H Q I (w _ _ _ q)⟩
theorem acp{e:List Expr}{t:D0}(h:wM X e t)(w:∀σ H Q,t' σ H Q→t σ H Q):wM X e t':=⟨λv0 s σ H Q I q=>h.run v0 s σ H Q I (w _ _ _ q)⟩
theorem EB{t0:Ah}{t:Ab}(h:PE X e t0)(w:∀σ H Q τ Γ Y Z,RS H σ τ→HR H Γ→t Y τ Γ Z→VR H Γ Z Q→XR H Γ Y E→t0 σ H Q):PE X e (AF E t):=
 GU h (by intro σ H Q⟨τ,Γ,Y,Z,rs,hr,q,vr,xr⟩;exact w σ H Q τ Γ Y Z rs hr q vr xr)
theorem abD{t:DJ}(h:PT X e t0)(w:∀σ H Q τ Γ Y Z,RS H σ τ→HR H Γ→t Y τ Γ Z→(∀b H' Γ',gN H Γ H' Γ'→HR H' Γ'→Z b Γ'→Q b H')→XR H Γ Y E→t0 σ H Q):PT X e (Cv E t):=
 Qu h (by intro σ H Q⟨τ,Γ,Y,Z,rs,hr,q,vr,xr⟩;exact w σ H Q τ Γ Y Z rs hr q vr xr)
theorem mJ{t:DJ}(h:PW X e t0)(w:∀σ H Q τ Γ Y Z,RS H σ τ→HR H Γ→t Y τ Γ Z→(∀b H' Γ',gN H Γ H' Γ'→HR H' Γ'→Z b Γ'→Q b H')→XR H Γ Y E→t0 σ H Q):PW X e (Cv E t):=
 abq h (by intro σ H Q⟨τ,Γ,Y,Z,rs,hr,q,vr,xr⟩;exact w σ H Q τ Γ Y Z rs hr q vr xr)
theorem nS{e:List Expr}{t0:Cm}(h:PA X e t0)(w:∀σ H Q τ Γ Y Z,RS H σ τ→HR H Γ→t Y τ Γ Z→(∀vs xs H' Γ',gN H Γ H' Γ'→HR H' Γ'→Rs H' vs xs→Z xs Γ'→Q vs H')→XR H Γ Y E→t0 σ H Q):PA X e (E8 E t):=
 wr h (by intro σ H Q⟨τ,Γ,Y,Z,rs,hr,q,vr,xr⟩;exact w σ H Q τ Γ Y Z rs hr q vr xr)
theorem aa0{e:List Expr}{t:DJ}(h:wM X e t0)(w:∀σ H Q τ Γ Y Z,RS H σ τ→HR H Γ→t Y τ Γ Z→(∀b H' Γ',gN H Γ H' Γ'→HR H' Γ'→Z b Γ'→Q b H')→XR H Γ Y E→t0 σ H Q):wM X e (Cv E t):=
 acp h (by intro σ H Q⟨τ,Γ,Y,Z,rs,hr,q,vr,xr⟩;exact w σ H Q τ Γ Y Z rs hr q vr xr)
theorem GB{e:Stmt}{t0:Bu}{t:CC}(h:PS X e t0)(w:∀D σ H τ Γ Y Z,RS H σ τ→HR H Γ→t Y Z τ Γ→DR H Γ Z D→XR H Γ Y E→t0 D σ H):PS X e (CL E t):=
 iD h (by intro D σ H⟨τ,Γ,Y,Z,rs,hr,q,dr,xr⟩;exact w D σ H τ Γ Y Z rs hr q dr xr)
theorem qv{e:List Stmt}{t0:Bu}{t:CC}(h:jU X e t0)(w:∀D σ H τ Γ Y Z,RS H σ τ→HR H Γ→t Y Z τ Γ→DR H Γ Z D→XR H Γ Y E→t0 D σ H):jU X e (CL E t):=
 aaq h (by intro D σ H⟨τ,Γ,Y,Z,rs,hr,q,dr,xr⟩;exact w D σ H τ Γ Y Z rs hr q dr xr)
section
variable {H: A7}
theorem Pf:R H .non .non:=by unfold R;rfl
theorem Dp:R H (.bl b) (.bl b):=by unfold R;rfl
theorem E0:R H (.int i) (.int i):=by unfold R;rfl
theorem GX:R H (.str z) (.str z):=by unfold R;rfl
theorem Em:R H (.ref a) (.ref a):=by unfold R;rfl
theorem aa1{a:String}:R H (.ty a) (.ty a):=by unfold R;rfl
theorem Py(h:H a=some (.tup vs))(r:Rs H vs ts):R H (.ref a) (.tup ts):=by unfold R;exact Ψ2 a vs ⟨rfl,h,r⟩
theorem L9(h:R H v .non):v=.non:=by unfold R at h;exact h
theorem Hi(h:R H v (.bl b)):v=.bl b:=by unfold R at h;exact h
theorem DZ{b:Int}(h:R H v (.int b)):v=.int b:=by unfold R at h;exact h
theorem D4{b:Str}(h:R H v (.str b)):v=.str b:=by unfold R at h;exact h
theorem CE{b:Addr}(h:R H v (.ref b)):v=.ref b:=by unfold R at h;exact h
theorem mH{b:String}(h:R H v (.ty b)):v=.ty b:=by unfold R at h;exact h
theorem Q5(h:R H v (.scr K a ts)):v=.ref a∧∃vs,IM K H a vs∧Rs H vs ts:=by unfold R at h;exact h
theorem zQ(h:IM K H a vs)(q:Rs H vs ts):R H (.ref a) (.scr K a ts):=by unfold R;exact⟨rfl,vs,h,q⟩
theorem IM.sq(h:IM K H a vs):jK K H a vs:=by
 rcases h with⟨o,h⟩|h
 ·exact .inl (.inr ⟨o,h⟩)
 ·exact .inr h
theorem Ie(h:R H v (.tup ts)):∃a vs,v=.ref a∧H a=some (.tup vs)∧Rs H vs ts:=by unfold R at h;exact h
end
def qF(i:Nat):Ab:=λ_ τ Γ Z=>∃x,τ[i]?=some (some x)∧Z x Γ
def JS(x:T):Ab:=λ_ _ Γ Z=>Z x Γ
theorem A0(i:Nat){x:Str}{pos:Pos}(hN:X.N[i]?=some x:=by rfl)(hv:Lm X.env.scope x:=by first|exact Or.inl rfl|exact Or.inr (Or.inl rfl)|exact Or.inr (Or.inr rfl))(hd:(x ==("__debug__" : Str))=false:=by decide)
  (yw:(x ==("__classdict__" : Str))=false:=by decide):PE X (.Name x pos) (AF E (qF i)):=
 EB (ib hN hv hd yw) λσ H Q τ Γ Y Z rs hr q0 vr xr=>by
  let⟨x,e,z⟩:=q0;let⟨v,hv,r⟩:=rs.get e;exact⟨v,hv,vr v x H Γ .refl hr r z⟩
theorem Kz(h:PE X e (J7 v))(r:∀H,R H v x):PE X e (AF E (JS x)):=
 EB h λσ H Q τ Γ Y Z rs hr z vr xr=>vr v x H Γ .refl hr (r H) z
theorem A5{i j pos}:PE X (.Constant (.int i) j pos) (AF E (JS (.int i))):=Kz abc λ_=>E0
theorem CQ{b j pos}:PE X (.Constant (.bool b) j pos) (AF E (JS (.bl b))):=Kz zy λ_=>Dp
theorem E6{j pos}:PE X (.Constant .none j pos) (AF E (JS .non)):=Kz z9 λ_=>Pf
theorem A9{x j pos}:PE X (.Constant (.str x) j pos) (AF E (JS (.str x))):=Kz uB λ_=>GX
def Ef(u:Value)(x:T):Prop:=∃v,RelV v u∧∀H,R H v x
theorem Dv{x:Str}{t:T}{pos:Pos}(hg:C6 X x)(hm:X.mg x=some u)(r:Ef u t)(hd:(x ==("__debug__" : Str))=false:=by decide):PE X (.Name x pos) (AF E (JS t)):=by
 obtain⟨v,r,h⟩:=r;exact Kz (zm hg hm r hd) h
theorem gl_int(h:RelV (.int i) u):Ef u (.int i):=⟨_,h,λ_=>E0⟩
theorem gl_str{i:Str}(h:RelV (.str i) u):Ef u (.str i):=⟨_,h,λ_=>GX⟩
theorem GA{i:Addr}:Ef (.ref i) (.ref i):=⟨.ref i,rfl,λ_=>Em⟩
theorem vo{x:Str}{pos:Pos}(hg:C6 X x)(hm:X.mg x=none)(hv:bootBuiltins x=some u)(r:RelV (.ty n) u)(hn:x ≠ "__name__" := by decide)(hd:(x ==("__debug__" : Str))=false:=by decide):PE X (.Name x pos) (AF E (JS (.ty n))):=
 Kz (nh hg hm hv r hn hd) λ_=>aa1
abbrev EO:=T→T→AS→DI→Prop
def Bt(X:Cx)(f:Value→Value→Sem Value)(r3:EO):Prop:=∃r:EE,By X f r∧∀x y a b H Γ Q Z,R H x a→R H y b→HR H Γ→r3 a b Γ Z→VR H Γ Z Q→r x y H Q
def Gx(r3:EO)(ta tb:Ab):Ab:=λY τ Γ Z=>ta Y τ Γ λx Γ1=>tb Y τ Γ1 λy Γ2=>r3 x y Γ2 Z
theorem Ma{r:EE}{r3:EO}{ta tb:Ab}(h:∀x y a b H Γ Q Z,R H x a→R H y b→HR H Γ→r3 a b Γ Z→VR H Γ Z Q→r x y H Q)(σ:St)(H:A7)(Q:Ar)(q:AF E (Gx r3 ta tb) σ H Q):NU r (AF E ta) (AF E tb) σ H Q:=by
 let⟨τ,Γ,Y,Z,rs,hr,t,vr,xr⟩:=q;exact Ψ4 τ Γ Y _ ⟨rs,hr,t,λv x H1 Γ1 s1 h1 r1 z1=>?_,xr⟩;exact Ψ4 τ Γ1 Y _ ⟨rs.mono s1.tq,h1,z1,λu y H2 Γ2 s2 h2 r2 z2=>?_,xr.mono s1⟩;exact h v u x y H2 Γ2 Q Z (r1.mono s2.tq) r2 h2 z2 (vr.mono (s1.trans s2))
section
variable {a b c: Expr}{ta tb tc: Ab}{op zK: CmpOp}{r3 Jw: EO}
theorem AA{op:Operator}(ho:Bt X (binaryOp op) r3)(ha:PE X a (AF E ta))(hb:PE X b (AF E tb)):PE X (.BinOp a op b pos) (AF E (Gx r3 ta tb)):=by
 obtain⟨r,ho,h⟩:=ho;exact GU (sj ho ha hb) (Ma h)
theorem LW(ho:Bt X (compareOp op) r3)(ha:PE X a (AF E ta))(hb:PE X b (AF E tb))(hm:behindInMarks op b=false):PE X (.Compare a [op] [b] pos) (AF E (Gx r3 ta tb)):=by
 obtain⟨r,ho,h⟩:=ho;exact GU (aa8 ho ha hb hm) (Ma h)
def LF(t:Ab):DJ:=λY τ Γ Z=>t Y τ Γ λx Γ1=>∃k,x=.bl k∧Z k Γ1
theorem bP{t2:Ah}{t:Ab}(h:∀σ H Q,AF E t σ H Q→t2 σ H Q)(σ:St)(H:A7)(Q:Bool→A7→Prop)(q:Cv E (LF t) σ H Q):bD t2 σ H Q:=by
 let⟨τ,Γ,Y,Z,rs,hr,t,vr,xr⟩:=q;exact h σ H _ ⟨τ,Γ,Y,_,rs,hr,t,λv x H1 Γ1 s1 h1 r1 z1=>?_,xr⟩;let⟨k,rfl,z⟩:=z1;exact⟨k,Hi r1,vr k H1 Γ1 s1 h1 z⟩
theorem Ft(ho:Bt X (compareOp op) r3)(ha:PE X a (AF E ta))(hb:PE X b (AF E tb))(hm:behindInMarks op b=false):PT X (.Compare a [op] [b] pos) (Cv E (LF (Gx r3 ta tb))):=by
 obtain⟨r,ho,h⟩:=ho;exact Qu (abw ho ha hb hm) (bP (Ma h))
def Ni(r r':EO)(ta tb tc:Ab):Ab:=λY τ Γ Z=>ta Y τ Γ λx Γ1=>tb Y τ Γ1 λy Γ2=>r x y Γ2 λz Γ3=>∃k,z=.bl k∧(if k=true then tc Y τ Γ3 λw' Γ4=>r' y w' Γ4 Z else Z (.bl false) Γ3)
theorem jg{r r':EE}(h:∀x y a b H Γ Q Z,R H x a→R H y b→HR H Γ→r3 a b Γ Z→VR H Γ Z Q→r x y H Q)(h':∀x y a b H Γ Q Z,R H x a→R H y b→HR H Γ→Jw a b Γ Z→VR H Γ Z Q→r' x y H Q)
  (σ:St) (H:A7) (Q:Ar) (q:AF E (Ni r3 Jw ta tb tc) σ H Q):fJ r r' (AF E ta) (AF E tb) (AF E tc) σ H Q:=by
 let⟨τ,Γ,Y,Z,rs,hr,t,vr,xr⟩:=q;exact Ψ4 τ Γ Y _ ⟨rs,hr,t,λv x H1 Γ1 s1 h1 r1 z1=>?_,xr⟩;exact Ψ4 τ Γ1 Y _ ⟨rs.mono s1.tq,h1,z1,λu y H2 Γ2 s2 h2 r2 z2=>?_,xr.mono s1⟩;exact h v u x y H2 Γ2 _ _ (r1.mono s2.tq) r2 h2 z2 λd z H3 Γ3 s3 h3 r3 z3=>?_;obtain⟨k,rfl,z3⟩:=z3;exact⟨k,Hi r3,?_⟩;cases k with
 |false=>exact vr _ _ H3 Γ3 ((s1.trans s2).trans s3) h3 Dp z3
 |true=>
  exact Ψ4 τ Γ3 Y _ ⟨rs.mono ((s1.trans s2).trans s3).tq,h3,z3,λw' y' H4 Γ4 s4 h4 r4 z4=>?_,xr.mono ((s1.trans s2).trans s3)⟩;exact h' u w' y y' H4 Γ4 Q Z (r2.mono (s3.trans s4).tq) r4 h4 z4 (vr.mono (((s1.trans s2).trans s3).trans s4))
theorem vA(ho:Bt X (compareOp op) r3)(nc:Bt X (compareOp zK) Jw)(ha:PE X a (AF E ta))(hb:PE X b (AF E tb))(hc:PE X c (AF E tc))(hm:lastMarks [op,zK] [b,c]=false:=by with_unfolding_all rfl):
  PE X (.Compare a [op,zK] [b,c] pos) (AF E (Ni r3 Jw ta tb tc)):=by
 obtain⟨r,ho,h⟩:=ho;obtain⟨r',nc,h'⟩:=nc;exact GU (ac5 ho nc ha hb hc hm) (jg h h')
theorem lG(ho:Bt X (compareOp op) r3)(nc:Bt X (compareOp zK) Jw)(ha:PE X a (AF E ta))(hb:PE X b (AF E tb))(hc:PE X c (AF E tc))(hm:lastMarks [op,zK] [b,c]=false:=by with_unfolding_all rfl):
  PT X (.Compare a [op,zK] [b,c] pos) (Cv E (LF (Ni r3 Jw ta tb tc))):=by
 obtain⟨r,ho,h⟩:=ho;obtain⟨r',nc,h'⟩:=nc;exact Qu (acr ho nc ha hb hc hm) (bP (jg h h'))
def pY(ta tb:Ab):Ab:=λY τ Γ Z=>ta Y τ Γ λx Γ1=>∃c,x=.bl c∧if c=true then tb Y τ Γ1 Z else Z (.bl false) Γ1
def iH(ta tb:Ab):Ab:=λY τ Γ Z=>ta Y τ Γ λx Γ1=>∃c,x=.bl c∧if c=true then Z (.bl true) Γ1 else tb Y τ Γ1 Z
def nT(ta:Ab):Ab:=λY τ Γ Z=>ta Y τ Γ λx Γ1=>∃c,x=.bl c∧Z (.bl (!c)) Γ1
theorem Fz{op}(h:PE X a (AF E ta)):PE X (.BoolOp op [a] pos) (AF E ta):=xI h
theorem FT(ha:PE X a (AF E ta))(hb:PE X (.BoolOp .And (b::v4) pos) (AF E tb)):PE X (.BoolOp .And (a::b::v4) pos) (AF E (pY ta tb)):=
 EB (acH ha hb) λσ H Q τ Γ Y Z rs hr t vr xr=>by
  exact Ψ4 τ Γ Y _ ⟨rs,hr,t,λv x H1 Γ1 s1 h1 r1 z1=>?_,xr⟩;obtain⟨k,rfl,z1⟩:=z1;exact⟨k,Hi r1,?_⟩;cases k with
  |false=>exact vr _ _ H1 Γ1 s1 h1 Dp z1
  |true=>exact Ψ4 τ Γ1 Y Z ⟨rs.mono s1.tq,h1,z1,vr.mono s1,xr.mono s1⟩
theorem fV(ha:PE X a (AF E ta))(hb:PE X (.BoolOp .Or (b::v4) pos) (AF E tb)):PE X (.BoolOp .Or (a::b::v4) pos) (AF E (iH ta tb)):=
 EB (vp ha hb) λσ H Q τ Γ Y Z rs hr t vr xr=>by
  exact Ψ4 τ Γ Y _ ⟨rs,hr,t,λv x H1 Γ1 s1 h1 r1 z1=>?_,xr⟩;obtain⟨k,rfl,z1⟩:=z1;exact⟨k,Hi r1,?_⟩;cases k with
  |true=>exact vr _ _ H1 Γ1 s1 h1 Dp z1
  |false=>exact Ψ4 τ Γ1 Y Z ⟨rs.mono s1.tq,h1,z1,vr.mono s1,xr.mono s1⟩
theorem dQ(ha:PE X a (AF E ta)):PE X (.UnaryOp .Not a pos) (AF E (nT ta)):=
 EB (vS ha) λσ H Q τ Γ Y Z rs hr t vr xr=>by
  exact Ψ4 τ Γ Y _ ⟨rs,hr,t,λv x H1 Γ1 s1 h1 r1 z1=>?_,xr⟩;obtain⟨k,rfl,z1⟩:=z1;exact⟨k,Hi r1,vr _ _ H1 Γ1 s1 h1 Dp z1⟩
variable {tA LK: DJ}
def jR(t u:DJ):DJ:=λY τ Γ Z=>t Y τ Γ λc Γ1=>if c=true then u Y τ Γ1 Z else Z false Γ1
def ko(t u:DJ):DJ:=λY τ Γ Z=>t Y τ Γ λc Γ1=>if c=true then Z true Γ1 else u Y τ Γ1 Z
def pR(t:DJ):DJ:=λY τ Γ Z=>t Y τ Γ λc Γ1=>Z (!c) Γ1
theorem HJ(ha:PT X a (Cv E tA)):PW X (.BoolOp .And [a] pos) (Cv E tA):=sN ha
theorem Ck(ha:PT X a (Cv E tA)):PW X (.BoolOp .Or [a] pos) (Cv E tA):=abb ha
theorem GC(ha:PT X a (Cv E tA))(hb:PW X (.BoolOp .And (b::v4) pos) (Cv E LK)):PW X (.BoolOp .And (a::b::v4) pos) (Cv E (jR tA LK)):=
 mJ (acn ha hb) λσ H Q τ Γ Y Z rs hr t vr xr=>by
  exact Ψ4 τ Γ Y _ ⟨rs,hr,t,λk H1 Γ1 s1 h1 z1=>?_,xr⟩;cases k with
  |false=>exact vr _ H1 Γ1 s1 h1 z1
  |true=>exact Ψ4 τ Γ1 Y Z ⟨rs.mono s1.tq,h1,z1,λb H2 Γ2 s2 h2 z2=>vr b H2 Γ2 (s1.trans s2) h2 z2,xr.mono s1⟩
theorem BS(ha:PT X a (Cv E tA))(hb:PW X (.BoolOp .Or (b::v4) pos) (Cv E LK)):PW X (.BoolOp .Or (a::b::v4) pos) (Cv E (ko tA LK)):=
 mJ (sU ha hb) λσ H Q τ Γ Y Z rs hr t vr xr=>by
  exact Ψ4 τ Γ Y _ ⟨rs,hr,t,λk H1 Γ1 s1 h1 z1=>?_,xr⟩;cases k with
  |true=>exact vr _ H1 Γ1 s1 h1 z1
  |false=>exact Ψ4 τ Γ1 Y Z ⟨rs.mono s1.tq,h1,z1,λb H2 Γ2 s2 h2 z2=>vr b H2 Γ2 (s1.trans s2) h2 z2,xr.mono s1⟩
theorem Bf(ha:PT X a (Cv E tA)):PT X (.UnaryOp .Not a pos) (Cv E (pR tA)):=
 abD (zJ ha) λσ H Q τ Γ Y Z rs hr t vr xr=>Ψ4 τ Γ Y _ ⟨rs,hr,t,λk H1 Γ1 s1 h1 z1=>vr _ H1 Γ1 s1 h1 z1,xr⟩
theorem BL{t:Ab}(h:PE X e (AF E t))(he:∀whole,isTrue e X.env whole=(do let v ←whole;standAt e.pos;holding [v] (truthy v)):=by intro _;rfl):PT X e (Cv E (LF t)):=
 Qu (acB h he) (bP (t2:=AF E t) λ_ _ _ q=>q)
def ji(c:DJ)(ta tb:Ab):Ab:=λY τ Γ Z=>c Y τ Γ λk Γ1=>if k=true then ta Y τ Γ1 Z else tb Y τ Γ1 Z
theorem ua(hc:PT X c (Cv E tA))(ha:PE X a (AF E ta))(hb:PE X b (AF E tb)):PE X (.IfExp c a b pos) (AF E (ji tA ta tb)):=
 EB (xU hc ha hb) λσ H Q τ Γ Y Z rs hr t vr xr=>by
  exact Ψ4 τ Γ Y _ ⟨rs,hr,t,λk H1 Γ1 s1 h1 z1=>?_,xr⟩;cases k with
  |true=>exact Ψ4 τ Γ1 Y Z ⟨rs.mono s1.tq,h1,z1,vr.mono s1,xr.mono s1⟩
  |false=>exact Ψ4 τ Γ1 Y Z ⟨rs.mono s1.tq,h1,z1,vr.mono s1,xr.mono s1⟩
end
section
variable {e: Expr}{te: Ab}{t: DA}
def OI:DA:=λ_ _ Γ Z=>Z [] Γ
def rL(ta:Ab)(tr:DA):DA:=λY τ Γ Z=>ta Y τ Γ λx Γ1=>tr Y τ Γ1 λxs Γ2=>Z (x::xs) Γ2
theorem A6:PA X [] (E8 E OI):=nS nH λσ H Q τ Γ Y Z rs hr t vr xr=>vr [] [] H Γ .refl hr F1 t
theorem A3(ha:PE X e (AF E te))(hr:PA X es (E8 E t))(hs:starEach (e::es) X.env=(false,eval e X.env)::starEach es X.env:=by rfl):PA X (e::es) (E8 E (rL te t)):=
 nS (WZ ha hr hs) λσ H Q τ Γ Y Z rs hr t vr xr=>by
  exact Ψ4 τ Γ Y _ ⟨rs,hr,t,λv x H1 Γ1 s1 h1 r1 z1=>?_,xr⟩;exact Ψ4 τ Γ1 Y _ ⟨rs.mono s1.tq,h1,z1,λvs xs H2 Γ2 s2 h2 r2 z2=>vr (v::vs) (x::xs) H2 Γ2 (s1.trans s2) h2 (Ez (r1.mono s2.tq) r2) z2,xr.mono s1⟩
def pF(t:DA):Ab:=λY τ Γ Z=>t Y τ Γ λxs Γ1=>xs.length≤sizeLine∧Z (.tup xs) Γ1
def nZ(t:DA):Ab:=λY τ Γ Z=>t Y τ Γ λxs Γ1=>xs.length≤sizeLine∧∀p,Γ1 p=none→Z (.ref p) (up Γ1 p (.lst xs))
theorem C0{x1}(h:PA X es (E8 E t)):PE X (.Tuple es x1 pos) (AF E (pF t)):=
 EB (xN h) λσ H Q τ Γ Y Z rs hr t vr xr=>by
  exact Ψ4 τ Γ Y _ ⟨rs,hr,t,λvs xs H1 Γ1 s1 h1 r1 z1=>?_,xr⟩;exact⟨by rw[r1.length];exact z1.1,λp hp=>?_⟩;have k:=Dy (o:=.tup vs) hp;exact vr _ _ _ Γ1 (s1.trans (.keep k)) (h1.keep k) (Py D3 (r1.mono (E7 k))) z1.2
theorem BN(h:PA X es (E8 E t)):PE X (.List es pos) (AF E (nZ t)):=
 EB (vq h) λσ H Q τ Γ Y Z rs hr t vr xr=>by
  exact Ψ4 τ Γ Y _ ⟨rs,hr,t,λvs xs H1 Γ1 s1 h1 r1 z1=>?_,xr⟩;exact⟨by rw[r1.length];exact z1.1,λp hp=>?_⟩;have k:=Dy (o:=.lst vs) hp;exact vr _ _ _ _ (s1.trans (.make hp)) (h1.make (o3:=.lst xs) hp ⟨vs,D3,r1.mono (E7 k)⟩) Em (z1.2 p (h1.free hp))
end
abbrev B2:=List T→AS→DI→(Value→AS→Prop)→Prop
def B3(sp:B2):Dc:=λvs H Q E=>∃ts Γ Z Y,Rs H vs ts∧HR H Γ∧sp ts Γ Z Y∧VR H Γ Z Q∧∀C H' Γ',gN H Γ H' Γ'→HR H' Γ'→Y C Γ'→E C none H'
abbrev Al(P:Program)(w:World)(K:W.Frag)(mg:KK)(ap:Heap)(x:Str)(k:Nat)(ps:List Str)(sp:B2):Prop:=Callee P w K mg ap x k ps (B3 sp)
abbrev F3(P:Program)(w:World)(K:W.Frag)(mg:KK)(ap:Heap)(x:Str)(k:Nat)(ps:List Str)(sp:B2):Prop:=eh P w K mg ap x k ps (B3 sp)
def X3(sp:B2)(t:DA):Ab:=λY τ Γ Z=>t Y τ Γ λxs Γ1=>sp xs Γ1 Z λ_ _=>False
def bE(sp:B2)(t:DA):Ab:=λY τ Γ Z=>t Y τ Γ λxs Γ1=>sp xs Γ1 Z (Y τ)
section
variable {x: Str}{k j: Nat}{ps: List Str}{sp: B2}{p: Pos}{e: Expr}{t: DA}
theorem abh(c:Al X.prog X.w X.K X.mg X.base x k ps sp)(hr:dH j X.A)(hk:k≤j)(hg:C6 X x)(ha:PA X (e::es) (E8 E t))(oX:(x ==("__debug__" : Str))=false:=by decide)
  (he:starEach (e::es) X.env=(false,eval e X.env)::starEach es X.env:=by rfl) (iM:(backTo pos (starEach es X.env)).any (·.1)=false:=by rfl):PE X (.Call (.Name x p) (e::es) [] pos) (AF E (X3 sp t)):=
 EB (ac6 c hr hk hg ha oX he iM) λσ H Q τ Γ Y Z rs hr t vr xr=>by
  exact Ψ4 τ Γ Y _ ⟨rs,hr,t,λvs xs H1 Γ1 s1 h1 r1 z1=>?_,xr⟩;show B3 sp (vs++[]) H1 Q IG
  rw[BV];exact Ψ4 xs Γ1 Z _ ⟨r1,h1,z1,vr.mono s1,λ_ _ _ _ _ z=>z.elim⟩
theorem abi(c:F3 X.prog X.w X.K X.mg X.base x k ps sp)(hr:dH j X.A)(hk:k≤j)(hg:C6 X x)(hx:Jz X E)(ha:PA X (e::es) (E8 E t))(oX:(x ==("__debug__" : Str))=false:=by decide)
  (he:starEach (e::es) X.env=(false,eval e X.env)::starEach es X.env:=by rfl) (iM:(backTo pos (starEach es X.env)).any (·.1)=false:=by rfl):PE X (.Call (.Name x p) (e::es) [] pos) (AF E (bE sp t)):=
 EB (acm c hr hk hg hx ha oX he iM) λσ H Q τ Γ Y Z rs hr t vr xr=>by
  exact Ψ4 τ Γ Y _ ⟨rs,hr,t,λvs xs H1 Γ1 s1 h1 r1 z1=>?_,xr⟩;exact Ψ4 xs Γ1 Z (Y τ) ⟨r1,h1,z1,vr.mono s1,λC H' Γ' s' h' y=>xr σ τ C H' Γ' (s1.trans s') h' (rs.mono (s1.trans s').tq) y⟩
end
end
section
variable {st: Stmt}{Ve: List Stmt}{e: Expr}{te: Ab}{t u: CC}
def lX:CC:=λ_ D τ Γ=>D.nx τ Γ
def qI(t u:CC):CC:=λY D τ Γ=>t Y {D with nx:=u Y D} τ Γ
def jN(te:Ab):CC:=λY D τ Γ=>te Y τ Γ λ_ Γ1=>D.nx τ Γ1
def iT(te:Ab):CC:=λY D τ Γ=>te Y τ Γ D.rt
def kY(c:DJ)(t u:CC):CC:=λY D τ Γ=>c Y τ Γ λb Γ1=>if b=true then t Y D τ Γ1 else u Y D τ Γ1
theorem A8:jU X [] (CL E lX):=qv xY λD σ H τ Γ Y Z rs hr t dr xr=>dr.nx σ τ H Γ .refl hr rs t
theorem A4(h1:PS X st (CL E t))(h2:jU X Ve (CL E u)):jU X (st::Ve) (CL E (qI t u)):=
 qv (tI h1 h2) λD σ H τ Γ Y Z rs hr t dr xr=>
  ⟨τ,Γ,Y,_,rs,hr,t,⟨λσ' τ' H' Γ' s h r z=>Ψ4 τ' Γ' Y Z ⟨r,h,z,dr.mono s,xr.mono s⟩,dr.rt,dr.bk,dr.ct⟩,xr⟩
theorem D8(he:PE X e (AF E te))(hs:swapsWith e none pos.line X.env=pure false:=by rfl):PS X (.Expr e pos) (CL E (jN te)):=
 GB (zw he hs) λD σ H τ Γ Y Z rs hr t dr xr=>Ψ4 τ Γ Y _ ⟨rs,hr,t,λv x H' Γ' s h r z=>dr.nx σ τ H' Γ' s h (rs.mono s.tq) z,xr⟩
theorem AQ(he:PE X e (AF E te)):PS X (.Return (some e) pos) (CL E (iT te)):=
 GB (zg he) λD σ H τ Γ Y Z rs hr t dr xr=>Ψ4 τ Γ Y _ ⟨rs,hr,t,dr.rt,xr⟩
theorem AZ{a b:List Stmt}(hc:PT X c (Cv E tc))(ha:jU X a (CL E t))(hb:jU X b (CL E u)):PS X (.If c a b pos) (CL E (kY tc t u)):=
 GB (abQ hc ha hb) λD σ H τ Γ Y Z rs hr t dr xr=>by
  exact Ψ4 τ Γ Y _ ⟨rs,hr,t,λk H1 Γ1 s1 h1 z1=>?_,xr⟩;cases k with
  |true=>exact Ψ4 τ Γ1 Y Z ⟨rs.mono s1.tq,h1,z1,dr.mono s1,xr.mono s1⟩
  |false=>exact Ψ4 τ Γ1 Y Z ⟨rs.mono s1.tq,h1,z1,dr.mono s1,xr.mono s1⟩
def iV(t:CC):CC:=λY D τ Γ=>∃P:Bh→AS→Prop,t Y {D with nx:=P} τ Γ∧∀τ Γ,P τ Γ→D.nx τ Γ
theorem D9(h:PS X st (CL E t)):PS X st (CL E (iV t)):=
 GB h λD σ H τ Γ Y Z rs hr q0 dr xr=>by let⟨P,t,k⟩:=q0;exact Ψ4 τ Γ Y _ ⟨rs,hr,t,⟨λσ' τ' H' Γ' s h r z=>dr.nx σ' τ' H' Γ' s h r (k _ _ z),dr.rt,dr.bk,dr.ct⟩,xr⟩
abbrev FG:=G6→T→Bh→AS→(Bh→AS→Prop)→Prop
abbrev Jn:=G6→List T→Bh→AS→(Bh→AS→Prop)→Prop
def Fw(E:St→BG)(g:FG):Ed:=λv σ H Q=>∃x τ Γ Y Z,R H v x∧RS H σ τ∧HR H Γ∧g Y x τ Γ Z∧NR H Γ Z Q∧XR H Γ Y E
def Md(E:St→BG)(g:Jn):HX:=λv σ H Q=>∃x τ Γ Y Z,Rs H v x∧RS H σ τ∧HR H Γ∧g Y x τ Γ Z∧NR H Γ Z Q∧XR H Γ Y E
theorem gW{t0:Ed}{t:FG}(h:PG X e t0)(w:∀v σ H Q x τ Γ Y Z,R H v x→RS H σ τ→HR H Γ→t Y x τ Γ Z→NR H Γ Z Q→XR H Γ Y E→t0 v σ H Q):PG X e (Fw E t):=
 vg h (by intro v σ H Q⟨x,τ,Γ,Y,Z,r,rs,hr,q,nr,xr⟩;exact w v σ H Q x τ Γ Y Z r rs hr q nr xr)
theorem mf{e:List Expr}{t0:HX}{t:Jn}(h:Au X e t0)(w:∀v σ H Q x τ Γ Y Z,Rs H v x→RS H σ τ→HR H Γ→t Y x τ Γ Z→NR H Γ Z Q→XR H Γ Y E→t0 v σ H Q):Au X e (Md E t):=
 uT h (by intro v σ H Q⟨x,τ,Γ,Y,Z,r,rs,hr,q,nr,xr⟩;exact w v σ H Q x τ Γ Y Z r rs hr q nr xr)
def hName(i:Nat):FG:=λ_ x τ Γ Z=>Z (τ.set i (some x)) Γ
def lU:Jn:=λ_ xs τ Γ Z=>xs=[]∧Z τ Γ
def kx(g:FG)(gs:Jn):Jn:=λY xs τ Γ Z=>∃x r,xs=x::r∧g Y x τ Γ λτ1 Γ1=>gs Y r τ1 Γ1 Z
def lJ(n:Nat)(gs:Jn):FG:=λY x τ Γ Z=>∃ts,x=.tup ts∧ts.length=n∧gs Y ts τ Γ Z
theorem F8{i:Nat}{x:Str}(hN:X.N.Nodup)(hi:X.N[i]?=some x)(hx:I0 X.env.scope x)(hf:Fk X x:=by first|exact .inl rfl|exact .inr rfl|assumption):PG X (.Name x pos) (Fw E (hName i)):=
 gW (abr hN hi hx hf) λv σ H Q x τ Γ Y Z r rs hr t nr xr=>nr _ _ H Γ .refl hr (rs.set r i) t
theorem GH:Au X [] (Md E lU):=mf adh λv σ H Q x τ Γ Y Z r rs hr q0 nr xr=>by
 let⟨e,t⟩:=q0;subst e;exact⟨G2 r,nr _ _ H Γ .refl hr rs t⟩
theorem Cj{es:List Expr}(h1:PG X e (Fw E g))(h2:Au X es (Md E gs))(hs:(assignEach (e::es) X.env).map (·.2)=assign e X.env::(assignEach es X.env).map (·.2):=by rfl):Au X (e::es) (Md E (kx g gs)):=
 mf (abT h1 h2 hs) λv σ H Q x τ Γ Y Z r rs hr q0 nr xr=>by
  let⟨y,ys,e,t⟩:=q0;subst e;let⟨w,ws,rfl,r1,r2⟩:=Fp r;exact Ψ2 w ws ⟨rfl,y,τ,Γ,Y,_,r1,rs,hr,t,λσ' τ' H' Γ' s h r z=>?_,xr⟩;exact Ψ5 ys τ' Γ' Y Z ⟨r2.mono s.tq,r,h,z,nr.mono s,xr.mono s⟩
theorem GG{es:List Expr}{n:Nat}(hc:X.calm=true)(h:Au X es (Md E gs))
  (hn:(assignEach es X.env).length=n:=by rfl) (oJ:(assignEach es X.env).findIdx? (·.1)=none:=by rfl):PG X (.Tuple es k pos) (Fw E (lJ n gs)):=
 gW (vn hc h hn oJ) λv σ H Q x τ Γ Y Z r rs hr q0 nr xr=>by
  let⟨ts,e,l,t⟩:=q0;subst e;obtain⟨a,vs,rfl,ha,r⟩:=Ie r;exact Ψ2 a vs ⟨rfl,js.of ha,by rw[r.length];exact l,ts,τ,Γ,Y,Z,r,rs,hr,t,nr,xr⟩
def hSub(to ti:Ab):FG:=λY v τ Γ Z=>to Y τ Γ λo Γ1=>ti Y τ Γ1 λi Γ2=>∃a ts k j,o=.ref a∧i=.int k∧Γ2 a=some (.lst ts)∧Dm ts.length k=some j∧Z τ (up Γ2 a (.lst (ts.set j v)))
theorem Ny{o i:Expr}(ho:PE X o (AF E to))(hi:PE X i (AF E ti))
  (ha:∀v,assign (.Subscript o i pos) X.env v=(do
   let ov ←holding [v] (eval o X.env)
   let iv ←holding [v,ov] (eval i X.env)
   standAt pos
   holding [v,ov,iv] (setItem ov iv v)
   release [v,ov,iv] []):=by intro _;rfl):PG X (.Subscript o i pos) (Fw E (hSub to ti)):=
 gW (ab0 ho hi set_list ha) λv σ H Q x τ Γ Y Z r rs hr t nr xr=>by
  exact Ψ4 τ Γ Y _ ⟨rs,hr,t,λov o H1 Γ1 s1 h1 r1 z1=>?_,xr⟩;exact Ψ4 τ Γ1 Y _ ⟨rs.mono s1.tq,h1,z1,λiv i H2 Γ2 s2 h2 r2 z2=>?_,xr.mono s1⟩;let⟨a,ts,k,j,rfl,rfl,ga,hj,z⟩:=z2;let⟨vs,hv,rv⟩:=h2 a _ ga;exact Ψ4 a vs k j ⟨CE r1,DZ r2,hv,by rw[rv.length];exact hj,?_⟩;have s3:gN H2 Γ2 (Aa H2 a (.lst (vs.set j v))) (up Γ2 a (.lst (ts.set j x))):=.set h2 ga;exact nr σ τ _ _ ((s1.trans s2).trans s3) (h2.set ga ⟨_,D3,Rs.set j (rv.mono s3.tq) (r.mono ((s1.trans s2).trans s3).tq)⟩) (rs.mono ((s1.trans s2).trans s3).tq) z
def UZ(te:Ab)(g:FG):CC:=λY D τ Γ=>te Y τ Γ λx Γ1=>g Y x τ Γ1 D.nx
theorem vI(D:Ends)(σ:St)(H:A7)(q:CL E (UZ te g) D σ H):bX (AF E te) (Fw E g) D σ H:=by
 let⟨τ,Γ,Y,Z,rs,hr,t,dr,xr⟩:=q;exact Ψ4 τ Γ Y _ ⟨rs,hr,t,λv x H1 Γ1 s1 h1 r1 z1=>Ψ5 x τ Γ1 Y _ ⟨r1,rs.mono s1.tq,h1,z1,dr.nx.mono s1,xr.mono s1⟩,xr⟩
theorem GZ(he:PE X e (AF E te))(hg:PG X tg (Fw E g))(hs:swapsWithSole [tg] e pos.line X.env=pure false:=by rfl)(hw:swappedStores [tg] e X.env=pure none:=by rfl)
  (h1:(assignEach [tg] X.env).map (·.2)=[assign tg X.env]:=by rfl):PS X (.Assign [tg] e pos) (CL E (UZ te g)):=iD (abP he hg hs hw h1) vI
def Qk(i:Nat)(te:Ab):CC:=λY D τ Γ=>te Y τ Γ λx Γ1=>D.nx (τ.set i (some x)) Γ1
theorem acR{i:Nat}{x:Str}{pos':Pos}(hN:X.N.Nodup)(hi:X.N[i]?=some x)(hx:I0 X.env.scope x)(he:PE X e (AF E te))(hs:swapsWith e (some (.Name x pos')) pos.line X.env=pure false:=by rfl)(hf:Fk X x:=by first|exact .inl rfl|exact .inr rfl|assumption):
  PS X (.Assign [.Name x pos'] e pos) (CL E (Qk i te)):=GB (abW hN hi hx he hs hf) λD σ H τ Γ Y Z rs hr t dr xr=>
   ⟨τ,Γ,Y,_,rs,hr,t,λv x H1 Γ1 s1 h1 r1 z1=>dr.nx _ _ H1 Γ1 s1 h1 ((rs.mono s1.tq).set r1 i) z1,xr⟩
structure Walks(J:It)(ts:List T)(gd:AS→Prop)(H0:A7):Prop where
 go:∀i H Γ,Tq H0 H→HR H Γ→gd Γ→i<ts.length→J.go i H
 uZ:∀i H Γ x H',Tq H0 H→HR H Γ→gd Γ→i<ts.length→J.uZ i H x H'→gN H Γ H' Γ∧HR H' Γ∧∃t,ts[i]?=some t∧R H' x t
 stop:∀H Γ,Tq H0 H→HR H Γ→gd Γ→J.stop ts.length H
abbrev I3:=G6→Bh→AS→(List T→(AS→Prop)→AS→Prop)→Prop
def GJ(E:St→BG)(wi:I3):Es:=λσ H Q=>∃τ Γ Y Z,RS H σ τ∧HR H Γ∧wi Y τ Γ Z∧(∀J ts gd H' Γ',gN H Γ H' Γ'→HR H' Γ'→Walks J ts gd H'→Z ts gd Γ'→Q J H')∧XR H Γ Y E
theorem Kg{t0:Es}{t:I3}(h:PI X tg e t0)(w:∀σ H Q τ Γ Y Z,RS H σ τ→HR H Γ→t Y τ Γ Z→(∀J ts gd H' Γ',gN H Γ H' Γ'→HR H' Γ'→Walks J ts gd H'→Z ts gd Γ'→Q J H')→XR H Γ Y E→t0 σ H Q):PI X tg e (GJ E t):=
 acU h (by intro σ H Q⟨τ,Γ,Y,Z,rs,hr,q,vr,xr⟩;exact w σ H Q τ Γ Y Z rs hr q vr xr)
def lK(gd:AS→Prop)(g:FG)(tb:CC)(Y:G6)(D:KZ)(ts:List T)(τ:Bh)(Γ:AS):Prop:=∃P:List T→Bh→AS→Prop,P ts τ Γ∧(∀τ Γ,P [] τ Γ→gd Γ∧D.nx τ Γ)∧
 ∀x r τ Γ,P (x::r) τ Γ→gd Γ∧g Y x τ Γ λτ2 Γ2=>tb Y {D with nx:=P r,ct:=P r,bk:=D.nx} τ2 Γ2
def m5(wi:I3)(g:FG)(tb:CC):CC:=λY D τ Γ=>wi Y τ Γ λts gd Γ1=>lK gd g tb Y D ts τ Γ1
theorem drop_cons{α:Type}{xs:List α}{i:Nat}(h:i<xs.length):xs.drop i=xs[i]::xs.drop (i+1):=gj h
theorem Hd{iter:Expr}(hp:PassesOwn (model X.prog X.w) X.A X.env X.xe)(hc:X.calm=true)(hi:PI X tg iter (GJ E wi))(hg:PG X tg (Fw E g))(hb:jU X body (CL E tb))
  (hs:∀x,foldedSetIterable iter X.env x=pure x:=by intro _;rfl):PS X (.For tg iter body [] pos) (CL E (m5 wi g tb)):=
 GB (aaN hp hc hi hg hb hs) λD σ H τ Γ Y Z rs hr t dr xr=>by
  exact Ψ4 τ Γ Y _ ⟨rs,hr,t,λJ ts gd H1 Γ1 s1 h1 wk ξ=>Ξ13 ξ λP z1 p0 pc=>?_,xr⟩;exact⟨λi m σ' H'=>∃τ' Γ',i≤ts.length∧m=ts.length-i∧RS H' σ' τ'∧HR H' Γ'∧gN H1 Γ1 H' Γ'∧P (ts.drop i) τ' Γ',Ψ3 ts.length τ Γ1 ⟨Fe _,rfl,rs.mono s1.tq,h1,.refl,z1⟩,?_⟩;intro i m σ2 H2⟨τ2,Γ2,hi,rfl,AK,h2,s2,w2⟩;by_cases jX:i<ts.length
  ·rw[drop_cons jX]at w2
   let⟨g2,w2⟩:=pc _ _ _ _ w2;exact .inr ⟨wk.go i H2 Γ2 s2.tq h2 g2 jX,λσ' H'=>∃τ' Γ',RS H' σ' τ'∧HR H' Γ'∧gN H1 Γ1 H' Γ'∧P (ts.drop (i+1)) τ' Γ',λσ' H' ξ=>Ξ24 ξ λτ' Γ' a b c d=>⟨ts.length-(i+1),by lia,τ',Γ',jX,rfl,a,b,c,d⟩,λx H3 yl=>?_⟩;let⟨s3,h3,⟨x3,e3,r3⟩⟩:=wk.uZ i H2 Γ2 x H3 s2.tq h2 g2 jX yl;rw[GW jX]at e3;cases e3;exact Ψ5 _ τ2 Γ2 Y _ ⟨r3,AK.mono s3.tq,h3,w2,λσ4 τ4 H4 Γ4 s4 h4 r4 z4=>?_,xr.mono ((s1.trans s2).trans s3)⟩;have s5:=(s2.trans s3).trans s4;exact Ψ4 τ4 Γ4 Y _ ⟨r4,h4,z4,⟨λσ' τ' H' Γ' s h r z=>Ψ2 τ' Γ' ⟨r,h,s5.trans s,z⟩,dr.rt.mono (s1.trans s5),dr.nx.mono (s1.trans s5),λσ' τ' H' Γ' s h r z=>Ψ2 τ' Γ' ⟨r,h,s5.trans s,z⟩⟩,xr.mono (s1.trans s5)⟩
  ·have e:i=ts.length:=by lia
   subst e;rw[Mb]at w2;have w2:=p0 _ _ w2;exact .inl ⟨wk.stop H2 Γ2 s2.tq h2 w2.1,dr.nx σ2 τ2 H2 Γ2 (s1.trans s2) h2 AK w2.2⟩
def tw(c:DJ)(tb:CC):CC:=λY D τ Γ=>∃W:Nat→Bh→AS→Prop,(∃m,W m τ Γ)∧∀m τ Γ,W m τ Γ→
 c Y τ Γ λb Γ1=>if b=true then ∃N:Bh→AS→Prop,(∀τ' Γ',N τ' Γ'→∃m',m' < m∧W m' τ' Γ')∧tb Y {D with nx:=N,ct:=N,bk:=D.nx} τ Γ1 else D.nx τ Γ1
theorem Lr(hp:PassesOwn (model X.prog X.w) X.A X.env X.xe)(hc:PT X c (Cv E tc))(hb:jU X body (CL E tb)):PS X (.While c body [] pos) (CL E (tw tc tb)):=
 GB (xc hp hc hb) λD σ H τ Γ Y Z rs hr q0 dr xr=>by
  let⟨W,⟨m0,w0⟩,turn⟩:=q0;exact⟨λm σ' H'=>∃τ' Γ',RS H' σ' τ'∧HR H' Γ'∧gN H Γ H' Γ'∧W m τ' Γ',Ψ3 m0 τ Γ ⟨rs,hr,.refl,w0⟩,?_⟩;intro m σ1 H1⟨τ1,Γ1,rm,h1,s1,w1⟩;exact Ψ4 τ1 Γ1 Y _ ⟨rm,h1,turn m τ1 Γ1 w1,λk H2 Γ2 s2 h2 z2=>?_,xr.mono s1⟩;cases k with
  |false=>exact dr.nx σ1 τ1 H2 Γ2 (s1.trans s2) h2 (rm.mono s2.tq) z2
  |true=>
   obtain⟨N,hN,z2⟩:=z2;exact⟨λσ' H'=>∃τ' Γ',RS H' σ' τ'∧HR H' Γ'∧gN H Γ H' Γ'∧N τ' Γ',λσ' H' ξ=>Ξ24 ξ λτ' Γ' a b c d=>?_,?_⟩
   ·let⟨m',hm,w'⟩:=hN τ' Γ' d
    exact⟨m',hm,τ',Γ',a,b,c,w'⟩
   ·have s3:=s1.trans s2
    exact Ψ4 τ1 Γ2 Y _ ⟨rm.mono s2.tq,h2,z2,⟨λσ' τ' H' Γ' s h r z=>Ψ2 τ' Γ' ⟨r,h,s3.trans s,z⟩,dr.rt.mono s3,dr.nx.mono s3,λσ' τ' H' Γ' s h r z=>Ψ2 τ' Γ' ⟨r,h,s3.trans s,z⟩⟩,xr.mono s3⟩
def LB(own:List Str)(cap:List (Nat×Str))(τ:Bh):Bh:=List.replicate own.length none++cap.map λp=>(τ[p.1]?).getD none
theorem lp{H:A7}:∀{a:St} {b:Bh} {c:St} {d:Bh},RS H a b→RS H c d→RS H (a++c) (b++d)
 |[],[],_,_,_,h=>h
 |_::_,_::_,_,_,h,q=>⟨h.1,lp h.2 q⟩
 |[],_::_,_,_,h,_=>h.elim
 |_::_,[],_,_,h,_=>h.elim
theorem m3{H:A7}:∀n:Nat,RS H (List.replicate n none) (List.replicate n none)
 |0=>trivial
 |n+1=>⟨trivial,m3 n⟩
theorem mY{σ:St}{τ:Bh}(own:List Str)(h:RS H σ τ):∀cap:List (Nat×Str),RS H (Gn own cap σ) (LB own cap τ):=λcap=>by
 exact lp (m3 _) ?_;induction cap with
 |nil=>exact trivial
 |cons p r ih=>
  exact⟨?_,ih⟩;show QZ H ((σ[p.1]?).getD none) ((τ[p.1]?).getD none)
  cases e:τ[p.1]? with
  |none=>exact trivial
  |some o=>
   cases o with
   |none=>exact trivial
   |some x=>
    let⟨v,ev,rv⟩:=h.get e;rw[ev];exact rv
abbrev Ec:G6:=λ_ _ _=>False
def pG(gd:AS→Prop)(g:FG)(tc:DJ)(te:Ab)(C:List T→AS→Prop)(ts:List T)(τ:Bh)(ys:List T)(Γ:AS):Prop:=∃P:List T→Bh→List T→AS→Prop,P ts τ ys Γ∧(∀τ ys Γ,P [] τ ys Γ→gd Γ∧C ys Γ)∧
 ∀x r τ ys Γ,P (x::r) τ ys Γ→gd Γ∧g Ec x τ Γ λτ3 Γ3=>tc Ec τ3 Γ3 λb Γ4=>if b=true then te Ec τ3 Γ4 λy Γ5=>P r τ3 (ys++[y]) Γ5 else P r τ3 ys Γ4
def Pd(wi:I3)(g:FG)(tc:DJ)(te:Ab)(own:List Str)(cap:List (Nat×Str)):Ab:=λY τ Γ Z=>wi Y τ Γ λts gd Γ1=>ts.length≤sizeLine∧
 pG gd g tc te (λys Γ2=>∀D,Γ2 D=none→Z (.ref D) (up Γ2 D (.lst ys))) ts (LB own cap τ) [] Γ1
abbrev Eu:St→BG:=λ_=>IG
theorem Hv:XR H Γ Ec Eu:=λ_ _ _ _ _ _ _ _ z=>z.elim
theorem kG(σ:St)(H:A7)(Q:Ar)(q:AF E (Pd wi g tc te own cap) σ H Q):fI (GJ E wi) (Fw Eu g) (Cv Eu tc) (AF Eu te) own cap σ H Q:=by
 let⟨τ,Γ,Y,Z,rs,hr,t,vr,xr⟩:=q;exact Ψ4 τ Γ Y _ ⟨rs,hr,t,λJ ts gd H1 Γ1 s1 h1 wk⟨hz,P,z1,p0,pc⟩=>?_,xr⟩;intro D hD;have nl:∀vs:List V,(∀us:List V,HO.lst vs≠.tup us)∧∀b w,HO.lst vs≠.frz b w:=λ_=>⟨λ_ z=>(nomatch z),λ_ _ z=>(nomatch z)⟩;exact⟨λi m σ' vs H'=>∃τ' ys Γ',i≤ts.length∧m=ts.length-i∧vs.length≤i∧RS H' σ' τ'∧HR H' Γ'∧H' D=some (.lst vs)∧Γ' D=none∧Rs H' vs ys∧gN H1 Γ1 H' Γ'∧P (ts.drop i) τ' ys Γ',
  ⟨ts.length,LB own cap τ,[],Γ1,Fe _,rfl,Ax _,(mY own (rs.mono s1.tq) cap).mono (E7 (Dy hD)),h1.keep (Dy hD),D3,h1.free hD,F1,.keep (Dy hD),z1⟩,?_⟩
 intro i m σ2 vs H2⟨τ2,ys,Γ2,hi,rfl,hv,AK,h2,d2,gD,ry,s2,w2⟩;exact⟨d2,?_⟩;by_cases jX:i<ts.length
 ·rw[drop_cons jX]at w2
  let⟨g2,w2⟩:=pc _ _ _ _ _ w2;exact .inr ⟨wk.go i H2 Γ2 s2.tq h2 g2 jX,by lia,λσ' ws H'=>∃τ' ys Γ',ws.length≤i+1∧RS H' σ' τ'∧HR H' Γ'∧H' D=some (.lst ws)∧Γ' D=none∧Rs H' ws ys∧gN H1 Γ1 H' Γ'∧P (ts.drop (i+1)) τ' ys Γ',
   λσ' ws H' ξ=>Ξ38 ξ λτ' ys Γ' a b c d e f k l=>⟨ts.length-(i+1),by lia,τ',ys,Γ',jX,rfl,a,b,c,d,e,f,k,l⟩,λx H3 yl=>?_⟩
  let⟨s3,h3,⟨x3,e3,r3⟩⟩:=wk.uZ i H2 Γ2 x H3 s2.tq h2 g2 jX yl;rw[GW jX]at e3;cases e3;exact Ψ5 _ τ2 Γ2 Ec _ ⟨r3,AK.mono s3.tq,h3,w2,λσ4 τ4 H4 Γ4 s4 h4 r4 z4=>?_,Hv⟩;exact Ψ4 τ4 Γ4 Ec _ ⟨r4,h4,z4,λk H5 Γ5 s5 h5 z5=>?_,Hv⟩;have OE:=(s3.trans s4).trans s5;have d5:H5 D=some (.lst vs):=OE.FZ D _ d2 gD;have g5:Γ5 D=none:=OE.new D (by rw[d2];exactλz=>nomatch z) gD;cases k with
  |false=>exact Ψ3 τ4 ys Γ5 ⟨Nat.le_succ_of_le hv,r4.mono s5.tq,h5,d5,g5,ry.mono OE.tq,s2.trans OE,z5⟩
  |true=>
   exact Ψ4 τ4 Γ5 Ec _ ⟨r4.mono s5.tq,h5,z5,λy y' H6 Γ6 s6 h6 r6 z6=>?_,Hv⟩;have Jt:=OE.trans s6;have d6:H6 D=some (.lst vs):=Jt.FZ D _ d2 gD;have g6:Γ6 D=none:=Jt.new D (by rw[d2];exactλz=>nomatch z) gD;have tq:Tq H6 (Aa H6 D (.lst (vs++[y]))):=LL d6 (nl vs);exact⟨d6,τ4,ys++[y'],Γ6,by rw[AG];exact WV hv,(r4.mono (s5.trans s6).tq).mono tq,h6.hide g6 d6 (nl vs),D3,g6,Rs.app ((ry.mono Jt.tq).mono tq) (Ez (r6.mono tq) F1),?_,z6⟩;have s7:=s2.trans Jt;exact⟨s7.tq.trans tq,λa h z=>?_,s7.new,λa o h g=>?_⟩
   ·by_cases e:a=D
    ·subst e;exact h hD
    ·rw[BA e]at z;exact s7.F6 a h z
   ·have e:a≠D:=λe=>by subst e;rw[hD]at h;cases h
    rw[BA e];exact s7.FZ a o h g
 ·have e:i=ts.length:=by lia
  subst e;rw[Mb]at w2;have w2:=p0 _ _ _ w2;exact .inl ⟨wk.stop H2 Γ2 s2.tq h2 w2.1,?_⟩;have AI:=s1.trans s2;exact vr (.ref D) (.ref D) H2 (up Γ2 D (.lst ys)) ⟨AI.tq,AI.F6,λa h g=>?_,AI.FZ⟩ (λa o g=>?_) Em (w2.2 D gD)
  ·have e:a≠D:=λe=>by subst e;exact s1.F6 _ h hD
   rw[CB e];exact AI.new a h g
  ·by_cases e:a=D
   ·subst e;rw[AP]at g;cases g;exact⟨vs,d2,ry⟩
   ·rw[CB e]at g;exact h2 a o g
section
variable {scope: Scope}{cl: List (Str×Addr)}{own: List Str}{cap: List (Nat×Str)}{tg iter elt: Expr}{ifs: List Expr}{wi: I3}{g: FG}{tc: DJ}{te: Ab}
theorem Gs(c:fv X scope cl own cap)(hc:X.calm=true)(hi:PI X tg iter (GJ E wi))
  (hg:∀C s H fp,PG (DW X (own++cap.map (·.2)) scope cl C s H fp λ_ _=>False) tg (Fw Eu g)) (ht:∀C s H fp,wM (DW X (own++cap.map (·.2)) scope cl C s H fp λ_ _=>False) ifs (Cv Eu tc))
  (he:∀C s H fp,PE (DW X (own++cap.map (·.2)) scope cl C s H fp λ_ _=>False) elt (AF Eu te)) (hs:∀x,foldedSetIterable iter X.env x=pure x:=by intro _;rfl) :
  PE X (.ListComp elt [⟨tg,iter,ifs,0⟩] scope pos) (AF E (Pd wi g tc te own cap)):=GU (uj c hc hi hg ht he hs) kG
theorem yt{i:Nat}{y:Str}{py CT:Pos}(c:fv X scope cl own cap)(hc:X.calm=true)(hi:PI X tg iter (GJ E wi))
  (hg:∀C s H fp,PG (DW X (own++cap.map (·.2)) scope cl C s H fp λ_ _=>False) tg (Fw Eu g)) (ht:∀C s H fp,wM (DW X (own++cap.map (·.2)) scope cl C s H fp λ_ _=>False) ifs (Cv Eu tc))
  (he:∀C s H fp,PE (DW X (own++cap.map (·.2)) scope cl C s H fp λ_ _=>False) elt (AF Eu te))
  (hN:X.N.Nodup) (hy:X.N[i]?=some y) (hl:X.env.scope.names.lookup y=some .local)
  (TL:swapsWith (.ListComp elt [⟨tg,iter,ifs,0⟩] scope pos) (some (.Name y py)) CT.line X.env=pure true:=by rfl) (hs:∀x,foldedSetIterable iter X.env x=pure x:=by intro _;rfl) :
  PS X (.Assign [.Name y py] (.ListComp elt [⟨tg,iter,ifs,0⟩] scope pos) CT) (CL E (Qk i (Pd wi g tc te own cap))):=
 GB (aa6 c hc hi hg ht he hN hy hl TL hs) λD σ H τ Γ Y Z rs hr t dr xr=>
  kG σ H _ ⟨τ,Γ,Y,_,rs,hr,t,λv x H1 Γ1 s1 h1 r1 z1=>dr.nx _ _ H1 Γ1 s1 h1 ((rs.mono s1.tq).set r1 i) z1,xr⟩
def i7:DJ:=λ_ _ Γ Z=>Z true Γ
theorem HB:wM X [] (Cv E i7):=aa0 tJ λσ H Q τ Γ Y Z rs hr t vr xr=>vr true H Γ .refl hr t
theorem tB{t:DJ}(h:PT X c (Cv E t)):wM X [c] (Cv E t):=xo h
end
end
def B5:List Str→List T→Bh
 |[],_=>[]
 |_::N,[]=>none::B5 N []
 |_::N,t::ts=>some t::B5 N ts
theorem mP{H:A7}:∀N:List Str,RS H (List.replicate N.length none) (B5 N [])
 |[]=>trivial
 |_::N=>⟨trivial,mP N⟩
theorem cU{H:A7}:∀(N:List Str) {vs:List V} {ts:List T},Rs H vs ts→ts.length≤N.length→RS H (L2.start N vs) (B5 N ts)
 |N,vs,[],h,_=>by
  rw[G2 h];exact mP N
 |[],vs,t::ts,h,l=>absurd l (by simp)
 |n::N,vs,t::ts,h,l=>by
  let⟨v,ws,rfl,a,b⟩:=Fp h;have:=cU N b (by simpa using l);exact⟨a,?_⟩;unfold L2.start at this;rw[Aw,Aw,Nat.add_sub_add_right];exact this
theorem lx{N:List Str}{sc:Scope}(S:B6 N ps sc):ps.length≤N.length:=by
 have:=Ai List.length S.pre;rw[Bi]at this;lia
section
variable {x: Str}{C: Addr}{Ka: List Value}{B newId yr: String}{e₀: Expr}{v4: List Expr}{t: DA}{E: BG}
def gy(C:Addr)(t:DA):CC:=λY D τ Γ=>t Y τ Γ λxs Γ1=>xs.length≤sizeLine∧Y τ (.ref C) Γ1
theorem Ke(hc:X.calm=true)(hg:C6 X x)(hm:X.mg x=some (.ref C))(hx:W.excIn X.K C Ka newId=true)(FB:ExcBaseFacts B newId yr Ka)(ha:PA X (e₀::v4) (E8 (λ_=>E) t))(hE:Raises X E)
  (hd:(x ==("__debug__" : Str))=false:=by decide) (he:starEach (e₀::v4) X.env=(false,eval e₀ X.env)::starEach v4 X.env:=by rfl) (iM:(backTo eE (starEach v4 X.env)).any (·.1)=false:=by rfl) :
  PS X (.Raise (some (.Call (.Name x np) (e₀::v4) [] eE)) none pos) (CL (λ_=>E) (gy C t)):=
 GB (tZ hc hg hm hx FB ha hE hd he iM) λD σ H τ Γ Y Z rs hr t dr xr=>
  ⟨τ,Γ,Y,_,rs,hr,t,λvs xs H1 Γ1 s1 h1 r1 z1=>⟨by rw[r1.length];exact z1.1,xr σ τ _ H1 Γ1 s1 h1 (rs.mono s1.tq) z1.2⟩,xr⟩
end
section
variable {body gZ: List Stmt}{b₀: Stmt}{y n: Str}{rP: Pos}{Cy: Addr}{j: Nat}{tb ts: CC}
def lZ(K:W.Frag)(Cy:Addr)(j:Nat)(tb ts:CC):CC:=λ_ D τ Γ=>tb (λτ' C Γ'=>W.exmOne K C (.ref Cy)=some true∧∀x,Γ' x=none→
 ts Ec {nx:=λτ2 Γ2=>D.nx (τ2.set j none) Γ2,rt:=D.rt,bk:=λτ2 Γ2=>D.bk (τ2.set j none) Γ2,ct:=λτ2 Γ2=>D.ct (τ2.set j none) Γ2} (τ'.set j (some (.ref x))) (up Γ' x (.ext (excAt x C)))) D τ Γ
theorem RS.unset:∀{σ:St} {τ:Bh} (i:Nat),RS H σ τ→RS H (σ.set i none) (τ.set i none)
 |[],[],_,_=>trivial
 |_::_,_::_,0,h=>⟨trivial,h.2⟩
 |_::_,_::_,i+1,h=>⟨h.1,RS.unset i h.2⟩
 |[],_::_,_,h=>h.elim
 |_::_,[],_,h=>h.elim
theorem NR.unset{Q:St→A7→Prop}(h:NR H Γ Z Q):NR H Γ (λτ2 Γ2=>Z (τ2.set j none) Γ2) (λσ2 H2=>Q (σ2.set j none) H2):=λσ τ H' Γ' s hr r z=>h _ _ H' Γ' s hr (r.unset j) z
theorem ac0(oJ:X.stack=X.env::X.outer)(yv:X.env.frame=some X.env.locals)(hy:C6 X y)(EX:X.mg y=some (.ref Cy))(hN:X.N.Nodup)(hj:X.N[j]?=some n)(hl:X.env.scope.names.lookup n=some .local)
  (hb:∀(E':xz) (pn:ac) (W:St→BG),(∀v0 σ H s e s',Inv (X.tr E' pn) v0 σ H s→DC X.prog X.w X.stack H s (W σ) e s'→E' e s')→jU (X.tr E' pn) body (CL W tb))
  (hs:∀x,jU (X.su x) (b₀::gZ) (CL Eu ts)) (hd:(y ==("__debug__" : Str))=false:=by decide) :
  PS X (.Try body [.ExceptHandler (some (.Name y np)) (some n) (b₀::gZ) rP] [] [] pos) (CL E (lZ X.K Cy j tb ts)):=
 GB (y7 oJ yv hy EX hN hj hl hb hs hd) λD σ H τ Γ Y Z rs hr t dr xr=>by
  exact Ψ4 τ Γ _ Z ⟨rs,hr,t,dr,λσ1 τ1 C H1 Γ1 s1 h1 r1 y1=>⟨y1.1,λx hx=>?_⟩⟩;have k:=Dy (o:=.ext (excAt x C)) hx;have s2:gN H Γ (Aa H1 x (.ext (excAt x C))) (up Γ1 x (.ext (excAt x C))):=s1.trans (.make hx);exact Ψ4 _ _ Ec _ ⟨RS.set Em j (r1.mono (E7 k)),h1.make (o3:=.ext (excAt x C)) hx D3,y1.2 x (h1.free hx),⟨(dr.nx.mono s2).unset,dr.rt.mono s2,(dr.bk.mono s2).unset,(dr.ct.mono s2).unset⟩,Hv⟩
def kE(K:W.Frag)(Cy:Addr)(tb ts:CC):CC:=λ_ D τ Γ=>tb (λτ' C Γ'=>W.exmOne K C (.ref Cy)=some true∧ts Ec D τ' Γ') D τ Γ
theorem adg(oJ:X.stack=X.env::X.outer)(yv:X.env.frame=some X.env.locals)(hy:C6 X y)(EX:X.mg y=some (.ref Cy))
  (hb:∀(E':xz) (pn:ac) (W:St→BG),(∀v0 σ H s e s',Inv (X.tr E' pn) v0 σ H s→DC X.prog X.w X.stack H s (W σ) e s'→E' e s')→jU (X.tr E' pn) body (CL W tb))
  (hs:∀x,jU (X.su x) (b₀::gZ) (CL Eu ts)) (hd:(y ==("__debug__" : Str))=false:=by decide) :
  PS X (.Try body [.ExceptHandler (some (.Name y np)) none (b₀::gZ) rP] [] [] pos) (CL E (kE X.K Cy tb ts)):=
 GB (x6 oJ yv hy EX hb hs hd) λD σ H τ Γ Y Z rs hr t dr xr=>
  ⟨τ,Γ,_,Z,rs,hr,t,dr,λσ1 τ1 C H1 Γ1 s1 h1 r1 y1=>⟨y1.1,_,_,Ec,_,r1,h1,y1.2,dr.mono s1,Hv⟩⟩
end
def sc:T→Option V
 |.non=>some .non|.bl b=>some (.bl b)|.int i=>some (.int i)|.str z=>some (.str z)|_=>none
theorem Ja{u:V}(r:R H v x)(h:sc x=some u):v=u:=by
 cases x with
 |non=>cases h;exact L9 r
 |bl b=>cases h;exact Hi r
 |int i=>cases h;exact DZ r
 |str z=>cases h;exact D4 r
 |tup ts=>cases h
 |ref a=>cases h
 |ty n=>cases h
 |scr K a ts=>cases h
def JK:List T→Option (List V)
 |[]=>some []
 |x::r=>match sc x,JK r with|some v,some vs=>some (v::vs)|_,_=>none
theorem jh{H:A7}:∀{ts:List T} {vs us:List V},Rs H vs ts→JK ts=some us→vs=us
 |[],vs,us,r,h=>by cases h;exact G2 r
 |x::q,vs,us,r,h=>by
  let⟨v,ws,rfl,a,b⟩:=Fp r;unfold JK at h;split at h
  ·rename_i v' FU e1 e2
   cases h;rw[Ja a e1,jh b e2]
  ·cases h
def EC(Γ:AS):T→Option (List T)
 |.tup ts=>some ts
 |.ref a=>match Γ a with|some (.lst ts)=>some ts|_=>none
 |_=>none
theorem BM(h:Γ a=some (.lst ts)):EC Γ (.ref a)=some ts:=by
 show(match Γ a with|some (.lst ts)=>some ts|_=>none)=_
 rw[h]
theorem Hh(hr:HR H Γ)(h:EC Γ (.ref a)=some ts):∃vs,jK K H a vs∧Rs H vs ts:=by
 have h:(match Γ a with|some (.lst ts)=>some ts|_=>none)=some ts:=h;split at h
 ·rename_i ts' g;cases h;let⟨vs,ha,q⟩:=hr a _ g;exact⟨vs,jK.of ha,q⟩
 ·cases h
theorem R8(r:R H v x)(hr:HR H Γ)(h:EC Γ x=some ts):∃p vs,v=.ref p∧(jK K H p vs∨js K H p vs)∧Rs H vs ts:=by
 cases x with
 |tup us=>cases h;let⟨a,vs,e,ha,q⟩:=Ie r;exact Ψ2 a vs ⟨e,.inr (js.of ha),q⟩
 |ref a=>let⟨vs,s,q⟩:=Hh (K:=K) hr h;exact Ψ2 a vs ⟨CE r,.inl s,q⟩
 |_=>cases h
section
def LA(C:Int→Int→Prop)(g:Int→Int→T):EO:=λx y Γ Z=>∃i j,x=.int i∧y=.int j∧C i j∧Z (g i j) Γ
def Ia(g:Int→Int→T):EO:=λx y Γ Z=>∃i j,x=.int i∧y=.int j∧Z (g i j) Γ
theorem O2{g:Int→Int→V}(h:By X f (Ku C g))(e:∀i j H,R H (g i j) (g3 i j)):Bt X f (LA C g3):=
 ⟨_,h,λx y a b H Γ Q Z ra rb hr q0 vr=>by let⟨i,j,ea,eb,c,z⟩:=q0;subst ea eb;exact Ψ2 i j ⟨DZ ra,DZ rb,c,vr _ _ H Γ .refl hr (e i j H) z⟩⟩
theorem Jv{g:Int→Int→V}(h:By X f (Hk g))(e:∀i j H,R H (g i j) (g3 i j)):Bt X f (Ia g3):=
 ⟨_,h,λx y a b H Γ Q Z ra rb hr q0 vr=>by let⟨i,j,ea,eb,z⟩:=q0;subst ea eb;exact Ψ2 i j ⟨DZ ra,DZ rb,vr _ _ H Γ .refl hr (e i j H) z⟩⟩
theorem BF:Bt X (binaryOp .Add) (Ia λi j=>.int (i+j)):=Jv xK λ_ _ _=>E0
theorem HC:Bt X (binaryOp .Sub) (Ia λi j=>.int (i-j)):=Jv v9 λ_ _ _=>E0
theorem Ht:Bt X (binaryOp .Mult) (LA IU λi j=>.int (i*j)):=O2 aaw λ_ _ _=>E0
theorem FC:Bt X (binaryOp .FloorDiv) (LA Av λi j=>.int (i/j)):=O2 zB λ_ _ _=>E0
theorem BU:Bt X (binaryOp .Mod) (LA (λ_ j=>0<j) λi j=>.int (i%j)):=O2 yC λ_ _ _=>E0
theorem QX:Bt X (binaryOp .Pow) (LA mD λi j=>.int (i^j.toNat)):=O2 yy λ_ _ _=>E0
theorem FV:Bt X (compareOp .Lt) (Ia λi j=>.bl (decide (i<j))):=Jv abf λ_ _ _=>Dp
theorem J4:Bt X (compareOp .LtE) (Ia λi j=>.bl (decide (i≤j))):=Jv vd λ_ _ _=>Dp
theorem Hn:Bt X (compareOp .Gt) (Ia λi j=>.bl (decide (j<i))):=Jv y0 λ_ _ _=>Dp
theorem hW:Bt X (compareOp .GtE) (Ia λi j=>.bl (decide (j≤i))):=Jv rp λ_ _ _=>Dp
theorem fi:Bt X (inplaceOp .Add) (Ia λi j=>.int (i+j)):=Jv acx λ_ _ _=>E0
theorem CA:Bt X (binaryOp .Add) (λx y Γ Z=>∃i j,x=.str i∧y=.str j∧i.length+j.length≤sizeLine∧Z (.str (i++j)) Γ):=
 ⟨_,si,λx y a b H Γ Q Z ra rb hr q0 vr=>by let⟨i,j,ea,eb,c,z⟩:=q0;subst ea eb;exact Ψ2 i j ⟨D4 ra,D4 rb,c,vr _ _ H Γ .refl hr GX z⟩⟩
theorem Nz:Bt X (compareOp .In) (λx y Γ Z=>∃i j,x=.str i∧y=.str j∧Z (.bl (!(Builtin.Str.occurrences j i 0 j.length 1).isEmpty)) Γ):=
 ⟨_,sH,λx y a b H Γ Q Z ra rb hr q0 vr=>by let⟨i,j,ea,eb,z⟩:=q0;subst ea eb;exact Ψ2 i j ⟨D4 ra,D4 rb,vr _ _ H Γ .refl hr Dp z⟩⟩
theorem nQ:Bt X (compareOp .NotIn) (λx y Γ Z=>∃i j,x=.str i∧y=.str j∧Z (.bl (!(!(Builtin.Str.occurrences j i 0 j.length 1).isEmpty))) Γ):=
 ⟨_,uC,λx y a b H Γ Q Z ra rb hr q0 vr=>by let⟨i,j,ea,eb,z⟩:=q0;subst ea eb;exact Ψ2 i j ⟨D4 ra,D4 rb,vr _ _ H Γ .refl hr Dp z⟩⟩
theorem aag:Bt X (binaryOp .Mult) (λx y Γ Z=>∃z k,x=.str z∧y=.int k∧-(2^62)<k∧k≤1000∧z.length≤1000∧Z (.str (ED z k.toNat)) Γ):=
 ⟨_,acu,λx y a b H Γ Q Z ra rb hr q0 vr=>by let⟨i,j,ea,eb,c1,c2,c3,z⟩:=q0;subst ea eb;exact Ψ2 i j ⟨D4 ra,DZ rb,c1,c2,c3,vr _ _ H Γ .refl hr GX z⟩⟩
def Wx:EO:=λx y Γ Z=>∃u v,sc x=some u∧sc y=some v∧Ox u v=true∧Z (.bl (decide (u=v))) Γ
def cF:EO:=λx y Γ Z=>∃u v,sc x=some u∧sc y=some v∧Ox u v=true∧Z (.bl (!decide (u=v))) Γ
theorem Be:Bt X (compareOp .Eq) Wx:=
 ⟨_,abG,λx y a b H Γ Q Z ra rb hr q0 vr=>by let⟨u,v,ea,eb,c,z⟩:=q0;rw[Ja ra ea,Ja rb eb];exact⟨c,vr _ _ H Γ .refl hr Dp z⟩⟩
theorem DS:Bt X (compareOp .NotEq) cF:=
 ⟨_,uv,λx y a b H Γ Q Z ra rb hr q0 vr=>by let⟨u,v,ea,eb,c,z⟩:=q0;rw[Ja ra ea,Ja rb eb];exact⟨c,vr _ _ H Γ .refl hr Dp z⟩⟩
def Il:T→Bool|.non=>true|_=>false
theorem jx(r:R H v x):decide (v=.non)=Il x:=by
 cases x with
 |non=>rw[L9 r];rfl
 |bl b=>rw[Hi r];rfl
 |int i=>rw[DZ r];rfl
 |str z=>rw[D4 r];rfl
 |tup ts=>let⟨a,vs,e,_⟩:=Ie r;rw[e];rfl
 |ref a=>rw[CE r];rfl
 |ty n=>rw[mH r];rfl
 |scr K a ts=>rw[(Q5 r).1];rfl
theorem Jq:Bt X (compareOp .Is) (λx y Γ Z=>y=.non∧Z (.bl (Il x)) Γ):=
 ⟨_,sx,λx y a b H Γ Q Z ra rb hr q0 vr=>by let⟨eb,z⟩:=q0;subst eb;exact⟨L9 rb,by rw[jx ra];exact vr _ _ H Γ .refl hr Dp z⟩⟩
theorem Qe:Bt X (compareOp .IsNot) (λx y Γ Z=>y=.non∧Z (.bl (!Il x)) Γ):=
 ⟨_,tW,λx y a b H Γ Q Z ra rb hr q0 vr=>by let⟨eb,z⟩:=q0;subst eb;exact⟨L9 rb,by rw[jx ra];exact vr _ _ H Γ .refl hr Dp z⟩⟩
def Lv(neg:Bool):EO:=λx y Γ Z=>∃u ts us,sc x=some u∧EC Γ y=some ts∧JK ts=some us∧EV u=true∧us.all EV=true∧Z (.bl (if neg then !DX u us else DX u us)) Γ
theorem pj(x y:V)(a b:T)(H:A7)(Γ:AS)(Q:Ar)(Z:DI)(ra:R H x a)(rb:R H y b)(hr:HR H Γ)(h:Lv neg a b Γ Z)(vr:VR H Γ Z Q):gc X.K neg x y H Q:=by
 let⟨u,ts,us,ea,eb,es,f1,f2,z⟩:=h;let⟨p,vs,rfl,sq,q⟩:=R8 (K:=X.K) rb hr eb;rw[Ja ra ea];cases jh q es;exact Ψ2 p _ ⟨rfl,sq,f1,f2,vr _ _ H Γ .refl hr Dp z⟩
theorem QF:Bt X (compareOp .In) (Lv false):=⟨_,nK,pj⟩
theorem KU:Bt X (compareOp .NotIn) (Lv true):=⟨_,rQ,pj⟩
theorem aaU(q:Rs H vs ts):vs.isEmpty=ts.isEmpty:=by
 have:=q.length;cases vs<;>cases ts<;>simp_all
theorem xT(hu:X.A.units<cLine):Bt X (compareOp .Eq) (λx y Γ Z=>∃a b ts,x=.ref a∧y=.ref b∧Γ a=some (.lst ts)∧Γ b=some (.lst [])∧Z (.bl ts.isEmpty) Γ):=
 ⟨_,abe hu,λx y a b H Γ Q Z ra rb hr q0 vr=>by
  let⟨p,p',ts,ea,eb,g1,g2,z⟩:=q0;subst ea eb;let⟨vs,hv,q⟩:=hr p _ g1;let⟨FU,JO,q'⟩:=hr p' _ g2;rw[G2 q']at JO;exact Ψ3 p p' vs ⟨CE ra,CE rb,jK.of hv,jK.of JO,by rw[aaU q];exact vr _ _ H Γ .refl hr Dp z⟩⟩
def uY:EO:=λx y Γ Z=>∃ts us,x=.tup ts∧y=.tup us∧ts.length+us.length≤sizeLine∧Z (.tup (ts++us)) Γ
def bM:EO:=λx y Γ Z=>∃a b ts us,x=.ref a∧y=.ref b∧Γ a=some (.lst ts)∧Γ b=some (.lst us)∧ts.length+us.length≤sizeLine∧∀p,Γ p=none→Z (.ref p) (up Γ p (.lst (ts++us)))
theorem Dt:Bt X (binaryOp .Add) bM:=
 ⟨_,vX,λx y a b H Γ Q Z ra rb hr q0 vr=>by
  let⟨p,p',ts,us,ea,eb,g1,g2,l,z⟩:=q0;subst ea eb;let⟨vs,hv,q⟩:=hr p _ g1;let⟨FU,JO,q'⟩:=hr p' _ g2;exact Ψ4 p p' vs FU ⟨CE ra,CE rb,hv,JO,by rw[q.length,q'.length];exact l,λc hc=>?_⟩;have k:=Dy (o:=.lst (vs++FU)) hc;exact vr _ _ _ _ (.make hc) (hr.make (o3:=.lst (ts++us)) hc ⟨_,D3,Rs.app (q.mono (E7 k)) (q'.mono (E7 k))⟩) Em (z c (hr.free hc))⟩
theorem sg{t:T}(q:Rs H vs ts)(h:B7 ts i=some t):∃v,B7 vs i=some v∧R H v t:=by
 unfold B7 at h ⊢;rw[q.length];cases e:Dm ts.length i with
 |none=>rw[e]at h;cases h
 |some j=>
  rw[e]at h;have h':ts[j]?=some t:=h;let⟨v,hv,r⟩:=q.get h';exact⟨v,hv,r⟩
def Ki:EO:=λx y Γ Z=>∃ts i t,EC Γ x=some ts∧y=.int i∧B7 ts i=some t∧Z t Γ
def pC:EO:=λx y Γ Z=>∃z i c,x=.str z∧y=.int i∧z.length≤sizeLine∧B7 z.cps.toList i=some c∧Z (.str ⟨#[c]⟩) Γ
variable {a b e: Expr}{ta tb te: Ab}
theorem tM(ha:PE X a (AF E ta))(hb:PE X b (AF E tb))(hs:M2 b):PE X (.Subscript a b pos) (AF E (Gx Ki ta tb)):=
 GU (qi abg ha hb hs) (Ma λx y a b H Γ Q Z ra rb hr q0 vr=>by
  let⟨ts,i,t,ea,eb,h,z⟩:=q0;subst eb;let⟨p,vs,rfl,sq,q⟩:=R8 (K:=X.K) ra hr ea;let⟨v,hv,r⟩:=sg q h;rcases sq with sq|sq
  ·exact .inl ⟨p,vs,i,v,rfl,DZ rb,sq,hv,vr _ _ H Γ .refl hr r z⟩
  ·exact .inr (.inl ⟨p,vs,i,v,rfl,DZ rb,sq,hv,vr _ _ H Γ .refl hr r z⟩))
theorem uu(ha:PE X a (AF E ta))(hb:PE X b (AF E tb))(hs:M2 b):PE X (.Subscript a b pos) (AF E (Gx pC ta tb)):=
 GU (qi nA ha hb hs) (Ma λx y a b H Γ Q Z ra rb hr q0 vr=>by
  let⟨w,i,c,ea,eb,l,h,z⟩:=q0;subst ea eb;exact Ψ3 w i c ⟨D4 ra,DZ rb,l,h,vr _ _ H Γ .refl hr GX z⟩)
abbrev J8:=G6→Bh→AS→(Option Int→AS→Prop)→Prop
def NN(E:St→BG)(t:J8):Ih:=λσ H Q=>∃τ Γ Y Z,RS H σ τ∧HR H Γ∧t Y τ Γ Z∧(∀i H' Γ',gN H Γ H' Γ'→HR H' Γ'→Z i Γ'→Q i H')∧XR H Γ Y E
theorem sL{e:Option Expr}{t t':Ih}(h:PO X e t)(w:∀σ H Q,t' σ H Q→t σ H Q):PO X e t':=⟨λv0 s σ H Q I q=>h.run v0 s σ H Q I (w _ _ _ q)⟩
theorem m6{e:Option Expr}{t0:Ih}{t:J8}(h:PO X e t0)(w:∀σ H Q τ Γ Y Z,RS H σ τ→HR H Γ→t Y τ Γ Z→(∀i H' Γ',gN H Γ H' Γ'→HR H' Γ'→Z i Γ'→Q i H')→XR H Γ Y E→t0 σ H Q):PO X e (NN E t):=
 sL h (by intro σ H Q⟨τ,Γ,Y,Z,rs,hr,q,vr,xr⟩;exact w σ H Q τ Γ Y Z rs hr q vr xr)
def jd:J8:=λ_ _ Γ Z=>Z none Γ
def ja(t:Ab):J8:=λY τ Γ Z=>t Y τ Γ λx Γ1=>∃i,x=.int i∧Z (some i) Γ1
theorem DL:PO X none (NN E jd):=m6 sS λσ H Q τ Γ Y Z rs hr t vr xr=>vr none H Γ .refl hr t
theorem BQ(h:PE X e (AF E te)):PO X (some e) (NN E (ja te)):=m6 (abK h) λσ H Q τ Γ Y Z rs hr t vr xr=>
 ⟨τ,Γ,Y,_,rs,hr,t,λv x H1 Γ1 s1 h1 r1 q0=>by let⟨i,ex,z⟩:=q0;subst ex;exact⟨i,DZ r1,vr _ H1 Γ1 s1 h1 z⟩,xr⟩
abbrev Qw:=T→Option Int→Option Int→AS→DI→Prop
def fW(X:Cx)(r3:Qw):Prop:=∃r,R4 X r∧∀x a lo hi H Γ Q Z,R H x a→HR H Γ→r3 a lo hi Γ Z→VR H Γ Z Q→r x lo hi H Q
def lE(r:Qw)(te:Ab)(tl th:J8):Ab:=λY τ Γ Z=>te Y τ Γ λx Γ1=>tl Y τ Γ1 λl Γ2=>th Y τ Γ2 λu Γ3=>r x l u Γ3 Z
theorem C3{r3:Qw}{lo hi:Option Expr}{tl:J8}(hs:fW X r3)(he:PE X e (AF E te))(hl:PO X lo (NN E tl))(hu:PO X hi (NN E th)):PE X (.Subscript e (.Slice lo hi none p2) pos) (AF E (lE r3 te tl th)):=by
 let⟨r,X4,sim⟩:=hs;exact EB (aaf X4 he hl hu) λσ H Q τ Γ Y Z rs hr t vr xr=>?_;exact Ψ4 τ Γ Y _ ⟨rs,hr,t,λv x H1 Γ1 s1 h1 r1 z1=>?_,xr⟩;exact Ψ4 τ Γ1 Y _ ⟨rs.mono s1.tq,h1,z1,λl H2 Γ2 s2 h2 z2=>?_,xr.mono s1⟩;exact Ψ4 τ Γ2 Y _ ⟨rs.mono (s1.trans s2).tq,h2,z2,λu H3 Γ3 s3 h3 z3=>?_,xr.mono (s1.trans s2)⟩;exact sim v x l u H3 Γ3 Q Z (r1.mono (s2.trans s3).tq) h3 z3 (vr.mono ((s1.trans s2).trans s3))
theorem vw{lo hi:Option Int}(q:Rs H vs ts):Rs H (KD vs lo hi) (Ct ts lo hi):=by
 unfold KD Ct;rw[q.length];exact Rs.take _ (Rs.drop _ q)
theorem CY:fW X (λx lo hi Γ Z=>∃a ts,x=.ref a∧Γ a=some (.lst ts)∧∀p,Γ p=none→Z (.ref p) (up Γ p (.lst (Ct ts lo hi)))):=
 ⟨_,abj,λx a lo hi H Γ Q Z ra hr q0 vr=>by
  let⟨p,ts,ea,g,z⟩:=q0;subst ea;let⟨vs,hv,q⟩:=hr p _ g;exact Ψ2 p vs ⟨CE ra,jK.of hv,λc hc=>?_⟩;have k:=Dy (o:=.lst (KD vs lo hi)) hc;exact vr _ _ _ _ (.make hc) (hr.make (o3:=.lst (Ct ts lo hi)) hc ⟨_,D3,vw (q.mono (E7 k))⟩) Em (z c (hr.free hc))⟩
theorem L8:fW X (λx lo hi Γ Z=>∃z:Str,x=.str z∧z.length≤sizeLine∧∀y:Str,y.cps.toList=Ct z.cps.toList lo hi→Z (.str y) Γ):=
 ⟨_,sk,λx a lo hi H Γ Q Z ra hr q0 vr=>by
  let⟨w,ea,l,z⟩:=q0;subst ea;exact⟨w,D4 ra,l,λy hy=>vr _ _ H Γ .refl hr GX (z y hy)⟩⟩
def Nn(r:T→AS→DI→Prop)(te ts:Ab):Ab:=λY τ Γ Z=>te Y τ Γ λx Γ1=>ts Y τ Γ1 λk Γ2=>k=.int (-1)∧r x Γ2 Z
def m7(g:Int→T):T→AS→DI→Prop:=λx Γ Z=>∃i,x=.int i∧Z (g i) Γ
def qc(r:T→AS→DI→Prop)(ta:Ab):Ab:=λY τ Γ Z=>ta Y τ Γ λx Γ1=>r x Γ1 Z
theorem LR(ha:PE X a (AF E ta)):PE X (.UnaryOp .USub a pos) (AF E (qc (m7 λi=>.int (-i)) ta)):=
 EB (abH aan ha) λσ H Q τ Γ Y Z rs hr t vr xr=>
  ⟨τ,Γ,Y,_,rs,hr,t,λv x H1 Γ1 s1 h1 r1 q0=>by let⟨i,ex,z⟩:=q0;subst ex;exact⟨i,DZ r1,vr _ _ H1 Γ1 s1 h1 E0 z⟩,xr⟩
abbrev Mu:=List T→AS→DI→Prop
def Ex(X:Cx)(f:Value)(r3:Mu):Prop:=∃r,FN X f r∧∀vs ts H Γ Q Z,Rs H vs ts→HR H Γ→r3 ts Γ Z→VR H Γ Z Q→r vs H Q
def QE(r:Mu)(t:DA):Ab:=λY τ Γ Z=>t Y τ Γ λts Γ1=>r ts Γ1 Z
theorem jB{r:List V→A7→Ar→Prop}{r3:Mu}(h:∀vs ts H Γ Q Z,Rs H vs ts→HR H Γ→r3 ts Γ Z→VR H Γ Z Q→r vs H Q)(σ:St)(H:A7)(Q:Ar)(q:AF E (QE r3 t) σ H Q):aL r (E8 E t) σ H Q:=by
 let⟨τ,Γ,Y,Z,rs,hr,t,vr,xr⟩:=q;exact Ψ4 τ Γ Y _ ⟨rs,hr,t,λvs xs H1 Γ1 s1 h1 r1 z1=>h vs xs H1 Γ1 Q Z r1 h1 z1 (vr.mono s1),xr⟩
section
variable {x: Str}{p: Pos}{e: Expr}{t: DA}{id: String}{r3: Mu}
theorem BE(hc:Ex X (.builtin id) r3)(hg:C6 X x)(hm:X.mg x=none)(hv:bootBuiltins x=some (.builtin id))(ha:PA X (e::es) (E8 E t))(hn:x ≠ "__name__" := by decide)(oX:(x ==("__debug__" : Str))=false:=by decide)
  (he:starEach (e::es) X.env=(false,eval e X.env)::starEach es X.env:=by rfl) (iM:(backTo pos (starEach es X.env)).any (·.1)=false:=by rfl):PE X (.Call (.Name x p) (e::es) [] pos) (AF E (QE r3 t)):=by
 let⟨r,hr,h⟩:=hc;exact GU (pZ hr hg hm hv ha hn oX he iM) (jB h)
theorem Hb(hc:Ex X (.type Tn) r3)(hg:C6 X x)(hm:X.mg x=none)(hv:bootBuiltins x=some (.type Tn))(ha:PA X (e::es) (E8 E t))(hn:x ≠ "__name__" := by decide)(oX:(x ==("__debug__" : Str))=false:=by decide)
  (he:starEach (e::es) X.env=(false,eval e X.env)::starEach es X.env:=by rfl) (iM:(backTo pos (starEach es X.env)).any (·.1)=false:=by rfl):PE X (.Call (.Name x p) (e::es) [] pos) (AF E (QE r3 t)):=by
 let⟨r,hr,h⟩:=hc;exact GU (abm hr hg hm hv ha hn oX he iM) (jB h)
end
theorem rm(h:Rs H vs [x]):∃v,vs=[v]∧R H v x:=by
 let⟨v,ws,rfl,a,b⟩:=Fp h;exact⟨v,by rw[G2 b],a⟩
theorem AK{y:T}(h:Rs H vs [x,y]):∃v w,vs=[v,w]∧R H v x∧R H w y:=by
 let⟨v,ws,rfl,a,b⟩:=Fp h;let⟨w,rfl,c⟩:=rm b;exact Ψ2 v w ⟨rfl,a,c⟩
theorem Co:Ex X (.builtin "len") (λxs Γ Z=>∃x ts,xs=[x]∧EC Γ x=some ts∧Z (.int ts.length) Γ):=
 ⟨_,jA,λvs xs H Γ Q Z r hr q0 vr=>by
  let⟨x,ts,e,h,z⟩:=q0;subst e;let⟨v,rfl,rv⟩:=rm r;let⟨p,us,rfl,sq,q⟩:=R8 (K:=X.K) rv hr h;exact Ψ2 p us ⟨rfl,sq,by rw[q.length];exact vr _ _ H Γ .refl hr E0 z⟩⟩
theorem Iq:Ex X (.builtin "len") (λxs Γ Z=>∃z:Str,xs=[.str z]∧z.length≤sizeLine∧Z (.int z.length) Γ):=
 ⟨_,rn,λvs xs H Γ Q Z r hr q0 vr=>by
  let⟨w,e,l,z⟩:=q0;subst e;let⟨v,rfl,rv⟩:=rm r;exact⟨w,by rw[D4 rv],l,vr _ _ H Γ .refl hr E0 z⟩⟩
theorem KN:Ex X (.type "tuple") (λxs Γ Z=>∃x ts,xs=[x]∧EC Γ x=some ts∧Z (.tup ts) Γ):=
 ⟨_,yg,λvs xs H Γ Q Z r hr q0 vr=>by
  let⟨x,ts,e,h,z⟩:=q0;subst e;let⟨v,rfl,rv⟩:=rm r;cases x with
  |tup us=>
   cases h;let⟨a,ws,rfl,ha,q⟩:=Ie rv;exact Ψ2 a ws ⟨rfl,.inr ⟨js.of ha,vr _ _ H Γ .refl hr (Py ha q) z⟩⟩
  |ref a=>
   let⟨us,sq,q⟩:=Hh (K:=X.K) hr h;exact Ψ2 a us ⟨by rw[CE rv],.inl ⟨sq,λl hl=>?_⟩⟩;have k:=Dy (o:=.tup us) hl;exact vr _ _ _ Γ (.keep k) (hr.keep k) (Py D3 (q.mono (E7 k))) z
  |_=>cases h⟩
theorem aca:Ex X (.type "list") (λxs Γ Z=>∃x ts,xs=[x]∧EC Γ x=some ts∧∀p,Γ p=none→Z (.ref p) (up Γ p (.lst ts))):=
 ⟨_,sG,λvs xs H Γ Q Z r hr q0 vr=>by
  let⟨x,ts,e,h,z⟩:=q0;subst e;let⟨v,rfl,rv⟩:=rm r;let⟨p,us,rfl,sq,q⟩:=R8 (K:=X.K) rv hr h;exact Ψ2 p us ⟨rfl,sq,λl hl=>?_⟩;have k:=Dy (o:=.lst us) hl;exact vr _ _ _ _ (.make hl) (hr.make (o3:=.lst ts) hl ⟨_,D3,q.mono (E7 k)⟩) Em (z l (hr.free hl))⟩
theorem jE(hc:X.calm=true):Ex X (.builtin "min") (λxs Γ Z=>∃i j,xs=[.int i,.int j]∧Z (.int (if j<i then j else i)) Γ):=
 ⟨_,xf hc,λvs xs H Γ Q Z r hr q0 vr=>by
  let⟨i,j,e,z⟩:=q0;subst e;let⟨v,w,rfl,a,b⟩:=AK r;exact Ψ2 i j ⟨by rw[DZ a,DZ b],vr _ _ H Γ .refl hr E0 z⟩⟩
theorem iY{H:A7}:∀{ns:List Int} {vs:List V},Rs H vs (ns.map T.int)→vs=ns.map V.int
 |[],vs,h=>G2 h
 |n::r,vs,h=>by
  let⟨v,ws,rfl,a,b⟩:=Fp h;rw[DZ a,iY b];rfl
theorem pV{H:A7}:∀{ns:List Bool} {vs:List V},Rs H vs (ns.map T.bl)→vs=ns.map V.bl
 |[],vs,h=>G2 h
 |n::r,vs,h=>by
  let⟨v,ws,rfl,a,b⟩:=Fp h;rw[Hi a,pV b];rfl
theorem dc{H:A7}:∀{ns:List Str} {vs:List V},Rs H vs (ns.map T.str)→vs=ns.map V.str
 |[],vs,h=>G2 h
 |n::r,vs,h=>by
  let⟨v,ws,rfl,a,b⟩:=Fp h;rw[D4 a,dc b];rfl
theorem OL(hc:X.calm=true):Ex X (.builtin "all") (λxs Γ Z=>∃(p:Addr) (bs:List Bool),xs=[.ref p]∧EC Γ (.ref p)=some (bs.map T.bl)∧Z (.bl (bs.all id)) Γ):=
 ⟨_,xl hc,λvs xs H Γ Q Z r hr q0 vr=>by
  let⟨p,ns,e,g,z⟩:=q0;subst e;let⟨v,rfl,a⟩:=rm r;let⟨us,sq,q⟩:=Hh (K:=X.K) hr g;rw[pV q]at sq;exact Ψ2 p ns ⟨by rw[CE a],sq,vr _ _ H Γ .refl hr Dp z⟩⟩
theorem iu(hc:X.calm=true):Ex X (.builtin "max") (λxs Γ Z=>∃(p:Addr) (ns:List Int),xs=[.ref p]∧EC Γ (.ref p)=some (ns.map T.int)∧ns≠[]∧Z (.int (Ej ns)) Γ):=
 ⟨_,v8 hc,λvs xs H Γ Q Z r hr q0 vr=>by
  let⟨p,ns,e,g,n,z⟩:=q0;subst e;let⟨v,rfl,a⟩:=rm r;let⟨us,sq,q⟩:=Hh (K:=X.K) hr g;rw[iY q]at sq;exact Ψ2 p ns ⟨by rw[CE a],sq,n,vr _ _ H Γ .refl hr E0 z⟩⟩
def Eb(Γ:AS):T→Option String
 |.non=>some "NoneType" |.bl _=>some "bool" |.int _=>some "int" |.str _=>some "str" |.tup _=>some "tuple"
 |.ref a=>match Γ a with|some (.lst _)=>some "list" |some (.dK _)=>some "dict" |_=>none
 |.ty _=>none
 |.scr _ _ _=>none
theorem lI(r:R H v x)(hr:HR H Γ)(h:Eb Γ x=some n):Fm K H v (.type n):=by
 cases x with
 |non=>cases h;rw[L9 r];exact .non
 |bl b=>cases h;rw[Hi r];exact .bl b
 |int i=>cases h;rw[DZ r];exact .int i
 |str z=>cases h;rw[D4 r];exact .str z
 |tup ts=>cases h;let⟨a,vs,e,ha,_⟩:=Ie r;rw[e];exact .tup ha
 |ty n=>cases h
 |scr K a ts=>cases h
 |ref a=>
  rw[CE r];have h:(match Γ a with|some (.lst _)=>some "list" |some (.dK _)=>some "dict" |_=>none)=some n:=h;split at h
  ·rename_i g;cases h;let⟨vs,hv,_⟩:=hr a _ g;exact .lst hv
  ·rename_i g;cases h;let⟨vs,hv,_⟩:=hr a _ g;exact .dK hv
  ·cases h
def kT(K:W.Frag)(Ty:String)(te:Ab):Ab:=λY τ Γ Z=>te Y τ Γ λx Γ1=>∃n b,Eb Γ1 x=some n∧W.kitOne K (.type n) (.type Ty)=some b∧Z (.bl b) Γ1
theorem D2{x:Expr}{p p2 pos:Pos}{Tn:Str}(hg:C6 X "isinstance")(hm:X.mg "isinstance" = none)(Ub:C6 X Tn)(T5:X.mg Tn=none)(TK:bootBuiltins Tn=some (.type Ty))(he:PE X x (AF E te))(hn:Tn ≠ "__name__" := by decide)(Uh:(Tn ==("__debug__" : Str))=false:=by decide)
  (hs:starEach [x,.Name Tn p2] X.env=(false,eval x X.env)::starEach [.Name Tn p2] X.env:=by rfl) (wI:starEach [.Name Tn p2] X.env=[(false,eval (.Name Tn p2) X.env)]:=by rfl)
  (iM:(backTo pos (starEach [.Name Tn p2] X.env)).any (·.1)=false:=by rfl):PE X (.Call (.Name "isinstance" p) [x,.Name Tn p2] [] pos) (AF E (kT X.K Ty te)):=
 EB (vU hg hm Ub T5 TK he hn Uh hs wI iM) λσ H Q τ Γ Y Z rs hr t vr xr=>
  ⟨τ,Γ,Y,_,rs,hr,t,λv x H1 Γ1 s1 h1 r1 ξ=>Ξ23 ξ λn b ty k z=>⟨v,rfl,.type n,b,lI r1 h1 ty,k,vr _ _ H1 Γ1 s1 h1 Dp z⟩,xr⟩
theorem aak:Ex X (.builtin "len") (λxs Γ Z=>∃a ts,xs=[.scr X.K a ts]∧Z (.int ts.length) Γ):=
 ⟨_,jA,λvs xs H Γ Q Z r hr q0 vr=>by
  let⟨a,ts,e,z⟩:=q0;subst e;let⟨v,rfl,rv⟩:=rm r;let⟨rfl,⟨us,sq,q⟩⟩:=Q5 rv;exact Ψ2 a us ⟨rfl,.inl sq.sq,by rw[q.length];exact vr _ _ H Γ .refl hr E0 z⟩⟩
end
section
variable {tg l: Expr}{tl: Ab}{p: Pos}
abbrev EG:AS→Prop:=λ_=>True
def rM(tl:Ab):I3:=λY τ Γ Z=>tl Y τ Γ λx Γ1=>∃ts,x=.tup ts∧Z ts EG Γ1
theorem wC(ha:H a=some (.tup vs))(q:Rs H vs ts):Walks (fe K a) ts EG H where
 go:=λi H' Γ t hr _ hi=>Ψ2 vs (vs[i]'(by rw[q.length];exact hi)) ⟨js.of (t.1 a vs ha),by simp⟩
 uZ:=λi H' Γ x H2 t hr _ hi q0=>by
  let⟨e,y⟩:=q0;subst e;let⟨t',e',r⟩:=(q.mono t).HU (y vs (js.of (t.1 a vs ha)));exact⟨.refl,hr,t',e',r⟩
 stop:=λH' Γ t hr _=>⟨vs,js.of (t.1 a vs ha),by rw[q.length];exact Ax _⟩
theorem Io(hl:PE X l (AF E tl)):PI X tg l (GJ E (rM tl)):=
 Kg (aaX hl) λσ H Q τ Γ Y Z rs hr t vr xr=>⟨τ,Γ,Y,_,rs,hr,t,λv x H1 Γ1 s1 h1 r1 ξ=>Ξ12 ξ λts ex z=>by
  subst ex;let⟨a,vs,rfl,ha,q⟩:=Ie r1;exact⟨a,rfl,⟨vs,js.of ha⟩,vr _ ts EG H1 Γ1 s1 h1 (wC ha q) z⟩,xr⟩
def oG(tl:Ab):I3:=λY τ Γ Z=>tl Y τ Γ λx Γ1=>∃a ts,x=.ref a∧EC Γ1 (.ref a)=some ts∧Z ts (λΓ'=>EC Γ' (.ref a)=some ts) Γ1
theorem rO:Walks (W8 K a) ts (λΓ'=>EC Γ' (.ref a)=some ts) H where
 go:=λi H' Γ t hr g hi=>by
  let⟨vs,sq,q⟩:=Hh (K:=K) hr g;exact Ψ2 vs (vs[i]'(by rw[q.length];exact hi)) ⟨sq,by simp⟩
 uZ:=λi H' Γ x H2 t hr g hi q0=>by
  let⟨e,y⟩:=q0;subst e;let⟨vs,sq,q⟩:=Hh (K:=K) hr g;let⟨t',e',r⟩:=q.HU (y vs sq);exact⟨.refl,hr,t',e',r⟩
 stop:=λH' Γ t hr g=>by
  let⟨vs,sq,q⟩:=Hh (K:=K) hr g;exact⟨vs,sq,by rw[q.length];exact Ax _⟩
theorem JG(hl:PE X l (AF E tl)):PI X tg l (GJ E (oG tl)):=
 Kg (ve hl) λσ H Q τ Γ Y Z rs hr t vr xr=>⟨τ,Γ,Y,_,rs,hr,t,λv x H1 Γ1 s1 h1 r1 ξ=>Ξ23 ξ λa ts ex g z=>by
  subst ex;let⟨vs,sq,q⟩:=Hh (K:=X.K) h1 g;exact⟨a,CE r1,⟨vs,sq⟩,vr _ ts _ H1 Γ1 s1 h1 rO z⟩,xr⟩
def FD(lo:Int):Nat→List T
 |0=>[]
 |n+1=>.int lo::FD (lo+1) n
theorem My:∀(n:Nat) (lo:Int),(FD lo n).length=n
 |0,_=>rfl
 |n+1,lo=>by rw[FD,Aw,My n]
theorem nM:∀(n:Nat) (lo:Int) (i:Nat),i<n→(FD lo n)[i]?=some (.int (lo+i))
 |0,_,i,h=>absurd h (Nat.not_lt_zero _)
 |n+1,lo,0,_=>by rw[FD];simp
 |n+1,lo,i+1,h=>by
  rw[FD,UO,nM n (lo+1) i (by lia)];congr 2
  lia
theorem xi(lo:Int)(n:Nat):Walks (Nm lo n) (FD lo n) EG H where
 go:=λi H' Γ t hr _ hi=>by rw[My]at hi;exact hi
 uZ:=λi H' Γ x H2 t hr _ hi q0=>by
  let⟨e,y⟩:=q0;subst e y;rw[My]at hi;exact⟨.refl,hr,_,nM n lo i hi,E0⟩
 stop:=λH' Γ t hr _=>by rw[My];exact Ax _
def mM(ta:DA):I3:=λY τ Γ Z=>ta Y τ Γ λxs Γ1=>∃j:Int,xs=[.int j]∧-(2^62)≤j∧j<2^62∧Z (FD 0 j.toNat) EG Γ1
theorem QG{a:Expr}(hg:C6 X "range")(hm:X.mg "range" = none)(ha:PA X [a] (E8 E ta))(hs:starEach [a] X.env=[(false,eval a X.env)]:=by rfl):PI X tg (.Call (.Name "range" p) [a] [] pos) (GJ E (mM ta)):=
 Kg (vi hg hm ha hs) λσ H Q τ Γ Y Z rs hr t vr xr=>⟨τ,Γ,Y,_,rs,hr,t,λvs xs H1 Γ1 s1 h1 r1 ξ=>Ξ14 ξ λj ex b1 b2 z=>by
  subst ex;let⟨v,rfl,a⟩:=rm r1;exact⟨j,by rw[DZ a],b1,b2,vr _ _ EG H1 Γ1 s1 h1 (xi 0 _) z⟩,xr⟩
def GQ:List T→List T→List T
 |x::r,y::q=>.tup [x,y]::GQ r q
 |_,_=>[]
theorem ai:∀{xs ys:List T},(GQ xs ys).length=min xs.length ys.length
 |[],_=>by simp[GQ]
 |_::_,[]=>by simp[GQ]
 |x::r,y::q=>by rw[GQ,Aw,ai,Aw,Aw];lia
theorem hZ:∀{xs ys:List T} {i:Nat} {x y:T},xs[i]?=some x→ys[i]?=some y→(GQ xs ys)[i]?=some (.tup [x,y])
 |[],_,_,_,_,h,_=>by simp at h
 |_::_,[],_,_,_,_,h=>by simp at h
 |a::r,b::q,0,x,y,h,h'=>by cases h;cases h';rfl
 |a::r,b::q,i+1,x,y,h,h'=>by rw[GQ,UO];exact hZ (by simpa using h) (by simpa using h')
def jI(ta:DA):I3:=λY τ Γ Z=>ta Y τ Γ λxs Γ1=>∃ts us,xs=[.tup ts,.tup us]∧Z (GQ ts us) EG Γ1
theorem sY{b:Addr}{ws:List V}(ha:H a=some (.tup vs))(q:Rs H vs ts)(hb:H b=some (.tup ws))(q':Rs H ws us):Walks (UR K a b) (GQ ts us) EG H where
 go:=λi H' Γ t hr _ hi=>by
  rw[ai]at hi;exact Ψ4 vs ws (vs[i]'(by rw[q.length];lia)) (ws[i]'(by rw[q'.length];lia)) ⟨js.of (t.1 a vs ha),js.of (t.1 b ws hb),by simp,by simp⟩
 uZ:=λi H' Γ v H2 t hr _ hi q0=>by
  let⟨p,x,y,hp,e1,e2,y1,y2⟩:=q0;subst e1 e2;let⟨t1,f1,r1⟩:=(q.mono t).HU (y1 vs (js.of (t.1 a vs ha)));let⟨t2,f2,r2⟩:=(q'.mono t).HU (y2 ws (js.of (t.1 b ws hb)));have k:=Dy (o:=.tup [x,y]) hp;exact⟨.keep k,hr.keep k,_,hZ f1 f2,Py D3 (Ez (r1.mono (E7 k)) (Ez (r2.mono (E7 k)) F1))⟩
 stop:=λH' Γ t hr _=>Ψ2 vs ws ⟨js.of (t.1 a vs ha),js.of (t.1 b ws hb),by rw[ai,q.length,q'.length];lia⟩
theorem acT{a b:Expr}{elts:List Expr}{kk:Nat}{xb:Pos}(hg:C6 X "zip")(hm:X.mg "zip" = none)(ha:PA X [a,b] (E8 E ta))(hs:starEach [a,b] X.env=[(false,eval a X.env),(false,eval b X.env)]:=by rfl)(wI:starEach [b] X.env=[(false,eval b X.env)]:=by rfl):
  PI X (.Tuple elts kk xb) (.Call (.Name "zip" p) [a,b] [] pos) (GJ E (jI ta)):=
 Kg (tU hg hm ha hs wI) λσ H Q τ Γ Y Z rs hr t vr xr=>⟨τ,Γ,Y,_,rs,hr,t,λvs xs H1 Γ1 s1 h1 r1 ξ=>Ξ22 ξ λts us ex z=>by
  subst ex;let⟨v,w,rfl,a,b⟩:=AK r1;let⟨pa,va,rfl,ha,qa⟩:=Ie a;let⟨pb,vb,rfl,hb,qb⟩:=Ie b;exact Ψ4 pa pb va vb ⟨rfl,js.of ha,js.of hb,vr _ _ EG H1 Γ1 s1 h1 (sY ha qa hb qb) z⟩,xr⟩
def xw(n:Nat):List T→List T
 |[]=>[]
 |x::r=>.tup [.int n,x]::xw (n+1) r
def Hs(z:Str):List T:=z.cps.toList.map λc=>.str ⟨#[c]⟩
def jc(tl:Ab):I3:=λY τ Γ Z=>tl Y τ Γ λx Γ1=>∃z,x=.str z∧Z (Hs z) EG Γ1
theorem sI(z:Str):Walks (OH z) (Hs z) EG H where
 go:=λi H' Γ t hr _ hi=>by
  unfold Hs at hi;rw[Ae,Hw]at hi;exact hi
 uZ:=λi H' Γ x H2 t hr _ hi q0=>by
  let⟨e,⟨c,hc,ex⟩⟩:=q0;subst e ex;exact⟨.refl,hr,.str ⟨#[c]⟩,?_,GX⟩;unfold Hs;rw[Ha,eZ,hc];rfl
 stop:=λH' Γ t hr _=>by
  show z.cps.size≤(Hs z).length
  unfold Hs;rw[Ae,Hw];exact Ax _
theorem Sy(hl:PE X l (AF E tl)):PI X tg l (GJ E (jc tl)):=
 Kg (acG hl) λσ H Q τ Γ Y Z rs hr t vr xr=>⟨τ,Γ,Y,_,rs,hr,t,λv x H1 Γ1 s1 h1 r1 ξ=>Ξ12 ξ λz ex zz=>by
  subst ex;exact⟨z,D4 r1,vr _ _ EG H1 Γ1 s1 h1 (sI z) zz⟩,xr⟩
abbrev Kv:=T→List T→AS→DI→Prop
def Hu(X:Cx)(id:String)(r3:Kv):Prop:=∃r,Iy X id r∧∀v x vs ts H Γ Q Z,R H v x→Rs H vs ts→HR H Γ→r3 x ts Γ Z→VR H Γ Z Q→r v vs H Q
def qg(Tn:String)(r3:Kv)(to:Ab)(t:DA):Ab:=λY τ Γ Z=>to Y τ Γ λx Γ1=>Eb Γ1 x=some Tn∧t Y τ Γ1 λxs Γ2=>r3 x xs Γ2 Z
def iw(Tn:String)(r3:Kv)(to:Ab):Ab:=λY τ Γ Z=>to Y τ Γ λx Γ1=>Eb Γ1 x=some Tn∧r3 x [] Γ1 Z
theorem oT(r:R H v x)(hr:HR H Γ)(h:Eb Γ x=some n)(hn:n = "list" ∨ n = "str" ∨ n = "dict"):Nj K n v H:=by
 have ty:=lI (K:=K) r hr h;cases x with
 |non=>cases h;rcases hn with h|h|h<;>exact absurd h (by decide)
 |bl b=>cases h;rcases hn with h|h|h<;>exact absurd h (by decide)
 |int i=>cases h;rcases hn with h|h|h<;>exact absurd h (by decide)
 |str z=>cases h;rw[D4 r];rfl
 |tup ts=>cases h;rcases hn with h|h|h<;>exact absurd h (by decide)
 |ty n=>cases h
 |scr K a ts=>cases h
 |ref a=>
  rw[CE r];have h:(match Γ a with|some (.lst _)=>some "list" |some (.dK _)=>some "dict" |_=>none)=some n:=h;split at h
  ·rename_i g;cases h;let⟨vs,hv,_⟩:=hr a _ g;exact .inl ⟨rfl,vs,jK.of hv⟩
  ·rename_i g;cases h;let⟨vs,hv,_⟩:=hr a _ g;exact .inr (.inr (.inl ⟨rfl,.inl ⟨vs,hv⟩⟩))
  ·cases h
section
variable {o e: Expr}{to: Ab}{t: DA}{name: Str}{apos: Pos}{id: String}{r3: Kv}
theorem lW(pa:PlainAttrs Tn)(slot:Slot Tn name id)(zW:typeOf (.builtin id)=pure (.type "method_descriptor"))(hm:Hu X id r3)(ho:PE X o (AF E to))(hn:Tn = "list" ∨ Tn = "str" ∨ Tn = "dict" := by decide)
  (qB:attributeBase o name X.env (eval o X.env)=eval o X.env:=by rfl) (qA:(apos.endLine==eE.line)=true:=by rfl):PE X (.Call (.Attribute o name apos) [] [] eE) (AF E (iw Tn r3 to)):=by
 obtain⟨r,hm,sim⟩:=hm;exact EB (zY pa slot zW hm ho qB qA) λσ H Q τ Γ Y Z rs hr t vr xr=>⟨τ,Γ,Y,_,rs,hr,t,λv x H1 Γ1 s1 h1 r1 ξ=>Ξ02 ξ λty z=>
  ⟨oT r1 h1 ty hn,sim v x [] [] H1 Γ1 Q Z r1 F1 h1 z (vr.mono s1)⟩,xr⟩
theorem DT(pa:PlainAttrs Tn)(slot:Slot Tn name id)(zW:typeOf (.builtin id)=pure (.type "method_descriptor"))(hm:Hu X id r3)(ho:PE X o (AF E to))(ha:PA X (e::es) (E8 E t))(hn:Tn = "list" ∨ Tn = "str" ∨ Tn = "dict" := by decide)
  (qB:attributeBase o name X.env (eval o X.env)=eval o X.env:=by rfl)
  (ML:((backTo eE (starEach (e::es) X.env)).all (λx=>!x.1)&&(backToKw eE (keywordEach [] X.env)).all (λx=>x.1.isSome)
   && decide ((e::es).length+([]:List Keyword).length+(if([]:List Keyword).isEmpty then 0 else 1)<30))=true:=by rfl)
  (qA:(apos.endLine==eE.line)=true:=by rfl) (hs:starEach (e::es) X.env=(false,eval e X.env)::starEach es X.env:=by rfl) (yu:(backTo eE (starEach es X.env)).any (·.1)=false:=by rfl) :
  PE X (.Call (.Attribute o name apos) (e::es) [] eE) (AF E (qg Tn r3 to t)):=by
 obtain⟨r,hm,sim⟩:=hm;exact EB (tG pa slot zW hm ho ha qB ML qA hs yu) λσ H Q τ Γ Y Z rs hr t vr xr=>⟨τ,Γ,Y,_,rs,hr,t,λv x H1 Γ1 s1 h1 r1 ξ=>Ξ02 ξ λty z=>
  ⟨oT r1 h1 ty hn,τ,Γ1,Y,_,rs.mono s1.tq,h1,z,λvs xs H2 Γ2 s2 h2 r2 z2=>sim v x vs xs H2 Γ2 Q Z (r1.mono s2.tq) r2 h2 z2 (vr.mono (s1.trans s2)),xr.mono s1⟩,xr⟩
end
theorem Fc:Hu X "list.append" (λx ts Γ Z=>∃a us y,x=.ref a∧ts=[y]∧Γ a=some (.lst us)∧us.length<sizeLine∧Z .non (up Γ a (.lst (us++[y])))):=
 ⟨_,mS,λv x vs ts H Γ Q Z r rs hr q0 vr=>by
  let⟨a,us,y,ex,et,g,l,z⟩:=q0;subst ex et;let⟨w,rfl,tR⟩:=rm rs;let⟨ws,hw,q⟩:=hr a _ g;exact Ψ3 a ws w ⟨CE r,rfl,hw,by rw[q.length];exact l,?_⟩;have s:gN H Γ (Aa H a (.lst (ws++[w]))) (up Γ a (.lst (us++[y]))):=.set hr g;exact vr _ _ _ _ s (hr.set g ⟨_,D3,Rs.app (q.mono s.tq) (Ez (tR.mono s.tq) F1)⟩) Pf z⟩
theorem oY:Hu X "list.pop" (λx ts Γ Z=>∃a us y,x=.ref a∧ts=[]∧Γ a=some (.lst us)∧us[us.length-1]?=some y∧Z y (up Γ a (.lst us.dropLast))):=
 ⟨_,acQ,λv x vs ts H Γ Q Z r rs hr q0 vr=>by
  let⟨a,us,y,ex,et,g,l,z⟩:=q0;subst ex et;let⟨ws,hw,q⟩:=hr a _ g;let⟨w,XQ,tR⟩:=q.get l;exact Ψ3 a ws w ⟨CE r,G2 rs,hw,by rw[q.length];exact XQ,?_⟩;have s:gN H Γ (Aa H a (.lst ws.dropLast)) (up Γ a (.lst us.dropLast)):=.set hr g;exact vr _ _ _ _ s (hr.set g ⟨_,D3,?_⟩) (tR.mono s.tq) z;have e:∀{H2:A7},Rs H2 ws us→Rs H2 ws.dropLast us.dropLast:=λ{H2} q2=>by
   rw[List.dropLast_eq_take,List.dropLast_eq_take,q2.length];exact Rs.take _ q2
  exact e (q.mono s.tq)⟩
theorem vW:Hu X "str.join" (λx ts Γ Z=>∃(p:Addr) (ss:List Str),x=.str Str.empty∧ts=[.ref p]∧EC Γ (.ref p)=some (ss.map T.str)∧ss.length≤1000∧(∀y∈ss,y.length≤1000)∧Z (.str (Iu ss)) Γ):=
 ⟨_,yb,λv x vs ts H Γ Q Z r rs hr q0 vr=>by
  let⟨p,ss,ex,et,g,l,l2,z⟩:=q0;subst ex et;let⟨w,rfl,tR⟩:=rm rs;let⟨us,sq,q⟩:=Hh (K:=X.K) hr g;rw[dc q]at sq;exact Ψ2 p ss ⟨D4 r,by rw[CE tR],sq,l,l2,vr _ _ H Γ .refl hr GX z⟩⟩
def Qv:T→Option Value
 |.ref a=>some (.ref a)|.ty n=>some (.type n)|_=>none
def NV:List T→Option (List Value)
 |[]=>some []
 |x::r=>match Qv x,NV r with|some v,some vs=>some (v::vs)|_,_=>none
theorem jJ{c:Value}(r:R H v x)(h:Qv x=some c):yW v c:=by
 cases x with
 |ref a=>cases h;rw[CE r];exact .own a
 |ty n=>cases h;rw[mH r];exact .ty n
 |_=>cases h
theorem lH{H:A7}:∀{ts:List T} {vs:List V} {cs:List Value},Rs H vs ts→NV ts=some cs→rh vs cs
 |[],vs,cs,r,h=>by cases h;rw[G2 r];exact .nil
 |x::q,vs,cs,r,h=>by
  let⟨v,ws,rfl,a,b⟩:=Fp r;unfold NV at h;split at h
  ·rename_i e1 e2;cases h;exact .cons (jJ a e1) (lH b e2)
  ·cases h
theorem sR:Ex X (.builtin "isinstance") (λxs Γ Z=>∃(x D:Addr) (t:T) (c:Value) (b:Bool),xs=[.ref x,t]∧Qv t=some c∧Fv X.K D∧Γ x=some (.ext (nD x D))∧W.kitOne X.K (.ref D) c=some b∧Z (.bl b) Γ):=
 ⟨_,x5,λvs xs H Γ Q Z r hr q0 vr=>by
  let⟨x,D,t,c,b,e,hc,ex,g,k,z⟩:=q0;subst e;let⟨v,w,rfl,a,b'⟩:=AK r;exact Ψ5 x D w c b ⟨by rw[CE a],jJ b' hc,ex,hr x _ g,k,vr _ _ H Γ .refl hr Dp z⟩⟩
theorem Loc:Ex X (.builtin "isinstance") (λxs Γ Z=>∃(x D:Addr) (ts:List T) (cs:List Value) (b:Bool),xs=[.ref x,.tup ts]∧NV ts=some cs∧Fv X.K D∧Γ x=some (.ext (nD x D))∧W.kitAny X.K (.ref D) cs=some b∧Z (.bl b) Γ):=
 ⟨_,aaW,λvs xs H Γ Q Z r hr q0 vr=>by
  let⟨x,D,ts,cs,b,e,hc,ex,g,k,z⟩:=q0;subst e;let⟨v,w,rfl,a,b'⟩:=AK r;let⟨p,us,rfl,hp,q⟩:=Ie b';exact Ψ6 x D p us cs b ⟨by rw[CE a],hp,lH q hc,ex,hr x _ g,k,vr _ _ H Γ .refl hr Dp z⟩⟩
theorem nz{r:V→A7→Ar→Prop}{r3:T→AS→DI→Prop}{ts:Ab}(h:∀v x H Γ Q Z,R H v x→HR H Γ→r3 x Γ Z→VR H Γ Z Q→r v H Q)(σ:St)(H:A7)(Q:Ar)(q:AF E (Nn r3 te ts) σ H Q):
  AF E te σ H λx H1=>AF E ts σ H1 λy H2=>y=.int (-1)∧r x H2 Q:=by
 let⟨τ,Γ,Y,Z,rs,hr,t,vr,xr⟩:=q;exact Ψ4 τ Γ Y _ ⟨rs,hr,t,λv x H1 Γ1 s1 h1 r1 z1=>?_,xr⟩;exact Ψ4 τ Γ1 Y _ ⟨rs.mono s1.tq,h1,z1,λu y H2 Γ2 s2 h2 r2 z2=>?_,xr.mono s1⟩;obtain⟨e,z2⟩:=z2;subst e;exact⟨DZ r2,h v x H2 Γ2 Q Z (r1.mono s2.tq) h2 z2 (vr.mono (s1.trans s2))⟩
section
variable {e st: Expr}{te ts: Ab}
theorem aa3(he:PE X e (AF E te))(hs:PE X st (AF E ts)):PE X (.Subscript e (.Slice none none (some st) p2) pos) (AF E (Nn (λx Γ Z=>∃a ts,x=.ref a∧EC Γ (.ref a)=some ts∧∀p,Γ p=none→Z (.ref p) (up Γ p (.lst ts.reverse))) te ts)):=
 GU (ly xA he hs) (nz λv x H Γ Q Z r hr q0 vr=>by
  let⟨a,ts,ex,g,z⟩:=q0;subst ex;let⟨us,sq,q⟩:=Hh (K:=X.K) hr g;exact Ψ2 a us ⟨CE r,sq,λc hc=>?_⟩;have k:=Dy (o:=.lst us.reverse) hc;exact vr _ _ _ _ (.make hc) (hr.make (o3:=.lst ts.reverse) hc ⟨_,D3,Rs.reverse (q.mono (E7 k))⟩) Em (z c (hr.free hc)))
end
end
def Le(Γ Γ':AS):Prop:=∀a o,Γ a=some o→Γ' a=some o
theorem Le.refl:Le Γ Γ:=λ_ _ h=>h
theorem Le.trans(a:Le Γ Γ1)(b:Le Γ1 Γ'):Le Γ Γ':=λx o h=>b x o (a x o h)
theorem Le.new{o:O}(h:Γ p=none):Le Γ (up Γ p o):=λb u q=>by rw[CB (CF q h)];exact q
theorem HR.le(h:HR H Γ')(l:Le Γ Γ'):HR H Γ:=λa o e=>h a o (l a o e)
def Kq(l:List Addr)(Γ Γ':AS):Prop:=∀b o,b∉l→Γ b=some o→Γ' b=some o
theorem Kq.refl:Kq l Γ Γ:=λ_ _ _ h=>h
theorem Kq.trans(a:Kq l Γ Γ1)(b:Kq l Γ1 Γ'):Kq l Γ Γ':=λc o n h=>b c o n (a c o n h)
theorem Kq.mono{l':List Addr}(a:Kq l Γ Γ1)(s:∀b∈l,b∈l'):Kq l' Γ Γ1:=λc o n h=>a c o (λz=>n (s c z)) h
theorem Kq.set(h:p∈l)(o:O):Kq l Γ (up Γ p o):=λb u n q=>by
 have e:b≠p:=λz=>n (by rw[z];exact h);rw[CB e];exact q
theorem Le.kq(k:Le Γ Γ'):Kq l Γ Γ':=λa o _ h=>k a o h
def De(Z:DI):DI:=λx Γ'=>∃Γ2,Le Γ2 Γ'∧Z x Γ2
theorem AH{Z:DI}(k:Le Γ Γ')(z:Z x Γ):De Z x Γ':=⟨Γ,k,z⟩
theorem mF{Z:DI}{o:O}(k:Kq [a] Γ Γ')(h:Γ' a=some o)(z:Z x (up Γ a o)):De Z x Γ':=⟨up Γ a o,λb u q=>by
 by_cases e:b=a
 ·subst e;rw[AP]at q;cases q;exact h
 ·rw[CB e]at q;exact k b u (by simpa using e) q,z⟩
theorem gN.cut{H':A7}{Γ2:AS}(s:gN H Γ H' Γ')(l:Le Γ2 Γ'):gN H Γ H' Γ2:=⟨s.tq,s.F6,λa h g=>by
 cases e:Γ2 a with
 |none=>rfl
 |some o=>exact(by have:=l a o e;rw[s.new a h g]at this;cases this),s.FZ⟩
section
variable {P: Program}{w: World}{K: W.Frag}{mg: Str→Option Value}{ap: Heap}
theorem Bq{x:Str}{f:Addr}{N:List Str}(F:eG K x qual st f fd)(S:B6 N ps (Am st))(len:∀ts Γ Z Y,sp ts Γ Z Y→ts.length=ps.length)
  (ng:∀(cO:Value) (A:Around) (outer:List Env) (s:Shared) (H:A7) (E:BG) (ts:List T) (Γ:AS) (Z:DI) (Y:Value→AS→Prop),dH k (A.deeper (envOfC qual (Am st) s.heap.objs.size f cO))→sp ts Γ Z Y→
   ∃t,jU (JW BK P w K mg ap N qual (Am st) f cO A outer s H E).sD (GL st) (CL Eu t)∧t Ec {nx:=λ_ Γ'=>De Z .non Γ',rt:=De Z} (B5 N ts) Γ):bJ P w K mg ap BK (k+1) f fd ps (B3 sp):=by
 exact F.ok S (λvs H Q E q0=>by let⟨ts,Γ,Z,Y,r,_,h,_⟩:=q0;rw[r.length];exact len _ _ _ _ h) λcO A outer s H vs Q E hr ξ=>Ξ45 ξ λts Γ Z Y r h wH vr xr=>?_;let⟨t,ht,hq⟩:=ng cO A outer s H E ts Γ Z Y hr wH;exact⟨_,ht,B5 N ts,Γ,Ec,_,cU N r (by rw[len _ _ _ _ wH];exact lx S),h,hq,⟨λσ τ H' Γ' s' h' _ ξ=>Ξ12 ξ λΓ2 l z=>vr .non .non H' Γ2 (s'.cut l) (h'.le l) Pf z,λv x H' Γ' s' h' rv ξ=>Ξ12 ξ λΓ2 l z=>vr v x H' Γ2 (s'.cut l) (h'.le l) rv z,λ_ _ _ _ _ _ _ z=>z.elim,λ_ _ _ _ _ _ _ z=>z.elim⟩,Hv⟩
theorem Hz{x:Str}{f:Addr}{N:List Str}(F:eG K x qual st f fd)(S:B6 N ps (Am st))(len:∀ts Γ Z Y,sp ts Γ Z Y→ts.length=ps.length)
  (ng:∀(cO:Value) (A:Around) (outer:List Env) (s:Shared) (H:A7) (E:BG) (ts:List T) (Γ:AS) (Z:DI) (Y:Value→AS→Prop),dH k (A.deeper (envOfC qual (Am st) s.heap.objs.size f cO))→sp ts Γ Z Y→
   ∃t,jU (Ii P w K mg ap N qual (Am st) f cO A outer s H E) (GL st) (CL (λ_=>E) t)∧t (λ_ C Γ'=>∃Γ2,Le Γ2 Γ'∧Y C Γ2) {nx:=λ_ Γ'=>De Z .non Γ',rt:=De Z} (B5 N ts) Γ):bJ P w K mg ap (DC P w) (k+1) f fd ps (B3 sp):=by
 exact F.Xh S (λvs H Q E q0=>by let⟨ts,Γ,Z,Y,r,_,h,_⟩:=q0;rw[r.length];exact len _ _ _ _ h) λcO A outer s H vs Q E hr ξ=>Ξ45 ξ λts Γ Z Y r h wH vr xr=>?_;let⟨t,ht,hq⟩:=ng cO A outer s H E ts Γ Z Y hr wH;exact⟨_,ht,B5 N ts,Γ,_,_,cU N r (by rw[len _ _ _ _ wH];exact lx S),h,hq,⟨λσ τ H' Γ' s' h' _ ξ=>Ξ12 ξ λΓ2 l z=>vr .non .non H' Γ2 (s'.cut l) (h'.le l) Pf z,λv x H' Γ' s' h' rv ξ=>Ξ12 ξ λΓ2 l z=>vr v x H' Γ2 (s'.cut l) (h'.le l) rv z,λ_ _ _ _ _ _ _ z=>z.elim,λ_ _ _ _ _ _ _ z=>z.elim⟩,λσ τ C H' Γ' s' h' _ ξ=>Ξ12 ξ λΓ2 l y=>xr C H' Γ2 (s'.cut l) (h'.le l) y⟩
theorem Kh{f:Addr}{CX:Gy}(no:∀ts Γ Z Y,¬sp ts Γ Z Y):bJ P w K mg ap CX k f fd ps (B3 sp):=
 ⟨λvs H Q E ξ=>Ξ44 ξ λts Γ Z Y _ _ h _=>absurd h (no _ _ _ _),λA outer s H args us vs Q E _ _ _ _ ξ=>Ξ44 ξ λts Γ Z Y _ _ h _=>absurd h (no _ _ _ _)⟩
end
theorem QW{α:Type}{t:α}{ts:List α}:B7 (t::ts) 0=some t:=by show B7 (t::ts) ((0:Nat):Int)=some t;exact Ey rfl
theorem L4{α:Type}{t u:α}{ts:List α}:B7 (t::u::ts) 1=some u:=by show B7 (t::u::ts) ((1:Nat):Int)=some u;exact Ey rfl
section
variable {Γ: AS}{Z: DI}{B: Bool→AS→Prop}
theorem dz{i:Nat}(h:τ[i]?=some (some x))(z:Z x Γ):qF i Y τ Γ Z:=⟨x,h,z⟩
theorem Vd(z:Z x Γ):JS x Y τ Γ Z:=z
theorem TM{r:EO}{a b:Ab}(h:a Y τ Γ λx Γ1=>b Y τ Γ1 λy Γ2=>r x y Γ2 Z):Gx r a b Y τ Γ Z:=h
theorem Wo{t:Ab}(h:t Y τ Γ λx Γ1=>∃k,x=.bl k∧B k Γ1):LF t Y τ Γ B:=h
theorem aP{Q:Bool→Prop}(h:Q b):∃k,T.bl b=.bl k∧Q k:=⟨b,rfl,h⟩
theorem dY{t u:CC}(h:t Y {D with nx:=u Y D} τ Γ):qI t u Y D τ Γ:=h
theorem fg{c:DJ}{t u:CC}(h:c Y τ Γ λb Γ1=>if b=true then t Y D τ Γ1 else u Y D τ Γ1):kY c t u Y D τ Γ:=h
theorem Y0{i:Nat}(h:te Y τ Γ λx Γ1=>D.nx (τ.set i (some x)) Γ1):Qk i te Y D τ Γ:=h
theorem W3(h:te Y τ Γ D.rt):iT te Y D τ Γ:=h
theorem eH(h:te Y τ Γ λ_ Γ1=>D.nx τ Γ1):jN te Y D τ Γ:=h
theorem Ut(h:D.nx τ Γ):lX Y D τ Γ:=h
theorem VN{a b:Ab}(h:a Y τ Γ λx Γ1=>∃c,x=.bl c∧if c=true then b Y τ Γ1 Z else Z (.bl false) Γ1):pY a b Y τ Γ Z:=h
theorem aK{a b:Ab}(h:a Y τ Γ λx Γ1=>∃c,x=.bl c∧if c=true then Z (.bl true) Γ1 else b Y τ Γ1 Z):iH a b Y τ Γ Z:=h
theorem aZ{a:Ab}(h:a Y τ Γ λx Γ1=>∃c,x=.bl c∧Z (.bl (!c)) Γ1):nT a Y τ Γ Z:=h
theorem cJ{a b:DJ}(h:a Y τ Γ λc Γ1=>if c=true then b Y τ Γ1 B else B false Γ1):jR a b Y τ Γ B:=h
theorem SA{a b:DJ}(h:a Y τ Γ λc Γ1=>if c=true then B true Γ1 else b Y τ Γ1 B):ko a b Y τ Γ B:=h
theorem gC{a:DJ}(h:a Y τ Γ λc Γ1=>B (!c) Γ1):pR a Y τ Γ B:=h
theorem dI{c:DJ}{a b:Ab}(h:c Y τ Γ λk Γ1=>if k=true then a Y τ Γ1 Z else b Y τ Γ1 Z):ji c a b Y τ Γ Z:=h
theorem aH(h:A [] Γ):OI Y τ Γ A:=h
theorem gi(h:te Y τ Γ λx Γ1=>t Y τ Γ1 λxs Γ2=>A (x::xs) Γ2):rL te t Y τ Γ A:=h
theorem fZ(h:t Y τ Γ λxs Γ1=>xs.length≤sizeLine∧Z (.tup xs) Γ1):pF t Y τ Γ Z:=h
theorem fR(h:t Y τ Γ λxs Γ1=>xs.length≤sizeLine∧∀p,Γ1 p=none→Z (.ref p) (up Γ1 p (.lst xs))):nZ t Y τ Γ Z:=h
theorem Sp{n:Nat}{A:Prop}(h:Nat.ble n 1000=true)(a:A):n≤sizeLine∧A:=⟨Ce (fN h) (by decide),a⟩
theorem UW(h:t Y τ Γ λxs Γ1=>sp xs Γ1 Z λ_ _=>False):X3 sp t Y τ Γ Z:=h
theorem Rn(h:t Y τ Γ λxs Γ1=>sp xs Γ1 Z (Y τ)):bE sp t Y τ Γ Z:=h
theorem aU{r:Mu}(h:t Y τ Γ λts Γ1=>r ts Γ1 Z):QE r t Y τ Γ Z:=h
theorem Ss{g:Int→Int→T}(h:Z (g i j) Γ):Ia g (.int i) (.int j) Γ Z:=Ψ2 i j ⟨rfl,rfl,h⟩
theorem G0{g:Int→Int→T}(c:C i j)(h:Z (g i j) Γ):LA C g (.int i) (.int j) Γ Z:=Ψ2 i j ⟨rfl,rfl,c,h⟩
theorem So{a b:Str}(h:Z (.bl (decide (V.str a=V.str b))) Γ):Wx (.str a) (.str b) Γ Z:=Ψ2 _ _ ⟨rfl,rfl,rfl,h⟩
theorem bG{a b:Int}(h:Z (.bl (decide (V.int a=V.int b))) Γ):Wx (.int a) (.int b) Γ Z:=Ψ2 _ _ ⟨rfl,rfl,rfl,h⟩
theorem Sa{a b:Str}(h:Z (.bl (!decide (V.str a=V.str b))) Γ):cF (.str a) (.str b) Γ Z:=Ψ2 _ _ ⟨rfl,rfl,rfl,h⟩
theorem Sz{a b:Int}(h:Z (.bl (!decide (V.int a=V.int b))) Γ):cF (.int a) (.int b) Γ Z:=Ψ2 _ _ ⟨rfl,rfl,rfl,h⟩
theorem gQ{t:T}(z:Z t Γ):Ki (.tup (t::ts)) (.int 0) Γ Z:=Ψ3 _ 0 t ⟨rfl,rfl,QW,z⟩
theorem ck{t u:T}(z:Z u Γ):Ki (.tup (t::u::ts)) (.int 1) Γ Z:=Ψ3 _ 1 u ⟨rfl,rfl,L4,z⟩
theorem dN{Tn:String}{r:Kv}(h:to Y τ Γ λx Γ1=>Eb Γ1 x=some Tn∧t Y τ Γ1 λxs Γ2=>r x xs Γ2 Z):qg Tn r to t Y τ Γ Z:=h
theorem cW{Tn:String}{r:Kv}(h:to Y τ Γ λx Γ1=>Eb Γ1 x=some Tn∧r x [] Γ1 Z):iw Tn r to Y τ Γ Z:=h
theorem dv(h:te Y τ Γ λx Γ1=>∃n b,Eb Γ1 x=some n∧W.kitOne K (.type n) (.type Ty)=some b∧Z (.bl b) Γ1):kT K Ty te Y τ Γ Z:=h
theorem bt(h:te Y τ Γ λx Γ1=>g Y x τ Γ1 D.nx):UZ te g Y D τ Γ:=h
theorem aF{i:Nat}(h:N (τ.set i (some x)) Γ):hName i Y x τ Γ N:=h
theorem dW{n:Nat}(l:Nat.beq ts.length n=true)(h:gs Y ts τ Γ N):lJ n gs Y (.tup ts) τ Γ N:=⟨ts,rfl,Nat.eq_of_beq_eq_true l,h⟩
theorem dq{r:List T}(h:g Y x τ Γ λτ1 Γ1=>gs Y r τ1 Γ1 N):kx g gs Y (x::r) τ Γ N:=Ψ2 x r ⟨rfl,h⟩
theorem VM(h:N τ Γ):lU Y [] τ Γ N:=⟨rfl,h⟩
theorem Wt{v:T}(h:to Y τ Γ λo Γ1=>ti Y τ Γ1 λi Γ2=>∃a ts k j,o=.ref a∧i=.int k∧Γ2 a=some (.lst ts)∧Dm ts.length k=some j∧N τ (up Γ2 a (.lst (ts.set j v)))):hSub to ti Y v τ Γ N:=h
theorem Tz{a:Ab}(h:a Y τ Γ λx Γ1=>r x Γ1 Z):qc r a Y τ Γ Z:=h
theorem Rt{g:Int→T}(h:Z (g i) Γ):m7 g (.int i) Γ Z:=⟨i,rfl,h⟩
theorem fk{r:Qw}{tl:J8}(h:te Y τ Γ λx Γ1=>tl Y τ Γ1 λl Γ2=>th Y τ Γ2 λu Γ3=>r x l u Γ3 Z):lE r te tl th Y τ Γ Z:=h
theorem Se(h:Q none Γ):jd Y τ Γ Q:=h
theorem bu{t:Ab}(h:t Y τ Γ λx Γ1=>∃i,x=.int i∧Q (some i) Γ1):ja t Y τ Γ Q:=h
theorem W0{Q:Int→Prop}(h:Q i):∃k,T.int i=.int k∧Q k:=⟨i,rfl,h⟩
theorem dL{ts:Ab}(h:te Y τ Γ λx Γ1=>ts Y τ Γ1 λk Γ2=>k=.int (-1)∧r x Γ2 Z):Nn r te ts Y τ Γ Z:=h
theorem bO(h:wi Y τ Γ λts gd Γ1=>lK gd g tb Y D ts τ Γ1):m5 wi g tb Y D τ Γ:=h
theorem fz(h:tl Y τ Γ λx Γ1=>∃ts,x=.tup ts∧I ts EG Γ1):rM tl Y τ Γ I:=h
theorem VO{Q:List T→Prop}(h:Q ts):∃us,T.tup ts=.tup us∧Q us:=⟨ts,rfl,h⟩
theorem Gv(l:ts.length+us.length≤sizeLine)(h:Z (.tup (ts++us)) Γ):uY (.tup ts) (.tup us) Γ Z:=Ψ2 ts us ⟨rfl,rfl,l,h⟩
theorem a8(h:wi Y τ Γ λts gd Γ1=>ts.length≤sizeLine∧pG gd g tc te (λys Γ2=>∀D,Γ2 D=none→Z (.ref D) (up Γ2 D (.lst ys))) ts (LB own cap τ) [] Γ1):Pd wi g tc te own cap Y τ Γ Z:=h
theorem gv(h:B true Γ):i7 Y τ Γ B:=h
theorem ak{C:Addr}(h:t Y τ Γ λxs Γ1=>xs.length≤sizeLine∧Y τ (.ref C) Γ1):gy C t Y D τ Γ:=h
theorem TI(h:ta Y τ Γ λxs Γ1=>∃j:Int,xs=[.int j]∧-(2^62)≤j∧j<2^62∧I (FD 0 j.toNat) EG Γ1):mM ta Y τ Γ I:=h
theorem Tx(h:ta Y τ Γ λxs Γ1=>∃ts us,xs=[.tup ts,.tup us]∧I (GQ ts us) EG Γ1):jI ta Y τ Γ I:=h
theorem Va(h:tl Y τ Γ λx Γ1=>∃a ts,x=.ref a∧EC Γ1 (.ref a)=some ts∧I ts (λΓ'=>EC Γ' (.ref a)=some ts) Γ1):oG tl Y τ Γ I:=h
theorem fj(h:tl Y τ Γ λx Γ1=>∃z,x=.str z∧I (Hs z) EG Γ1):jc tl Y τ Γ I:=h
theorem SF{Q:Str→Prop}(h:Q z):∃k,T.str z=.str k∧Q k:=⟨z,rfl,h⟩
theorem Bv{A C:Prop}(h:b=true)(a:A):if b=true then A else C:=by rw[AM h];exact a
theorem Bs{A C:Prop}(h:b=false)(a:C):if b=true then A else C:=by rw[AE (by rw[h];exact DH)];exact a
theorem AR{A C:Prop}(h1:b=true→A)(h2:b=false→C):if b=true then A else C:=by
 cases b with
 |true=>rw[AM rfl];exact h1 rfl
 |false=>rw[AE DH];exact h2 rfl
theorem Gj{t:CC}(h:t Y D τ Γ):iV t Y D τ Γ:=⟨D.nx,h,λ_ _ z=>z⟩
end
theorem IL:∀ss:List Str,JK (ss.map T.str)=some (ss.map V.str)
 |[]=>rfl
 |s::r=>by rw[CV,CV,JK,IL r];rfl
section
variable {Γ: AS}
theorem fK{ws:List T}{Q:List T→List T→Prop}(h:Q us ws):∃ts vs,[T.tup us,T.tup ws]=[T.tup ts,T.tup vs]∧Q ts vs:=Ψ2 us ws ⟨rfl,h⟩
theorem cm{A:Prop}(h:A):EG Γ∧A:=⟨trivial,h⟩
theorem Kr{a b:Str}(h:decide (V.str a=V.str b)=true):a=b:=V.str.inj (C5 h)
theorem KO{a b:Str}(h:decide (V.str a=V.str b)=false):a≠b:=λe=>DO h (by rw[e])
theorem Jd{a b:Int}(h:decide (V.int a=V.int b)=true):a=b:=V.int.inj (C5 h)
theorem cI{Q:T→List T→Prop}(h:Q (.tup us) us):∃x ts,[T.tup us]=[x]∧EC Γ x=some ts∧Q x ts:=Ψ2 (.tup us) us ⟨rfl,rfl,h⟩
end
section
variable {Γ: AS}{Z: DI}
theorem TE{r r':EO}{a b c:Ab}(h:a Y τ Γ λx Γ1=>b Y τ Γ1 λy Γ2=>r x y Γ2 λz Γ3=>∃k,z=.bl k∧(if k=true then c Y τ Γ3 λw' Γ4=>r' y w' Γ4 Z else Z (.bl false) Γ3)):Ni r r' a b c Y τ Γ Z:=h
theorem dP{u:V}{us:List V}(h1:sc x=some u)(h2:JK ts=some us)(h3:(EV u&&us.all EV)=true)(z:Z (.bl (if neg then !DX u us else DX u us)) Γ):Lv neg x (.tup ts) Γ Z:=by
 rw[DN]at h3;exact Ψ3 u ts us ⟨h1,rfl,h2,h3.1,h3.2,z⟩
theorem Ng{u:V}{us:List V}(g:Γ p=some (.lst ts))(h1:sc x=some u)(h2:JK ts=some us)(h3:EV u=true)(h4:us.all EV=true)(z:Z (.bl (if neg then !DX u us else DX u us)) Γ):Lv neg x (.ref p) Γ Z:=
 ⟨u,ts,us,h1,BM g,h2,h3,h4,z⟩
theorem GF{Q:T→List T→Prop}(g:Γ p=some (.lst ts))(h:Q (.ref p) ts):∃x us,[T.ref p]=[x]∧EC Γ x=some us∧Q x us:=Ψ2 (.ref p) ts ⟨rfl,BM g,h⟩
theorem AU{t:T}(g:Γ p=some (.lst ts))(h:B7 ts i=some t)(z:Z t Γ):Ki (.ref p) (.int i) Γ Z:=Ψ3 ts i t ⟨BM g,rfl,h,z⟩
theorem II{t:T}(h:B7 ts i=some t)(z:Z t Γ):Ki (.tup ts) (.int i) Γ Z:=Ψ3 ts i t ⟨rfl,rfl,h,z⟩
theorem EP{A:Prop}(g:Γ p=some (.lst ts))(h:A):Eb Γ (.ref p)=some "list" ∧ A:=⟨by show(match Γ p with|some (.lst _)=>some "list" |some (.dK _)=>some "dict" |_=>none)=_;rw[g],h⟩
theorem eX{A:Prop}(h:A):Eb Γ (.str z)=some "str" ∧ A:=⟨rfl,h⟩
end
section
variable {Γ: AS}
theorem fS{Q:Int→Int→Prop}(h:Q i j):∃i' j',[T.int i,T.int j]=[T.int i',T.int j']∧Q i' j':=Ψ2 i j ⟨rfl,h⟩
theorem Q9{k:Int}{j:Nat}{v:T}(g:Γ p=some (.lst ts))(h:Dm ts.length k=some j)(z:N τ (up Γ p (.lst (ts.set j v)))):∃a us k' j',T.ref p=.ref a∧T.int k=.int k'∧Γ a=some (.lst us)∧Dm us.length k'=some j'∧N τ (up Γ a (.lst (us.set j' v))):=Ψ4 p ts k j ⟨rfl,rfl,g,h,z⟩
end
section
variable {Γ: AS}
theorem TP{Cy:Addr}{j:Nat}{ts:CC}(h:tb (λτ' C Γ'=>W.exmOne K C (.ref Cy)=some true∧∀x,Γ' x=none→
 ts Ec {nx:=λτ2 Γ2=>D.nx (τ2.set j none) Γ2,rt:=D.rt,bk:=λτ2 Γ2=>D.bk (τ2.set j none) Γ2,ct:=λτ2 Γ2=>D.ct (τ2.set j none) Γ2} (τ'.set j (some (.ref x))) (up Γ' x (.ext (excAt x C)))) D τ Γ):lZ K Cy j tb ts Y D τ Γ:=h
end
theorem pI:∀ts:List T,GQ ts ts=ts.map λy=>.tup [y,y]
 |[]=>rfl
 |t::r=>by rw[GQ,pI r];rfl
theorem mE{α:Type}{P:List α→Prop}(h:∀a0,P [a0]):∀us:List α,us.length=1→P us
 |[a0],_=>h _
theorem wY{α:Type}{P:List α→Prop}(h:∀a0 a1,P [a0,a1]):∀us:List α,us.length=2→P us
 |[a0,a1],_=>h _ _
theorem Ra{α:Type}{P:List α→Prop}(h:∀a0 a1 a2,P [a0,a1,a2]):∀us:List α,us.length=3→P us
 |[a0,a1,a2],_=>h _ _ _
end L3
namespace L3
open PySem PySem.Spec L2
open PyProof.Rows hiding St
section
variable {X: Cx}{E: St→BG}{tg: Expr}{p pos: Pos}
def HF(lo c:Int):Nat→List T
 |0=>[]
 |n+1=>.int lo::HF (lo+c) c n
theorem Q6(c:Int):∀(n:Nat) (lo:Int),(HF lo c n).length=n
 |0,_=>rfl
 |n+1,lo=>by rw[HF,Aw,Q6 c n]
theorem iU(c:Int):∀(n:Nat) (lo:Int) (i:Nat),i<n→(HF lo c n)[i]?=some (.int (lo+(i:Int)*c))
 |0,_,i,h=>absurd h (Nat.not_lt_zero _)
 |n+1,lo,0,_=>by rw[HF];simp
 |n+1,lo,i+1,h=>by
  rw[HF,UO,iU c n (lo+c) i (by lia)];congr 2
  have:((i+1:Nat):Int)*c=(i:Int)*c+c:=by rw[Int.natCast_succ,Int.add_mul,Int.one_mul]
  lia
theorem zF{H:A7}(lo c:Int)(n:Nat):Walks (eV lo c n) (HF lo c n) EG H where
 go:=λi H' Γ t hr _ hi=>by rw[Q6]at hi;exact hi
 uZ:=λi H' Γ x H2 t hr _ hi q0=>by
  let⟨e,y⟩:=q0;subst e y;rw[Q6]at hi;exact⟨.refl,hr,_,iU c n lo i hi,E0⟩
 stop:=λH' Γ t hr _=>by rw[Q6];exact Ax _
def qd(ta:DA):I3:=λY τ Γ Z=>ta Y τ Γ λxs Γ1=>∃(i j c:Int) (n:Nat),xs=[.int i,.int j,.int c]∧(c=2∨c=-1)∧-(2^30)≤i∧i<2^30∧-(2^30)≤j∧j<2^30∧Builtin.Range.rangeSize i j c=(n:Int)∧Z (HF i c n) EG Γ1
theorem rS{a b c:Expr}{ta:DA}(hg:C6 X "range")(hm:X.mg "range" = none)(ha:PA X [a,b,c] (E8 E ta))(hs:starEach [a,b,c] X.env=[(false,eval a X.env),(false,eval b X.env),(false,eval c X.env)]:=by rfl)(wI:starEach [b,c] X.env=[(false,eval b X.env),(false,eval c X.env)]:=by rfl):PI X tg (.Call (.Name "range" p) [a,b,c] [] pos) (GJ E (qd ta)):=
 Kg (acX hg hm ha hs wI) λσ H Q τ Γ Y Z rs hr t vr xr=>⟨τ,Γ,Y,_,rs,hr,t,λvs xs H1 Γ1 s1 h1 r1 ξ=>Ξ48 ξ λi j c n ex hc b1 b2 b3 b4 hn z=>by
  subst ex;let⟨v,ws,rfl,a,r2⟩:=Fp r1;let⟨w,u,rfl,b,d⟩:=AK r2;exact Ψ4 i j c n ⟨by rw[DZ a,DZ b,DZ d],hc,b1,b2,b3,b4,hn,vr _ _ EG H1 Γ1 s1 h1 (zF i c n) z⟩,xr⟩
theorem sO:Hu X "list.pop" (λx ts Γ Z=>∃a us k y,x=.ref a∧ts=[.int (k:Nat)]∧Γ a=some (.lst us)∧k<2^30∧us[k]?=some y∧Z y (up Γ a (.lst (us.eraseIdx k)))):=
 ⟨_,aal,λv x vs ts H Γ Q Z r rs hr q0 vr=>by
  let⟨a,us,k,y,ex,et,g,hk,hy,z⟩:=q0;subst ex et;let⟨w,rfl,tR⟩:=rm rs;let⟨va,XT,qa⟩:=hr a _ g;have hl:k<us.length:=(aa9.mp hy).1;let⟨vy,XS,ry⟩:=qa.get hy;exact Ψ5 a va (k:Int) k vy ⟨CE r,by rw[DZ tR],XT,by lia,by lia,?_,XS,?_⟩
  ·have h:Dm va.length (k:Int)=some k:=by
    unfold Dm;rw[AM (by lia),AM (by rw[qa.length];lia),Ju]
   exact(Vl h).1
  ·have s:gN H Γ (Aa H a (.lst (va.eraseIdx k))) (up Γ a (.lst (us.eraseIdx k))):=.set hr g
   have qe:Rs H (va.eraseIdx k) (us.eraseIdx k):=by
    rw[kL,kL];exact Rs.app (qa.take k) (qa.drop (k+1))
   exact vr _ _ _ _ s (hr.set g ⟨_,D3,qe.mono s.tq⟩) (ry.mono s.tq) z⟩
end
end L3
namespace L3
open PySem PySem.Spec L2
variable {a:Addr}{v:T}{t:DA}{e: Expr}{f:Str}{to tv te:Ab}{pos:Pos}{C: Addr}{o value:Expr}{r3:EO}{wi:I3}{g:FG}{own:List Str}{cap:List (Nat×Str)}{Q:AS→Prop}{sp:B2}{X: Cx}{E: St→BG}{m: Str}
section
theorem cf:Ex X (.type "int") (λxs Γ Z=>∃b:Bool,xs=[.bl b]∧Z (.int (if b=true then 1 else 0)) Γ):=
 ⟨_,Key,λvs xs H Γ Q Z r hr q0 vr=>by
  let⟨b,e,z⟩:=q0;subst e;let⟨v,rfl,a⟩:=rm r;exact⟨b,by rw[Hi a],vr _ _ H Γ .refl hr E0 z⟩⟩
theorem lF{xs:List V}(hk:yT X.K a xs)(hf:xs.all EV=true):Bt X (compareOp .In) (λx y Γ Z=>∃u,sc x=some u∧EV u=true∧y=.ref a∧Z (.bl (DX u xs)) Γ):=
 ⟨_,nK,λx y v b H Γ Q Z ra rb hr q0 vr=>by
  let⟨u,e1,f1,ey,z⟩:=q0;subst ey;rw[Ja ra e1];exact Ψ2 a xs ⟨CE rb,.inr hk.sq,f1,hf,vr _ _ H Γ .refl hr Dp z⟩⟩
end
def Du(f:Str)(v:T):List (Str×T)→List (Str×T)
 |[]=>[(f,v)]
 |(g,x)::r=>if g=f then(g,v)::r else(g,x)::Du f v r
section
variable {H: A7}
theorem Fs.len:∀{gs:List (Str×V)} {fs:List (Str×T)},Fs H gs fs→gs.length=fs.length
 |_,_,.nil=>rfl
 |_,_,.cons a b=>by rw[Aw,Aw,Fs.len b]
theorem Fs.get:∀{gs:List (Str×V)} {fs:List (Str×T)} {f:Str} {t:T},Fs H gs fs→fs.lookup f=some t→∃v,gs.lookup f=some v∧R H v t
 |_,_,f,t,.nil,h=>by cases h
 |(g,v)::gs,(g',x)::fs,f,t,.cons a b,h=>by
  let⟨e,r⟩:=a;have e:g=g':=e;subst e;rw[List.lookup_cons]at h ⊢;split at h
  ·cases h;exact⟨v,rfl,r⟩
  ·exact Fs.get b h
theorem Fs.non:∀{gs:List (Str×V)} {fs:List (Str×T)} {f:Str},Fs H gs fs→fs.lookup f=none→gs.lookup f=none
 |_,_,f,.nil,h=>rfl
 |(g,v)::gs,(g',x)::fs,f,.cons a b,h=>by
  let⟨e,r⟩:=a;have e:g=g':=e;subst e;rw[List.lookup_cons]at h ⊢;split at h
  ·cases h
  ·exact Fs.non b h
theorem Fs.put{v:V}{t:T}(r:R H v t)(f:Str):∀{gs:List (Str×V)} {fs:List (Str×T)},Fs H gs fs→Fs H (E9 f v gs) (Du f t fs)
 |_,_,.nil=>.cons ⟨rfl,r⟩ .nil
 |(g,w)::gs,(g',x)::fs,.cons a b=>by
  let⟨e,q⟩:=a;have e:g=g':=e;subst e;unfold E9 Du;split
  ·exact .cons ⟨rfl,r⟩ b
  ·exact .cons ⟨rfl,q⟩ (Fs.put r f b)
end
section
def kW(C:Addr)(to:Ab)(f:Str):Ab:=λY τ Γ Z=>to Y τ Γ λx Γ1=>∃a dx fs v,x=.ref a∧Γ1 a=some (.ins C dx fs)∧fs.lookup f=some v∧Z v Γ1
theorem FQ{e:Expr}(c:rB X.K C)(n:da X.K C f)(he:PE X e (AF E to))(hb:attributeBase e f X.env (eval e X.env)=eval e X.env:=by rfl):PE X (.Attribute e f pos) (AF E (kW C to f)):=
 EB (uO he hb) λσ H Q τ Γ Y Z rs hr t vr xr=>by
  exact Ψ4 τ Γ Y _ ⟨rs,hr,t,λv x H1 Γ1 s1 h1 r1 z1=>?_,xr⟩;let⟨a,dx,fs,u,rfl,g,l,z⟩:=z1;let⟨gs,hg,q⟩:=h1 a _ g;let⟨v',l',r'⟩:=q.get l;exact Ψ5 a C dx gs v' ⟨CE r1,hg,c,n,l',vr v' u H1 Γ1 s1 h1 r' z⟩
def kr(C:Addr)(to tv:Ab)(f:Str):CC:=λY D τ Γ=>tv Y τ Γ λy Γ1=>to Y τ Γ1 λx Γ2=>∃a dx fs,x=.ref a∧Γ2 a=some (.ins C dx fs)∧fs.length<1000∧D.nx τ (up Γ2 a (.ins C dx (Du f y fs)))
theorem iO{H:A7}{C dx:Addr}{u:HO}{gs:List (Str×V)}{fs:List (Str×T)}(h:H a=some u)(n:(∀vs:List V,u≠.tup vs)∧∀b w,u≠.frz b w)(q:Fs H gs fs):Ho (Aa H a (.ins C dx gs)) a (.ins C dx fs):=⟨gs,D3,q.mono (LL h n)⟩
theorem kz{pos':Pos}(c:rB X.K C)(n:da X.K C f)(ha:PE X o (AF E to))(hv:PE X value (AF E tv))(hs:swapsWith value (some (.Attribute o f pos')) pos.line X.env=pure false:=by rfl):PS X (.Assign [.Attribute o f pos'] value pos) (CL E (kr C to tv f)):=
 GB (sF ha hv hs) λD σ H τ Γ Y Z rs hr t dr xr=>by
  exact Ψ4 τ Γ Y _ ⟨rs,hr,t,λy y3 H1 Γ1 s1 h1 r1 z1=>?_,xr⟩;exact Ψ4 τ Γ1 Y _ ⟨rs.mono s1.tq,h1,z1,λv x H2 Γ2 s2 h2 r2 z2=>?_,xr.mono s1⟩;let⟨a,dx,fs,rfl,g,l,z⟩:=z2;let⟨gs,hg,q⟩:=h2 a _ g;exact Ψ4 a C dx gs ⟨CE r2,hg,c,n,by rw[q.len];exact l,?_⟩;have hh:=(h2 a _ g).some;let⟨u,hu,nn⟩:=hh;have st:gN H2 Γ2 (Aa H2 a (.ins C dx (E9 f y gs))) (up Γ2 a (.ins C dx (Du f y3 fs))):=gN.set h2 g;exact dr.nx _ _ _ _ ((s1.trans s2).trans st) (h2.set g (iO hu nn (Fs.put (r1.mono s2.tq) f q))) (rs.mono ((s1.trans s2).trans st).tq) z
def me(C:Addr)(to tv:Ab)(r3:EO)(f:Str):CC:=λY D τ Γ=>to Y τ Γ λx Γ1=>∃a dx fs v,x=.ref a∧Γ1 a=some (.ins C dx fs)∧fs.lookup f=some v∧tv Y τ Γ1 λy Γ2=>r3 v y Γ2 λz Γ3=>∃ph mq,Γ3 a=some (.ins C ph mq)∧mq.length<1000∧D.nx τ (up Γ3 a (.ins C ph (Du f z mq)))
theorem fD{op:Operator}{xb:Pos}(c:rB X.K C)(n:da X.K C f)(ha:PE X o (AF E to))(hv:PE X value (AF E tv))(ho:Bt X (inplaceOp op) r3):PS X (.AugAssign (.Attribute o f xb) op value pos) (CL E (me C to tv r3 f)):=by
 obtain⟨r,ho,h⟩:=ho;exact GB (aaI (rd:=r) ha hv (λv0 s σ H x y u v Q I rx ry q=>ho v0 s σ H x y u v Q I rx ry q)) λD σ H τ Γ Y Z rs hr t dr xr=>?_;exact Ψ4 τ Γ Y _ ⟨rs,hr,t,λv x H1 Γ1 s1 h1 r1 z1=>?_,xr⟩;let⟨a,dx,fs,v3,rfl,g,l,z⟩:=z1;let⟨gs,hg,q⟩:=h1 a _ g;let⟨v',l',r'⟩:=q.get l;exact Ψ5 a C dx gs v' ⟨CE r1,hg,c,n,l',?_⟩;exact Ψ4 τ Γ1 Y _ ⟨rs.mono s1.tq,h1,z,λy y3 H2 Γ2 s2 h2 r2 z2=>?_,xr.mono s1⟩;exact h v' y v3 y3 H2 Γ2 _ _ (r'.mono s2.tq) r2 h2 z2 λz' z3 H3 Γ3 s3 h3 Jw WO=>?_;let⟨ph,mq,g3,l3,z⟩:=WO;let⟨V7,P8,q'⟩:=h3 a _ g3;exact Ψ2 ph V7 ⟨P8,by rw[q'.len];exact l3,?_⟩;let⟨u,hu,nn⟩:=(h3 a _ g3).some;have st:gN H3 Γ3 (Aa H3 a (.ins C ph (E9 f z' V7))) (up Γ3 a (.ins C ph (Du f z3 mq))):=gN.set h3 g3;have Vi:=(s1.trans s2).trans s3;exact dr.nx _ _ _ _ (Vi.trans st) (h3.set g3 (iO hu nn (Fs.put Jw f q'))) (rs.mono (Vi.trans st).tq) z
abbrev Eh(P:Program)(w:World)(K:W.Frag)(mg:KK)(ap:Heap)(C:Addr)(m:Str)(k:Nat)(ps:List Str)(sp:B2):Prop:=zd P w K mg ap C m k ps (B3 sp)
abbrev GK(P:Program)(w:World)(K:W.Frag)(mg:KK)(ap:Heap)(C:Addr)(m:Str)(k:Nat)(ps:List Str)(sp:B2):Prop:=bV P w K mg ap C m k ps (B3 sp)
abbrev RX(P:Program)(w:World)(K:W.Frag)(mg:KK)(ap:Heap)(C:Addr)(k:Nat)(ps:List Str)(sp:B2):Prop:=yX P w K mg ap C k ps (B3 sp)
def fq(C:Addr)(m:Str)(sp:B2)(to:Ab)(t:DA):Ab:=λY τ Γ Z=>to Y τ Γ λx Γ1=>∃a dx fs,x=.ref a∧Γ1 a=some (.ins C dx fs)∧fs.lookup m=none∧t Y τ Γ1 λxs Γ2=>sp (.ref a::xs) Γ2 Z λ_ _=>False
variable {k j: Nat}{ps: List Str}{sp: B2}{o: Expr}{es: List Expr}{to: Ab}{t: DA}{apos pos p: Pos}{pl: Sem Bool}
theorem NX(c:Eh X.prog X.w X.K X.mg X.base C m k ps sp)(hr:dH j X.A)(hk:k≤j)(he:PE X o (AF E to))(ha:PA X (e::es) (E8 E t))
  (oJ:starEach (e::es) X.env=(false,eval e X.env)::starEach es X.env:=by rfl) (iM:(backTo pos (starEach es X.env)).any (·.1)=false:=by rfl)
  (ht:eval (.Call (.Attribute o m apos) (e::es) [] pos) X.env=(do
   let ov ←eval o X.env
   standAt apos.atName
   let(f,first) ←holding [ov] (getMethod ov m pl)
   callWith pos f first (backTo pos (starEach (e::es) X.env)) (backToKw pos (keywordEach [] X.env))):=by rfl):PE X (.Call (.Attribute o m apos) (e::es) [] pos) (AF E (fq C m sp to t)):=by
 obtain⟨f,fd,F,c,hm,hb⟩:=c;exact EB (aaO (pl:=pl) (E:=IG) he c hm F (hr.mono hk) hb .nil (λ_ _ _ _ _ _ _ z=>z.elim) ha oJ iM ht) λσ H Q τ Γ Y Z rs hr t vr xr=>?_;exact Ψ4 τ Γ Y _ ⟨rs,hr,t,λv x H1 Γ1 s1 h1 r1 z1=>?_,xr⟩;let⟨a,dx,fs,rfl,g,l,z⟩:=z1;let⟨gs,hg,q⟩:=h1 a _ g;exact Ψ3 a dx gs ⟨CE r1,hg,q.non l,?_⟩;exact Ψ4 τ Γ1 Y _ ⟨rs.mono s1.tq,h1,z,λvs xs H2 Γ2 s2 h2 r2 z2=>?_,xr.mono s1⟩;show B3 sp (v::(vs++[])) H2 Q IG
 rw[BV,CE r1];exact Ψ4 (.ref a::xs) Γ2 Z _ ⟨Ez Em r2,h2,z2,vr.mono (s1.trans s2),λ_ _ _ _ _ z=>z.elim⟩
theorem JV(c:Eh X.prog X.w X.K X.mg X.base C m k ps sp)(hr:dH j X.A)(hk:k≤j)(he:PE X o (AF E to))
  (ht:eval (.Call (.Attribute o m apos) [] [] pos) X.env=(do
   let ov ←eval o X.env
   standAt apos.atName
   let(f,first) ←holding [ov] (getMethod ov m pl)
   callWith pos f first (backTo pos (starEach [] X.env)) (backToKw pos (keywordEach [] X.env))):=by rfl):PE X (.Call (.Attribute o m apos) [] [] pos) (AF E (fq C m sp to OI)):=by
 obtain⟨f,fd,F,c,hm,hb⟩:=c;exact EB (xp (pl:=pl) (E:=IG) he c hm F (hr.mono hk) hb .nil (λ_ _ _ _ _ _ _ z=>z.elim) ht) λσ H Q τ Γ Y Z rs hr t vr xr=>?_;exact Ψ4 τ Γ Y _ ⟨rs,hr,t,λv x H1 Γ1 s1 h1 r1 z1=>?_,xr⟩;let⟨a,dx,fs,rfl,g,l,z⟩:=z1;let⟨gs,hg,q⟩:=h1 a _ g;exact Ψ3 a dx gs ⟨CE r1,hg,q.non l,?_⟩;show B3 sp (v::([]++[])) H1 Q IG
 rw[CE r1];exact Ψ4 [.ref a] Γ1 Z _ ⟨Ez Em F1,h1,z,vr.mono s1,λ_ _ _ _ _ z=>z.elim⟩
def je(C:Addr)(sp:B2)(t:DA):Ab:=λY τ Γ Z=>t Y τ Γ λxs Γ1=>∀x dx,Γ1 x=none→Γ1 dx=none→dx≠x→sp (.ref x::xs) (up Γ1 x (.ins C dx [])) (λv Γ2=>v=.non∧Z (.ref x) Γ2) λ_ _=>False
theorem ku{x:Str}(c:RX X.prog X.w X.K X.mg X.base C k ps sp)(hr:dH j X.A)(hk:k+1≤j)(hg:C6 X x)(hm:X.mg x=some (.ref C))(ha:PA X (e::es) (E8 E t))(oX:(x ==("__debug__" : Str))=false:=by decide)
  (he:starEach (e::es) X.env=(false,eval e X.env)::starEach es X.env:=by rfl) (iM:(backTo pos (starEach es X.env)).any (·.1)=false:=by rfl):PE X (.Call (.Name x p) (e::es) [] pos) (AF E (je C sp t)):=by
 let⟨f,fd,F,M,hb⟩:=c;exact EB (ab9 (E:=IG) M F (hr.mono hk) hg hm hb .nil (λ_ _ _ _ _ _ _ z=>z.elim) ha oX he iM) λσ H Q τ Γ Y Z rs hr t vr xr=>?_;exact Ψ4 τ Γ Y _ ⟨rs,hr,t,λvs xs H1 Γ1 s1 h1 r1 z1=>?_,xr⟩;intro x dx hx RI ne;rw[BV];have k1:=Dy (o:=.own x) RI;have VS:(Aa H1 dx (.own x)) x=none:=by rw[BA (IC ne)];exact hx
 have Vg:gN H1 Γ1 (Aa H1 dx (.own x)) Γ1:=.keep k1;have Yy:HR (Aa H1 dx (.own x)) Γ1:=h1.keep k1;have uR:gN (Aa H1 dx (.own x)) Γ1 (Aa (Aa H1 dx (.own x)) x (.ins C dx [])) (up Γ1 x (.ins C dx [])):=.make VS;have h2:=Yy.make (o:=.ins C dx []) (o3:=.ins C dx []) VS ⟨[],D3,.nil⟩;exact Ψ4 (.ref x::xs) _ _ _ ⟨Ez Em (r1.mono (Vg.trans uR).tq),h2,z1 x dx (h1.free hx) (h1.free RI) ne,λv u H3 Γ3 s3 h3 r3 z3=>?_,λ_ _ _ _ _ z=>z.elim⟩;let⟨rfl,z⟩:=z3;exact⟨L9 r3,vr _ _ H3 Γ3 (s1.trans ((Vg.trans uR).trans s3)) h3 Em z⟩
end
section
theorem rU:Bt X (binaryOp .Add) (λx y Γ Z=>∃a b ts us,x=.ref a∧y=.scr X.K b us∧Γ a=some (.lst ts)∧ts.length+us.length≤sizeLine∧∀p,Γ p=none→Z (.ref p) (up Γ p (.lst (ts++us)))):=
 ⟨_,lN,λx y a b H Γ Q Z ra rb hr q0 vr=>by
  let⟨p,p',ts,us,ea,eb,g1,l,z⟩:=q0;subst ea eb;let⟨vs,hv,q⟩:=hr p _ g1;let⟨rfl,⟨FU,sq,q'⟩⟩:=Q5 rb;exact Ψ4 p p' vs FU ⟨CE ra,rfl,jK.of hv,sq.sq,by rw[q.length,q'.length];exact l,λc hc=>?_⟩;have k:=Dy (o:=.lst (vs++FU)) hc;exact vr _ _ _ _ (.make hc) (hr.make (o3:=.lst (ts++us)) hc ⟨_,D3,Rs.app (q.mono (E7 k)) (q'.mono (E7 k))⟩) Em (z c (hr.free hc))⟩
theorem y9:Ex X (.type "int") (λxs Γ Z=>∃(z:Str) (n:Int),xs=[.str z]∧z.length≤640∧PySem.intText? z=some n∧Z (.int n) Γ):=
 ⟨_,tX,λvs xs H Γ Q Z r hr q0 vr=>by
  let⟨z,n,e,h1,h2,q⟩:=q0;subst e;let⟨v,rfl,a⟩:=rm r;exact Ψ2 z n ⟨by rw[D4 a],h1,h2,vr _ _ H Γ .refl hr E0 q⟩⟩
theorem tx:Hu X "str.startswith" (λx ts Γ Z=>∃(z y:Str) (i:Int),x=.str z∧ts=[.str y,.int i]∧Z (.bl (fromIndex z.length i+y.length≤z.length&&Builtin.Str.subAt z y (fromIndex z.length i))) Γ):=
 ⟨_,zp,λv x vs ts H Γ Q Z rv rs hr q0 vr=>by
  let⟨z,y,i,e1,e2,q⟩:=q0;subst e1 e2;let⟨a,b,rfl,ra,rb⟩:=AK rs;exact Ψ3 z y i ⟨D4 rv,by rw[D4 ra,DZ rb],vr _ _ H Γ .refl hr Dp q⟩⟩
theorem Pe:Hu X "str.join" (λx ts Γ Z=>∃(p:Addr) (sep:List Nat) (ls:List (List Nat)),x=.str (S sep)∧ts=[.ref p]∧EC Γ (.ref p)=some (ls.map λl=>T.str (S l))∧(ls.map λl=>l.length+sep.length).sum≤sizeLine∧Z (.str (S (B9 sep ls))) Γ):=
 ⟨_,abM,λv x vs ts H Γ Q Z rv rs hr q0 vr=>by
  let⟨p,sep,ls,e1,e2,g,l,q⟩:=q0;subst e1 e2;let⟨a,rfl,ra⟩:=rm rs;let⟨us,hs,q'⟩:=Hh (K:=X.K) hr g;have em:(ls.map λl=>T.str (S l))=(ls.map S).map T.str:=by rw[Fo];rfl
  rw[em]at q';have:=dc q';subst this;exact Ψ3 p sep ls ⟨D4 rv,by rw[CE ra],?_,l,vr _ _ H Γ .refl hr GX q⟩;rw[Fo]at hs;exact hs⟩
def zh(gd:AS→Prop)(g:FG)(te:Ab)(C:List Str→AS→Prop)(ts:List T)(τ:Bh)(Γ:AS):Prop:=∃P:List T→Bh→List Str→AS→Prop,P ts τ [] Γ∧(∀τ ys Γ,P [] τ ys Γ→gd Γ∧C ys Γ)∧
 ∀x r τ ys Γ,P (x::r) τ ys Γ→gd Γ∧g Ec x τ Γ λτ3 Γ3=>te Ec τ3 Γ3 λy Γ5=>∃k,y=.str k∧P r τ3 (ys++[k]) Γ5
def Og(P:Program)(w:World)(wi:I3)(g:FG)(te:Ab)(own:List Str)(cap:List (Nat×Str)):Ab:=λY τ Γ Z=>wi Y τ Γ λts gd Γ1=>ts.length≤999∧
 zh gd g te (λys Γ2=>∀D S n,kU ys S n→Γ2 D=none→Z (.ref D) (up Γ2 D (.ext (setAt P w D S n)))) ts (LB own cap τ) Γ1
theorem yH{P:Program}{w:World}(σ:St)(H:A7)(Q:Ar)(q:AF E (Og P w wi g te own cap) σ H Q):k9 P w (GJ E wi) (Fw Eu g) (AF Eu te) own cap σ H Q:=by
 let⟨τ,Γ,Y,Z,rs,hr,t,vr,xr⟩:=q;exact Ψ4 τ Γ Y _ ⟨rs,hr,t,λJ ts gd H1 Γ1 s1 h1 wk⟨hz,Pv,z1,p0,pc⟩=>?_,xr⟩;intro D hD;have nl:∀φ:Heap→Prop,(∀us:List V,HO.ext φ≠.tup us)∧∀b w,HO.ext φ≠.frz b w:=λ_=>⟨λ_ z=>(nomatch z),λ_ _ z=>(nomatch z)⟩;exact⟨λi m σ' S n H'=>∃τ' ys Γ',i≤ts.length∧m=ts.length-i∧ys.length≤i∧kU ys S n∧RS H' σ' τ'∧HR H' Γ'∧H' D=some (.ext (setAt P w D S n))∧Γ' D=none∧gN H1 Γ1 H' Γ'∧Pv (ts.drop i) τ' ys Γ',
  ⟨ts.length,LB own cap τ,[],Γ1,Fe _,rfl,Ax _,kU.nil,(mY own (rs.mono s1.tq) cap).mono (E7 (Dy hD)),h1.keep (Dy hD),D3,h1.free hD,.keep (Dy hD),z1⟩,?_⟩
 intro i m σ2 S n H2⟨τ2,ys,Γ2,hi,rfl,hv,on,AK,h2,d2,gD,s2,w2⟩;exact⟨d2,?_⟩;by_cases jX:i<ts.length
 ·rw[drop_cons jX]at w2
  let⟨g2,w2⟩:=pc _ _ _ _ _ w2;have nn:=on.le;exact .inr ⟨wk.go i H2 Γ2 s2.tq h2 g2 jX,by lia,λσ' S' n' H'=>∃τ' ys Γ',ys.length≤i+1∧kU ys S' n'∧RS H' σ' τ'∧HR H' Γ'∧H' D=some (.ext (setAt P w D S' n'))∧Γ' D=none∧gN H1 Γ1 H' Γ'∧Pv (ts.drop (i+1)) τ' ys Γ',
   λσ' S' n' H' ξ=>Ξ38 ξ λτ' ys Γ' a b c d e f k l=>⟨ts.length-(i+1),by lia,τ',ys,Γ',jX,rfl,a,b,c,d,e,f,k,l⟩,λx H3 yl=>?_⟩
  let⟨s3,h3,⟨x3,e3,r3⟩⟩:=wk.uZ i H2 Γ2 x H3 s2.tq h2 g2 jX yl;rw[GW jX]at e3;cases e3;exact Ψ5 _ τ2 Γ2 Ec _ ⟨r3,AK.mono s3.tq,h3,w2,λσ4 τ4 H4 Γ4 s4 h4 r4 z4=>?_,Hv⟩;exact Ψ4 τ4 Γ4 Ec _ ⟨r4,h4,z4,λy y' H6 Γ6 s6 h6 r6 z6=>?_,Hv⟩;obtain⟨k,rfl,z6⟩:=z6;have Jt:=(s3.trans s4).trans s6;have d6:H6 D=some (.ext (setAt P w D S n)):=Jt.FZ D _ d2 gD;have g6:Γ6 D=none:=Jt.new D (by rw[d2];exactλz=>nomatch z) gD;have tq:Tq H6 (Aa H6 D (.ext (setAt P w D (λk'=>S k'||decide (k'=k)) (more S n k)))):=LL d6 (nl _);exact⟨k,D4 r6,d6,τ4,ys++[k],Γ6,by rw[AG];exact WV hv,on.snoc,(r4.mono s6.tq).mono tq,h6.hide g6 d6 (nl _),D3,g6,?_,z6⟩;have s7:=s2.trans Jt;exact⟨s7.tq.trans tq,λa h z=>?_,s7.new,λa o h g=>?_⟩
  ·by_cases e:a=D
   ·subst e;exact h hD
   ·rw[BA e]at z;exact s7.F6 a h z
  ·have e:a≠D:=λe=>by subst e;rw[hD]at h;cases h
   rw[BA e];exact s7.FZ a o h g
 ·have e:i=ts.length:=by lia
  subst e;rw[Mb]at w2;have w2:=p0 _ _ _ w2;exact .inl ⟨wk.stop H2 Γ2 s2.tq h2 w2.1,?_⟩;have AI:=s1.trans s2;exact vr (.ref D) (.ref D) H2 (up Γ2 D (.ext (setAt P w D S n))) ⟨AI.tq,AI.F6,λa h g=>?_,AI.FZ⟩ (λa o g=>?_) Em (w2.2 D S n on gD)
  ·have e:a≠D:=λe=>by subst e;exact s1.F6 _ h hD
   rw[CB e];exact AI.new a h g
  ·by_cases e:a=D
   ·subst e;rw[AP]at g;cases g;exact d2
   ·rw[CB e]at g;exact h2 a o g
theorem jD{scope:Scope}{cl:List (Str×Addr)}{tg iter elt:Expr}(c:fv X scope cl own cap)(hc:X.calm=true)(hi:PI X tg iter (GJ E wi))
  (hg:∀C s H fp,PG (DW X (own++cap.map (·.2)) scope cl C s H fp λ_ _=>False) tg (Fw Eu g))
  (he:∀C s H fp,PE (DW X (own++cap.map (·.2)) scope cl C s H fp λ_ _=>False) elt (AF Eu te)) (hs:∀x,foldedSetIterable iter X.env x=pure x:=by intro _;rfl) :
  PE X (.SetComp elt [⟨tg,iter,[],0⟩] scope pos) (AF E (Og X.prog X.w wi g te own cap)):=GU (zM c hc hi hg he hs) yH
theorem oQ:Ex X (.builtin "len") (λxs Γ Z=>∃(p:Addr) (S:Str→Bool) (n:Nat),xs=[.ref p]∧Γ p=some (.ext (setAt X.prog X.w p S n))∧Z (.int n) Γ):=
 ⟨_,yE,λvs xs H Γ Q Z r hr q0 vr=>by
  let⟨p,S,n,e,g,z⟩:=q0;subst e;let⟨v,rfl,a⟩:=rm r;exact Ψ3 p S n ⟨by rw[CE a],hr p _ g,vr _ _ H Γ .refl hr E0 z⟩⟩
end
section
variable {st: Expr}{te ts: Ab}{p2 pos: Pos}
theorem abo(he:PE X e (AF E te))(hs:PE X st (AF E ts)):PE X (.Subscript e (.Slice none none (some st) p2) pos) (AF E (Nn (λx Γ Z=>∃z:Str,x=.str z∧z.length≤sizeLine∧∀y:Str,y.length≤z.length→(∀c∈y.cps.toList,c∈z.cps.toList)→Z (.str y) Γ) te ts)):=
 GU (ly uW he hs) (nz λv x H Γ Q Z r hr q0 vr=>by
  let⟨w,ex,l,z⟩:=q0;subst ex;exact⟨w,D4 r,l,λy hy hc=>vr _ _ H Γ .refl hr GX (z y hy hc)⟩)
end
section
variable {Y: G6}{D: KZ}{τ: Bh}{Γ: AS}{Z: DI}{a dx: Addr}{fs: List (Str×T)}{f: Str}
theorem VK(h:to Y τ Γ λx Γ1=>∃a dx fs v,x=.ref a∧Γ1 a=some (.ins C dx fs)∧fs.lookup f=some v∧Z v Γ1):kW C to f Y τ Γ Z:=h
theorem UY{Q:T→Prop}(g:Γ a=some (.ins C dx fs))(l:fs.lookup f=some v)(z:Q v):∃a' ph mq v',T.ref a=.ref a'∧Γ a'=some (.ins C ph mq)∧mq.lookup f=some v'∧Q v':=Ψ4 a dx fs v ⟨rfl,g,l,z⟩
theorem fP(h:tv Y τ Γ λy Γ1=>to Y τ Γ1 λx Γ2=>∃a dx fs,x=.ref a∧Γ2 a=some (.ins C dx fs)∧fs.length<1000∧D.nx τ (up Γ2 a (.ins C dx (Du f y fs)))):kr C to tv f Y D τ Γ:=h
theorem b8{y:T}(g:Γ a=some (.ins C dx fs))(l:Nat.ble fs.length 900=true)(z:Q (up Γ a (.ins C dx (Du f y fs)))):∃a' ph mq,T.ref a=.ref a'∧Γ a'=some (.ins C ph mq)∧mq.length<1000∧Q (up Γ a' (.ins C ph (Du f y mq))):=Ψ3 a dx fs ⟨rfl,g,by have:=fN l;lia,z⟩
theorem T3(h:to Y τ Γ λx Γ1=>∃a dx fs v,x=.ref a∧Γ1 a=some (.ins C dx fs)∧fs.lookup f=some v∧tv Y τ Γ1 λy Γ2=>r3 v y Γ2 λz Γ3=>∃ph mq,Γ3 a=some (.ins C ph mq)∧mq.length<1000∧D.nx τ (up Γ3 a (.ins C ph (Du f z mq)))):me C to tv r3 f Y D τ Γ:=h
theorem cE{Q:Addr→T→Prop}(g:Γ a=some (.ins C dx fs))(l:fs.lookup f=some v)(z:Q a v):∃a' ph mq v',T.ref a=.ref a'∧Γ a'=some (.ins C ph mq)∧mq.lookup f=some v'∧Q a' v':=Ψ4 a dx fs v ⟨rfl,g,l,z⟩
theorem cb{z:T}(g:Γ a=some (.ins C dx fs))(l:Nat.ble fs.length 900=true)(q:Q (up Γ a (.ins C dx (Du f z fs)))):∃ph mq,Γ a=some (.ins C ph mq)∧mq.length<1000∧Q (up Γ a (.ins C ph (Du f z mq))):=Ψ2 dx fs ⟨g,by have:=fN l;lia,q⟩
theorem aw(h:to Y τ Γ λx Γ1=>∃a dx fs,x=.ref a∧Γ1 a=some (.ins C dx fs)∧fs.lookup m=none∧t Y τ Γ1 λxs Γ2=>sp (.ref a::xs) Γ2 Z λ_ _=>False):fq C m sp to t Y τ Γ Z:=h
theorem aJ{Q:Addr→Prop}(g:Γ a=some (.ins C dx fs))(l:fs.lookup m=none)(z:Q a):∃a' ph mq,T.ref a=.ref a'∧Γ a'=some (.ins C ph mq)∧mq.lookup m=none∧Q a':=Ψ3 a dx fs ⟨rfl,g,l,z⟩
theorem cw(h:t Y τ Γ λxs Γ1=>∀x dx,Γ1 x=none→Γ1 dx=none→dx≠x→sp (.ref x::xs) (up Γ1 x (.ins C dx [])) (λv Γ2=>v=.non∧Z (.ref x) Γ2) λ_ _=>False):je C sp t Y τ Γ Z:=h
theorem Cz{i j:Str}{Q:Str→Str→Prop}(l:i.length+j.length≤sizeLine)(h:Q i j):∃i' j',T.str i=.str i'∧T.str j=.str j'∧i'.length+j'.length≤sizeLine∧Q i' j':=Ψ2 i j ⟨rfl,rfl,l,h⟩
end
end L3
namespace L3
open PySem PySem.Spec L2
open PyProof.Rows hiding St
abbrev top:=Bh→List T→AS→(Bh→List T→AS→Prop)→Prop
end L3
namespace L3
open PySem PySem.Spec L2
open PyProof.Rows hiding St
section
variable {X: Cx}{E: St→BG}{C: Addr}
def KG(C:Addr)(m:Str)(sp:B2)(to:Ab)(t:DA):Ab:=λY τ Γ Z=>to Y τ Γ λx Γ1=>∃a dx fs,x=.ref a∧Γ1 a=some (.ins C dx fs)∧fs.lookup m=none∧t Y τ Γ1 λxs Γ2=>sp (.ref a::xs) Γ2 Z (Y τ)
theorem HZ{m:Str}{k j:Nat}{ps:List Str}{sp:B2}{o e:Expr}{es:List Expr}{to:Ab}{t:DA}{apos pos:Pos}{pl:Sem Bool}(c:GK X.prog X.w X.K X.mg X.base C m k ps sp)(hr:dH j X.A)(hk:k≤j)(hx:Jz X E)(he:PE X o (AF E to))(ha:PA X (e::es) (E8 E t))
  (oJ:starEach (e::es) X.env=(false,eval e X.env)::starEach es X.env:=by rfl) (iM:(backTo pos (starEach es X.env)).any (·.1)=false:=by rfl)
  (ht:eval (.Call (.Attribute o m apos) (e::es) [] pos) X.env=(do
   let ov ←eval o X.env
   standAt apos.atName
   let(f,first) ←holding [ov] (getMethod ov m pl)
   callWith pos f first (backTo pos (starEach (e::es) X.env)) (backToKw pos (keywordEach [] X.env))):=by rfl):PE X (.Call (.Attribute o m apos) (e::es) [] pos) (AF E (KG C m sp to t)):=by
 exact EB (ud (pl:=pl) c hr hk hx he ha oJ iM ht) λσ H Q τ Γ Y Z rs hr t vr xr=>?_;exact Ψ4 τ Γ Y _ ⟨rs,hr,t,λv x H1 Γ1 s1 h1 r1 z1=>?_,xr⟩;let⟨a,dx,fs,rfl,g,l,z⟩:=z1;let⟨gs,hg,q⟩:=h1 a _ g;exact Ψ3 a dx gs ⟨CE r1,hg,q.non l,?_⟩;exact Ψ4 τ Γ1 Y _ ⟨rs.mono s1.tq,h1,z,λvs xs H2 Γ2 s2 h2 r2 z2=>?_,xr.mono s1⟩;have AI:=s1.trans s2;exact Ψ4 (.ref a::xs) Γ2 Z (Y τ) ⟨Ez Em r2,h2,z2,vr.mono AI,λC H' Γ' s' h' y=>xr σ τ C H' Γ' (AI.trans s') h' (rs.mono (AI.trans s').tq) y⟩
theorem abE{K:W.Frag}(hK:X.K=K):Ex X (.builtin "isinstance") (λxs Γ Z=>∃(x D:Addr) (t:T) (c:Value) (b:Bool),xs=[.ref x,t]∧Qv t=some c∧Fv K D∧Γ x=some (.ext (nD x D))∧W.kitOne K (.ref D) c=some b∧Z (.bl b) Γ):=by
 subst hK;exact sR
theorem ir{K:W.Frag}(hK:X.K=K):Ex X (.builtin "isinstance") (λxs Γ Z=>∃(x D:Addr) (ts:List T) (cs:List Value) (b:Bool),xs=[.ref x,.tup ts]∧NV ts=some cs∧Fv K D∧Γ x=some (.ext (nD x D))∧W.kitAny K (.ref D) cs=some b∧Z (.bl b) Γ):=by
 subst hK;exact Loc
end
end L3
namespace L3
open PySem PySem.Spec L2
variable {oc DQ doc pm cO ct:Value}{od an:Option Addr}{zG:Array (Option Value)}{ps: List Str}{X: Cx}
section
variable {P: Program}{w: World}{K: W.Frag}{mg: Str→Option Value}{ap h: Heap}{x q: Str}{st: Stmt}{f: Addr}{fd: FuncData}{n: Nat}{sp: Dc}
structure Dg(K:W.Frag)(x:Str)(st:Stmt)(f:Addr)(fd:FuncData):Prop where
 a:W.nsIn K mainGlobals x=some (some (.ref f))
 F:eG K x x st f fd
theorem dg(a:W.nsIn K mainGlobals x=some (some (.ref f)))(l:K.lookup f=some ⟨oc,od,.func (W.fnOf x x (IB st) (GL st) (Am st) .none DQ doc pm an cO ct),zG⟩)(c:W.codeIn K cO x=true)(k:W.keepIn K (.ref f)=true):Dg K x st f (W.fnOf x x (IB st) (GL st) (Am st) .none DQ doc pm an cO ct):=⟨a,kP l c k⟩
structure Df(K:W.Frag)(mg:KK)(x:Str)(st:Stmt)(ps:List Str)(f:Addr)(fd:FuncData):Prop where
 F:eG K x x st f fd
 m:mg x=some (.ref f)
 k:W.keepIn K (.ref f)=true
 b:Binds K fd ps []
theorem Dg.df(d:Dg K x st f fd)(X:K.In h)(G:h.Ns mainGlobals mg)(hb:∀(DQ doc pm:Value) (an:Option Addr) (cO ct:Value) (us:List Value),us.length=ps.length→bindArgs (W.fnOf x x (IB st) (GL st) (Am st) .none DQ doc pm an cO ct) ⟨us,[]⟩=pure (ps.zip us)):Df K mg x st ps f fd:=⟨d.F,Ds X G d.a,d.F.kp,d.F.binds hb⟩
theorem Df.cl(d:Df K mg x st ps f fd)(o:bJ P w K mg ap BK n f fd ps sp):Callee P w K mg ap x n ps sp:=Ψ2 f fd ⟨o,d.m,d.k,d.b⟩
theorem Df.cx(d:Df K mg x st ps f fd)(o:bJ P w K mg ap (DC P w) n f fd ps sp):eh P w K mg ap x n ps sp:=Ψ2 f fd ⟨o,d.m,d.k,d.b⟩
def Zs(K:W.Frag):List Str→Prop
 |[]=>True
 |x::l=>W.nsIn K mainGlobals x=some none∧Zs K l
def jM(mg:KK):List Str→Prop
 |[]=>True
 |x::l=>mg x=none∧jM mg l
theorem Zs.m(X:K.In h)(G:h.Ns mainGlobals mg):∀{l:List Str},Zs K l→jM mg l
 |[],_=>trivial
 |_::_,⟨a,b⟩=>⟨W.mg_none_of X G a,Zs.m X G b⟩
theorem zc{x:Str}{l:List Str}(a:W.nsIn K mainGlobals x=some none)(b:Zs K l):Zs K (x::l):=⟨a,b⟩
structure K9(K:W.Frag)(c:Addr)(m q:Str)(st:Stmt)(f:Addr)(fd:FuncData):Prop where
 t:Meth K c m f
 F:eG K m q st f fd
theorem dm{c:Addr}{m:Str}(a:W.findIn K (.ref c) m=some (some (.ref f)))(l:K.lookup f=some ⟨oc,od,.func (W.fnOf m q (IB st) (GL st) (Am st) .none DQ doc pm an cO ct),zG⟩)(cd:W.codeIn K cO q=true)(k:W.keepIn K (.ref f)=true)(i:W.isFn K (.ref f)=true):K9 K c m q st f (W.fnOf m q (IB st) (GL st) (Am st) .none DQ doc pm an cO ct):=⟨⟨a,i,k⟩,kP l cd k⟩
end
section
theorem abX:Bt X (binaryOp .Add) (λx y Γ Z=>∃a b ts us,x=.scr X.K a ts∧y=.ref b∧Γ b=some (.lst us)∧ts.length+us.length≤sizeLine∧∀p,Γ p=none→Z (.ref p) (up Γ p (.lst (ts++us)))):=
 ⟨_,lN,λx y v w H Γ Q Z ra rb hr q0 vr=>by
  let⟨a,b,ts,us,ea,eb,g,l,z⟩:=q0;subst ea eb;let⟨rfl,⟨vs,sq,q⟩⟩:=Q5 ra;let⟨FU,JO,q'⟩:=hr b _ g;exact Ψ4 a b vs FU ⟨rfl,CE rb,sq.sq,jK.of JO,by rw[q.length,q'.length];exact l,λc hc=>?_⟩;have k:=Dy (o:=.lst (vs++FU)) hc;exact vr _ _ _ _ (.make hc) (hr.make (o3:=.lst (ts++us)) hc ⟨_,D3,Rs.app (q.mono (E7 k)) (q'.mono (E7 k))⟩) Em (z c (hr.free hc))⟩
end
section
variable {C: Addr}{m: Str}{k j: Nat}{sp: B2}{o: Expr}{to: Ab}{apos pos: Pos}{E: St→BG}
theorem iq{pl:Sem Bool}(c:GK X.prog X.w X.K X.mg X.base C m k ps sp)(hr:dH j X.A)(hk:k≤j)(hx:Jz X E)(he:PE X o (AF E to))
  (ht:eval (.Call (.Attribute o m apos) [] [] pos) X.env=(do
   let ov ←eval o X.env
   standAt apos.atName
   let(f,first) ←holding [ov] (getMethod ov m pl)
   callWith pos f first (backTo pos (starEach [] X.env)) (backToKw pos (keywordEach [] X.env))):=by rfl):PE X (.Call (.Attribute o m apos) [] [] pos) (AF E (KG C m sp to OI)):=by
 exact EB (aaE (pl:=pl) c hr hk hx he ht) λσ H Q τ Γ Y Z rs hr t vr xr=>?_;exact Ψ4 τ Γ Y _ ⟨rs,hr,t,λv x H1 Γ1 s1 h1 r1 z1=>?_,xr⟩;let⟨a,dx,fs,rfl,g,l,z⟩:=z1;let⟨gs,hg,q⟩:=h1 a _ g;exact Ψ3 a dx gs ⟨CE r1,hg,q.non l,?_⟩;exact Ψ4 [.ref a] Γ1 Z (Y τ) ⟨Ez Em F1,h1,z,vr.mono s1,λC H' Γ' s' h' y=>xr σ τ C H' Γ' (s1.trans s') h' (rs.mono (s1.trans s').tq) y⟩
theorem zD:Bt X (binaryOp .Mult) (λx y Γ Z=>∃z k,x=.str z∧y=.int k∧-(2^62)<k∧k≤5000∧z.length≤1000∧Z (.str (ED z k.toNat)) Γ):=
 ⟨_,abV,λx y a b H Γ Q Z ra rb hr q0 vr=>by let⟨i,j,ea,eb,c1,c2,c3,z⟩:=q0;subst ea eb;exact Ψ2 i j ⟨D4 ra,DZ rb,c1,c2,c3,vr _ _ H Γ .refl hr GX z⟩⟩
end
section
theorem hU:Hu X "str.index" (λx ts Γ Z=>∃(z y:Str) (i:Nat) (r:List Nat),x=.str z∧ts=[.str y]∧Builtin.Str.occurrences z y 0 z.length 1=i::r∧Z (.int (i:Nat)) Γ):=
 ⟨_,zr,λv x vs ts H Γ Q Z rv rs hr q0 vr=>by
  let⟨z,y,i,r,e1,e2,e,q⟩:=q0;subst e1 e2;let⟨a,rfl,ra⟩:=rm rs;exact Ψ4 z y i r ⟨D4 rv,by rw[D4 ra],e,vr _ _ H Γ .refl hr E0 q⟩⟩
theorem kA(sep:List Nat):∀ls:List (List Nat),Str.join (S sep) (ls.map S)=S (B9 sep ls)
 |[]=>rfl
 |[x]=>by show S x=S (x++[]);rw[BV]
 |x::y::r=>by
  have ih:=kA sep (y::r);show S x++S sep++Str.join (S sep) ((y::r).map S)=_
  rw[ih];apply Str.ext'
  apply ab3.mp
  simp[S,B9,RZ]
theorem oZ{H:A7}:∀ns:List Str,Rs H (ns.map V.str) (ns.map T.str)
 |[]=>F1
 |_::r=>Ez GX (oZ r)
theorem aap(z y:Str):Txt.split z y≠[]:=by
 unfold Txt.split;split
 ·simp
 ·split
  ·simp
  ·rw[StrLaws.partsBetween_eq]
   let⟨p,r,e⟩:=StrLaws.partsFrom_ne z y.length 0 (Builtin.Str.occurrences z y 0 z.length (z.length+1));rw[e];simp
theorem rW:Hu X "str.split" (λx ts Γ Z=>∃(z sep:List Nat),x=.str (S z)∧ts=[.str (S sep)]∧sep≠[]∧z.length+2≤sizeLine∧∀ls:List (List Nat),ls≠[]→B9 sep ls=z→∀p,Γ p=none→Z (.ref p) (up Γ p (.lst (ls.map λl=>T.str (S l))))):=
 ⟨_,aah,λv x vs ts H Γ Q Z rv rs hr q0 vr=>by
  let⟨z,sep,e1,e2,n,hz,q⟩:=q0;subst e1 e2;let⟨a,rfl,ra⟩:=rm rs;have hS:∀y:Str,S y.cps.toList=y:=λy=>by cases y;simp[S]
  have em:((Txt.split (S z) (S sep)).map λy:Str=>y.cps.toList).map S=Txt.split (S z) (S sep):=by
   rw[Fo];have:(S ∘ λy:Str=>y.cps.toList)=id:=funext λy=>hS y;rw[this,List.map_id]
  exact Ψ2 (S z) (S sep) ⟨D4 rv,by rw[D4 ra],?_,by rw[Ad];exact hz,λl hl=>?_⟩
  ·rw[Ad]
   cases sep with
   |nil=>exact absurd rfl n
   |cons _ _=>rfl
  have k:=Dy (o:=.lst ((Txt.split (S z) (S sep)).map V.str)) hl;exact vr _ _ _ _ (.make hl) (hr.make (o3:=.lst (((Txt.split (S z) (S sep)).map λy:Str=>y.cps.toList).map λl=>T.str (S l))) hl ⟨_,D3,?_⟩) Em (q _ (λe=>aap _ _ (List.map_eq_nil_iff.mp e)) ?_ l (hr.free hl))
  ·have:(((Txt.split (S z) (S sep)).map λy:Str=>y.cps.toList).map λl=>T.str (S l))=(Txt.split (S z) (S sep)).map T.str:=by
    rw[Fo];exact Q8 λy _=>by show T.str (S y.cps.toList)=_;rw[hS]
   rw[this];exact oZ _
  ·have h:=StrLaws.join_split (S z) (S sep)
   rw[←em,kA]at h;have:=Ai (λy:Str=>y.cps.toList) h;simpa[S]using this⟩
end
end L3
namespace L3
open PySem PySem.Spec L2
open PyProof.Rows hiding St
variable {a b e:Expr}{ta tb:Ab}{r3:EO}{i k j:Nat}{x:Str}{ps:List Str}{sp:B2}{p:Pos}{es:List Expr}{t:DA}
section
variable {X: Cx}{E: St→BG}{pos: Pos}
theorem AD(ha:PE X a (AF E ta))(hb:PE X b (AF E tb))(hs:M2 b:=by exactλ_ _=>rfl):PE X (.Subscript a b pos) (AF E (Gx Ki ta tb)):=tM ha hb hs
theorem KC(ha:PE X a (AF E ta))(hb:PE X b (AF E tb))(hs:M2 b:=by exactλ_ _=>rfl):PE X (.Subscript a b pos) (AF E (Gx pC ta tb)):=uu ha hb hs
theorem Ek{op:CmpOp}(ho:Bt X (compareOp op) r3)(ha:PE X a (AF E ta))(hb:PE X b (AF E tb))(hm:behindInMarks op b=false:=by exact lP _):PE X (.Compare a [op] [b] pos) (AF E (Gx r3 ta tb)):=LW ho ha hb hm
theorem AY{op:CmpOp}(ho:Bt X (compareOp op) r3)(ha:PE X a (AF E ta))(hb:PE X b (AF E tb))(hm:behindInMarks op b=false:=by exact lP _):PT X (.Compare a [op] [b] pos) (Cv E (LF (Gx r3 ta tb))):=Ft ho ha hb hm
theorem AL{te:Ab}{OZ:Pos}(hN:X.N.Nodup)(he:PE X e (AF E te))(hi:X.N[i]?=some x:=by rfl)(hx:I0 X.env.scope x:=by first|exact .inl rfl|exact .inr rfl)(hs:swapsWith e (some (.Name x OZ)) pos.line X.env=pure false:=by rfl)(hf:Fk X x:=by first|exact .inl rfl|exact .inr rfl|assumption):PS X (.Assign [.Name x OZ] e pos) (CL E (Qk i te)):=acR hN hi hx he hs hf
theorem Cs(hN:X.N.Nodup)(hi:X.N[i]?=some x:=by rfl)(hx:I0 X.env.scope x:=by first|exact .inl rfl|exact .inr rfl)(hf:Fk X x:=by first|exact .inl rfl|exact .inr rfl|assumption):PG X (.Name x pos) (Fw E (hName i)):=F8 hN hi hx hf
theorem Jm(hN:X.N=[x]:=by rfl)(hx:I0 X.env.scope x:=by first|exact .inl rfl|exact .inr rfl)(hf:Fk X x:=by first|exact .inl rfl|exact .inr rfl|assumption):PG X (.Name x pos) (Fw E (hName 0)):=F8 (by rw[hN];simp) (by rw[hN];rfl) hx hf
theorem Ak(c:Al X.prog X.w X.K X.mg X.base x k ps sp)(hr:dH j X.A)(ha:PA X (e::es) (E8 E t))(hk:k≤j:=by lia)(hg:C6 X x:=by rfl)(oX:(x ==("__debug__" : Str))=false:=by decide)(he:starEach (e::es) X.env=(false,eval e X.env)::starEach es X.env:=by rfl)(iM:(backTo pos (starEach es X.env)).any (·.1)=false:=by rfl):PE X (.Call (.Name x p) (e::es) [] pos) (AF E (X3 sp t)):=abh c hr hk hg ha oX he iM
theorem FP(c:F3 X.prog X.w X.K X.mg X.base x k ps sp)(hr:dH j X.A)(hx:Jz X E)(ha:PA X (e::es) (E8 E t))(hk:k≤j:=by lia)(hg:C6 X x:=by rfl)(oX:(x ==("__debug__" : Str))=false:=by decide)(he:starEach (e::es) X.env=(false,eval e X.env)::starEach es X.env:=by rfl)(iM:(backTo pos (starEach es X.env)).any (·.1)=false:=by rfl):PE X (.Call (.Name x p) (e::es) [] pos) (AF E (bE sp t)):=abi c hr hk hg hx ha oX he iM
theorem Gg{scope:Scope}{own:List Str}(hk:scope.kind=.function:=by rfl)(hn:∀y∈scope.names,y.2≠.free∧y.2≠.cell:=by decide +kernel)(hl:∀y∈scope.names,y.2=.local→scope.names.lookup y.1=some .local:=by decide +kernel):fv X scope [] own []:=xx hk hn hl
end
end L3
namespace Tg
open PySem L2
variable {x y:Str}{lo hi:Option Int}
inductive Kd where
 |num (w:Int)
 |text
 |row (k:Kd)
 |rec_ (fs:List (Str×Kd))
 |pick (fs:List (Str×Kd))
abbrev ad:=List (Str×Kd)
mutual
def Kd.size:Kd→Int
 |.num w=>w
 |.text=>1
 |.row _=>1
 |.rec_ fs=>(SG fs).sum
 |.pick fs=>1+Ej (SG fs)
def SG:List (Str×Kd)→List Int
 |[]=>[]
 |(_,k)::r=>k.size::SG r
end
mutual
def Kd.depth:Kd→Nat
 |.num _=>1
 |.text=>1
 |.row k=>k.depth+1
 |.rec_ fs=>B4 fs+1
 |.pick fs=>B4 fs+1
def B4:List (Str×Kd)→Nat
 |[]=>0
 |(_,k)::r=>max k.depth (B4 r)
end
theorem R5:∀{fs:List (Str×Kd)} {p:Str×Kd},p∈fs→p.2.depth≤B4 fs
 |(nm,k)::r,p,h=>by
  unfold B4;rcases aam.mp h with rfl|h
  ·exact Nat.le_max_left _ _
  ·exact Ce (R5 h) (Nat.le_max_right _ _)
mutual
/-- a kind as zf document tells it: widths,fields one to six,no name twice,names of one to Wf small Ry -/
def Kd.good:Kd→Prop
 |.num w=>1≤w∧w≤4
 |.text=>True
 |.row k=>k.good
 |.rec_ fs=>CO fs∧1≤fs.length∧fs.length≤6∧(fs.map (·.1)).Nodup
 |.pick fs=>CO fs∧1≤fs.length∧fs.length≤6∧(fs.map (·.1)).Nodup
def CO:List (Str×Kd)→Prop
 |[]=>True
 |(nm,k)::r=>(1≤nm.length∧nm.length≤8∧∀c∈nm.cps.toList,97≤c∧c≤122)∧k.good∧CO r
end
def Lets(z:Str):Prop:=∀c∈z.cps.toList,97≤c∧c≤122
def ES(z:Str):Prop:=1≤z.length∧z.length≤8∧Lets z
theorem Br(z:Str):z.cps.toList.length=z.length:=by simp[Str.length]
theorem n6(x y:Str):(x++y).cps.toList=x.cps.toList++y.cps.toList:=by rw[RZ,R6]
theorem Kw(x y:Str):(x++y).length=x.length+y.length:=by rw[←Br,n6,AG,Br,Br]
theorem Lets.app(a:Lets x)(b:Lets y):Lets (x++y):=λc h=>by
 rw[n6]at h;rcases aaH.mp h with h|h
 ·exact a c h
 ·exact b c h
theorem Lets.cut(a:Lets x)(e:y.cps.toList=Ct x.cps.toList lo hi):Lets y:=λc h=>by
 rw[e]at h;exact a c (L6 (LU h))
theorem Sw(e:y.cps.toList=Ct x.cps.toList lo hi):y.length≤x.length:=by
 rw[←Br,←Br,e];exact R3 _ _ _
theorem uS{n:Int}(h:0≤n)(e:y.cps.toList=Ct x.cps.toList none (some n)):y.length=min n.toNat x.length:=by
 rw[←Br,e];unfold Ct;have e1:HT.jQ x.cps.toList.length x.cps.toList.length (some n)=min n.toNat x.cps.toList.length:=by
  show(if n<0 then _ else min n.toNat _)=_
  rw[AE (by lia)]
 rw[e1,HT.mT,OT,Bi,Br];lia
theorem mW(h:(x.cps.toList.all λc=>decide (97≤c)&&decide (c≤122))=true):Lets x:=λc hc=>by
 have q:=aaS.mp h c hc;simpa using q
abbrev yP:Str := "abcdefghijklmnopqrstuvwxyz"
theorem J2{α:Type}{xs:List α}{r:Int}(h0:0≤r)(h1:r<xs.length):∃x,B7 xs r=some x∧x∈xs:=by
 have hk:r.toNat<xs.length:=by lia
 have e:r=((r.toNat:Nat):Int):=by lia
 have q:B7 xs ((r.toNat:Nat):Int)=some xs[r.toNat]:=Ey (by rw[GW hk]<;>rfl)
 rw[←e]at q;exact⟨_,q,Lq hk⟩
theorem sub_len{α:Type}[BEq α][LawfulBEq α]:∀{l m:List α},l.Nodup→(∀x∈l,x∈m)→l.length≤m.length
 |[],m,_,_=>Fe _
 |x::r,m,nd,h=>by
  have hx:=h x JH;have e:=List.length_erase_of_mem hx;have Vz:=ab7.mp nd;have ih:=sub_len (l:=r) (m:=m.erase x) Vz.2 λy hy=>by
   exact(List.mem_erase_of_ne ?_).mpr (h y (GO _ hy));rintro rfl;exact Vz.1 hy
  have:0<m.length:=List.length_pos_of_mem hx;rw[Aw];lia
theorem GY{x:Str}:∀{ss:List Str},DX (.str x) (ss.map V.str)=decide (x∈ss)
 |[]=>by simp[DX]
 |y::r=>by
  have ih:=GY (x:=x) (ss:=r);unfold DX at ih ⊢;rw[CV,fL,ih];show(y==x||decide (x∈r))=decide (x∈y::r)
  rw[GV];simp only[Jf,abl,F9,aam];constructor
  ·rintro(h|h)
   ·exact .inl h.symm
   ·exact .inr h
  ·rintro(h|h)
   ·exact .inl h.symm
   ·exact .inr h
theorem O1(ss:List Str):(ss.map V.str).all EV=true:=by
 rw[aaS];intro x hx;let⟨z,_,rfl⟩:=aaV.mp hx;rfl
end Tg
namespace Tg
open PySem L2 L3
mutual
def Kd.tr:Kd→T
 |.num w=>.tup [.str "num",.int w]
 |.text=>.tup [.str "text"]
 |.row k=>.tup [.str "row",k.tr]
 |.rec_ fs=>.tup [.str "rec",.tup (CI fs)]
 |.pick fs=>.tup [.str "pick",.tup (CI fs)]
def CI:List (Str×Kd)→List T
 |[]=>[]
 |(n,k)::r=>.tup [.str n,k.tr]::CI r
end
theorem L7:∀fs:List (Str×Kd),CI fs=fs.map λp=>.tup [.str p.1,p.2.tr]
 |[]=>rfl
 |(n,k)::r=>by rw[CI,L7 r];rfl
theorem Jo(fs:ad):(CI fs).length=fs.length:=by rw[L7,Ae]
theorem bZ:∀(fs gs:ad),CI (fs++gs)=CI fs++CI gs:=λfs gs=>by rw[L7,L7,L7,B1]
theorem Ol:∀{fs:List (Str×Kd)} {p:Str×Kd},CO fs→p∈fs→p.2.good
 |(nm,k)::r,p,g,h=>by
  unfold CO at g;rcases aam.mp h with rfl|h
  ·exact g.2.1
  ·exact Ol g.2.2 h
theorem bd:∀{fs:List (Str×Kd)} {p:Str×Kd},CO fs→p∈fs→ES p.1
 |(nm,k)::r,p,g,h=>by
  unfold CO at g;rcases aam.mp h with rfl|h
  ·exact g.1
  ·exact bd g.2.2 h
def Su:T→V
 |.int i=>.int i
 |.str z=>.str z
 |_=>.non
def acj:T→Bool
 |.tup _=>true
 |_=>false
mutual
def dT:T→Nat
 |.tup us=>1+(us.filter acj).length+mQ us
 |_=>0
def mQ:List T→Nat
 |[]=>0
 |t::r=>max (dT t) (mQ r)
end
def He(n:Nat)(v:Int):Int:=if 2*v ≥ 65536^n then v-65536^n else v
end Tg
namespace Tg
open PySem L2 L3
variable {lo hi:Option Int}{n j c lv d i m:Nat}{x:T×List Nat}{r v q r' b h:List Nat}{ns:List Int}{Z:DI}{Γ Γ' G:AS}{p dx f2 f1:Addr}{o:O}{k:Kd}{t:T}{ts ds:List T}{z:Str}{a ws ls:List (List Nat)}{B:T→Bool}{f C ax: Addr}{M6 M7:FuncData}{w: World}{ps:List (Str×Str×Kd)}{ss:List Str}{D:Int}{K: W.Frag}{mg: Str→Option Value}{P: Program}{ap: Heap}{fd: FuncData}{v1 v2: Value}
def Bb(i:Nat):Stmt:=PySem.Challenge.pw_tonguegate_k32_texts_of_none.main.body.getD i (.Pass ⟨0,0,0,0⟩)
def mem(i j:Nat):Stmt:=match Bb i with
 |.ClassDef _ _ _ b _ _ _ _ _ _ _=>b.getD j (.Pass ⟨0,0,0,0⟩)
 |_=>.Pass ⟨0,0,0,0⟩
local macro_rules | `(tactic| left)=>`(tactic| repeat (first
 |(with_reducible first|refine dY ?_|refine fg ?_|refine TM ?_|refine Wo ?_|refine Vd ?_)|((with_reducible apply dz);exact rfl)|(with_reducible first|refine Y0 ?_|refine W3 ?_|refine Cg ?_|refine eH ?_|refine Ut ?_|refine Jc ?_|refine gQ ?_|refine ck ?_|refine Ss ?_|refine So ?_|refine bG ?_|refine Sa ?_|refine Sz ?_|refine aP ?_|refine cJ ?_|refine SA ?_|refine gC ?_|refine VN ?_|refine aK ?_|refine aZ ?_|refine dI ?_|refine gi ?_|refine aH ?_|refine fZ ?_|refine fR ?_|refine UW ?_|refine Rn ?_|refine aU ?_|refine dN ?_|refine cW ?_|refine dv ?_|refine Jb ?_|refine bt ?_|refine aF ?_)|((with_reducible refine dW ?_ ?_);exact rfl)|(with_reducible first|refine dq ?_|refine VM ?_|refine Wt ?_|refine Tz ?_|refine Rt ?_|refine fk ?_|refine Se ?_|refine bu ?_|refine W0 ?_|refine dL ?_|refine bO ?_|refine fz ?_|refine VO ?_|refine a8 ?_|refine gv ?_|refine ak ?_|refine TI ?_|refine Tx ?_|refine Ob ?_|refine Va ?_|refine fj ?_|refine SF ?_|refine fS ?_)|((with_reducible apply AU);(first|assumption|exact AP);(first|exact QW|exact L4))|((with_reducible apply Q9);(first|assumption|exact AP);exact rfl)
 |with_reducible refine And.intro (rfl:T.non=T.non) ?_|(with_reducible first|refine TP ?_|refine N7 ?_|refine Oc ?_|refine TE ?_)|((with_reducible apply dP);exact rfl;exact rfl;exact rfl)|(with_reducible first|refine eX ?_|refine Od ?_|refine fK ?_|refine CD ?_|refine CG ?_|refine Cn ?_|refine Cp ?_|refine cm ?_|refine cI ?_|refine VK ?_)|((with_reducible apply UY);(first|assumption|exact AP);exact rfl)|with_reducible refine fP ?_|((with_reducible apply b8);(first|assumption|exact AP);exact rfl)|with_reducible refine T3 ?_|((with_reducible apply cE);(first|assumption|exact AP);exact rfl)|((with_reducible apply cb);(first|assumption|exact AP);exact rfl)
 |with_reducible refine aw ?_|((with_reducible apply aJ);(first|assumption|exact AP);exact rfl)|(with_reducible first|refine cw ?_|refine N9 ?_|refine N8 ?_|refine Oa ?_)|((with_reducible refine Sp ?_ ?_);exact rfl)
 |((with_reducible refine G0 ?_ ?_);(first|exact⟨by decide,by decide,by decide⟩|exact⟨by decide,by decide⟩|exact Or.inl ⟨by decide,by decide⟩|exact Or.inr ⟨by decide,by decide⟩|((show(0:Int)<_);decide)))
 |((with_reducible refine Bv ?_ ?_);(first|exact rfl|decide +kernel))|((with_reducible refine Bs ?_ ?_);(first|exact rfl|decide +kernel))))
theorem Qx{lo:Int}{x:T}{r:List T}(h:x::r=FD lo n):∃m,n=m+1∧x=.int lo∧r=FD (lo+1) m:=by
 cases n with
 |zero=>cases h
 |succ m=>cases h;exact⟨m,rfl,rfl,rfl⟩
theorem Tw{lo:Int}(h:[]=FD lo n):n=0:=by
 cases n with
 |zero=>rfl
 |succ m=>cases h
theorem menu{r:Int}(h0:0≤r)(h1:r<ns.length):∃n,n∈ns∧B7 (ns.map T.int) r=some (.int n):=by
 let⟨x,hx,hm⟩:=J2 (xs:=ns.map T.int) h0 (by simpa using h1);let⟨n,hn,rfl⟩:=aaV.mp hm;exact⟨n,hn,hx⟩
theorem zN(l:Le Γ Γ')(h:Γ' p=none)(z:∀p,Γ p=none→Z (.ref p) (up Γ p o)):De Z (.ref p) (up Γ' p o):=by
 have g:Γ p=none:=by
  cases e:Γ p with
  |none=>rfl
  |some u=>have:=l p u e;rw[h]at this;cases this
 exact⟨up Γ p o,λb u q=>?_,z p g⟩;by_cases e:b=p
 ·subst e;rw[AP]at q ⊢;exact q
 ·rw[CB e]at q ⊢;exact l b u q
theorem AX(e:up Γ p o=G):G p=some o:=(congrFun e p).symm.trans AP
theorem AW(e:up Γ p o=G)(hp:Γ p=none):Le Γ G:=e ▸ .new hp
theorem Dw(h:j<ns.length):∃n,n∈ns∧ns[j]?=some n∧B7 (ns.map T.int) (j:Int)=some (.int n):=⟨ns[j],Lq h,by simp[h],Ey (by simp[h])⟩
def Fx(c:Int):Nat→Int
 |0=>c-10^18
 |k+1=>if 0<Fx c k then Fx c k/1000003 else Fx c k
def PU(c:Int)(k:Nat):Int:=(c%1000000007+1)*(2*k+3)%2147483647
def Oo(c:Int)(k:Nat):Int:=(PU c k^5+((k:Int)+1)^3)%2147483629
def ke(c:Int)(k:Nat):Int:=(Oo c k+c%999983)^3%2147483587/16
def Eg(c:Int)(k:Nat):Int:=if 0<Fx c k then Fx c k%1000003 else ke c k
theorem za(c:Int)(k:Nat):0≤PU c k∧PU c k<2147483647:=⟨CK _ (by decide),Cc _ (by decide)⟩
theorem uy(c:Int)(k:Nat):0≤Oo c k∧Oo c k<2147483629:=⟨CK _ (by decide),Cc _ (by decide)⟩
def Ei(c:Int)(n:Nat):List Int:=(List.range n).map (Eg c)
theorem OJ(c:Int)(n:Nat):(Ei c n).length=n:=by unfold Ei;rw[Ae,eY]
theorem jz{c:Int}{k:Nat}(h:k<n):(Ei c n)[k]?=some (Eg c k):=by unfold Ei;simp[h]
theorem v7(c:Int)(n:Nat):Ei c (n+1)=Ei c n++[Eg c n]:=by unfold Ei;rw[List.range_succ,B1];rfl
section
abbrev Vv:Stmt:=Bb 44
theorem cq:B6 ["cell","count","row","rest","base","more","k","stir"] ["cell","count"] (Am Vv):=⟨rfl,rfl,rfl,by decide +kernel,rfl,by decide +kernel,by decide +kernel⟩
def Sq:B2:=λts Γ Z _=>∃(c:Int) (n:Nat),ts=[.int c,.int n]∧n≤1000∧∀p,Γ p=none→Z (.ref p) (up Γ p (.lst ((Ei c n).map T.int)))
theorem wV(F:eG K "_law_draws" "_law_draws" Vv f fd)(eI:mg "range" = none):bJ P w K mg ap BK 1 f fd ["cell","count"] (B3 Sq):=by
 exact Bq F cq (λts Γ Z Y h=>?_) (λcO A outer s H E ts Γ Z Y hr h=>?_)
 ·let⟨c,n,rfl,_⟩:=h
  rfl
 let⟨c,n,rfl,n1,q⟩:=h;exact⟨_,(A4 (AL (i:=2) cq.nd (BN A6))
  (A4 (AL (i:=3) cq.nd (AA HC (A0 0) (AA QX A5 A5)))
  (A4 (AL (i:=4) cq.nd (AA BF (AA BU (A0 0) A5) A5))
  (A4 (AL (i:=5) cq.nd (AA BU (A0 0) A5))
  (A4 (Hd G3 rfl (QG rfl eI (A3 (A0 1) A6)) (Cs (i:=6) cq.nd) (A4 (AL (i:=7) cq.nd (AA BU (AA Ht (A0 4) (AA BF (AA Ht A5 (A0 6)) A5)) A5))
  (A4 (AL (i:=7) cq.nd (AA BU (AA BF (AA QX (A0 7) A5) (AA QX (AA BF (A0 6) A5) A5)) A5))
  (A4 (AL (i:=7) cq.nd (AA FC (AA BU (AA QX (AA BF (A0 7) (A0 5)) A5) A5) A5))
  (A4 (D9 (AZ (AY Hn (A0 3) A5) (A4 (AL (i:=7) cq.nd (AA BU (A0 3) A5))
  (A4 (AL (i:=3) cq.nd (AA FC (A0 3) A5))
  A8)) A8))
  (A4 (D8 (DT El Fn Fu Fc (A0 2) (A3 (A0 7) A6)))
  A8))))))
  (A4 (AQ (A0 2))
  A8)))))),?_⟩
 simp only[B5];left;intro p hp;left;exact⟨n,rfl,by lia,by lia,?_⟩;exact⟨λv4 τ Γ'=>∃(i m:Nat) (o6 o7:Option T),v4=FD i m∧i+m=n∧τ=[some (.int c),some (.int n),some (.ref p),some (.int (Fx c i)),some (.int (c%1000000007+1)),some (.int (c%999983)),o6,o7]∧Γ'=up Γ p (.lst ((Ei c i).map T.int)),Ψ4 0 n none none ⟨rfl,by lia,rfl,rfl⟩,?_,?_⟩
 ·intro τ Γ'⟨i,m,o6,o7,er,im,rfl,rfl⟩
  have hm:m=0:=by
   cases m with
   |zero=>rfl
   |succ m=>cases er
  subst hm;exact⟨trivial,?_⟩;left;have:i=n:=im;subst this;exact AH .refl (q p hp)
 ·intro x r τ Γ'⟨i,m,o6,o7,er,im,rfl,rfl⟩
  let⟨m',rfl,rfl,rfl⟩:=Qx er;have ab:=za c i;have bb:=uy c i;have mb:0≤c%999983∧c%999983<999983:=⟨CK _ (by decide),Cc _ (by decide)⟩;left;exact G0 (.inr ⟨by lia,by lia⟩) ?_;left;exact G0 ⟨by decide,by decide,?_⟩ ?_
  ·show(PU c i).natAbs<2^64
   lia
  left;exact G0 ⟨by decide,by decide,by lia⟩ ?_;left;exact G0 ⟨by decide,by decide,?_⟩ ?_
  ·show(Oo c i+c%999983).natAbs<2^64
   lia
  left;exact⟨λτ Γ'=>τ=[some (.int c),some (.int n),some (.ref p),some (.int (Fx c (i+1))),some (.int (c%1000000007+1)),some (.int (c%999983)),some (.int i),some (.int (Eg c i))]∧Γ'=up Γ p (.lst ((Ei c i).map T.int)),?_,?_⟩
  ·left
   exact AR (λcc=>?_) (λcc=>?_)
   ·have cc:=C5 cc
    left;have e1:Fx c (i+1)=Fx c i/1000003:=by rw[Fx,AM cc]
    have e2:Eg c i=Fx c i%1000003:=by rw[Eg,AM cc]
    rw[e1,e2];exact⟨rfl,rfl⟩
   ·have cc:=DO cc
    left;have e1:Fx c (i+1)=Fx c i:=by rw[Fx,AE cc]
    have e2:Eg c i=ke c i:=by rw[Eg,AE cc]
    rw[e1,e2];exact⟨rfl,rfl⟩
  intro τ Γ'⟨rfl,rfl⟩;left;exact EP AP ?_;left;exact Ψ3 p ((Ei c i).map T.int) _ ⟨rfl,rfl,AP,CM (by rw[Ae,OJ];lia),?_⟩;left;exact Ψ4 (i+1) m' _ _ ⟨rfl,by lia,rfl,?_⟩;rw[DM,v7,B1];rfl
end
inductive Pt(Γ:AS):T→Prop
 |non:Pt Γ .non
 |bl (b:Bool):Pt Γ (.bl b)
 |int (i:Int):Pt Γ (.int i)
 |str {z:Str} (l:z.length≤100000):Pt Γ (.str z)
 |tup {ts:List T} (l:ts.length≤100000) (h:∀t∈ts,Pt Γ t):Pt Γ (.tup ts)
 |lst {a:Addr} {ts:List T} (g:Γ a=some (.lst ts)):Pt Γ (.ref a)
 |dct {a:Addr} {lz:List (DF×T)} (g:Γ a=some (.dK lz)):Pt Γ (.ref a)
theorem Pt.mono(l:Le Γ Γ')(h:Pt Γ t):Pt Γ' t:=by
 induction h with
 |non=>exact .non
 |bl b=>exact .bl b
 |int i=>exact .int i
 |str l=>exact .str l
 |tup l _ ih=>exact .tup l ih
 |lst g=>exact .lst (l _ _ g)
 |dct g=>exact .dct (l _ _ g)
theorem Pt.items(h:Pt Γ (.tup ts)):ts.length≤100000∧∀t∈ts,Pt Γ t:=by
 cases h with
 |tup l h=>exact⟨l,h⟩
theorem Pt.txt(h:Pt Γ (.str z)):z.length≤100000:=by
 cases h with
 |str l=>exact l
def isTup:T→Bool|.tup _=>true|_=>false
def isStr:T→Bool|.str _=>true|_=>false
def isInt:T→Bool|.int _=>true|.bl _=>true|_=>false
def uc:T→Bool|.bl _=>true|_=>false
def pv:T→Bool|.int _=>true|_=>false
theorem Gi(h:isTup t=true):∃ts,t=.tup ts:=by
 cases t with
 |tup ts=>exact⟨ts,rfl⟩
 |_=>cases h
theorem KH(h:isStr t=true):∃z,t=.str z:=by
 cases t with
 |str z=>exact⟨z,rfl⟩
 |_=>cases h
theorem Q7(h:pv t=true):∃i,t=.int i:=by
 cases t with
 |int i=>exact⟨i,rfl⟩
 |_=>cases h
section
variable {Γ: AS}{t: T}
theorem O6{a:Addr}(g:Γ a=some (.lst ts)):Eb Γ (.ref a)=some "list" := by
 show(match Γ a with|some (.lst _)=>some "list" |some (.dK _)=>some "dict" |_=>none)=_
 rw[g]
theorem Oh{a:Addr}{ts:List (DF×T)}(g:Γ a=some (.dK ts)):Eb Γ (.ref a)=some "dict" := by
 show(match Γ a with|some (.lst _)=>some "list" |some (.dK _)=>some "dict" |_=>none)=_
 rw[g]
theorem G4(h:Pt Γ t):∃n,Eb Γ t=some n∧W.kitOne K (.type n) (.type "tuple")=some (isTup t):=by
 cases h with
 |lst g=>exact⟨_,O6 g,rfl⟩
 |dct g=>exact⟨_,Oh g,rfl⟩
 |_=>exact⟨_,rfl,rfl⟩
theorem in_str(h:Pt Γ t):∃n,Eb Γ t=some n∧W.kitOne K (.type n) (.type "str")=some (isStr t):=by
 cases h with
 |lst g=>exact⟨_,O6 g,rfl⟩
 |dct g=>exact⟨_,Oh g,rfl⟩
 |_=>exact⟨_,rfl,rfl⟩
theorem Sv(h:Pt Γ t):∃n,Eb Γ t=some n∧W.kitOne K (.type n) (.type "int")=some (isInt t):=by
 cases h with
 |lst g=>exact⟨_,O6 g,rfl⟩
 |dct g=>exact⟨_,Oh g,rfl⟩
 |_=>exact⟨_,rfl,rfl⟩
theorem ao(h:Pt Γ t):∃n,Eb Γ t=some n∧W.kitOne K (.type n) (.type "bool")=some (uc t):=by
 cases h with
 |lst g=>exact⟨_,O6 g,rfl⟩
 |dct g=>exact⟨_,Oh g,rfl⟩
 |_=>exact⟨_,rfl,rfl⟩
theorem Cw{Ty:String}{Q:Bool→Prop}(h:∃n,Eb Γ t=some n∧W.kitOne K (.type n) (.type Ty)=some (B t))(q:Q (B t)):∃n b,Eb Γ t=some n∧W.kitOne K (.type n) (.type Ty)=some b∧Q b:=by
 let⟨n,a,b⟩:=h;exact Ψ2 n _ ⟨a,b,q⟩
end
def AB(c:Nat):Bool:=!(Builtin.Str.occurrences yP ⟨#[c]⟩ 0 yP.length 1).isEmpty
theorem qj:∀c:Nat,c<128→AB c=(decide (97≤c)&&decide (c≤122)):=by decide +kernel
def Ca:T→Bool
 |.str z=>decide (1≤z.length)&&decide (z.length≤8)&&z.cps.toList.all AB
 |_=>false
theorem Hf(z:Str):Ca (.str z)=(decide (1≤z.length)&&decide (z.length≤8)&&z.cps.toList.all AB):=rfl
theorem Kt(h:Ca t=true):∃z,t=.str z:=by
 cases t with
 |str z=>exact⟨z,rfl⟩
 |_=>cases h
def EF(f:T→Bool):T→Bool
 |.tup [a,b]=>Ca a&&f b
 |_=>false
def DB:T→Str
 |.tup (.str z::_)=>z
 |_ => ""
def Ik(f:T→Bool):T→Bool
 |.tup ts=>decide (1≤ts.length)&&decide (ts.length≤6)&&ts.all (EF f)&&decide (ts.map DB).Nodup
 |_=>false
def OP:T→Bool
 |.int i=>decide (1≤i)&&decide (i≤4)
 |_=>false
def Aj:Nat→T→Bool
 |d+1,.tup [.str h]=>decide (h = "text")
 |d+1,.tup [.str h,x]=>if h = "num" then OP x else if h = "row" then Aj d x else(decide (h = "rec")||decide (h = "pick"))&&Ik (Aj d) x
 |_,_=>false
theorem TG{f:T→Bool}(h:EF f t=true):∃z b,t=.tup [.str z,b]∧Ca (.str z)=true∧f b=true:=by
 unfold EF at h;split at h
 ·rename_i a b
  rw[DN]at h;let⟨z,rfl⟩:=Kt h.1;exact Ψ2 z b ⟨rfl,h.1,h.2⟩
 ·cases h
section
abbrev W4:Stmt:=Bb 20
theorem ada:B6 ["thing"] ["thing"] (Am W4):=⟨rfl,rfl,rfl,by decide +kernel,rfl,by decide +kernel,by decide +kernel⟩
def JF:B2:=λts Γ Z _=>∃t:T,ts=[t]∧Pt Γ t∧Z (.bl (pv t)) Γ
theorem acW(F:eG K "is_whole" "is_whole" W4 f fd)(aj:mg "isinstance" = none)(eW:mg "int" = none)(gU:mg "bool" = none):bJ P w K mg ap BK 1 f fd ["thing"] (B3 JF):=by
 exact Bq F ada (λts Γ Z Y h=>?_) (λcO A outer s H E ts Γ Z Y hr h=>?_)
 ·let⟨t,rfl,_⟩:=h
  rfl
 let⟨t,rfl,pt,q⟩:=h;exact⟨_,(A4 (AQ (FT (D2 rfl aj rfl eW Jh (A0 0)) (Fz (dQ (D2 rfl aj rfl gU To (A0 0))))))
  A8),?_⟩
 simp only[B5];left;exact Cw (Sv pt) ?_;left;exact AR (λc=>?_) (λc=>?_)
 ·left
  exact Cw (ao pt) ?_;left;exact AH .refl ?_;cases t with
  |int i=>exact q
  |bl b=>exact q
  |_=>cases c
 ·exact AH .refl ?_
  cases t with
  |int i=>cases c
  |bl b=>cases c
  |_=>exact q
abbrev eA:Stmt:=Bb 21
theorem wc:B6 ["thing"] ["thing"] (Am eA):=⟨rfl,rfl,rfl,by decide +kernel,rfl,by decide +kernel,by decide +kernel⟩
def IT:B2:=λts Γ Z _=>∃t:T,ts=[t]∧Pt Γ t∧Z (.bl (Ca t)) Γ
theorem se(F:eG K "is_name" "is_name" eA f fd)(iI:mg "LONGEST_NAME" = some v1)(qG:Ef v1 (.int 8))(ig:mg "LETTERS" = some v2)(oa:Ef v2 (.str yP))(aj:mg "isinstance" = none)(cR:mg "str" = none)(aE:mg "len" = none)(fY:mg "all" = none):bJ P w K mg ap BK 1 f fd ["thing"] (B3 IT):=by
 exact Bq F wc (λts Γ Z Y h=>?_) (λcO A outer s H E ts Γ Z Y hr h=>?_)
 ·let⟨t,rfl,_⟩:=h
  rfl
 let⟨t,rfl,pt,q⟩:=h;exact⟨_,(A4 (AZ (PW.pt (BS (Bf (BL (D2 rfl aj rfl cR J5 (A0 0)))) (Ck (Bf (lG J4 J4 A5 (BE Iq rfl aE Bl (A3 (A0 0) A6)) (Dv rfl iI qG)))))) (A4 (AQ CQ)
  A8) A8)
  (A4 (AQ (BE (OL rfl) rfl fY O9 (A3 (Gs (own:=["sign"]) (cap:=[]) Gg rfl (Sy (A0 0)) (λ_ _ _ _=>Jm) (λ_ _ _ _=>HB) (λ_ _ _ _=>(LW Nz (A0 0) (Dv rfl ig oa) (by with_unfolding_all rfl)))) A6)))
  A8)),?_⟩
 simp only[B5];left;exact Cw (in_str pt) ?_;left;exact AR (λc=>?_) (λc=>?_)
 ·left
  exact AH .refl ?_;cases t with
  |str z=>cases c
  |_=>exact q
 let⟨z,rfl⟩:=KH (t:=t) (by cases h:isStr t with|true=>rfl|false=>rw[h]at c;cases c);have zl:=pt.txt;left;exact⟨z,rfl,Ce zl (by decide),?_⟩;left;have no:Ca (.str z)=false→De Z (.bl false) Γ:=λh=>by rw[h]at q;exact AH .refl q
 exact AR (λc1=>?_) (λc1=>?_);rotate_left
 ·have c1:=DO c1
  left;exact no ?_;rw[Hf,BW (show ¬1≤z.length by lia)];rfl
 have c1:=C5 c1;left;exact AR (λc2=>?_) (λc2=>?_)
 ·have c2:¬(z.length:Int)≤8:=by simpa using c2
  left;exact no ?_;rw[Hf,BW (show ¬z.length≤8 by lia),Ga];rfl
 have c2:(z.length:Int)≤8:=by simpa using c2
 left;exact⟨DE (CM (by unfold Hs;rw[Ae,Br];lia)),?_⟩;exact⟨λv4 τ ys Γ'=>∃(cs ds:List Nat) (o:Option T),v4=cs.map (λc=>T.str ⟨#[c]⟩)∧z.cps.toList=ds++cs∧τ=[o]∧ys=(ds.map AB).map T.bl∧Γ'=Γ,Ψ3 z.cps.toList [] none ⟨rfl,rfl,rfl,rfl,rfl⟩,?_,?_⟩
 ·intro τ ys Γ'⟨cs,ds,o,er,ez,rfl,rfl,rfl⟩
  have hz:cs=[]:=by
   cases cs with
   |nil=>rfl
   |cons _ _=>cases er
  subst hz;rw[BV]at ez;subst ez;exact⟨trivial,?_⟩;intro p1 jr;generalize e1:up _ p1 (O.lst _)=Γ1;have g1:=AX e1;have l1:=AW e1 jr
  left;exact Ψ2 p1 _ ⟨rfl,BM g1,?_⟩;have:(z.cps.toList.map AB).all id=Ca (.str z):=by
   rw[Hf,BY (show 1≤z.length by lia),BY (show z.length≤8 by lia),List.all_map];rfl
  rw[this];exact AH l1 q
 ·intro x r τ ys Γ'⟨cs,ds,o,er,ez,rfl,rfl,rfl⟩
  cases cs with
  |nil=>cases er
  |cons c cs=>
   cases er;exact⟨trivial,?_⟩;left;exact Ψ2 _ _ ⟨rfl,rfl,?_⟩;exact Ψ3 cs (ds++[c]) _ ⟨rfl,by rw[ez];simp,rfl,by rw[B1,B1];rfl,rfl⟩
abbrev PL:Stmt:=Bb 25
theorem wD:B6 ["thing","depth"] ["thing","depth"] (Am PL):=⟨rfl,rfl,rfl,by decide +kernel,rfl,by decide +kernel,by decide +kernel⟩
def dw(n:Nat):B2:=λts Γ Z _=>∃(t:T) (d:Nat),ts=[t,.int d]∧d<n∧Pt Γ t∧Z (.bl (EF (Aj d) t)) Γ
def Mm(n:Nat):B2:=λts Γ Z _=>∃(t:T) (d:Nat),ts=[t,.int d]∧d<n∧Pt Γ t∧Z (.bl (Aj d t)) Γ
theorem ik{f:T→Bool}(h:ts.length≠2):EF f (.tup ts)=false:=by
 unfold EF;split
 ·rename_i e;cases e;exact absurd rfl h
 ·rfl
theorem vF(F:eG K "is_field" "is_field" PL f fd)(jo:Al P w K mg ap "is_name" 1 ["thing"] IT)(dE:Al P w K mg ap "is_kind_within" (lv+1) ["thing","depth"] (Mm n))(aj:mg "isinstance" = none)(aB:mg "tuple" = none)(aE:mg "len" = none):bJ P w K mg ap BK (lv+2) f fd ["thing","depth"] (B3 (dw n)):=by
 exact Bq F wD (λts Γ Z Y h=>?_) (λcO A outer s H E ts Γ Z Y hr h=>?_)
 ·let⟨t,d,rfl,_⟩:=h
  rfl
 let⟨t,d,rfl,dn,pt,q⟩:=h;exact⟨_,(A4 (AZ (PW.pt (BS (Bf (BL (D2 rfl aj rfl aB EJ (A0 0)))) (Ck (AY DS (BE Co rfl aE Bl (A3 (A0 0) A6)) A5)))) (A4 (AQ CQ)
  A8) A8)
  (A4 (AQ (FT (Ak jo hr (A3 (AD (A0 0) A5) A6)) (Fz (Ak dE hr (A3 (AD (A0 0) A5) (A3 (A0 1) A6))))))
  A8)),?_⟩
 simp only[B5];left;exact Cw (G4 pt) ?_;left;exact AR (λc=>?_) (λc=>?_)
 ·left
  exact AH .refl ?_;cases t with
  |tup ts=>cases c
  |_=>exact q
 let⟨ts,rfl⟩:=Gi (t:=t) (by cases h:isTup t with|true=>rfl|false=>rw[h]at c;cases c);let⟨tl,tm⟩:=pt.items;left;exact AR (λc1=>?_) (λc1=>?_)
 ·have c1:ts.length≠2:=λe=>by rw[e]at c1;revert c1;decide
  left;rw[ik c1]at q;exact AH .refl q
 have c1:ts.length=2:=by
  have:decide (V.int (ts.length:Int)=V.int 2)=true:=by simpa using c1
  have:=Jd this;lia
 match ts,c1 with
 |[a,b],_=>
  left;exact⟨a,rfl,tm a (by simp),?_⟩;left;have q:Z (.bl (Ca a&&Aj d b)) Γ:=q;exact AR (λc2=>?_) (λc2=>?_)
  ·rw[c2,Dj]at q
   left;exact Ψ2 b d ⟨rfl,dn,tm b (by simp),AH .refl q⟩
  ·rw[c2,Dq]at q
   exact AH .refl q
abbrev OQ:Stmt:=Bb 24
theorem yG:B6 ["thing","depth"] ["thing","depth"] (Am OQ):=⟨rfl,rfl,rfl,by decide +kernel,rfl,by decide +kernel,by decide +kernel⟩
def dt(n:Nat):B2:=λts Γ Z _=>∃(t:T) (d:Nat),ts=[t,.int d]∧d<n∧Pt Γ t∧Z (.bl (Ik (Aj d) t)) Γ
theorem HS(f:T→Bool)(ts:List T):Ik f (.tup ts)=(decide (1≤ts.length)&&decide (ts.length≤6)&&ts.all (EF f)&&decide (ts.map DB).Nodup):=rfl
theorem adk(F:eG K "are_fields" "are_fields" OQ f fd)(dR:mg "MOST_FIELDS" = some v1)(gE:Ef v1 (.int 6))(yN:Al P w K mg ap "is_field" (lv+2) ["thing","depth"] (dw n))(aj:mg "isinstance" = none)(aB:mg "tuple" = none)(aE:mg "len" = none)(fY:mg "all" = none):bJ P w K mg ap BK (lv+3) f fd ["thing","depth"] (B3 (dt n)):=by
 exact Bq F yG (λts Γ Z Y h=>?_) (λcO A outer s H E ts Γ Z Y hr h=>?_)
 ·let⟨t,d,rfl,_⟩:=h
  rfl
 let⟨t,d,rfl,dn,pt,q⟩:=h;exact⟨_,(A4 (AZ (PW.pt (BS (Bf (BL (D2 rfl aj rfl aB EJ (A0 0)))) (Ck (Bf (lG J4 J4 A5 (BE Co rfl aE Bl (A3 (A0 0) A6)) (Dv rfl dR gE)))))) (A4 (AQ CQ)
  A8) A8)
  (A4 (AZ (Bf (BL (BE (OL rfl) rfl fY O9 (A3 (Gs (own:=["field"]) (cap:=[(1,"depth")]) (kC rfl (by decide +kernel) (by decide +kernel) rfl (⟨rfl,trivial⟩) rfl (⟨⟨rfl,rfl,rfl⟩,trivial⟩)) rfl (Io (A0 0)) (λ_ _ _ _=>(F8 (i:=0) (show List.Nodup (["field","depth"]:List Str)from by decide +kernel) rfl (Or.inl rfl) (Or.inr rfl))) (λ_ _ _ _=>HB) (λ_ _ _ _=>(Ak yN hr (A3 (A0 0) (A3 (A0 1) A6))))) A6)))) (A4 (AQ CQ)
  A8) A8)
  (A4 (AQ (Ek Be (BE oQ rfl aE Bl (A3 (jD (own:=["name","inner"]) (cap:=[]) Gg rfl (Io (A0 0)) (λ_ _ _ _=>(GG (n:=2) rfl (Cj (F8 (i:=0) (show List.Nodup (["name","inner"]:List Str)from by decide +kernel) rfl (Or.inl rfl) (Or.inr rfl)) (Cj (F8 (i:=1) (show List.Nodup (["name","inner"]:List Str)from by decide +kernel) rfl (Or.inl rfl) (Or.inr rfl)) GH)))) (λ_ _ _ _=>(A0 0))) A6)) (BE Co rfl aE Bl (A3 (A0 0) A6))))
  A8))),?_⟩
 simp only[B5];left;exact Cw (G4 pt) ?_;left;exact AR (λc=>?_) (λc=>?_)
 ·left
  exact AH .refl ?_;cases t with
  |tup ts=>cases c
  |_=>exact q
 let⟨ts,rfl⟩:=Gi (t:=t) (by cases h:isTup t with|true=>rfl|false=>rw[h]at c;cases c);let⟨tl,tm⟩:=pt.items;have no:Ik (Aj d) (.tup ts)=false→De Z (.bl false) Γ:=λh=>by rw[h]at q;exact AH .refl q
 left;exact AR (λc1=>?_) (λc1=>?_);rotate_left
 ·have c1:=DO c1
  left;exact no ?_;rw[HS,BW (show ¬1≤ts.length by lia)];rfl
 have c1:=C5 c1;left;exact AR (λc2=>?_) (λc2=>?_)
 ·have c2:¬(ts.length:Int)≤6:=by simpa using c2
  left;exact no ?_;rw[HS,BW (show ¬ts.length≤6 by lia),Ga];rfl
 have c2:(ts.length:Int)≤6:=by simpa using c2
 rw[HS,BY (show 1≤ts.length by lia),BY (show ts.length≤6 by lia),Dj,Dj]at q;clear no;left;exact⟨DE (CM (by lia)),?_⟩;exact⟨λv4 τ ys Γ'=>∃(ds:List T) (o:Option T),ts=ds++v4∧τ=[o,some (.int d)]∧ys=(ds.map (EF (Aj d))).map T.bl∧Γ'=Γ,Ψ2 [] none ⟨rfl,rfl,rfl,rfl⟩,?_,?_⟩;rotate_left
 ·intro x r τ ys Γ'⟨ds,o,ez,rfl,rfl,rfl⟩
  exact⟨trivial,?_⟩;left;exact Ψ2 x d ⟨rfl,dn,tm x (by rw[ez];simp),?_⟩;exact Ψ2 (ds++[x]) _ ⟨by rw[ez];simp,rfl,by rw[B1,B1];rfl,rfl⟩
 intro τ ys Γ'⟨ds,o,ez,rfl,rfl,rfl⟩;rw[BV]at ez;subst ez;exact⟨trivial,?_⟩;intro p1 jr;generalize e1:up _ p1 (O.lst _)=Γ1;have g1:=AX e1;have l1:=AW e1 jr
 left;exact Ψ2 p1 _ ⟨rfl,BM g1,?_⟩;rw[show(ts.map (EF (Aj d))).all id=ts.all (EF (Aj d))by rw[List.all_map];rfl];left;exact AR (λc3=>?_) (λc3=>?_)
 ·have c3:ts.all (EF (Aj d))=false:=by simpa using c3
  left;rw[c3,Dq]at q;exact AH l1 q
 have c3:ts.all (EF (Aj d))=true:=by simpa using c3
 rw[c3,Dj]at q;have all:=aaS.mp c3;left;unfold Og;left;exact⟨by lia,?_⟩;exact⟨λv4 τ ys Γ'=>∃(ds:List T) (o0 o1:Option T),ts=ds++v4∧τ=[o0,o1]∧ys=ds.map DB∧Γ'=Γ1,Ψ3 [] none none ⟨rfl,rfl,rfl,rfl⟩,?_,?_⟩;rotate_left
 ·intro x r τ ys Γ'⟨ds,o0,o1,ez,rfl,rfl,rfl⟩
  let⟨z,b,rfl,_,_⟩:=TG (all x (by rw[ez];simp));exact⟨trivial,?_⟩;left;exact Ψ3 (ds++[.tup [.str z,b]]) _ _ ⟨by rw[ez];simp,rfl,by rw[B1];rfl,rfl⟩
 intro τ ys Γ'⟨ds,o0,o1,ez,rfl,rfl,rfl⟩;rw[BV]at ez;subst ez;exact⟨trivial,λD S n on hD=>?_⟩;left;exact Ψ3 D S n ⟨rfl,AP,?_⟩;left;have:decide (V.int (n:Int)=V.int (ts.length:Nat))=decide (ts.map DB).Nodup:=by
  have e:(V.int (n:Int)=V.int (ts.length:Nat)) ↔(ts.map DB).Nodup:=by
   rcases on.2 with⟨a,b⟩|⟨a,b⟩
   ·rw[Ae]at b
    exact⟨λ_=>a,λ_=>by rw[b]⟩
   ·rw[Ae]at b
    exact⟨λh=>by have:=V.int.inj h;lia,λh=>absurd h a⟩
  exact abZ.mpr e
 rw[this];exact AH (l1.trans (.new hD)) q
abbrev Q2:Stmt:=Bb 23
theorem fH:B6 ["thing","depth","head","inner"] ["thing","depth"] (Am Q2):=⟨rfl,rfl,rfl,by decide +kernel,rfl,by decide +kernel,by decide +kernel⟩
theorem abY(n:Nat):DX (.int (n:Int)) [.int 1,.int 2]=(decide (n=1)||decide (n=2)):=by
 rw[GV];simp[DX,Hm];lia
theorem abt(z:Str):DX (.str z) [.str "rec",.str "pick"]=(decide (z = "rec")||decide (z = "pick")):=by
 rw[show [V.str "rec",V.str "pick"]=(["rec","pick"]:List Str).map V.str from rfl,GY,GV];simp
theorem dG(h:ts.length≠1)(h':ts.length≠2):Aj d (.tup ts)=false:=by
 unfold Aj;split
 ·rename_i e;cases e;exact absurd rfl h
 ·rename_i e;cases e;exact absurd rfl h'
 ·rfl
theorem qL(h:isStr t=false):Aj d (.tup (t::ts))=false:=by
 unfold Aj;split
 ·rename_i e;cases e;cases h
 ·rename_i e;cases e;cases h
 ·rfl
theorem Om(h:isTup t=false):Aj d t=false:=by
 unfold Aj;split
 ·cases h
 ·cases h
 ·rfl
theorem eO(d:Nat)(h:Str):Aj (d+1) (.tup [.str h])=decide (h = "text"):=by rw[Aj]
theorem LI(d:Nat)(h:Str)(x:T):Aj (d+1) (.tup [.str h,x])=if h = "num" then OP x else if h = "row" then Aj d x else(decide (h = "rec")||decide (h = "pick"))&&Ik (Aj d) x:=by rw[Aj]
theorem yD(F:eG K "is_kind_within" "is_kind_within" Q2 f fd)(eQ:mg "WIDEST_NUM" = some v1)(ia:Ef v1 (.int 4))(mz:Al P w K mg ap "is_whole" 1 ["thing"] JF)(dE:Al P w K mg ap "is_kind_within" (lv+1) ["thing","depth"] (Mm n))(uL:Al P w K mg ap "are_fields" (lv+3) ["thing","depth"] (dt n))(aj:mg "isinstance" = none)(aB:mg "tuple" = none)(cR:mg "str" = none)(aE:mg "len" = none):bJ P w K mg ap BK (lv+4) f fd ["thing","depth"] (B3 (Mm (n+1))):=by
 exact Bq F fH (λts Γ Z Y h=>?_) (λcO A outer s H E ts Γ Z Y hr h=>?_)
 ·let⟨t,d,rfl,_⟩:=h
  rfl
 let⟨t,d,rfl,dn,pt,q⟩:=h;exact⟨_,(A4 (AZ (PW.pt (BS (AY FV (A0 1) A5) (BS (Bf (BL (D2 rfl aj rfl aB EJ (A0 0)))) (Ck (Ft KU (BE Co rfl aE Bl (A3 (A0 0) A6)) (C0 (A3 A5 (A3 A5 A6))) (by with_unfolding_all rfl)))))) (A4 (AQ CQ)
  A8) A8)
  (A4 (AL (i:=2) fH.nd (AD (A0 0) A5))
  (A4 (AZ (Bf (BL (D2 rfl aj rfl cR J5 (A0 2)))) (A4 (AQ CQ)
  A8) A8)
  (A4 (AZ (AY Be (BE Co rfl aE Bl (A3 (A0 0) A6)) A5) (A4 (AQ (Ek Be (A0 2) A9))
  A8) A8)
  (A4 (AL (i:=3) fH.nd (AD (A0 0) A5))
  (A4 (AZ (AY Be (A0 2) A9) (A4 (AQ (FT (Ak mz hr (A3 (A0 3) A6)) (Fz (vA J4 J4 A5 (A0 3) (Dv rfl eQ ia)))))
  A8) A8)
  (A4 (AZ (AY Be (A0 2) A9) (A4 (AQ (Ak dE hr (A3 (A0 3) (A3 (AA HC (A0 1) A5) A6))))
  A8) A8)
  (A4 (AQ (FT (LW QF (A0 2) (C0 (A3 A9 (A3 A9 A6))) (by with_unfolding_all rfl)) (Fz (Ak uL hr (A3 (A0 3) (A3 (AA HC (A0 1) A5) A6))))))
  A8)))))))),?_⟩
 simp only[B5];have no:Aj d t=false→De Z (.bl false) Γ:=λh=>by rw[h]at q;exact AH .refl q
 left;exact AR (λc=>?_) (λc=>?_)
 ·have c:=C5 c
  have:d=0:=by lia
  subst this;left;exact no (by unfold Aj;rfl)
 have c:=DO c;obtain⟨d,rfl⟩:∃e,d=e+1:=⟨d-1,by lia⟩;left;exact Cw (G4 pt) ?_;left;exact AR (λc=>?_) (λc=>?_)
 ·left
  exact no (Om (by simpa using c))
 let⟨ts,rfl⟩:=Gi (t:=t) (by simpa using c);let⟨tl,tm⟩:=pt.items;left;show if(!DX (.int (ts.length:Int)) [.int 1,.int 2])=true then _ else _
 rw[abY];exact AR (λc1=>?_) (λc1=>?_)
 ·left
  have c1:ts.length≠1∧ts.length≠2:=by simpa using c1
  exact no (dG c1.1 c1.2)
 have c1:ts.length=1∨ts.length=2:=by
  have:¬ts.length=1→ts.length=2:=by simpa using c1
  lia
 obtain⟨h,ys,rfl⟩:∃h ys,ts=h::ys:=by
  cases ts with
  |nil=>exact absurd c1 (by simp)
  |cons h ys=>exact Ψ2 h ys rfl
 left;exact Cw (in_str (tm h (by simp))) ?_;left;exact AR (λc2=>?_) (λc2=>?_)
 ·left
  exact no (qL (by simpa using c2))
 let⟨z,rfl⟩:=KH (t:=h) (by simpa using c2);clear no;left;match ys,c1 with
 |[],_=>
  left;rw[eO]at q;have e:decide (V.str z=V.str "text")=decide (z = "text"):=abZ.mpr ⟨V.str.inj,λe=>by rw[e]⟩;rw[e];exact AH .refl q
 |[x],_=>
  have px:=tm x (by simp);rw[LI]at q;left;exact AR (λc3=>?_) (λc3=>?_)
  ·rw[AM (Kr c3)]at q
   left;exact⟨x,rfl,px,?_⟩;left;exact AR (λc4=>?_) (λc4=>?_)
   ·let⟨i,rfl⟩:=Q7 c4
    left;have q:Z (.bl (decide (1≤i)&&decide (i≤4))) Γ:=q;exact AR (λc5=>?_) (λc5=>?_)
    ·rw[c5,Dj]at q
     left;exact AH .refl q
    ·rw[c5,Dq]at q
     exact AH .refl q
   ·have:OP x=false:=by
     cases x with
     |int i=>cases c4
     |_=>rfl
    rw[this]at q;exact AH .refl q
  rw[AE (KO c3)]at q;left;exact AR (λc4=>?_) (λc4=>?_)
  ·rw[AM (Kr c4)]at q
   left;exact Ψ2 x d ⟨by rw[show((d+1:Nat):Int)-1=(d:Int)by lia],by lia,px,AH .refl q⟩
  rw[AE (KO c4)]at q;left;show if DX (.str z) [.str "rec",.str "pick"]=true then _ else _
  rw[abt];exact AR (λc5=>?_) (λc5=>?_)
  ·rw[c5,Dj]at q
   left;exact Ψ2 x d ⟨by rw[show((d+1:Nat):Int)-1=(d:Int)by lia],by lia,px,AH .refl q⟩
  ·rw[c5,Dq]at q
   exact AH .refl q
abbrev bB:Stmt:=Bb 22
theorem ac3:B6 ["thing"] ["thing"] (Am bB):=⟨rfl,rfl,rfl,by decide +kernel,rfl,by decide +kernel,by decide +kernel⟩
def QD:B2:=λts Γ Z _=>∃t:T,ts=[t]∧Pt Γ t∧Z (.bl (Aj 5 t)) Γ
theorem wG(F:eG K "is_kind" "is_kind" bB f fd)(bF:mg "DEEPEST_KIND" = some v1)(cV:Ef v1 (.int 5))(dE:Al P w K mg ap "is_kind_within" 19 ["thing","depth"] (Mm 6)):bJ P w K mg ap BK 20 f fd ["thing"] (B3 QD):=by
 exact Bq F ac3 (λts Γ Z Y h=>?_) (λcO A outer s H E ts Γ Z Y hr h=>?_)
 ·let⟨t,rfl,_⟩:=h
  rfl
 let⟨t,rfl,pt,q⟩:=h;exact⟨_,(A4 (AQ (Ak dE hr (A3 (A0 0) (A3 (Dv rfl bF cV) A6))))
  A8),?_⟩
 simp only[B5];left;exact Ψ2 t 5 ⟨rfl,by decide,pt,AH .refl q⟩
end
abbrev gY:List Str:=["copy","give","lend","lease"]
def Hc:T→Bool
 |.int i=>decide (i=0)||decide (i=1)
 |_=>false
def Hp:T→Bool
 |.str z=>decide (z∈gY)
 |_=>false
def EI:T→Bool
 |.tup [a,b,c]=>Ca a&&(Hp b&&Aj 5 c)
 |_=>false
def Gp:T→Bool
 |.tup ts=>ts.all EI&&decide (ts.map DB).Nodup
 |_=>false
def IF:T→Bool
 |.non=>true
 |t=>Aj 5 t
def Dx:T→Bool
 |.tup [a,b,c,d]=>Ca a&&(Hc b&&(Gp c&&IF d))
 |_=>false
theorem oo(h:ts.length≠3):EI (.tup ts)=false:=by
 unfold EI;split
 ·rename_i e;cases e;exact absurd rfl h
 ·rfl
theorem rF(h:ts.length≠4):Dx (.tup ts)=false:=by
 unfold Dx;split
 ·rename_i e;cases e;exact absurd rfl h
 ·rfl
theorem cH(h:EI t=true):∃z b c,t=.tup [.str z,b,c]:=by
 unfold EI at h;split at h
 ·rename_i a b c
  rw[DN]at h;let⟨z,rfl⟩:=Kt h.1;exact Ψ3 z b c rfl
 ·cases h
theorem LQ(ts:List T):Gp (.tup ts)=(ts.all EI&&decide (ts.map DB).Nodup):=rfl
theorem aaa(i:Int):DX (.int i) [.int 0,.int 1]=Hc (.int i):=by
 show _=(decide (i=0)||decide (i=1))
 rw[GV];simp[DX,Hm];lia
section
variable {aS aW: Addr}
abbrev U1:Stmt:=Bb 30
theorem yB:B6 ["thing"] ["thing"] (Am U1):=⟨rfl,rfl,rfl,by decide +kernel,rfl,by decide +kernel,by decide +kernel⟩
def jC:B2:=λts Γ Z _=>∃t:T,ts=[t]∧Pt Γ t∧Z (.bl (Hc t)) Γ
theorem aad(F:eG K "is_side" "is_side" U1 f fd)(mz:Al P w K mg ap "is_whole" 1 ["thing"] JF)(ug:mg "SIDES" = some (.ref aS))(uo:yT K aS [.int 0,.int 1]):bJ P w K mg ap BK 2 f fd ["thing"] (B3 jC):=by
 have HV:Ef (.ref aS) (.ref aS):=GA;exact Bq F yB (λts Γ Z Y h=>?_) (λcO A outer s H E ts Γ Z Y hr h=>?_)
 ·let⟨t,rfl,_⟩:=h
  rfl
 let⟨t,rfl,pt,q⟩:=h;exact⟨_,(A4 (AQ (FT (Ak mz hr (A3 (A0 0) A6)) (Fz (LW (lF uo rfl) (A0 0) (Dv rfl ug HV) (by with_unfolding_all rfl)))))
  A8),?_⟩
 simp only[B5];left;exact⟨t,rfl,pt,?_⟩;left;exact AR (λc=>?_) (λc=>?_)
 ·let⟨i,rfl⟩:=Q7 c
  left;exact⟨_,rfl,rfl,rfl,?_⟩;rw[aaa];exact AH .refl q
 ·have:Hc t=false:=by
   cases t with
   |int i=>cases c
   |_=>rfl
  rw[this]at q;exact AH .refl q
abbrev Tu:Stmt:=Bb 32
theorem iP:B6 ["thing","name","way","kind"] ["thing"] (Am Tu):=⟨rfl,rfl,rfl,by decide +kernel,rfl,by decide +kernel,by decide +kernel⟩
def k7:B2:=λts Γ Z _=>∃t:T,ts=[t]∧Pt Γ t∧Z (.bl (EI t)) Γ
theorem y6(F:eG K "is_place" "is_place" Tu f fd)(jo:Al P w K mg ap "is_name" 1 ["thing"] IT)(jq:Al P w K mg ap "is_kind" 20 ["thing"] QD)(yh:mg "WAYS" = some (.ref aW))(yp:yT K aW (gY.map V.str))(aj:mg "isinstance" = none)(aB:mg "tuple" = none)(cR:mg "str" = none)(aE:mg "len" = none):bJ P w K mg ap BK 21 f fd ["thing"] (B3 k7):=by
 have MX:Ef (.ref aW) (.ref aW):=GA;exact Bq F iP (λts Γ Z Y h=>?_) (λcO A outer s H E ts Γ Z Y hr h=>?_)
 ·let⟨t,rfl,_⟩:=h
  rfl
 let⟨t,rfl,pt,q⟩:=h;exact⟨_,(A4 (AZ (PW.pt (BS (Bf (BL (D2 rfl aj rfl aB EJ (A0 0)))) (Ck (AY DS (BE Co rfl aE Bl (A3 (A0 0) A6)) A5)))) (A4 (AQ CQ)
  A8) A8)
  (A4 (GZ (A0 0) (GG (n:=3) rfl (Cj (Cs (i:=1) iP.nd) (Cj (Cs (i:=2) iP.nd) (Cj (Cs (i:=3) iP.nd) GH)))))
  (A4 (AQ (FT (Ak jo hr (A3 (A0 1) A6)) (FT (D2 rfl aj rfl cR J5 (A0 2)) (FT (LW (lF yp rfl) (A0 2) (Dv rfl yh MX) (by with_unfolding_all rfl)) (Fz (Ak jq hr (A3 (A0 3) A6)))))))
  A8))),?_⟩
 simp only[B5];left;exact Cw (G4 pt) ?_;left;exact AR (λc=>?_) (λc=>?_)
 ·left
  exact AH .refl ?_;cases t with
  |tup ts=>cases c
  |_=>exact q
 let⟨ts,rfl⟩:=Gi (t:=t) (by simpa using c);let⟨tl,tm⟩:=pt.items;left;exact AR (λc1=>?_) (λc1=>?_)
 ·have c1:ts.length≠3:=λe=>by rw[e]at c1;revert c1;decide
  left;rw[oo c1]at q;exact AH .refl q
 have c1:ts.length=3:=by
  have:decide (V.int (ts.length:Int)=V.int 3)=true:=by simpa using c1
  have:=Jd this;lia
 match ts,c1 with
 |[a,b,c],_=>
  have q:Z (.bl (Ca a&&(Hp b&&Aj 5 c))) Γ:=q;left;exact⟨a,rfl,tm a (by simp),?_⟩;left;exact AR (λc2=>?_) (λc2=>?_);rotate_left
  ·rw[c2,Dq]at q
   exact AH .refl q
  rw[c2,Dj]at q;left;exact Cw (in_str (tm b (by simp))) ?_;left;exact AR (λc3=>?_) (λc3=>?_);rotate_left
  ·have:Hp b=false:=by
    cases b with
    |str z=>cases c3
    |_=>rfl
   rw[this,Dq]at q;exact AH .refl q
  let⟨z,rfl⟩:=KH c3;left;exact⟨.str z,rfl,rfl,rfl,?_⟩;rw[GY];have q:Z (.bl (decide (z∈gY)&&Aj 5 c)) Γ:=q;left;exact AR (λc4=>?_) (λc4=>?_);rotate_left
  ·rw[c4,Dq]at q
   exact AH .refl q
  rw[c4,Dj]at q;left;exact⟨c,rfl,tm c (by simp),AH .refl q⟩
abbrev aT:Stmt:=Bb 31
theorem ya:B6 ["thing"] ["thing"] (Am aT):=⟨rfl,rfl,rfl,by decide +kernel,rfl,by decide +kernel,by decide +kernel⟩
def mr:B2:=λts Γ Z _=>∃t:T,ts=[t]∧Pt Γ t∧(∀us,t=.tup us→us.length≤999)∧Z (.bl (Gp t)) Γ
theorem aaY(F:eG K "are_places" "are_places" aT f fd)(yL:Al P w K mg ap "is_place" 21 ["thing"] k7)(aj:mg "isinstance" = none)(aB:mg "tuple" = none)(aE:mg "len" = none)(fY:mg "all" = none):bJ P w K mg ap BK 22 f fd ["thing"] (B3 mr):=by
 exact Bq F ya (λts Γ Z Y h=>?_) (λcO A outer s H E ts Γ Z Y hr h=>?_)
 ·let⟨t,rfl,_⟩:=h
  rfl
 let⟨t,rfl,pt,hl,q⟩:=h;exact⟨_,(A4 (AZ (PW.pt (BS (Bf (BL (D2 rfl aj rfl aB EJ (A0 0)))) (Ck (Bf (BL (BE (OL rfl) rfl fY O9 (A3 (Gs (own:=["place"]) (cap:=[]) Gg rfl (Io (A0 0)) (λ_ _ _ _=>Jm) (λ_ _ _ _=>HB) (λ_ _ _ _=>(Ak yL hr (A3 (A0 0) A6)))) A6))))))) (A4 (AQ CQ)
  A8) A8)
  (A4 (AQ (Ek Be (BE oQ rfl aE Bl (A3 (jD (own:=["name","way","kind"]) (cap:=[]) Gg rfl (Io (A0 0)) (λ_ _ _ _=>(GG (n:=3) rfl (Cj (F8 (i:=0) (show List.Nodup (["name","way","kind"]:List Str)from by decide +kernel) rfl (Or.inl rfl) (Or.inr rfl)) (Cj (F8 (i:=1) (show List.Nodup (["name","way","kind"]:List Str)from by decide +kernel) rfl (Or.inl rfl) (Or.inr rfl)) (Cj (F8 (i:=2) (show List.Nodup (["name","way","kind"]:List Str)from by decide +kernel) rfl (Or.inl rfl) (Or.inr rfl)) GH))))) (λ_ _ _ _=>(A0 0))) A6)) (BE Co rfl aE Bl (A3 (A0 0) A6))))
  A8)),?_⟩
 simp only[B5];left;exact Cw (G4 pt) ?_;left;exact AR (λc=>?_) (λc=>?_)
 ·left
  exact AH .refl ?_;cases t with
  |tup ts=>cases c
  |_=>exact q
 let⟨ts,rfl⟩:=Gi (t:=t) (by simpa using c);let⟨_,tm⟩:=pt.items;have tl:=hl ts rfl;rw[LQ]at q;left;exact⟨DE (CM (by lia)),?_⟩;exact⟨λv4 τ ys Γ'=>∃(ds:List T) (o:Option T),ts=ds++v4∧τ=[o]∧ys=(ds.map EI).map T.bl∧Γ'=Γ,Ψ2 [] none ⟨rfl,rfl,rfl,rfl⟩,?_,?_⟩;rotate_left
 ·intro x r τ ys Γ'⟨ds,o,ez,rfl,rfl,rfl⟩
  exact⟨trivial,?_⟩;left;exact⟨x,rfl,tm x (by rw[ez];simp),?_⟩;exact Ψ2 (ds++[x]) _ ⟨by rw[ez];simp,rfl,by rw[B1,B1];rfl,rfl⟩
 intro τ ys Γ'⟨ds,o,ez,rfl,rfl,rfl⟩;rw[BV]at ez;subst ez;exact⟨trivial,?_⟩;intro p1 jr;generalize e1:up _ p1 (O.lst _)=Γ1;have g1:=AX e1;have l1:=AW e1 jr
 left;exact Ψ2 p1 _ ⟨rfl,BM g1,?_⟩;rw[show(ts.map EI).all id=ts.all EI by rw[List.all_map];rfl];left;exact AR (λc3=>?_) (λc3=>?_)
 ·have c3:ts.all EI=false:=by simpa using c3
  left;rw[c3,Dq]at q;exact AH l1 q
 have c3:ts.all EI=true:=by simpa using c3
 rw[c3,Dj]at q;have all:=aaS.mp c3;left;unfold Og;left;exact⟨by lia,?_⟩;exact⟨λv4 τ ys Γ'=>∃(ds:List T) (o0 o1 o2:Option T),ts=ds++v4∧τ=[o0,o1,o2]∧ys=ds.map DB∧Γ'=Γ1,Ψ4 [] none none none ⟨rfl,rfl,rfl,rfl⟩,?_,?_⟩;rotate_left
 ·intro x r τ ys Γ'⟨ds,o0,o1,o2,ez,rfl,rfl,rfl⟩
  let⟨z,b,c,rfl⟩:=cH (all x (by rw[ez];simp));exact⟨trivial,?_⟩;left;exact Ψ4 (ds++[.tup [.str z,b,c]]) _ _ _ ⟨by rw[ez];simp,rfl,by rw[B1];rfl,rfl⟩
 intro τ ys Γ'⟨ds,o0,o1,o2,ez,rfl,rfl,rfl⟩;rw[BV]at ez;subst ez;exact⟨trivial,λD S n on hD=>?_⟩;left;exact Ψ3 D S n ⟨rfl,AP,?_⟩;left;have:decide (V.int (n:Int)=V.int (ts.length:Nat))=decide (ts.map DB).Nodup:=by
  have e:(V.int (n:Int)=V.int (ts.length:Nat)) ↔(ts.map DB).Nodup:=by
   rcases on.2 with⟨a,b⟩|⟨a,b⟩
   ·rw[Ae]at b
    exact⟨λ_=>a,λ_=>by rw[b]⟩
   ·rw[Ae]at b
    exact⟨λh=>by have:=V.int.inj h;lia,λh=>absurd h a⟩
  exact abZ.mpr e
 rw[this];exact AH (l1.trans (.new hD)) q
abbrev dS:Stmt:=Bb 29
theorem gI:B6 ["thing","name","side","places","result"] ["thing"] (Am dS):=⟨rfl,rfl,rfl,by decide +kernel,rfl,by decide +kernel,by decide +kernel⟩
def jV:B2:=λts Γ Z _=>∃t:T,ts=[t]∧Pt Γ t∧(∀x y us d,t=.tup [x,y,.tup us,d]→us.length≤999)∧Z (.bl (Dx t)) Γ
theorem zb(F:eG K "is_paper" "is_paper" dS f fd)(jo:Al P w K mg ap "is_name" 1 ["thing"] IT)(BD:Al P w K mg ap "is_side" 2 ["thing"] jC)(uK:Al P w K mg ap "are_places" 22 ["thing"] mr)(jq:Al P w K mg ap "is_kind" 20 ["thing"] QD)(aj:mg "isinstance" = none)(aB:mg "tuple" = none)(aE:mg "len" = none):bJ P w K mg ap BK 23 f fd ["thing"] (B3 jV):=by
 exact Bq F gI (λts Γ Z Y h=>?_) (λcO A outer s H E ts Γ Z Y hr h=>?_)
 ·let⟨t,rfl,_⟩:=h
  rfl
 let⟨t,rfl,pt,hl,q⟩:=h;exact⟨_,(A4 (AZ (PW.pt (BS (Bf (BL (D2 rfl aj rfl aB EJ (A0 0)))) (Ck (AY DS (BE Co rfl aE Bl (A3 (A0 0) A6)) A5)))) (A4 (AQ CQ)
  A8) A8)
  (A4 (GZ (A0 0) (GG (n:=4) rfl (Cj (Cs (i:=1) gI.nd) (Cj (Cs (i:=2) gI.nd) (Cj (Cs (i:=3) gI.nd) (Cj (Cs (i:=4) gI.nd) GH))))))
  (A4 (AZ (PW.pt (BS (Bf (BL (Ak jo hr (A3 (A0 1) A6)))) (BS (Bf (BL (Ak BD hr (A3 (A0 2) A6)))) (Ck (Bf (BL (Ak uK hr (A3 (A0 3) A6)))))))) (A4 (AQ CQ)
  A8) A8)
  (A4 (AQ (fV (Ek Jq (A0 4) E6) (Fz (Ak jq hr (A3 (A0 4) A6)))))
  A8)))),?_⟩
 simp only[B5];left;exact Cw (G4 pt) ?_;left;exact AR (λc=>?_) (λc=>?_)
 ·left
  exact AH .refl ?_;cases t with
  |tup ts=>cases c
  |_=>exact q
 let⟨ts,rfl⟩:=Gi (t:=t) (by simpa using c);let⟨tl,tm⟩:=pt.items;left;exact AR (λc1=>?_) (λc1=>?_)
 ·have c1:ts.length≠4:=λe=>by rw[e]at c1;revert c1;decide
  left;rw[rF c1]at q;exact AH .refl q
 have c1:ts.length=4:=by
  have:decide (V.int (ts.length:Int)=V.int 4)=true:=by simpa using c1
  have:=Jd this;lia
 match ts,c1 with
 |[a,b,c,d],_=>
  have q:Z (.bl (Ca a&&(Hc b&&(Gp c&&IF d)))) Γ:=q;left;exact⟨a,rfl,tm a (by simp),?_⟩;left;exact AR (λc2=>?_) (λc2=>?_)
  ·left
   rw[show Ca a=false by simpa using c2,Dq]at q;exact AH .refl q
  rw[show Ca a=true by simpa using c2,Dj]at q;left;exact⟨b,rfl,tm b (by simp),?_⟩;left;exact AR (λc3=>?_) (λc3=>?_)
  ·left
   rw[show Hc b=false by simpa using c3,Dq]at q;exact AH .refl q
  rw[show Hc b=true by simpa using c3,Dj]at q;left;exact⟨c,rfl,tm c (by simp),λus e=>hl a b us d (by rw[e]),?_⟩;left;exact AR (λc4=>?_) (λc4=>?_)
  ·left
   rw[show Gp c=false by simpa using c4,Dq]at q;exact AH .refl q
  rw[show Gp c=true by simpa using c4,Dj]at q;left;exact AR (λc5=>?_) (λc5=>?_)
  ·have:d=.non:=by
    cases d with
    |non=>rfl
    |_=>cases c5
   rw[this]at q;exact AH .refl q
  ·have:IF d=Aj 5 d:=by
    cases d with
    |non=>cases c5
    |_=>rfl
   rw[this]at q;left;exact⟨d,rfl,tm d (by simp),AH .refl q⟩
end
theorem DY(a b:List Nat):S a++S b=S (a++b):=by
 have:(S a++S b).cps=(S (a++b)).cps:=by rw[RZ];simp[S]
 cases h:S a++S b with
 |mk c=>rw[h]at this;cases h2:S (a++b)with|mk d=>rw[h2]at this;rw[show c=d from this]
theorem Ep(z:Str):S z.cps.toList=z:=by cases z;simp[S]
theorem ab2{l:List Nat}(h:z.cps.toList=l):z=S l:=by rw[←h,Ep]
theorem GS(l:List Nat):(S l).cps.toList=l:=by simp[S]
theorem vH:("num\x20" : Str)=S [110,117,109,32]:=by decide +kernel
theorem sW:("row\x20" : Str)=S [114,111,119,32]:=by decide +kernel
theorem Mc:("text" : Str)=S [116,101,120,116]:=by decide +kernel
theorem Ge:("\x20" : Str)=S [32]:=by decide +kernel
theorem aI:("(" : Str)=S [40]:=by decide +kernel
theorem JC:(")" : Str)=S [41]:=by decide +kernel
theorem Np:("\x20(" : Str)=S [32,40]:=by decide +kernel
theorem M4:(",\x20" : Str)=S [44,32]:=by decide +kernel
theorem sT:("rec" : Str)=S [114,101,99]:=by decide +kernel
theorem og:("pick" : Str)=S [112,105,99,107]:=by decide +kernel
theorem PV{i:Int}(h:0≤i):HT.jQ n d (some i)=min i.toNat n:=by
 show(if i<0 then _ else min i.toNat _)=_
 rw[AE (by lia)]
theorem Gk{α:Type}{xs:List α}{i j:Int}(h:0≤i)(h':0≤j):Ct xs (some i) (some j)=(xs.drop i.toNat).take (j.toNat-i.toNat):=by
 unfold Ct;rw[PV h,PV h'];by_cases c:i.toNat≤xs.length
 ·rw[ON c]
  by_cases c2:j.toNat≤xs.length
  ·rw[ON c2]
  ·rw[QU (by lia),NW (by rw[CH];lia),NW (by rw[CH];lia)]
 ·rw[QU (show xs.length≤i.toNat by lia),Mb,Wq (by lia),bo,bo]
def Ag(C dx:Addr)(p r:List Nat):O:=.ins C dx [("text",.str (S (p++r))),("at",.int (p.length:Nat))]
theorem aaF{u v:T}:Du "at" v [("text",t),("at",u)]=([("text",t),("at",v)]:List (Str×T)):=by
 unfold Du;rw[AE (by decide +kernel)];unfold Du;rw[AM rfl]
theorem u0{v:T}:Du "at" v (Du "text" t [])=([("text",t),("at",v)]:List (Str×T)):=by
 show Du "at" v [("text",t)]=([("text",t),("at",v)]:List (Str×T))
 unfold Du;rw[AE (by decide +kernel)];rfl
theorem VP{C:Addr}{p:List Nat}{n:Int}(h:n=((p++q).length:Nat)):O.ins C dx (Du "at" (.int n) [("text",.str (S (p++(q++r)))),("at",.int (p.length:Nat))])=Ag C dx (p++q) r:=by
 rw[aaF,h];unfold Ag;rw[BJ]
def Stop(r:List Nat):Prop:=r=[]∨∃c r',r=c::r'∧AB c=false
theorem wb(p r:List Nat):fromIndex (S (p++r)).length (p.length:Nat)=p.length:=by
 unfold fromIndex;rw[AE (by lia)];lia
theorem aai(p q r:List Nat):Builtin.Str.subAt (S (p++r)) (S q) p.length=decide (r.take q.length=q):=by
 unfold Builtin.Str.subAt;rw[Ad,GV,abl,F9,←ab3];have:((S (p++r)).cps.extract p.length (p.length+q.length)).toList=r.take q.length:=by
  rw[Array.toList_extract];show List.take _ (List.drop _ (S (p++r)).cps.toList)=_
  rw[GS,Ly,oO]
 rw[this,GS]
theorem sJ(p q r:List Nat):(decide (fromIndex (S (p++r)).length (p.length:Nat)+(S q).length≤(S (p++r)).length)&&Builtin.Str.subAt (S (p++r)) (S q) (fromIndex (S (p++r)).length (p.length:Nat)))=decide (r.take q.length=q):=by
 rw[wb,aai,Ad,Ad,GV,DN,F9,F9];exact⟨λh=>h.2,λh=>⟨?_,h⟩⟩;have:q.length≤r.length:=by
  have:=Ai List.length h;rw[Bi]at this;lia
 rw[AG];lia
theorem TT{p:List Nat}:B7 (S (p++(c::r))).cps.toList (p.length:Nat)=some c:=by
 rw[GS];exact Ey (by simp)
section
abbrev aC:Stmt:=mem 37 0
theorem abI:B6 ["self","text"] ["self","text"] (Am aC):=⟨rfl,rfl,rfl,by decide +kernel,rfl,by decide +kernel,by decide +kernel⟩
def UT(C:Addr):B2:=λts Γ Z _=>∃(x dx:Addr) (l:List Nat),ts=[.ref x,.str (S l)]∧Γ x=some (.ins C dx [])∧Z .non (up Γ x (Ag C dx [] l))
theorem aaJ(F:eG K "__init__" "Writing.__init__" aC f fd)(aD:rB K C)(aR:da K C "text")(aQ:da K C "at"):bJ P w K mg ap BK 1 f fd ["self","text"] (B3 (UT C)):=by
 exact Bq F abI (λts Γ Z Y h=>?_) (λcO A outer s H E ts Γ Z Y hr h=>?_)
 ·let⟨x,dx,l,rfl,_⟩:=h
  rfl
 let⟨x,dx,l,rfl,g,q⟩:=h;exact⟨_,(A4 (kz aD aR (A0 0) (A0 1))
  (A4 (kz aD aQ (A0 0) A5)
  A8)),?_⟩
 simp only[B5];left;rw[DM,u0];exact AH .refl q
abbrev Wj:Stmt:=mem 37 1
theorem ab4:B6 ["self"] ["self"] (Am Wj):=⟨rfl,rfl,rfl,by decide +kernel,rfl,by decide +kernel,by decide +kernel⟩
def R7(C:Addr):B2:=λts Γ Z _=>∃(a dx:Addr) (p r:List Nat),ts=[.ref a]∧Γ a=some (Ag C dx p r)∧(p++r).length≤sizeLine∧Z (.bl (decide (r=[]))) Γ
theorem ue(F:eG K "is_over" "Writing.is_over" Wj f fd)(aD:rB K C)(aR:da K C "text")(aQ:da K C "at")(aE:mg "len" = none):bJ P w K mg ap BK 1 f fd ["self"] (B3 (R7 C)):=by
 exact Bq F ab4 (λts Γ Z Y h=>?_) (λcO A outer s H E ts Γ Z Y hr h=>?_)
 ·let⟨a,dx,p,r,rfl,_⟩:=h
  rfl
 let⟨a,dx,p,r,rfl,g,l,q⟩:=h;exact⟨_,(A4 (AQ (Ek Be (FQ aD aQ (A0 0)) (BE Iq rfl aE Bl (A3 (FQ aD aR (A0 0)) A6))))
  A8),?_⟩
 simp only[B5];unfold Ag at g;left;exact⟨_,rfl,by rw[Ad];exact l,?_⟩;rw[Ad];left;have:decide (V.int (p.length:Nat)=V.int ((p++r).length:Nat))=decide (r=[]):=by
  exact abZ.mpr ⟨λh=>?_,λh=>by rw[h,BV]⟩;have:=V.int.inj h;rw[AG]at this;exact Kj (by lia)
 rw[this];exact AH .refl q
abbrev SR:Stmt:=mem 37 2
theorem jP:B6 ["self","piece","seen"] ["self","piece"] (Am SR):=⟨rfl,rfl,rfl,by decide +kernel,rfl,by decide +kernel,by decide +kernel⟩
def Kf(C:Addr):B2:=λts Γ Z _=>∃(a dx:Addr) (p q r:List Nat),ts=[.ref a,.str (S q)]∧Γ a=some (Ag C dx p r)∧(p++r).length≤sizeLine∧(∀r',r=q++r'→Z (.bl true) (up Γ a (Ag C dx (p++q) r')))∧(r.take q.length≠q→Z (.bl false) Γ)
theorem acF(F:eG K "sees" "Writing.sees" SR f fd)(aD:rB K C)(aR:da K C "text")(aQ:da K C "at")(aE:mg "len" = none):bJ P w K mg ap BK 1 f fd ["self","piece"] (B3 (Kf C)):=by
 exact Bq F jP (λts Γ Z Y h=>?_) (λcO A outer s H E ts Γ Z Y hr h=>?_)
 ·let⟨a,dx,p,q,r,rfl,_⟩:=h
  rfl
 let⟨a,dx,p,q,r,rfl,g,l,q1,q2⟩:=h;exact⟨_,(A4 (AL (i:=2) jP.nd (DT IJ PySem.F.slot_str_startswith PySem.F.type_str_startswith tx (FQ aD aR (A0 0)) (A3 (A0 1) (A3 (FQ aD aQ (A0 0)) A6))))
  (A4 (D9 (AZ (BL (A0 2)) (A4 (fD aD aQ (A0 0) (BE Iq rfl aE Bl (A3 (A0 1) A6)) fi)
  A8) A8))
  (A4 (AQ (A0 2))
  A8))),?_⟩
 simp only[B5];have g':=g;unfold Ag at g;left;exact Ψ3 _ _ _ ⟨rfl,rfl,?_⟩;rw[sJ];left;by_cases c:r.take q.length=q
 ·rw[BY c]
  obtain⟨r',rfl⟩:∃r',r=q++r':=⟨r.drop q.length,by conv=>lhs;rw[←Kx q.length r,c]⟩;exact Gj ?_;left;exact⟨_,rfl,by rw[Ad];rw[AG,AG]at l;lia,?_⟩;rw[Ad];left;rw[VP (by rw[AG];lia)];exact AH .refl (q1 r' rfl)
 ·rw[BW c]
  exact Gj ?_;left;exact AH .refl (q2 c)
abbrev Wn:Stmt:=mem 37 3
theorem sA:B6 ["self","piece"] ["self","piece"] (Am Wn):=⟨rfl,rfl,rfl,by decide +kernel,rfl,by decide +kernel,by decide +kernel⟩
def K2(C N:Addr):B2:=λts Γ Z Y=>∃(a dx:Addr) (p q r:List Nat),ts=[.ref a,.str (S q)]∧Γ a=some (Ag C dx p r)∧(p++r).length≤sizeLine∧(∀r',r=q++r'→Z .non (up Γ a (Ag C dx (p++q) r')))∧(r.take q.length≠q→Y (.ref N) Γ)
theorem zI(F:eG K "skip" "Writing.skip" Wn f fd)(bQ:Eh P w K mg ap C "sees" 1 ["self","piece"] (Kf C))(bT:mg "NoText" = some (.ref ax))(dA:W.excIn K ax [.type "ValueError",.type "Exception",.type "BaseException",.type "object"] "ValueError.__new__" = true):bJ P w K mg ap (DC P w) 2 f fd ["self","piece"] (B3 (K2 C ax)):=by
 exact Hz F sA (λts Γ Z Y h=>?_) (λcO A outer s H E ts Γ Z Y hr h=>?_)
 ·let⟨a,dx,p,q,r,rfl,_⟩:=h
  rfl
 let⟨a,dx,p,q,r,rfl,g,l,q1,q2⟩:=h;exact⟨_,(A4 (AZ (Bf (BL (NX bQ hr (by lia) (A0 0) (A3 (A0 1) A6)))) (A4 (Ke rfl rfl bT dA KJ (A3 A9 A6) LP)
  A8) A8)
  A8),?_⟩
 simp only[B5];have g':=g;unfold Ag at g;left;exact Ψ5 a dx p q r ⟨rfl,g',l,λr' e=>?_,λe=>?_⟩
 ·left
  exact AH .refl (q1 r' e)
 ·left
  exact⟨_,.refl,q2 e⟩
abbrev fb:Stmt:=mem 37 4
theorem jO:B6 ["self","begin"] ["self"] (Am fb):=⟨rfl,rfl,rfl,by decide +kernel,rfl,by decide +kernel,by decide +kernel⟩
theorem jW{a:Addr}(h:Γ a=some o):up Γ a o=Γ:=by
 funext b
 by_cases e:b=a
 ·subst e;rw[AP,h]
 ·rw[CB e]
theorem Wm(h:97≤c∧c≤122):AB c=true:=by
 rw[qj c (by lia)];simp[h.1,h.2]
def Kl(C:Addr):B2:=λts Γ Z _=>∃(a dx:Addr) (p ls r:List Nat),ts=[.ref a]∧Γ a=some (Ag C dx p (ls++r))∧(p++(ls++r)).length≤sizeLine∧(∀c∈ls,AB c=true)∧Stop r∧Z (.str (S ls)) (up Γ a (Ag C dx (p++ls) r))
theorem vk(F:eG K "word" "Writing.word" fb f fd)(aD:rB K C)(aR:da K C "text")(aQ:da K C "at")(ig:mg "LETTERS" = some v2)(oa:Ef v2 (.str yP))(aE:mg "len" = none):bJ P w K mg ap BK 1 f fd ["self"] (B3 (Kl C)):=by
 exact Bq F jO (λts Γ Z Y h=>?_) (λcO A outer s H E ts Γ Z Y hr h=>?_)
 ·let⟨a,dx,p,ls,r,rfl,_⟩:=h
  rfl
 let⟨a,dx,p,ls,r,rfl,g,l,lt,st,q⟩:=h;exact⟨_,(A4 (AL (i:=1) jO.nd (FQ aD aQ (A0 0)))
  (A4 (Lr G3 (PW.pt (GC (AY FV (FQ aD aQ (A0 0)) (BE Iq rfl aE Bl (A3 (FQ aD aR (A0 0)) A6))) (HJ (Ft Nz (KC (FQ aD aR (A0 0)) (FQ aD aQ (A0 0))) (Dv rfl ig oa) (by with_unfolding_all rfl))))) (A4 (fD aD aQ (A0 0) A5 fi)
  A8))
  (A4 (AQ (C3 L8 (FQ aD aR (A0 0)) (BQ (A0 1)) (BQ (FQ aD aQ (A0 0)))))
  A8))),?_⟩
 simp only[B5];have g':=g;unfold Ag at g;left;exact⟨λm τ Γ'=>∃l1 l2,ls=l1++l2∧m=l2.length∧τ=[some (.ref a),some (.int (p.length:Nat))]∧Γ'=up Γ a (Ag C dx (p++l1) (l2++r)),Ψ3 ls.length [] ls ⟨rfl,rfl,rfl,by rw[BV,jW g']⟩,?_⟩;intro m τ Γ'⟨l1,l2,rfl,rfl,rfl,rfl⟩;have g1:(up Γ a (Ag C dx (p++l1) (l2++r))) a=some (.ins C dx [("text",.str (S (p++l1++(l2++r)))),("at",.int ((p++l1).length:Nat))]):=AP;have tl:(S (p++l1++(l2++r))).length≤sizeLine:=by rw[Ad];simpa only[BJ]using l
 left;exact⟨_,rfl,tl,?_⟩;rw[Ad];left;cases l2 with
 |nil=>
  have fin:∀y:Str,y.cps.toList=Ct (S (p++l1++([]++r))).cps.toList (some ((p.length:Nat):Int)) (some (((p++l1).length:Nat):Int))→De Z (.str y) (up Γ a (Ag C dx (p++l1) ([]++r))):=λy hy=>by
   have:y=S l1:=ab2 (by
    rw[hy,GS,Gk (by lia) (by lia),Ju,Ju,BJ,Ly,AG,oO,List.take_left])
   rw[this,Gr];rw[BV]at q;exact AH .refl q
  rcases st with rfl|⟨c,r',rfl,hc⟩
  ·exact Bs (BW (by simp)) ?_
   left;exact⟨tl,fin⟩
  ·exact Bv (BY (by simp only[Gr,AG,Aw];lia)) ?_
   left;exact Ψ3 _ _ c ⟨rfl,rfl,tl,TT,?_⟩;exact Ψ2 _ _ ⟨rfl,rfl,?_⟩;show ∃k,T.bl (AB c)=.bl k∧_
   rw[hc];left;exact⟨tl,fin⟩
 |cons c l2=>
  have hc:AB c=true:=lt c (by simp);exact Bv (BY (by simp only[AG,Aw];lia)) ?_;left;exact Ψ3 _ _ c ⟨rfl,rfl,tl,TT,?_⟩;exact Ψ2 _ _ ⟨rfl,rfl,?_⟩;show ∃k,T.bl (AB c)=.bl k∧_
  rw[hc];left;exact⟨λτ Γ'=>τ=[some (.ref a),some (.int (p.length:Nat))]∧Γ'=up Γ a (Ag C dx (p++(l1++[c])) (l2++r)),?_,?_⟩
  ·intro τ Γ'⟨rfl,rfl⟩
   exact⟨l2.length,by simp,l1++[c],l2,by simp,rfl,rfl,rfl⟩
  left;exact⟨rfl,?_⟩;rw[DM];congr 1
  have:=VP (C:=C) (dx:=dx) (p:=p++l1) (q:=[c]) (r:=l2++r) (n:=((p++l1).length:Nat)+1) (by simp only[AG,Aw,Cu];lia);rw[BJ p l1 [c]]at this;exact this
abbrev Xa:Stmt:=mem 37 5
theorem vv:B6 ["self"] ["self"] (Am Xa):=⟨rfl,rfl,rfl,by decide +kernel,rfl,by decide +kernel,by decide +kernel⟩
abbrev Bp:Str := "0123456789"
theorem aaD:∀d:Nat,d<10→(!(Builtin.Str.occurrences Bp ⟨#[48+d]⟩ 0 Bp.length 1).isEmpty)=true:=by decide +kernel
theorem uh:∀d:Nat,d<10→PySem.intText? ⟨#[48+d]⟩=some (d:Int):=by decide +kernel
theorem yO:∀c:Nat,c<128→¬(48≤c∧c≤57)→(!(Builtin.Str.occurrences Bp ⟨#[c]⟩ 0 Bp.length 1).isEmpty)=false:=by decide +kernel
def O5(C N:Addr):B2:=λts Γ Z Y=>∃(a dx:Addr) (p r:List Nat),ts=[.ref a]∧Γ a=some (Ag C dx p r)∧(p++r).length≤sizeLine∧(∀c∈r,c<128)∧(∀d r',r=(48+d)::r'→d<10→Z (.int (d:Nat)) (up Γ a (Ag C dx (p++[48+d]) r')))∧((∀d r',r=(48+d)::r'→¬d<10)→Y (.ref N) Γ)
theorem vt(F:eG K "figure" "Writing.figure" Xa f fd)(di:Eh P w K mg ap C "is_over" 1 ["self"] (R7 C))(aD:rB K C)(aR:da K C "text")(aQ:da K C "at")(nW:mg "FIGURES" = some v2)(Bn:Ef v2 (.str Bp))(bT:mg "NoText" = some (.ref ax))(dA:W.excIn K ax [.type "ValueError",.type "Exception",.type "BaseException",.type "object"] "ValueError.__new__" = true)(eW:mg "int" = none):bJ P w K mg ap (DC P w) 2 f fd ["self"] (B3 (O5 C ax)):=by
 exact Hz F vv (λts Γ Z Y h=>?_) (λcO A outer s H E ts Γ Z Y hr h=>?_)
 ·let⟨a,dx,p,r,rfl,_⟩:=h
  rfl
 let⟨a,dx,p,r,rfl,g,l,asc,q,qE⟩:=h;exact⟨_,(A4 (AZ (PW.pt (BS (BL (JV di hr (by lia) (A0 0))) (Ck (Ft nQ (KC (FQ aD aR (A0 0)) (FQ aD aQ (A0 0))) (Dv rfl nW Bn) (by with_unfolding_all rfl))))) (A4 (Ke rfl rfl bT dA KJ (A3 A9 A6) LP)
  A8) A8)
  (A4 (fD aD aQ (A0 0) A5 fi)
  (A4 (AQ (Hb y9 rfl eW Jh (A3 (KC (FQ aD aR (A0 0)) (AA HC (FQ aD aQ (A0 0)) A5)) A6)))
  A8))),?_⟩
 simp only[B5];have g':=g;unfold Ag at g;have tl:(S (p++r)).length≤sizeLine:=by rw[Ad];exact l
 left;exact Ψ4 a dx p r ⟨rfl,g',l,?_⟩;cases r with
 |nil=>
  rw[BY rfl];left;exact⟨_,.refl,qE λd r' e=>by cases e⟩
 |cons c r=>
  rw[BW (by simp)];left;exact Ψ3 _ _ c ⟨rfl,rfl,tl,TT,?_⟩;exact Ψ2 _ _ ⟨rfl,rfl,?_⟩;by_cases hc:48≤c∧c≤57
  ·obtain⟨d,rfl⟩:∃d,c=48+d:=⟨c-48,by lia⟩
   have d10:d<10:=by lia
   rw[aaD d d10];left;have e:=VP (C:=C) (dx:=dx) (p:=p) (q:=[48+d]) (r:=r) (n:=(p.length:Nat)+1) (by simp only[AG,Aw,Cu];lia);have g1:(up Γ a (O.ins C dx (Du "at" (.int ((p.length:Nat)+1)) [("text",.str (S (p++((48+d)::r)))),("at",.int (p.length:Nat))]))) a=some (.ins C dx [("text",.str (S (p++[48+d]++r))),("at",.int ((p++[48+d]).length:Nat))]):=by
    rw[AP];exact Ai some e
   left;exact Ψ3 _ _ (48+d) ⟨rfl,rfl,by rw[Ad];simpa using l,?_,?_⟩
   ·rw[GS,show((p.length:Nat):Int)+1-1=((p.length:Nat):Int)by lia]
    exact Ey (by simp)
   exact Ψ2 _ d ⟨rfl,by show 1≤640;decide,uh d d10,?_⟩;exact AH .refl ?_;have e2:O.ins C dx (Du "at" (.int ((p.length:Nat)+1)) [("text",.str (S (p++((48+d)::r)))),("at",.int (p.length:Nat))])=Ag C dx (p++[48+d]) r:=e;rw[e2];exact q d r rfl d10
  ·rw[yO c (asc c (by simp)) hc]
   left;exact⟨_,.refl,qE λd r' e=>by cases e;lia⟩
end
abbrev Ci:=List Nat→Option (T×List Nat)
def pre(q r:List Nat):Option (List Nat):=if r.take q.length=q then some (r.drop q.length)else none
theorem E4(h:r=q++r'):pre q r=some r':=by
 subst h;unfold pre;rw[List.take_left,AM rfl,Ly]
theorem Er(h:r.take q.length≠q):pre q r=none:=AE h
theorem Bz(h:pre q r=some r'):r=q++r':=by
 unfold pre at h;split at h
 ·rename_i c
  cases h
  conv=>lhs;rw[←Kx q.length r,c]
 ·cases h
def F7:Ci
 |c::r=>if 48≤c∧c≤57 then some (.int ((c-48:Nat):Int),r)else none
 |[]=>none
theorem KL(c:Nat)(r:List Nat):F7 (c::r)=if 48≤c∧c≤57 then some (.int ((c-48:Nat):Int),r)else none:=rfl
theorem R9(h:d<10):F7 ((48+d)::r)=some (.int (d:Nat),r):=by
 rw[KL,AM ⟨by lia,by lia⟩,show 48+d-48=d by lia]
theorem iW(h:∀d r',r=(48+d)::r'→¬d<10):F7 r=none:=by
 cases r with
 |nil=>rfl
 |cons c r=>
  rw[KL];exact AE λk=>h (c-48) r (by rw[show 48+(c-48)=c by lia]) (by lia)
def CP(f:Ci):Ci:=λr=>(pre [32] (r.dropWhile AB)).bind λr1=>(f r1).bind λx=>some (.tup [.str (S (r.takeWhile AB)),x.1],x.2)
def BP(f:Ci):Nat→List Nat→Option (List T×List Nat)
 |0,_=>none
 |n+1,r=>match pre [41] r with
  |some r'=>some ([],r')
  |none=>(pre [44,32] r).bind λr1=>(f r1).bind λx=>(BP f n x.2).bind λy=>some (x.1::y.1,y.2)
abbrev cText:List Nat:=[116,101,120,116]
abbrev G9:List Nat:=[110,117,109]
abbrev FE:List Nat:=[114,111,119]
abbrev FO:List Nat:=[114,101,99]
abbrev Fq:List Nat:=[112,105,99,107]
def DD(f:Ci)(h r1:List Nat):Option (T×List Nat):=
 if h=cText then some (.tup [.str (S cText)],r1)
 else if h=G9 then(pre [32] r1).bind λr2=>(F7 r2).bind λx=>some (.tup [.str (S G9),x.1],x.2)
 else if h=FE then(pre [32] r1).bind λr2=>(f r2).bind λx=>some (.tup [.str (S FE),x.1],x.2)
 else if h=FO∨h=Fq then(pre [32] r1).bind λr2=>(pre [40] r2).bind λr3=>(CP f r3).bind λx=>(BP (CP f) (x.2.length+1) x.2).bind λy=>some (.tup [.str (S h),.tup (x.1::y.1)],y.2)
 else none
def B0:Nat→Ci
 |0=>λ_=>none
 |d+1=>λr=>DD (B0 d) (r.takeWhile AB) (r.dropWhile AB)
theorem Lu(r:List Nat):Stop (r.dropWhile AB):=by
 induction r with
 |nil=>exact .inl rfl
 |cons c r ih=>
  rw[List.dropWhile_cons];split
  ·exact ih
  ·rename_i h;exact .inr ⟨c,r,rfl,by simpa using h⟩
theorem Lx(r:List Nat):∀c∈r.takeWhile AB,AB c=true:=by
 induction r with
 |nil=>simp
 |cons c r ih=>
  rw[List.takeWhile_cons];split
  ·rename_i h
   intro x hx;rcases aam.mp hx with rfl|hx
   ·exact h
   ·exact ih x hx
  ·simp
theorem DG(r:List Nat):r.takeWhile AB++r.dropWhile AB=r:=List.takeWhile_append_dropWhile
theorem GR{a:List Nat}(h:S a=S b):a=b:=by
 have:=Ai (λz:Str=>z.cps.toList) h;simpa only[GS]using this
theorem Dk{l:List Nat}(e:z=S l)(n:h≠l):decide (V.str (S h)=V.str z)=false:=BW λk=>n (GR ((V.str.inj k).trans e))
theorem yF(z:Str):DX (.str z) [.str "num",.str "row",.str "rec",.str "pick"]=decide (z∈(["num","row","rec","pick"]:List Str)):=by
 rw[show [V.str "num",V.str "row",V.str "rec",V.str "pick"]=(["num","row","rec","pick"]:List Str).map V.str from rfl,GY]
theorem NO:("num" : Str)=S G9:=by decide +kernel
theorem M3:("row" : Str)=S FE:=by decide +kernel
section
def Wr(Γ:AS)(C dx a:Addr)(p r:List Nat):Prop:=Γ a=some (Ag C dx p r)∧(p++r).length≤100000∧∀c∈r,c<128
theorem Wr.l{C a:Addr}{p:List Nat}(h:Wr Γ C dx a p r):(p++r).length≤sizeLine:=Ce h.2.1 (by decide)
theorem Wr.to{C a:Addr}{p p':List Nat}(h:Wr Γ C dx a p r)(g:Γ' a=some (Ag C dx p' r'))(e:p'++r'=p++r)(s:∃q,r=q++r'):Wr Γ' C dx a p' r':=by
 let⟨q,e2⟩:=s;exact⟨g,by rw[e];exact h.2.1,λc hc=>h.2.2 c (by rw[e2];exact EH _ hc)⟩
def gR(C N:Addr)(f:Ci)(a:Addr)(Γ:AS)(Z:DI)(Y:Value→AS→Prop):Prop:=∃(dx:Addr) (p r:List Nat),Wr Γ C dx a p r∧(∀t p' r',f r=some (t,r')→p'++r'=p++r→Z t (up Γ a (Ag C dx p' r')))∧(f r=none→∀Γ',Kq [a] Γ Γ'→Y (.ref N) Γ')
def Ji(C N:Addr)(n:Nat):B2:=λts Γ Z Y=>∃(a:Addr) (d:Nat),ts=[.ref a,.int (d:Nat)]∧d<n∧gR C N (B0 d) a Γ Z Y
def fu(C N:Addr)(n:Nat):B2:=λts Γ Z Y=>∃(a:Addr) (d:Nat),ts=[.ref a,.int (d:Nat)]∧d<n∧gR C N (CP (B0 d)) a Γ Z Y
def Hj(f:Ci):Prop:=∀r t r',f r=some (t,r')→∃q,r=q++r'
theorem K7{f:Ci}(h:Hj f):Hj (CP f):=λr t r' e=>by
 unfold CP at e;cases e1:pre [32] (r.dropWhile AB)with
 |none=>rw[e1]at e;cases e
 |some r1=>
  rw[e1]at e;cases e2:f r1 with
  |none=>rw[AO,e2]at e;cases e
  |some x=>
   rw[AO,e2]at e;cases e;let⟨q,hq⟩:=h r1 x.1 x.2 e2;exact⟨r.takeWhile AB++[32]++q,by rw[BJ,BJ,←hq,←Bz e1,DG]⟩
theorem Nh{f:Ci}(h:Hj f):∀(n:Nat) (r:List Nat) (t:List T) (r':List Nat),BP f n r=some (t,r')→∃q,r=q++r'
 |0,r,t,r',e=>by cases e
 |n+1,r,t,r',e=>by
  rw[BP]at e;cases e0:pre [41] r with
  |some r1=>rw[e0]at e;cases e;exact⟨_,Bz e0⟩
  |none=>
   rw[e0]at e;cases e1:pre [44,32] r with
   |none=>rw[e1]at e;cases e
   |some r1=>
    simp only[e1,AO]at e;cases e2:f r1 with
    |none=>rw[e2]at e;cases e
    |some x=>
     rw[e2,AO]at e;cases e3:BP f n x.2 with
     |none=>rw[e3]at e;cases e
     |some y=>
      rw[e3]at e;cases e;let⟨q,hq⟩:=h r1 x.1 x.2 e2;let⟨q2,MD⟩:=Nh h n x.2 y.1 y.2 e3;exact⟨[44,32]++q++q2,by rw[BJ,BJ,←MD,←hq,←Bz e1]⟩
theorem R2:Hj F7:=λr t r' e=>by
 cases r with
 |nil=>cases e
 |cons c r=>
  rw[KL]at e;split at e
  ·cases e;exact⟨[c],rfl⟩
  ·cases e
theorem Js:∀d:Nat,Hj (B0 d)
  |0=>λr t r' e=>by cases e
  |d+1=>λr t r' e=>by
    have ih:=Js d;suffices hh:∃q,r.dropWhile AB=q++r' by
      let⟨q,hq⟩:=hh;exact⟨r.takeWhile AB++q,by rw[BJ,←hq,DG]⟩
    have e:DD (B0 d) (r.takeWhile AB) (r.dropWhile AB)=some (t,r'):=e;generalize r.takeWhile AB=h at e;generalize r.dropWhile AB=r1 at e;unfold DD at e;split at e
    · cases e;exact⟨[],rfl⟩
    all_goals
      cases e1:pre [32] r1 with
      |none=>simp[e1]at e
      |some r2=>
        rw[Bz e1];simp only[e1,AO]at e;first
          |(
             split at e
             · cases e2:F7 r2 with
               |none=>rw[e2]at e;cases e
               |some x=>
                 rw[e2]at e;cases e;let⟨q,hq⟩:=R2 _ _ _ e2;exact⟨[32]++q,by rw[BJ,←hq]⟩
             split at e
             · cases e2:B0 d r2 with
               |none=>rw[e2]at e;cases e
               |some x=>
                 rw[e2]at e;cases e;let⟨q,hq⟩:=ih _ _ _ e2;exact⟨[32]++q,by rw[BJ,←hq]⟩
             split at e
             · cases e3:pre [40] r2 with
               |none=>rw[e3]at e;cases e
               |some r3=>
                 simp only[e3,AO]at e;cases e4:CP (B0 d) r3 with
                 |none=>rw[e4]at e;cases e
                 |some x=>
                   rw[e4,AO]at e;cases e5:BP (CP (B0 d)) (x.2.length+1) x.2 with
                   |none=>rw[e5]at e;cases e
                   |some y=>
                     rw[e5]at e;cases e;let⟨q,hq⟩:=K7 ih _ _ _ e4;let⟨q2,MD⟩:=Nh (K7 ih) _ _ _ _ e5;exact⟨[32]++[40]++q++q2,by rw[BJ,BJ,BJ,←MD,←hq,←Bz e3]⟩
             · cases e)
end
section
theorem fw{a:Addr}:Kq [a] Γ (up Γ a o):=.set (by simp) _
abbrev Rc:Stmt:=Bb 39
theorem ow:B6 ["writing","depth","name"] ["writing","depth"] (Am Rc):=⟨rfl,rfl,rfl,by decide +kernel,rfl,by decide +kernel,by decide +kernel⟩
theorem aaL(F:eG K "field_in" "field_in" Rc f fd)(bH:Eh P w K mg ap C "word" 1 ["self"] (Kl C))(aM:GK P w K mg ap C "skip" 2 ["self","piece"] (K2 C ax))(eU:F3 P w K mg ap "kind_in" (lv+2) ["writing","depth"] (Ji C ax n)):bJ P w K mg ap (DC P w) (lv+3) f fd ["writing","depth"] (B3 (fu C ax n)):=by
 exact Hz F ow (λts Γ Z Y h=>?_) (λcO A outer s H E ts Γ Z Y hr h=>?_)
 ·let⟨a,d,rfl,_⟩:=h
  rfl
 let⟨a,d,rfl,dn,⟨dx,p,r,pH,q,qE⟩⟩:=h;exact⟨_,(A4 (AL (i:=2) ow.nd (JV bH hr (by lia) (A0 0)))
  (A4 (D8 (HZ aM hr (by lia) Dl (A0 0) (A3 A9 A6)))
  (A4 (AQ (C0 (A3 (A0 2) (A3 (FP eU hr Dl (A3 (A0 0) (A3 (A0 1) A6))) A6))))
  A8))),?_⟩
 simp only[B5];unfold KG;have g:=pH.1;have l:=pH.l;have asc:=pH.2.2;have g':=g;unfold Ag at g;left;exact Ψ5 a dx p (r.takeWhile AB) (r.dropWhile AB) ⟨rfl,by rw[DG];exact g',by rw[DG];exact l,Lx r,Lu r,?_⟩;have et:=DG r;have eF:CP (B0 d) r=(pre [32] (r.dropWhile AB)).bind λr1=>(B0 d r1).bind λx=>some (.tup [.str (S (r.takeWhile AB)),x.1],x.2):=rfl;generalize r.takeWhile AB=h at et eF ⊢;generalize r.dropWhile AB=r1 at et eF ⊢;have w1:Wr (up Γ a (Ag C dx (p++h) r1)) C dx a (p++h) r1:=pH.to AP (by rw[BJ,et]) ⟨h,et.symm⟩;have g1:(up Γ a (Ag C dx (p++h) r1)) a=some (.ins C dx [("text",.str (S (p++h++r1))),("at",.int ((p++h).length:Nat))]):=AP;left;exact Ψ5 a dx (p++h) [32] r1 ⟨by rw[Ge],w1.1,w1.l,λr2 e2=>?_,λe2=>⟨_,.refl,qE (by rw[eF,Er e2];rfl) _ fw⟩⟩;rw[DM];rw[E4 e2,AO]at eF;have w2:Wr (up Γ a (Ag C dx (p++h++[32]) r2)) C dx a (p++h++[32]) r2:=w1.to AP (by rw[e2,BJ (p++h)]) ⟨[32],e2⟩;left;exact Ψ2 a d ⟨rfl,dn,dx,_,r2,w2,λt p' r' ek ep=>?_,λek Γ' kq=>⟨_,.refl,qE (by rw[eF,ek];rfl) _ (fw.trans kq)⟩⟩;rw[DM];left;exact AH .refl (q _ p' r' (by rw[eF,ek];rfl) ?_);rw[ep,←et,e2];simp
abbrev QQ:Stmt:=Bb 38
theorem lS:B6 ["writing","depth","head","fields"] ["writing","depth"] (Am QQ):=⟨rfl,rfl,rfl,by decide +kernel,rfl,by decide +kernel,by decide +kernel⟩
theorem Pq:S h∈(["num","row","rec","pick"]:List Str)↔h=G9∨h=FE∨h=FO∨h=Fq:=by
 rw[NO,M3,sT,og];simp only[aam,Bx,D7];exact⟨λk=>by rcases k with k|k|k|k<;>simp[GR k],λk=>by rcases k with k|k|k|k<;>simp[k]⟩
theorem xS{f:Ci}(hT:h≠cText)(e:pre [32] r=none):DD f h r=none:=by
 unfold DD;rw[AE hT,e];simp only[Option.bind_none,ite_self]
theorem abv(F:eG K "kind_in" "kind_in" QQ f fd)(bH:Eh P w K mg ap C "word" 1 ["self"] (Kl C))(aM:GK P w K mg ap C "skip" 2 ["self","piece"] (K2 C ax))(bQ:Eh P w K mg ap C "sees" 1 ["self","piece"] (Kf C))(cQ:GK P w K mg ap C "figure" 2 ["self"] (O5 C ax))(eU:F3 P w K mg ap "kind_in" (lv+2) ["writing","depth"] (Ji C ax n))(qU:F3 P w K mg ap "field_in" (lv+3) ["writing","depth"] (fu C ax n))(bT:mg "NoText" = some (.ref ax))(dA:W.excIn K ax [.type "ValueError",.type "Exception",.type "BaseException",.type "object"] "ValueError.__new__" = true)(aB:mg "tuple" = none):bJ P w K mg ap (DC P w) (lv+4) f fd ["writing","depth"] (B3 (Ji C ax (n+1))):=by
 exact Hz F lS (λts Γ Z Y h=>?_) (λcO A outer s H E ts Γ Z Y hr h=>?_)
 ·let⟨a,d,rfl,_⟩:=h
  rfl
 let⟨a,d,rfl,dn,⟨dx,p,r,pH,q,qE⟩⟩:=h;exact⟨_,(A4 (AZ (AY FV (A0 1) A5) (A4 (Ke rfl rfl bT dA KJ (A3 A9 A6) LP)
  A8) A8)
  (A4 (AL (i:=2) lS.nd (JV bH hr (by lia) (A0 0)))
  (A4 (AZ (AY Be (A0 2) A9) (A4 (AQ (C0 (A3 A9 A6)))
  A8) A8)
  (A4 (AZ (Ft KU (A0 2) (C0 (A3 A9 (A3 A9 (A3 A9 (A3 A9 A6))))) (by with_unfolding_all rfl)) (A4 (Ke rfl rfl bT dA KJ (A3 A9 A6) LP)
  A8) A8)
  (A4 (D8 (HZ aM hr (by lia) Dl (A0 0) (A3 A9 A6)))
  (A4 (AZ (AY Be (A0 2) A9) (A4 (AQ (C0 (A3 A9 (A3 (iq cQ hr (by lia) Dl (A0 0)) A6))))
  A8) A8)
  (A4 (AZ (AY Be (A0 2) A9) (A4 (AQ (C0 (A3 A9 (A3 (FP eU hr Dl (A3 (A0 0) (A3 (AA HC (A0 1) A5) A6))) A6))))
  A8) A8)
  (A4 (D8 (HZ aM hr (by lia) Dl (A0 0) (A3 A9 A6)))
  (A4 (AL (i:=3) lS.nd (BN (A3 (FP qU hr Dl (A3 (A0 0) (A3 (AA HC (A0 1) A5) A6))) A6)))
  (A4 (Lr iR (Bf (BL (NX bQ hr (by lia) (A0 0) (A3 A9 A6)))) (A4 (D8 (HZ aM hr (by lia) Dl (A0 0) (A3 A9 A6)))
  (A4 (D8 (DT El Fn Fu Fc (A0 3) (A3 (FP qU hr Dl (A3 (A0 0) (A3 (AA HC (A0 1) A5) A6))) A6)))
  A8)))
  (A4 (AQ (C0 (A3 (A0 2) (A3 (Hb KN rfl aB EJ (A3 (A0 3) A6)) A6))))
  A8))))))))))),?_⟩
 simp only[B5];unfold KG;have g:=pH.1;have l:=pH.l;have g':=g;unfold Ag at g;left;cases d with
 |zero=>
  exact Bv (by decide) ?_;left;exact⟨_,.refl,qE rfl _ .refl⟩
 |succ d=>
 exact Bs (BW (by lia)) ?_;left;exact Ψ5 a dx p (r.takeWhile AB) (r.dropWhile AB) ⟨rfl,by rw[DG];exact g',by rw[DG];exact l,Lx r,Lu r,?_⟩;have et:=DG r;have eF:B0 (d+1) r=DD (B0 d) (r.takeWhile AB) (r.dropWhile AB):=rfl;generalize r.takeWhile AB=h at et eF ⊢;generalize r.dropWhile AB=r1 at et eF ⊢;have w1:Wr (up Γ a (Ag C dx (p++h) r1)) C dx a (p++h) r1:=pH.to AP (by rw[BJ,et]) ⟨h,et.symm⟩;have NI:p++h++r1=p++r:=by rw[BJ,et]
 have PD:Kq [a] Γ (up Γ a (Ag C dx (p++h) r1)):=fw;have Rb:∀o,up (up Γ a (Ag C dx (p++h) r1)) a o=up Γ a o:=λo=>DM;generalize up Γ a (Ag C dx (p++h) r1)=Γ1 at w1 PD Rb ⊢;have g1:=w1.1;unfold Ag at g1;generalize p++h=p1 at w1 NI g1;left;by_cases hT:h=cText
 ·subst hT
  exact Bv (by decide +kernel) ?_;left;rw[DD,AM rfl]at eF;exact AH .refl ?_;have:=q _ p1 r1 eF NI;rw[←Rb,jW w1.1]at this;rw[Mc];exact this
 exact Bs (Dk Mc hT) ?_;left;show if(!DX (.str (S h)) [.str "num",.str "row",.str "rec",.str "pick"])=true then _ else _
 rw[yF];by_cases h4:h=G9∨h=FE∨h=FO∨h=Fq
 rotate_left
 ·exact Bv (by rw[BW (λk=>h4 (Pq.mp k))];rfl) ?_
  left;exact⟨_,.refl,qE ?_ _ PD⟩;rw[eF];unfold DD;rw[AE hT,AE λe=>h4 (.inl e),AE λe=>h4 (.inr (.inl e)),AE λe=>h4 (.inr (.inr e))]
 exact Bs (by rw[BY (Pq.mpr h4)];rfl) ?_;left;exact Ψ5 a dx p1 [32] r1 ⟨by rw[Ge],w1.1,w1.l,λr2 e2=>?_,λe2=>⟨_,.refl,qE (by rw[eF];exact xS hT (Er e2)) _ PD⟩⟩;have w2:Wr (up Γ1 a (Ag C dx (p1++[32]) r2)) C dx a (p1++[32]) r2:=w1.to AP (by rw[e2,BJ]) ⟨[32],e2⟩;have F4:p1++[32]++r2=p++r:=by rw[←NI,e2,BJ]
 have yo:Kq [a] Γ (up Γ1 a (Ag C dx (p1++[32]) r2)):=PD.trans fw;have BX:∀o,up (up Γ1 a (Ag C dx (p1++[32]) r2)) a o=up Γ a o:=λo=>by rw[DM,Rb]
 have pr:=E4 e2;generalize up Γ1 a (Ag C dx (p1++[32]) r2)=Γ2 at w2 yo BX ⊢;generalize p1++[32]=p2 at w2 F4;have g2:=w2.1;unfold Ag at g2;left;by_cases hN:h=G9
 ·subst hN
  exact Bv (by decide +kernel) ?_;left;rw[DD,AE hT,AM rfl,pr,AO]at eF;exact Ψ4 a dx p2 r2 ⟨rfl,w2.1,w2.l,w2.2.2,λd' r' e d10=>?_,λno=>⟨_,.refl,qE (by rw[eF,iW no];rfl) _ yo⟩⟩;rw[BX];left;exact AH .refl ?_;rw[NO];exact q _ _ r' (by rw[eF,e,R9 d10];rfl) (by rw[←F4,e];simp)
 exact Bs (Dk NO hN) ?_;left;by_cases hR:h=FE
 ·subst hR
  exact Bv (by decide +kernel) ?_;left;rw[DD,AE hT,AE hN,AM rfl,pr,AO]at eF;exact Ψ2 a d ⟨by rw[show((d+1:Nat):Int)-1=(d:Int)by lia],by lia,dx,p2,r2,w2,λt p' r' ek ep=>?_,λek Γ' kq=>⟨_,.refl,qE (by rw[eF,ek];rfl) _ (yo.trans kq)⟩⟩;rw[BX];left;exact AH .refl ?_;rw[M3];exact q _ p' r' (by rw[eF,ek];rfl) (by rw[ep,F4])
 exact Bs (Dk M3 hR) ?_;have Yu:h=FO∨h=Fq:=by
  rcases h4 with e|e|e
  ·exact absurd e hN
  ·exact absurd e hR
  ·exact e
 rw[DD,AE hT,AE hN,AE hR,AM Yu,pr,AO]at eF;left;exact Ψ5 a dx p2 [40] r2 ⟨by rw[aI],w2.1,w2.l,λr3 e3=>?_,λe3=>⟨_,.refl,qE (by rw[eF,Er e3];rfl) _ yo⟩⟩;rw[E4 e3,AO]at eF;have w3:Wr (up Γ2 a (Ag C dx (p2++[40]) r3)) C dx a (p2++[40]) r3:=w2.to AP (by rw[e3,BJ]) ⟨[40],e3⟩;have JZ:p2++[40]++r3=p++r:=by rw[←F4,e3,BJ]
 rw[BX]at w3 ⊢;generalize p2++[40]=p3 at w3 JZ;left;exact Ψ2 a d ⟨by rw[show((d+1:Nat):Int)-1=(d:Int)by lia],by lia,dx,_,r3,w3,λt1 p4 r4 ek ep=>?_,λek Γ' kq=>⟨_,.refl,qE (by rw[eF,ek];rfl) _ (fw.trans kq)⟩⟩;rw[ek,AO]at eF;have Fh:p4++r4=p++r:=ep.trans JZ;let⟨q4,HL⟩:=K7 (Js d) _ _ _ ek;have w4:=w3.to (Γ':=up Γ a (Ag C dx p4 r4)) (p':=p4) (r':=r4) AP ep ⟨q4,HL⟩;rw[DM];left;intro pf oW;generalize ef:up _ pf (O.lst _)=Γf;have gf:=AX ef;have lf:=AW ef oW
 have nf:a≠pf:=CF AP oW;have bf:Γ pf=none:=by rw[CB nf.symm]at oW;exact oW
 have wf:Wr Γf C dx a p4 r4:=⟨lf _ _ w4.1,w4.2⟩;have Mr:Kq [a] Γ Γf:=fw.trans lf.kq;clear lf ef w4 w3 w2 w1 g1 g2 Rb BX PD yo;left;exact⟨λm τ Γ'=>∃(ts:List T) (p' r':List Nat),τ=[some (.ref a),some (.int ((d+1:Nat):Int)),some (.str (S h)),some (.ref pf)]∧Γ' pf=some (.lst ts)∧Wr Γ' C dx a p' r'∧p'++r'=p++r∧Kq [a] Γ Γ'∧r'.length<m∧ts.length+r'.length≤100001∧B0 (d+1) r=(BP (CP (B0 d)) m r').bind λy=>some (.tup [.str (S h),.tup (ts++y.1)],y.2),Ψ4 (r4.length+1) [t1] p4 r4 ⟨rfl,gf,wf,Fh,Mr,by lia,by have:=wf.2.1;rw[AG]at this;show 1+_≤_;lia,eF⟩,?_⟩;clear eF gf wf Mr Fh HL;intro m τ Γ'⟨ts,p',r',rfl,gf,w5,Fg,Bd,lm,lt,eF⟩;have g5:=w5.1;unfold Ag at g5;obtain⟨m,rfl⟩:∃j,m=j+1:=⟨m-1,by lia⟩;rw[BP]at eF;left;exact Ψ5 a dx p' [41] r' ⟨by rw[JC],w5.1,w5.l,λr6 e6=>?_,λe6=>?_⟩
 ·rw[E4 e6]at eF
  simp only[AO,BV]at eF;left;exact Ψ2 (.ref pf) _ ⟨rfl,BM (by rw[CB nf.symm];exact gf),?_⟩;left;exact mF (a:=a) (o:=Ag C dx (p'++[41]) r6) (Bd.trans fw) AP (q _ _ _ eF (by rw[←Fg,e6];simp))
 rw[Er e6]at eF;dsimp only at eF;left;exact⟨λτ Γ'=>∃(ts:List T) (p' r':List Nat),τ=[some (.ref a),some (.int ((d+1:Nat):Int)),some (.str (S h)),some (.ref pf)]∧Γ' pf=some (.lst ts)∧Wr Γ' C dx a p' r'∧p'++r'=p++r∧Kq [a] Γ Γ'∧r'.length<m∧ts.length+r'.length≤100001∧B0 (d+1) r=(BP (CP (B0 d)) m r').bind λy=>some (.tup [.str (S h),.tup (ts++y.1)],y.2),?_,?_⟩
 ·intro τ Γ2⟨ts,p',r',h1⟩
  exact⟨m,by lia,ts,p',r',h1⟩
 left;exact Ψ5 a dx p' [44,32] r' ⟨by rw[M4],w5.1,w5.l,λr6 e7=>?_,λe7=>⟨_,.refl,qE (by rw[eF,Er e7];rfl) _ Bd⟩⟩;rw[E4 e7,AO]at eF;have w6:Wr (up Γ' a (Ag C dx (p'++[44,32]) r6)) C dx a (p'++[44,32]) r6:=w5.to AP (by rw[e7,BJ]) ⟨[44,32],e7⟩;have F2:p'++[44,32]++r6=p++r:=by rw[←Fg,e7,BJ]
 have lr:r6.length+2=r'.length:=by rw[e7];simp
 generalize p'++[44,32]=p6 at w6 F2;left;exact EP (by rw[CB nf.symm];exact gf) ?_;left;exact Ψ2 a d ⟨by rw[show((d+1:Nat):Int)-1=(d:Int)by lia],by lia,dx,_,r6,w6,λt7 p7 r7 ek ep=>?_,λek Γ7 kq=>⟨_,.refl,qE (by rw[eF,ek];rfl) _ ((Bd.trans fw).trans kq)⟩⟩;rw[ek,AO]at eF;let⟨q7,P0⟩:=K7 (Js d) _ _ _ ek;have XB:r7.length≤r6.length:=by rw[P0,AG];lia
 rw[DM];have Ur:(up Γ' a (Ag C dx p7 r7)) pf=some (.lst ts):=by rw[CB nf.symm];exact gf
 exact Ψ3 pf _ _ ⟨rfl,rfl,Ur,by rw[E3];lia,?_⟩;left;exact Ψ3 (ts++[t7]) p7 r7 ⟨rfl,AP,?_,ep.trans F2,?_,by lia,by rw[AG];show _+1+_≤_;lia,?_⟩
 ·exact w6.to (by rw[CB nf];exact AP) ep ⟨q7,P0⟩
 ·intro b o nb hb
  have e:b≠pf:=CF hb bf;have e2:b≠a:=by simpa using nb
  rw[CB e,CB e2];exact Bd b o nb hb
 ·rw[eF]
  cases BP (CP (B0 d)) m r7 with
  |none=>rfl
  |some y=>simp
theorem kind_all(F:eG K "kind_in" "kind_in" QQ f fd)(m:mg "kind_in" = some (.ref f))(kp:W.keepIn K (.ref f)=true)(b:Binds K fd ["writing","depth"] []){f2:Addr}{M6:FuncData}(rg:eG K "field_in" "field_in" Rc f2 M6)(qm:mg "field_in" = some (.ref f2))(oI:W.keepIn K (.ref f2)=true)(qZ:Binds K M6 ["writing","depth"] [])
  (bH:Eh P w K mg ap C "word" 1 ["self"] (Kl C)) (aM:GK P w K mg ap C "skip" 2 ["self","piece"] (K2 C ax)) (bQ:Eh P w K mg ap C "sees" 1 ["self","piece"] (Kf C)) (cQ:GK P w K mg ap C "figure" 2 ["self"] (O5 C ax)) (bT:mg "NoText" = some (.ref ax)) (dA:W.excIn K ax [.type "ValueError",.type "Exception",.type "BaseException",.type "object"] "ValueError.__new__" = true) (aB:mg "tuple" = none) :
  ∀n:Nat,F3 P w K mg ap "kind_in" (n+n+2) ["writing","depth"] (Ji C ax n)
 |0=>Ψ2 f fd ⟨Kh λts Γ Z Y h=>by obtain⟨_,d,_,h,_⟩:=h;lia,m,kp,b⟩
 |n+1=>by
  have ih:=kind_all F m kp b rg qm oI qZ bH aM bQ cQ bT dA aB n;have D1:F3 P w K mg ap "field_in" (n+n+3) ["writing","depth"] (fu C ax n):=Ψ2 f2 M6 ⟨aaL rg bH aM ih,qm,oI,qZ⟩;exact Ψ2 f fd ⟨by rw[show n+1+(n+1)+2=n+n+4 by lia];exact abv F bH aM bQ cQ ih D1 bT dA aB,m,kp,b⟩
end
abbrev FK:List Nat:=[100,111,111,114,32]
abbrev Ea:List Nat:=[110,111,110,101]
theorem abB:("door\x20" : Str)=S FK:=by decide +kernel
theorem tC:("none" : Str)=S Ea:=by decide +kernel
def Bw:Ci:=λr=>(pre [32] (r.dropWhile AB)).bind λr1=>(pre [32] (r1.dropWhile AB)).bind λr2=>(B0 5 r2).bind λx=>some (.tup [.str (S (r.takeWhile AB)),.str (S (r1.takeWhile AB)),x.1],x.2)
def Dr:Ci:=λr=>match pre [41] r with
 |some r'=>some (.tup [],r')
 |none=>(Bw r).bind λx=>(BP Bw (x.2.length+1) x.2).bind λy=>some (.tup (x.1::y.1),y.2)
def Jl(nm:List Nat)(x y:T):Ci:=λr=>match pre Ea r with
 |some r'=>some (.tup [.str (S nm),x,y,.non],r')
 |none=>(B0 5 r).bind λz=>some (.tup [.str (S nm),x,y,z.1],z.2)
def E5:Ci:=λr=>(pre FK r).bind λr1=>(pre [32] (r1.dropWhile AB)).bind λr2=>(F7 r2).bind λx=>(pre [32,40] x.2).bind λr4=>(Dr r4).bind λy=>(pre [32] y.2).bind λr6=>Jl (r1.takeWhile AB) x.1 y.1 r6
theorem Jr:Hj Bw:=λr t r' e=>by
 unfold Bw at e;cases e1:pre [32] (r.dropWhile AB)with
 |none=>rw[e1]at e;cases e
 |some r1=>
  rw[e1,AO]at e;cases e2:pre [32] (r1.dropWhile AB)with
  |none=>rw[e2]at e;cases e
  |some r2=>
   rw[e2,AO]at e;cases e3:B0 5 r2 with
   |none=>rw[e3]at e;cases e
   |some x=>
    rw[e3]at e;cases e;let⟨q,hq⟩:=Js 5 _ _ _ e3;exact⟨r.takeWhile AB++([32]++(r1.takeWhile AB++([32]++q))),by simp only[BJ];rw[←hq,←Bz e2,DG,←Bz e1,DG]⟩
theorem pM:Hj Dr:=λr t r' e=>by
 unfold Dr at e;cases e1:pre [41] r with
 |some r1=>rw[e1]at e;cases e;exact⟨_,Bz e1⟩
 |none=>
  rw[e1]at e;dsimp only at e;cases e2:Bw r with
  |none=>rw[e2]at e;cases e
  |some x=>
   rw[e2,AO]at e;cases e3:BP Bw (x.2.length+1) x.2 with
   |none=>rw[e3]at e;cases e
   |some y=>
    rw[e3]at e;cases e;let⟨q,hq⟩:=Jr _ _ _ e2;let⟨q2,MD⟩:=Nh Jr _ _ _ _ e3;exact⟨q++q2,by rw[BJ,←MD,←hq]⟩
section
def Kp(C N:Addr)(g:Ci):B2:=λts Γ Z Y=>∃a:Addr,ts=[.ref a]∧gR C N g a Γ Z Y
abbrev aA:Stmt:=Bb 42
theorem kh:B6 ["writing","name","way"] ["writing"] (Am aA):=⟨rfl,rfl,rfl,by decide +kernel,rfl,by decide +kernel,by decide +kernel⟩
theorem sy(F:eG K "place_in" "place_in" aA f fd)(bH:Eh P w K mg ap C "word" 1 ["self"] (Kl C))(aM:GK P w K mg ap C "skip" 2 ["self","piece"] (K2 C ax))(eU:F3 P w K mg ap "kind_in" 14 ["writing","depth"] (Ji C ax 6))(bF:mg "DEEPEST_KIND" = some v1)(cV:Ef v1 (.int 5)):bJ P w K mg ap (DC P w) 15 f fd ["writing"] (B3 (Kp C ax Bw)):=by
 exact Hz F kh (λts Γ Z Y h=>?_) (λcO A outer s H E ts Γ Z Y hr h=>?_)
 ·let⟨a,rfl,_⟩:=h
  rfl
 let⟨a,rfl,⟨dx,p,r,pH,q,qE⟩⟩:=h;exact⟨_,(A4 (AL (i:=1) kh.nd (JV bH hr (by lia) (A0 0)))
  (A4 (D8 (HZ aM hr (by lia) Dl (A0 0) (A3 A9 A6)))
  (A4 (AL (i:=2) kh.nd (JV bH hr (by lia) (A0 0)))
  (A4 (D8 (HZ aM hr (by lia) Dl (A0 0) (A3 A9 A6)))
  (A4 (AQ (C0 (A3 (A0 1) (A3 (A0 2) (A3 (FP eU hr Dl (A3 (A0 0) (A3 (Dv rfl bF cV) A6))) A6)))))
  A8))))),?_⟩
 simp only[B5];unfold KG;have g:=pH.1;have g':=g;unfold Ag at g;left;exact Ψ5 a dx p (r.takeWhile AB) (r.dropWhile AB) ⟨rfl,by rw[DG];exact g',by rw[DG];exact pH.l,Lx r,Lu r,?_⟩;have et:=DG r;have eF:Bw r=(pre [32] (r.dropWhile AB)).bind λr1=>(pre [32] (r1.dropWhile AB)).bind λr2=>(B0 5 r2).bind λx=>some (.tup [.str (S (r.takeWhile AB)),.str (S (r1.takeWhile AB)),x.1],x.2):=rfl;generalize r.takeWhile AB=h at et eF ⊢;generalize r.dropWhile AB=r1 at et eF ⊢;have w1:Wr (up Γ a (Ag C dx (p++h) r1)) C dx a (p++h) r1:=pH.to AP (by rw[BJ,et]) ⟨h,et.symm⟩;have g1:(up Γ a (Ag C dx (p++h) r1)) a=some (.ins C dx [("text",.str (S (p++h++r1))),("at",.int ((p++h).length:Nat))]):=AP;left;exact Ψ5 a dx (p++h) [32] r1 ⟨by rw[Ge],w1.1,w1.l,λr2 e2=>?_,λe2=>⟨_,.refl,qE (by rw[eF,Er e2];rfl) _ fw⟩⟩;rw[DM];rw[E4 e2,AO]at eF;have w2:Wr (up Γ a (Ag C dx (p++h++[32]) r2)) C dx a (p++h++[32]) r2:=w1.to AP (by rw[e2,BJ (p++h)]) ⟨[32],e2⟩;have F4:p++h++[32]++r2=p++r:=by rw[←et,e2];simp
 generalize p++h++[32]=p2 at w2 F4 ⊢;have g2:=w2.1;unfold Ag at g2;left;exact Ψ5 a dx p2 (r2.takeWhile AB) (r2.dropWhile AB) ⟨rfl,by rw[DG];exact w2.1,by rw[DG];exact w2.l,Lx r2,Lu r2,?_⟩;have Qo:=DG r2;generalize r2.takeWhile AB=h3 at Qo eF ⊢;generalize r2.dropWhile AB=r3 at Qo eF ⊢;rw[DM];have w3:Wr (up Γ a (Ag C dx (p2++h3) r3)) C dx a (p2++h3) r3:=w2.to AP (by rw[BJ,Qo]) ⟨h3,Qo.symm⟩;have g3:=w3.1;unfold Ag at g3;left;exact Ψ5 a dx (p2++h3) [32] r3 ⟨by rw[Ge],w3.1,w3.l,λr4 e4=>?_,λe4=>⟨_,.refl,qE (by rw[eF,Er e4];rfl) _ fw⟩⟩;rw[DM];rw[E4 e4,AO]at eF;have w4:Wr (up Γ a (Ag C dx (p2++h3++[32]) r4)) C dx a (p2++h3++[32]) r4:=w3.to AP (by rw[e4,BJ (p2++h3)]) ⟨[32],e4⟩;have Fh:p2++h3++[32]++r4=p++r:=by rw[←F4,←Qo,e4];simp
 left;exact Ψ2 a 5 ⟨rfl,by lia,dx,_,r4,w4,λt p' r' ek ep=>?_,λek Γ' kq=>⟨_,.refl,qE (by rw[eF,ek];rfl) _ (fw.trans kq)⟩⟩;rw[DM];left;exact AH .refl (q _ p' r' (by rw[eF,ek];rfl) (ep.trans Fh))
abbrev XK:Stmt:=Bb 41
theorem mR:B6 ["writing","places"] ["writing"] (Am XK):=⟨rfl,rfl,rfl,by decide +kernel,rfl,by decide +kernel,by decide +kernel⟩
theorem abu(F:eG K "places_in" "places_in" XK f fd)(aM:GK P w K mg ap C "skip" 2 ["self","piece"] (K2 C ax))(bQ:Eh P w K mg ap C "sees" 1 ["self","piece"] (Kf C))(qR:F3 P w K mg ap "place_in" 15 ["writing"] (Kp C ax Bw))(aB:mg "tuple" = none):bJ P w K mg ap (DC P w) 16 f fd ["writing"] (B3 (Kp C ax Dr)):=by
 exact Hz F mR (λts Γ Z Y h=>?_) (λcO A outer s H E ts Γ Z Y hr h=>?_)
 ·let⟨a,rfl,_⟩:=h
  rfl
 let⟨a,rfl,⟨dx,p,r,pH,q,qE⟩⟩:=h;exact⟨_,(A4 (AZ (BL (NX bQ hr (by lia) (A0 0) (A3 A9 A6))) (A4 (AQ (C0 A6))
  A8) A8)
  (A4 (AL (i:=1) mR.nd (BN (A3 (FP qR hr Dl (A3 (A0 0) A6)) A6)))
  (A4 (Lr iR (Bf (BL (NX bQ hr (by lia) (A0 0) (A3 A9 A6)))) (A4 (D8 (HZ aM hr (by lia) Dl (A0 0) (A3 A9 A6)))
  (A4 (D8 (DT El Fn Fu Fc (A0 1) (A3 (FP qR hr Dl (A3 (A0 0) A6)) A6)))
  A8)))
  (A4 (AQ (Hb KN rfl aB EJ (A3 (A0 1) A6)))
  A8)))),?_⟩
 simp only[B5];unfold KG;have g:=pH.1;unfold Ag at g;left;exact Ψ5 a dx p [41] r ⟨by rw[JC],pH.1,pH.l,λr1 e1=>?_,λe1=>?_⟩
 ·left
  exact AH .refl (q _ _ r1 (by unfold Dr;rw[E4 e1]) (by rw[e1];simp))
 have eF:Dr r=(Bw r).bind λx=>(BP Bw (x.2.length+1) x.2).bind λy=>some (.tup (x.1::y.1),y.2):=by unfold Dr;rw[Er e1]
 left;exact⟨a,rfl,dx,p,r,pH,λt1 p4 r4 ek Fh=>?_,λek Γ' kq=>⟨_,.refl,qE (by rw[eF,ek];rfl) _ kq⟩⟩;rw[ek,AO]at eF;let⟨q4,HL⟩:=Jr _ _ _ ek;have w4:=pH.to (Γ':=up Γ a (Ag C dx p4 r4)) (p':=p4) (r':=r4) AP Fh ⟨q4,HL⟩;left;intro pf oW;generalize ef:up _ pf (O.lst _)=Γf;have gf:=AX ef;have lf:=AW ef oW
 have nf:a≠pf:=CF AP oW;have bf:Γ pf=none:=by rw[CB nf.symm]at oW;exact oW
 have wf:Wr Γf C dx a p4 r4:=⟨lf _ _ w4.1,w4.2⟩;have Mr:Kq [a] Γ Γf:=fw.trans lf.kq;clear lf ef w4;left;exact⟨λm τ Γ'=>∃(ts:List T) (p' r':List Nat),τ=[some (.ref a),some (.ref pf)]∧Γ' pf=some (.lst ts)∧Wr Γ' C dx a p' r'∧p'++r'=p++r∧Kq [a] Γ Γ'∧r'.length<m∧ts.length+r'.length≤100001∧Dr r=(BP Bw m r').bind λy=>some (.tup (ts++y.1),y.2),Ψ4 (r4.length+1) [t1] p4 r4 ⟨rfl,gf,wf,Fh,Mr,by lia,by have:=wf.2.1;rw[AG]at this;show 1+_≤_;lia,eF⟩,?_⟩;clear eF gf wf Mr Fh HL;intro m τ Γ'⟨ts,p',r',rfl,gf,w5,Fg,Bd,lm,lt,eF⟩;have g5:=w5.1;unfold Ag at g5;obtain⟨m,rfl⟩:∃j,m=j+1:=⟨m-1,by lia⟩;rw[BP]at eF;left;exact Ψ5 a dx p' [41] r' ⟨by rw[JC],w5.1,w5.l,λr6 e6=>?_,λe6=>?_⟩
 ·rw[E4 e6]at eF
  simp only[AO,BV]at eF;left;exact Ψ2 (.ref pf) _ ⟨rfl,BM (by rw[CB nf.symm];exact gf),?_⟩;left;exact mF (a:=a) (o:=Ag C dx (p'++[41]) r6) (Bd.trans fw) AP (q _ _ _ eF (by rw[←Fg,e6];simp))
 rw[Er e6]at eF;dsimp only at eF;left;exact⟨λτ Γ'=>∃(ts:List T) (p' r':List Nat),τ=[some (.ref a),some (.ref pf)]∧Γ' pf=some (.lst ts)∧Wr Γ' C dx a p' r'∧p'++r'=p++r∧Kq [a] Γ Γ'∧r'.length<m∧ts.length+r'.length≤100001∧Dr r=(BP Bw m r').bind λy=>some (.tup (ts++y.1),y.2),?_,?_⟩
 ·intro τ Γ2⟨ts,p',r',h1⟩
  exact⟨m,by lia,ts,p',r',h1⟩
 left;exact Ψ5 a dx p' [44,32] r' ⟨by rw[M4],w5.1,w5.l,λr6 e7=>?_,λe7=>⟨_,.refl,qE (by rw[eF,Er e7];rfl) _ Bd⟩⟩;rw[E4 e7,AO]at eF;have w6:Wr (up Γ' a (Ag C dx (p'++[44,32]) r6)) C dx a (p'++[44,32]) r6:=w5.to AP (by rw[e7,BJ]) ⟨[44,32],e7⟩;have F2:p'++[44,32]++r6=p++r:=by rw[←Fg,e7,BJ]
 have lr:r6.length+2=r'.length:=by rw[e7];simp
 generalize p'++[44,32]=p6 at w6 F2;left;exact EP (by rw[CB nf.symm];exact gf) ?_;left;exact⟨a,rfl,dx,_,r6,w6,λt7 p7 r7 ek ep=>?_,λek Γ7 kq=>⟨_,.refl,qE (by rw[eF,ek];rfl) _ ((Bd.trans fw).trans kq)⟩⟩;rw[ek,AO]at eF;let⟨q7,P0⟩:=Jr _ _ _ ek;have XB:r7.length≤r6.length:=by rw[P0,AG];lia
 rw[DM];have Ur:(up Γ' a (Ag C dx p7 r7)) pf=some (.lst ts):=by rw[CB nf.symm];exact gf
 exact Ψ3 pf _ _ ⟨rfl,rfl,Ur,by rw[E3];lia,?_⟩;left;exact Ψ3 (ts++[t7]) p7 r7 ⟨rfl,AP,?_,ep.trans F2,?_,by lia,by rw[AG];show _+1+_≤_;lia,?_⟩
 ·exact w6.to (by rw[CB nf];exact AP) ep ⟨q7,P0⟩
 ·intro b o nb hb
  have e:b≠pf:=CF hb bf;have e2:b≠a:=by simpa using nb
  rw[CB e,CB e2];exact Bd b o nb hb
 ·rw[eF]
  cases BP Bw m r7 with
  |none=>rfl
  |some y=>simp
abbrev cg:Stmt:=Bb 40
theorem gH:B6 ["writing","name","side","places","result"] ["writing"] (Am cg):=⟨rfl,rfl,rfl,by decide +kernel,rfl,by decide +kernel,by decide +kernel⟩
theorem abF(F:eG K "paper_in" "paper_in" cg f fd)(bH:Eh P w K mg ap C "word" 1 ["self"] (Kl C))(aM:GK P w K mg ap C "skip" 2 ["self","piece"] (K2 C ax))(bQ:Eh P w K mg ap C "sees" 1 ["self","piece"] (Kf C))(cQ:GK P w K mg ap C "figure" 2 ["self"] (O5 C ax))(wg:F3 P w K mg ap "places_in" 16 ["writing"] (Kp C ax Dr))(eU:F3 P w K mg ap "kind_in" 14 ["writing","depth"] (Ji C ax 6))(bF:mg "DEEPEST_KIND" = some v1)(cV:Ef v1 (.int 5)):bJ P w K mg ap (DC P w) 17 f fd ["writing"] (B3 (Kp C ax E5)):=by
 exact Hz F gH (λts Γ Z Y h=>?_) (λcO A outer s H E ts Γ Z Y hr h=>?_)
 ·let⟨a,rfl,_⟩:=h
  rfl
 let⟨a,rfl,⟨dx,p,r,pH,q,qE⟩⟩:=h;exact⟨_,(A4 (D8 (HZ aM hr (by lia) Dl (A0 0) (A3 A9 A6)))
  (A4 (AL (i:=1) gH.nd (JV bH hr (by lia) (A0 0)))
  (A4 (D8 (HZ aM hr (by lia) Dl (A0 0) (A3 A9 A6)))
  (A4 (AL (i:=2) gH.nd (iq cQ hr (by lia) Dl (A0 0)))
  (A4 (D8 (HZ aM hr (by lia) Dl (A0 0) (A3 A9 A6)))
  (A4 (AL (i:=3) gH.nd (FP wg hr Dl (A3 (A0 0) A6)))
  (A4 (D8 (HZ aM hr (by lia) Dl (A0 0) (A3 A9 A6)))
  (A4 (AL (i:=4) gH.nd (ua (BL (NX bQ hr (by lia) (A0 0) (A3 A9 A6))) E6 (FP eU hr Dl (A3 (A0 0) (A3 (Dv rfl bF cV) A6)))))
  (A4 (AQ (C0 (A3 (A0 1) (A3 (A0 2) (A3 (A0 3) (A3 (A0 4) A6))))))
  A8))))))))),?_⟩
 simp only[B5];unfold KG;have g:=pH.1;unfold Ag at g;left;exact Ψ5 a dx p FK r ⟨by rw[abB],pH.1,pH.l,λr1 e1=>?_,λe1=>⟨_,.refl,qE (by unfold E5;rw[Er e1];rfl) _ .refl⟩⟩;have w1:Wr (up Γ a (Ag C dx (p++FK) r1)) C dx a (p++FK) r1:=pH.to AP (by rw[e1,BJ]) ⟨FK,e1⟩;have NI:p++FK++r1=p++r:=by rw[e1,BJ]
 have eF:E5 r=(pre [32] (r1.dropWhile AB)).bind λr2=>(F7 r2).bind λx=>(pre [32,40] x.2).bind λr4=>(Dr r4).bind λy=>(pre [32] y.2).bind λr6=>Jl (r1.takeWhile AB) x.1 y.1 r6:=by unfold E5;rw[E4 e1];rfl
 generalize p++FK=p1 at w1 NI ⊢;have g1:=w1.1;unfold Ag at g1;left;exact Ψ5 a dx p1 (r1.takeWhile AB) (r1.dropWhile AB) ⟨rfl,by rw[DG];exact w1.1,by rw[DG];exact w1.l,Lx r1,Lu r1,?_⟩;have et:=DG r1;generalize r1.takeWhile AB=nm at et eF ⊢;generalize r1.dropWhile AB=r2 at et eF ⊢;rw[DM];have w2:Wr (up Γ a (Ag C dx (p1++nm) r2)) C dx a (p1++nm) r2:=w1.to AP (by rw[BJ,et]) ⟨nm,et.symm⟩;have F4:p1++nm++r2=p++r:=by rw[←NI,←et,BJ]
 generalize p1++nm=p2 at w2 F4 ⊢;have g2:=w2.1;unfold Ag at g2;left;exact Ψ5 a dx p2 [32] r2 ⟨by rw[Ge],w2.1,w2.l,λr3 e3=>?_,λe3=>⟨_,.refl,qE (by rw[eF,Er e3];rfl) _ fw⟩⟩;rw[DM];rw[E4 e3,AO]at eF;have w3:Wr (up Γ a (Ag C dx (p2++[32]) r3)) C dx a (p2++[32]) r3:=w2.to AP (by rw[e3,BJ]) ⟨[32],e3⟩;have JZ:p2++[32]++r3=p++r:=by rw[←F4,e3,BJ]
 generalize p2++[32]=p3 at w3 JZ ⊢;have g3:=w3.1;unfold Ag at g3;left;exact Ψ4 a dx p3 r3 ⟨rfl,w3.1,w3.l,w3.2.2,λd r4 e4 d10=>?_,λno=>⟨_,.refl,qE (by rw[eF,iW no];rfl) _ fw⟩⟩;rw[DM];rw[e4,R9 d10,AO]at eF;have w4:Wr (up Γ a (Ag C dx (p3++[48+d]) r4)) C dx a (p3++[48+d]) r4:=w3.to AP (by rw[e4];simp) ⟨[48+d],e4⟩;have Fh:p3++[48+d]++r4=p++r:=by rw[←JZ,e4];simp
 generalize p3++[48+d]=p4 at w4 Fh ⊢;have g4:=w4.1;unfold Ag at g4;left;exact Ψ5 a dx p4 [32,40] r4 ⟨by rw[Np],w4.1,w4.l,λr5 e5=>?_,λe5=>⟨_,.refl,qE (by rw[eF,Er e5];rfl) _ fw⟩⟩;rw[DM];rw[E4 e5,AO]at eF;have w5:Wr (up Γ a (Ag C dx (p4++[32,40]) r5)) C dx a (p4++[32,40]) r5:=w4.to AP (by rw[e5,BJ]) ⟨[32,40],e5⟩;have Fg:p4++[32,40]++r5=p++r:=by rw[←Fh,e5,BJ]
 generalize p4++[32,40]=p5 at w5 Fg ⊢;left;exact⟨a,rfl,dx,_,r5,w5,λty p6 r6 ek ep=>?_,λek Γ' kq=>⟨_,.refl,qE (by rw[eF,ek];rfl) _ (fw.trans kq)⟩⟩;rw[DM];rw[ek,AO]at eF;have F2:p6++r6=p++r:=ep.trans Fg;have w6:=w5.to (Γ':=up Γ a (Ag C dx p6 r6)) (p':=p6) (r':=r6) AP ep (pM _ _ _ ek);have g6:=w6.1;unfold Ag at g6;left;exact Ψ5 a dx p6 [32] r6 ⟨by rw[Ge],w6.1,w6.l,λr7 e7=>?_,λe7=>⟨_,.refl,qE (by rw[eF,Er e7];rfl) _ fw⟩⟩;rw[DM];rw[E4 e7,AO]at eF;have w7:Wr (up Γ a (Ag C dx (p6++[32]) r7)) C dx a (p6++[32]) r7:=w6.to AP (by rw[e7,BJ]) ⟨[32],e7⟩;have NH:p6++[32]++r7=p++r:=by rw[←F2,e7,BJ]
 generalize p6++[32]=p7 at w7 NH ⊢;have g7:=w7.1;unfold Ag at g7;unfold Jl at eF;left;exact Ψ5 a dx p7 Ea r7 ⟨by rw[tC],w7.1,w7.l,λr8 e8=>?_,λe8=>?_⟩
 ·rw[DM]
  rw[E4 e8]at eF;left;exact AH .refl (q _ _ r8 eF (by rw[←NH,e8,BJ]))
 ·rw[Er e8]at eF
  dsimp only at eF;left;exact Ψ2 a 5 ⟨rfl,by lia,dx,_,r7,w7,λt p' r' ek ep=>?_,λek Γ' kq=>⟨_,.refl,qE (by rw[eF,ek];rfl) _ (fw.trans kq)⟩⟩;rw[DM];left;exact AH .refl (q _ p' r' (by rw[eF,ek];rfl) (ep.trans NH))
end
theorem LM{f:Ci}(h:Hj f)(e:f r=some (t,r')):r'.length≤r.length:=by
 let⟨q,hq⟩:=h r t r' e;rw[hq,AG];lia
theorem fA{f:Ci}(h:Hj f):∀(n:Nat) (r:List Nat) (ts:List T) (r':List Nat),BP f n r=some (ts,r')→ts.length≤r.length
 |0,r,t,r',e=>by cases e
 |n+1,r,t,r',e=>by
  rw[BP]at e;cases e0:pre [41] r with
  |some r1=>rw[e0]at e;cases e;exact Fe _
  |none=>
   rw[e0]at e;cases e1:pre [44,32] r with
   |none=>rw[e1]at e;cases e
   |some r1=>
    simp only[e1,AO]at e;cases e2:f r1 with
    |none=>rw[e2]at e;cases e
    |some x=>
     rw[e2,AO]at e;cases e3:BP f n x.2 with
     |none=>rw[e3]at e;cases e
     |some y=>
      rw[e3]at e;cases e;have h1:=fA h n x.2 y.1 y.2 e3;have h2:=LM h (t:=x.1) (r':=x.2) e2;rw[Bz e1,AG,Aw];show _≤2+_
      lia
theorem bA{f:Ci}{p:T→Prop}{B:Nat}(h:Hj f)(hp:∀r t r',f r=some (t,r')→r.length≤B→p t):∀(n:Nat) (r:List Nat) (ts:List T) (r':List Nat),BP f n r=some (ts,r')→r.length≤B→∀t∈ts,p t
 |0,r,t,r',e,_=>by cases e
 |n+1,r,t,r',e,l=>by
  rw[BP]at e;cases e0:pre [41] r with
  |some r1=>rw[e0]at e;cases e;exactλt ht=>nomatch ht
  |none=>
   rw[e0]at e;cases e1:pre [44,32] r with
   |none=>rw[e1]at e;cases e
   |some r1=>
    simp only[e1,AO]at e;cases e2:f r1 with
    |none=>rw[e2]at e;cases e
    |some x=>
     rw[e2,AO]at e;cases e3:BP f n x.2 with
     |none=>rw[e3]at e;cases e
     |some y=>
      rw[e3]at e;cases e;have l1:r1.length≤B:=by
       rw[Bz e1,AG]at l;lia
      have h2:=LM h (t:=x.1) (r':=x.2) e2;intro t ht;rcases aam.mp ht with rfl|ht
      ·exact hp r1 _ _ e2 l1
      ·exact bA h hp n x.2 y.1 y.2 e3 (by lia) t ht
theorem MC(r:List Nat):(r.takeWhile AB).length+(r.dropWhile AB).length=r.length:=by
 rw[←AG,DG]
theorem abp{f:Ci}{B:Nat}(hB:B≤100000)(hp:∀r t r',f r=some (t,r')→r.length≤B→Pt Γ t):∀r t r',CP f r=some (t,r')→r.length≤B→Pt Γ t:=λr t r' e l=>by
 unfold CP at e;have tl:=MC r;cases e1:pre [32] (r.dropWhile AB)with
 |none=>rw[e1]at e;cases e
 |some r1=>
  rw[e1]at e;have l1:=Ai List.length (Bz e1);rw[AG]at l1;cases e2:f r1 with
  |none=>rw[AO,e2]at e;cases e
  |some x=>
   rw[AO,e2]at e;cases e;exact .tup (by show 2≤100000;decide) λt ht=>?_;simp only[aam,Bx,D7]at ht;rcases ht with rfl|rfl
   ·exact .str (by rw[Ad];lia)
   ·exact hp r1 _ _ e2 (by lia)
theorem KA{a b:T}(ha:Pt Γ a)(hb:Pt Γ b):Pt Γ (.tup [a,b]):=.tup (by show 2≤100000;decide) λt ht=>by
 simp only[aam,Bx,D7]at ht;rcases ht with rfl|rfl
 ·exact ha
 ·exact hb
theorem qK(e:F7 r=some (t,r')):Pt Γ t:=by
 cases r with
 |nil=>cases e
 |cons c r=>
  rw[KL]at e;split at e
  ·cases e;exact .int _
  ·cases e
theorem Q4{Γ:AS}:∀(d:Nat) (r:List Nat) (t:T) (r':List Nat),B0 d r=some (t,r')→r.length≤100000→Pt Γ t
  |0,r,t,r',e,_=>by cases e
  |d+1,r,t,r',e,l=>by
    have ih:=Q4 (Γ:=Γ) d;have tl:=MC r;have e:DD (B0 d) (r.takeWhile AB) (r.dropWhile AB)=some (t,r'):=e;generalize r.takeWhile AB=h at e tl;generalize r.dropWhile AB=r1 at e tl;unfold DD at e;split at e
    · cases e;exact .tup (by show 1≤100000;decide) λt ht=>by rw[aau.mp ht];exact .str (by rw[Ad];decide)
    all_goals
      cases e1:pre [32] r1 with
      |none=>simp[e1]at e
      |some r2=>
        have l1:=Ai List.length (Bz e1);rw[AG]at l1;simp only[e1,AO]at e;first
          |(
             split at e
             · cases e2:F7 r2 with
               |none=>rw[e2]at e;cases e
               |some x=>
                 rw[e2]at e;cases e;exact KA (.str (by rw[Ad];decide)) (qK e2)
             split at e
             · cases e2:B0 d r2 with
               |none=>rw[e2]at e;cases e
               |some x=>
                 rw[e2]at e;cases e;exact KA (.str (by rw[Ad];decide)) (ih _ _ _ e2 (by lia))
             split at e
             · cases e3:pre [40] r2 with
               |none=>rw[e3]at e;cases e
               |some r3=>
                 have l2:=Ai List.length (Bz e3);rw[AG]at l2;have l2:r2.length=1+r3.length:=l2;simp only[e3,AO]at e;cases e4:CP (B0 d) r3 with
                 |none=>rw[e4]at e;cases e
                 |some x=>
                   rw[e4,AO]at e;cases e5:BP (CP (B0 d)) (x.2.length+1) x.2 with
                   |none=>rw[e5]at e;cases e
                   |some y=>
                     rw[e5]at e;cases e;have en:=K7 (Js d);have l4:=LM en (t:=x.1) (r':=x.2) e4;have l5:=fA en _ _ _ _ e5;have f1:=abp (Γ:=Γ) (Ax _) ih;exact KA (.str (by rw[Ad];lia)) (.tup (by rw[Aw];lia) λt ht=>?_);rcases aam.mp ht with rfl|ht
                     · exact f1 _ _ _ e4 (by lia)
                     · exact bA en f1 _ _ _ _ e5 (by lia) t ht
             · cases e)
theorem qJ:∀r t r',Bw r=some (t,r')→r.length≤100000→Pt Γ t:=λr t r' e l=>by
 unfold Bw at e;have tl:=MC r;cases e1:pre [32] (r.dropWhile AB)with
 |none=>rw[e1]at e;cases e
 |some r1=>
  rw[e1,AO]at e;have l1:=Ai List.length (Bz e1);rw[AG]at l1;have tl1:=MC r1;cases e2:pre [32] (r1.dropWhile AB)with
  |none=>rw[e2]at e;cases e
  |some r2=>
   rw[e2,AO]at e;have l2:=Ai List.length (Bz e2);rw[AG]at l2;cases e3:B0 5 r2 with
   |none=>rw[e3]at e;cases e
   |some x=>
    rw[e3]at e;cases e;exact .tup (by show 3≤100000;decide) λt ht=>?_;simp only[aam,Bx,D7]at ht;rcases ht with rfl|rfl|rfl
    ·exact .str (by rw[Ad];lia)
    ·exact .str (by rw[Ad];lia)
    ·exact Q4 5 _ _ _ e3 (by lia)
theorem tS:∀r t r',Dr r=some (t,r')→r.length+1≤100000→Pt Γ t:=λr t r' e l=>by
 unfold Dr at e;cases e1:pre [41] r with
 |some r1=>rw[e1]at e;cases e;exact .tup (by show 0≤100000;decide) λt ht=>nomatch ht
 |none=>
  rw[e1]at e;dsimp only at e;cases e2:Bw r with
  |none=>rw[e2]at e;cases e
  |some x=>
   rw[e2,AO]at e;have l2:=LM Jr (t:=x.1) (r':=x.2) e2;cases e3:BP Bw (x.2.length+1) x.2 with
   |none=>rw[e3]at e;cases e
   |some y=>
    rw[e3]at e;cases e;have l3:=fA Jr _ _ _ _ e3;exact .tup (by rw[Aw];lia) λt ht=>?_;rcases aam.mp ht with rfl|ht
    ·exact qJ _ _ _ e2 (by lia)
    ·exact bA Jr qJ _ _ _ _ e3 (by lia) t ht
theorem ip{a b c d:T}(ha:Pt Γ a)(hb:Pt Γ b)(hc:Pt Γ c)(hd:Pt Γ d):Pt Γ (.tup [a,b,c,d]):=.tup (by show 4≤100000;decide) λt ht=>by
 simp only[aam,Bx,D7]at ht;rcases ht with rfl|rfl|rfl|rfl
 ·exact ha
 ·exact hb
 ·exact hc
 ·exact hd
theorem sV(e:E5 r=some (t,r'))(l:r.length≤100000):Pt Γ t:=by
 unfold E5 at e;cases e0:pre FK r with
 |none=>rw[e0]at e;cases e
 |some r1=>
  rw[e0,AO]at e;have l0:=Ai List.length (Bz e0);rw[AG]at l0;have l0:r.length=5+r1.length:=l0;have tl:=MC r1;cases e1:pre [32] (r1.dropWhile AB)with
  |none=>rw[e1]at e;cases e
  |some r2=>
   rw[e1,AO]at e;have l1:=Ai List.length (Bz e1);rw[AG]at l1;cases e2:F7 r2 with
   |none=>rw[e2]at e;cases e
   |some x=>
    rw[e2,AO]at e;have l2:=LM R2 (t:=x.1) (r':=x.2) e2;cases e3:pre [32,40] x.2 with
    |none=>rw[e3]at e;cases e
    |some r4=>
     rw[e3,AO]at e;have l3:=Ai List.length (Bz e3);rw[AG]at l3;cases e4:Dr r4 with
     |none=>rw[e4]at e;cases e
     |some y=>
      rw[e4,AO]at e;have l4:=LM pM (t:=y.1) (r':=y.2) e4;cases e5:pre [32] y.2 with
      |none=>rw[e5]at e;cases e
      |some r6=>
       rw[e5,AO]at e;have l5:=Ai List.length (Bz e5);rw[AG]at l5;have s1:Pt Γ (.str (S (r1.takeWhile AB))):=.str (by rw[Ad];lia);have s2:=qK (Γ:=Γ) e2;have s3:=tS (Γ:=Γ) _ _ _ e4 (by lia);unfold Jl at e;cases e6:pre Ea r6 with
       |some r7=>rw[e6]at e;cases e;exact ip s1 s2 s3 .non
       |none=>
        rw[e6]at e;dsimp only at e;cases e7:B0 5 r6 with
        |none=>rw[e7]at e;cases e
        |some z=>
         rw[e7]at e;cases e;exact ip s1 s2 s3 (Q4 5 _ _ _ e7 (by lia))
def Dz(f:Ci)(B:T→Bool)(l:List Nat):Option T:=(f l).bind λx=>if x.2=[]∧B x.1=true then some x.1 else none
theorem gJ{f:Ci}{l:List Nat}:Dz f B l=some t↔f l=some (t,[])∧B t=true:=by
 unfold Dz;cases e:f l with
 |none=>simp
 |some x=>
  obtain⟨u,r⟩:=x;simp only[AO,Option.some.injEq,Prod.mk.injEq];constructor
  ·intro h
   split at h
   ·rename_i c;cases h;exact⟨⟨rfl,c.1⟩,c.2⟩
   ·cases h
  ·intro⟨⟨rfl,rfl⟩,h⟩
   rw[AM ⟨rfl,h⟩]
section
abbrev cu:Stmt:=Bb 35
theorem jv:B6 ["text","writing","kind"] ["text"] (Am cu):=⟨rfl,rfl,rfl,by decide +kernel,rfl,by decide +kernel,by decide +kernel⟩
def gX(N:Addr):B2:=λts Γ Z Y=>∃l:List Nat,ts=[.str (S l)]∧l.length≤99999∧(∀c∈l,c<128)∧(∀t,Dz (B0 5) (Aj 5) l=some t→Z t Γ)∧(Dz (B0 5) (Aj 5) l=none→Y (.ref N) Γ)
theorem aaR(F:eG K "read_kind" "read_kind" cu f fd)(ie:mg "Writing" = some (.ref C))(om:RX P w K mg ap C 1 ["self","text"] (UT C))(di:Eh P w K mg ap C "is_over" 1 ["self"] (R7 C))(eU:F3 P w K mg ap "kind_in" 14 ["writing","depth"] (Ji C ax 6))(jq:Al P w K mg ap "is_kind" 20 ["thing"] QD)(bF:mg "DEEPEST_KIND" = some v1)(cV:Ef v1 (.int 5))(bT:mg "NoText" = some (.ref ax))(dA:W.excIn K ax [.type "ValueError",.type "Exception",.type "BaseException",.type "object"] "ValueError.__new__" = true):bJ P w K mg ap (DC P w) 21 f fd ["text"] (B3 (gX ax)):=by
 exact Hz F jv (λts Γ Z Y h=>?_) (λcO A outer s H E ts Γ Z Y hr h=>?_)
 ·let⟨k,rfl,_⟩:=h
  rfl
 let⟨l,rfl,ll,asc,q,qE⟩:=h;exact⟨_,(A4 (AL (i:=1) jv.nd (ku om hr (by lia) rfl ie (A3 (A0 0) A6)))
  (A4 (AL (i:=2) jv.nd (FP eU hr Dl (A3 (A0 1) (A3 (Dv rfl bF cV) A6))))
  (A4 (AZ (PW.pt (BS (Bf (BL (JV di hr (by lia) (A0 1)))) (Ck (Bf (BL (Ak jq hr (A3 (A0 2) A6))))))) (A4 (Ke rfl rfl bT dA KJ (A3 A9 A6) LP)
  A8) A8)
  (A4 (AQ (A0 2))
  A8)))),?_⟩
 simp only[B5];have sl:=E3;left;intro x dx hx RI ne;exact Ψ3 x dx l ⟨rfl,AP,rfl,?_⟩;rw[DM];have w0:Wr (up Γ x (Ag C dx [] l)) C dx x [] l:=⟨AP,by rw[Gr];lia,asc⟩;left;exact Ψ2 x 5 ⟨rfl,by lia,dx,[],l,w0,λt p' r' ek ep=>?_,λek Γ' kq=>⟨Γ,?_,qE (by unfold Dz;rw[ek];rfl)⟩⟩;rotate_left
 ·intro b o hb
  exact kq b o (by simpa using CF hb hx) (by rw[CB (CF hb hx)];exact hb)
 rw[DM];have w1:=w0.to (Γ':=up Γ x (Ag C dx p' r')) (p':=p') (r':=r') AP ep (Js 5 _ _ _ ek);have g1:=w1.1;unfold Ag at g1;have eR:Dz (B0 5) (Aj 5) l=if r'=[]∧Aj 5 t=true then some t else none:=by unfold Dz;rw[ek];rfl
 have lu:Le Γ (up Γ x (Ag C dx p' r')):=.new hx;left;exact Ψ4 x dx p' r' ⟨rfl,w1.1,w1.l,?_⟩;by_cases c:r'=[]
 ·rw[BY c]
  left;exact⟨t,rfl,Q4 5 _ _ _ ek (by lia),?_⟩;by_cases c2:Aj 5 t=true
  ·rw[c2]
   left;exact AH lu (q t (by rw[eR,AM ⟨c,c2⟩]))
  ·rw[show Aj 5 t=false by simpa using c2]
   left;exact⟨_,lu,qE (by rw[eR,AE λk=>c2 k.2])⟩
 ·rw[BW c]
  left;exact⟨_,lu,qE (by rw[eR,AE λk=>c k.1])⟩
abbrev dJ:Stmt:=Bb 36
theorem i5:B6 ["text","writing","paper"] ["text"] (Am dJ):=⟨rfl,rfl,rfl,by decide +kernel,rfl,by decide +kernel,by decide +kernel⟩
def cY(N:Addr):B2:=λts Γ Z Y=>∃l:List Nat,ts=[.str (S l)]∧l.length≤99999∧(∀c∈l,c<128)∧(∀x y us d,E5 l=some (.tup [x,y,.tup us,d],[])→us.length≤999)∧(∀t,Dz E5 Dx l=some t→Z t Γ)∧(Dz E5 Dx l=none→Y (.ref N) Γ)
theorem tj(F:eG K "read_paper" "read_paper" dJ f fd)(ie:mg "Writing" = some (.ref C))(om:RX P w K mg ap C 1 ["self","text"] (UT C))(di:Eh P w K mg ap C "is_over" 1 ["self"] (R7 C))(yJ:F3 P w K mg ap "paper_in" 17 ["writing"] (Kp C ax E5))(yM:Al P w K mg ap "is_paper" 23 ["thing"] jV)(bT:mg "NoText" = some (.ref ax))(dA:W.excIn K ax [.type "ValueError",.type "Exception",.type "BaseException",.type "object"] "ValueError.__new__" = true):bJ P w K mg ap (DC P w) 24 f fd ["text"] (B3 (cY ax)):=by
 exact Hz F i5 (λts Γ Z Y h=>?_) (λcO A outer s H E ts Γ Z Y hr h=>?_)
 ·let⟨k,rfl,_⟩:=h
  rfl
 let⟨l,rfl,ll,asc,UA,q,qE⟩:=h;exact⟨_,(A4 (AL (i:=1) i5.nd (ku om hr (by lia) rfl ie (A3 (A0 0) A6)))
  (A4 (AL (i:=2) i5.nd (FP yJ hr Dl (A3 (A0 1) A6)))
  (A4 (AZ (PW.pt (BS (Bf (BL (JV di hr (by lia) (A0 1)))) (Ck (Bf (BL (Ak yM hr (A3 (A0 2) A6))))))) (A4 (Ke rfl rfl bT dA KJ (A3 A9 A6) LP)
  A8) A8)
  (A4 (AQ (A0 2))
  A8)))),?_⟩
 simp only[B5];have sl:=E3;left;intro x dx hx RI ne;exact Ψ3 x dx l ⟨rfl,AP,rfl,?_⟩;rw[DM];have w0:Wr (up Γ x (Ag C dx [] l)) C dx x [] l:=⟨AP,by rw[Gr];lia,asc⟩;left;exact⟨x,rfl,dx,[],l,w0,λt p' r' ek ep=>?_,λek Γ' kq=>⟨Γ,?_,qE (by unfold Dz;rw[ek];rfl)⟩⟩;rotate_left
 ·intro b o hb
  exact kq b o (by simpa using CF hb hx) (by rw[CB (CF hb hx)];exact hb)
 rw[DM];have g1:(up Γ x (Ag C dx p' r')) x=some (.ins C dx [("text",.str (S (p'++r'))),("at",.int (p'.length:Nat))]):=AP;have eR:Dz E5 Dx l=if r'=[]∧Dx t=true then some t else none:=by unfold Dz;rw[ek];rfl
 have lu:Le Γ (up Γ x (Ag C dx p' r')):=.new hx;left;exact Ψ4 x dx p' r' ⟨rfl,AP,by rw[ep,Gr];lia,?_⟩;by_cases c:r'=[]
 ·rw[BY c]
  subst c;left;exact⟨t,rfl,sV ek (by lia),λa b us d e=>UA a b us d (by rw[ek,e]),?_⟩;by_cases c2:Dx t=true
  ·rw[c2]
   left;exact AH lu (q t (by rw[eR,AM ⟨rfl,c2⟩]))
  ·rw[show Dx t=false by simpa using c2]
   left;exact⟨_,lu,qE (by rw[eR,AE λk=>c2 k.2])⟩
 ·rw[BW c]
  left;exact⟨_,lu,qE (by rw[eR,AE λk=>c k.1])⟩
end
mutual
def Kd.sh:Kd→List Nat
 |.num w=>[110,117,109,32]++[48+w.toNat]
 |.text=>[116,101,120,116]
 |.row k=>[114,111,119,32]++k.sh
 |.rec_ fs=>[114,101,99]++[32,40]++B9 [44,32] (Af fs)++[41]
 |.pick fs=>[112,105,99,107]++[32,40]++B9 [44,32] (Af fs)++[41]
def Af:List (Str×Kd)→List (List Nat)
 |[]=>[]
 |(n,k)::r=>(n.cps.toList++[32]++k.sh)::Af r
end
theorem IX:∀fs:List (Str×Kd),Af fs=fs.map λp=>p.1.cps.toList++[32]++p.2.sh
 |[]=>rfl
 |(n,k)::r=>by rw[Af,IX r];rfl
theorem JU:Stop (32::r):=.inr ⟨32,r,rfl,by decide +kernel⟩
theorem pB:Stop (44::r):=.inr ⟨44,r,rfl,by decide +kernel⟩
theorem MA:Stop (41::r):=.inr ⟨41,r,rfl,by decide +kernel⟩
def EY(rs:ad):List Nat:=((Af rs).map λy=>[44,32]++y).flatten
theorem Ms(n:Str)(k:Kd)(r:ad):EY ((n,k)::r)=[44,32]++((n.cps.toList++[32]++k.sh)++EY r):=by
 unfold EY;rw[Af,CV,MQ,BJ]
theorem join_cons(n:Str)(k:Kd)(r:ad):B9 [44,32] (Af ((n,k)::r))=(n.cps.toList++[32]++k.sh)++EY r:=by
 rw[Af];rfl
theorem Nt(rs:List (Str×Kd))(r:List Nat):Stop (EY rs++(41::r)):=by
 cases rs with
 |nil=>exact MA
 |cons x rs=>obtain⟨n,k⟩:=x;rw[Ms];exact pB
mutual
def Kd.wf:Kd→Prop
 |.num w=>0≤w∧w≤9
 |.text=>True
 |.row k=>k.wf
 |.rec_ fs=>Hr fs∧fs≠[]
 |.pick fs=>Hr fs∧fs≠[]
def Hr:List (Str×Kd)→Prop
 |[]=>True
 |(n,k)::r=>(∀c∈n.cps.toList,AB c=true)∧k.wf∧Hr r
end
theorem J9:pre [32] (32::r)=some r:=E4 rfl
theorem aaQ:pre [40] (40::r)=some r:=E4 rfl
theorem jw:pre [41] (41::r)=some r:=E4 rfl
theorem acA:pre [44,32] (44::32::r)=some r:=E4 rfl
theorem Na(hg:∀c∈h,AB c=true)(st:Stop r):(h++r).takeWhile AB=h∧(h++r).dropWhile AB=r:=by
 induction h with
 |nil=>
  rcases st with rfl|⟨c,r',rfl,hc⟩
  ·exact⟨rfl,rfl⟩
  ·simp[hc]
 |cons c h ih=>
  have hc:=hg c (by simp);let⟨a,b⟩:=ih λx hx=>hg x (by simp[hx]);rw[Lg,List.takeWhile_cons,List.dropWhile_cons,hc];exact⟨by simp[a],by simp[b]⟩
theorem N5(hg:∀c∈h,AB c=true)(st:Stop r):B0 (d+1) (h++r)=DD (B0 d) h r:=by
 let⟨a,b⟩:=Na hg st;show DD (B0 d) ((h++r).takeWhile AB) ((h++r).dropWhile AB)=_
 rw[a,b]
theorem iE{f:Ci}(hg:∀c∈h,AB c=true):CP f (h++(32::r))=(f r).bind λx=>some (.tup [.str (S h),x.1],x.2):=by
 let⟨a,b⟩:=Na hg (JU (r:=r));unfold CP;rw[a,b,J9];rfl
theorem i3:∀c∈cText,AB c=true:=by decide +kernel
theorem g_num:∀c∈G9,AB c=true:=by decide +kernel
theorem g_row:∀c∈FE,AB c=true:=by decide +kernel
theorem iB:∀c∈FO,AB c=true:=by decide +kernel
theorem hJ:∀c∈Fq,AB c=true:=by decide +kernel
theorem iA{f:Ci}(hh:h=FO∨h=Fq):DD f h (32::40::r)=(CP f r).bind λx=>(BP (CP f) (x.2.length+1) x.2).bind λy=>some (.tup [.str (S h),.tup (x.1::y.1)],y.2):=by
 unfold DD;rw[AE (by rcases hh with rfl|rfl<;>decide),AE (by rcases hh with rfl|rfl<;>decide),AE (by rcases hh with rfl|rfl<;>decide),AM hh,J9,AO,aaQ]
 rfl
theorem yf{f:Ci}:DD f FE (32::r)=(f r).bind λx=>some (.tup [.str (S FE),x.1],x.2):=by
 unfold DD;rw[AE (by decide),AE (by decide),AM rfl,J9];rfl
theorem L5{x:Nat}(h:c≠x):pre (c::q) (x::r)=none:=Er λe=>by
 rw[Aw,List.take_succ_cons]at e;exact h (B8 e).1.symm
theorem iC{f:Ci}:BP f (n+1) (41::r)=some ([],r):=by
 rw[BP,jw]
theorem hG{f:Ci}:BP f (n+1) (44::32::r)=(f r).bind λx=>(BP f n x.2).bind λy=>some (x.1::y.1,y.2):=by
 rw[BP,L5 (by decide)];dsimp only;rw[acA];rfl
mutual
theorem KS:∀{k:Kd} {d:Nat} {r:List Nat},k.wf→Stop r→B0 d (k.sh++r)=if k.depth≤d then some (k.tr,r)else none
 |.num w,0,r,h,st=>by rw[Kd.depth];rfl
 |.text,0,r,h,st=>by rw[Kd.depth];rfl
 |.row k,0,r,h,st=>by rw[Kd.depth,AE (by lia)];rfl
 |.rec_ fs,0,r,h,st=>by rw[Kd.depth,AE (by lia)];rfl
 |.pick fs,0,r,h,st=>by rw[Kd.depth,AE (by lia)];rfl
 |.num w,d+1,r,h,st=>by
  unfold Kd.wf at h;rw[Kd.sh,Kd.depth,AM (by lia),show [110,117,109,32]++[48+w.toNat]++r=G9++(32::(48+w.toNat)::r)from rfl,N5 g_num JU];unfold DD;rw[AE (by decide),AM rfl,J9,AO,R9 (by lia),AO,Kd.tr,NO,show((w.toNat:Nat):Int)=w by lia]
 |.text,d+1,r,h,st=>by
  rw[Kd.sh,Kd.depth,AM (by lia),N5 i3 st];unfold DD;rw[AM rfl,Kd.tr,Mc]
 |.row k,d+1,r,h,st=>by
  unfold Kd.wf at h;rw[Kd.sh,Kd.depth,show [114,111,119,32]++k.sh++r=FE++(32::(k.sh++r))from rfl,N5 g_row JU,yf,KS h st,Kd.tr,M3];by_cases c:k.depth≤d
  ·rw[AM c,AM (by lia)];rfl
  ·rw[AE c,AE (by lia)];rfl
 |.rec_ fs,d+1,r,h,st=>by
  unfold Kd.wf at h;let⟨hf,hn⟩:=h;rw[Kd.sh,Kd.depth,show FO++[32,40]++B9 [44,32] (Af fs)++[41]++r=FO++(32::40::(B9 [44,32] (Af fs)++(41::r)))by simp,N5 iB JU,iA (.inl rfl),Kd.tr,sT];exact lC hf hn
 |.pick fs,d+1,r,h,st=>by
  unfold Kd.wf at h;let⟨hf,hn⟩:=h;rw[Kd.sh,Kd.depth,show Fq++[32,40]++B9 [44,32] (Af fs)++[41]++r=Fq++(32::40::(B9 [44,32] (Af fs)++(41::r)))by simp,N5 hJ JU,iA (.inr rfl),Kd.tr,og];exact lC hf hn
theorem lC{VW:List Nat}:∀{fs:List (Str×Kd)} {d:Nat} {r:List Nat},Hr fs→fs≠[]→((CP (B0 d) (B9 [44,32] (Af fs)++(41::r))).bind λx=>(BP (CP (B0 d)) (x.2.length+1) x.2).bind λy=>some (T.tup [.str (S VW),.tup (x.1::y.1)],y.2))=if B4 fs+1≤d+1 then some (T.tup [.str (S VW),.tup (CI fs)],r)else none
 |[],d,r,hf,hn=>absurd rfl hn
 |(n,k)::fs,d,r,hf,hn=>by
  unfold Hr at hf;rw[join_cons,show n.cps.toList++[32]++k.sh++EY fs++(41::r)=n.cps.toList++(32::(k.sh++(EY fs++(41::r))))by simp,iE hf.1,KS hf.2.1 (Nt fs r),B4];by_cases c:k.depth≤d
  ·rw[AM c,AO,AO]
   dsimp only;rw[nB hf.2.2 (Jk _),CI,Ep];by_cases c2:B4 fs≤d
   ·rw[AM c2,AM (by lia)];rfl
   ·rw[AE c2,AE (by lia)];rfl
  ·rw[AE c,AE (by lia)];rfl
theorem nB:∀{fs:List (Str×Kd)} {d n:Nat} {r:List Nat},Hr fs→(EY fs++(41::r)).length<n→BP (CP (B0 d)) n (EY fs++(41::r))=if B4 fs≤d then some (CI fs,r)else none
 |[],d,0,r,hf,hn=>by lia
 |[],d,n+1,r,hf,hn=>by
  rw[B4,AM (Fe _)];exact iC
 |(nm,k)::fs,d,0,r,hf,hn=>by lia
 |(nm,k)::fs,d,n+1,r,hf,hn=>by
  unfold Hr at hf;rw[Ms]at hn;rw[Ms,show [44,32]++(nm.cps.toList++[32]++k.sh++EY fs)++(41::r)=44::32::(nm.cps.toList++(32::(k.sh++(EY fs++(41::r)))))by simp,hG,iE hf.1,KS hf.2.1 (Nt fs r),B4];by_cases c:k.depth≤d
  ·rw[AM c,AO,AO]
   dsimp only;rw[nB hf.2.2 (by simp only[AG,Aw,Cu]at hn ⊢;lia),CI,Ep];by_cases c2:B4 fs≤d
   ·rw[AM c2,AM (by lia)];rfl
   ·rw[AE c2,AE (by lia)];rfl
  ·rw[AE c,AE (by lia)];rfl
end
local macro_rules | `(tactic| left)=>`(tactic| repeat (first
 |(with_reducible first|refine dY ?_|refine fg ?_|refine TM ?_|refine Wo ?_|refine Vd ?_)|((with_reducible apply dz);exact rfl)|(with_reducible first|refine Y0 ?_|refine W3 ?_|refine Cg ?_|refine eH ?_|refine Ut ?_|refine Jc ?_|refine gQ ?_|refine ck ?_|refine Ss ?_|refine So ?_|refine bG ?_|refine Sa ?_|refine Sz ?_|refine aP ?_|refine cJ ?_|refine SA ?_|refine gC ?_|refine VN ?_|refine aK ?_|refine aZ ?_|refine dI ?_|refine gi ?_|refine aH ?_|refine fZ ?_|refine fR ?_|refine UW ?_|refine Rn ?_|refine aU ?_|refine dN ?_|refine cW ?_|refine dv ?_|refine Jb ?_|refine bt ?_|refine aF ?_)|((with_reducible refine dW ?_ ?_);exact rfl)|(with_reducible first|refine dq ?_|refine VM ?_|refine Wt ?_|refine Tz ?_|refine Rt ?_|refine fk ?_|refine Se ?_|refine bu ?_|refine W0 ?_|refine dL ?_|refine bO ?_|refine fz ?_|refine VO ?_|refine a8 ?_|refine gv ?_|refine ak ?_|refine TI ?_|refine Tx ?_|refine Ob ?_|refine Va ?_|refine fj ?_|refine SF ?_|refine fS ?_)|((with_reducible apply AU);(first|assumption|exact AP);(first|exact QW|exact L4))|((with_reducible apply Q9);(first|assumption|exact AP);exact rfl)
 |with_reducible refine And.intro (rfl:T.non=T.non) ?_|(with_reducible first|refine TP ?_|refine N7 ?_|refine Oc ?_|refine TE ?_)|((with_reducible apply dP);exact rfl;exact rfl;exact rfl)|(with_reducible first|refine eX ?_|refine Od ?_|refine fK ?_|refine CD ?_|refine CG ?_|refine Cn ?_|refine Cp ?_|refine cm ?_|refine cI ?_|refine VK ?_)|((with_reducible apply UY);(first|assumption|exact AP);exact rfl)|with_reducible refine fP ?_|((with_reducible apply b8);(first|assumption|exact AP);exact rfl)|with_reducible refine T3 ?_|((with_reducible apply cE);(first|assumption|exact AP);exact rfl)|((with_reducible apply cb);(first|assumption|exact AP);exact rfl)
 |with_reducible refine aw ?_|((with_reducible apply aJ);(first|assumption|exact AP);exact rfl)|(with_reducible first|refine cw ?_|refine N9 ?_|refine N8 ?_|refine Oa ?_)|((with_reducible refine Sp ?_ ?_);exact rfl)
 |((with_reducible refine G0 ?_ ?_);(first|exact⟨by decide,by decide,by decide⟩|exact⟨by decide,by decide⟩|exact Or.inl ⟨by decide,by decide⟩|exact Or.inr ⟨by decide,by decide⟩|((show(0:Int)<_);decide)))
 |((with_reducible refine Bv ?_ ?_);(first|exact rfl|decide +kernel))|((with_reducible refine Bs ?_ ?_);(first|exact rfl|decide +kernel))))
def Cb:List Nat→Nat→List (List Nat)→List (List Nat)
 |[],_,ws=>ws
 |c::r,a,ws=>if(AB c&&AB a)=true then Cb r c (ws.dropLast++[ws.getLastD []++[c]])else if c=32 then Cb r c ws else Cb r c (ws++[[c]])
def toks(l:List Nat):List (List Nat):=Cb l 32 []
abbrev GI:List (List Nat):=[[],[],[],[],[]]
def D6(ws:List (List Nat)):List T:=ws.map λw=>T.str (S w)
theorem Di{a:Nat}(h:AB c=false):Cb (c::r) a ws=if c=32 then Cb r c ws else Cb r c (ws++[[c]]):=by
 rw[Cb,h,Dq,AE (by decide)]
theorem aae(hg:∀c∈h,AB c=true):∀{a:Nat} {r:List Nat} {ws:List (List Nat)} {u:List Nat},AB a=true→∃a',Cb (h++r) a (ws++[u])=Cb r a' (ws++[u++h]):=by
 induction h with
 |nil=>intro a r ws u ha;exact⟨a,by rw[BV];rfl⟩
 |cons c h ih=>
  intro a r ws u ha;have hc:=hg c (by simp);rw[Lg,Cb,hc,ha,AM (by decide)];let⟨a',e⟩:=ih (λx hx=>hg x (by simp[hx])) (a:=c) (r:=r) (ws:=ws) (u:=u++[c]) hc;exact⟨a',?_⟩;rw[Oe,show(ws++[u]).getLastD []=u by simp];rw[e];simp
theorem Gh(hg:∀c∈h,AB c=true)(hn:h≠[]){a:Nat}(ha:AB a=false):∃a',Cb (h++r) a ws=Cb r a' (ws++[h]):=by
 cases h with
 |nil=>exact absurd rfl hn
 |cons c h=>
  have hc:=hg c (by simp);let⟨a',e⟩:=aae (h:=h) (λx hx=>hg x (by simp[hx])) (a:=c) (r:=r) (ws:=ws) (u:=[c]) hc;exact⟨a',?_⟩;rw[Lg,Cb,hc,ha,AE (by decide),AE (λe=>by rw[e]at hc;revert hc;decide +kernel)];exact e
mutual
def Kd.tk:Kd→List (List Nat)
 |.num w=>[G9,[48+w.toNat]]
 |.text=>[cText]
 |.row k=>FE::k.tk
 |.rec_ fs=>FO::(EL [40] fs++[[41]])
 |.pick fs=>Fq::(EL [40] fs++[[41]])
def EL:List Nat→List (Str×Kd)→List (List Nat)
 |_,[]=>[]
 |sep,(n,k)::r=>sep::n.cps.toList::(k.tk++EL [44] r)
end
mutual
/-- kinds with names of one sign at least -/
def Kd.nw:Kd→Prop
 |.num w=>0≤w∧w≤9
 |.text=>True
 |.row k=>k.nw
 |.rec_ fs=>Gm fs∧fs≠[]
 |.pick fs=>Gm fs∧fs≠[]
def Gm:List (Str×Kd)→Prop
 |[]=>True
 |(n,k)::r=>((∀c∈n.cps.toList,AB c=true)∧n.cps.toList≠[])∧k.nw∧Gm r
end
theorem Cq:AB 32=false:=by decide +kernel
theorem Mi:AB 40=false:=by decide +kernel
theorem Li:AB 41=false:=by decide +kernel
theorem iy:AB 44=false:=by decide +kernel
theorem mi(h:d≤9):AB (48+d)=false:=by
 rw[qj _ (by lia),BW (by lia)];rfl
mutual
theorem KY:∀{k:Kd} {a:Nat} {r:List Nat} {ws:List (List Nat)},k.nw→AB a=false→Stop r→∃a',Cb (k.sh++r) a ws=Cb r a' (ws++k.tk)
 |.num w,a,r,ws,h,ha,st=>by
  unfold Kd.nw at h;let⟨a1,e1⟩:=Gh (h:=G9) g_num (by decide) ha (r:=32::(48+w.toNat)::r) (ws:=ws);exact⟨48+w.toNat,?_⟩;rw[Kd.sh,Kd.tk,show [110,117,109,32]++[48+w.toNat]++r=G9++(32::(48+w.toNat)::r)from rfl,e1,Di Cq,AM rfl,Di (mi (by lia)),AE (by lia),BJ];rfl
 |.text,a,r,ws,h,ha,st=>by
  rw[Kd.sh,Kd.tk];exact Gh i3 (by decide) ha
 |.row k,a,r,ws,h,ha,st=>by
  unfold Kd.nw at h;let⟨a1,e1⟩:=Gh (h:=FE) g_row (by decide) ha (r:=32::(k.sh++r)) (ws:=ws);let⟨a2,e2⟩:=KY (a:=32) (ws:=ws++[FE]) h Cq st;exact⟨a2,?_⟩;rw[Kd.sh,Kd.tk,show [114,111,119,32]++k.sh++r=FE++(32::(k.sh++r))from rfl,e1,Di Cq,AM rfl,e2,BJ];rfl
 |.rec_ fs,a,r,ws,h,ha,st=>by
  unfold Kd.nw at h;let⟨a1,e1⟩:=Gh (h:=FO) iB (by decide) ha (r:=32::40::(B9 [44,32] (Af fs)++(41::r))) (ws:=ws);let⟨a2,e2⟩:=pw (ws:=ws++[FO]) (r:=r) h.1 h.2;exact⟨41,?_⟩;rw[Kd.sh,Kd.tk,show FO++[32,40]++B9 [44,32] (Af fs)++[41]++r=FO++(32::40::(B9 [44,32] (Af fs)++(41::r)))by simp,e1,Di Cq,AM rfl,Di Mi,AE (by decide),e2,Di Li,AE (by decide)];simp
 |.pick fs,a,r,ws,h,ha,st=>by
  unfold Kd.nw at h;let⟨a1,e1⟩:=Gh (h:=Fq) hJ (by decide) ha (r:=32::40::(B9 [44,32] (Af fs)++(41::r))) (ws:=ws);let⟨a2,e2⟩:=pw (ws:=ws++[Fq]) (r:=r) h.1 h.2;exact⟨41,?_⟩;rw[Kd.sh,Kd.tk,show Fq++[32,40]++B9 [44,32] (Af fs)++[41]++r=Fq++(32::40::(B9 [44,32] (Af fs)++(41::r)))by simp,e1,Di Cq,AM rfl,Di Mi,AE (by decide),e2,Di Li,AE (by decide)];simp
theorem pw:∀{fs:List (Str×Kd)} {r:List Nat} {ws:List (List Nat)},Gm fs→fs≠[]→∃a',Cb (B9 [44,32] (Af fs)++(41::r)) 40 (ws++[[40]])=Cb (41::r) a' (ws++EL [40] fs)
 |[],r,ws,h,hn=>absurd rfl hn
 |(n,k)::fs,r,ws,h,hn=>by
  unfold Gm at h;let⟨a1,e1⟩:=Gh h.1.1 h.1.2 Mi (r:=32::(k.sh++(EY fs++(41::r)))) (ws:=ws++[[40]]);let⟨a2,e2⟩:=KY (a:=32) (ws:=ws++[[40]]++[n.cps.toList]) h.2.1 Cq (Nt fs r);let⟨a3,e3⟩:=qH (a:=a2) (ws:=ws++[[40]]++[n.cps.toList]++k.tk) (r:=r) h.2.2;exact⟨a3,?_⟩;rw[join_cons,show n.cps.toList++[32]++k.sh++EY fs++(41::r)=n.cps.toList++(32::(k.sh++(EY fs++(41::r))))by simp,e1,Di Cq,AM rfl,e2,e3,EL];simp
theorem qH:∀{fs:List (Str×Kd)} {a:Nat} {r:List Nat} {ws:List (List Nat)},Gm fs→∃a',Cb (EY fs++(41::r)) a ws=Cb (41::r) a' (ws++EL [44] fs)
 |[],a,r,ws,h=>⟨a,by rw[EL,BV];rfl⟩
 |(n,k)::fs,a,r,ws,h=>by
  unfold Gm at h;let⟨a1,e1⟩:=Gh h.1.1 h.1.2 Cq (r:=32::(k.sh++(EY fs++(41::r)))) (ws:=ws++[[44]]);let⟨a2,e2⟩:=KY (a:=32) (ws:=ws++[[44]]++[n.cps.toList]) h.2.1 Cq (Nt fs r);let⟨a3,e3⟩:=qH (a:=a2) (ws:=ws++[[44]]++[n.cps.toList]++k.tk) (r:=r) h.2.2;exact⟨a3,?_⟩;rw[Ms,show [44,32]++(n.cps.toList++[32]++k.sh++EY fs)++(41::r)=44::32::(n.cps.toList++(32::(k.sh++(EY fs++(41::r)))))by simp,Di iy,AE (by decide),Di Cq,AM rfl,e1,Di Cq,AM rfl,e2,e3,EL];simp
end
theorem xH(h:k.nw):toks k.sh=k.tk:=by
 let⟨a',e⟩:=KY (k:=k) (a:=32) (r:=[]) (ws:=[]) h Cq (.inl rfl);rw[BV]at e;exact e
section
abbrev fh:Stmt:=Bb 58
theorem eJ:B6 ["signs","letters","words","ahead","sign"] ["signs"] (Am fh):=⟨rfl,rfl,rfl,by decide +kernel,rfl,by decide +kernel,by decide +kernel⟩
def Rx:B2:=λts Γ Z _=>∃l:List Nat,ts=[.str (S l)]∧l.length≤100000∧∀p,Γ p=none→Z (.ref p) (up Γ p (.lst (D6 (toks l++GI))))
theorem ym(F:eG K "_law_words" "_law_words" fh f fd)(aE:mg "len" = none):bJ P w K mg ap BK 1 f fd ["signs"] (B3 Rx):=by
 exact Bq F eJ (λts Γ Z Y h=>?_) (λcO A outer s H E ts Γ Z Y hr h=>?_)
 ·let⟨l,rfl,_⟩:=h
  rfl
 let⟨l,rfl,ll,q⟩:=h;exact⟨_,(A4 (AL (i:=1) eJ.nd A9)
  (A4 (AL (i:=2) eJ.nd (BN A6))
  (A4 (AL (i:=3) eJ.nd A9)
  (A4 (Hd G3 rfl (Sy (A0 0)) (Cs (i:=4) eJ.nd) (A4 (D9 (AZ (PW.pt (GC (Ft Nz (A0 4) (A0 1) (by with_unfolding_all rfl)) (HJ (Ft Nz (A0 3) (A0 1) (by with_unfolding_all rfl))))) (A4 (GZ (AA CA (AD (A0 2) (AA HC (BE Co rfl aE Bl (A3 (A0 2) A6)) A5)) (A0 4)) (Ny (A0 2) (AA HC (BE Co rfl aE Bl (A3 (A0 2) A6)) A5)))
  A8) (A4 (D9 (AZ (AY DS (A0 4) A9) (A4 (D8 (DT El Fn Fu Fc (A0 2) (A3 (A0 4) A6)))
  A8) A8))
  A8)))
  (A4 (AL (i:=3) eJ.nd (A0 4))
  A8)))
  (A4 (AQ (AA Dt (A0 2) (BN (A3 A9 (A3 A9 (A3 A9 (A3 A9 (A3 A9 A6))))))))
  A8))))),?_⟩
 simp only[B5];have sl:=E3;left;intro p1 jr;generalize e1:up _ p1 (O.lst _)=Γ1;have g1:=AX e1;have l1:=AW e1 jr
 left;exact⟨λv4 τ Γ'=>∃(cs:List Nat) (a:Nat) (ws:List (List Nat)) (o4:Option T),v4=cs.map (λc=>T.str ⟨#[c]⟩)∧τ=[some (.str (S l)),some (.str yP),some (.ref p1),some (.str ⟨#[a]⟩),o4]∧Cb cs a ws=toks l∧(AB a=true→ws≠[])∧(∀w∈ws,w.length+cs.length≤l.length)∧ws.length+cs.length≤l.length∧Γ' p1=some (.lst (D6 ws))∧Kq [p1] Γ Γ',Ψ4 l 32 [] none ⟨by unfold Hs;rw[GS],rfl,rfl,(λe=>by rw[Cq]at e;cases e),(λw hw=>nomatch hw),by simp,g1,l1.kq⟩,?_,?_⟩
 ·intro τ Γ'⟨cs,a,ws,o4,er,rfl,ef,ne,b1,b2,gp,kq⟩
  have Uj:cs=[]:=by
   cases cs with
   |nil=>rfl
   |cons _ _=>cases er
  subst Uj;exact⟨trivial,?_⟩;left;intro p2 qz;generalize e2:up _ p2 (O.lst _)=Γ2;have g2:=AX e2;have l2:=AW e2 qz
  left;have ef:ws=toks l:=ef;exact Ψ4 p1 p2 (D6 ws) _ ⟨rfl,rfl,l2 _ _ gp,g2,?_,?_⟩
  ·unfold D6
   rw[Ae];show _+5≤_
   simp only[Cu]at b2;lia
  intro p3 Bg;have lg:Le Γ Γ2:=λb o hb=>l2 _ _ (kq b o (by simpa using CF hb jr) hb);rw[ef];have:=zN (o:=.lst (D6 (toks l++GI))) lg Bg q;unfold D6 at this ⊢;rw[B1]at this;exact this
 ·intro x rr τ Γ'⟨cs,a,ws,o4,er,rfl,ef,ne,b1,b2,gp,kq⟩
  cases cs with
  |nil=>cases er
  |cons c cs=>
   cases er;exact⟨trivial,?_⟩;rw[Aw]at b2;left;exact⟨λτ Γ2=>∃uQ:List (List Nat),τ=[some (.str (S l)),some (.str yP),some (.ref p1),some (.str ⟨#[a]⟩),some (.str ⟨#[c]⟩)]∧Cb cs c uQ=toks l∧(AB c=true→uQ≠[])∧(∀w∈uQ,w.length+cs.length≤l.length)∧uQ.length+cs.length≤l.length∧Γ2 p1=some (.lst (D6 uQ))∧Kq [p1] Γ Γ2,?_,?_⟩;rotate_left
   ·intro τ Γ2⟨uQ,rfl,h1,h2,h3,h4,h5,h6⟩
    left;exact Ψ4 cs c uQ _ ⟨rfl,rfl,h1,h2,h3,h4,h5,h6⟩
   have R1:∀w∈ws,w.length+cs.length≤l.length:=λw hw=>by have:=b1 w hw;rw[Aw]at this;lia
   rw[Cb]at ef;have plain:(AB c&&AB a)=false→(∀τ0:Bh,True)∧∃uQ:List (List Nat),(if c=32 then uQ=ws else uQ=ws++[[c]])∧Cb cs c uQ=toks l∧(AB c=true→uQ≠[])∧(∀w∈uQ,w.length+cs.length≤l.length)∧uQ.length+cs.length≤l.length:=λhb=>by
    rw[hb,AE (by decide)]at ef;exact⟨λ_=>trivial,?_⟩;by_cases Bk:c=32
    ·rw[AM Bk]at ef
     exact⟨ws,by rw[AM Bk],ef,(λe=>by rw[Bk,Cq]at e;cases e),R1,by lia⟩
    ·rw[AE Bk]at ef
     exact⟨ws++[[c]],by rw[AE Bk],ef,λ_=>by simp,λw hw=>?_,by rw[AG];show _+1+_≤_;lia⟩;rcases aaH.mp hw with h|h
     ·exact R1 w h
     ·rw[aau.mp h];show 1+_≤_;lia
   have NP:(D6 ws).length<sizeLine:=by unfold D6;rw[Ae];lia
   left;exact Ψ2 _ _ ⟨rfl,rfl,?_⟩;show ∃k,T.bl (AB c)=.bl k∧_
   cases hc:AB c with
   |false=>
    let⟨_,⟨uQ,hw,h1,h2,h3,h4⟩⟩:=plain (by rw[hc];rfl);left;exact Gj ?_;left;by_cases Bk:c=32
    ·subst Bk
     rw[AM rfl]at hw;subst hw;exact Bs (by decide +kernel) ?_;left;exact⟨_,rfl,h1,λz=>h2 (hc.trans z),h3,h4,gp,kq⟩
    ·rw[AE Bk]at hw
     exact Bv (by rw[show(⟨#[c]⟩:Str)=S [c]from rfl,Dk Ge (by simpa using Bk)];rfl) ?_;left;exact EP gp ?_;left;exact Ψ3 p1 _ _ ⟨rfl,rfl,gp,NP,?_⟩;left;exact⟨uQ,rfl,h1,λz=>h2 (hc.trans z),h3,h4,by rw[AP,hw];unfold D6;rw[B1];rfl,kq.trans (.set (by simp) _)⟩
   |true=>
    left;exact Ψ2 _ _ ⟨rfl,rfl,?_⟩;show ∃k,T.bl (AB a)=.bl k∧_
    cases ha:AB a with
    |false=>
     let⟨_,⟨uQ,hw,h1,h2,h3,h4⟩⟩:=plain (by rw[ha,Ga]);left;exact Gj ?_;left;by_cases Bk:c=32
     ·subst Bk
      rw[AM rfl]at hw;subst hw;exact Bs (by decide +kernel) ?_;left;exact⟨_,rfl,h1,λz=>h2 (hc.trans z),h3,h4,gp,kq⟩
     ·rw[AE Bk]at hw
      exact Bv (by rw[show(⟨#[c]⟩:Str)=S [c]from rfl,Dk Ge (by simpa using Bk)];rfl) ?_;left;exact EP gp ?_;left;exact Ψ3 p1 _ _ ⟨rfl,rfl,gp,NP,?_⟩;left;exact⟨uQ,rfl,h1,λz=>h2 (hc.trans z),h3,h4,by rw[AP,hw];unfold D6;rw[B1];rfl,kq.trans (.set (by simp) _)⟩
    |true=>
     have wn:=ne ha;rw[hc,ha,AM (by decide)]at ef;obtain⟨w0,u,rfl⟩:∃w0 u,ws=w0++[u]:=Ψ2 ws.dropLast (ws.getLast wn) ((KV wn).symm);rw[Oe,show(w0++[u]).getLastD []=u by simp]at ef;have eL:(((D6 (w0++[u])).length:Nat):Int)-1=(w0.length:Nat):=by unfold D6;rw[Ae,AG];show((w0.length+1:Nat):Int)-1=_;lia
     have L4:B7 (D6 (w0++[u])) (w0.length:Nat)=some (.str (S u)):=Ey (by unfold D6;simp);have lu:=R1 u (by simp);left;exact GF gp ?_;left;rw[eL];exact AU gp L4 ?_;left;exact Cz ?_ ?_
     ·rw[Ad];show _+1≤_;lia
     rw[show S u++(⟨#[c]⟩:Str)=S (u++[c])from DY u [c]];left;exact GF gp ?_;left;rw[eL];exact Q9 gp (show Dm (D6 (w0++[u])).length (w0.length:Nat)=some w0.length by unfold Dm;rw[AM (by lia),AM (by unfold D6;rw[Ae,AG];show(w0.length:Int)<((w0.length+1:Nat):Int);lia),Ju]) ?_;exact⟨w0++[u++[c]],rfl,ef,λ_=>by simp,λw hw=>?_,?_,?_,kq.trans (.set (by simp) _)⟩
     ·rcases aaH.mp hw with h|h
      ·exact R1 w (by simp[h])
      ·rw[aau.mp h,AG]
       have:=b1 u (by simp);rw[Aw]at this;show _+1+_≤_
       lia
     ·rw[AG]at b2 ⊢
      show _+1+_≤_
      have b2:w0.length+1+(cs.length+1)≤l.length:=b2;lia
     ·rw[AP]
      unfold D6;simp
end
theorem Ov(k:Kd):1≤k.depth:=by cases k<;>rw[Kd.depth]<;>lia
def BB(ws:List (List Nat))(i:Nat):List Nat:=(ws++GI).getD i []
theorem Gu(h:i≤ws.length+4):B7 (D6 (ws++GI)) (i:Nat)=some (.str (S (BB ws i))):=by
 have hl:i<(ws++GI).length:=by rw[AG];show _<_+5;lia
 exact Ey ?_;unfold D6 BB;rw[Ha,GW hl,PR,GW hl];rfl
theorem Fd(h:BB ws i≠[]):i<ws.length∧ws.drop i=BB ws i::ws.drop (i+1):=by
 have hl:i<ws.length:=by
  by_cases c:i<ws.length
  ·exact c
  ·exact absurd ?_ h
   unfold BB;rw[PR,fM (by lia)];generalize i-ws.length=j;match j with
   |0=>rfl
   |1=>rfl
   |2=>rfl
   |3=>rfl
   |4=>rfl
   |j+5=>rfl
 exact⟨hl,?_⟩;rw[gj hl];congr 1
 unfold BB;rw[PR,Nl hl,GW hl];rfl
theorem CZ{w:List Nat}{r:List (List Nat)}(h:ws.drop i=w::r):BB ws i=w∧i<ws.length:=by
 have hl:i<ws.length:=by
  by_cases c:i<ws.length
  ·exact c
  ·rw[Wq (by lia)]at h;cases h
 rw[gj hl]at h;have e:=(B8 h).1;exact⟨?_,hl⟩;unfold BB;rw[PR,Nl hl,GW hl];exact e
mutual
/-- how Xt a IY holds -/
def Dd:T→Nat
 |.tup ts=>1+CR ts
 |_=>1
def CR:List T→Nat
 |[]=>0
 |t::r=>Dd t+CR r
end
theorem av:∀(a b:List T),CR (a++b)=CR a+CR b
 |[],b=>by rw[Gr,CR];lia
 |x::r,b=>by rw[Lg,CR,CR,av r b];lia
theorem IK(a b:T):Dd (.tup [a,b])=1+Dd a+Dd b:=by rw[Dd,CR,CR,CR];lia
theorem G7(z:Str):Dd (.str z)=1:=by rw[Dd];exactλts h=>by cases h
def SQ(ws:List (List Nat))(i d:Nat)(t:T)(e:Nat):Prop:=∀(k:Kd) (v4:List (List Nat)),k.good→d+k.depth≤6→ws.drop i=k.tk++v4→t=k.tr∧e=i+k.tk.length
theorem QH:S v∈(["1","2","3","4"]:List Str)↔∃j:Nat,1≤j∧j≤4∧v=[48+j]:=by
 rw[show(["1","2","3","4"]:List Str)=[S [49],S [50],S [51],S [52]]by decide +kernel];simp only[aam,Bx,D7];constructor
 ·rintro(h|h|h|h)
  ·exact⟨1,by decide,by decide,GR h⟩
  ·exact⟨2,by decide,by decide,GR h⟩
  ·exact⟨3,by decide,by decide,GR h⟩
  ·exact⟨4,by decide,by decide,GR h⟩
 ·intro⟨j,a,b,rfl⟩
  have c:j=1∨j=2∨j=3∨j=4:=by lia
  rcases c with rfl|rfl|rfl|rfl<;>simp
theorem td(a:1≤j)(b:j≤4):Builtin.Str.occurrences "01234" (S [48+j]) 0 ("01234" : Str).length 1=[j]:=by
 have c:j=1∨j=2∨j=3∨j=4:=by lia
 rcases c with rfl|rfl|rfl|rfl<;>decide +kernel
theorem SM:S v∈(["rec","pick"]:List Str)↔v=FO∨v=Fq:=by
 rw[sT,og];simp only[aam,Bx,D7];exact⟨λh=>h.imp GR GR,λh=>h.imp (λe=>by rw[e]) λe=>by rw[e]⟩
theorem gT(k:Kd):∃ts,k.tr=.tup ts:=by cases k<;>exact⟨_,by rw[Kd.tr]⟩
theorem NM(h:∀w∈ws,w.length≤100000):(BB ws i).length≤100000:=by
 by_cases c:BB ws i=[]
 ·rw[c];exact Fe _
 ·have e:=(Fd c).2
  exact h _ (L6 (by rw[e];simp))
def mU(ws:List (List Nat))(i d:Nat)(w0:List Nat)(fl:List T)(b:Nat):Prop:=∀(fs:ad) (v4:List (List Nat)),CO fs→1≤fs.length→d+(B4 fs+1)≤6→ws.drop i=w0::(EL [40] fs++[[41]]++v4)→∃gs hs,fs=gs++hs∧fl=CI gs∧ws.drop b=EL (if gs=[]then [40]else [44]) hs++([41]::v4)
theorem qf{c c2:Bool}{A:Prop}{R:(Bool→AS→Prop)→Prop}{Kn:Bool→AS→Prop}(hA:Kn true Γ→A)(hR:c=false→∀K:Bool→AS→Prop,K c2 Γ→R K)(hb:(c=true∨(c=false∧c2=true))→Kn true Γ)(he:c=false→c2=false→Kn false Γ):if c=true then A else R Kn:=by
 cases c with
 |true=>rw[AM rfl];exact hA (hb (.inl rfl))
 |false=>
  rw[AE (by decide)];exact hR rfl _ ?_;cases c2 with
  |true=>exact hb (.inr ⟨rfl,rfl⟩)
  |false=>exact he rfl rfl
section
abbrev K3(t:T):Prop:=Pt (λ_=>none) t
structure jf(Γ:AS)(a:Addr)(ws:List (List Nat)):Prop where
 g:Γ a=some (.lst (D6 (ws++GI)))
 ne:∀w∈ws,w≠[]
 l:ws.length≤99000
 wl:∀w∈ws,w.length≤100000
def Mq(n:Nat):B2:=λts Γ Z _=>∃(a:Addr) (ws:List (List Nat)) (i d:Nat),ts=[.ref a,.int (i:Nat),.int (d:Nat)]∧jf Γ a ws∧i≤ws.length+2∧1≤d∧d≤6∧7≤d+n∧∀(t:T) (e:Nat),i≤e→e≤ws.length+2→K3 t→Dd t≤1+4*(e-i)→SQ ws i d t e→Z (.tup [t,.int (e:Nat)]) Γ
abbrev QB:Stmt:=Bb 59
theorem cG:B6 ["words","at","depth","kind","behind","fields","end"] ["words","at","depth"] (Am QB):=⟨rfl,rfl,rfl,by decide +kernel,rfl,by decide +kernel,by decide +kernel⟩
theorem rj(F:eG K "_law_kind_in" "_law_kind_in" QB f fd)(du:Al P w K mg ap "_law_kind_in" lv ["words","at","depth"] (Mq n))(aE:mg "len" = none)(aB:mg "tuple" = none):bJ P w K mg ap BK (lv+1) f fd ["words","at","depth"] (B3 (Mq (n+1))):=by
 exact Bq F cG (λts Γ Z Y h=>?_) (λcO A outer s H E ts Γ Z Y hr h=>?_)
 ·let⟨a,ws,i,d,rfl,_⟩:=h
  rfl
 let⟨a,ws,i,d,rfl,wo,iN,d1,d6,dn,q⟩:=h;exact⟨_,(A4 (AZ (PW.pt (GC (AY FV (A0 2) A5) (HJ (AY Be (AD (A0 0) (A0 1)) A9)))) (A4 (AQ (C0 (A3 (C0 (A3 A9 A6)) (A3 (AA BF (A0 1) A5) A6))))
  A8) A8)
  (A4 (AZ (PW.pt (GC (AY FV (A0 2) A5) (GC (AY Be (AD (A0 0) (A0 1)) A9) (HJ (Ft QF (AD (A0 0) (AA BF (A0 1) A5)) (BN (A3 A9 (A3 A9 (A3 A9 (A3 A9 A6))))) (by with_unfolding_all rfl)))))) (A4 (AQ (C0 (A3 (C0 (A3 A9 (A3 (DT IJ PySem.F.slot_str_index PySem.F.type_str_index hU A9 (A3 (AD (A0 0) (AA BF (A0 1) A5)) A6)) A6))) (A3 (AA BF (A0 1) A5) A6))))
  A8) A8)
  (A4 (AZ (PW.pt (GC (AY FV (A0 2) A5) (HJ (AY Be (AD (A0 0) (A0 1)) A9)))) (A4 (GZ (Ak du hr (A3 (A0 0) (A3 (AA BF (A0 1) A5) (A3 (AA BF (A0 2) A5) A6)))) (GG (n:=2) rfl (Cj (Cs (i:=3) cG.nd) (Cj (Cs (i:=4) cG.nd) GH))))
  (A4 (AQ (C0 (A3 (C0 (A3 A9 (A3 (A0 3) A6))) (A3 (A0 4) A6))))
  A8)) A8)
  (A4 (AZ (PW.pt (BS (AY Hn (A0 2) A5) (BS (Ft KU (AD (A0 0) (A0 1)) (BN (A3 A9 (A3 A9 A6))) (by with_unfolding_all rfl)) (Ck (AY DS (AD (A0 0) (AA BF (A0 1) A5)) A9))))) (A4 (AQ (C0 (A3 E6 (A3 (A0 1) A6))))
  A8) A8)
  (A4 (AL (i:=5) cG.nd (BN A6))
  (A4 (AL (i:=4) cG.nd (AA BF (A0 1) A5))
  (A4 (Lr G3 (PW.pt (BS (AY Be (BE Co rfl aE Bl (A3 (A0 5) A6)) A5) (Ck (PW.pt (GC (AY Be (AD (A0 0) (A0 4)) A9) (HJ (AY Qe (AD (AD (A0 5) (LR A5)) A5) E6))))))) (A4 (GZ (Ak du hr (A3 (A0 0) (A3 (AA BF (A0 4) A5) (A3 (AA BF (A0 2) A5) A6)))) (GG (n:=2) rfl (Cj (Cs (i:=3) cG.nd) (Cj (Cs (i:=6) cG.nd) GH))))
  (A4 (D8 (DT El Fn Fu Fc (A0 5) (A3 (C0 (A3 (AD (A0 0) (AA BF (A0 4) A5)) (A3 (A0 3) A6))) A6)))
  (A4 (AL (i:=4) cG.nd (A0 6))
  A8))))
  (A4 (AZ (AY DS (AD (A0 0) (A0 4)) A9) (A4 (AQ (C0 (A3 E6 (A3 (A0 1) A6))))
  A8) A8)
  (A4 (AQ (C0 (A3 (C0 (A3 (AD (A0 0) (A0 1)) (A3 (Hb KN rfl aB EJ (A3 (A0 5) A6)) A6))) (A3 (AA BF (A0 4) A5) A6))))
  A8))))))))),?_⟩
 simp only[B5];have sl:=E3;have ix:=Gu (ws:=ws) (i:=i) (by lia);have Ts:B7 (D6 (ws++GI)) ((i:Int)+1)=some (.str (S (BB ws (i+1)))):=by
  have:=Gu (ws:=ws) (i:=i+1) (by lia);rwa[show((i+1:Nat):Int)=(i:Int)+1 by lia]at this
 have none_:SQ ws i d .non i→∀Γ',Le Γ Γ'→De Z (.tup [.non,.int (i:Nat)]) Γ':=λc Γ' l=>AH l (q .non i (Ax _) iN .non (by rw[Dd];lia;exactλts h=>by cases h) c);by_cases hd:d<6
 rotate_left
 ·have hd:d=6:=by lia
  subst hd;left;exact none_ (λk v4 kg kd _=>?_) _ .refl;have:=Ov k;lia
 have RJ:decide (((d:Nat):Int)<6)=true:=BY (by lia);generalize hw:BB ws i=w0 at ix;left;exact Bv RJ ?_;left;exact AU wo.g ix ?_;left;by_cases hT:w0=cText
 ·subst hT
  let⟨il,id⟩:=Fd (ws:=ws) (i:=i) (by rw[hw];decide);rw[hw]at id;exact Bv (by decide +kernel) ?_;left;exact AH .refl (q _ (i+1) (by lia) (by lia) (.tup (by show 1≤100000;decide) λt ht=>by rw[aau.mp ht];exact .str (by decide +kernel)) (by rw[Dd,CR,CR,G7];lia) λk v4 kg kd e=>?_);rw[id]at e;cases k with
  |text=>exact⟨by rw[Kd.tr],by rw[Kd.tk];rfl⟩
  |num w=>rw[Kd.tk]at e;cases e
  |row k=>rw[Kd.tk]at e;cases e
  |rec_ fs=>rw[Kd.tk]at e;cases e
  |pick fs=>rw[Kd.tk]at e;cases e
 exact Bs (Dk Mc hT) ?_;left;exact Bv RJ ?_;left;exact AU wo.g ix ?_;left;by_cases hN:w0=G9
 ·subst hN
  let⟨il,id⟩:=Fd (ws:=ws) (i:=i) (by rw[hw];decide);rw[hw]at id;exact Bv (by decide +kernel) ?_;left;exact AU wo.g Ts ?_;left;intro p1 jr;generalize e1:up _ p1 (O.lst _)=Γ1;have g1:=AX e1;have l1:=AW e1 jr
  left;exact Ψ3 _ _ _ ⟨rfl,BM g1,IL ["1","2","3","4"],rfl,O1 ["1","2","3","4"],?_⟩;rw[AE (by decide),GY];left;by_cases h2:∃j:Nat,1≤j∧j≤4∧BB ws (i+1)=[48+j]
  ·exact Bv (BY (QH.mpr h2)) ?_
   let⟨j,j1,j4,ej⟩:=h2;let⟨XI,VL⟩:=Fd (ws:=ws) (i:=i+1) (by rw[ej];simp);left;exact AU (l1 _ _ wo.g) Ts ?_;left;exact Ψ4 _ _ j [] ⟨rfl,rfl,by rw[ej];exact td j1 j4,?_⟩;left;exact AH l1 ?_;have:=q (.tup [.str "num",.int (j:Nat)]) (i+2) (by lia) (by lia) (KA (.str (by decide +kernel)) (.int _)) (by rw[IK,G7,Dd];lia;exactλts h=>by cases h) λk v4 kg kd e=>?_
   ·rwa[show((i+2:Nat):Int)=(i:Int)+2 by lia]at this
   rw[id,VL,ej]at e;cases k with
   |num v=>
    unfold Kd.good at kg;rw[Kd.tk]at e;have e3:[48+j]=[48+v.toNat]:=(B8 (B8 e).2).1;have e3:48+j=48+v.toNat:=(B8 e3).1;exact⟨by rw[Kd.tr,show v=(j:Int)by lia],by rw[Kd.tk];rfl⟩
   |text=>rw[Kd.tk]at e;cases e
   |row k=>rw[Kd.tk]at e;cases e
   |rec_ fs=>rw[Kd.tk]at e;cases e
   |pick fs=>rw[Kd.tk]at e;cases e
  ·exact Bs (BW λz=>h2 (QH.mp z)) ?_
   left;exact Bv RJ ?_;left;exact AU (l1 _ _ wo.g) ix ?_;left;exact Bs (BW (by lia)) ?_;left;exact AU (l1 _ _ wo.g) ix ?_;left;intro p2 qz;generalize e2:up _ p2 (O.lst _)=Γ2;have g2:=AX e2;have l2:=AW e2 qz
   left;exact Ψ3 _ _ _ ⟨rfl,BM g2,IL ["rec","pick"],rfl,O1 ["rec","pick"],?_⟩;rw[AM rfl,GY,BW (λz=>by have:=SM.mp z;revert this;decide)];left;exact none_ (λk v4 kg kd e=>?_) _ (l1.trans l2);exfalso
   rw[id]at e;cases k with
   |num v=>
    unfold Kd.good at kg;rw[Kd.tk]at e;have e4:ws.drop (i+1)=[48+v.toNat]::v4:=(B8 e).2;exact h2 ⟨v.toNat,by lia,by lia,(CZ e4).1⟩
   |text=>rw[Kd.tk]at e;cases e
   |row k=>rw[Kd.tk]at e;cases e
   |rec_ fs=>rw[Kd.tk]at e;cases e
   |pick fs=>rw[Kd.tk]at e;cases e
 exact Bs (Dk NO hN) ?_;left;exact Bv RJ ?_;left;exact AU wo.g ix ?_;left;by_cases hR:w0=FE
 ·subst hR
  let⟨il,id⟩:=Fd (ws:=ws) (i:=i) (by rw[hw];decide);rw[hw]at id;exact Bv (by decide +kernel) ?_;left;exact Ψ4 a ws (i+1) (d+1) ⟨by rw[show((i+1:Nat):Int)=(i:Int)+1 by lia,show((d+1:Nat):Int)=(d:Int)+1 by lia],wo,by lia,by lia,by lia,by lia,λt e e1 e2 pt sz cp=>?_⟩;left;exact AH .refl (q (.tup [.str "row",t]) e (by lia) e2 (KA (.str (by decide +kernel)) pt) (by rw[IK,G7];lia) λk v4 kg kd ee=>?_);rw[id]at ee;cases k with
  |row k=>
   unfold Kd.good at kg;rw[Kd.depth]at kd;rw[Kd.tk]at ee;have e4:ws.drop (i+1)=k.tk++v4:=(B8 ee).2;let⟨c1,c2⟩:=cp k v4 kg (by lia) e4;exact⟨by rw[Kd.tr,c1],by rw[Kd.tk,Aw,c2];lia⟩
  |text=>rw[Kd.tk]at ee;cases ee
  |num w=>rw[Kd.tk]at ee;cases ee
  |rec_ fs=>rw[Kd.tk]at ee;cases ee
  |pick fs=>rw[Kd.tk]at ee;cases ee
 exact Bs (Dk M3 hR) ?_;left;exact Bs (BW (by lia)) ?_;left;exact AU wo.g ix ?_;left;intro p1 jr;generalize e1:up _ p1 (O.lst _)=Γ1;have g1:=AX e1;have l1:=AW e1 jr
 left;exact Ψ3 _ _ _ ⟨rfl,BM g1,IL ["rec","pick"],rfl,O1 ["rec","pick"],?_⟩;rw[AM rfl,GY];left;by_cases hP:w0=FO∨w0=Fq
 rotate_left
 ·exact Bv (by rw[BW λz=>hP (SM.mp z)];rfl) ?_
  left;exact none_ (λk v4 kg kd e=>?_) _ l1;exfalso
  cases k with
  |num v=>rw[Kd.tk]at e;have:=(CZ e).1;rw[hw]at this;exact hN this
  |text=>rw[Kd.tk]at e;have:=(CZ e).1;rw[hw]at this;exact hT this
  |row k=>rw[Kd.tk]at e;have:=(CZ e).1;rw[hw]at this;exact hR this
  |rec_ fs=>rw[Kd.tk]at e;have:=(CZ e).1;rw[hw]at this;exact hP (.inl this)
  |pick fs=>rw[Kd.tk]at e;have:=(CZ e).1;rw[hw]at this;exact hP (.inr this)
 exact Bs (by rw[BY (SM.mpr hP)];rfl) ?_;let⟨il,id⟩:=Fd (ws:=ws) (i:=i) (by rw[hw];rcases hP with e|e<;>rw[e]<;>decide)
 rw[hw]at id;left;exact AU (l1 _ _ wo.g) Ts ?_;left
 /- a record or a choice: NS is written of it -/
 have shape:∀(k:Kd) (v4:List (List Nat)),k.good→ws.drop i=k.tk++v4→∃fs,CO fs∧1≤fs.length∧k.depth=B4 fs+1∧k.tr=.tup [.str (S w0),.tup (CI fs)]∧k.tk=w0::(EL [40] fs++[[41]]):=λk v4 kg e=>by
  cases k with
  |num v=>rw[Kd.tk]at e;have:=(CZ e).1;rw[hw]at this;exact absurd this hN
  |text=>rw[Kd.tk]at e;have:=(CZ e).1;rw[hw]at this;exact absurd this hT
  |row k=>rw[Kd.tk]at e;have:=(CZ e).1;rw[hw]at this;exact absurd this hR
  |rec_ fs=>
   rw[Kd.tk]at e ⊢;have:=(CZ e).1;rw[hw]at this;unfold Kd.good at kg;rw[this,Kd.tr,Kd.depth,←sT];exact⟨fs,kg.1,kg.2.1,rfl,rfl,rfl⟩
  |pick fs=>
   rw[Kd.tk]at e ⊢;have:=(CZ e).1;rw[hw]at this;unfold Kd.good at kg;rw[this,Kd.tr,Kd.depth,←og];exact⟨fs,kg.1,kg.2.1,rfl,rfl,rfl⟩
 by_cases RM:BB ws (i+1)=[40]
 rotate_left
 ·exact Bv (by rw[Dk aI RM];rfl) ?_
  left;exact none_ (λk v4 kg kd e=>?_) _ l1;exfalso
  let⟨fs,gf,f1,_,_,et⟩:=shape k v4 kg e;match fs,f1 with
  |(n,k)::fs,_=>
   rw[et,EL,id]at e;have e4:=(B8 e).2;exact RM (CZ e4).1
 exact Bs (by rw[RM];decide +kernel) ?_;let⟨XI,VL⟩:=Fd (ws:=ws) (i:=i+1) (by rw[RM];simp);left;intro pf oW;generalize ef:up _ pf (O.lst _)=Γf;have gf:=AX ef;have lf:=AW ef oW
 have bf:Γ pf=none:=by
  cases e:Γ pf with
  |none=>rfl
  |some o=>have:=l1 pf o e;rw[oW]at this;cases this
 have Rw:a≠pf:=CF wo.g bf;have Mr:Kq [pf] Γ Γf:=(l1.trans lf).kq;left;exact⟨λm τ Γ'=>∃(fl:List T) (b:Nat) (o3 o6:Option T),τ=[some (.ref a),some (.int (i:Nat)),some (.int (d:Nat)),o3,some (.int (b:Nat)),some (.ref pf),o6]∧Γ' pf=some (.lst fl)∧Kq [pf] Γ Γ'∧m=ws.length+3-b∧i+1≤b∧b≤ws.length+2∧(fl=[]→b=i+1)∧(∀t∈fl,∃nm kt,t=.tup [.str nm,kt])∧(∀t∈fl,K3 t)∧fl.length≤b∧CR fl≤4*(b-i-1)∧mU ws i d w0 fl b,Ψ5 (ws.length+3-(i+1)) [] (i+1) none none ⟨by rw[show((i+1:Nat):Int)=(i:Int)+1 by lia];rfl,gf,Mr,rfl,by lia,by lia,λ_=>rfl,(λt ht=>nomatch ht),(λt ht=>nomatch ht),by simp,by rw[CR];lia,λfs v4 gF f1 fd e=>Ψ2 [] fs ⟨rfl,rfl,by rw[AM rfl];rw[id]at e;have:=(B8 e).2;simpa using this⟩⟩,?_⟩;rintro m τ Γ' ⟨fl,b,o3,o6,rfl,sP,kq,rfl,b1,b2,b3,ft,fp,flb,Zc,lk⟩;have ga:=kq a _ (by simpa using Rw) wo.g;have PH:=Gu (ws:=ws) (i:=b) (by lia);left;exact GF sP ?_;left;obtain⟨kM,vQ⟩:∃kM:T,∀gl t,fl=gl++[t]→∃nm,t=.tup [.str nm,kM]:=by
  rcases SO fl with e|⟨gl,t,e⟩
  ·exact⟨.non,λgl t e2=>by rw[e]at e2;simp at e2⟩
  ·let⟨nm,kt,et⟩:=ft t (by rw[e];simp)
   exact⟨kt,λYF t2 e2=>?_⟩;rw[e,List.concat_eq_append]at e2;have:=(gK e2 rfl).2;cases this;exact⟨nm,et⟩
 exact qf (Γ:=Γ') (c2:=decide (BB ws b=[44])&&!Il kM) (λh=>h) (λhc K hK=>?_) (λUd=>?_) (λQb FY=>?_)
 ·have EW:fl≠[]:=λe=>by rw[e]at hc;revert hc;decide
  obtain⟨gl,t,e⟩:∃gl t,fl=gl++[t]:=Ψ2 fl.dropLast (fl.getLast EW) ((KV EW).symm);let⟨nm,et⟩:=vQ gl t e;have UL:B7 fl (-1)=some (.tup [.str nm,kM]):=by
   rw[e,←et];unfold B7 Dm;rw[AE (by decide),AM (by rw[AG];show -((gl.length+1:Nat):Int)≤-1;lia)];show(gl++[t])[(-1+((gl++[t]).length:Int)).toNat]?=_
   rw[show(-1+((gl++[t]).length:Int)).toNat=gl.length by rw[AG];show(-1+((gl.length+1:Nat):Int)).toNat=_;lia];simp
  left;exact AU ga PH ?_;left;by_cases yx:BB ws b=[44]
  ·rw[BY yx,Dj]at hK
   exact Bv (by rw[yx];decide +kernel) ?_;left;exact AU sP UL ?_;left;exact hK
  ·rw[BW yx,Dq]at hK
   exact Bs (Dk (show("," : Str)=S [44]by decide +kernel) yx) ?_;exact hK
 ·have MV:b+2≤ws.length+2∧(fl=[]∨BB ws b=[44]):=by
   rcases Ud with h|⟨_,h⟩
   ·have e:fl=[]:=by
     have:=C5 h;have:=V.int.inj this;exact Kj (by lia)
    have:=b3 e;exact⟨by lia,.inl e⟩
   ·rw[DN,F9]at h
    have:=(Fd (ws:=ws) (i:=b) (by rw[h.1];simp)).1;exact⟨by lia,.inr h.1⟩
  obtain⟨MV,MM⟩:=MV;rw[AM rfl];have Mw:B7 (D6 (ws++GI)) ((b:Int)+1)=some (.str (S (BB ws (b+1)))):=by
   have:=Gu (ws:=ws) (i:=b+1) (by lia);rwa[show((b+1:Nat):Int)=(b:Int)+1 by lia]at this
  exact⟨λτ Γ2=>∃(yA:List T) (b':Nat) (o3 o6:Option T),τ=[some (.ref a),some (.int (i:Nat)),some (.int (d:Nat)),o3,some (.int (b':Nat)),some (.ref pf),o6]∧Γ2 pf=some (.lst yA)∧Kq [pf] Γ Γ2∧b<b'∧b'≤ws.length+2∧yA≠[]∧(∀t∈yA,∃nm kt,t=.tup [.str nm,kt])∧(∀t∈yA,K3 t)∧yA.length≤b'∧CR yA≤4*(b'-i-1)∧mU ws i d w0 yA b',?_,?_⟩
  ·rintro τ Γ2 ⟨yA,b',o3,o6,rfl,g,k,hb,RL,EW,Uy,Uz,M0,Ux,Tc⟩
   exact⟨ws.length+3-b',by lia,yA,b',o3,o6,rfl,g,k,rfl,by lia,RL,λe=>absurd e EW,Uy,Uz,M0,Ux,Tc⟩
  left;exact Ψ4 a ws (b+2) (d+1) ⟨by rw[show((b+2:Nat):Int)=(b:Int)+2 by lia,show((d+1:Nat):Int)=(d:Int)+1 by lia],⟨ga,wo.ne,wo.l,wo.wl⟩,MV,by lia,by lia,by lia,λt e e1 e2 pt sz cp=>?_⟩;left;exact EP sP ?_;left;exact AU ga Mw ?_;left;exact Ψ3 pf fl _ ⟨rfl,rfl,sP,by have:=wo.l;lia,?_⟩;left;exact Ψ4 (fl++[.tup [.str (S (BB ws (b+1))),t]]) e _ _ ⟨rfl,AP,kq.trans (.set (by simp) _),by lia,e2,by simp,λu hu=>?_,λu hu=>?_,by rw[AG];show _+1≤_;lia,by rw[av,CR,CR,IK,G7];lia,λfs v4 gF f1 UB ee=>?_⟩
  ·rcases aaH.mp hu with h|h
   ·exact ft u h
   ·exact Ψ2 _ _ (aau.mp h)
  ·rcases aaH.mp hu with h|h
   ·exact fp u h
   ·rw[aau.mp h]
    exact KA (.str (by rw[Ad];exact NM wo.wl)) pt
  ·let⟨gs,hs,rfl,Nd,eb⟩:=lk fs v4 gF f1 UB ee
   cases hs with
   |nil=>
    exfalso
    rw[EL,Gr]at eb;rcases MM with h|h
    ·rw[h]at Nd
     have:=Ai List.length Nd;rw[Jo]at this;rw[BV]at f1;have:0=gs.length:=this;lia
    ·rw[(CZ eb).1]at h;cases h
   |cons p r=>
    obtain⟨n,k⟩:=p;rw[EL]at eb;have Qt:ws.drop (b+1)=n.cps.toList::(k.tk++(EL [44] r++([41]::v4))):=by
     have:=Ai (List.drop 1) eb;rw[GD]at this;simpa using this
    have Qs:ws.drop (b+2)=k.tk++(EL [44] r++([41]::v4)):=by
     have:=Ai (List.drop 1) Qt;rw[GD]at this;simpa using this
    have mem:(n,k)∈gs++(n,k)::r:=by simp
    have dk:k.depth≤_:=R5 mem;let⟨c1,c2⟩:=cp k _ (Ol gF mem) (by lia) Qs;exact Ψ2 (gs++[(n,k)]) r ⟨by simp,?_,?_⟩
    ·rw[Nd,bZ,(CZ Qt).1,Ep,c1];rfl
    ·rw[AE (by simp),c2,←GD,Qs,Ly]
 ·rw[AE (by decide)]
  have Bc:Le Γ Γ':=λx o h=>kq x o (by simpa using CF h bf) h;have S7:fl≠[]:=λe=>by rw[e]at Qb;revert Qb;decide
  have done:∀fs v4,CO fs→1≤fs.length→d+(B4 fs+1)≤6→ws.drop i=w0::(EL [40] fs++[[41]]++v4)→fl=CI fs∧ws.drop b=[41]::v4:=λfs v4 gF f1 UB ee=>by
   let⟨gs,hs,rfl,Nd,eb⟩:=lk fs v4 gF f1 UB ee;cases hs with
   |nil=>exact⟨by rw[BV];exact Nd,by rw[EL,Gr]at eb;exact eb⟩
   |cons p r=>
    exfalso
    obtain⟨n,k⟩:=p;have gn:gs≠[]:=λe=>S7 (by rw[Nd,e];rfl);rw[AE gn,EL]at eb;have yx:=(CZ eb).1;rw[BY yx,Dj]at FY;obtain⟨g',y,eg⟩:∃g' y,gs=g'++[y]:=Ψ2 gs.dropLast (gs.getLast gn) ((KV gn).symm);obtain⟨n2,k2⟩:=y;let⟨nm,et⟩:=vQ (CI g') (.tup [.str n2,k2.tr]) (by rw[Nd,eg,bZ];rfl);have:k2.tr=kM:=by cases et;rfl
    let⟨us,eu⟩:=gT k2;rw[←this,eu]at FY;cases FY
  left;exact AU ga PH ?_;left;by_cases HP:BB ws b=[41]
  rotate_left
  ·exact Bv (by rw[Dk JC HP];rfl) ?_
   left;exact none_ (λk v4 kg kd e=>?_) _ Bc;exfalso
   let⟨fs,gF,f1,ZW,_,et⟩:=shape k v4 kg e;exact HP (CZ (done fs v4 gF f1 (by lia) (by rw[e,et];simp)).2).1
  exact Bs (by rw[HP];decide +kernel) ?_;have bl:=(Fd (ws:=ws) (i:=b) (by rw[HP];simp)).1;left;exact AU ga ix ?_;left;exact Ψ2 (.ref pf) _ ⟨rfl,BM sP,?_⟩;left;exact AH Bc ?_;have WU:w0.length≤100000:=by rw[←hw];exact NM wo.wl
  have:=q (.tup [.str (S w0),.tup fl]) (b+1) (by lia) (by lia) (KA (.str (by rw[Ad];exact WU)) (.tup (by have:=wo.l;lia) fp)) (by rw[IK,G7,Dd];lia) λk v4 kg kd e=>?_
  ·rwa[show((b+1:Nat):Int)=(b:Int)+1 by lia]at this
  let⟨fs,gF,f1,ZW,ZT,et⟩:=shape k v4 kg e;let⟨ZZ,ZY⟩:=done fs v4 gF f1 (by lia) (by rw[e,et];simp);exact⟨by rw[ZT,ZZ],?_⟩;have n1:=Ai List.length e;have n2:=Ai List.length ZY;rw[CH,AG]at n1;rw[CH,Aw]at n2;lia
theorem oz(F:eG K "_law_kind_in" "_law_kind_in" QB f fd)(m:mg "_law_kind_in" = some (.ref f))(kp:W.keepIn K (.ref f)=true)(b:Binds K fd ["words","at","depth"] [])(aE:mg "len" = none)(aB:mg "tuple" = none):
  ∀n:Nat,Al P w K mg ap "_law_kind_in" n ["words","at","depth"] (Mq n)
 |0=>Ψ2 f fd ⟨Kh λts Γ Z Y h=>by let⟨_,_,_,_,_,_,_,_,h1,h2,_⟩:=h;lia,m,kp,b⟩
 |n+1=>Ψ2 f fd ⟨rj F (oz F m kp b aE aB n) aE aB,m,kp,b⟩
end
theorem Us(ss:List Str):(ss.map V.str).all EV=true:=by
 rw[aaS];intro v hv;let⟨z,_,rfl⟩:=aaV.mp hv;rfl
theorem uF{f:T→Bool}{r:List T}{x:T}(h:EF f x=false∨∃z b,x=.tup [.str z,b]∧z∈ds.map DB):Ik f (.tup (ds++x::r))=false:=by
 rw[HS];rcases h with h|⟨z,b,rfl,hz⟩
 ·have:(ds++x::r).all (EF f)=false:=by rw[NY,Lk,h];simp
  rw[this];simp
 ·have:¬((ds++.tup [.str z,b]::r).map DB).Nodup:=by
   rw[B1,CV,K0];intro⟨_,_,h3⟩;exact h3 z hz z (by simp[DB]) rfl
  rw[BW this,Ga]
theorem aa7{r:List T}{x:T}(h:EI x=false∨∃z b c,x=.tup [.str z,b,c]∧z∈ds.map DB):Gp (.tup (ds++x::r))=false:=by
 rw[LQ];rcases h with h|⟨z,b,c,rfl,hz⟩
 ·have:(ds++x::r).all EI=false:=by rw[NY,Lk,h];simp
  rw[this];rfl
 ·have:¬((ds++.tup [.str z,b,c]::r).map DB).Nodup:=by
   rw[B1,CV,K0];intro⟨_,_,h3⟩;exact h3 z hz z (by simp[DB]) rfl
  rw[BW this,Ga]
section
abbrev Wk:Stmt:=Bb 52
theorem xj:B6 ["thing"] ["thing"] (Am Wk):=⟨rfl,rfl,rfl,by decide +kernel,rfl,by decide +kernel,by decide +kernel⟩
theorem zj(F:eG K "_law_whole" "_law_whole" Wk f fd)(aj:mg "isinstance" = none)(eW:mg "int" = none)(gU:mg "bool" = none):bJ P w K mg ap BK 1 f fd ["thing"] (B3 JF):=by
 exact Bq F xj (λts Γ Z Y h=>?_) (λcO A outer s H E ts Γ Z Y hr h=>?_)
 ·let⟨t,rfl,_⟩:=h
  rfl
 let⟨t,rfl,pt,q⟩:=h;exact⟨_,(A4 (AQ (FT (D2 rfl aj rfl eW Jh (A0 0)) (Fz (dQ (D2 rfl aj rfl gU To (A0 0))))))
  A8),?_⟩
 simp only[B5];left;exact Cw (Sv pt) ?_;left;exact AR (λc=>?_) (λc=>?_)
 ·left
  exact Cw (ao pt) ?_;left;exact AH .refl ?_;cases t with
  |int i=>exact q
  |bl b=>exact q
  |_=>cases c
 ·exact AH .refl ?_
  cases t with
  |int i=>cases c
  |bl b=>cases c
  |_=>exact q
abbrev TA:Stmt:=Bb 53
theorem ac7:B6 ["thing"] ["thing"] (Am TA):=⟨rfl,rfl,rfl,by decide +kernel,rfl,by decide +kernel,by decide +kernel⟩
theorem abA(F:eG K "_law_is_name" "_law_is_name" TA f fd)(aj:mg "isinstance" = none)(cR:mg "str" = none)(aE:mg "len" = none):bJ P w K mg ap BK 1 f fd ["thing"] (B3 IT):=by
 exact Bq F ac7 (λts Γ Z Y h=>?_) (λcO A outer s H E ts Γ Z Y hr h=>?_)
 ·let⟨t,rfl,_⟩:=h
  rfl
 let⟨t,rfl,pt,q⟩:=h;exact⟨_,(A4 (AZ (PW.pt (BS (Bf (BL (D2 rfl aj rfl cR J5 (A0 0)))) (BS (AY FV (BE Iq rfl aE Bl (A3 (A0 0) A6)) A5) (Ck (AY Hn (BE Iq rfl aE Bl (A3 (A0 0) A6)) A5))))) (A4 (AQ CQ)
  A8) A8)
  (A4 (AQ (Ek (xT hr.Ko) (Gs (own:=["sign"]) (cap:=[]) Gg rfl (Sy (A0 0)) (λ_ _ _ _=>Jm) (λ_ _ _ _=>(tB (Ft nQ (A0 0) A9 (by with_unfolding_all rfl)))) (λ_ _ _ _=>(A0 0))) (BN A6)))
  A8)),?_⟩
 simp only[B5];left;exact Cw (in_str pt) ?_;left;exact AR (λc=>?_) (λc=>?_)
 ·left
  exact AH .refl ?_;cases t with
  |str z=>cases c
  |_=>exact q
 let⟨z,rfl⟩:=KH (t:=t) (by simpa using c);have zl:=pt.txt;have no:Ca (.str z)=false→De Z (.bl false) Γ:=λh=>by rw[h]at q;exact AH .refl q
 left;exact⟨z,rfl,Ce zl (by decide),?_⟩;left;exact AR (λc1=>?_) (λc1=>?_)
 ·have c1:=C5 c1
  left;exact no ?_;rw[Hf,BW (show ¬1≤z.length by lia)];rfl
 have c1:=DO c1;left;exact⟨z,rfl,Ce zl (by decide),?_⟩;left;exact AR (λc2=>?_) (λc2=>?_)
 ·have c2:=C5 c2
  left;exact no ?_;rw[Hf,BW (show ¬z.length≤8 by lia),Ga];rfl
 have c2:=DO c2;left;exact⟨DE (CM (by unfold Hs;rw[Ae,Br];lia)),?_⟩;exact⟨λv4 τ ys Γ'=>∃(cs ds:List Nat) (o:Option T),v4=cs.map (λc=>T.str ⟨#[c]⟩)∧z.cps.toList=ds++cs∧τ=[o]∧ys=(ds.filter λc=>!AB c).map (λc=>T.str ⟨#[c]⟩)∧Γ'=Γ,Ψ3 z.cps.toList [] none ⟨rfl,rfl,rfl,rfl,rfl⟩,?_,?_⟩
 ·intro τ ys Γ'⟨cs,ds,o,er,ez,rfl,rfl,rfl⟩
  have hz:cs=[]:=by
   cases cs with
   |nil=>rfl
   |cons _ _=>cases er
  subst hz;rw[BV]at ez;subst ez;exact⟨trivial,?_⟩;intro p1 jr;generalize e1:up _ p1 (O.lst _)=Γ1;have g1:=AX e1;have l1:=AW e1 jr
  left;intro p2 qz;generalize e2:up _ p2 (O.lst _)=Γ2;have g2:=AX e2;have l2:=AW e2 qz
  exact Ψ3 p1 p2 _ ⟨rfl,rfl,l2 _ _ g1,g2,?_⟩;have:((z.cps.toList.filter λc=>!AB c).map λc=>T.str ⟨#[c]⟩).isEmpty=Ca (.str z):=by
   rw[Hf,BY (show 1≤z.length by lia),BY (show z.length≤8 by lia),List.isEmpty_map,GV];generalize z.cps.toList=l;simp[List.filter_eq_nil_iff]
  rw[this];exact AH (l1.trans l2) q
 ·intro x r τ ys Γ'⟨cs,ds,o,er,ez,rfl,rfl,rfl⟩
  cases cs with
  |nil=>cases er
  |cons c cs=>
   cases er;exact⟨trivial,?_⟩;left;exact Ψ2 _ _ ⟨rfl,rfl,?_⟩;show ∃k,T.bl (!AB c)=.bl k∧_
   left;exact AR (λc3=>?_) (λc3=>?_)
   ·left
    exact Ψ3 cs (ds++[c]) _ ⟨rfl,by rw[ez];simp,rfl,by rw[List.filter_append,B1];simp[c3],rfl⟩
   ·exact Ψ3 cs (ds++[c]) _ ⟨rfl,by rw[ez];simp,rfl,by rw[List.filter_append,B1];simp[c3],rfl⟩
abbrev OK:Stmt:=Bb 54
theorem fG:B6 ["thing","depth","names","one"] ["thing","depth"] (Am OK):=⟨rfl,rfl,rfl,by decide +kernel,rfl,by decide +kernel,by decide +kernel⟩
def KQ(n:Nat):B2:=λts Γ Z _=>∃(t:T) (d:Int),ts=[t,.int d]∧1≤d∧(6-d).toNat<n∧Pt Γ t∧Z (.bl (Aj (6-d).toNat t)) Γ
def QP(n:Nat):B2:=λts Γ Z _=>∃(t:T) (d:Int),ts=[t,.int d]∧1≤d∧(5-d).toNat<n∧Pt Γ t∧Z (.bl (Ik (Aj (5-d).toNat) t)) Γ
theorem xu(F:eG K "_law_are_fields" "_law_are_fields" OK f fd)(gG:Al P w K mg ap "_law_is_name" 1 ["thing"] IT)(cP:Al P w K mg ap "_law_is_kind" (lv+1) ["thing","depth"] (KQ n))(aj:mg "isinstance" = none)(aB:mg "tuple" = none)(aE:mg "len" = none):bJ P w K mg ap BK (lv+2) f fd ["thing","depth"] (B3 (QP n)):=by
 exact Bq F fG (λts Γ Z Y h=>?_) (λcO A outer s H E ts Γ Z Y hr h=>?_)
 ·let⟨t,d,rfl,_⟩:=h
  rfl
 let⟨t,d,rfl,d1,dn,pt,q⟩:=h;exact⟨_,(A4 (AZ (PW.pt (BS (Bf (BL (D2 rfl aj rfl aB EJ (A0 0)))) (BS (AY FV (BE Co rfl aE Bl (A3 (A0 0) A6)) A5) (Ck (AY Hn (BE Co rfl aE Bl (A3 (A0 0) A6)) A5))))) (A4 (AQ CQ)
  A8) A8)
  (A4 (AL (i:=2) fG.nd (BN A6))
  (A4 (Hd G3 rfl (Io (A0 0)) (Cs (i:=3) fG.nd) (A4 (AZ (PW.pt (BS (Bf (BL (D2 rfl aj rfl aB EJ (A0 3)))) (BS (AY DS (BE Co rfl aE Bl (A3 (A0 3) A6)) A5) (BS (Bf (BL (Ak gG hr (A3 (AD (A0 3) A5) A6)))) (Ck (Ft QF (AD (A0 3) A5) (A0 2) (by with_unfolding_all rfl))))))) (A4 (AQ CQ)
  A8) A8)
  (A4 (AZ (Bf (BL (Ak cP hr (A3 (AD (A0 3) A5) (A3 (AA BF (A0 1) A5) A6))))) (A4 (AQ CQ)
  A8) A8)
  (A4 (D8 (DT El Fn Fu Fc (A0 2) (A3 (AD (A0 3) A5) A6)))
  A8))))
  (A4 (AQ CQ)
  A8)))),?_⟩
 simp only[B5];left;exact Cw (G4 pt) ?_;left;exact AR (λc=>?_) (λc=>?_)
 ·left
  exact AH .refl ?_;cases t with
  |tup ts=>cases c
  |_=>exact q
 let⟨ts,rfl⟩:=Gi (t:=t) (by simpa using c);let⟨tl,tm⟩:=pt.items;generalize he:(5-d).toNat=e at *
 have no:∀Γ',Le Γ Γ'→Ik (Aj e) (.tup ts)=false→De Z (.bl false) Γ':=λΓ' l h=>by rw[h]at q;exact AH l q
 left;exact AR (λc1=>?_) (λc1=>?_)
 ·have c1:=C5 c1
  left;exact no Γ .refl ?_;rw[HS,BW (show ¬1≤ts.length by lia)];rfl
 have c1:=DO c1;left;exact AR (λc2=>?_) (λc2=>?_)
 ·have c2:=C5 c2
  left;exact no Γ .refl ?_;rw[HS,BW (show ¬ts.length≤6 by lia),Ga];rfl
 have c2:=DO c2;left;intro pn EU;generalize e1:up _ pn (O.lst _)=Γ1;have gn:=AX e1;have l1:=AW e1 EU
 left;exact⟨λv4 τ Γ'=>∃(ds:List T) (o3:Option T),ts=ds++v4∧τ=[some (.tup ts),some (.int d),some (.ref pn),o3]∧ds.all (EF (Aj e))=true∧(ds.map DB).Nodup∧Γ' pn=some (.lst ((ds.map DB).map T.str))∧Kq [pn] Γ Γ',Ψ2 [] none ⟨rfl,rfl,rfl,OW,gn,l1.kq⟩,?_,?_⟩
 ·intro τ Γ'⟨ds,o3,ez,rfl,al,nd,HQ,kq⟩
  rw[BV]at ez;subst ez;exact⟨trivial,?_⟩;left;have:Ik (Aj e) (.tup ts)=true:=by rw[HS,BY (show 1≤ts.length by lia),BY (show ts.length≤6 by lia),al,BY nd];rfl
  rw[this]at q;exact AH (λx o h=>kq x o (by have:=CF h EU;simpa using this) h) q
 ·intro x r τ Γ'⟨ds,o3,ez,rfl,al,nd,HQ,kq⟩
  have lΓ:Le Γ Γ':=λx o h=>kq x o (by have:=CF h EU;simpa using this) h;have px:Pt Γ' x:=(tm x (by rw[ez];simp)).mono lΓ;have bad:(EF (Aj e) x=false∨∃z b,x=.tup [.str z,b]∧z∈ds.map DB)→De Z (.bl false) Γ':=λh=>no Γ' lΓ (by rw[ez];exact uF h);left;exact Cw (G4 px) ?_;left;exact AR (λc3=>?_) (λc3=>?_)
  ·left
   exact bad (.inl ?_);cases x with
   |tup us=>cases c3
   |_=>rfl
  let⟨us,rfl⟩:=Gi (t:=x) (by simpa using c3);let⟨ul,um⟩:=px.items;left;exact AR (λc4=>?_) (λc4=>?_)
  ·have c4:us.length≠2:=λe=>by rw[e]at c4;revert c4;decide
   left;exact bad (.inl (ik c4))
  have c4:us.length=2:=by
   have:decide (V.int (us.length:Int)=V.int 2)=true:=by simpa using c4
   have:=Jd this;lia
  match us,c4 with
  |[y,k],_=>
   have eb:EF (Aj e) (.tup [y,k])=(Ca y&&Aj e k):=rfl;left;exact⟨y,rfl,um y (by simp),?_⟩;left;exact AR (λc5=>?_) (λc5=>?_)
   ·left
    exact bad (.inl (by rw[eb,show Ca y=false by simpa using c5];rfl))
   have c5:Ca y=true:=by simpa using c5
   let⟨z,rfl⟩:=Kt c5;left;exact Ng HQ rfl (IL _) rfl (Us _) ?_;show ∃k,T.bl (DX (.str z) ((ds.map DB).map V.str))=.bl k∧_
   rw[GY];left;exact AR (λc6=>?_) (λc6=>?_)
   ·left
    exact bad (.inr ⟨z,k,rfl,C5 c6⟩)
   have c6:=DO c6;left;exact Ψ2 k (d+1) ⟨rfl,by lia,by lia,um k (by simp),?_⟩;rw[show(6-(d+1)).toNat=e by lia];left;exact AR (λc7=>?_) (λc7=>?_)
   ·left
    exact bad (.inl (by rw[eb,show Aj e k=false by simpa using c7,Ga]))
   have c7:Aj e k=true:=by simpa using c7
   left;exact EP HQ ?_;left;have dl:ds.length≤6:=by rw[ez,AG]at c2;lia
   exact Ψ3 pn _ _ ⟨rfl,rfl,HQ,CM (by rw[Ae,Ae];lia),?_⟩;left;exact Ψ2 (ds++[.tup [.str z,k]]) _ ⟨by rw[ez];simp,rfl,?_,?_,?_,kq.trans (.set (by simp) _)⟩
   ·rw[NY,al]
    show(true&&(EF (Aj e) (.tup [.str z,k])&&true))=true
    rw[eb,c5,c7];rfl
   ·rw[B1,K0]
    exact⟨nd,by simp,λa ha b hb e=>c6 ?_⟩;have hb:b=z:=by simpa[DB]using hb
    rw[←hb,←e];exact ha
   ·rw[AP,B1,B1];rfl
abbrev Oz:Stmt:=Bb 55
theorem zV:B6 ["thing","depth"] ["thing","depth"] (Am Oz):=⟨rfl,rfl,rfl,by decide +kernel,rfl,by decide +kernel,by decide +kernel⟩
theorem zC(F:eG K "_law_is_kind" "_law_is_kind" Oz f fd)(kS:Al P w K mg ap "_law_whole" 1 ["thing"] JF)(cP:Al P w K mg ap "_law_is_kind" (lv+1) ["thing","depth"] (KQ n))(oj:Al P w K mg ap "_law_are_fields" (lv+2) ["thing","depth"] (QP n))(aj:mg "isinstance" = none)(aB:mg "tuple" = none)(cR:mg "str" = none)(aE:mg "len" = none):bJ P w K mg ap BK (lv+3) f fd ["thing","depth"] (B3 (KQ (n+1))):=by
 exact Bq F zV (λts Γ Z Y h=>?_) (λcO A outer s H E ts Γ Z Y hr h=>?_)
 ·let⟨t,d,rfl,_⟩:=h
  rfl
 let⟨t,d,rfl,d1,dn,pt,q⟩:=h;exact⟨_,(A4 (AZ (PW.pt (BS (AY Hn (A0 1) A5) (BS (Bf (BL (D2 rfl aj rfl aB EJ (A0 0)))) (BS (AY FV (BE Co rfl aE Bl (A3 (A0 0) A6)) A5) (Ck (Bf (BL (D2 rfl aj rfl cR J5 (AD (A0 0) A5))))))))) (A4 (AQ CQ)
  A8) A8)
  (A4 (AZ (AY Be (BE Co rfl aE Bl (A3 (A0 0) A6)) A5) (A4 (AQ (Ek Be (AD (A0 0) A5) A9))
  A8) A8)
  (A4 (AZ (AY DS (BE Co rfl aE Bl (A3 (A0 0) A6)) A5) (A4 (AQ CQ)
  A8) A8)
  (A4 (AZ (AY Be (AD (A0 0) A5) A9) (A4 (AQ (FT (Ak kS hr (A3 (AD (A0 0) A5) A6)) (FT (Ek J4 A5 (AD (A0 0) A5)) (Fz (Ek J4 (AD (A0 0) A5) A5)))))
  A8) A8)
  (A4 (AZ (AY Be (AD (A0 0) A5) A9) (A4 (AQ (Ak cP hr (A3 (AD (A0 0) A5) (A3 (AA BF (A0 1) A5) A6))))
  A8) A8)
  (A4 (AQ (FT (fV (Ek Be (AD (A0 0) A5) A9) (Fz (Ek Be (AD (A0 0) A5) A9))) (Fz (Ak oj hr (A3 (AD (A0 0) A5) (A3 (A0 1) A6))))))
  A8)))))),?_⟩
 simp only[B5];have no:Aj (6-d).toNat t=false→De Z (.bl false) Γ:=λh=>by rw[h]at q;exact AH .refl q
 left;exact AR (λc=>?_) (λc=>?_)
 ·have c:=C5 c
  left;exact no ?_;rw[show(6-d).toNat=0 by lia];unfold Aj;rfl
 have c:=DO c;obtain⟨e,he⟩:∃e:Nat,(6-d).toNat=e+1:=⟨(5-d).toNat,by lia⟩;have MO:(5-d).toNat=e:=by lia
 rw[he]at no q;left;exact Cw (G4 pt) ?_;left;exact AR (λc=>?_) (λc=>?_)
 ·left
  exact no (Om (by simpa using c))
 let⟨ts,rfl⟩:=Gi (t:=t) (by simpa using c);let⟨tl,tm⟩:=pt.items;left;exact AR (λc1=>?_) (λc1=>?_)
 ·have c1:=C5 c1
  left;exact no (dG (by lia) (by lia))
 have c1:=DO c1;obtain⟨h,ys,rfl⟩:∃h ys,ts=h::ys:=by
  cases ts with
  |nil=>exact absurd (by decide) c1
  |cons h ys=>exact Ψ2 h ys rfl
 left;exact Cw (in_str (tm h (by simp))) ?_;left;exact AR (λc2=>?_) (λc2=>?_)
 ·left
  exact no (qL (by simpa using c2))
 let⟨z,rfl⟩:=KH (t:=h) (by simpa using c2);left;match ys with
 |[]=>
  left;rw[eO]at q;have e:decide (V.str z=V.str "text")=decide (z = "text"):=abZ.mpr ⟨V.str.inj,λe=>by rw[e]⟩;rw[e];exact AH .refl q
 |x::y::r=>
  exact AR (λc3=>?_) (λc3=>?_)
  ·have:=Jd c3
   simp only[Aw]at this;lia
  left;exact no (dG (by simp) (by simp))
 |[x]=>
  have px:=tm x (by simp);rw[LI]at q;left;exact AR (λc3=>?_) (λc3=>?_)
  ·rw[AM (Kr c3)]at q
   left;exact⟨x,rfl,px,?_⟩;left;exact AR (λc4=>?_) (λc4=>?_)
   ·let⟨i,rfl⟩:=Q7 c4
    left;have q:Z (.bl (decide (1≤i)&&decide (i≤4))) Γ:=q;exact AR (λc5=>?_) (λc5=>?_)
    ·rw[c5,Dj]at q
     left;exact AH .refl q
    ·rw[c5,Dq]at q
     exact AH .refl q
   ·have:OP x=false:=by
     cases x with
     |int i=>cases c4
     |_=>rfl
    rw[this]at q;exact AH .refl q
  rw[AE (KO c3)]at q;left;exact AR (λc4=>?_) (λc4=>?_)
  ·rw[AM (Kr c4)]at q
   left;exact Ψ2 x (d+1) ⟨rfl,by lia,by lia,px,?_⟩;rw[show(6-(d+1)).toNat=e by lia];exact AH .refl q
  rw[AE (KO c4)]at q;left;have fin:(decide (z = "rec")||decide (z = "pick"))=true→QP n [x,.int d] Γ (De Z) λ_ _=>False:=λh=>by
   rw[h,Dj]at q;exact Ψ2 x d ⟨rfl,by lia,by lia,px,?_⟩;rw[MO];exact AH .refl q
  exact AR (λc5=>?_) (λc5=>?_)
  ·left
   exact fin (by rw[BY (Kr c5)];rfl)
  left;exact AR (λc6=>?_) (λc6=>?_)
  ·left
   exact fin (by rw[BY (Kr c6),Bool.or_true])
  ·rw[BW (KO c5),BW (KO c6)]at q
   exact AH .refl q
abbrev Vj:Stmt:=Bb 56
theorem gV:B6 ["thing","names","one"] ["thing"] (Am Vj):=⟨rfl,rfl,rfl,by decide +kernel,rfl,by decide +kernel,by decide +kernel⟩
def qh:B2:=λts Γ Z _=>∃t:T,ts=[t]∧Pt Γ t∧Z (.bl (Dx t)) Γ
theorem uG(F:eG K "_law_is_paper" "_law_is_paper" Vj f fd)(gG:Al P w K mg ap "_law_is_name" 1 ["thing"] IT)(kS:Al P w K mg ap "_law_whole" 1 ["thing"] JF)(cP:Al P w K mg ap "_law_is_kind" 13 ["thing","depth"] (KQ 6))(aj:mg "isinstance" = none)(aB:mg "tuple" = none)(cR:mg "str" = none)(aE:mg "len" = none):bJ P w K mg ap BK 14 f fd ["thing"] (B3 qh):=by
 exact Bq F gV (λts Γ Z Y h=>?_) (λcO A outer s H E ts Γ Z Y hr h=>?_)
 ·let⟨t,rfl,_⟩:=h
  rfl
 let⟨t,rfl,pt,q⟩:=h;exact⟨_,(A4 (AZ (PW.pt (BS (Bf (BL (D2 rfl aj rfl aB EJ (A0 0)))) (BS (AY DS (BE Co rfl aE Bl (A3 (A0 0) A6)) A5) (Ck (Bf (BL (Ak gG hr (A3 (AD (A0 0) A5) A6)))))))) (A4 (AQ CQ)
  A8) A8)
  (A4 (AZ (PW.pt (BS (Bf (BL (Ak kS hr (A3 (AD (A0 0) A5) A6)))) (BS (AY FV (AD (A0 0) A5) A5) (BS (AY Hn (AD (A0 0) A5) A5) (Ck (Bf (BL (D2 rfl aj rfl aB EJ (AD (A0 0) A5))))))))) (A4 (AQ CQ)
  A8) A8)
  (A4 (AL (i:=1) gV.nd (BN A6))
  (A4 (Hd G3 rfl (Io (AD (A0 0) A5)) (Cs (i:=2) gV.nd) (A4 (AZ (PW.pt (BS (Bf (BL (D2 rfl aj rfl aB EJ (A0 2)))) (BS (AY DS (BE Co rfl aE Bl (A3 (A0 2) A6)) A5) (BS (Bf (BL (Ak gG hr (A3 (AD (A0 2) A5) A6)))) (Ck (Ft QF (AD (A0 2) A5) (A0 1) (by with_unfolding_all rfl))))))) (A4 (AQ CQ)
  A8) A8)
  (A4 (AZ (PW.pt (BS (Bf (BL (D2 rfl aj rfl cR J5 (AD (A0 2) A5)))) (Ck (Ft KU (AD (A0 2) A5) (BN (A3 A9 (A3 A9 (A3 A9 (A3 A9 A6))))) (by with_unfolding_all rfl))))) (A4 (AQ CQ)
  A8) A8)
  (A4 (AZ (Bf (BL (Ak cP hr (A3 (AD (A0 2) A5) (A3 A5 A6))))) (A4 (AQ CQ)
  A8) A8)
  (A4 (D8 (DT El Fn Fu Fc (A0 1) (A3 (AD (A0 2) A5) A6)))
  A8)))))
  (A4 (AQ (fV (Ek Jq (AD (A0 0) A5) E6) (Fz (Ak cP hr (A3 (AD (A0 0) A5) (A3 A5 A6))))))
  A8))))),?_⟩
 simp only[B5];left;exact Cw (G4 pt) ?_;left;exact AR (λc=>?_) (λc=>?_)
 ·left
  exact AH .refl ?_;cases t with
  |tup ts=>cases c
  |_=>exact q
 let⟨ts,rfl⟩:=Gi (t:=t) (by simpa using c);let⟨tl,tm⟩:=pt.items;left;exact AR (λc1=>?_) (λc1=>?_)
 ·have c1:ts.length≠4:=λe=>by rw[e]at c1;revert c1;decide
  left;rw[rF c1]at q;exact AH .refl q
 have c1:ts.length=4:=by
  have:decide (V.int (ts.length:Int)=V.int 4)=true:=by simpa using c1
  have:=Jd this;lia
 match ts,c1 with
 |[a,b,c,d],_=>
  have q:Z (.bl (Ca a&&(Hc b&&(Gp c&&IF d)))) Γ:=q;left;exact⟨a,rfl,tm a (by simp),?_⟩;left;exact AR (λc2=>?_) (λc2=>?_)
  ·left
   rw[show Ca a=false by simpa using c2,Dq]at q;exact AH .refl q
  rw[show Ca a=true by simpa using c2,Dj]at q;left;exact⟨b,rfl,tm b (by simp),?_⟩;left;exact AR (λc3=>?_) (λc3=>?_)
  ·have:Hc b=false:=by
    cases b with
    |int i=>cases c3
    |_=>rfl
   left;rw[this,Dq]at q;exact AH .refl q
  let⟨i,rfl⟩:=Q7 (t:=b) (by simpa using c3);have q:Z (.bl ((decide (i=0)||decide (i=1))&&(Gp c&&IF d))) Γ:=q;left;exact AR (λc4=>?_) (λc4=>?_)
  ·have c4:=C5 c4
   left;rw[BW (show ¬i=0 by lia),BW (show ¬i=1 by lia)]at q;exact AH .refl q
  have c4:=DO c4;left;exact AR (λc5=>?_) (λc5=>?_)
  ·have c5:=C5 c5
   left;rw[BW (show ¬i=0 by lia),BW (show ¬i=1 by lia)]at q;exact AH .refl q
  have c5:=DO c5;have ei:(decide (i=0)||decide (i=1))=true:=by
   have:i=0∨i=1:=by lia
   rcases this with e|e<;>rw[e]<;>rfl
  rw[ei,Dj]at q;left;have pc:=tm c (by simp);have pd:=tm d (by simp);exact II (i:=2) (t:=c) rfl ?_;exact Cw (G4 pc) ?_;left;exact AR (λc6=>?_) (λc6=>?_)
  ·have:Gp c=false:=by
    cases c with
    |tup us=>cases c6
    |_=>rfl
   left;rw[this,Dq]at q;exact AH .refl q
  let⟨us,rfl⟩:=Gi (t:=c) (by simpa using c6);let⟨ul,um⟩:=pc.items;have no:∀Γ',Le Γ Γ'→Gp (.tup us)=false→De Z (.bl false) Γ':=λΓ' l h=>by rw[h,Dq]at q;exact AH l q
  left;intro pn EU;generalize e1:up _ pn (O.lst _)=Γ1;have gn:=AX e1;have l1:=AW e1 EU
  left;exact II (i:=2) (t:=.tup us) rfl ?_;left;exact⟨λv4 τ Γ'=>∃(ds:List T) (o2:Option T),us=ds++v4∧τ=[some (.tup [a,.int i,.tup us,d]),some (.ref pn),o2]∧ds.all EI=true∧(ds.map DB).Nodup∧Γ' pn=some (.lst ((ds.map DB).map T.str))∧Kq [pn] Γ Γ',Ψ2 [] none ⟨rfl,rfl,rfl,OW,gn,l1.kq⟩,?_,?_⟩
  ·intro τ Γ'⟨ds,o2,ez,rfl,al,nd,HQ,kq⟩
   rw[BV]at ez;subst ez;have lΓ:Le Γ Γ':=λx o h=>kq x o (by have:=CF h EU;simpa using this) h;rw[LQ,al,BY nd,Dj,Dj]at q;exact⟨trivial,?_⟩;left;exact II (i:=3) (t:=d) rfl ?_;left;exact AR (λc7=>?_) (λc7=>?_)
   ·have:d=.non:=by
     cases d with
     |non=>rfl
     |_=>cases c7
    rw[this]at q;exact AH lΓ q
   ·have:IF d=Aj 5 d:=by
     cases d with
     |non=>cases c7
     |_=>rfl
    rw[this]at q;left;exact II (i:=3) (t:=d) rfl ?_;left;exact Ψ2 d 1 ⟨rfl,by decide,by decide,pd.mono lΓ,AH lΓ q⟩
  ·intro x r τ Γ'⟨ds,o2,ez,rfl,al,nd,HQ,kq⟩
   have lΓ:Le Γ Γ':=λx o h=>kq x o (by have:=CF h EU;simpa using this) h;have px:Pt Γ' x:=(um x (by rw[ez];simp)).mono lΓ;have bad:∀Δ,Le Γ Δ→(EI x=false∨∃z b c,x=.tup [.str z,b,c]∧z∈ds.map DB)→De Z (.bl false) Δ:=λΔ l h=>no Δ l (by rw[ez];exact aa7 h);left;exact Cw (G4 px) ?_;left;exact AR (λc7=>?_) (λc7=>?_)
   ·left
    exact bad Γ' lΓ (.inl ?_);cases x with
    |tup us=>cases c7
    |_=>rfl
   let⟨vs,rfl⟩:=Gi (t:=x) (by simpa using c7);let⟨vl,vm⟩:=px.items;left;exact AR (λc8=>?_) (λc8=>?_)
   ·have c8:vs.length≠3:=λe=>by rw[e]at c8;revert c8;decide
    left;exact bad Γ' lΓ (.inl (oo c8))
   have c8:vs.length=3:=by
    have:decide (V.int (vs.length:Int)=V.int 3)=true:=by simpa using c8
    have:=Jd this;lia
   match vs,c8 with
   |[y,wy,k],_=>
    have eb:EI (.tup [y,wy,k])=(Ca y&&(Hp wy&&Aj 5 k)):=rfl;left;exact⟨y,rfl,vm y (by simp),?_⟩;left;exact AR (λc9=>?_) (λc9=>?_)
    ·left
     exact bad Γ' lΓ (.inl (by rw[eb,show Ca y=false by simpa using c9];rfl))
    have c9:Ca y=true:=by simpa using c9
    let⟨z,rfl⟩:=Kt c9;left;exact Ng HQ rfl (IL _) rfl (Us _) ?_;show ∃k,T.bl (DX (.str z) ((ds.map DB).map V.str))=.bl k∧_
    rw[GY];left;exact AR (λQS=>?_) (λQS=>?_)
    ·left
     exact bad Γ' lΓ (.inr ⟨z,wy,k,rfl,C5 QS⟩)
    have QS:=DO QS;left;exact Cw (in_str (vm wy (by simp))) ?_;left;exact AR (λUK=>?_) (λUK=>?_)
    ·have:Hp wy=false:=by
      cases wy with
      |str z=>cases UK
      |_=>rfl
     left;exact bad Γ' lΓ (.inl (by rw[eb,this,Dq,Ga]))
    let⟨wz,rfl⟩:=KH (t:=wy) (by simpa using UK);left;intro p2 qz;generalize e2:up _ p2 (O.lst _)=Γ2;have g2:=AX e2;have l2:=AW e2 qz
    have g2:Γ2 p2=some (.lst (gY.map T.str)):=g2;exact Ng g2 rfl (IL _) rfl (Us _) ?_;show ∃k,T.bl (!DX (.str wz) (gY.map V.str))=.bl k∧_
    rw[GY];have ew:Hp (.str wz)=decide (wz∈gY):=rfl;left;exact AR (λNL=>?_) (λNL=>?_)
    ·left
     exact bad Γ2 (lΓ.trans l2) (.inl (by rw[eb,ew,show decide (wz∈gY)=false by simpa using NL,Dq,Ga]))
    have NL:decide (wz∈gY)=true:=by cases h:decide (wz∈gY)with|true=>rfl|false=>rw[h]at NL;cases NL
    left;exact II (i:=2) (t:=k) rfl ?_;left;exact Ψ2 k 1 ⟨rfl,by decide,by decide,(vm k (by simp)).mono l2,?_⟩;show ∃k',T.bl (Aj 5 k)=.bl k'∧_
    left;exact AR (λQR=>?_) (λQR=>?_)
    ·left
     exact bad Γ2 (lΓ.trans l2) (.inl (by rw[eb,show Aj 5 k=false by simpa using QR,Ga,Ga]))
    have QR:Aj 5 k=true:=by simpa using QR
    left;exact EP (l2 _ _ HQ) ?_;left;have dl:ds.length≤100000:=by rw[ez,AG]at ul;lia
    exact Ψ3 pn _ _ ⟨rfl,rfl,l2 _ _ HQ,by rw[E3,Ae,Ae];lia,?_⟩;left;exact Ψ2 (ds++[.tup [.str z,.str wz,k]]) _ ⟨by rw[ez];simp,rfl,?_,?_,?_,(kq.trans l2.kq).trans (.set (by simp) _)⟩
    ·rw[NY,al]
     show(true&&(EI (.tup [.str z,.str wz,k])&&true))=true
     rw[eb,c9,ew,NL,QR];rfl
    ·rw[B1,K0]
     exact⟨nd,by simp,λa ha b hb e=>QS ?_⟩;have hb:b=z:=by simpa[DB]using hb
     rw[←hb,←e];exact ha
    ·rw[AP,B1,B1];rfl
end
def CN:Nat→Nat
 |0=>0
 |1=>5
 |d+2=>7+6*(11+CN (d+1))
theorem jk:∀d:Nat,CN d≤CN (d+1)
 |0=>by decide
 |1=>by decide
 |d+2=>by
  have:=jk (d+1);show 7+6*(11+CN (d+1))≤7+6*(11+CN (d+1+1))
  lia
theorem Mp{e:Nat}(h:d≤e):CN d≤CN e:=by
 induction h with
 |refl=>exact Ax _
 |step _ ih=>exact Ce ih (jk _)
theorem Lo(sep:List Nat){B:Nat}:∀{ls:List (List Nat)},(∀l∈ls,l.length≤B)→(ls.map λl=>l.length+sep.length).sum≤ls.length*(B+sep.length)
 |[],_=>by simp
 |x::r,h=>by
  rw[CV,Hl,Aw,OF];have:=Lo sep (ls:=r) λl hl=>h l (by simp[hl]);have:=h x (by simp);lia
mutual
theorem aa:∀{k:Kd},k.good→k.sh.length≤CN k.depth
 |.num w,_=>by rw[Kd.sh,Kd.depth];exact Ax _
 |.text,_=>by rw[Kd.sh,Kd.depth];decide
 |.row k,h=>by
  unfold Kd.good at h;have:=aa h;rw[Kd.sh,Kd.depth,AG];have e:CN (k.depth+1)=7+6*(11+CN k.depth):=by
   have:=Ov k;obtain⟨d,hd⟩:∃d,k.depth=d+1:=⟨k.depth-1,by lia⟩;rw[hd];rfl
  rw[e];show 4+_≤_
  lia
 |.rec_ fs,h=>by
  unfold Kd.good at h;have h1:=LS h.1;have h2:=Lo [44,32] h1;have h3:=HI [44,32] (Af fs);have hl:(Af fs).length=fs.length:=by rw[IX,Ae]
  have hd:1≤B4 fs:=by
   match fs,h.2.1 with
   |(n,k)::r,_=>rw[B4];have:=Ov k;lia
  rw[Kd.sh,Kd.depth];simp only[AG];have e:CN (B4 fs+1)=7+6*(11+CN (B4 fs)):=by
   obtain⟨d,hd⟩:∃d,B4 fs=d+1:=⟨B4 fs-1,by lia⟩;rw[hd];rfl
  rw[e];have h4:(Af fs).length*(9+CN (B4 fs)+2)≤6*(9+CN (B4 fs)+2):=OV _ (by lia);have h2:((Af fs).map λl=>l.length+2).sum≤(Af fs).length*(9+CN (B4 fs)+2):=h2;have h3:(B9 [44,32] (Af fs)).length≤((Af fs).map λl=>l.length+2).sum:=h3;show 3+2+_+1≤_
  lia
 |.pick fs,h=>by
  unfold Kd.good at h;have h1:=LS h.1;have h2:=Lo [44,32] h1;have h3:=HI [44,32] (Af fs);have hl:(Af fs).length=fs.length:=by rw[IX,Ae]
  have hd:1≤B4 fs:=by
   match fs,h.2.1 with
   |(n,k)::r,_=>rw[B4];have:=Ov k;lia
  rw[Kd.sh,Kd.depth];simp only[AG];have e:CN (B4 fs+1)=7+6*(11+CN (B4 fs)):=by
   obtain⟨d,hd⟩:∃d,B4 fs=d+1:=⟨B4 fs-1,by lia⟩;rw[hd];rfl
  rw[e];have h4:(Af fs).length*(9+CN (B4 fs)+2)≤6*(9+CN (B4 fs)+2):=OV _ (by lia);have h2:((Af fs).map λl=>l.length+2).sum≤(Af fs).length*(9+CN (B4 fs)+2):=h2;have h3:(B9 [44,32] (Af fs)).length≤((Af fs).map λl=>l.length+2).sum:=h3;show 4+2+_+1≤_
  lia
theorem LS:∀{fs:List (Str×Kd)},CO fs→∀l∈Af fs,l.length≤9+CN (B4 fs)
 |[],_,l,h=>by rw[Af]at h;cases h
 |(n,k)::r,g,l,h=>by
  unfold CO at g;rw[Af]at h;rw[B4];have a1:CN k.depth≤CN (max k.depth (B4 r)):=Mp (Nat.le_max_left _ _);have a2:CN (B4 r)≤CN (max k.depth (B4 r)):=Mp (Nat.le_max_right _ _);rcases aam.mp h with rfl|h
  ·have:=aa g.2.1
   rw[AG,AG,Br];have:=g.1.2.1;show _+1+_≤_
   lia
  ·have:=LS g.2.2 l h
   lia
end
theorem Ls(g:k.good)(d:k.depth≤5):k.sh.length≤25387:=Ce (aa g) (Ce (Mp d) (by decide))
theorem sC{w:Int}(h1:1≤w)(h2:w≤4):B7 ("01234" : Str).cps.toList w=some (48+w.toNat):=by
 have:w=1∨w=2∨w=3∨w=4:=by lia
 rcases this with rfl|rfl|rfl|rfl<;>decide +kernel
section
def LJ(n:Nat):B2:=λts Γ Z _=>∃k:Kd,ts=[k.tr]∧k.good∧k.depth<n∧k.depth≤5∧Z (.str (S k.sh)) Γ
abbrev QM:Stmt:=Bb 50
theorem acV:B6 ["kind"] ["kind"] (Am QM):=⟨rfl,rfl,rfl,by decide +kernel,rfl,by decide +kernel,by decide +kernel⟩
theorem rq(F:eG K "_law_shown" "_law_shown" QM f fd)(dh:Al P w K mg ap "_law_shown" lv ["kind"] (LJ n)):bJ P w K mg ap BK (lv+1) f fd ["kind"] (B3 (LJ (n+1))):=by
 exact Bq F acV (λts Γ Z Y h=>?_) (λcO A outer s H E ts Γ Z Y hr h=>?_)
 ·let⟨k,rfl,_⟩:=h
  rfl
 let⟨k,rfl,kg,kd,RB,q⟩:=h;exact⟨_,(A4 (AZ (AY Be (AD (A0 0) A5) A9) (A4 (AQ (AA CA A9 (KC A9 (AD (A0 0) A5))))
  A8) A8)
  (A4 (AZ (AY Be (AD (A0 0) A5) A9) (A4 (AQ A9)
  A8) A8)
  (A4 (AZ (AY Be (AD (A0 0) A5) A9) (A4 (AQ (AA CA A9 (Ak dh hr (A3 (AD (A0 0) A5) A6))))
  A8) A8)
  (A4 (AQ (AA CA (AA CA (AA CA (AD (A0 0) A5) A9) (DT IJ MB Lp Pe A9 (A3 (Gs (own:=["name","part"]) (cap:=[]) Gg rfl (Io (AD (A0 0) A5)) (λ_ _ _ _=>(GG (n:=2) rfl (Cj (F8 (i:=0) (show List.Nodup (["name","part"]:List Str)from by decide +kernel) rfl (Or.inl rfl) (Or.inr rfl)) (Cj (F8 (i:=1) (show List.Nodup (["name","part"]:List Str)from by decide +kernel) rfl (Or.inl rfl) (Or.inr rfl)) GH)))) (λ_ _ _ _=>HB) (λ_ _ _ _=>(AA CA (AA CA (A0 0) A9) (Ak dh hr (A3 (A0 1) A6))))) A6))) A9))
  A8)))),?_⟩
 simp only[B5];have sl:=E3;have Lf:=Ls kg RB;cases k with
 |text=>
  rw[Kd.tr];left;rw[Kd.sh]at q;rw[Mc];exact AH .refl q
 |num w=>
  unfold Kd.good at kg;rw[Kd.tr];left;exact Ψ3 _ _ _ ⟨rfl,rfl,by decide,sC kg.1 kg.2,?_⟩;rw[vH,show(⟨#[48+w.toNat]⟩:Str)=S [48+w.toNat]from rfl];exact Cz ?_ ?_
  ·rw[Ad,Ad];exact Ce (by decide:5≤1000) (by lia)
  rw[DY];rw[Kd.sh]at q;exact AH .refl q
 |row k=>
  unfold Kd.good at kg;rw[Kd.depth]at kd RB;rw[Kd.sh]at q Lf;rw[AG]at Lf;rw[Kd.tr];left;exact⟨k,rfl,kg,by lia,by lia,?_⟩;rw[sW];exact Cz ?_ ?_
  ·rw[Ad,Ad];show 4+_≤_;have:4+k.sh.length≤25387:=Lf;lia
  rw[DY];exact AH .refl q
 |rec_ fs=>
  unfold Kd.good at kg;rw[Kd.depth]at kd RB;rw[Kd.sh]at q;have hF:=Lo [44,32] (LS kg.1);have hl:(Af fs).length=fs.length:=by rw[IX,Ae]
  have hb:CN (B4 fs)≤4219:=Ce (Mp (by lia:B4 fs≤4)) (by decide);have hF:((Af fs).map λl=>l.length+2).sum≤30000:=by
   have hF:((Af fs).map λl=>l.length+2).sum≤(Af fs).length*(9+CN (B4 fs)+2):=hF;have h2:(Af fs).length*(9+CN (B4 fs)+2)≤6*(9+CN (B4 fs)+2):=OV _ (by lia);lia
  have jl:(B9 [44,32] (Af fs)).length≤((Af fs).map λl=>l.length+2).sum:=HI [44,32] (Af fs);rw[Kd.tr];left;rw[sT,Np];exact Cz ?_ ?_
  ·rw[Ad,Ad];exact Ce (by decide:_≤1000) (by lia)
  rw[DY];left;exact⟨DE (CM (by rw[Jo];lia)),?_⟩;exact⟨λv4 τ ys Γ'=>∃(gs hs:List (Str×Kd)) (o0 o1:Option T),v4=CI gs∧fs=hs++gs∧τ=[o0,o1]∧ys=(Af hs).map (λl=>T.str (S l))∧Γ'=Γ,Ψ4 fs [] none none ⟨rfl,rfl,rfl,rfl,rfl⟩,?_,?_⟩
  ·intro τ ys Γ'⟨gs,hs,o0,o1,e0,e2,rfl,rfl,rfl⟩
   cases gs with
   |cons p r=>cases e0
   |nil=>
    rw[BV]at e2;subst e2;exact⟨trivial,?_⟩;intro p1 jr;generalize e1:up _ p1 (O.lst _)=Γ1;have g1:=AX e1;have l1:=AW e1 jr
    left;exact Ψ3 p1 [44,32] (Af fs) ⟨by rw[M4],rfl,BM g1,by show((Af fs).map λl=>l.length+2).sum≤_;lia,?_⟩;exact Cz ?_ ?_
    ·rw[Ad,Ad];simp only[AG,Aw,Cu];lia
    rw[DY,JC];left;exact Cz ?_ ?_
    ·rw[Ad,Ad];simp only[AG,Aw,Cu];lia
    rw[DY];exact AH l1 q
  ·intro x rr τ ys Γ'⟨gs,hs,o0,o1,e0,e2,rfl,rfl,rfl⟩
   cases gs with
   |nil=>cases e0
   |cons p gs=>
    obtain⟨nm,k⟩:=p;cases e0;have mem:(nm,k)∈fs:=by rw[e2];simp
    have dk:k.depth≤B4 fs:=R5 mem;have gk:k.good:=Ol kg.1 mem;have nk:ES nm:=bd kg.1 mem;have lk:=Ls gk (by lia);exact⟨trivial,?_⟩;left;rw[←Ep nm,Ge];exact Cz ?_ ?_
    ·rw[Ad,Ad,Br];have:nm.length≤8:=nk.2.1;show _+1≤_;lia
    rw[DY];left;exact⟨k,rfl,gk,by lia,by lia,?_⟩;exact Cz ?_ ?_
    ·rw[Ad,Ad];simp only[AG,Aw,Cu,Br];have:nm.length≤8:=nk.2.1;lia
    rw[DY];exact Ψ4 gs (hs++[(nm,k)]) _ _ ⟨rfl,by rw[e2];simp,rfl,?_,rfl⟩;rw[IX,IX,B1,B1];rfl
 |pick fs=>
  unfold Kd.good at kg;rw[Kd.depth]at kd RB;rw[Kd.sh]at q;have hF:=Lo [44,32] (LS kg.1);have hl:(Af fs).length=fs.length:=by rw[IX,Ae]
  have hb:CN (B4 fs)≤4219:=Ce (Mp (by lia:B4 fs≤4)) (by decide);have hF:((Af fs).map λl=>l.length+2).sum≤30000:=by
   have hF:((Af fs).map λl=>l.length+2).sum≤(Af fs).length*(9+CN (B4 fs)+2):=hF;have h2:(Af fs).length*(9+CN (B4 fs)+2)≤6*(9+CN (B4 fs)+2):=OV _ (by lia);lia
  have jl:(B9 [44,32] (Af fs)).length≤((Af fs).map λl=>l.length+2).sum:=HI [44,32] (Af fs);rw[Kd.tr];left;rw[og,Np];exact Cz ?_ ?_
  ·rw[Ad,Ad];exact Ce (by decide:_≤1000) (by lia)
  rw[DY];left;exact⟨DE (CM (by rw[Jo];lia)),?_⟩;exact⟨λv4 τ ys Γ'=>∃(gs hs:List (Str×Kd)) (o0 o1:Option T),v4=CI gs∧fs=hs++gs∧τ=[o0,o1]∧ys=(Af hs).map (λl=>T.str (S l))∧Γ'=Γ,Ψ4 fs [] none none ⟨rfl,rfl,rfl,rfl,rfl⟩,?_,?_⟩
  ·intro τ ys Γ'⟨gs,hs,o0,o1,e0,e2,rfl,rfl,rfl⟩
   cases gs with
   |cons p r=>cases e0
   |nil=>
    rw[BV]at e2;subst e2;exact⟨trivial,?_⟩;intro p1 jr;generalize e1:up _ p1 (O.lst _)=Γ1;have g1:=AX e1;have l1:=AW e1 jr
    left;exact Ψ3 p1 [44,32] (Af fs) ⟨by rw[M4],rfl,BM g1,by show((Af fs).map λl=>l.length+2).sum≤_;lia,?_⟩;exact Cz ?_ ?_
    ·rw[Ad,Ad];simp only[AG,Aw,Cu];lia
    rw[DY,JC];left;exact Cz ?_ ?_
    ·rw[Ad,Ad];simp only[AG,Aw,Cu];lia
    rw[DY];exact AH l1 q
  ·intro x rr τ ys Γ'⟨gs,hs,o0,o1,e0,e2,rfl,rfl,rfl⟩
   cases gs with
   |nil=>cases e0
   |cons p gs=>
    obtain⟨nm,k⟩:=p;cases e0;have mem:(nm,k)∈fs:=by rw[e2];simp
    have dk:k.depth≤B4 fs:=R5 mem;have gk:k.good:=Ol kg.1 mem;have nk:ES nm:=bd kg.1 mem;have lk:=Ls gk (by lia);exact⟨trivial,?_⟩;left;rw[←Ep nm,Ge];exact Cz ?_ ?_
    ·rw[Ad,Ad,Br];have:nm.length≤8:=nk.2.1;show _+1≤_;lia
    rw[DY];left;exact⟨k,rfl,gk,by lia,by lia,?_⟩;exact Cz ?_ ?_
    ·rw[Ad,Ad];simp only[AG,Aw,Cu,Br];have:nm.length≤8:=nk.2.1;lia
    rw[DY];exact Ψ4 gs (hs++[(nm,k)]) _ _ ⟨rfl,by rw[e2];simp,rfl,?_,rfl⟩;rw[IX,IX,B1,B1];rfl
end
structure Pa where
 nm:Str
 sd:Int
 ps:List (Str×Str×Kd)
 re:Option Kd
def DK(q:Str×Str×Kd):T:=.tup [.str q.1,.str q.2.1,q.2.2.tr]
def Gz:Option Kd→T
 |none=>.non
 |some k=>k.tr
def Pa.tr(p:Pa):T:=.tup [.str p.nm,.int p.sd,.tup (p.ps.map DK),Gz p.re]
structure G8(q:Str×Str×Kd):Prop where
 nm:ES q.1
 wy:q.2.1∈gY
 kg:q.2.2.good
 kd:q.2.2.depth≤5
def BO(q:Str×Str×Kd):List Nat:=q.1.cps.toList++[32]++q.2.1.cps.toList++[32]++q.2.2.sh
structure Pa.Ok(p:Pa):Prop where
 nm:ES p.nm
 sd:p.sd=0∨p.sd=1
 ps:∀q∈p.ps,G8 q
 nd:(p.ps.map (·.1)).Nodup
 ln:((p.ps.map BO).map λl=>l.length+2).sum≤5080800
 re:∀k,p.re=some k→k.good∧k.depth≤5
def En:Option Kd→List Nat
 |none=>[110,111,110,101]
 |some k=>k.sh
def Pa.sh(p:Pa):List Nat:=[100,111,111,114,32]++p.nm.cps.toList++[32]++[48+p.sd.toNat]++[32,40]++B9 [44,32] (p.ps.map BO)++[41]++[32]++En p.re
theorem O0(h:z∈gY):z.length≤5∧Lets z:=by
 simp only[aam,Bx,D7]at h;rcases h with rfl|rfl|rfl|rfl<;>exact⟨by decide +kernel,mW (by decide +kernel)⟩
theorem pN(h:∀q∈ps,G8 q)(l:((ps.map BO).map λl=>l.length+2).sum≤5080800):((ps.map BO).map λl=>l.length+2).sum≤5080800:=l
theorem nY:∀(ls:List (List Nat)),2*ls.length≤(ls.map λl=>l.length+2).sum
 |[]=>by simp
 |x::r=>by
  have:=nY r;rw[CV,Hl,Aw];lia
theorem vV(h:∀q∈ps,G8 q)(l:((ps.map BO).map λl=>l.length+2).sum≤5080800):(B9 [44,32] (ps.map BO)).length≤5080800:=by
 have h1:=HI [44,32] (ps.map BO);have h1:(B9 [44,32] (ps.map BO)).length≤((ps.map BO).map λl=>l.length+2).sum:=h1;have:=pN h l;lia
theorem acN{r:Option Kd}(h:∀k,r=some k→k.good∧k.depth≤5):(En r).length≤25387:=by
 cases r with
 |none=>decide
 |some k=>exact Ls (h k rfl).1 (h k rfl).2
theorem ach:("door\x20" : Str)=S [100,111,111,114,32]:=by decide +kernel
theorem vE:("none" : Str)=S [110,111,110,101]:=by decide +kernel
theorem vT:(")\x20" : Str)=S [41,32]:=by decide +kernel
theorem uI{w:Int}(h:w=0∨w=1):B7 ("01" : Str).cps.toList w=some (48+w.toNat):=by
 rcases h with rfl|rfl<;>decide +kernel
section
theorem OU(k:Kd):Il k.tr=false:=by cases k<;>rw[Kd.tr]<;>rfl
def gr:B2:=λts Γ Z _=>∃p:Pa,ts=[p.tr]∧p.Ok∧Z (.str (S p.sh)) Γ
abbrev S3:Stmt:=Bb 57
theorem cS:B6 ["paper","rows","last","first"] ["paper"] (Am S3):=⟨rfl,rfl,rfl,by decide +kernel,rfl,by decide +kernel,by decide +kernel⟩
theorem vY(F:eG K "_law_paper_shown" "_law_paper_shown" S3 f fd)(dh:Al P w K mg ap "_law_shown" 6 ["kind"] (LJ 6)):bJ P w K mg ap BK 7 f fd ["paper"] (B3 gr):=by
 exact Bq F cS (λts Γ Z Y h=>?_) (λcO A outer s H E ts Γ Z Y hr h=>?_)
 ·let⟨p,rfl,_⟩:=h
  rfl
 let⟨p,rfl,ok,q⟩:=h;exact⟨_,(A4 (yt (i:=1) (own:=["name","way","kind"]) (cap:=[]) Gg rfl (Io (AD (A0 0) A5)) (λ_ _ _ _=>(GG (n:=3) rfl (Cj (F8 (i:=0) (show List.Nodup (["name","way","kind"]:List Str)from by decide +kernel) rfl (Or.inl rfl) (Or.inr rfl)) (Cj (F8 (i:=1) (show List.Nodup (["name","way","kind"]:List Str)from by decide +kernel) rfl (Or.inl rfl) (Or.inr rfl)) (Cj (F8 (i:=2) (show List.Nodup (["name","way","kind"]:List Str)from by decide +kernel) rfl (Or.inl rfl) (Or.inr rfl)) GH))))) (λ_ _ _ _=>HB) (λ_ _ _ _=>(AA CA (AA CA (AA CA (AA CA (A0 0) A9) (A0 1)) A9) (Ak dh hr (A3 (A0 2) A6)))) cS.nd rfl rfl)
  (A4 (AL (i:=2) cS.nd A9)
  (A4 (D9 (AZ (AY Qe (AD (A0 0) A5) E6) (A4 (AL (i:=2) cS.nd (Ak dh hr (A3 (AD (A0 0) A5) A6)))
  A8) A8))
  (A4 (AL (i:=3) cS.nd (AA CA (AA CA (AA CA A9 (AD (A0 0) A5)) A9) (KC A9 (AD (A0 0) A5))))
  (A4 (AQ (AA CA (AA CA (AA CA (AA CA (A0 3) A9) (DT IJ MB Lp Pe A9 (A3 (A0 1) A6))) A9) (A0 2)))
  A8))))),?_⟩
 simp only[B5];have sl:=E3;have n8:p.nm.length≤8:=ok.nm.2.1;have hs:=pN ok.ps ok.ln;have hj:=vV ok.ps ok.ln;have hr2:=acN ok.re;have l2:=ok.ln;unfold Pa.tr;left;exact II (i:=2) (t:=.tup (p.ps.map DK)) rfl ?_;left;exact⟨by have l3:=nY (p.ps.map BO);rw[Ae]at l3 ⊢;rw[E3];lia,?_⟩;exact⟨λv4 τ ys Γ'=>∃(gs hs:List (Str×Str×Kd)) (o0 o1 o2:Option T),v4=gs.map DK∧p.ps=hs++gs∧τ=[o0,o1,o2]∧ys=(hs.map BO).map (λl=>T.str (S l))∧Γ'=Γ,Ψ5 p.ps [] none none none ⟨rfl,rfl,rfl,rfl,rfl⟩,?_,?_⟩;rotate_left
 ·intro x rr τ ys Γ'⟨gs,hs,o0,o1,o2,e0,e2,rfl,rfl,rfl⟩
  cases gs with
  |nil=>cases e0
  |cons y gs=>
   cases e0;have oy:=ok.ps y (by rw[e2];simp);have ny:y.1.length≤8:=oy.nm.2.1;have wy:=(O0 oy.wy).1;have ky:=Ls oy.kg oy.kd;exact⟨trivial,?_⟩;unfold DK;left;rw[←Ep y.1,Ge];exact Cz ?_ ?_
   ·rw[Ad,Ad];simp only[AG,Aw,Cu,Br];lia
   rw[DY];left;rw[←Ep y.2.1];exact Cz ?_ ?_
   ·rw[Ad,Ad];simp only[AG,Aw,Cu,Br];lia
   rw[DY];left;exact Cz ?_ ?_
   ·rw[Ad,Ad];simp only[AG,Aw,Cu,Br];lia
   rw[DY];left;exact⟨y.2.2,rfl,oy.kg,by have:=oy.kd;lia,oy.kd,?_⟩;exact Cz ?_ ?_
   ·rw[Ad,Ad];simp only[AG,Aw,Cu,Br];lia
   rw[DY];exact Ψ5 gs (hs++[y]) _ _ _ ⟨rfl,by rw[e2];simp,rfl,?_,rfl⟩;rw[B1,B1];rfl
 intro τ ys Γ'⟨gs,hs,o0,o1,o2,e0,e2,rfl,rfl,rfl⟩;cases gs with
 |cons y r=>cases e0
 |nil=>
  rw[BV]at e2;subst e2;exact⟨trivial,?_⟩;intro p1 jr;generalize e1:up _ p1 (O.lst _)=Γ1;have g1:=AX e1;have l1:=AW e1 jr
  left;exact⟨λτ Γ'=>τ=[some (.tup [.str p.nm,.int p.sd,.tup (p.ps.map DK),Gz p.re]),some (.ref p1),some (.str (S (En p.re))),none]∧Γ'=Γ1,?_,?_⟩
  ·left
   exact II (i:=3) (t:=Gz p.re) rfl ?_;cases rA:p.re with
   |none=>
    unfold Gz;left;rw[vE];exact⟨rfl,rfl⟩
   |some k=>
    let⟨kg,kd⟩:=ok.re k rA;unfold Gz;left;rw[OU];left;exact II (i:=3) (t:=k.tr) rfl ?_;left;exact⟨k,rfl,kg,by lia,kd,?_⟩;left;exact⟨rfl,rfl⟩
  intro τ Γ'⟨rfl,rfl⟩;left;rw[←Ep p.nm,ach];exact Cz ?_ ?_
  ·rw[Ad,Ad];simp only[AG,Aw,Cu,Br];lia
  rw[DY];left;rw[Ge];exact Cz ?_ ?_
  ·rw[Ad,Ad];simp only[AG,Aw,Cu,Br];lia
  rw[DY];left;exact Ψ3 _ _ _ ⟨rfl,rfl,by decide,uI ok.sd,?_⟩;rw[show(⟨#[48+p.sd.toNat]⟩:Str)=S [48+p.sd.toNat]from rfl];exact Cz ?_ ?_
  ·rw[Ad,Ad];simp only[AG,Aw,Cu,Br];lia
  rw[DY];left;rw[Np];exact Cz ?_ ?_
  ·rw[Ad,Ad];simp only[AG,Aw,Cu,Br];lia
  rw[DY];left;exact Ψ3 p1 [44,32] (p.ps.map BO) ⟨by rw[M4],rfl,BM g1,by show((p.ps.map BO).map λl=>l.length+2).sum≤_;lia,?_⟩;exact Cz ?_ ?_
  ·rw[Ad,Ad];simp only[AG,Aw,Cu,Br];lia
  rw[DY];left;rw[vT];exact Cz ?_ ?_
  ·rw[Ad,Ad];simp only[AG,Aw,Cu,Br];lia
  rw[DY];left;exact Cz ?_ ?_
  ·rw[Ad,Ad];simp only[AG,Aw,Cu,Br];lia
  rw[DY];exact AH l1 ?_;unfold Pa.sh at q;simpa only[BJ,Gr,Lg]using q
end
theorem bS(h:ES z):Ca (.str z)=true:=by
 rw[Hf,BY h.1,BY h.2.1,Dj,Dj,aaS];exactλc hc=>Wm (h.2.2 c hc)
theorem aN(fs:ad):(CI fs).map DB=fs.map (·.1):=by
 rw[L7,Fo];rfl
mutual
theorem LO:∀{k:Kd} {d:Nat},k.good→k.depth≤d→Aj d k.tr=true
 |.num w,d,g,h=>by
  rw[Kd.depth]at h;obtain⟨d,rfl⟩:∃e,d=e+1:=⟨d-1,by lia⟩;unfold Kd.good at g;rw[Kd.tr,LI,AM rfl];show(decide (1≤w)&&decide (w≤4))=true
  rw[BY g.1,BY g.2];rfl
 |.text,d,g,h=>by
  rw[Kd.depth]at h;obtain⟨d,rfl⟩:∃e,d=e+1:=⟨d-1,by lia⟩;rw[Kd.tr,eO];exact BY rfl
 |.row k,d,g,h=>by
  rw[Kd.depth]at h;obtain⟨d,rfl⟩:∃e,d=e+1:=⟨d-1,by lia⟩;unfold Kd.good at g;rw[Kd.tr,LI,AE (by decide +kernel),AM rfl];exact LO g (by lia)
 |.rec_ fs,d,g,h=>by
  rw[Kd.depth]at h;obtain⟨d,rfl⟩:∃e,d=e+1:=⟨d-1,by lia⟩;unfold Kd.good at g;rw[Kd.tr,LI,AE (by decide +kernel),AE (by decide +kernel),HS,bK g.1 (by lia),Jo,BY g.2.1,BY g.2.2.1,aN,BY g.2.2.2];decide +kernel
 |.pick fs,d,g,h=>by
  rw[Kd.depth]at h;obtain⟨d,rfl⟩:∃e,d=e+1:=⟨d-1,by lia⟩;unfold Kd.good at g;rw[Kd.tr,LI,AE (by decide +kernel),AE (by decide +kernel),HS,bK g.1 (by lia),Jo,BY g.2.1,BY g.2.2.1,aN,BY g.2.2.2];decide +kernel
theorem bK:∀{fs:List (Str×Kd)} {d:Nat},CO fs→B4 fs≤d→(CI fs).all (EF (Aj d))=true
 |[],d,g,h=>rfl
 |(n,k)::r,d,g,h=>by
  rw[B4]at h;unfold CO at g;rw[CI,Lk,bK g.2.2 (by lia),Bool.and_true];show(Ca (.str n)&&Aj d k.tr)=true
  rw[bS g.1,LO g.2.1 (by lia)];rfl
end
theorem ac2{s sub:Str}{lo hi lim:Nat}(h:∀i,Builtin.Str.subAt s sub i=false):Builtin.Str.occurrences s sub lo hi lim=[]:=by
 unfold Builtin.Str.occurrences;have fl:∀(l:List Nat) (b:Array Nat×Nat),List.foldl (λb (_:Nat)=>(b.fst,b.snd)) b l=b:=λl=>by
  induction l with
  |nil=>intro b;rfl
  |cons x r ih=>intro b;rw[KP,ih]
 simp[h,fl]
theorem xt(h:∀x∈yP.cps.toList,x≠c)(i:Nat):Builtin.Str.subAt yP ⟨#[c]⟩ i=false:=by
 unfold Builtin.Str.subAt;rw[abL];intro e;have e:=Ai Array.toList e;rw[Array.toList_extract]at e;have hm:c∈List.take (i+(⟨#[c]⟩:Str).length-i) (List.drop i yP.cps.toList):=by
  have:c∈(#[c]:Array Nat).toList:=by simp
  rw[←e]at this;exact this
 exact h c (L6 (LU hm)) rfl
theorem tV:∀x∈yP.cps.toList,97≤x∧x≤122:=by decide +kernel
theorem uV(h:AB c=true):97≤c∧c≤122:=by
 by_cases k:∀x∈yP.cps.toList,x≠c
 ·unfold AB at h
  rw[ac2 (xt k)]at h;cases h
 ·have:∃x∈yP.cps.toList,x=c:=by
   apply oF
   intro z;exact k λx hx e=>z ⟨x,hx,e⟩
  let⟨x,hx,rfl⟩:=this;exact tV x hx
theorem PX(h:Ca (.str z)=true):ES z:=by
 rw[Hf]at h;simp only[DN,F9]at h;exact⟨h.1.1,h.1.2,λc hc=>uV (aaS.mp h.2 c hc)⟩
theorem pA{f:T→Bool}{d:Nat}(hf:∀t,f t=true→∃k:Kd,t=k.tr∧k.good∧k.depth≤d):∀{ts:List T},(∀t∈ts,EF f t=true)→∃fs:List (Str×Kd),ts=CI fs∧CO fs∧B4 fs≤d
 |[],_=>⟨[],rfl,by unfold CO;trivial,by rw[B4];exact Fe _⟩
 |t::r,h=>by
  let⟨z,b,rfl,hz,hb⟩:=TG (h t (by simp));let⟨k,rfl,kg,kd⟩:=hf b hb;let⟨fs,rfl,gF,dF⟩:=pA hf (ts:=r) (λt ht=>h t (by simp[ht]));exact⟨(z,k)::fs,by rw[CI],?_,?_⟩
  ·unfold CO
   have:=PX hz;exact⟨this,kg,gF⟩
  ·rw[B4];exact Nat.max_le.mpr ⟨kd,dF⟩
theorem LN:∀(d:Nat) (t:T),Aj d t=true→∃k:Kd,t=k.tr∧k.good∧k.depth≤d
 |0,t,h=>by unfold Aj at h;cases h
 |d+1,t,h=>by
  unfold Aj at h;split at h
  ·rename_i z _
   have:=C5 h;rw[this];exact⟨.text,by rw[Kd.tr],by unfold Kd.good;trivial,by rw[Kd.depth];lia⟩
  ·rename_i d' z x e0
   cases e0;split at h
   ·rename_i e
    subst e;cases x with
    |int i=>
     have h:(decide (1≤i)&&decide (i≤4))=true:=h;simp only[DN,F9]at h;exact⟨.num i,by rw[Kd.tr],by unfold Kd.good;exact h,by rw[Kd.depth];lia⟩
    |_=>cases h
   split at h
   ·rename_i e
    subst e;let⟨k,rfl,kg,kd⟩:=LN d x h;exact⟨.row k,by rw[Kd.tr],by unfold Kd.good;exact kg,by rw[Kd.depth];lia⟩
   rw[DN,Jf]at h;let⟨h1,h2⟩:=h;cases x with
   |tup ts=>
    rw[HS]at h2;simp only[DN,F9]at h2;let⟨fs,rfl,gF,dF⟩:=pA (d:=d) (λt ht=>LN d t ht) (λt ht=>aaS.mp h2.1.2 t ht);rw[Jo]at h2;have nd:(fs.map (·.1)).Nodup:=by have:=h2.2;rw[aN]at this;exact this
    rcases h1 with h1|h1
    ·rw[C5 h1]
     exact⟨.rec_ fs,by rw[Kd.tr],by unfold Kd.good;exact⟨gF,h2.1.1.1,h2.1.1.2,nd⟩,by rw[Kd.depth];lia⟩
    ·rw[C5 h1]
     exact⟨.pick fs,by rw[Kd.tr],by unfold Kd.good;exact⟨gF,h2.1.1.1,h2.1.1.2,nd⟩,by rw[Kd.depth];lia⟩
   |_=>cases h2
  ·cases h
def Wi(f:Ci):Prop:=∀r t r',f r=some (t,r')→∀k:Kd,k.good→t=k.tr→r=k.sh++r'
theorem j9{f:Ci}(h:Wi f)(e:CP f r=some (t,r')){n:Str}(kg:k.good)(et:t=.tup [.str n,k.tr]):r=n.cps.toList++[32]++k.sh++r':=by
 unfold CP at e;cases e1:pre [32] (r.dropWhile AB)with
 |none=>rw[e1]at e;cases e
 |some r1=>
  rw[e1,AO]at e;cases e2:f r1 with
  |none=>rw[e2]at e;cases e
  |some x=>
   rw[e2]at e;have e:=Cr e;have e3:T.tup [.str (S (r.takeWhile AB)),x.1]=t:=Ai Prod.fst e;have e4:x.2=r':=Ai Prod.snd e;rw[et]at e3;have e5:S (r.takeWhile AB)=n∧x.1=k.tr:=by
    have:=T.tup.inj e3;have a1:=(B8 this).1;have a2:=(B8 (B8 this).2).1;exact⟨T.str.inj a1,a2⟩
   have hi:=h r1 x.1 x.2 e2 k kg e5.2;have hp:=Bz e1;rw[←DG r,hp,hi,←e5.1,GS,e4];simp
theorem oS{f:Ci}(h:Wi f):∀(n:Nat) (r:List Nat) (ts:List T) (r':List Nat),BP (CP f) n r=some (ts,r')→∀fs:List (Str×Kd),CO fs→ts=CI fs→r=EY fs++(41::r')
 |0,r,ts,r',e,_,_,_=>by cases e
 |n+1,r,ts,r',e,fs,gF,et=>by
  rw[BP]at e;cases e0:pre [41] r with
  |some r1=>
   rw[e0]at e;cases e;cases fs with
   |nil=>show r=[41]++r';exact Bz e0
   |cons p q=>obtain⟨a,b⟩:=p;cases et
  |none=>
   rw[e0]at e;dsimp only at e;cases e1:pre [44,32] r with
   |none=>rw[e1]at e;cases e
   |some r1=>
    rw[e1,AO]at e;cases e2:CP f r1 with
    |none=>rw[e2]at e;cases e
    |some x=>
     rw[e2,AO]at e;cases e3:BP (CP f) n x.2 with
     |none=>rw[e3]at e;cases e
     |some y=>
      rw[e3]at e;have e:=Cr e;have e4:x.1::y.1=ts:=Ai Prod.fst e;have e5:y.2=r':=Ai Prod.snd e;cases fs with
      |nil=>rw[et]at e4;cases e4
      |cons p q=>
       obtain⟨a,b⟩:=p;rw[et,CI]at e4;unfold CO at gF;have i1:=j9 h (t:=x.1) (r':=x.2) e2 (n:=a) (k:=b) gF.2.1 (B8 e4).1;have i2:=oS h n x.2 y.1 y.2 e3 q gF.2.2 (B8 e4).2;rw[Bz e1,i1,i2,Ms,e5];simp
theorem Pg:∀d:Nat,Wi (B0 d)
 |0=>λr t r' e=>by cases e
 |d+1=>λr t r' e k kg et=>by
  have ih:=Pg d;suffices hh:∀h r1,DD (B0 d) h r1=some (t,r')→h++r1=k.sh++r' by
   rw[←DG r];exact hh _ _ e
  intro h r1 e;unfold DD at e;split at e
  ·rename_i e0
   have e:=Cr e;have e1:T.tup [.str (S cText)]=t:=Ai Prod.fst e;have e2:r1=r':=Ai Prod.snd e;rw[et]at e1;cases k with
   |text=>rw[e0,Kd.sh,e2]
   |num w=>rw[Kd.tr]at e1;cases e1
   |row k=>rw[Kd.tr]at e1;cases e1
   |rec_ fs=>rw[Kd.tr]at e1;cases e1
   |pick fs=>rw[Kd.tr]at e1;cases e1
  have two:∀{a b:Str} {x y:T},T.tup [.str a,x]=.tup [.str b,y]→a=b∧x=y:=λe=>by
   have:=T.tup.inj e;exact⟨T.str.inj (B8 this).1,(B8 (B8 this).2).1⟩
  split at e
  ·rename_i e0
   cases e1:pre [32] r1 with
   |none=>rw[e1]at e;cases e
   |some r2=>
    rw[e1,AO]at e;cases e2:F7 r2 with
    |none=>rw[e2]at e;cases e
    |some x=>
     rw[e2]at e;have e:=Cr e;have e3:T.tup [.str (S G9),x.1]=t:=Ai Prod.fst e;have e4:x.2=r':=Ai Prod.snd e;rw[et]at e3;cases k with
     |num w=>
      rw[Kd.tr]at e3;have e5:=(two e3).2;unfold Kd.good at kg;cases r2 with
      |nil=>cases e2
      |cons c r3=>
       rw[KL]at e2;split at e2
       ·rename_i hc
        have e2:=Cr e2;have f1:T.int ((c-48:Nat):Int)=x.1:=Ai Prod.fst e2;have f2:r3=x.2:=Ai Prod.snd e2;rw[e5]at f1;have f3:((c-48:Nat):Int)=w:=T.int.inj f1;rw[e0,Bz e1,Kd.sh,f2,e4,show 48+w.toNat=c by lia];rfl
       ·cases e2
     |text=>rw[Kd.tr]at e3;cases e3
     |row k=>rw[Kd.tr]at e3;have:=(two e3).1;exfalso;revert this;decide +kernel
     |rec_ fs=>rw[Kd.tr]at e3;have:=(two e3).1;exfalso;revert this;decide +kernel
     |pick fs=>rw[Kd.tr]at e3;have:=(two e3).1;exfalso;revert this;decide +kernel
  split at e
  ·rename_i e0
   cases e1:pre [32] r1 with
   |none=>rw[e1]at e;cases e
   |some r2=>
    rw[e1,AO]at e;cases e2:B0 d r2 with
    |none=>rw[e2]at e;cases e
    |some x=>
     rw[e2]at e;have e:=Cr e;have e3:T.tup [.str (S FE),x.1]=t:=Ai Prod.fst e;have e4:x.2=r':=Ai Prod.snd e;rw[et]at e3;cases k with
     |row k=>
      rw[Kd.tr]at e3;unfold Kd.good at kg;have:=ih r2 x.1 x.2 e2 k kg (two e3).2;rw[e0,Bz e1,this,Kd.sh,e4];rfl
     |text=>rw[Kd.tr]at e3;cases e3
     |num k=>rw[Kd.tr]at e3;have:=(two e3).1;exfalso;revert this;decide +kernel
     |rec_ fs=>rw[Kd.tr]at e3;have:=(two e3).1;exfalso;revert this;decide +kernel
     |pick fs=>rw[Kd.tr]at e3;have:=(two e3).1;exfalso;revert this;decide +kernel
  split at e
  ·rename_i e0
   cases e1:pre [32] r1 with
   |none=>rw[e1]at e;cases e
   |some r2=>
    rw[e1,AO]at e;cases UH:pre [40] r2 with
    |none=>rw[UH]at e;cases e
    |some r3=>
     rw[UH,AO]at e;cases e2:CP (B0 d) r3 with
     |none=>rw[e2]at e;cases e
     |some x=>
      rw[e2,AO]at e;cases e3:BP (CP (B0 d)) (x.2.length+1) x.2 with
      |none=>rw[e3]at e;cases e
      |some y=>
       rw[e3]at e;have e:=Cr e;have f3:T.tup [.str (S h),.tup (x.1::y.1)]=t:=Ai Prod.fst e;have f4:y.2=r':=Ai Prod.snd e;rw[et]at f3;have go:∀(z:Str) (fs:List (Str×Kd)),T.tup [.str (S h),.tup (x.1::y.1)]=.tup [.str z,.tup (CI fs)]→CO fs→z=S h∧r2=40::(B9 [44,32] (Af fs)++(41::r')):=λz fs ee gF=>by
        let⟨z1,z2⟩:=two ee;have z2:=T.tup.inj z2;cases fs with
        |nil=>cases z2
        |cons p q=>
         obtain⟨a,b⟩:=p;rw[CI]at z2;unfold CO at gF;have i1:=j9 ih (t:=x.1) (r':=x.2) e2 (n:=a) (k:=b) gF.2.1 (B8 z2).1;have i2:=oS ih _ x.2 y.1 y.2 e3 q gF.2.2 (B8 z2).2;exact⟨z1.symm,?_⟩;rw[Bz UH,i1,i2,join_cons,f4];simp
       cases k with
       |rec_ fs=>
        rw[Kd.tr]at f3;unfold Kd.good at kg;let⟨g1,g2⟩:=go _ _ f3 kg.1;have hh:=GR (sT.symm.trans g1);rw[Bz e1,g2,Kd.sh,←hh];simp
       |pick fs=>
        rw[Kd.tr]at f3;unfold Kd.good at kg;let⟨g1,g2⟩:=go _ _ f3 kg.1;have hh:=GR (og.symm.trans g1);rw[Bz e1,g2,Kd.sh,←hh];simp
       |text=>rw[Kd.tr]at f3;cases f3
       |num k=>rw[Kd.tr]at f3;have:=(two f3).2;cases this
       |row k=>
        rw[Kd.tr]at f3;have:=(two f3).1;exfalso
        rcases e0 with rfl|rfl<;>(revert this;decide +kernel)
  ·cases e
theorem QJ{L:Nat}:∀{l:List Nat} {a:Nat} {ws:List (List Nat)},(AB a=true→ws≠[])→(∀w∈ws,w≠[]∧w.length+l.length≤L)→ws.length+l.length≤L→(∀w∈Cb l a ws,w≠[]∧w.length≤L)∧(Cb l a ws).length≤L
 |[],a,ws,h0,h1,h2=>⟨λw hw=>⟨(h1 w hw).1,by have:=(h1 w hw).2;exact this⟩,h2⟩
 |c::r,a,ws,h0,h1,h2=>by
  rw[Aw]at h1 h2;rw[Cb];split
  ·rename_i hc
   rw[DN]at hc;have wn:=h0 hc.2;obtain⟨w0,u,rfl⟩:∃w0 u,ws=w0++[u]:=Ψ2 ws.dropLast (ws.getLast wn) ((KV wn).symm);rw[Oe,show(w0++[u]).getLastD []=u by simp];exact QJ (λ_=>by simp) (λw hw=>?_) (by rw[AG]at h2 ⊢;have h2:w0.length+1+(r.length+1)≤L:=h2;show w0.length+1+_≤_;lia);rcases aaH.mp hw with h|h
   ·have:=h1 w (by simp[h]);exact⟨this.1,by lia⟩
   ·rw[aau.mp h]
    have:=h1 u (by simp);exact⟨by simp,by rw[AG];show _+1+_≤_;lia⟩
  ·split
   ·rename_i hc
    exact QJ (λe=>by rw[hc,Cq]at e;cases e) (λw hw=>by have:=h1 w hw;exact⟨this.1,by lia⟩) (by lia)
   ·exact QJ (λ_=>by simp) (λw hw=>?_) (by rw[AG];show _+1+_≤_;lia)
    rcases aaH.mp hw with h|h
    ·have:=h1 w h;exact⟨this.1,by lia⟩
    ·rw[aau.mp h]
     exact⟨by simp,by show 1+_≤_;lia⟩
theorem qy{l:List Nat}(hl:l.length≤99000):jf (up Γ p (.lst (D6 (toks l++GI)))) p (toks l):=by
 have h:=QJ (L:=l.length) (l:=l) (a:=32) (ws:=[]) (λe=>by rw[Cq]at e;cases e) (λw hw=>nomatch hw) (by simp);exact⟨AP,λw hw=>(h.1 w hw).1,Ce h.2 hl,λw hw=>Ce (h.1 w hw).2 (by lia)⟩
mutual
theorem Ip:∀{k:Kd},k.good→k.nw
 |.num w,h=>by unfold Kd.good at h;unfold Kd.nw;lia
 |.text,h=>by unfold Kd.nw;trivial
 |.row k,h=>by unfold Kd.good at h;unfold Kd.nw;exact Ip h
 |.rec_ fs,h=>by unfold Kd.good at h;unfold Kd.nw;exact⟨bL h.1,λe=>by rw[e]at h;exact absurd h.2.1 (by simp)⟩
 |.pick fs,h=>by unfold Kd.good at h;unfold Kd.nw;exact⟨bL h.1,λe=>by rw[e]at h;exact absurd h.2.1 (by simp)⟩
theorem bL:∀{fs:List (Str×Kd)},CO fs→Gm fs
 |[],_=>by unfold Gm;trivial
 |(n,k)::r,h=>by
  unfold CO at h;unfold Gm;exact⟨⟨λc hc=>Wm (h.1.2.2 c hc),λe=>by
   have h1:=h.1.1;have e2:n.length=0:=(by rw[←Br,e];rfl);lia⟩,Ip h.2.1,bL h.2.2⟩
end
mutual
theorem M5:∀{k:Kd},k.nw→k.wf
 |.num w,h=>by unfold Kd.nw at h;unfold Kd.wf;exact h
 |.text,h=>by unfold Kd.wf;trivial
 |.row k,h=>by unfold Kd.nw at h;unfold Kd.wf;exact M5 h
 |.rec_ fs,h=>by unfold Kd.nw at h;unfold Kd.wf;exact⟨aO h.1,h.2⟩
 |.pick fs,h=>by unfold Kd.nw at h;unfold Kd.wf;exact⟨aO h.1,h.2⟩
theorem aO:∀{fs:List (Str×Kd)},Gm fs→Hr fs
 |[],_=>by unfold Hr;trivial
 |(n,k)::r,h=>by unfold Gm at h;unfold Hr;exact⟨h.1.1,M5 h.2.1,aO h.2.2⟩
end
theorem sE{l:List Nat}(h:Dz (B0 5) (Aj 5) l=some t):∃k:Kd,t=k.tr∧k.good∧k.depth≤5∧l=k.sh:=by
 rw[gJ]at h;let⟨k,rfl,kg,kd⟩:=LN 5 t h.2;exact⟨k,rfl,kg,kd,?_⟩;have:=Pg 5 l _ _ h.1 k kg rfl;rwa[BV]at this
theorem mX(kg:k.good)(kd:k.depth≤5):Dz (B0 5) (Aj 5) k.sh=some k.tr:=by
 rw[gJ];have:=KS (d:=5) (r:=[]) (M5 (Ip kg)) (.inl rfl);rw[BV,AM kd]at this;exact⟨this,LO kg kd⟩
section
abbrev fB:Stmt:=Bb 60
theorem fF:B6 ["signs","words","kind","behind"] ["signs"] (Am fB):=⟨rfl,rfl,rfl,by decide +kernel,rfl,by decide +kernel,by decide +kernel⟩
def eS:Option T→T
 |none=>.non
 |some t=>t
def qP:B2:=λts Γ Z _=>∃l:List Nat,ts=[.str (S l)]∧l.length≤99000∧(∀c∈l,c<128)∧Z (eS (Dz (B0 5) (Aj 5) l)) Γ
theorem vD(F:eG K "_law_kind_of" "_law_kind_of" fB f fd)(kR:Al P w K mg ap "_law_words" 1 ["signs"] Rx)(du:Al P w K mg ap "_law_kind_in" 7 ["words","at","depth"] (Mq 7))(cP:Al P w K mg ap "_law_is_kind" 13 ["thing","depth"] (KQ 6))(dh:Al P w K mg ap "_law_shown" 6 ["kind"] (LJ 6)):bJ P w K mg ap BK 14 f fd ["signs"] (B3 qP):=by
 exact Bq F fF (λts Γ Z Y h=>?_) (λcO A outer s H E ts Γ Z Y hr h=>?_)
 ·let⟨l,rfl,_⟩:=h
  rfl
 let⟨l,rfl,ll,asc,q⟩:=h;exact⟨_,(A4 (AL (i:=1) fF.nd (Ak kR hr (A3 (A0 0) A6)))
  (A4 (GZ (Ak du hr (A3 (A0 1) (A3 A5 (A3 A5 A6)))) (GG (n:=2) rfl (Cj (Cs (i:=2) fF.nd) (Cj (Cs (i:=3) fF.nd) GH))))
  (A4 (AZ (PW.pt (BS (AY Jq (A0 2) E6) (BS (AY DS (AD (A0 1) (A0 3)) A9) (BS (Bf (BL (Ak cP hr (A3 (A0 2) (A3 A5 A6))))) (Ck (AY DS (Ak dh hr (A3 (A0 2) A6)) (A0 0))))))) (A4 (AQ E6)
  A8) A8)
  (A4 (AQ (A0 2))
  A8)))),?_⟩
 simp only[B5];have sl:=E3;left;exact⟨l,rfl,by lia,?_⟩;intro p1 jr;have wo:=qy (Γ:=Γ) (p:=p1) ll;generalize e1:up _ p1 (O.lst _)=Γ1 at wo ⊢;have l1:=AW e1 jr;left;exact Ψ4 p1 (toks l) 0 1 ⟨rfl,wo,by lia,by lia,by lia,by lia,λt e e0 e2 pe sz cp=>?_⟩;have NB:=Gu (ws:=toks l) (i:=e) (by lia);have pt:Pt Γ1 t:=pe.mono (λ_ _ h=>by cases h);left;cases hr:Dz (B0 5) (Aj 5) l with
 |some t'=>
  rw[hr]at q;let⟨k,rfl,kg,kd,el⟩:=sE hr;have et:toks l=k.tk:=by rw[el];exact xH (Ip kg)
  let⟨rfl,ee⟩:=cp k [] kg (by lia) (by rw[OT,et,BV]);have we:BB (toks l) e=[]:=by
   apply oF
   intro z;have:=(Fd z).1;rw[et]at this;lia
  rw[we]at NB;exact Bs (OU k) ?_;left;exact AU wo.g NB ?_;left;exact Ψ2 k.tr 1 ⟨rfl,by lia,by decide,pt,?_⟩;rw[show(6-(1:Int)).toNat=5 by decide,LO kg kd];left;exact⟨k,rfl,kg,by lia,kd,?_⟩;left;exact Bs (by rw[el,BY rfl];rfl) ?_;left;exact AH l1 q
 |none=>
  rw[hr]at q;have no:∀Γ2,Le Γ1 Γ2→De Z .non Γ2:=λΓ2 l2=>AH (l1.trans l2) q;exact AR (λc1=>?_) (λc1=>?_)
  ·left
   exact no _ .refl
  left;exact AU wo.g NB ?_;left;by_cases we:BB (toks l) e=[]
  rotate_left
  ·exact Bv (by rw[Dk (show("" : Str)=S []by decide +kernel) we];rfl) ?_
   left;exact no _ .refl
  rw[we];exact Bs (by decide +kernel) ?_;left;exact Ψ2 t 1 ⟨rfl,by lia,by decide,pt,?_⟩;rw[show(6-(1:Int)).toNat=5 by decide];cases hk:Aj 5 t with
  |false=>
   left;exact no _ .refl
  |true=>
   let⟨k,rfl,kg,kd⟩:=LN 5 t hk;left;exact⟨k,rfl,kg,by lia,kd,?_⟩;left;have ne:k.sh≠l:=λe=>by rw[←e,mX kg kd]at hr;cases hr
   exact Bv (by rw[Dk rfl ne];rfl) ?_;left;exact no _ .refl
end
structure Pa.Gd(p:Pa):Prop where
 nm:ES p.nm
 sd:p.sd=0∨p.sd=1
 ps:∀q∈p.ps,G8 q
 nd:(p.ps.map (·.1)).Nodup
 re:∀k,p.re=some k→k.good∧k.depth≤5
theorem mB:∀{ts:List T},(∀t∈ts,EI t=true)→∃ps:List (Str×Str×Kd),ts=ps.map DK∧∀q∈ps,G8 q
 |[],_=>⟨[],rfl,λq hq=>nomatch hq⟩
 |t::r,h=>by
  have h0:=h t (by simp);let⟨z,b,c,rfl⟩:=cH h0;have h0:(Ca (.str z)&&(Hp b&&Aj 5 c))=true:=h0;simp only[DN]at h0;let⟨k,rfl,kg,kd⟩:=LN 5 c h0.2.2;let⟨ps,rfl,hp⟩:=mB (ts:=r) λt ht=>h t (by simp[ht]);cases b with
  |str y=>
   exact⟨(z,y,k)::ps,rfl,λq hq=>?_⟩;rcases aam.mp hq with rfl|hq
   ·exact⟨PX h0.1,C5 h0.2.1,kg,kd⟩
   ·exact hp q hq
  |_=>cases h0.2.1
theorem W2(h:Dx t=true):∃p:Pa,t=p.tr∧p.Gd:=by
 unfold Dx at h;split at h
 ·rename_i a b c d
  simp only[DN]at h;let⟨h1,h2,h3,h4⟩:=h;let⟨z,rfl⟩:=Kt h1;cases b with
  |int i=>
   have h2:(decide (i=0)||decide (i=1))=true:=h2;simp only[Jf,F9]at h2;cases c with
   |tup us=>
    rw[LQ,DN,F9]at h3;let⟨ps,rfl,hp⟩:=mB λt ht=>aaS.mp h3.1 t ht;have nd:(ps.map (·.1)).Nodup:=by
     have:=h3.2;rw[Fo]at this;exact this
    cases d with
    |non=>exact⟨⟨z,i,ps,none⟩,rfl,PX h1,h2,hp,nd,λk e=>by cases e⟩
    |tup us=>
     let⟨k,ek,kg,kd⟩:=LN 5 (.tup us) h4;exact⟨⟨z,i,ps,some k⟩,?_,PX h1,h2,hp,nd,λk' e=>by cases e;exact⟨kg,kd⟩⟩;rw[ek];rfl
    |_=>
     have h4:Aj 5 _=true:=h4;rw[Om rfl]at h4;cases h4
   |_=>cases h3
  |_=>cases h2
 ·cases h
theorem uf{l:List Nat}{z:T}(h:B0 d l=some (z,r)):z≠.non:=λe=>by
 subst e;cases d with
 |zero=>cases h
 |succ d=>
  have h:DD (B0 d) (l.takeWhile AB) (l.dropWhile AB)=some (.non,r):=h;generalize l.takeWhile AB=a at h;generalize l.dropWhile AB=b at h;unfold DD at h;split at h
  ·cases h
  split at h
  ·cases e1:pre [32] b with
   |none=>rw[e1]at h;cases h
   |some r2=>
    rw[e1,AO]at h;cases e2:F7 r2 with
    |none=>rw[e2]at h;cases h
    |some x=>rw[e2]at h;cases h
  split at h
  ·cases e1:pre [32] b with
   |none=>rw[e1]at h;cases h
   |some r2=>
    rw[e1,AO]at h;cases e2:B0 d r2 with
    |none=>rw[e2]at h;cases h
    |some x=>rw[e2]at h;cases h
  split at h
  ·cases e1:pre [32] b with
   |none=>rw[e1]at h;cases h
   |some r2=>
    rw[e1,AO]at h;cases e3:pre [40] r2 with
    |none=>rw[e3]at h;cases h
    |some r3=>
     rw[e3,AO]at h;cases e4:CP (B0 d) r3 with
     |none=>rw[e4]at h;cases h
     |some x=>
      rw[e4,AO]at h;cases e5:BP (CP (B0 d)) (x.2.length+1) x.2 with
      |none=>rw[e5]at h;cases h
      |some y=>rw[e5]at h;cases h
  ·cases h
def G5(ps:List (Str×Str×Kd)):List Nat:=((ps.map BO).map λy=>[44,32]++y).flatten
theorem Lj(q:Str×Str×Kd)(r:List (Str×Str×Kd)):G5 (q::r)=[44,32]++(BO q++G5 r):=by unfold G5;simp
theorem SD(q:Str×Str×Kd)(r:List (Str×Str×Kd)):B9 [44,32] ((q::r).map BO)=BO q++G5 r:=rfl
theorem pW(e:Bw r=some (t,r')){q:Str×Str×Kd}(kg:q.2.2.good)(et:t=DK q):r=BO q++r':=by
 unfold Bw at e;cases e1:pre [32] (r.dropWhile AB)with
 |none=>rw[e1]at e;cases e
 |some r1=>
  rw[e1,AO]at e;cases e2:pre [32] (r1.dropWhile AB)with
  |none=>rw[e2]at e;cases e
  |some r2=>
   rw[e2,AO]at e;cases e3:B0 5 r2 with
   |none=>rw[e3]at e;cases e
   |some x=>
    rw[e3]at e;have e:=Cr e;have f1:T.tup [.str (S (r.takeWhile AB)),.str (S (r1.takeWhile AB)),x.1]=t:=Ai Prod.fst e;have f2:x.2=r':=Ai Prod.snd e;rw[et]at f1;have f1:=T.tup.inj f1;have g1:S (r.takeWhile AB)=q.1:=T.str.inj (B8 f1).1;have g2:S (r1.takeWhile AB)=q.2.1:=T.str.inj (B8 (B8 f1).2).1;have g3:x.1=q.2.2.tr:=(B8 (B8 (B8 f1).2).2).1;have hi:=Pg 5 r2 x.1 x.2 e3 q.2.2 kg g3;unfold BO;rw[←g1,←g2,GS,GS,←f2];have h2:=DG r1;rw[Bz e2,hi]at h2;have h1:=DG r;rw[Bz e1,←h2]at h1;rw[←h1];have k1:r1.takeWhile AB=(r1.takeWhile AB++([32]++(q.2.2.sh++x.2))).takeWhile AB:=by rw[h2]
    have k0:r.takeWhile AB=(r.takeWhile AB++([32]++(r1.takeWhile AB++([32]++(q.2.2.sh++x.2))))).takeWhile AB:=by rw[h1]
    rw[←k0];simp
theorem mC:∀(n:Nat) (r:List Nat) (ts:List T) (r':List Nat),BP Bw n r=some (ts,r')→∀ps:List (Str×Str×Kd),(∀q∈ps,G8 q)→ts=ps.map DK→r=G5 ps++(41::r')
 |0,r,ts,r',e,_,_,_=>by cases e
 |n+1,r,ts,r',e,ps,gP,et=>by
  rw[BP]at e;cases e0:pre [41] r with
  |some r1=>
   rw[e0]at e;cases e;cases ps with
   |nil=>show r=[41]++r';exact Bz e0
   |cons p q=>cases et
  |none=>
   rw[e0]at e;dsimp only at e;cases e1:pre [44,32] r with
   |none=>rw[e1]at e;cases e
   |some r1=>
    rw[e1,AO]at e;cases e2:Bw r1 with
    |none=>rw[e2]at e;cases e
    |some x=>
     rw[e2,AO]at e;cases e3:BP Bw n x.2 with
     |none=>rw[e3]at e;cases e
     |some y=>
      rw[e3]at e;have e:=Cr e;have e4:x.1::y.1=ts:=Ai Prod.fst e;have e5:y.2=r':=Ai Prod.snd e;cases ps with
      |nil=>rw[et]at e4;cases e4
      |cons p q=>
       rw[et,CV]at e4;have i1:=pW (t:=x.1) (r':=x.2) e2 (q:=p) (gP p (by simp)).kg (B8 e4).1;have i2:=mC n x.2 y.1 y.2 e3 q (λz hz=>gP z (by simp[hz])) (B8 e4).2;rw[Bz e1,i1,i2,Lj,e5];simp
theorem aaB(e:Dr r=some (t,r'))(gP:∀q∈ps,G8 q)(et:t=.tup (ps.map DK)):r=B9 [44,32] (ps.map BO)++(41::r'):=by
 unfold Dr at e;cases e0:pre [41] r with
 |some r1=>
  rw[e0]at e;cases e;cases ps with
  |nil=>show r=[41]++r';exact Bz e0
  |cons p q=>cases et
 |none=>
  rw[e0]at e;dsimp only at e;cases e2:Bw r with
  |none=>rw[e2]at e;cases e
  |some x=>
   rw[e2,AO]at e;cases e3:BP Bw (x.2.length+1) x.2 with
   |none=>rw[e3]at e;cases e
   |some y=>
    rw[e3]at e;have e:=Cr e;have e4:T.tup (x.1::y.1)=t:=Ai Prod.fst e;have e5:y.2=r':=Ai Prod.snd e;rw[et]at e4;have e4:=T.tup.inj e4;cases ps with
    |nil=>cases e4
    |cons p q=>
     rw[CV]at e4;have i1:=pW (t:=x.1) (r':=x.2) e2 (q:=p) (gP p (by simp)).kg (B8 e4).1;have i2:=mC _ x.2 y.1 y.2 e3 q (λz hz=>gP z (by simp[hz])) (B8 e4).2;rw[i1,i2,SD,e5];simp
theorem gB{l:List Nat}{p:Pa}(g:p.Gd)(e:E5 l=some (p.tr,[])):l=p.sh:=by
 unfold E5 at e;cases e0:pre FK l with
 |none=>rw[e0]at e;cases e
 |some r1=>
  rw[e0,AO]at e;cases e1:pre [32] (r1.dropWhile AB)with
  |none=>rw[e1]at e;cases e
  |some r2=>
   rw[e1,AO]at e;cases e2:F7 r2 with
   |none=>rw[e2]at e;cases e
   |some x=>
    rw[e2,AO]at e;cases e3:pre [32,40] x.2 with
    |none=>rw[e3]at e;cases e
    |some r4=>
     rw[e3,AO]at e;cases e4:Dr r4 with
     |none=>rw[e4]at e;cases e
     |some y=>
      rw[e4,AO]at e;cases e5:pre [32] y.2 with
      |none=>rw[e5]at e;cases e
      |some r6=>
       rw[e5,AO]at e;have key:∀(z:T) (rr:List Nat),T.tup [.str (S (r1.takeWhile AB)),x.1,y.1,z]=p.tr→(z=Gz p.re→r6=En p.re++rr)→rr=[]→l=p.sh:=λz rr f1 f2 f3=>by
        have f1:=T.tup.inj f1;have g1:S (r1.takeWhile AB)=p.nm:=T.str.inj (B8 f1).1;have g2:x.1=.int p.sd:=(B8 (B8 f1).2).1;have g3:y.1=.tup (p.ps.map DK):=(B8 (B8 (B8 f1).2).2).1;have g4:z=Gz p.re:=(B8 (B8 (B8 (B8 f1).2).2).2).1;have i6:=f2 g4;have i4:=aaB (t:=y.1) (r':=y.2) e4 g.ps g3;have i2:r2=(48+p.sd.toNat)::x.2:=by
         cases r2 with
         |nil=>cases e2
         |cons c r3=>
          rw[KL]at e2;split at e2
          ·have e2:=Cr e2
           have h1:T.int ((c-48:Nat):Int)=x.1:=Ai Prod.fst e2;have h2:r3=x.2:=Ai Prod.snd e2;rw[g2]at h1;have h3:((c-48:Nat):Int)=p.sd:=T.int.inj h1;rw[h2,show 48+p.sd.toNat=c by lia]
          ·cases e2
        have hd:=DG r1;rw[Bz e1]at hd;unfold Pa.sh;rw[Bz e0,←g1,GS];have:r1=r1.takeWhile AB++([32]++r2):=hd.symm;rw[show FK++r1=FK++(r1.takeWhile AB++([32]++r2))from Ai (FK ++ ·) this,i2,Bz e3,i4,Bz e5,i6,f3];simp
       unfold Jl at e;cases e6:pre Ea r6 with
       |some r7=>
        rw[e6]at e;have e:=Cr e;have f1:T.tup [.str (S (r1.takeWhile AB)),x.1,y.1,.non]=p.tr:=Ai Prod.fst e;have f2:r7=[]:=Ai Prod.snd e;exact key _ r7 f1 (λhz=>?_) f2;cases rA:p.re with
        |none=>exact Bz e6
        |some k=>rw[rA]at hz;have:=OU k;rw[show k.tr=.non from hz.symm]at this;cases this
       |none=>
        rw[e6]at e;dsimp only at e;cases e7:B0 5 r6 with
        |none=>rw[e7]at e;cases e
        |some z=>
         rw[e7]at e;have e:=Cr e;have f1:T.tup [.str (S (r1.takeWhile AB)),x.1,y.1,z.1]=p.tr:=Ai Prod.fst e;have f2:z.2=[]:=Ai Prod.snd e;exact key _ z.2 f1 (λhz=>?_) f2;cases rA:p.re with
         |none=>rw[rA]at hz;exact absurd hz (uf e7)
         |some k=>rw[rA]at hz;exact Pg 5 r6 z.1 z.2 e7 k (g.re k rA).1 hz
theorem a9(h:z∈gY):(∀c∈z.cps.toList,AB c=true)∧z.cps.toList≠[]:=by
 simp only[aam,Bx,D7]at h;rcases h with rfl|rfl|rfl|rfl<;>exact⟨by decide +kernel,by decide +kernel⟩
theorem J0(h:ES z):(∀c∈z.cps.toList,AB c=true)∧z.cps.toList≠[]:=
 ⟨λc hc=>Wm (h.2.2 c hc),λe=>by
  have h1:=h.1;have e2:z.length=0:=(by rw[←Br,e];rfl);lia⟩
theorem Oj{X:List Nat}(st:Stop X)(ps:List (Str×Str×Kd)):Stop (G5 ps++X):=by
 cases ps with
 |nil=>exact st
 |cons q r=>rw[Lj];exact pB
theorem iG{q:Str×Str×Kd}(h:G8 q)(st:Stop r):Bw (BO q++r)=some (DK q,r):=by
 have e:BO q++r=q.1.cps.toList++(32::(q.2.1.cps.toList++(32::(q.2.2.sh++r)))):=by unfold BO;simp
 have w1:=Na (J0 h.nm).1 (JU (r:=q.2.1.cps.toList++(32::(q.2.2.sh++r))));have w2:=Na (a9 h.wy).1 (JU (r:=q.2.2.sh++r));rw[e];unfold Bw;rw[w1.1,w1.2,J9,AO,w2.1,w2.2,J9,AO,KS (M5 (Ip h.kg)) st,AM h.kd,AO,Ep,Ep];rfl
theorem lV:∀{ps:List (Str×Str×Kd)} {n:Nat} {r:List Nat},(∀q∈ps,G8 q)→(G5 ps++(41::r)).length<n→BP Bw n (G5 ps++(41::r))=some (ps.map DK,r)
 |[],0,r,h,hn=>by lia
 |[],n+1,r,h,hn=>iC
 |q::ps,0,r,h,hn=>by lia
 |q::ps,n+1,r,h,hn=>by
  rw[Lj]at hn;rw[Lj,show [44,32]++(BO q++G5 ps)++(41::r)=44::32::(BO q++(G5 ps++(41::r)))by simp,hG,iG (h q (by simp)) (Oj MA ps),AO];dsimp only;rw[lV (λz hz=>h z (by simp[hz])) (by simp only[AG,Aw,Cu]at hn ⊢;lia)];rfl
theorem zu(h:∀q∈ps,G8 q):Dr (B9 [44,32] (ps.map BO)++(41::r))=some (.tup (ps.map DK),r):=by
 cases ps with
 |nil=>show Dr (41::r)=_;unfold Dr;rw[jw];rfl
 |cons q ps=>
  have hq:=h q (by simp);rw[SD,BJ];unfold Dr;have no:pre [41] (BO q++(G5 ps++(41::r)))=none:=by
   have hn:=J0 hq.nm;unfold BO;cases e:q.1.cps.toList with
   |nil=>exact absurd e hn.2
   |cons c cs=>
    exact L5 λz=>?_;have:=hn.1 c (by rw[e];simp);rw[←z,Li]at this;cases this
  rw[no];dsimp only;rw[iG hq (Oj MA ps),AO];dsimp only;rw[lV (λz hz=>h z (by simp[hz])) (Jk _)];rfl
theorem xR:∀k:Kd,∀X,pre Ea (k.sh++X)=none
 |.num w,X=>Er λe=>by rw[Kd.sh]at e;revert e;show [110,117,109,32]≠Ea;decide
 |.text,X=>by rw[Kd.sh];exact L5 (by decide)
 |.row k,X=>by rw[Kd.sh];exact L5 (by decide)
 |.rec_ fs,X=>by rw[Kd.sh];exact L5 (by decide)
 |.pick fs,X=>by rw[Kd.sh];exact L5 (by decide)
theorem xn:pre [32,40] (32::40::r)=some r:=E4 rfl
theorem tF{p:Pa}(g:p.Gd):E5 p.sh=some (p.tr,[]):=by
 have e:p.sh=FK++(p.nm.cps.toList++(32::(48+p.sd.toNat)::32::40::(B9 [44,32] (p.ps.map BO)++(41::(32::En p.re))))):=by unfold Pa.sh;simp
 have w1:=Na (J0 g.nm).1 (JU (r:=(48+p.sd.toNat)::32::40::(B9 [44,32] (p.ps.map BO)++(41::(32::En p.re)))));have d10:p.sd.toNat<10:=by rcases g.sd with e|e<;>rw[e]<;>decide
 have hd:((p.sd.toNat:Nat):Int)=p.sd:=by rcases g.sd with e|e<;>rw[e]<;>rfl
 rw[e];unfold E5;rw[E4 (q:=FK) rfl,AO,w1.1,w1.2,J9,AO,R9 d10,AO];dsimp only;rw[xn,AO,zu g.ps,AO];dsimp only;rw[J9,AO,hd];unfold Jl Pa.tr;rw[Ep];cases rA:p.re with
 |none=>rw[show pre Ea (En none)=some []from E4 (by simp[En])];rfl
 |some k=>
  have gk:=g.re k rA;have n1:=xR k [];rw[BV]at n1;rw[show En (some k)=k.sh from rfl,n1];dsimp only;have:=KS (d:=5) (r:=[]) (M5 (Ip gk.1)) (.inl rfl);rw[BV,AM gk.2]at this;rw[this];rfl
theorem eN{p:Pa}(g:p.Gd):Dx p.tr=true:=by
 show(Ca (.str p.nm)&&(Hc (.int p.sd)&&(Gp (.tup (p.ps.map DK))&&IF (Gz p.re))))=true
 rw[bS g.nm,show Hc (.int p.sd)=true by rcases g.sd with e|e<;>rw[e]<;>rfl,LQ]
 have h1:(p.ps.map DK).all EI=true:=by
  rw[aaS];intro t ht;let⟨q,hq,rfl⟩:=aaV.mp ht;have o:=g.ps q hq;show(Ca (.str q.1)&&(Hp (.str q.2.1)&&Aj 5 q.2.2.tr))=true
  rw[bS o.nm,LO o.kg o.kd,show Hp (.str q.2.1)=true from BY o.wy];rfl
 have h2:decide ((p.ps.map DK).map DB).Nodup=true:=by
  rw[Fo];exact BY g.nd
 have h3:IF (Gz p.re)=true:=by
  cases rA:p.re with
  |none=>rfl
  |some k=>
   have gk:=g.re k rA;let⟨us,eu⟩:=gT k;show IF k.tr=true
   have:=LO gk.1 gk.2;rw[eu]at this ⊢;exact this
 rw[h1,h2,h3];rfl
theorem OM{p:Pa}(g:p.Gd):Dz E5 Dx p.sh=some p.tr:=by
 rw[gJ];exact⟨tF g,eN g⟩
theorem zE{l:List Nat}(h:Dz E5 Dx l=some t):∃p:Pa,t=p.tr∧p.Gd∧l=p.sh:=by
 rw[gJ]at h;let⟨p,rfl,g⟩:=W2 h.2;exact⟨p,rfl,g,gB g h.1⟩
abbrev Ir:List Nat:=[100,111,111,114]
def ER:List Nat→List (Str×Str×Kd)→List (List Nat)
 |_,[]=>[]
 |sep,q::r=>sep::q.1.cps.toList::q.2.1.cps.toList::(q.2.2.tk++ER [44] r)
def FJ:Option Kd→List (List Nat)
 |none=>[Ea]
 |some k=>k.tk
def Pa.tk(p:Pa):List (List Nat):=Ir::p.nm.cps.toList::[48+p.sd.toNat]::((if p.ps=[]then [[40]]else ER [40] p.ps)++([41]::FJ p.re))
theorem ot{q:Str×Str×Kd}(h:G8 q){a:Nat}(ha:AB a=false)(st:Stop r):∃a',Cb (BO q++r) a ws=Cb r a' (ws++(q.1.cps.toList::q.2.1.cps.toList::q.2.2.tk)):=by
 have e:BO q++r=q.1.cps.toList++(32::(q.2.1.cps.toList++(32::(q.2.2.sh++r)))):=by unfold BO;simp
 let⟨a1,e1⟩:=Gh (J0 h.nm).1 (J0 h.nm).2 ha (r:=32::(q.2.1.cps.toList++(32::(q.2.2.sh++r)))) (ws:=ws);let⟨a2,e2⟩:=Gh (a9 h.wy).1 (a9 h.wy).2 Cq (r:=32::(q.2.2.sh++r)) (ws:=ws++[q.1.cps.toList]);let⟨a3,e3⟩:=KY (k:=q.2.2) (a:=32) (r:=r) (ws:=ws++[q.1.cps.toList]++[q.2.1.cps.toList]) (Ip h.kg) Cq st;exact⟨a3,?_⟩;rw[e,e1,Di Cq,AM rfl,e2,Di Cq,AM rfl,e3];simp
theorem pU:∀{ps:List (Str×Str×Kd)} {a:Nat} {r:List Nat} {ws:List (List Nat)},(∀q∈ps,G8 q)→∃a',Cb (G5 ps++(41::r)) a ws=Cb (41::r) a' (ws++ER [44] ps)
 |[],a,r,ws,h=>⟨a,by rw[ER,BV];rfl⟩
 |q::ps,a,r,ws,h=>by
  let⟨a1,e1⟩:=ot (h q (by simp)) Cq (Oj (X:=41::r) MA ps) (ws:=ws++[[44]]);let⟨a2,e2⟩:=pU (ps:=ps) (a:=a1) (r:=r) (ws:=ws++[[44]]++(q.1.cps.toList::q.2.1.cps.toList::q.2.2.tk)) λz hz=>h z (by simp[hz]);exact⟨a2,?_⟩;rw[Lj,show [44,32]++(BO q++G5 ps)++(41::r)=44::32::(BO q++(G5 ps++(41::r)))by simp,Di iy,AE (by decide),Di Cq,AM rfl,e1,e2,ER];simp
theorem sM{p:Pa}(g:p.Gd):toks p.sh=p.tk:=by
 have e:p.sh=Ir++(32::(p.nm.cps.toList++(32::(48+p.sd.toNat)::32::40::(B9 [44,32] (p.ps.map BO)++(41::(32::En p.re)))))):=by unfold Pa.sh;simp
 have d9:p.sd.toNat≤9:=by rcases g.sd with e|e<;>rw[e]<;>decide
 let⟨a1,e1⟩:=Gh (h:=Ir) (by decide +kernel) (by decide) Cq (r:=32::(p.nm.cps.toList++(32::(48+p.sd.toNat)::32::40::(B9 [44,32] (p.ps.map BO)++(41::(32::En p.re)))))) (ws:=[]);let⟨a2,e2⟩:=Gh (J0 g.nm).1 (J0 g.nm).2 Cq (r:=32::(48+p.sd.toNat)::32::40::(B9 [44,32] (p.ps.map BO)++(41::(32::En p.re)))) (ws:=[]++[Ir]);have fin:∀(a:Nat) (ws:List (List Nat)),Cb (41::(32::En p.re)) a ws=ws++([41]::FJ p.re):=λa ws=>by
  rw[Di Li,AE (by decide),Di Cq,AM rfl];cases rA:p.re with
  |none=>
   let⟨b,eb⟩:=Gh (h:=Ea) (by decide +kernel) (by decide) Cq (r:=[]) (ws:=ws++[[41]]);rw[BV]at eb;rw[show En none=Ea from rfl,eb];show ws++[[41]]++[Ea]=_
   simp[FJ]
  |some k=>
   let⟨b,eb⟩:=KY (k:=k) (a:=32) (r:=[]) (ws:=ws++[[41]]) (Ip (g.re k rA).1) Cq (.inl rfl);rw[BV]at eb;rw[show En (some k)=k.sh from rfl,eb];show ws++[[41]]++k.tk=_
   simp[FJ]
 unfold toks;rw[e,e1,Di Cq,AM rfl,e2,Di Cq,AM rfl,Di (mi d9),AE (by lia),Di Cq,AM rfl,Di Mi,AE (by decide)];unfold Pa.tk;cases ET:p.ps with
 |nil=>
  rw[show B9 [44,32] (List.map BO [])=[]from rfl,Gr,fin,AM rfl];simp
 |cons q ps=>
  have gq:=g.ps;rw[ET]at gq;let⟨a3,e3⟩:=ot (gq q (by simp)) Mi (Oj (X:=41::(32::En p.re)) MA ps) (ws:=[]++[Ir]++[p.nm.cps.toList]++[[48+p.sd.toNat]]++[[40]]);let⟨a4,e4⟩:=pU (ps:=ps) (a:=a3) (r:=32::En p.re) (ws:=[]++[Ir]++[p.nm.cps.toList]++[[48+p.sd.toNat]]++[[40]]++(q.1.cps.toList::q.2.1.cps.toList::q.2.2.tk)) λz hz=>gq z (by simp[hz]);rw[SD,BJ,e3,e4,fin,AE (by simp),ER];simp
local macro_rules | `(tactic| left)=>`(tactic| repeat (first
 |(with_reducible first|refine dY ?_|refine fg ?_|refine TM ?_|refine Wo ?_|refine Vd ?_)|((with_reducible apply dz);exact rfl)|(with_reducible first|refine Y0 ?_|refine W3 ?_|refine Cg ?_|refine eH ?_|refine Ut ?_|refine Jc ?_|refine gQ ?_|refine ck ?_|refine Ss ?_|refine So ?_|refine bG ?_|refine Sa ?_|refine Sz ?_|refine aP ?_|refine cJ ?_|refine SA ?_|refine gC ?_|refine VN ?_|refine aK ?_|refine aZ ?_|refine dI ?_|refine gi ?_|refine aH ?_|refine fZ ?_|refine fR ?_|refine UW ?_|refine Rn ?_|refine aU ?_|refine dN ?_|refine cW ?_|refine dv ?_|refine Jb ?_|refine bt ?_|refine aF ?_)|((with_reducible refine dW ?_ ?_);exact rfl)|(with_reducible first|refine dq ?_|refine VM ?_|refine Wt ?_|refine Tz ?_|refine Rt ?_|refine fk ?_|refine Se ?_|refine bu ?_|refine W0 ?_|refine dL ?_|refine bO ?_|refine fz ?_|refine VO ?_|refine a8 ?_|refine gv ?_|refine ak ?_|refine TI ?_|refine Tx ?_|refine Ob ?_|refine Va ?_|refine fj ?_|refine SF ?_|refine fS ?_)|((with_reducible apply AU);(first|assumption|exact AP);(first|exact QW|exact L4))|((with_reducible apply Q9);(first|assumption|exact AP);exact rfl)
 |with_reducible refine And.intro (rfl:T.non=T.non) ?_|(with_reducible first|refine TP ?_|refine N7 ?_|refine Oc ?_|refine TE ?_)|((with_reducible apply dP);exact rfl;exact rfl;exact rfl)|(with_reducible first|refine eX ?_|refine Od ?_|refine fK ?_|refine CD ?_|refine CG ?_|refine Cn ?_|refine Cp ?_|refine cm ?_|refine cI ?_|refine VK ?_)|((with_reducible apply UY);(first|assumption|exact AP);exact rfl)|with_reducible refine fP ?_|((with_reducible apply b8);(first|assumption|exact AP);exact rfl)|with_reducible refine T3 ?_|((with_reducible apply cE);(first|assumption|exact AP);exact rfl)|((with_reducible apply cb);(first|assumption|exact AP);exact rfl)
 |with_reducible refine aw ?_|((with_reducible apply aJ);(first|assumption|exact AP);exact rfl)|(with_reducible first|refine cw ?_|refine N9 ?_|refine N8 ?_|refine Oa ?_)|((with_reducible refine Sp ?_ ?_);exact rfl)
 |((with_reducible refine G0 ?_ ?_);(first|exact⟨by decide,by decide,by decide⟩|exact⟨by decide,by decide⟩|exact Or.inl ⟨by decide,by decide⟩|exact Or.inr ⟨by decide,by decide⟩|((show(0:Int)<_);decide)))
 |((with_reducible refine Bv ?_ ?_);(first|exact rfl|decide +kernel))|((with_reducible refine Bs ?_ ?_);(first|exact rfl|decide +kernel))))
mutual
theorem cy:∀{k:Kd},k.good→k.sh.length≤9*Dd k.tr
 |.num w,h=>by rw[Kd.sh,Kd.tr,IK,G7];show 5≤_;lia
 |.text,h=>by rw[Kd.sh,Kd.tr,Dd];show 4≤_;lia
 |.row k,h=>by
  unfold Kd.good at h;have:=cy h;rw[Kd.sh,Kd.tr,IK,G7,AG];show 4+_≤_
  lia
 |.rec_ fs,h=>by
  unfold Kd.good at h;have h1:=eB h.1;have h2:=HI [44,32] (Af fs);have h2:(B9 [44,32] (Af fs)).length≤((Af fs).map λl=>l.length+2).sum:=h2;rw[Kd.sh,Kd.tr,IK,G7,Dd];simp only[AG,Aw,Cu];lia
 |.pick fs,h=>by
  unfold Kd.good at h;have h1:=eB h.1;have h2:=HI [44,32] (Af fs);have h2:(B9 [44,32] (Af fs)).length≤((Af fs).map λl=>l.length+2).sum:=h2;rw[Kd.sh,Kd.tr,IK,G7,Dd];simp only[AG,Aw,Cu];lia
theorem eB:∀{fs:List (Str×Kd)},CO fs→((Af fs).map λl=>l.length+2).sum≤9*CR (CI fs)
 |[],_=>by rw[Af,CI,CR];exact Ax _
 |(n,k)::r,h=>by
  unfold CO at h;have h1:=cy h.2.1;have h2:=eB h.2.2;have h3:=h.1.2.1;rw[Af,CI,CR,IK,G7,CV,Hl,AG,AG,Br];show _+1+_+2+_≤_
  lia
end
theorem lq(a b c:T):Dd (.tup [a,b,c])=1+Dd a+Dd b+Dd c:=by rw[Dd,CR,CR,CR,CR];lia
theorem TS:∀{ps:List (Str×Str×Kd)},(∀q∈ps,G8 q)→((ps.map BO).map λl=>l.length+2).sum≤9*CR (ps.map DK)
 |[],_=>by rw[Im,Im,Im,CR];exact Ax _
 |q::r,h=>by
  have o:=h q (by simp);have h1:=cy o.kg;have h2:=TS (ps:=r) λz hz=>h z (by simp[hz]);have h3:=o.nm.2.1;have h4:=(O0 o.wy).1;have e:(BO q).length=q.1.length+1+q.2.1.length+1+q.2.2.sh.length:=by unfold BO;simp only[AG,Aw,Cu,Br]
  have e2:Dd (DK q)=1+1+1+Dd q.2.2.tr:=by show Dd (.tup [.str q.1,.str q.2.1,q.2.2.tr])=_;rw[lq,G7,G7]
  rw[CV,CV,Hl,CV,CR,e,e2];lia
theorem QI:S v∈(["0","1"]:List Str)↔v=[48]∨v=[49]:=by
 rw[show(["0","1"]:List Str)=[S [48],S [49]]by decide +kernel];simp only[aam,Bx,D7];exact⟨λh=>h.imp GR GR,λh=>h.imp (λe=>by rw[e]) λe=>by rw[e]⟩
section
abbrev eC:Stmt:=Bb 61
theorem bq:B6 ["signs","words","places","behind","kind","end","result","paper"] ["signs"] (Am eC):=⟨rfl,rfl,rfl,by decide +kernel,rfl,by decide +kernel,by decide +kernel⟩
def nN:B2:=λts Γ Z _=>∃l:List Nat,ts=[.str (S l)]∧l.length≤99000∧Z (eS (Dz E5 Dx l)) Γ
theorem tf(F:eG K "_law_paper_of" "_law_paper_of" eC f fd)(kR:Al P w K mg ap "_law_words" 1 ["signs"] Rx)(du:Al P w K mg ap "_law_kind_in" 7 ["words","at","depth"] (Mq 7))(qT:Al P w K mg ap "_law_is_paper" 14 ["thing"] qh)(fU:Al P w K mg ap "_law_paper_shown" 7 ["paper"] gr)(aB:mg "tuple" = none):bJ P w K mg ap BK 15 f fd ["signs"] (B3 nN):=by
 exact Bq F bq (λts Γ Z Y h=>?_) (λcO A outer s H E ts Γ Z Y hr h=>?_)
 ·let⟨l,rfl,_⟩:=h
  rfl
 let⟨l,rfl,ll,q⟩:=h;exact⟨_,(A4 (AL (i:=1) bq.nd (Ak kR hr (A3 (A0 0) A6)))
  (A4 (AZ (PW.pt (BS (AY DS (AD (A0 1) A5) A9) (BS (Ft KU (AD (A0 1) A5) (BN (A3 A9 (A3 A9 A6))) (by with_unfolding_all rfl)) (Ck (AY DS (AD (A0 1) A5) A9))))) (A4 (AQ E6)
  A8) A8)
  (A4 (AL (i:=2) bq.nd (BN A6))
  (A4 (AL (i:=3) bq.nd A5)
  (A4 (D9 (AZ (AY DS (AD (A0 1) A5) A9) (A4 (AL (i:=3) bq.nd A5)
  A8) A8))
  (A4 (Lr G3 (PW.pt (BS (AY Be (A0 3) A5) (Ck (PW.pt (GC (AY Be (AD (A0 1) (A0 3)) A9) (HJ (AY Qe (AD (AD (A0 2) (LR A5)) A5) E6))))))) (A4 (GZ (Ak du hr (A3 (A0 1) (A3 (AA BF (A0 3) A5) (A3 A5 A6)))) (GG (n:=2) rfl (Cj (Cs (i:=4) bq.nd) (Cj (Cs (i:=5) bq.nd) GH))))
  (A4 (D8 (DT El Fn Fu Fc (A0 2) (A3 (C0 (A3 (AD (A0 1) (AA BF (A0 3) A5)) (A3 (AD (A0 1) (AA BF (A0 3) A5)) (A3 (A0 4) A6)))) A6)))
  (A4 (AL (i:=3) bq.nd (A0 5))
  A8))))
  (A4 (AZ (AY DS (AD (A0 1) (A0 3)) A9) (A4 (AQ E6)
  A8) A8)
  (A4 (AL (i:=6) bq.nd E6)
  (A4 (AL (i:=5) bq.nd (AA BF (A0 3) A5))
  (A4 (D9 (AZ (AY DS (AD (A0 1) (AA BF (A0 3) A5)) A9) (A4 (GZ (Ak du hr (A3 (A0 1) (A3 (AA BF (A0 3) A5) (A3 A5 A6)))) (GG (n:=2) rfl (Cj (Cs (i:=6) bq.nd) (Cj (Cs (i:=5) bq.nd) GH))))
  A8) A8))
  (A4 (AL (i:=7) bq.nd (C0 (A3 (AD (A0 1) A5) (A3 (DT IJ PySem.F.slot_str_index PySem.F.type_str_index hU A9 (A3 (AD (A0 1) A5) A6)) (A3 (Hb KN rfl aB EJ (A3 (A0 2) A6)) (A3 (A0 6) A6))))))
  (A4 (AZ (PW.pt (BS (PW.pt (GC (AY DS (AD (A0 1) (AA BF (A0 3) A5)) A9) (HJ (AY Jq (A0 6) E6)))) (Ck (AY DS (AD (A0 1) (A0 5)) A9)))) (A4 (AQ E6)
  A8) A8)
  (A4 (AZ (PW.pt (BS (Bf (BL (Ak qT hr (A3 (A0 7) A6)))) (Ck (AY DS (Ak fU hr (A3 (A0 7) A6)) (A0 0))))) (A4 (AQ E6)
  A8) A8)
  (A4 (AQ (A0 7))
  A8)))))))))))))),?_⟩
 simp only[B5];have sl:=E3;have no:(∀p:Pa,p.Gd→l=p.sh→False)→∀Γ2,Le Γ Γ2→De Z .non Γ2:=λhn Γ2 l2=>by
  cases hr:Dz E5 Dx l with
  |none=>rw[hr]at q;exact AH l2 q
  |some t=>let⟨p,_,g,e⟩:=zE hr;exact(hn p g e).elim
 left;exact⟨l,rfl,by lia,?_⟩;intro p1 jr;have wo:=qy (Γ:=Γ) (p:=p1) ll;generalize e1:up _ p1 (O.lst _)=Γ1 at wo ⊢;have l1:=AW e1 jr;have Sl:∀p:Pa,p.Gd→l=p.sh→toks l=p.tk:=λp g e=>by rw[e];exact sM g
 generalize ND:toks l=ws at wo Sl;have ix:∀i:Nat,i≤4→B7 (D6 (ws++GI)) (i:Int)=some (.str (S (BB ws i))):=λi hi=>Gu (by lia);left;exact AU wo.g (ix 0 (by decide)) ?_;left;by_cases h0:BB ws 0=Ir
 rotate_left
 ·exact Bv (by rw[Dk (show("door" : Str)=S Ir by decide +kernel) h0];rfl) ?_
  left;exact no (λp g e=>?_) _ l1;have:=Sl p g e;unfold Pa.tk at this;exact h0 (CZ (i:=0) (by rw[OT];exact this)).1
 exact Bs (by rw[h0];decide +kernel) ?_;left;exact AU wo.g (ix 2 (by decide)) ?_;left;intro p2 qz;generalize e2:up _ p2 (O.lst _)=Γ2;have g2:=AX e2;have l2:=AW e2 qz
 left;exact Ψ3 _ _ _ ⟨rfl,BM g2,IL ["0","1"],rfl,O1 ["0","1"],?_⟩;rw[AM rfl,GY];left;have Rg:∀p:Pa,p.Gd→l=p.sh→BB ws 1=p.nm.cps.toList∧BB ws 2=[48+p.sd.toNat]∧ws.drop 3=(if p.ps=[]then [[40]]else ER [40] p.ps)++([41]::FJ p.re):=λp g e=>by
  have:=Sl p g e;unfold Pa.tk at this;exact⟨(CZ (i:=1) (by rw[this];rfl)).1,(CZ (i:=2) (by rw[this];rfl)).1,by rw[this];rfl⟩
 by_cases h2:BB ws 2=[48]∨BB ws 2=[49]
 rotate_left
 ·exact Bv (by rw[BW λz=>h2 (QI.mp z)];rfl) ?_
  left;exact no (λp g e=>?_) _ (l1.trans l2);have:=(Rg p g e).2.1;rcases g.sd with e3|e3<;>rw[e3]at this
  ·exact h2 (.inl this)
  ·exact h2 (.inr this)
 exact Bs (by rw[BY (QI.mpr h2)];rfl) ?_;left;exact AU (l2 _ _ wo.g) (ix 3 (by decide)) ?_;left;have Ui:∀p:Pa,p.Gd→l=p.sh→BB ws 3=[40]:=λp g e=>by
  have:=(Rg p g e).2.2;cases ET:p.ps with
  |nil=>rw[ET,AM rfl]at this;exact(CZ this).1
  |cons x r=>rw[ET,AE (by simp),ER]at this;exact(CZ this).1
 by_cases h3:BB ws 3=[40]
 rotate_left
 ·exact Bv (by rw[Dk aI h3];rfl) ?_
  left;exact no (λp g e=>h3 (Ui p g e)) _ (l1.trans l2)
 exact Bs (by rw[h3];decide +kernel) ?_;have n4:=(Fd (ws:=ws) (i:=3) (by rw[h3];simp)).1;left;intro pf oW;generalize ef:up _ pf (O.lst _)=Γf;have gf:=AX ef;have lf:=AW ef oW
 have Uq:=l2 _ _ wo.g;have nf:p1≠pf:=CF Uq oW;have bf:Γ pf=none:=by
  cases e:Γ pf with
  |none=>rfl
  |some o=>have:=l2 _ _ (l1 pf o e);rw[oW]at this;cases this
 left;exact⟨λτ Γ3=>∃b:Nat,(b=3∧BB ws 4≠[41]∨b=4∧BB ws 4=[41])∧τ=[some (.str (S l)),some (.ref p1),some (.ref pf),some (.int (b:Nat)),none,none,none,none]∧Γ3=Γf,?_,?_⟩
 ·left
  exact AU (lf _ _ Uq) (ix 4 (by decide)) ?_;left;by_cases h4:BB ws 4=[41]
  ·exact Bs (by rw[h4];decide +kernel) ?_
   left;exact⟨4,.inr ⟨rfl,h4⟩,rfl,rfl⟩
  ·exact Bv (by rw[Dk JC h4];rfl) ?_
   left;exact⟨3,.inl ⟨rfl,h4⟩,rfl,rfl⟩
 intro τ Γ3⟨b0,RK,rfl,rfl⟩;have b0b:b0=3∨b0=4:=RK.imp (·.1) (·.1);left;exact⟨λm τ Γ'=>∃(pl:List T) (b:Nat) (o4 o5:Option T),τ=[some (.str (S l)),some (.ref p1),some (.ref pf),some (.int (b:Nat)),o4,o5,none,none]∧Γ' pf=some (.lst pl)∧Kq [pf] Γ2 Γ'∧m=ws.length+3-b∧3≤b∧b≤ws.length+2∧(pl=[]→b=b0)∧(pl≠[]→4<b)∧(∀t∈pl,∃nm wy kt,t=.tup [.str nm,.str wy,kt])∧(∀t∈pl,K3 t)∧pl.length≤b∧CR pl≤4*(b-3)∧(∀p:Pa,p.Gd→l=p.sh→∃gs hs,p.ps=gs++hs∧pl=gs.map DK∧ws.drop b=ER (if gs=[]then [40]else [44]) hs++([41]::FJ p.re)),Ψ5 _ [] b0 none none ⟨rfl,gf,lf.kq,rfl,by lia,by lia,λ_=>rfl,λh=>absurd rfl h,(λt ht=>nomatch ht),(λt ht=>nomatch ht),by simp,by rw[CR];lia,λp g e=>Ψ2 [] p.ps ⟨rfl,rfl,?_⟩⟩,?_⟩
 ·have t3:=(Rg p g e).2.2
  rw[AM rfl];rcases RK with⟨rfl,h4⟩|⟨rfl,h4⟩
  ·cases ET:p.ps with
   |nil=>
    rw[ET,AM rfl]at t3;exfalso
    have:=Ai (List.drop 1) t3;rw[GD]at this;exact h4 (CZ this).1
   |cons x r=>
    rw[ET,AE (by simp)]at t3;exact t3
  ·have t4:=Ai (List.drop 1) t3
   rw[GD]at t4;cases ET:p.ps with
   |nil=>rw[ET,AM rfl]at t4;exact t4
   |cons x r=>
    exfalso
    rw[ET,AE (by simp),ER]at t4;have:=(CZ t4).1;rw[h4]at this;have gx:=(J0 (g.ps x (by rw[ET];simp)).nm).1 41 (by rw[←this];simp);rw[Li]at gx;cases gx
 rintro m τ Γ' ⟨pl,b,o4,o5,rfl,sP,kq,rfl,b1,b2,b3,b4,ft,fp,flb,Zc,lk⟩;have ga:=kq p1 _ (by simpa using nf) Uq;have PH:=Gu (ws:=ws) (i:=b) (by lia);have Bc:Le Γ Γ':=λx o h=>kq x o (by simpa using CF h bf) (l2 _ _ (l1 x o h));obtain⟨kM,vQ⟩:∃kM:T,∀gl t,pl=gl++[t]→∃nm wy,t=.tup [.str nm,.str wy,kM]:=by
  rcases SO pl with e|⟨gl,t,e⟩
  ·exact⟨.non,λgl t e2=>by rw[e]at e2;simp at e2⟩
  ·let⟨nm,wy,kt,et⟩:=ft t (by rw[e];simp)
   exact⟨kt,λYF t2 e2=>?_⟩;rw[e,List.concat_eq_append]at e2;have:=(gK e2 rfl).2;cases this;exact Ψ2 nm wy et
 left;exact qf (Γ:=Γ') (c2:=decide (BB ws b=[44])&&!Il kM) (λh=>h) (λhc K hK=>?_) (λUd=>?_) (λQb FY=>?_)
 ·left
  exact AU ga PH ?_;left;by_cases yx:BB ws b=[44]
  ·rw[BY yx,Dj]at hK
   have EW:pl≠[]:=λe=>by
    have hb:=b3 e;rcases RK with⟨z,_⟩|⟨z,h4⟩
    ·rw[hb,z]at hc;revert hc;decide
    ·rw[hb,z,h4]at yx;cases yx
   obtain⟨gl,t,e⟩:∃gl t,pl=gl++[t]:=Ψ2 pl.dropLast (pl.getLast EW) ((KV EW).symm);let⟨nm,wy,et⟩:=vQ gl t e;have UL:B7 pl (-1)=some (.tup [.str nm,.str wy,kM]):=by
    rw[e,←et];unfold B7 Dm;rw[AE (by decide),AM (by rw[AG];show -((gl.length+1:Nat):Int)≤-1;lia)];show(gl++[t])[(-1+((gl++[t]).length:Int)).toNat]?=_
    rw[show(-1+((gl++[t]).length:Int)).toNat=gl.length by rw[AG];show(-1+((gl.length+1:Nat):Int)).toNat=_;lia];simp
   exact Bv (by rw[yx];decide +kernel) ?_;left;exact AU sP UL ?_;left;exact II (Ey (j:=2) rfl) ?_;left;exact hK
  ·rw[BW yx,Dq]at hK
   exact Bs (Dk (show("," : Str)=S [44]by decide +kernel) yx) ?_;exact hK
 ·have MV:b+3≤ws.length+2∧(b=3∨BB ws b=[44]):=by
   rcases Ud with h|⟨_,h⟩
   ·have e:b=3:=by
     have:=V.int.inj (C5 h);lia
    exact⟨by lia,.inl e⟩
   ·rw[DN,F9]at h
    have:=(Fd (ws:=ws) (i:=b) (by rw[h.1];simp)).1;exact⟨by lia,.inr h.1⟩
  obtain⟨MV,MM⟩:=MV;rw[AM rfl];have Mw:B7 (D6 (ws++GI)) ((b:Int)+1)=some (.str (S (BB ws (b+1)))):=by
   have:=Gu (ws:=ws) (i:=b+1) (by lia);rwa[show((b+1:Nat):Int)=(b:Int)+1 by lia]at this
  have Tr:B7 (D6 (ws++GI)) ((b:Int)+2)=some (.str (S (BB ws (b+2)))):=by
   have:=Gu (ws:=ws) (i:=b+2) (by lia);rwa[show((b+2:Nat):Int)=(b:Int)+2 by lia]at this
  exact⟨λτ Γ4=>∃(G1:List T) (b':Nat) (o4 o5:Option T),τ=[some (.str (S l)),some (.ref p1),some (.ref pf),some (.int (b':Nat)),o4,o5,none,none]∧Γ4 pf=some (.lst G1)∧Kq [pf] Γ2 Γ4∧b+3≤b'∧b'≤ws.length+2∧G1≠[]∧(∀t∈G1,∃nm wy kt,t=.tup [.str nm,.str wy,kt])∧(∀t∈G1,K3 t)∧G1.length≤b'∧CR G1≤4*(b'-3)∧(∀p:Pa,p.Gd→l=p.sh→∃gs hs,p.ps=gs++hs∧G1=gs.map DK∧ws.drop b'=ER (if gs=[]then [40]else [44]) hs++([41]::FJ p.re)),?_,?_⟩
  ·rintro τ Γ4 ⟨G1,b',o4,o5,rfl,g,k,hb,RL,EW,Uy,Uz,M0,Ux,Tc⟩
   exact⟨ws.length+3-b',by lia,G1,b',o4,o5,rfl,g,k,rfl,by lia,RL,λe=>absurd e EW,λ_=>by lia,Uy,Uz,M0,Ux,Tc⟩
  left;exact Ψ4 p1 ws (b+3) 1 ⟨by rw[show((b+3:Nat):Int)=(b:Int)+3 by lia];rfl,⟨ga,wo.ne,wo.l,wo.wl⟩,MV,by lia,by lia,by lia,λt e e1 e2 pt sz cp=>?_⟩;left;exact EP sP ?_;left;exact AU ga Mw ?_;left;exact AU ga Tr ?_;left;exact Ψ3 pf pl _ ⟨rfl,rfl,sP,by have:=wo.l;lia,?_⟩;left;exact Ψ4 (pl++[.tup [.str (S (BB ws (b+1))),.str (S (BB ws (b+2))),t]]) e _ _ ⟨rfl,AP,kq.trans (.set (by simp) _),by lia,e2,by simp,λu hu=>?_,λu hu=>?_,by rw[AG];show _+1≤_;lia,by rw[av,CR,CR,lq,G7,G7];lia,λp g ee=>?_⟩
  ·rcases aaH.mp hu with h|h
   ·exact ft u h
   ·exact Ψ3 _ _ _ (aau.mp h)
  ·rcases aaH.mp hu with h|h
   ·exact fp u h
   ·rw[aau.mp h]
    exact .tup (by show 3≤100000;decide) λv hv=>?_;simp only[aam,Bx,D7]at hv;rcases hv with rfl|rfl|rfl
    ·exact .str (by rw[Ad];exact NM wo.wl)
    ·exact .str (by rw[Ad];exact NM wo.wl)
    ·exact pt
  ·let⟨gs,hs,NG,Ic,eb⟩:=lk p g ee
   cases hs with
   |nil=>
    exfalso
    rw[ER,Gr]at eb;rcases MM with h|h
    ·rw[h]at eb
     rw[(CZ eb).1]at h3;cases h3
    ·rw[(CZ eb).1]at h;cases h
   |cons x r=>
    rw[ER]at eb;have Qt:ws.drop (b+1)=x.1.cps.toList::x.2.1.cps.toList::(x.2.2.tk++(ER [44] r++([41]::FJ p.re))):=by
     have:=Ai (List.drop 1) eb;rw[GD]at this;simpa using this
    have Qs:ws.drop (b+2)=x.2.1.cps.toList::(x.2.2.tk++(ER [44] r++([41]::FJ p.re))):=by
     have:=Ai (List.drop 1) Qt;rw[GD]at this;simpa using this
    have Wh:ws.drop (b+3)=x.2.2.tk++(ER [44] r++([41]::FJ p.re)):=by
     have:=Ai (List.drop 1) Qs;rw[GD]at this;simpa using this
    have ox:=g.ps x (by rw[NG];simp);have Bq:=ox.kd;let⟨c1,c2⟩:=cp x.2.2 _ ox.kg (by lia) Wh;exact Ψ2 (gs++[x]) r ⟨by rw[NG];simp,?_,?_⟩
    ·rw[Ic,B1,(CZ Qt).1,(CZ Qs).1,Ep,Ep,c1];rfl
    ·rw[AE (by simp),c2,←GD,Wh,Ly]
 ·rw[AE (by decide)]
  have done:∀p:Pa,p.Gd→l=p.sh→pl=p.ps.map DK∧ws.drop b=[41]::FJ p.re:=λp g ee=>by
   let⟨gs,hs,NG,Ic,eb⟩:=lk p g ee;cases hs with
   |nil=>rw[ER,Gr]at eb;exact⟨by rw[Ic,NG,BV],eb⟩
   |cons x r=>
    exfalso
    by_cases gn:gs=[]
    ·rw[AM gn,ER]at eb
     have hb:=b3 (by rw[Ic,gn];rfl);rcases RK with⟨z,_⟩|⟨z,h4⟩
     ·rw[hb,z]at Qb;revert Qb;decide
     ·rw[hb,z]at eb
      have:=(CZ eb).1;rw[h4]at this;cases this
    ·rw[AE gn,ER]at eb
     have yx:=(CZ eb).1;rw[BY yx,Dj]at FY;obtain⟨g',y,eg⟩:∃g' y,gs=g'++[y]:=Ψ2 gs.dropLast (gs.getLast gn) ((KV gn).symm);let⟨nm,wy,et⟩:=vQ (g'.map DK) (DK y) (by rw[Ic,eg,B1];rfl);have:y.2.2.tr=kM:=by
      have et:=T.tup.inj et;exact(B8 (B8 (B8 et).2).2).1
     let⟨us,eu⟩:=gT y.2.2;rw[←this,eu]at FY;cases FY
  left;exact AU ga PH ?_;left;by_cases HP:BB ws b=[41]
  rotate_left
  ·exact Bv (by rw[Dk JC HP];rfl) ?_
   left;exact no (λp g ee=>HP (CZ (done p g ee).2).1) _ Bc
  exact Bs (by rw[HP];decide +kernel) ?_;have bl:=(Fd (ws:=ws) (i:=b) (by rw[HP];simp)).1;have VJ:B7 (D6 (ws++GI)) ((b:Int)+1)=some (.str (S (BB ws (b+1)))):=by
   have:=Gu (ws:=ws) (i:=b+1) (by lia);rwa[show((b+1:Nat):Int)=(b:Int)+1 by lia]at this
  have v4:∀p:Pa,p.Gd→l=p.sh→ws.drop (b+1)=FJ p.re:=λp g ee=>by
   have:=Ai (List.drop 1) (done p g ee).2;rw[GD]at this;exact this
  left;have MH:∀k:Kd,BB ws (b+1)=Ea→ws.drop (b+1)≠k.tk:=λk hn e=>by
   cases k<;>rw[Kd.tk]at e<;>have:=(CZ e).1<;>rw[hn]at this<;>revert this<;>decide
  exact⟨λτ Γ4=>Γ4=Γ'∧∃(rt:T) (e:Nat),τ=[some (.str (S l)),some (.ref p1),some (.ref pf),some (.int (b:Nat)),o4,some (.int (e:Nat)),some rt,none]∧K3 rt∧e≤ws.length+2∧(∀p:Pa,p.Gd→l=p.sh→rt=Gz p.re∧e=ws.length∧(BB ws (b+1)≠Ea→Il rt=false)),?_,?_⟩
  ·left
   exact AU ga VJ ?_;left;by_cases hn:BB ws (b+1)=Ea
   ·exact Bs (by rw[hn];decide +kernel) ?_
    left;exact⟨rfl,.non,b+2,by rw[show((b+2:Nat):Int)=(b:Int)+2 by lia];rfl,.non,by lia,λp g ee=>?_⟩;have hr:=v4 p g ee;cases rA:p.re with
    |none=>
     rw[rA,FJ]at hr;exact⟨rfl,?_,λz=>absurd hn z⟩;have:=Ai List.length hr;rw[CH]at this;have this:ws.length-(b+1)=1:=this;lia
    |some k=>rw[rA,FJ]at hr;exact(MH k hn hr).elim
   ·exact Bv (by rw[Dk (show("none" : Str)=S Ea by decide +kernel) hn];rfl) ?_
    left;exact Ψ4 p1 ws (b+1) 1 ⟨by rw[show((b+1:Nat):Int)=(b:Int)+1 by lia];rfl,⟨ga,wo.ne,wo.l,wo.wl⟩,by lia,by lia,by lia,by lia,λt e e1 e2 pt sz cp=>?_⟩;left;exact⟨rfl,t,e,rfl,pt,e2,λp g ee=>?_⟩;have hr:=v4 p g ee;cases rA:p.re with
    |none=>rw[rA,FJ]at hr;exact absurd (CZ hr).1 hn
    |some k=>
     rw[rA,FJ]at hr;have gk:=g.re k rA;let⟨c1,c2⟩:=cp k [] gk.1 (by lia) (by rw[hr,BV]);exact⟨c1,?_,λ_=>by rw[c1];exact OU k⟩;have:=Ai List.length hr;rw[CH]at this;lia
  intro τ Γ4⟨rfl,⟨rt,e,rfl,Xc,e2,Rr⟩⟩;have NB:=Gu (ws:=ws) (i:=e) (by lia);obtain⟨i0,r0,Yk,JP,hi1⟩:∃(i0:Nat) (r:List Nat),BB ws 2=[48+i0]∧Builtin.Str.occurrences ("01" : Str) (S (BB ws 2)) 0 ("01" : Str).length 1=i0::r∧i0≤1:=by
   rcases h2 with h2|h2<;>rw[h2]
   ·exact Ψ2 0 [] ⟨rfl,by decide +kernel,by decide⟩
   ·exact Ψ2 1 [] ⟨rfl,by decide +kernel,by decide⟩
  left;exact AU ga (ix 1 (by decide)) ?_;left;exact AU ga (ix 2 (by decide)) ?_;left;exact Ψ4 _ _ i0 r0 ⟨rfl,rfl,JP,?_⟩;left;exact Ψ2 _ _ ⟨rfl,BM sP,?_⟩;left;have Qp:∀p:Pa,p.Gd→l=p.sh→T.tup [.str (S (BB ws 1)),.int (i0:Nat),.tup pl,rt]=p.tr:=λp g ee=>by
   have h1:=Rg p g ee;have h4:=h1.2.1;rw[Yk]at h4;have h5:i0=p.sd.toNat:=by have:=(B8 h4).1;lia
   have h6:(i0:Int)=p.sd:=by rw[h5];rcases g.sd with z|z<;>rw[z]<;>rfl
   unfold Pa.tr;rw[h1.1,Ep,h6,(done p g ee).1,(Rr p g ee).1]
  have SW:K3 (T.tup [.str (S (BB ws 1)),.int (i0:Nat),.tup pl,rt]):=by
   exact .tup (by show 4≤100000;decide) λv hv=>?_;simp only[aam,Bx,D7]at hv;rcases hv with rfl|rfl|rfl|rfl
   ·exact .str (by rw[Ad];exact NM wo.wl)
   ·exact .int _
   ·exact .tup (by have:=wo.l;lia) fp
   ·exact Xc
  generalize RD:T.tup [.str (S (BB ws 1)),.int (i0:Nat),.tup pl,rt]=Ln at Qp SW ⊢;exact AU ga VJ ?_;left;by_cases hn:BB ws (b+1)=Ea
  ·exact Bs (by rw[hn];decide +kernel) ?_
   exact Bs rfl ?_;left;exact AU ga NB ?_;left;by_cases we:BB ws e=[]
   rotate_left
   ·exact Bv (by rw[Dk (show("" : Str)=S []by decide +kernel) we];rfl) ?_
    left;exact no (λp g ee=>by have:=(Fd we).1;have:=(Rr p g ee).2.1;lia) _ Bc
   rw[we];exact Bs (by decide +kernel) ?_;left;exact⟨Ln,rfl,SW.mono (λ_ _ h=>by cases h),?_⟩;cases hq:Dx Ln with
   |false=>
    left;exact no (λp g ee=>by rw[Qp p g ee,eN g]at hq;cases hq) _ Bc
   |true=>
    let⟨p,ep,g⟩:=W2 hq;have Ic:pl=p.ps.map DK:=by
     rw[ep]at RD;exact T.tup.inj (B8 (B8 (B8 (T.tup.inj RD)).2).2).1
    have ok:p.Ok:=⟨g.nm,g.sd,g.ps,g.nd,by have:=TS g.ps;rw[←Ic]at this;have:=wo.l;lia,g.re⟩;left;exact⟨p,by rw[←ep],ok,?_⟩;left;by_cases ne:p.sh=l
    ·exact Bs (by rw[ne,BY rfl];rfl) ?_
     left;rw[←ne,OM g]at q;rw[ep];exact AH Bc q
    ·exact Bv (by rw[Dk rfl ne];rfl) ?_
     left;exact no (λp' g' e'=>ne ?_) _ Bc;have h:=(gJ.mp (OM g')).1;rw[←Qp p' g' e',ep,←e']at h;exact(gB g h).symm
  ·exact Bv (by rw[Dk (show("none" : Str)=S Ea by decide +kernel) hn];rfl) ?_
   left;exact AR (λz=>?_) (λz=>?_)
   ·left
    exact no (λp g ee=>by have:=(Rr p g ee).2.2 hn;rw[z]at this;cases this) _ Bc
   ·left
    exact AU ga NB ?_;left;by_cases we:BB ws e=[]
    rotate_left
    ·exact Bv (by rw[Dk (show("" : Str)=S []by decide +kernel) we];rfl) ?_
     left;exact no (λp g ee=>by have:=(Fd we).1;have:=(Rr p g ee).2.1;lia) _ Bc
    rw[we];exact Bs (by decide +kernel) ?_;left;exact⟨Ln,rfl,SW.mono (λ_ _ h=>by cases h),?_⟩;cases hq:Dx Ln with
    |false=>
     left;exact no (λp g ee=>by rw[Qp p g ee,eN g]at hq;cases hq) _ Bc
    |true=>
     let⟨p,ep,g⟩:=W2 hq;have Ic:pl=p.ps.map DK:=by
      rw[ep]at RD;exact T.tup.inj (B8 (B8 (B8 (T.tup.inj RD)).2).2).1
     have ok:p.Ok:=⟨g.nm,g.sd,g.ps,g.nd,by have:=TS g.ps;rw[←Ic]at this;have:=wo.l;lia,g.re⟩;left;exact⟨p,by rw[←ep],ok,?_⟩;left;by_cases ne:p.sh=l
     ·exact Bs (by rw[ne,BY rfl];rfl) ?_
      left;rw[←ne,OM g]at q;rw[ep];exact AH Bc q
     ·exact Bv (by rw[Dk rfl ne];rfl) ?_
      left;exact no (λp' g' e'=>ne ?_) _ Bc;have h:=(gJ.mp (OM g')).1;rw[←Qp p' g' e',ep,←e']at h;exact(gB g h).symm
end
def Gl(n:Int):Nat:=97+(n%26).toNat
def FR(ns:List Int):Str:=S (ns.map Gl)
theorem abS(n:Int):97≤Gl n∧Gl n≤122:=by
 unfold Gl;have:=CK n (by decide:(26:Int)≠0);have:=Cc n (by decide:(0:Int)<26);lia
theorem Pb(ns:List Int):Lets (FR ns):=λc h=>by
 have h:c∈ns.map Gl:=by simpa[FR,S]using h
 let⟨n,_,rfl⟩:=aaV.mp h;exact abS n
theorem Lc(ns:List Int):(FR ns).length=ns.length:=by unfold FR;rw[Ad,Ae]
theorem aar:∀j:Nat,j<26→yP.cps.toList[j]?=some (97+j):=by decide +kernel
theorem aax{r:Int}(h0:0≤r)(h1:r<26):B7 yP.cps.toList r=some (97+r.toNat):=by
 have e:r=((r.toNat:Nat):Int):=by lia
 rw[e];exact Ey (aar _ (by lia))
theorem vf(l:List Nat):Iu (l.map λc=>(⟨#[c]⟩:Str))=S l:=by
 unfold Iu S;congr 1
 rw[Fo];have:∀l:List Nat,(l.map ((λx:Str=>x.cps.toList) ∘ λc=>(⟨#[c]⟩:Str))).flatten=l:=λl=>by
  induction l with
  |nil=>rfl
  |cons c l ih=>rw[CV,MQ,ih];rfl
 rw[this]
section
abbrev aG:Stmt:=Bb 45
theorem zk:B6 ["numbers"] ["numbers"] (Am aG):=⟨rfl,rfl,rfl,by decide +kernel,rfl,by decide +kernel,by decide +kernel⟩
def jj:B2:=λts Γ Z _=>∃(a:Addr) (ns:List Int),ts=[.ref a]∧Γ a=some (.lst (ns.map T.int))∧ns.length≤1000∧Z (.str (FR ns)) Γ
theorem acD(F:eG K "_law_word" "_law_word" aG f fd):bJ P w K mg ap BK 1 f fd ["numbers"] (B3 jj):=by
 exact Bq F zk (λts Γ Z Y h=>?_) (λcO A outer s H E ts Γ Z Y hr h=>?_)
 ·let⟨a,ns,rfl,_⟩:=h
  rfl
 let⟨a,ns,rfl,ga,n1,q⟩:=h;exact⟨_,(A4 (AQ (DT IJ MB Lp vW A9 (A3 (Gs (own:=["one"]) (cap:=[]) Gg rfl (JG (A0 0)) (λ_ _ _ _=>Jm) (λ_ _ _ _=>HB) (λ_ _ _ _=>(KC A9 (AA BU (A0 0) A5)))) A6)))
  A8),?_⟩
 simp only[B5];left;exact Ψ2 a _ ⟨rfl,BM ga,DE (CM (by rw[Ae];exact n1)),?_⟩;exact⟨λv4 τ ys Γ'=>∃(ms ks:List Int) (o:Option T),v4=ks.map T.int∧ns=ms++ks∧τ=[o]∧ys=(ms.map Gl).map (λc=>T.str ⟨#[c]⟩)∧Γ'=Γ,Ψ3 [] ns none ⟨rfl,rfl,rfl,rfl,rfl⟩,?_,?_⟩
 ·intro τ ys Γ'⟨ms,ks,o,er,en,rfl,rfl,rfl⟩
  have hk:ks=[]:=by
   cases ks with
   |nil=>rfl
   |cons _ _=>cases er
  subst hk;rw[BV]at en;subst en;exact⟨BM ga,λD hD=>?_⟩;left;exact Ψ2 D ((ns.map Gl).map (λc=>(⟨#[c]⟩:Str))) ⟨rfl,rfl,?_,?_,?_,?_⟩
  ·rw[BM AP,Fo,Fo,Fo];rfl
  ·rw[Ae,Ae];exact n1
  ·intro y hy
   let⟨c,_,rfl⟩:=aaV.mp hy;show 1≤1000
   decide
  ·rw[vf]
   exact AH (.new hD) q
 ·intro x r τ ys Γ'⟨ms,ks,o,er,en,rfl,rfl,rfl⟩
  cases ks with
  |nil=>cases er
  |cons k ks=>
   cases er;exact⟨BM ga,?_⟩;left;have k0:=CK k (by decide:(26:Int)≠0);have k1:=Cc k (by decide:(0:Int)<26);exact Ψ3 _ _ _ ⟨rfl,rfl,by decide,aax k0 k1,?_⟩;exact Ψ3 (ms++[k]) ks _ ⟨rfl,by rw[en];simp,rfl,?_,rfl⟩;rw[B1,B1];rfl
end
theorem CU{α β:Type}(f:α→β)(xs:List α)(lo hi:Option Int):Ct (xs.map f) lo hi=(Ct xs lo hi).map f:=by
 unfold Ct;rw[Ae,List.map_take,List.map_drop]
theorem Ig{α:Type}{xs:List α}{n:Int}(h:0≤n):Ct xs none (some n)=xs.take n.toNat:=by
 unfold Ct;rw[HT.mT,OT,Nat.sub_zero,PV h];by_cases c:n.toNat≤xs.length
 ·rw[ON c]
 ·rw[QU (by lia),List.take_length,NW (by lia)]
theorem Hq{α:Type}{xs:List α}{i:Int}(h:0≤i):Ct xs (some i) none=xs.drop i.toNat:=by
 unfold Ct;rw[PV h,HT.mT];by_cases c:i.toNat≤xs.length
 ·rw[ON c,NW (by rw[CH];lia)]
 ·rw[QU (by lia),Mb,Wq (by lia),bo]
theorem aY{α:Type}{xs:List α}{x:α}(h:x∈Ct xs lo hi):x∈xs:=L6 (LU h)
def Cd(z:Str):Prop:=Lets z∧z.length≤8
theorem Cd.nm(h:Cd z)(n:z ≠ ""):ES z:=by
 exact⟨?_,h.2,h.1⟩;rcases Nat.eq_zero_or_pos z.length with e|e
 ·exfalso
  apply n
  have:z.cps.toList.length=0:=by rw[Br];exact e
  have e2:z.cps=#[]:=by
   rw[←ab3];exact Kj this
  obtain⟨c⟩:=z;show Str.mk c=_
  rw[show c=#[]from e2];rfl
 ·exact e
abbrev Hg:List Str:=["num","text","row","rec","pick","none","door","copy","give","lend","lease","new","call"]
theorem pL:∀z∈Hg,Lets z∧z.length≤5:=by
 intro z h;simp only[aam,Bx,D7]at h;rcases h with rfl|rfl|rfl|rfl|rfl|rfl|rfl|rfl|rfl|rfl|rfl|rfl|rfl<;>exact⟨mW (by decide +kernel),by decide +kernel⟩
def FI(r:Int)(n:Nat):List Str:=(List.range n).map λk:Nat=>FR [r+7*(k:Int)]
theorem ni(r:Int)(n:Nat):(FI r n).length=n:=by unfold FI;rw[Ae,eY]
theorem lj{r:Int}(h:z∈FI r n):Cd z∧z ≠ "" := by
 let⟨k,_,rfl⟩:=aaV.mp h;exact⟨⟨Pb _,by rw[Lc];exact(by decide:1≤8)⟩,λe=>?_⟩;have:(FR [r+7*(k:Int)]).length=1:=Lc _;rw[e]at this;revert this
 decide +kernel
theorem adf(r:Int):(FI r 26).Nodup:=by
 unfold FI;rw[List.nodup_iff_pairwise_ne,List.pairwise_map];exact List.Pairwise.imp_of_mem (λ{i j} hi hj hn e=>?_) List.nodup_range;rw[ace]at hi hj;have e1:[Gl (r+7*(i:Int))]=[Gl (r+7*(j:Int))]:=by
  have:=Ai (λz:Str=>z.cps.toList) e;simpa[FR,S]using this
 have e2:Gl (r+7*(i:Int))=Gl (r+7*(j:Int)):=by simpa using e1
 unfold Gl at e2;apply hn
 lia
theorem yj(r:Int)(n:Nat):FI r (n+1)=FI r n++[FR [r+7*(n:Int)]]:=by unfold FI;rw[List.range_succ,B1];rfl
theorem ac4(ss:List Str):(ss.map V.str).all EV=true:=by
 rw[aaS];intro v hv;let⟨z,_,rfl⟩:=aaV.mp hv;rfl
section
abbrev eP:Stmt:=Bb 46
theorem cn:B6 ["row","word","letter","at","own","some","k","names","one"] ["row"] (Am eP):=⟨rfl,rfl,rfl,by decide +kernel,rfl,by decide +kernel,by decide +kernel⟩
def i9:B2:=λts Γ Z _=>∃(a:Addr) (ns:List Int),ts=[.ref a]∧Γ a=some (.lst (ns.map T.int))∧ns.length=20∧∀(ss:List Str) (p:Addr),ss.length=9→(∀z∈ss,ES z)→ss.Nodup→Γ p=none→Z (.ref p) (up Γ p (.lst (ss.map T.str)))
theorem ab5(F:eG K "_law_names" "_law_names" eP f fd)(jG:Al P w K mg ap "_law_word" 1 ["numbers"] jj)(aE:mg "len" = none)(eI:mg "range" = none):bJ P w K mg ap BK 2 f fd ["row"] (B3 i9):=by
 exact Bq F cn (λts Γ Z Y h=>?_) (λcO A outer s H E ts Γ Z Y hr h=>?_)
 ·let⟨a,ns,rfl,_⟩:=h
  rfl
 let⟨a,ns,rfl,ga,nl,q⟩:=h;exact⟨_,(A4 (AL (i:=1) cn.nd (Ak jG hr (A3 (C3 CY (A0 0) DL (BQ (AA BF A5 (AA BU (AD (A0 0) A5) A5)))) A6)))
  (A4 (AL (i:=2) cn.nd (Ak jG hr (A3 (C3 CY (A0 0) (BQ A5) (BQ A5)) A6)))
  (A4 (AL (i:=3) cn.nd (AA BU (AD (A0 0) A5) (BE Iq rfl aE Bl (A3 (A0 1) A6))))
  (A4 (AL (i:=4) cn.nd (BN (A3 A9 (A3 A9 (A3 A9 (A3 A9 (A3 A9 (A3 A9 (A3 A9 (A3 A9 (A3 A9 (A3 A9 (A3 A9 (A3 A9 (A3 A9 A6)))))))))))))))
  (A4 (AL (i:=5) cn.nd (BN (A3 (A0 1) (A3 (AA CA (A0 1) (A0 2)) (A3 (AA CA (A0 2) (A0 1)) (A3 (AA CA (AA CA (C3 L8 (A0 1) DL (BQ (A0 3))) (A0 2)) (C3 L8 (A0 1) (BQ (AA BF (A0 3) A5)) DL)) (A3 (C3 L8 (A0 1) DL (BQ (A0 3))) (A3 (abo (A0 1) (LR A5)) A6))))))))
  (A4 (AL (i:=5) cn.nd (AA Dt (A0 5) (BN (A3 (AD (A0 4) (AA BU (AD (A0 0) A5) A5)) (A3 (Ak jG hr (A3 (C3 CY (A0 0) (BQ A5) (BQ (AA BF A5 (AA BU (AD (A0 0) A5) A5)))) A6)) (A3 (AA CA (AD (A0 4) (AA BU (AA FC (AD (A0 0) A5) A5) A5)) (A0 2)) A6))))))
  (A4 (AL (i:=5) cn.nd (AA Dt (C3 CY (A0 5) (BQ (AA BU (AD (A0 0) A5) A5)) DL) (C3 CY (A0 5) DL (BQ (AA BU (AD (A0 0) A5) A5)))))
  (A4 (Hd G3 rfl (QG rfl eI (A3 A5 A6)) (Cs (i:=6) cn.nd) (A4 (D8 (DT El Fn Fu Fc (A0 5) (A3 (Ak jG hr (A3 (BN (A3 (AA BF (AD (A0 0) A5) (AA Ht A5 (A0 6))) A6)) A6)) A6)))
  A8))
  (A4 (AL (i:=7) cn.nd (BN A6))
  (A4 (Hd G3 rfl (JG (A0 5)) (Cs (i:=8) cn.nd) (A4 (D9 (AZ (PW.pt (GC (AY DS (A0 8) A9) (GC (Ft KU (A0 8) (A0 7) (by with_unfolding_all rfl)) (HJ (AY FV (BE Co rfl aE Bl (A3 (A0 7) A6)) A5))))) (A4 (D8 (DT El Fn Fu Fc (A0 7) (A3 (A0 8) A6)))
  A8) A8))
  A8))
  (A4 (AQ (A0 7))
  A8))))))))))),?_⟩
 simp only[B5];let⟨Jx,m16,_,WS⟩:=Dw (ns:=ns) (j:=16) (by lia);let⟨r8,m8,_,x8⟩:=Dw (ns:=ns) (j:=8) (by lia);let⟨r9,m9,_,x9⟩:=Dw (ns:=ns) (j:=9) (by lia);let⟨Nx,m17,_,WR⟩:=Dw (ns:=ns) (j:=17) (by lia);let⟨Rl,m18,_,U7⟩:=Dw (ns:=ns) (j:=18) (by lia);let⟨FW,m19,_,WQ⟩:=Dw (ns:=ns) (j:=19) (by lia);have b16:0≤Jx%7∧Jx%7<7:=⟨CK _ (by decide),Cc _ (by decide)⟩;have b17:0≤Nx%5∧Nx%5<5:=⟨CK _ (by decide),Cc _ (by decide)⟩;left;exact AU ga WS ?_;left;exact Ψ2 a _ ⟨rfl,ga,λp1 jr=>?_⟩;rw[CU,Ig (by lia)];left;exact Ψ2 p1 _ ⟨rfl,AP,by rw[Bi];lia,?_⟩;have ew:(FR (ns.take (1+Jx%7).toNat)).length=(1+Jx%7).toNat:=by rw[Lc,Bi];lia
 have lw:=Pb (ns.take (1+Jx%7).toNat);generalize FR (ns.take (1+Jx%7).toNat)=word at *
 have l1:Le Γ (up Γ p1 (.lst ((ns.take (1+Jx%7).toNat).map T.int))):=.new jr;generalize up Γ p1 (.lst ((ns.take (1+Jx%7).toNat).map T.int))=Γ1 at *
 left;exact Ψ2 a _ ⟨rfl,l1 _ _ ga,λp2 qz=>?_⟩;rw[CU,Gk (by decide) (by decide)];left;exact Ψ2 p2 _ ⟨rfl,AP,by rw[Bi];exact Ce (Nat.min_le_left _ _) (by decide),?_⟩;have el:(FR ((ns.drop (Int.toNat 7)).take (Int.toNat 8-Int.toNat 7))).length=1:=by rw[Lc,Bi,CH,nl];rfl
 have ll:=Pb ((ns.drop (Int.toNat 7)).take (Int.toNat 8-Int.toNat 7));generalize FR ((ns.drop (Int.toNat 7)).take (Int.toNat 8-Int.toNat 7))=yk at *
 have l2:Le Γ (up Γ1 p2 (.lst (((ns.drop (Int.toNat 7)).take (Int.toNat 8-Int.toNat 7)).map T.int))):=l1.trans (.new qz);generalize up Γ1 p2 (.lst (((ns.drop (Int.toNat 7)).take (Int.toNat 8-Int.toNat 7)).map T.int))=Γ2 at *
 left;exact AU (l2 _ _ ga) x8 ?_;left;exact⟨word,rfl,DE (CM (by lia)),?_⟩;exact G0 (by show(0:Int)<_;lia) ?_;have ba:0≤r8%(word.length:Int)∧r8%(word.length:Int)<(word.length:Int):=⟨CK _ (by lia),Cc _ (by lia)⟩;generalize r8%(word.length:Int)=at_ at *
 left;intro po X7;generalize Wc:up _ po (O.lst _)=Γ3;have gO:=AX Wc;have l3:=AW Wc X7
 have gO:Γ3 po=some (.lst (Hg.map T.str)):=gO;left
 -- some,first part
 exact Cz ?_ ?_
 ·have:=E3;lia
 left;exact Cz ?_ ?_
 ·have:=E3;lia
 left;exact⟨DE (CM (by lia)),λy1 PY=>?_⟩;have c1:=Sw PY;have k1:=lw.cut PY;have h1:=uS ba.1 PY;left;exact Cz ?_ ?_
 ·have:=E3;lia
 left;exact⟨DE (CM (by lia)),λy2 JM=>?_⟩;have c2:=Sw JM;have k2:=lw.cut JM;have h2:y2.length≤word.length-(at_+1).toNat:=by
  rw[←Br,JM,Hq (by lia),CH,Br];exact Ax _
 left;exact Cz ?_ ?_
 ·have:=E3;rw[Kw];lia
 left;exact⟨DE (CM (by lia)),λy3 VQ=>?_⟩;have c3:=Sw VQ;have k3:=lw.cut VQ;left;exact⟨rfl,word,rfl,DE (CM (by lia)),λy4 c4 XJ=>?_⟩;have k4:Lets y4:=λc hc=>lw c (XJ c hc);left;intro p3 Bg;generalize JZ:up _ p3 (O.lst _)=Γ4;have gS:=AX JZ;have l4:=AW JZ Bg
 obtain⟨cs,gS,Uj,VA⟩:∃cs:List Str,Γ4 p3=some (.lst (cs.map T.str))∧(∀z∈cs,Cd z)∧cs.length=6:=by
  exact⟨[_,_,_,_,_,_],gS,λz hz=>?_,rfl⟩;simp only[aam,Bx,D7]at hz;rcases hz with rfl|rfl|rfl|rfl|rfl|rfl
  ·exact⟨lw,by lia⟩
  ·exact⟨lw.app ll,by rw[Kw];lia⟩
  ·exact⟨ll.app lw,by rw[Kw];lia⟩
  ·exact⟨(k1.app ll).app k2,by rw[Kw,Kw];lia⟩
  ·exact⟨k3,by lia⟩
  ·exact⟨k4,by lia⟩
 left;have XD:Le Γ2 Γ4:=l3.trans l4;have BH:Le Γ Γ4:=l2.trans XD;have V8:=l4 _ _ gO;exact AU (BH _ _ ga) x9 ?_;left;let⟨o1,Yc,Xz⟩:=J2 (xs:=Hg.map T.str) (r:=r9%13) (CK _ (by decide)) (Cc _ (by decide));let⟨z1,Xp,rfl⟩:=aaV.mp Xz;exact AU V8 Yc ?_;left;exact AU (BH _ _ ga) WR ?_;left;exact Ψ2 a _ ⟨rfl,BH _ _ ga,?_⟩;intro p5 vO;generalize Fg:up _ p5 (O.lst _)=Γ5;have g5:=AX Fg;have l5:=AW Fg vO
 rw[CU,Gk (by decide) (by lia)]at g5;left;exact Ψ2 p5 _ ⟨rfl,g5,by rw[Bi];have:=nl;lia,?_⟩;have e5:(FR ((ns.drop (Int.toNat 10)).take ((11+Nx%5).toNat-Int.toNat 10))).length≤5:=by rw[Lc,Bi];show min ((11+Nx%5).toNat-10) _≤5;lia
 have k5:=Pb ((ns.drop (Int.toNat 10)).take ((11+Nx%5).toNat-Int.toNat 10));generalize FR ((ns.drop (Int.toNat 10)).take ((11+Nx%5).toNat-Int.toNat 10))=y5 at *
 left;exact AU (l5 _ _ (BH _ _ ga)) x9 ?_;left;let⟨o2,RF,Xy⟩:=J2 (xs:=Hg.map T.str) (r:=r9/13%13) (CK _ (by decide)) (Cc _ (by decide));let⟨z2,S9,rfl⟩:=aaV.mp Xy;have Z1:=pL z1 Xp;have Z0:=pL z2 S9;exact AU (l5 _ _ V8) RF ?_;left;exact Cz ?_ ?_
 ·have:=E3;lia
 left;intro p6 wJ;generalize F2:up _ p6 (O.lst _)=Γ6;have g6:=AX F2;have l6:=AW F2 wJ
 have VF:Le Γ4 Γ6:=l5.trans l6;obtain⟨ds,g6,Yn,Vx⟩:∃ds:List Str,Γ6 p6=some (.lst (ds.map T.str))∧(∀z∈ds,Cd z)∧ds.length=3:=by
  exact⟨[_,_,_],g6,λz hz=>?_,rfl⟩;simp only[aam,Bx,D7]at hz;rcases hz with rfl|rfl|rfl
  ·exact⟨Z1.1,by lia⟩
  ·exact⟨k5,by lia⟩
  ·exact⟨Z0.1.app ll,by rw[Kw];lia⟩
 exact Ψ4 p3 p6 _ _ ⟨rfl,rfl,VF _ _ gS,g6,DE (CM (by rw[Ae,Ae,VA,Vx];decide)),?_⟩;intro p7 TX;generalize NH:up _ p7 (O.lst _)=Γ7;have g7:=AX NH;have l7:=AW NH TX
 rw[←B1]at g7;have Rz:Le Γ Γ7:=BH.trans (VF.trans l7);obtain⟨es,V2,nes,g7⟩:∃es:List Str,(∀z∈es,Cd z)∧es.length=9∧Γ7 p7=some (.lst (es.map T.str)):=⟨cs++ds,λz hz=>(aaH.mp hz).elim (Uj z) (Yn z),by rw[AG,VA,Vx],g7⟩;left;exact AU (Rz _ _ ga) U7 ?_;left;have b18:0≤Rl%9∧Rl%9<9:=⟨CK _ (by decide),Cc _ (by decide)⟩;exact Ψ2 p7 _ ⟨rfl,g7,?_⟩;intro p8 X8;generalize We:up _ p8 (O.lst _)=Γ8;have g8:=AX We;have l8:=AW We X8
 rw[CU]at g8;left;exact AU (l8 _ _ (Rz _ _ ga)) U7 ?_;left;exact Ψ2 p7 _ ⟨rfl,l8 _ _ g7,?_⟩;intro p9 TV;generalize Wd:up _ p9 (O.lst _)=Γ9;have g9:=AX Wd;have l9:=AW Wd TV
 rw[CU]at g9;have n8:=R3 es (some (Rl%9)) none;have n9:=R3 es none (some (Rl%9));exact Ψ4 p8 p9 _ _ ⟨rfl,rfl,l9 _ _ g8,g9,DE (CM (by rw[Ae,Ae];lia)),?_⟩;intro oR HN;generalize Qq:up _ oR (O.lst _)=Γ10;have zX:=AX Qq;have uU:=AW Qq HN
 rw[←B1]at zX;have Th:Le Γ Γ10:=Rz.trans (l8.trans (l9.trans uU));obtain⟨fs,Yl,nfs,zX⟩:∃fs:List Str,(∀z∈fs,Cd z)∧fs.length≤18∧Γ10 oR=some (.lst (fs.map T.str)):=⟨_,λz hz=>(aaH.mp hz).elim (λh=>V2 z (aY h)) (λh=>V2 z (aY h)),by rw[AG];lia,zX⟩;left;have bN:Γ oR=none:=by
  cases e:Γ oR with
  |none=>rfl
  |some o=>have:=(Rz.trans (l8.trans l9)) _ _ e;rw[HN]at this;cases this
 have na:a≠oR:=CF ga bN;exact⟨26,rfl,by decide,by decide,?_⟩;exact⟨λv4 τ Γ'=>∃(i m:Nat) (o6:Option T),v4=FD i m∧i+m=26∧τ=[some (.ref a),some (.str word),some (.str yk),some (.int at_),some (.ref po),some (.ref oR),o6,none,none]∧Γ' oR=some (.lst ((fs++FI FW i).map T.str))∧Kq [oR] Γ Γ',Ψ3 0 26 none ⟨rfl,rfl,rfl,by rw[show FI FW 0=[]from rfl,BV];exact zX,Th.kq⟩,?_,?_⟩
 ·intro τ Γ'⟨i,m,o6,er,im,rfl,gL,kq⟩
  have hm:=Tw er;subst hm;have:i=26:=im;subst this;exact⟨trivial,?_⟩;left;intro pn EU;generalize en:up _ pn (O.lst _)=Γn;have gn:=AX en;have ln:=AW en EU
  have bn:Γ pn=none:=by
   by_cases e1:pn=oR
   ·rw[e1];exact bN
   ·cases e:Γ pn with
    |none=>rfl
    |some o=>have:=kq _ _ (by simpa using e1) e;rw[EU]at this;cases this
  have ne:oR≠pn:=CF gL EU;left;exact Ψ2 oR _ ⟨rfl,BM (ln _ _ gL),?_⟩;exact⟨λv4 τ Γ'=>∃(ds rs ss:List Str) (o8:Option T),v4=rs.map T.str∧fs++FI FW 26=ds++rs∧τ=[some (.ref a),some (.str word),some (.str yk),some (.int at_),some (.ref po),some (.ref oR),o6,some (.ref pn),o8]∧(∀z∈ss,ES z)∧ss.Nodup∧ss.length≤9∧(ss.length=9∨∀z∈ds,z ≠ "" → z∈ss)∧Γ' pn=some (.lst (ss.map T.str))∧Γ' oR=some (.lst ((fs++FI FW 26).map T.str))∧Kq [oR,pn] Γ Γ',Ψ4 [] _ [] none ⟨rfl,rfl,rfl,λ_ h=>(nomatch h),OW,by decide,.inr λ_ h=>(nomatch h),gn,ln _ _ gL,(kq.mono (by simp)).trans ln.kq⟩,?_,?_⟩
  ·intro τ Γ2⟨ds,rs,ss,o8,RV,ed,rfl,nm,nd,s9,Bj,gs,MY,yo⟩
   have TQ:rs=[]:=by
    cases rs with
    |nil=>rfl
    |cons _ _=>cases RV
   subst TQ;rw[BV]at ed;exact⟨BM MY,?_⟩;left;have e9:ss.length=9:=by
    rcases Bj with h|h
    ·exact h
    ·exfalso
     have:=sub_len (l:=FI FW 26) (m:=ss) (adf FW) λz hz=>h z (by rw[←ed];exact EH _ hz) (lj hz).2;rw[ni]at this;lia
   exact⟨up Γ pn (.lst (ss.map T.str)),λb u g=>?_,q ss pn e9 nm nd bn⟩;by_cases e1:b=pn
   ·subst e1;rw[AP]at g;cases g;exact gs
   ·rw[CB e1]at g
    by_cases e2:b=oR
    ·subst e2;rw[bN]at g;cases g
    ·exact yo b u (by simp[e1,e2]) g
  ·intro x rr τ Γ2⟨ds,rs,ss,o8,RV,ed,rfl,nm,nd,s9,Bj,gs,MY,yo⟩
   cases rs with
   |nil=>cases RV
   |cons z rs=>
    cases RV;have cz:Cd z:=by
     have:z∈fs++FI FW 26:=by rw[ed];simp
     rcases aaH.mp this with h|h
     ·exact Yl z h
     ·exact(lj h).1
    exact⟨BM MY,?_⟩;left;exact⟨λτ Γ'=>∃(ss:List Str),τ=[some (.ref a),some (.str word),some (.str yk),some (.int at_),some (.ref po),some (.ref oR),o6,some (.ref pn),some (.str z)]∧(∀z∈ss,ES z)∧ss.Nodup∧ss.length≤9∧(ss.length=9∨∀y∈ds++[z],y ≠ "" → y∈ss)∧Γ' pn=some (.lst (ss.map T.str))∧Γ' oR=some (.lst ((fs++FI FW 26).map T.str))∧Kq [oR,pn] Γ Γ',?_,?_⟩
    ·left
     have same:(z = "" ∨ z∈ss∨ss.length=9)→ss.length=9∨∀y∈ds++[z],y ≠ "" → y∈ss:=λh=>by
      rcases Bj with h9|ha
      ·exact .inl h9
      rcases h with h|h|h
      ·exact .inr λy hy ny=>?_
       rcases aaH.mp hy with hy|hy
       ·exact ha y hy ny
       ·rw[aau.mp hy]at ny;exact absurd h ny
      ·exact .inr λy hy ny=>?_
       rcases aaH.mp hy with hy|hy
       ·exact ha y hy ny
       ·rw[aau.mp hy];exact h
      ·exact .inl h
     exact AR (λc1=>?_) (λc1=>?_)
     ·have c1:z ≠ "" := λe=>by rw[e]at c1;simp at c1
      left;exact Ng gs rfl (IL ss) rfl (ac4 ss) ?_;show ∃k,T.bl (!DX (.str z) (ss.map V.str))=.bl k∧_
      rw[GY];left;exact AR (λc2=>?_) (λc2=>?_)
      ·have c2:z∉ss:=by simpa using c2
       left;exact GF gs ?_;rw[Ae];left;exact AR (λc3=>?_) (λc3=>?_)
       ·have c3:=C5 c3
        left;exact EP gs ?_;left;exact Ψ3 pn _ _ ⟨rfl,rfl,gs,CM (by rw[Ae];lia),?_⟩;left;exact⟨ss++[z],rfl,λy hy=>?_,?_,by rw[AG];show ss.length+1≤9;lia,?_,by rw[B1];exact AP,by rw[CB ne];exact MY,yo.trans (.set (by simp) _)⟩
        ·rcases aaH.mp hy with hy|hy
         ·exact nm y hy
         ·rw[aau.mp hy];exact cz.nm c1
        ·rw[K0]
         exact⟨nd,by simp,λx hx y hy e=>c2 ?_⟩;rw[aau]at hy;rw[←hy,←e];exact hx
        ·rcases Bj with h9|ha
         ·lia
         ·exact .inr λy hy ny=>?_
          rcases aaH.mp hy with hy|hy
          ·exact Iz _ (ha y hy ny)
          ·exact EH _ hy
       ·have c3:=DO c3
        left;exact⟨ss,rfl,nm,nd,s9,same (.inr (.inr (by lia))),gs,MY,yo⟩
      ·have c2:z∈ss:=by simpa using c2
       left;exact⟨ss,rfl,nm,nd,s9,same (.inr (.inl c2)),gs,MY,yo⟩
     ·have c1:z = "" := by simpa using c1
      left;exact⟨ss,rfl,nm,nd,s9,same (.inl c1),gs,MY,yo⟩
    intro τ Γ3⟨W5,rfl,Xl,Xn,W7,Qd,Yz,YI,XH⟩;left;exact Ψ4 (ds++[z]) rs W5 _ ⟨rfl,by rw[ed];simp,rfl,Xl,Xn,W7,Qd,Yz,YI,XH⟩
 ·intro x rr τ Γ'⟨i,m,o6,er,im,rfl,gL,kq⟩
  let⟨m',rfl,rfl,rfl⟩:=Qx er;have Bm:=kq _ _ (by simpa using na) ga;left;exact EP gL ?_;left;exact AU Bm WQ ?_;left;intro L0 TY;generalize F5:up _ L0 (O.lst _)=Γa;have Bo:=AX F5;have yn:=AW F5 TY
  left;exact Ψ2 L0 [FW+7*(i:Int)] ⟨rfl,Bo,by show 1≤1000;decide,?_⟩;left;exact Ψ3 oR _ _ ⟨rfl,rfl,yn _ _ gL,CM (by rw[Ae,AG,ni];lia),?_⟩;left;exact Ψ3 (i+1) m' _ ⟨rfl,by lia,rfl,?_,(kq.trans yn.kq).trans (.set (by simp) _)⟩;rw[AP,yj,←BJ,B1 (l₁:=fs++FI FW i)];rfl
end
theorem qN:∀{gs:List (Str×Kd)} {D:Nat},(∀p∈gs,ES p.1∧p.2.good)→CO gs
 |[],D,h=>by unfold CO;trivial
 |(m,k)::r,D,h=>by
  have a:=qN (gs:=r) (D:=D) λp hp=>h p (by simp[hp]);let⟨x,y⟩:=h (m,k) (by simp);unfold CO;exact⟨x,y,a⟩
theorem km:∀{gs:List (Str×Kd)} {D:Nat},(∀p∈gs,p.2.depth≤D)→B4 gs≤D
 |[],D,h=>by unfold B4;exact Fe _
 |(m,k)::r,D,h=>by
  have a:=km (gs:=r) (D:=D) λp hp=>h p (by simp[hp]);have y:=h (m,k) (by simp);unfold B4;have y:k.depth≤D:=y;lia
theorem mh{α:Type}:∀{ls:List α} {j:Nat} (h:j<ls.length),(ls[j]::ls.eraseIdx j).Perm ls
 |x::r,0,h=>.refl _
 |x::r,j+1,h=>by
  have h':j<r.length:=by simpa using h
  show(r[j]::x::r.eraseIdx j).Perm (x::r)
  exact(List.Perm.swap _ _ _).trans ((mh h').cons x)
theorem rJ{α β:Type}(f:α→β):∀(ls:List α) (j:Nat),(ls.map f).eraseIdx j=(ls.eraseIdx j).map f
 |[],j=>rfl
 |x::r,0=>rfl
 |x::r,j+1=>by
  show f x::(r.map f).eraseIdx j=f x::(r.eraseIdx j).map f
  rw[rJ f r j]
theorem le_none(k:Le Γ Γ')(h:Γ' p=none):Γ p=none:=by
 cases e:Γ p with
 |none=>rfl
 |some o=>have:=k p o e;rw[h]at this;cases this
section
abbrev SE:Stmt:=Bb 47
theorem fc:B6 ["kinds","names","number","left","fields","kind"] ["kinds","names","number"] (Am SE):=⟨rfl,rfl,rfl,by decide +kernel,rfl,by decide +kernel,by decide +kernel⟩
def jy:B2:=λts Γ Z _=>∃(a b:Addr) (n:Int) (ks:List Kd) (ss:List Str),ts=[.ref a,.ref b,.int n]∧Γ a=some (.lst (ks.map Kd.tr))∧Γ b=some (.lst (ss.map T.str))∧ks.length≤6∧6≤ss.length∧ss.length≤9∧
 ∀fs:ad,fs.map (·.2)=ks→(ss.Nodup→(fs.map (·.1)).Nodup)→(∀p∈fs,p.1∈ss)→Z (.tup (CI fs)) Γ
theorem aay(F:eG K "_law_fields" "_law_fields" SE f fd)(wO:mg "list" = none)(aE:mg "len" = none)(aB:mg "tuple" = none):bJ P w K mg ap BK 1 f fd ["kinds","names","number"] (B3 jy):=by
 exact Bq F fc (λts Γ Z Y h=>?_) (λcO A outer s H E ts Γ Z Y hr h=>?_)
 ·let⟨a,b,n,ks,ss,rfl,_⟩:=h
  rfl
 let⟨a,b,n,ks,ss,rfl,ga,gb,k6,s6,s9,q⟩:=h;exact⟨_,(A4 (AL (i:=3) fc.nd (Hb aca rfl wO acC (A3 (A0 1) A6)))
  (A4 (AL (i:=4) fc.nd (BN A6))
  (A4 (Hd G3 rfl (JG (A0 0)) (Cs (i:=5) fc.nd) (A4 (D8 (DT El Fn Fu Fc (A0 4) (A3 (C0 (A3 (DT El de SS sO (A0 3) (A3 (AA BU (A0 2) (BE Co rfl aE Bl (A3 (A0 3) A6))) A6)) (A3 (A0 5) A6))) A6)))
  (A4 (AL (i:=2) fc.nd (AA FC (A0 2) A5))
  A8)))
  (A4 (AQ (Hb KN rfl aB EJ (A3 (A0 4) A6)))
  A8)))),?_⟩
 simp only[B5];left;exact Ψ2 (.ref b) _ ⟨rfl,BM gb,?_⟩;intro pl iM;generalize e1:up _ pl (O.lst _)=Γ1;have gl:=AX e1;have l1:=AW e1 iM
 left;intro pf oW;generalize e2:up _ pf (O.lst _)=Γ2;have gf:=AX e2;have l2:=AW e2 oW
 have bl:Γ pl=none:=iM;have bf:Γ pf=none:=le_none l1 oW;have Vt:pl≠pf:=CF gl oW;have VD:a≠pl:=CF ga bl;have Rw:a≠pf:=CF ga bf;left;exact Ψ2 a _ ⟨rfl,BM (l2 _ _ (l1 _ _ ga)),?_⟩;exact⟨λv4 τ Γ'=>∃(rs:List Kd) (gs:ad) (ls:List Str) (m:Int) (o5:Option T),v4=rs.map Kd.tr∧ks=gs.map (·.2)++rs∧τ=[some (.ref a),some (.ref b),some (.int m),some (.ref pl),some (.ref pf),o5]∧(gs.map (·.1)++ls).Perm ss∧Γ' pl=some (.lst (ls.map T.str))∧Γ' pf=some (.lst (CI gs))∧Kq [pl,pf] Γ Γ',Ψ5 ks [] ss n none ⟨rfl,rfl,rfl,.refl _,l2 _ _ gl,gf,(l1.trans l2).kq⟩,?_,?_⟩
 ·intro τ Γ'⟨rs,gs,ls,m,o5,er,ek,rfl,pm,RQ,sP,kq⟩
  have TQ:rs=[]:=by
   cases rs with
   |nil=>rfl
   |cons _ _=>cases er
  subst TQ;rw[BV]at ek;exact⟨BM (kq _ _ (by simp[VD,Rw]) ga),?_⟩;left;exact Ψ2 (.ref pf) _ ⟨rfl,BM sP,?_⟩;have:Le Γ Γ':=λx o h=>kq x o (by
   have n1:x≠pl:=CF h bl;have n2:x≠pf:=CF h bf;simp[n1,n2]) h
  exact AH this (q gs ek.symm (λnd=>?_) λp hp=>?_)
  ·have:=pm.nodup_iff.mpr nd
   rw[K0]at this;exact this.1
  ·exact pm.mem_iff.mp (Iz _ (aaV.mpr ⟨p,hp,rfl⟩))
 ·intro x rr τ Γ'⟨rs,gs,ls,m,o5,er,ek,rfl,pm,RQ,sP,kq⟩
  cases rs with
  |nil=>cases er
  |cons k rs=>
   cases er;have hl:gs.length+ls.length=ss.length:=by
    have:=pm.length_eq;rw[AG,Ae]at this;exact this
   have hk:gs.length+(rs.length+1)=ks.length:=by rw[ek,AG,Ae,Aw]
   exact⟨BM (kq _ _ (by simp[VD,Rw]) ga),?_⟩;left;exact EP sP ?_;left;exact EP RQ ?_;left;exact GF RQ ?_;rw[Ae];exact G0 (by show(0:Int)<_;lia) ?_;have b0:=CK m (show(ls.length:Int)≠0 by lia);have b1:=Cc m (show(0:Int)<ls.length by lia);obtain⟨j,hj⟩:∃j:Nat,m%(ls.length:Int)=j:=⟨(m%(ls.length:Int)).toNat,by lia⟩;have V0:j<ls.length:=by lia
   rw[hj];left;exact Ψ4 pl (ls.map T.str) j (.str ls[j]) ⟨rfl,rfl,RQ,by lia,by simp[V0],?_⟩;left;exact Ψ3 pf _ _ ⟨rfl,rfl,by rw[CB Vt.symm];exact sP,CM (by rw[Jo];lia),?_⟩;left;exact Ψ5 rs (gs++[(ls[j],k)]) (ls.eraseIdx j) _ _ ⟨rfl,by rw[ek,B1];simp,rfl,?_,?_,?_,(kq.trans (.set (by simp) _)).trans (.set (by simp) _)⟩
   ·rw[B1,BJ]
    exact(List.Perm.append_left _ (mh V0)).trans pm
   ·rw[CB Vt,AP,rJ]
   ·rw[AP,bZ];rfl
theorem fC:∀fs:List (Str×Kd),(Af fs).length=fs.length
 |[]=>by rw[Af];rfl
 |(_,k)::r=>by rw[Af,Aw,fC r,Aw]
theorem pq:∀ls:List (List Nat),1≤ls.length→(B9 [44,32] ls).length+2≤(ls.map λl=>l.length+2).sum
 |[],h=>by simp at h
 |x::r,_=>by
  unfold B9;rw[AG,UQ,Fo,CV,Hl];have:(r.map (List.length ∘ λy=>[44,32]++y))=r.map λl=>l.length+2:=Q8 λy _=>by
   show(44::32::y).length=_
   rfl
  rw[this];lia
mutual
def Kd.wt:Kd→Nat
 |.num _=>16
 |.text=>16
 |.row k=>k.wt+4
 |.rec_ fs=>IV fs+16
 |.pick fs=>IV fs+16
def IV:List (Str×Kd)→Nat
 |[]=>0
 |(_,k)::r=>k.wt+IV r
end
def K8(ks:List Kd):Nat:=(ks.map Kd.wt).sum
def Et(ms:List (Kd×Int)):Nat:=K8 (ms.map (·.1))
theorem TO:∀fs:List (Str×Kd),IV fs=K8 (fs.map (·.2))
 |[]=>by rw[IV];rfl
 |(_,k)::r=>by rw[IV,TO r];rfl
theorem KR(a b:List (Kd×Int)):Et (a++b)=Et a+Et b:=by unfold Et K8;rw[B1,B1,List.sum_append]
theorem O4(k:Kd)(d:Int):Et [(k,d)]=k.wt:=by show k.wt+0=_;lia
theorem ux(a:List (Kd×Int)):Et a.reverse=Et a:=by
 unfold Et K8;rw[cA,cA,List.sum_reverse]
theorem kV:∀{a:List (Kd×Int)} {x:Kd×Int},x∈a→x.1.wt≤Et a
 |y::r,x,h=>by
  have e:Et (y::r)=y.1.wt+Et r:=rfl;rcases aam.mp h with rfl|h
  ·lia
  ·have:=kV h;lia
mutual
theorem Lz:∀{k:Kd},k.good→k.sh.length+11≤k.wt
 |.num w,h=>by rw[Kd.sh,Kd.wt];show 5+11≤_;lia
 |.text,h=>by rw[Kd.sh,Kd.wt];show 4+11≤_;lia
 |.row k,h=>by
  unfold Kd.good at h;have:=Lz h;rw[Kd.sh,Kd.wt,AG];show 4+_+11≤_
  lia
 |.rec_ fs,h=>by
  unfold Kd.good at h;have h1:=dO h.1;have h2:=pq (Af fs) (by rw[fC];exact h.2.1);rw[Kd.sh,Kd.wt];simp only[AG,Aw,Cu];lia
 |.pick fs,h=>by
  unfold Kd.good at h;have h1:=dO h.1;have h2:=pq (Af fs) (by rw[fC];exact h.2.1);rw[Kd.sh,Kd.wt];simp only[AG,Aw,Cu];lia
theorem dO:∀{fs:List (Str×Kd)},CO fs→((Af fs).map λl=>l.length+2).sum≤IV fs
 |[],_=>by rw[Af,IV];exact Ax _
 |(n,k)::r,h=>by
  unfold CO at h;have h1:=Lz h.2.1;have h2:=dO h.2.2;have h3:=h.1.2.1;rw[Af,IV,CV,Hl,AG,AG,Br];show _+1+_+2+_≤_
  lia
end
def EM(q:Kd×Int):T:=.tup [q.1.tr,.int q.2]
def Mt(ss:List Str)(D:Int)(q:Kd×Int):Prop:=(ss.Nodup→q.1.good)∧(q.1.depth:Int)≤q.2∧1≤q.2∧q.2≤D
theorem ki{fs:ad}{w:Str}{d:Int}(hw:w = "rec" ∨ w = "pick")(nm:∀z∈ss,ES z)(nd:ss.Nodup→(fs.map (·.1)).Nodup)(mem:∀p∈fs,p.1∈ss)(l1:1≤fs.length)(l6:fs.length≤6)(hk:∀k∈fs.map (·.2),(ss.Nodup→k.good)∧(k.depth:Int)≤d)(d0:0≤d)(hd:d<D):
  ∃k:Kd,T.tup [.str w,.tup (CI fs)]=k.tr∧Mt ss D (k,d+1)∧k.wt=K8 (fs.map (·.2))+16:=by
 have dF:(B4 fs:Int)≤d:=by
  have:=km (gs:=fs) (D:=d.toNat) λp hp=>by
   have:=(hk p.2 (aaV.mpr ⟨p,hp,rfl⟩)).2;lia
  lia
 have gF:ss.Nodup→CO fs:=λh=>qN (D:=0) λp hp=>⟨nm _ (mem p hp),(hk p.2 (aaV.mpr ⟨p,hp,rfl⟩)).1 h⟩;rcases hw with rfl|rfl
 ·exact⟨.rec_ fs,by rw[Kd.tr],⟨λh=>?_,?_,?_,?_⟩,by rw[Kd.wt,TO]⟩
  ·show Kd.good (.rec_ fs)
   unfold Kd.good;exact⟨gF h,l1,l6,nd h⟩
  ·show((Kd.rec_ fs).depth:Int)≤d+1
   rw[Kd.depth];lia
  ·show 1≤d+1;lia
  ·show d+1≤D;lia
 ·exact⟨.pick fs,by rw[Kd.tr],⟨λh=>?_,?_,?_,?_⟩,by rw[Kd.wt,TO]⟩
  ·show Kd.good (.pick fs)
   unfold Kd.good;exact⟨gF h,l1,l6,nd h⟩
  ·show((Kd.pick fs).depth:Int)≤d+1
   rw[Kd.depth];lia
  ·show 1≤d+1;lia
  ·show d+1≤D;lia
theorem ub{lo c:Int}{x:T}{r:List T}(h:x::r=HF lo c n):∃m,n=m+1∧x=.int lo∧r=HF (lo+c) c m:=by
 cases n with
 |zero=>cases h
 |succ m=>cases h;exact⟨m,rfl,rfl,rfl⟩
theorem tu(l:Nat)(h:2≤l):Builtin.Range.rangeSize 0 ((l:Int)-1) 2=((l/2:Nat):Int):=by
 unfold Builtin.Range.rangeSize;rw[AM (by decide),AM (by lia)];lia
theorem acw{α:Type}{xs:List α}(h:1≤n):Ct xs (some (-(n:Int))) none=xs.drop (xs.length-n):=by
 unfold Ct;have e:HT.jQ xs.length 0 (some (-(n:Int)))=xs.length-n:=by
  show(if -(n:Int)<0 then(-(n:Int)+(xs.length:Int)).toNat else _)=_
  rw[AM (by lia)];lia
 rw[e,HT.mT,NW (by rw[CH];lia)]
theorem pQ{α:Type}{xs:List α}{x:α}(h:xs[xs.length-1]?=some x):B7 xs (-1)=some x:=by
 have hl:0<xs.length:=by
  rcases Nat.eq_zero_or_pos xs.length with e|e
  ·rw[Kj e]at h;cases h
  ·exact e
 unfold B7 Dm;rw[AE (by decide),AM (by lia)];show xs[(-1+(xs.length:Int)).toNat]?=_
 rw[show(-1+(xs.length:Int)).toNat=xs.length-1 by lia];exact h
abbrev bY:Stmt:=Bb 48
theorem cM:B6 ["row","names","deepest","made","k","word","many","deep","fields","taken"] ["row","names","deepest"] (Am bY):=⟨rfl,rfl,rfl,by decide +kernel,rfl,by decide +kernel,by decide +kernel⟩
def eo:B2:=λts Γ Z _=>∃(a b:Addr) (D:Int) (ns:List Int) (ss:List Str),ts=[.ref a,.ref b,.int D]∧Γ a=some (.lst (ns.map T.int))∧Γ b=some (.lst (ss.map T.str))∧2≤ns.length∧ns.length≤100∧ss.length=9∧(∀z∈ss,ES z)∧1≤D∧
 ∀k:Kd,(ss.Nodup→k.good)→(k.depth:Int)≤D→k.wt≤16*(ns.length/2)+16→Z k.tr Γ
theorem aa5(F:eG K "_law_kind" "_law_kind" bY f fd)(nj:Al P w K mg ap "_law_fields" 1 ["kinds","names","number"] jy)(aE:mg "len" = none)(eI:mg "range" = none)(yY:mg "min" = none)(yZ:mg "max" = none)(eW:mg "int" = none):bJ P w K mg ap BK 2 f fd ["row","names","deepest"] (B3 eo):=by
 exact Bq F cM (λts Γ Z Y h=>?_) (λcO A outer s H E ts Γ Z Y hr h=>?_)
 ·let⟨a,b,D,ns,ss,rfl,_⟩:=h
  rfl
 let⟨a,b,D,ns,ss,rfl,ga,gb,n2,Xo,s9,nm,D1,q⟩:=h;exact⟨_,(A4 (AL (i:=3) cM.nd (BN A6))
  (A4 (Hd G3 rfl (rS rfl eI (A3 A5 (A3 (AA HC (BE Co rfl aE Bl (A3 (A0 0) A6)) A5) (A3 A5 A6)))) (Cs (i:=4) cM.nd) (A4 (AL (i:=5) cM.nd (AA BU (AD (A0 0) (A0 4)) A5))
  (A4 (AL (i:=6) cM.nd (BE (jE rfl) rfl yY PyProof.Rows.boot_min (A3 (BE Co rfl aE Bl (A3 (A0 3) A6)) (A3 (AA BF A5 (AA BU (AA FC (AD (A0 0) (A0 4)) A5) A5)) A6))))
  (A4 (D9 (AZ (AY FV (A0 5) A5) (A4 (AL (i:=6) cM.nd (BE (jE rfl) rfl yY PyProof.Rows.boot_min (A3 (BE Co rfl aE Bl (A3 (A0 3) A6)) (A3 A5 A6))))
  A8) A8))
  (A4 (AL (i:=7) cM.nd (BE (iu rfl) rfl yZ PyProof.Rows.boot_max (A3 (AA Dt (BN (A3 A5 A6)) (Gs (own:=["one"]) (cap:=[]) Gg rfl (JG (C3 CY (A0 3) (BQ (AA HC (BE Co rfl aE Bl (A3 (A0 3) A6)) (A0 6))) DL)) (λ_ _ _ _=>Jm) (λ_ _ _ _=>HB) (λ_ _ _ _=>(AD (A0 0) A5)))) A6)))
  (A4 (D9 (AZ (PW.pt (BS (AY FV (A0 5) A5) (BS (AY Be (A0 6) A5) (Ck (AY hW (A0 7) (A0 2)))))) (A4 (D8 (DT El Fn Fu Fc (A0 3) (A3 (C0 (A3 (AD (BN (A3 (C0 (A3 A9 (A3 (AA BF A5 (AA BU (AA FC (AD (A0 0) (A0 4)) A5) A5)) A6))) (A3 (C0 (A3 A9 A6)) A6))) (Hb cf rfl eW Jh (A3 (Ek Be (AA BU (A0 5) A5) A5) A6))) (A3 A5 A6))) A6)))
  A8) (A4 (D9 (AZ (AY FV (A0 5) A5) (A4 (D8 (DT El Fn Fu Fc (A0 3) (A3 (C0 (A3 (C0 (A3 A9 (A3 (AD (lW El de SS oY (A0 3)) A5) A6))) (A3 (AA BF (A0 7) A5) A6))) A6)))
  A8) (A4 (AL (i:=8) cM.nd (Ak nj hr (A3 (Gs (own:=["j"]) (cap:=[(3,"made")]) (kC rfl (by decide +kernel) (by decide +kernel) rfl (⟨rfl,trivial⟩) rfl (⟨⟨rfl,rfl,rfl⟩,trivial⟩)) rfl (QG rfl eI (A3 (A0 6) A6)) (λ_ _ _ _=>(F8 (i:=0) (show List.Nodup (["j","made"]:List Str)from by decide +kernel) rfl (Or.inl rfl) (Or.inr rfl))) (λ_ _ _ _=>HB) (λ_ _ _ _=>(AD (lW El de SS oY (A0 1)) A5))) (A3 (A0 1) (A3 (AD (A0 0) (AA BF (A0 4) A5)) A6)))))
  (A4 (D8 (DT El Fn Fu Fc (A0 3) (A3 (C0 (A3 (C0 (A3 (AD (BN (A3 A9 (A3 A9 A6))) (Hb cf rfl eW Jh (A3 (Ek Hn (A0 5) A5) A6))) (A3 (A0 8) A6))) (A3 (AA BF (A0 7) A5) A6))) A6)))
  A8))))
  A8)))
  A8))))))
  (A4 (AL (i:=9) cM.nd (C3 CY (A0 3) (BQ (LR A5)) DL))
  (A4 (AZ (PW.pt (BS (AY Be (BE Co rfl aE Bl (A3 (A0 9) A6)) A5) (Ck (AY hW (BE (iu rfl) rfl yZ PyProof.Rows.boot_max (A3 (Gs (own:=["one"]) (cap:=[]) Gg rfl (JG (A0 9)) (λ_ _ _ _=>Jm) (λ_ _ _ _=>HB) (λ_ _ _ _=>(AD (A0 0) A5))) A6)) (A0 2))))) (A4 (AQ (AD (AD (A0 9) (LR A5)) A5))
  A8) A8)
  (A4 (AL (i:=8) cM.nd (Ak nj hr (A3 (Gs (own:=["one"]) (cap:=[]) Gg rfl (JG (A0 9)) (λ_ _ _ _=>Jm) (λ_ _ _ _=>HB) (λ_ _ _ _=>(AD (A0 0) A5))) (A3 (A0 1) (A3 (AD (A0 0) A5) A6)))))
  (A4 (AQ (C0 (A3 (AD (BN (A3 A9 (A3 A9 A6))) (AA BU (AA FC (AD (A0 0) A5) A5) A5)) (A3 (A0 8) A6))))
  A8)))))),?_⟩
 simp only[B5];left;intro pm RE;generalize e1:up _ pm (O.lst _)=Γ1;have gm:=AX e1;have l1:=AW e1 RE
 have Pm:a≠pm:=CF ga RE;have Rv:b≠pm:=CF gb RE;left;unfold qd;left;exact GF (l1 _ _ ga) ?_;rw[Ae];left;exact Ψ4 0 ((ns.length:Int)-1) 2 (ns.length/2) ⟨rfl,.inl rfl,by lia,by lia,by lia,by lia,tu _ n2,?_⟩;exact⟨λv4 τ Γ'=>∃(i m:Nat) (ms:List (Kd×Int)) (o4 o5 o6 o7 o8:Option T),v4=HF ((2*i:Nat):Int) 2 m∧i+m=ns.length/2∧τ=[some (.ref a),some (.ref b),some (.int D),some (.ref pm),o4,o5,o6,o7,o8,none]∧(∀x∈ms,Mt ss D x)∧(i=0∨ms≠[])∧ms.length≤i∧Et ms≤16*i∧Γ' pm=some (.lst (ms.map EM))∧Kq [pm] Γ Γ',Ψ8 0 _ [] none none none none none ⟨rfl,by lia,rfl,λ_ h=>(nomatch h),.inl rfl,Ax _,Ax _,gm,l1.kq⟩,?_,?_⟩
 ·intro τ Γ'⟨i,m,ms,o4,o5,o6,o7,o8,er,im,rfl,ok,ne,ml,mw,Qi,kq⟩
  have hm:m=0:=by
   cases m with
   |zero=>rfl
   |succ m=>cases er
  subst hm;have ne:ms≠[]:=ne.resolve_left (by lia);have ml0:0<ms.length:=acL.mpr ne;exact⟨trivial,?_⟩;left;exact Ψ2 pm _ ⟨rfl,Qi,?_⟩;intro p2 qz;generalize e2:up _ p2 (O.lst _)=Γ2;have g2:=AX e2;have l2:=AW e2 qz
  rw[CU,show(some (-6):Option Int)=some (-((6:Nat):Int))from rfl,acw (by decide)]at g2;have Vr:∀x∈ms.drop (ms.length-6),Mt ss D x:=λx hx=>ok x (L6 hx);have lT:(ms.drop (ms.length-6)).length=min 6 ms.length:=by rw[CH];lia
  have uw:Et (ms.drop (ms.length-6))≤16*i:=by
   have e:=KR (ms.take (ms.length-6)) (ms.drop (ms.length-6));rw[Kx]at e;lia
  generalize ms.drop (ms.length-6)=us at *
  have u1:1≤us.length∧us.length≤6:=by lia
  have yo:=kq.trans (l2.kq (l:=[pm]));have VE:Le Γ Γ2:=λx o h=>yo x o (by have:=CF h RE;simpa using this) h;obtain⟨y,hy⟩:∃y,us[us.length-1]?=some y:=⟨us[us.length-1],by simp⟩;have my:=Vr y (M9 hy);have JM:B7 (us.map EM) (-1)=some (EM y):=pQ (by rw[Ae,Ha,hy];rfl);have fin:∀Γ3,Le Γ2 Γ3→De Z y.1.tr Γ3:=λΓ3 l3=>AH (VE.trans l3) (q y.1 my.1 (by have:=my.2.1;have:=my.2.2.2;lia) (by have:=kV (M9 hy);lia));left;exact GF g2 ?_;rw[Ae];left;exact AR (λc=>?_) (λc=>?_)
  ·left
   exact AU g2 JM ?_;unfold EM;left;exact fin Γ2 .refl
  left;exact Ψ2 p2 _ ⟨rfl,BM g2,DE (CM (by rw[Ae];lia)),?_⟩;exact⟨λv4 τ ys Γ4=>∃(vs ws:List (Kd×Int)) (o0:Option T),v4=ws.map EM∧us=vs++ws∧τ=[o0]∧ys=(vs.map (·.2)).map T.int∧Γ4=Γ2,Ψ3 [] us none ⟨rfl,rfl,rfl,rfl,rfl⟩,?_,?_⟩;rotate_left
  ·intro x rr τ ys Γ4⟨vs,ws,o0,BI,eu,rfl,rfl,rfl⟩
   cases ws with
   |nil=>cases BI
   |cons y ws=>
    cases BI;exact⟨BM g2,?_⟩;unfold EM;left;exact Ψ3 (vs++[y]) ws _ ⟨rfl,by rw[eu];simp,rfl,by rw[B1,B1];rfl,rfl⟩
  intro τ ys Γ4⟨vs,ws,o0,BI,eu,rfl,rfl,rfl⟩;have ND:ws=[]:=by
   cases ws with
   |nil=>rfl
   |cons _ _=>cases BI
  subst ND;rw[BV]at eu;subst eu;exact⟨BM g2,?_⟩;intro p3 Bg;generalize e3:up _ p3 (O.lst _)=Γ3;have g3:=AX e3;have l3:=AW e3 Bg
  left;exact Ψ2 p3 (us.map λx:Kd×Int=>x.2) ⟨rfl,BM g3,λe=>by rw[List.map_eq_nil_iff.mp e]at u1;simp at u1,?_⟩;have dU:∀x∈us,x.2≤Ej (us.map λx:Kd×Int=>x.2):=λx hx=>Ll (aaV.mpr ⟨x,hx,rfl⟩);generalize Ej (us.map λx:Kd×Int=>x.2)=deep at *
  have d0:1≤deep:=by
   have:=dU y (M9 hy);have:=my.2.2.1;lia
  left;exact AR (λc2=>?_) (λc2=>?_)
  ·left
   exact AU (l3 _ _ g2) JM ?_;unfold EM;left;exact fin Γ3 l3
  have c2:=DO c2;left;have Ql:=l3 _ _ g2;exact Ψ2 p2 _ ⟨rfl,BM Ql,DE (CM (by rw[Ae];lia)),?_⟩;exact⟨λv4 τ ys Γ4=>∃(vs ws:List (Kd×Int)) (o0:Option T),v4=ws.map EM∧us=vs++ws∧τ=[o0]∧ys=(vs.map (·.1)).map Kd.tr∧Γ4=Γ3,Ψ3 [] us none ⟨rfl,rfl,rfl,rfl,rfl⟩,?_,?_⟩;rotate_left
  ·intro x rr τ ys Γ4⟨vs,ws,o0,BI,eu,rfl,rfl,rfl⟩
   cases ws with
   |nil=>cases BI
   |cons y ws=>
    cases BI;exact⟨BM Ql,?_⟩;unfold EM;left;exact Ψ3 (vs++[y]) ws _ ⟨rfl,by rw[eu];simp,rfl,by rw[B1,B1];rfl,rfl⟩
  intro τ ys Γ4⟨vs,ws,o0,ZU,eu,rfl,rfl,rfl⟩;have ND:ws=[]:=by
   cases ws with
   |nil=>rfl
   |cons _ _=>cases ZU
  subst ND;rw[BV]at eu;subst eu;exact⟨BM Ql,?_⟩;intro p5 vO;generalize e5:up _ p5 (O.lst _)=Γ5;have g5:=AX e5;have l5:=AW e5 vO
  have Bd:=yo.trans ((l3.trans l5).kq (l:=[pm]));let⟨r0,_,_,Hv⟩:=Dw (ns:=ns) (j:=0) (by lia);let⟨r1,_,_,Sh⟩:=Dw (ns:=ns) (j:=1) (by lia);left;exact AU (Bd _ _ (by simpa using Pm) ga) Sh ?_;left;exact Ψ5 p5 b r1 (us.map (·.1)) ss ⟨rfl,g5,Bd _ _ (by simpa using Rv) gb,by rw[Ae];lia,by lia,by lia,λfs Nb nd mem=>?_⟩;have XC:fs.length=us.length:=by
   have:=Ai List.length Nb;rw[Ae,Ae]at this;exact this
  left;intro p6 wJ;generalize e6:up _ p6 (O.lst _)=Γ6;have g6:=AX e6;have l6:=AW e6 wJ
  left;exact AU (l6 _ _ (Bd _ _ (by simpa using Pm) ga)) Hv ?_;left;obtain⟨wz,TH,TF⟩:∃wz:Str,(wz = "rec" ∨ wz = "pick")∧B7 [T.str "rec",T.str "pick"] (r0/96%2)=some (.str wz):=by
   have:r0/96%2=0∨r0/96%2=1:=by lia
   rcases this with e|e<;>rw[e]
   ·exact⟨_,.inl rfl,rfl⟩
   ·exact⟨_,.inr rfl,rfl⟩
  exact AU g6 TF ?_;left;let⟨k,ek,Me,kw⟩:=ki (D:=D) (d:=deep) TH nm nd mem (by lia) (by lia) (λk hk=>by
   rw[Nb]at hk;let⟨x,hx,rfl⟩:=aaV.mp hk;have ox:=Vr x hx;have dx:=dU x hx;exact⟨ox.1,by have:=ox.2.1;lia⟩) (by lia) (by lia)
  rw[ek];exact AH (VE.trans (l3.trans (l5.trans l6))) (q k Me.1 (by have h1:=Me.2.1;have h2:deep+1≤D:=Me.2.2.2;have h1:(k.depth:Int)≤deep+1:=h1;lia) (by rw[kw,Nb];have:K8 (us.map (·.1))=Et us:=rfl;lia))
 ·intro x rr τ Γ'⟨i,m,ms,o4,o5,o6,o7,o8,er,im,rfl,ok,ne,ml,mw,Qi,kq⟩
  let⟨m',rfl,rfl,rfl⟩:=ub er;have Bm:=kq _ _ (by simpa using Pm) ga;have Qj:=kq _ _ (by simpa using Rv) gb;let⟨r,_,_,xr⟩:=Dw (ns:=ns) (j:=2*i) (by lia);let⟨r1,_,_,Sh⟩:=Dw (ns:=ns) (j:=2*i+1) (by lia);left;exact AU Bm xr ?_;left;have bw:0≤r%16∧r%16<16:=⟨CK _ (by decide),Cc _ (by decide)⟩;generalize r%16=word at *
  exact GF Qi ?_;rw[Ae];left;exact AU Bm xr ?_;left;have b6:0≤r/16%6∧r/16%6<6:=⟨CK _ (by decide),Cc _ (by decide)⟩;exact⟨λτ Γ2=>∃mn:Nat,τ=[some (.ref a),some (.ref b),some (.int D),some (.ref pm),some (.int ((2*i:Nat):Int)),some (.int word),some (.int mn),o7,o8,none]∧mn≤ms.length∧mn≤6∧(word<10→mn≤1)∧Γ2=Γ',?_,?_⟩
  ·left
   exact AR (λc=>?_) (λc=>?_)
   ·have c:=C5 c
    left;exact GF Qi ?_;rw[Ae];left;obtain⟨mn,MI⟩:∃mn:Nat,(if(1:Int)<(ms.length:Int)then(1:Int)else(ms.length:Int))=mn:=by
     split
     ·exact⟨1,rfl⟩
     ·exact⟨ms.length,rfl⟩
    rw[MI];have:mn≤ms.length∧mn≤1:=by
     split at MI<;>lia
    exact⟨mn,rfl,this.1,by lia,λ_=>this.2,rfl⟩
   ·have c:=DO c
    left;obtain⟨mn,MI⟩:∃mn:Nat,(if 1+r/16%6<(ms.length:Int)then 1+r/16%6 else(ms.length:Int))=mn:=by
     split
     ·exact⟨(1+r/16%6).toNat,by lia⟩
     ·exact⟨ms.length,rfl⟩
    rw[MI];have:mn≤ms.length∧mn≤6:=by
     split at MI<;>lia
    exact⟨mn,rfl,this.1,this.2,λh=>absurd h c,rfl⟩
  intro τ Γ2⟨mn,rfl,mn1,mn6,Tb,rfl⟩;left;intro p2 qz;generalize e2:up _ p2 (O.lst _)=Γ2;have g2:=AX e2;have l2:=AW e2 qz
  have Qh:=l2 _ _ Qi;left;exact GF Qh ?_;rw[Ae];left;exact Ψ2 pm _ ⟨rfl,Qh,?_⟩;intro p3 Bg;generalize e3:up _ p3 (O.lst _)=Γ3;have g3:=AX e3;have l3:=AW e3 Bg
  rw[CU,Hq (by lia),show((ms.length:Int)-(mn:Int)).toNat=ms.length-mn by lia]at g3;left;have T8:(ms.drop (ms.length-mn)).length=mn:=by rw[CH];lia
  obtain⟨us,Wb⟩:∃us,ms.drop (ms.length-mn)=us:=⟨_,rfl⟩;obtain⟨ps,NG⟩:∃ps,ms.take (ms.length-mn)=ps:=⟨_,rfl⟩;have Fl:ms=ps++us:=by rw[←NG,←Wb,Kx]
  rw[Wb]at g3 T8;have Vq:∀x∈us,Mt ss D x:=λx hx=>ok x (by rw[Fl];exact EH _ hx);exact Ψ2 p3 _ ⟨rfl,BM g3,DE (CM (by rw[Ae];lia)),?_⟩;exact⟨λv4 τ ys Γ4=>∃(vs ws:List (Kd×Int)) (o0:Option T),v4=ws.map EM∧us=vs++ws∧τ=[o0]∧ys=(vs.map (·.2)).map T.int∧Γ4=Γ3,Ψ3 [] us none ⟨rfl,rfl,rfl,rfl,rfl⟩,?_,?_⟩;rotate_left
  ·intro x rr τ ys Γ4⟨vs,ws,o0,BI,eu,rfl,rfl,rfl⟩
   cases ws with
   |nil=>cases BI
   |cons y ws=>
    cases BI;exact⟨BM g3,?_⟩;unfold EM;left;exact Ψ3 (vs++[y]) ws _ ⟨rfl,by rw[eu];simp,rfl,by rw[B1,B1];rfl,rfl⟩
  intro τ ys Γ4⟨vs,ws,o0,BI,eu,rfl,rfl,rfl⟩;have ND:ws=[]:=by
   cases ws with
   |nil=>rfl
   |cons _ _=>cases BI
  subst ND;rw[BV]at eu;subst eu;exact⟨BM g3,?_⟩;intro p5 vO;generalize e5:up _ p5 (O.lst _)=Γ5;have g5:=AX e5;have l5:=AW e5 vO
  exact Ψ4 p2 p5 [T.int 0] _ ⟨rfl,rfl,l5 _ _ (l3 _ _ g2),g5,DE (CM (by rw[Ae,Ae];show 1+us.length≤1000;lia)),?_⟩;intro p6 wJ;generalize e6:up _ p6 (O.lst _)=Γ6;have g6:=AX e6;have l6:=AW e6 wJ
  left;exact Ψ2 p6 (0::us.map λx:Kd×Int=>x.2) ⟨rfl,BM g6,by simp,?_⟩;have d0:0≤Ej (0::us.map λx:Kd×Int=>x.2):=Ll (by simp);have dU:∀x∈us,x.2≤Ej (0::us.map λx:Kd×Int=>x.2):=λx hx=>Ll (GO _ (aaV.mpr ⟨x,hx,rfl⟩));generalize Ej (0::us.map λx:Kd×Int=>x.2)=deep at *
  have VG:Le Γ2 Γ6:=l3.trans (l5.trans l6);have PB:Kq [pm] Γ Γ6:=kq.trans ((l2.trans VG).kq);have JT:=VG _ _ Qh;have YH:=PB _ _ (by simpa using Pm) ga;have gb6:=PB _ _ (by simpa using Rv) gb;clear e2 e3 e5 e6;left;exact⟨λτ Γ7=>∃(Mj:List (Kd×Int)) (o8:Option T),τ=[some (.ref a),some (.ref b),some (.int D),some (.ref pm),some (.int ((2*i:Nat):Int)),some (.int word),some (.int mn),some (.int deep),o8,none]∧(∀x∈Mj,Mt ss D x)∧Mj≠[]∧Mj.length≤i+1∧Et Mj≤16*(i+1)∧Γ7 pm=some (.lst (Mj.map EM))∧Kq [pm] Γ Γ7,?_,?_⟩;rotate_left
  ·intro τ Γ7⟨Mj,o82,rfl,Me,ne2,XA,Xs,YA,XG⟩
   left;exact Ψ8 (i+1) m' Mj _ _ _ _ _ ⟨by rw[show((2*i:Nat):Int)+2=((2*(i+1):Nat):Int)by lia],by lia,rfl,Me,.inr ne2,XA,Xs,YA,XG⟩
  left;exact AR (λc1=>?_) (λc1=>?_);rotate_left;left;exact AR (λc2=>?_) (λc2=>?_);rotate_left;left;exact AR (λc3=>?_) (λc3=>?_);rotate_left
  ·have c3:=DO c3
   have c2:mn≠0:=λe=>by rw[e]at c2;revert c2;decide
   have c1:=DO c1;left;exact Gj ?_;left;exact AR (λc4=>?_) (λc4=>?_)
   ·have c4:=C5 c4
    have m1:=Tb c4;obtain⟨x,rfl⟩:∃x,us=[x]:=by
     match us,T8 with
     |[x],_=>exact⟨x,rfl⟩
     |[],h=>exact absurd h (by simp;lia)
     |_::_::_,h=>exact absurd h (by simp;lia)
    have ox:=Vq x (by simp);have dx:=dU x (by simp);left;exact EP JT ?_;left;exact EP JT ?_;exact Ψ3 pm (ms.map EM) (EM x) ⟨rfl,rfl,JT,?_,?_⟩
    ·rw[Fl];simp
    unfold EM;left;exact Ψ3 pm _ _ ⟨rfl,rfl,AP,CM (by rw[List.length_dropLast,Ae];lia),?_⟩;left;exact Ψ2 (ps++[(.row x.1,deep+1)]) _ ⟨rfl,λy hy=>?_,by simp,?_,by rw[Fl,KR,show Et [x]=x.1.wt from O4 x.1 x.2]at mw;rw[KR,O4,Kd.wt];lia,?_,(PB.trans (.set (by simp) _)).trans (.set (by simp) _)⟩
    ·rcases aaH.mp hy with hy|hy
     ·exact ok y (by rw[Fl];exact Iz _ hy)
     ·rw[aau.mp hy]
      exact⟨λnd=>?_,?_,?_,?_⟩
      ·show Kd.good (.row x.1)
       unfold Kd.good;exact ox.1 nd
      ·show((Kd.row x.1).depth:Int)≤deep+1
       rw[Kd.depth];have:=ox.2.1;lia
      ·show 1≤deep+1;lia
      ·show deep+1≤D;lia
    ·rw[Fl,AG]at ml
     rw[AG];simp only[fo]at ml ⊢;lia
    ·rw[AP,Fl,B1,B1]
     simp only[CV,Im,Oe];rw[Kd.tr]
   ·have c4:=DO c4
    left;exact⟨mn,rfl,by lia,by lia,?_⟩;exact⟨DE (CM (by rw[My];lia)),λv4 τ ys Γ8=>∃(j m:Nat) (rem dn:List (Kd×Int)) (o0:Option T),v4=FD j m∧j+m=mn∧ms=rem++dn.reverse∧dn.length=j∧τ=[o0,some (.ref pm)]∧ys=(dn.map (·.1)).map Kd.tr∧Γ8 pm=some (.lst (rem.map EM))∧Kq [pm] Γ Γ8,Ψ5 0 mn ms [] none ⟨rfl,by lia,by simp,rfl,rfl,rfl,JT,PB⟩,?_,?_⟩;rotate_left
    ·intro x rr τ ys Γ8⟨j,m,rem,dn,o0,UE,jm,RW,dj,rfl,rfl,Qg,Tj⟩
     let⟨m2,rfl,rfl,rfl⟩:=Qx UE;have VV:rem.length+dn.length=ms.length:=by rw[RW,AG,UP]
     rcases SO rem with e|⟨OG,y,e⟩
     ·rw[e]at VV;simp at VV;lia
     subst e;left;exact EP Qg ?_;exact Ψ3 pm ((OG.concat y).map EM) (EM y) ⟨rfl,rfl,Qg,by simp,?_⟩;have ey:EM y=.tup [y.1.tr,.int y.2]:=rfl;rw[ey];left;exact Ψ5 (j+1) m2 OG (dn++[y]) _ ⟨rfl,by lia,by rw[RW];simp,by rw[AG,dj];rfl,rfl,by rw[B1,B1];rfl,?_,Tj.trans (.set (by simp) _)⟩;rw[AP];simp
    intro τ ys Γ8⟨j,m,rem,dn,o0,UE,jm,RW,dj,rfl,rfl,Qg,Tj⟩;have hm:=Tw UE;subst hm;have Yo:dn.reverse.length=us.length:=by rw[UP,T8];lia
    let⟨UD,Wg⟩:=gK (RW.symm.trans Fl) Yo;subst UD;exact⟨trivial,?_⟩;intro p9 TV;generalize e9:up _ p9 (O.lst _)=Γ9;have g9:=AX e9;have l9:=AW e9 TV
    have Ti:=Tj.trans (l9.kq (l:=[pm]));left;exact AU (i:=((2*i:Nat):Int)+1) (Ti _ _ (by simpa using Pm) ga) (by rw[show((2*i:Nat):Int)+1=((2*i+1:Nat):Int)by lia];exact Sh) ?_;left;exact Ψ5 p9 b r1 (dn.map (·.1)) ss ⟨rfl,g9,Ti _ _ (by simpa using Rv) gb,by rw[Ae];lia,by lia,by lia,λfs Nb nd mem=>?_⟩;have XC:fs.length=mn:=by
     have:=Ai List.length Nb;rw[Ae,Ae]at this;lia
    left;exact EP (l9 _ _ Qg) ?_;left;intro oR HN;generalize NJ:up _ oR (O.lst _)=Γ10;have zX:=AX NJ;have uU:=AW NJ HN
    left;exact⟨_,rfl,?_⟩;obtain⟨wz,TH,TF⟩:∃wz:Str,(wz = "rec" ∨ wz = "pick")∧B7 [T.str "rec",T.str "pick"] (if decide (12<word)=true then 1 else 0)=some (.str wz):=by
     by_cases c:decide (12<word)=true
     ·rw[AM c];exact⟨_,.inr rfl,rfl⟩
     ·rw[AE c];exact⟨_,.inl rfl,rfl⟩
    exact AU zX TF ?_;left;let⟨k,ek,Me,kw⟩:=ki (D:=D) (d:=deep) TH nm nd mem (by lia) (by lia) (λk hk=>by
     rw[Nb]at hk;let⟨x,hx,rfl⟩:=aaV.mp hk;have hx:x∈us:=by rw[←Wg];simpa using hx
     have ox:=Vq x hx;have dx:=dU x hx;exact⟨ox.1,by have:=ox.2.1;lia⟩) d0 (by lia)
    rw[ek];exact Ψ3 pm _ _ ⟨rfl,rfl,uU _ _ (l9 _ _ Qg),CM (by rw[Ae];rw[Fl,AG]at ml;lia),?_⟩;left;exact Ψ2 (rem++[(k,deep+1)]) _ ⟨rfl,λy hy=>?_,by simp,?_,by rw[Fl,KR,←Wg,ux]at mw;rw[KR,O4,kw,Nb];have:K8 (dn.map (·.1))=Et dn:=rfl;lia,?_,(Ti.trans uU.kq).trans (.set (by simp) _)⟩
    ·rcases aaH.mp hy with hy|hy
     ·exact ok y (by rw[Fl];exact Iz _ hy)
     ·rw[aau.mp hy];exact Me
    ·rw[Fl,AG]at ml
     rw[AG];simp only[fo]at ml ⊢;lia
    ·rw[AP,B1];rfl
  all_goals
   left;exact EP JT ?_;left;exact AU YH xr ?_;left;intro p7 TX;generalize e7:up _ p7 (O.lst _)=Γ7;have g7:=AX e7;have l7:=AW e7 TX
   left;exact⟨_,rfl,?_⟩;have b4:0≤r/16%4∧r/16%4<4:=⟨CK _ (by decide),Cc _ (by decide)⟩;obtain⟨k0,Yg,YG,dk0,WT⟩:∃k0:Kd,B7 [T.tup [.str "num",.int (1+r/16%4)],.tup [.str "text"]] (if decide (V.int (word%3)=V.int 1)=true then 1 else 0)=some k0.tr∧k0.good∧k0.depth=1∧k0.wt=16:=by
    by_cases c:decide (V.int (word%3)=V.int 1)=true
    ·rw[AM c];exact⟨.text,by rw[Kd.tr];rfl,by unfold Kd.good;trivial,by rw[Kd.depth],by rw[Kd.wt]⟩
    ·rw[AE c];exact⟨.num (1+r/16%4),by rw[Kd.tr];rfl,by unfold Kd.good;lia,by rw[Kd.depth],by rw[Kd.wt]⟩
   exact AU g7 Yg ?_;left;exact Ψ3 pm _ _ ⟨rfl,rfl,l7 _ _ JT,CM (by rw[Ae];lia),?_⟩;left;exact Ψ2 (ms++[(k0,1)]) _ ⟨rfl,λy hy=>?_,by simp,by rw[AG];show ms.length+1≤i+1;lia,by rw[KR,O4,WT];lia,?_,(PB.trans l7.kq).trans (.set (by simp) _)⟩
   ·rcases aaH.mp hy with hy|hy
    ·exact ok y hy
    ·rw[aau.mp hy]
     exact⟨λ_=>YG,by show(k0.depth:Int)≤1;lia,Int.le_refl 1,D1⟩
   ·rw[AP,B1];rfl
end
abbrev Pu:List Int:=[0,1,2,3,4,6,9,1]
def JE(r:Int):Nat:=([0,1,2,3,4,6,9,1]:List Nat).getD (r%8).toNat 0
theorem aab(r:Int):B7 (Pu.map T.int) (r%8)=some (.int (JE r:Nat))∧JE r≤9:=by
 have h0:=CK r (by decide:(8:Int)≠0);have h1:=Cc r (by decide:(0:Int)<8);unfold JE;have:r%8=0∨r%8=1∨r%8=2∨r%8=3∨r%8=4∨r%8=5∨r%8=6∨r%8=7:=by lia
 rcases this with e|e|e|e|e|e|e|e<;>rw[e]<;>exact⟨rfl,by decide⟩
structure dX(ss:List Str)(D:Int)(q:Str×Str×Kd):Prop where
 wy:q.2.1∈gY
 kg:ss.Nodup→q.2.2.good
 kd:(q.2.2.depth:Int)≤D
 kw:q.2.2.wt≤112
structure UU(ss:List Str)(D:Int)(p:Pa):Prop where
 nm:p.nm∈ss
 sd:p.sd=0∨p.sd=1
 pn:∀q∈p.ps,q.1∈ss
 ps:∀q∈p.ps,dX ss D q
 nd:ss.Nodup→(p.ps.map (·.1)).Nodup
 re:∀k,p.re=some k→(ss.Nodup→k.good)∧(k.depth:Int)≤D∧k.wt≤112
theorem nJ{ss:List Str}{D:Int}:∀{ps:List (Str×Str×Kd)},ss.Nodup→(∀z∈ss,ES z)→(∀q∈ps,q.1∈ss)→(∀q∈ps,dX ss D q)→((ps.map BO).map λl=>l.length+2).sum≤118*ps.length
 |[],_,_,_,_=>by simp
 |q::r,nd,nm,hn,h=>by
  have o:=h q (by simp);have h1:=Lz (o.kg nd);have h2:=nJ (ps:=r) nd nm (λz hz=>hn z (by simp[hz])) λz hz=>h z (by simp[hz]);have h3:=(nm _ (hn q (by simp))).2.1;have h4:=(O0 o.wy).1;have h5:=o.kw;have e:(BO q).length=q.1.length+1+q.2.1.length+1+q.2.2.sh.length:=by unfold BO;simp only[AG,Aw,Cu,Br]
  rw[CV,CV,Hl,Aw,e];lia
theorem UU.ok{p:Pa}(g:UU ss 5 p)(nd:ss.Nodup)(nm:∀z∈ss,ES z)(l:p.ps.length≤9):p.Ok∧p.sh.length≤1200:=by
 have hw:=nJ (ps:=p.ps) nd nm g.pn g.ps;have hj:=HI [44,32] (p.ps.map BO);have hj:(B9 [44,32] (p.ps.map BO)).length≤((p.ps.map BO).map λl=>l.length+2).sum:=hj;have hn:=(nm _ g.nm).2.1;have hr:(En p.re).length≤101:=by
  cases e:p.re with
  |none=>decide
  |some k=>have h1:=g.re k e;have h2:=Lz (h1.1 nd);show k.sh.length≤101;lia
 exact⟨⟨nm _ g.nm,g.sd,λq hq=>⟨nm _ (g.pn q hq),(g.ps q hq).wy,(g.ps q hq).kg nd,by have:=(g.ps q hq).kd;lia⟩,g.nd nd,by lia,λk e=>⟨(g.re k e).1 nd,by have:=(g.re k e).2.1;lia⟩⟩,?_⟩;unfold Pa.sh;simp only[AG,Aw,Cu,Br];lia
section
abbrev U2:Stmt:=Bb 49
theorem bR:B6 ["row","names","deepest","many","ordered","places","far","k","some","way","steps","result"] ["row","names","deepest"] (Am U2):=⟨rfl,rfl,rfl,by decide +kernel,rfl,by decide +kernel,by decide +kernel⟩
def nO:B2:=λts Γ Z _=>∃(a b:Addr) (D:Int) (ns:List Int) (ss:List Str) (r0:Int),ts=[.ref a,.ref b,.int D]∧Γ a=some (.lst (ns.map T.int))∧Γ b=some (.lst (ss.map T.str))∧ns[0]?=some r0∧ns.length=28+6*JE r0∧ss.length=9∧(∀z∈ss,ES z)∧1≤D∧
 ∀pa:Pa,UU ss D pa→pa.ps.length=JE r0→Z pa.tr Γ
theorem abd(F:eG K "_law_paper" "_law_paper" U2 f fd)(jH:Al P w K mg ap "_law_kind" 2 ["row","names","deepest"] eo)(eI:mg "range" = none)(aB:mg "tuple" = none):bJ P w K mg ap BK 3 f fd ["row","names","deepest"] (B3 nO):=by
 exact Bq F bR (λts Γ Z Y h=>?_) (λcO A outer s H E ts Γ Z Y hr h=>?_)
 ·let⟨a,b,D,ns,ss,r0,rfl,_⟩:=h
  rfl
 let⟨a,b,D,ns,ss,r0,rfl,ga,gb,e0,nl,s9,nm,D1,q⟩:=h;exact⟨_,(A4 (AL (i:=3) bR.nd (AD (BN (A3 A5 (A3 A5 (A3 A5 (A3 A5 (A3 A5 (A3 A5 (A3 A5 (A3 A5 A6))))))))) (AA BU (AD (A0 0) A5) A5)))
  (A4 (AL (i:=4) bR.nd (AA Dt (C3 CY (A0 1) (BQ (AA BU (AD (A0 0) A5) A5)) DL) (C3 CY (A0 1) DL (BQ (AA BU (AD (A0 0) A5) A5)))))
  (A4 (D9 (AZ (AY Be (AA BU (AA FC (AD (A0 0) A5) A5) A5) A5) (A4 (AL (i:=4) bR.nd (aa3 (A0 4) (LR A5)))
  A8) A8))
  (A4 (AL (i:=5) bR.nd (BN A6))
  (A4 (AL (i:=6) bR.nd (C3 CY (A0 0) (BQ (AA BF A5 (AA Ht A5 (A0 3)))) DL))
  (A4 (Hd G3 rfl (QG rfl eI (A3 (A0 3) A6)) (Cs (i:=7) bR.nd) (A4 (AL (i:=8) bR.nd (C3 CY (A0 0) (BQ (AA BF A5 (AA Ht A5 (A0 7)))) (BQ (AA BF A5 (AA Ht A5 (A0 7))))))
  (A4 (AL (i:=9) bR.nd (AD (BN (A3 A9 (A3 A9 (A3 A9 (A3 A9 A6))))) (AA BU (AD (A0 8) A5) A5)))
  (A4 (AL (i:=10) bR.nd (C3 CY (A0 8) DL (BQ (AA BF A5 (AA Ht A5 (AA BU (AD (A0 8) A5) A5))))))
  (A4 (D9 (AZ (AY Be (A0 7) (AA BU (AA FC (AD (A0 0) A5) A5) (A0 3))) (A4 (AL (i:=10) bR.nd (C3 CY (A0 6) (BQ A5) (BQ (AA BF A5 (AD (BN (A3 A5 (A3 A5 (A3 A5 A6)))) (AA BU (AA FC (AD (A0 0) A5) A5) A5))))))
  A8) A8))
  (A4 (D8 (DT El Fn Fu Fc (A0 5) (A3 (C0 (A3 (AD (A0 4) (A0 7)) (A3 (A0 9) (A3 (Ak jH hr (A3 (A0 10) (A3 (A0 1) (A3 (A0 2) A6)))) A6)))) A6)))
  A8))))))
  (A4 (AL (i:=11) bR.nd E6)
  (A4 (D9 (AZ (AY Hn (AA BU (AD (A0 0) A5) A5) A5) (A4 (AL (i:=11) bR.nd (Ak jH hr (A3 (C3 CY (A0 6) DL (BQ (AD (BN (A3 A5 (A3 A5 (A3 A5 A6)))) (AA BU (AA FC (AD (A0 0) A5) A5) A5)))) (A3 (A0 1) (A3 (A0 2) A6)))))
  A8) A8))
  (A4 (AQ (C0 (A3 (AD (A0 1) (AA BU (AA FC (AD (A0 0) A5) A5) A5)) (A3 (AA BU (AD (A0 0) A5) A5) (A3 (Hb KN rfl aB EJ (A3 (A0 5) A6)) (A3 (A0 11) A6))))))
  A8))))))))),?_⟩
 simp only[B5];have x0:B7 (ns.map T.int) 0=some (.int r0):=Ey (j:=0) (by rw[Ha,e0];rfl);let⟨r1,_,_,x1⟩:=Dw (ns:=ns) (j:=1) (by lia);let⟨r2,_,_,x2⟩:=Dw (ns:=ns) (j:=2) (by lia);let⟨r3,_,_,x3⟩:=Dw (ns:=ns) (j:=3) (by lia);let⟨MI,m9⟩:=aab r0;generalize JE r0=mn at *
 left;intro p1 jr;generalize e1:up _ p1 (O.lst _)=Γ1;have g1:=AX e1;have l1:=AW e1 jr
 left;exact AU (l1 _ _ ga) x0 ?_;left;exact AU g1 MI ?_;left;exact AU (l1 _ _ ga) x1 ?_;left;have b9:0≤r1%9∧r1%9<9:=⟨CK _ (by decide),Cc _ (by decide)⟩;exact Ψ2 b _ ⟨rfl,l1 _ _ gb,?_⟩;intro p2 qz;generalize e2:up _ p2 (O.lst _)=Γ2;have g2:=AX e2;have l2:=AW e2 qz
 rw[CU,Hq b9.1]at g2;have Tf:=l1.trans l2;left;exact AU (Tf _ _ ga) x1 ?_;left;exact Ψ2 b _ ⟨rfl,Tf _ _ gb,?_⟩;intro p3 Bg;generalize e3:up _ p3 (O.lst _)=Γ3;have g3:=AX e3;have l3:=AW e3 Bg
 rw[CU,Ig b9.1]at g3;exact Ψ4 p2 p3 _ _ ⟨rfl,rfl,l3 _ _ g2,g3,DE (CM (by rw[Ae,Ae,CH,Bi];lia)),?_⟩;intro p4 ME;generalize e4:up _ p4 (O.lst _)=Γ4;have g4:=AX e4;have l4:=AW e4 ME
 rw[←B1]at g4;have Vn:(ss.drop (r1%9).toNat++ss.take (r1%9).toNat).Perm ss:=by
  have:=(List.perm_append_comm (l₁:=ss.drop (r1%9).toNat) (l₂:=ss.take (r1%9).toNat));rw[Kx]at this;exact this
 generalize ss.drop (r1%9).toNat++ss.take (r1%9).toNat=Vo at *
 have BH:=Tf.trans (l3.trans l4);clear e1 e2 e3 e4;left;exact⟨λτ Γ'=>∃(po:Addr) (os:List Str),τ=[some (.ref a),some (.ref b),some (.int D),some (.int (mn:Nat)),some (.ref po),none,none,none,none,none,none,none]∧os.Perm ss∧Γ' po=some (.lst (os.map T.str))∧Le Γ Γ',?_,?_⟩
 ·left
  exact AU (BH _ _ ga) x1 ?_;left;exact AR (λc=>?_) (λc=>?_)
  ·left
   exact⟨rfl,p4,_,rfl,BM g4,?_⟩;intro p5 vO;generalize e5:up _ p5 (O.lst _)=Γ5;have g5:=AX e5;have l5:=AW e5 vO
   left;exact Ψ2 p5 Vo.reverse ⟨rfl,(List.reverse_perm _).trans Vn,by rw[cA];exact g5,BH.trans l5⟩
  ·left
   exact Ψ2 p4 Vo ⟨rfl,Vn,g4,BH⟩
 intro τ Γ5⟨po,os,rfl,pm,go,VI⟩;left;intro pp TU;generalize e6:up _ pp (O.lst _)=Γ6;have gp:=AX e6;have l6:=AW e6 TU
 have VH:=VI.trans l6;left;exact Ψ2 a _ ⟨rfl,VH _ _ ga,?_⟩;intro pf oW;generalize e7:up _ pf (O.lst _)=Γ7;have gf:=AX e7;have l7:=AW e7 oW
 rw[CU,Hq (by lia)]at gf;have Pz:(ns.drop (4+6*(mn:Int)).toNat).length=24:=by rw[CH];lia
 generalize ns.drop (4+6*(mn:Int)).toNat=fr at *
 have bp:Γ pp=none:=le_none VI TU;have VC:a≠pp:=CF ga bp;have VB:b≠pp:=CF gb bp;have Xk:po≠pp:=CF go TU;have Xm:pf≠pp:=(CF gp oW).symm;have ol:os.length=9:=by rw[pm.length_eq,s9]
 left;exact⟨mn,rfl,by lia,by lia,?_⟩;exact⟨λv4 τ Γ'=>∃(i m:Nat) (qs:List (Str×Str×Kd)) (o7 o8 o9 Ro:Option T),v4=FD i m∧i+m=mn∧τ=[some (.ref a),some (.ref b),some (.int D),some (.int (mn:Nat)),some (.ref po),some (.ref pp),some (.ref pf),o7,o8,o9,Ro,none]∧qs.length=i∧qs.map (·.1)=os.take i∧(∀x∈qs,dX ss D x)∧Γ' pp=some (.lst (qs.map DK))∧Γ' po=some (.lst (os.map T.str))∧Γ' pf=some (.lst (fr.map T.int))∧Kq [pp] Γ Γ',Ψ7 0 mn [] none none none none ⟨rfl,by lia,rfl,rfl,rfl,λ_ h=>(nomatch h),l7 _ _ gp,l7 _ _ (l6 _ _ go),gf,(VH.trans l7).kq⟩,?_,?_⟩;rotate_left
 ·intro x rr τ Γ'⟨i,m,qs,o7,o8,o9,Ro,er,im,rfl,ql,qn,SV,RP,go',sP,kq⟩
  let⟨m',rfl,rfl,rfl⟩:=Qx er;have Bm:=kq _ _ (by simpa using VC) ga;have Qj:=kq _ _ (by simpa using VB) gb;left;exact Ψ2 a _ ⟨rfl,Bm,?_⟩;intro q1 X6;generalize e1:up _ q1 (O.lst _)=Δ1;have h1:=AX e1;have k1:=AW e1 X6
  rw[CU,Gk (by lia) (by lia)]at h1;have l6s:((ns.drop (4+6*(i:Int)).toNat).take ((10+6*(i:Int)).toNat-(4+6*(i:Int)).toNat)).length=6:=by rw[Bi,CH];lia
  generalize (ns.drop (4+6*(i:Int)).toNat).take ((10+6*(i:Int)).toNat-(4+6*(i:Int)).toNat)=sm at *
  let⟨s5,_,_,y5⟩:=Dw (ns:=sm) (j:=5) (by lia);let⟨s4,_,_,y4⟩:=Dw (ns:=sm) (j:=4) (by lia);left;intro q2 MD;generalize e2:up _ q2 (O.lst _)=Δ2;have h2:=AX e2;have k2:=AW e2 MD
  left;exact AU (k2 _ _ h1) y5 ?_;left;let⟨wt,XO,Xr⟩:=J2 (xs:=gY.map T.str) (r:=s5%4) (CK _ (by decide)) (Cc _ (by decide));let⟨wy,Xq,rfl⟩:=aaV.mp Xr;exact AU h2 XO ?_;left;exact AU (k2 _ _ h1) y4 ?_;left;have b2:0≤s4%2∧s4%2<2:=⟨CK _ (by decide),Cc _ (by decide)⟩;exact Ψ2 q1 _ ⟨rfl,k2 _ _ h1,?_⟩;intro q3 X5;generalize e3:up _ q3 (O.lst _)=Δ3;have h3:=AX e3;have k3:=AW e3 X5
  rw[CU,Ig (by lia)]at h3;have PF:=(k1.trans k2).trans k3;clear e1 e2 e3;left;exact⟨λτ Δ=>∃(ps:Addr) (st:List Int),τ=[some (.ref a),some (.ref b),some (.int D),some (.int (mn:Nat)),some (.ref po),some (.ref pp),some (.ref pf),some (.int (i:Nat)),some (.ref q1),some (.str wy),some (.ref ps),none]∧2≤st.length∧st.length≤12∧Δ ps=some (.lst (st.map T.int))∧Le Γ' Δ,?_,?_⟩
  ·left
   exact AU (PF _ _ Bm) x2 ?_;left;exact G0 (by show(0:Int)<_;lia) ?_;left;exact AR (λc=>?_) (λc=>?_)
   ·left
    intro q4 HL;generalize e4:up _ q4 (O.lst _)=Δ4;have h4:=AX e4;have k4:=AW e4 HL
    left;exact AU (k4 _ _ (PF _ _ Bm)) x1 ?_;left;let⟨d,hd,xd⟩:=menu (ns:=[4,8,12]) (r:=r1/18%3) (CK _ (by decide)) (Cc _ (by decide));have hd:d=4∨d=8∨d=12:=by simpa using hd
    exact AU h4 xd ?_;left;exact Ψ2 pf _ ⟨rfl,k4 _ _ (PF _ _ sP),?_⟩;intro q5 TR;generalize e5:up _ q5 (O.lst _)=Δ5;have h5:=AX e5;have k5:=AW e5 TR
    rw[CU,Gk (by decide) (by lia)]at h5;left;exact Ψ2 q5 _ ⟨rfl,?_,?_,h5,(PF.trans k4).trans k5⟩
    ·rw[Bi,CH,Pz];show 2≤min ((12+d).toNat-12) (24-12);lia
    ·rw[Bi,CH,Pz];show min ((12+d).toNat-12) (24-12)≤12;lia
   ·left
    exact Ψ2 q3 _ ⟨rfl,by rw[Bi];lia,by rw[Bi];lia,h3,PF⟩
  intro τ Δ⟨ps,st,rfl,uR,Vf,hs,kΔ⟩;left;exact EP (kΔ _ _ RP) ?_;left;have hi:i<os.length:=by lia
  exact AU (kΔ _ _ go') (Ey (v:=T.str os[i]) (by simp[hi])) ?_;left;exact Ψ5 ps b D st ss ⟨rfl,hs,kΔ _ _ Qj,uR,by lia,s9,nm,D1,λk kg kd kw=>?_⟩;left;exact Ψ3 pp _ _ ⟨rfl,rfl,kΔ _ _ RP,CM (by rw[Ae];lia),?_⟩;left;exact Ψ7 (i+1) m' (qs++[(os[i],wy,k)]) _ _ _ _ ⟨rfl,by lia,rfl,by rw[AG,ql];rfl,?_,λy hy=>?_,?_,by rw[CB Xk];exact kΔ _ _ go',by rw[CB Xm];exact kΔ _ _ sP,(kq.trans kΔ.kq).trans (.set (by simp) _)⟩
  ·rw[B1,qn,List.take_add_one];simp[hi]
  ·rcases aaH.mp hy with hy|hy
   ·exact SV y hy
   ·rw[aau.mp hy];exact⟨Xq,kg,kd,by show k.wt≤112;lia⟩
  ·rw[AP,B1];rfl
 intro τ Γ'⟨i,m,qs,o7,o8,o9,Ro,er,im,rfl,ql,qn,SV,RP,go',sP,kq⟩;have hm:=Tw er;subst hm;have ei:i=mn:=im;subst ei;exact⟨trivial,?_⟩;have Bm:=kq _ _ (by simpa using VC) ga;have Qj:=kq _ _ (by simpa using VB) gb;have lΓ:Le Γ Γ':=λx o h=>kq x o (by have:=CF h bp;simpa using this) h;left;exact⟨λτ Δ=>∃re:Option Kd,τ=[some (.ref a),some (.ref b),some (.int D),some (.int (i:Nat)),some (.ref po),some (.ref pp),some (.ref pf),o7,o8,o9,Ro,some (Gz re)]∧(∀k,re=some k→(ss.Nodup→k.good)∧(k.depth:Int)≤D∧k.wt≤112)∧Le Γ' Δ,?_,?_⟩
 ·left
  exact AU Bm x3 ?_;left;exact AR (λc=>?_) (λc=>?_)
  ·left
   intro q4 HL;generalize e4:up _ q4 (O.lst _)=Δ4;have h4:=AX e4;have k4:=AW e4 HL
   left;exact AU (k4 _ _ Bm) x3 ?_;left;let⟨d,hd,xd⟩:=menu (ns:=[2,6,12]) (r:=r3/4%3) (CK _ (by decide)) (Cc _ (by decide));have hd:d=2∨d=6∨d=12:=by simpa using hd
   exact AU h4 xd ?_;left;exact Ψ2 pf _ ⟨rfl,k4 _ _ sP,?_⟩;intro q5 TR;generalize e5:up _ q5 (O.lst _)=Δ5;have h5:=AX e5;have k5:=AW e5 TR
   rw[CU,Ig (by lia)]at h5;left;exact Ψ5 q5 b D _ ss ⟨rfl,h5,k5 _ _ (k4 _ _ Qj),by rw[Bi,Pz];lia,by rw[Bi,Pz];lia,s9,nm,D1,λk kg kd kw=>?_⟩;left;exact⟨some k,rfl,(λk2 e=>by cases e;exact⟨kg,kd,by rw[Bi,Pz]at kw;lia⟩),k4.trans k5⟩
  ·left
   exact⟨none,rfl,(λk2 e=>nomatch e),.refl⟩
 intro τ Δ⟨re,rfl,rA,kΔ⟩;left;exact AU (kΔ _ _ Bm) x2 ?_;left;let⟨t2,XX,Ta⟩:=J2 (xs:=ss.map T.str) (r:=r2/2%9) (CK _ (by decide)) (by rw[Ae,s9];exact Cc _ (by decide));let⟨z2,S9,rfl⟩:=aaV.mp Ta;exact AU (kΔ _ _ Qj) XX ?_;left;exact AU (kΔ _ _ Bm) x2 ?_;left;exact Ψ2 (.ref pp) _ ⟨rfl,BM (kΔ _ _ RP),?_⟩;left;exact AH (lΓ.trans kΔ) (q ⟨z2,r2%2,qs,re⟩ ⟨S9,by show r2%2=0∨r2%2=1;lia,λx hx=>?_,SV,λnd=>?_,rA⟩ ql)
 ·have:x.1∈qs.map (·.1):=aaV.mpr ⟨x,hx,rfl⟩
  rw[qn]at this;exact pm.mem_iff.mp (LU this)
 ·show(qs.map (·.1)).Nodup
  rw[qn];exact(pm.nodup_iff.mpr nd).sublist (List.take_sublist _ _)
end
def Fb(l:List Nat)(n:Nat):Prop:=(∀c∈l,c<128)∧l.length≤n
def Po(n:Nat)(z:Str):Bool:=z.cps.toList.all (λc=>decide (c<128))&&decide (z.length≤n)
def OO(n:Nat):T→Bool
 |.str z=>Po n z
 |_=>false
theorem kD(h:Po n z=true):Fb z.cps.toList n:=by
 unfold Po at h;rw[DN,aaS]at h;exact⟨λc hc=>C5 (h.1 c hc),by rw[Br];exact C5 h.2⟩
theorem Gv{a:Nat}{pa:Addr}{us:List T}(ga:Γ pa=some (.lst ts))(h:ts.all (OO n)=true)(l:ts.length=a)(hu:us.all (OO n)=true)(lu:a+us.length≤1000)(q:∀p Γ' ws,Le Γ Γ'→Γ' p=some (.lst ws)→ws.all (OO n)=true→ws.length=a+us.length→Z (.ref p) Γ'):∀p,Γ p=none→bM (.ref pa) (.ref p) (up Γ p (.lst us)) Z:=λp hp=>by
 exact Ψ4 pa p ts us ⟨rfl,rfl,Le.new hp _ _ ga,AP,DE (CM (by lia)),λp2 qz=>?_⟩;exact q p2 _ (ts++us) ((Le.new hp).trans (.new qz)) AP (by rw[NY,h,hu];rfl) (by rw[AG,l])
theorem lM{r:Int}(h:ts.all (OO n)=true)(h0:0≤r)(h1:r<ts.length):∃l:List Nat,B7 ts r=some (.str (S l))∧Fb l n:=by
 let⟨x,hx,mx⟩:=J2 h0 h1;have:=aaS.mp h x mx;cases x with
 |str z=>exact⟨z.cps.toList,by rw[Ep];exact hx,kD this⟩
 |_=>cases this
def ff(z:Str)(n:Nat):Prop:=Fb z.cps.toList n
theorem ff.len(h:ff z n):z.length≤n:=by have:=h.2;rwa[Br]at this
theorem Rf{l:List Nat}(h:Fb l n):ff (S l) n:=by unfold ff;rw[GS];exact h
theorem GN(h:Po n z=true):ff z n:=kD h
theorem ff.app{a b:Str}(h:ff a n)(h':ff b m):ff (a++b) (n+m):=by
 unfold ff;rw[RZ,R6];exact⟨λc hc=>?_,by rw[AG];have:=h.2;have:=h'.2;lia⟩;rcases aaH.mp hc with hc|hc
 ·exact h.1 c hc
 ·exact h'.1 c hc
theorem ff.le(h:ff z n)(e:n≤m):ff z m:=⟨h.1,Ce h.2 e⟩
theorem ff.cut{y:Str}(h:ff z n)(e:y.cps.toList=Ct z.cps.toList lo hi):ff y n:=by
 unfold ff;rw[e];exact⟨λc hc=>h.1 c (aY hc),Ce ?_ h.2⟩;unfold Ct;rw[Bi,CH];lia
def CW(ls:List (List Nat)):Nat:=(ls.map λx=>x.length+1).sum
def Ac(ls:List (List Nat)):Prop:=∀x∈ls,∀c∈x,c<128
theorem IW(a b:List (List Nat)):CW (a++b)=CW a+CW b:=by unfold CW;rw[B1,List.sum_append]
theorem ID(ls:List (List Nat))(j:Nat):CW ls=CW (ls.take j)+CW (ls.drop j):=by rw[←IW,Kx]
theorem oq:∀ls:List (List Nat),ls.length≤CW ls
 |[]=>Fe _
 |x::r=>by
  have:=oq r;show r.length+1≤x.length+1+CW r
  lia
theorem j8:∀{ls:List (List Nat)} {x:List Nat},x∈ls→x.length+1≤CW ls
 |y::r,x,h=>by
  have e:CW (y::r)=y.length+1+CW r:=rfl;rcases aam.mp h with rfl|h
  ·lia
  ·have:=j8 h;lia
theorem U0:∀{ls:List (List Nat)} {j:Nat} {x y:List Nat},ls[j]?=some x→CW (ls.set j y)+x.length=CW ls+y.length
 |z::r,0,x,y,h=>by
  have e1:CW (z::r)=z.length+1+CW r:=rfl;have e2:CW ((z::r).set 0 y)=y.length+1+CW r:=rfl;have e3:z=x:=by simpa using h
  subst e3;lia
 |z::r,j+1,x,y,h=>by
  have e1:CW (z::r)=z.length+1+CW r:=rfl;have e2:CW ((z::r).set (j+1) y)=z.length+1+CW (r.set j y):=rfl;have:=U0 (ls:=r) (j:=j) (x:=x) (y:=y) (by simpa using h);lia
theorem Ac.app{b:List (List Nat)}(h:Ac a)(h':Ac b):Ac (a++b):=λx hx=>by
 rcases aaH.mp hx with hx|hx
 ·exact h x hx
 ·exact h' x hx
theorem Ac.take(h:Ac a)(n:Nat):Ac (a.take n):=λx hx=>h x (LU hx)
theorem Ac.drop(h:Ac a)(n:Nat):Ac (a.drop n):=λx hx=>h x (L6 hx)
theorem ij:∀ls:List (List Nat),(ls.map λl:List Nat=>l.length+([]:List Nat).length).sum≤CW ls
 |[]=>Ax _
 |x::r=>by
  have:=ij r;have e:CW (x::r)=x.length+1+CW r:=rfl;rw[CV,Hl,e];show x.length+0+_≤_
  lia
theorem kO(sep x:List Nat)(r:List (List Nat)):B9 sep (x::r)=x++(r.map λy=>sep++y).flatten:=rfl
theorem Ml{sep:List Nat}(h:Ac ls)(hs:∀c∈sep,c<128):∀c∈B9 sep ls,c<128:=λc hc=>by
 cases ls with
 |nil=>cases hc
 |cons x r=>
  rw[kO]at hc;rcases aaH.mp hc with hc|hc
  ·exact h x (by simp) c hc
  ·let⟨y,hy,hc⟩:=aco.mp hc
   let⟨z,hz,rfl⟩:=aaV.mp hy;rcases aaH.mp hc with hc|hc
   ·exact hs c hc
   ·exact h z (by simp[hz]) c hc
theorem aaj{l:List Nat}(ne:ls≠[])(e:B9 [32] ls=l)(h:Fb l n):Ac ls∧CW ls=l.length+1:=by
 cases ls with
 |nil=>exact absurd rfl ne
 |cons x r=>
  rw[kO]at e;subst e;exact⟨λy hy c hc=>h.1 c ?_,?_⟩
  ·rcases aam.mp hy with rfl|hy
   ·exact Iz _ hc
   ·exact EH _ (aco.mpr ⟨[32]++y,aaV.mpr ⟨y,hy,rfl⟩,EH _ hc⟩)
  ·have e:(r.map (List.length ∘ λy=>[32]++y))=r.map λx=>x.length+1:=Q8 λy _=>rfl
   rw[AG,UQ,Fo,e];have e2:CW (x::r)=x.length+1+(r.map λx=>x.length+1).sum:=rfl;rw[e2];lia
abbrev Ld(x:List Nat):T:=.str (S x)
theorem JD{a b:Addr}{xs ys:List (List Nat)}(ga:Γ a=some (.lst (xs.map Ld)))(gb:Γ b=some (.lst (ys.map Ld)))(l:xs.length+ys.length≤100000)(q:∀p' Γ',Γ p'=none→Le Γ Γ'→Γ' p'=some (.lst ((xs++ys).map Ld))→Z (.ref p') Γ'):bM (.ref a) (.ref b) Γ Z:=
 ⟨a,b,_,_,rfl,rfl,ga,gb,by rw[Ae,Ae,E3];lia,λp' hp=>q p' _ hp (.new hp) (by rw[AP,B1])⟩
theorem Ac.set(h:Ac a){y:List Nat}(hy:∀c∈y,c<128):Ac (a.set j y):=λx hx=>by
 rcases List.mem_or_eq_of_mem_set hx with hx|rfl
 ·exact h x hx
 ·exact hy
theorem gA(h:Γ p=none)(l:Le Γ Γ'):Le Γ (up Γ' p o):=λx u e=>by
 rw[CB (CF e h)];exact l x u e
theorem br{α:Type}{ms:List α}(h:j<ms.length):Dm ms.length (j:Int)=some j:=by
 unfold Dm;rw[AM (by lia),AM (by lia),Ju]
def LD(l:List Nat)(a:Addr)(Γ:AS)(way at_ j:Int)(so He:Str)(ls:List (List Nat))(k:Int)(τ:Bh)(Γ':AS):Prop:=∃(p6:Addr) (ms:List (List Nat)) (o8:Option T),τ=[some (.str (S l)),some (.ref a),some (.int way),some (.int at_),some (.str so),some (.str He),some (.ref p6),some (.int j),o8]∧Γ' p6=some (.lst (ms.map Ld))∧Γ p6=none∧Le Γ Γ'∧Ac ms∧CW ms≤2*l.length+100∧(k<way→ms=ls)
section
abbrev SN:Stmt:=Bb 62
theorem cT:B6 ["number","some"] ["number"] (Am SN):=⟨rfl,rfl,rfl,by decide +kernel,rfl,by decide +kernel,by decide +kernel⟩
def Of(b:Nat):B2:=λts Γ Z _=>∃n:Int,ts=[.int n]∧∀l,Fb l b→Z (.str (S l)) Γ
theorem aby(F:eG K "_law_odd" "_law_odd" SN f fd)(aE:mg "len" = none):bJ P w K mg ap BK 1 f fd ["number"] (B3 (Of 70)):=by
 exact Bq F cT (λts Γ Z Y h=>?_) (λcO A outer s H E ts Γ Z Y hr h=>?_)
 ·let⟨n,rfl,_⟩:=h
  rfl
 let⟨n,rfl,q⟩:=h;exact⟨_,(A4 (AL (i:=1) cT.nd (BN (A3 A9 (A3 A9 (A3 A9 (A3 A9 (A3 A9 (A3 A9 (A3 A9 (A3 A9 (A3 A9 (A3 A9 A6))))))))))))
  (A4 (AL (i:=1) cT.nd (AA Dt (A0 1) (BN (A3 A9 (A3 A9 (A3 A9 (A3 A9 (A3 A9 (A3 A9 (A3 A9 (A3 A9 (A3 A9 A6))))))))))))
  (A4 (AL (i:=1) cT.nd (AA Dt (A0 1) (BN (A3 A9 (A3 A9 (A3 A9 (A3 A9 (A3 A9 (A3 A9 A6)))))))))
  (A4 (AL (i:=1) cT.nd (AA Dt (A0 1) (BN (A3 A9 (A3 A9 (A3 A9 (A3 A9 (A3 A9 (A3 A9 A6)))))))))
  (A4 (AL (i:=1) cT.nd (AA Dt (A0 1) (BN (A3 A9 (A3 A9 (A3 A9 A6))))))
  (A4 (AL (i:=1) cT.nd (AA Dt (A0 1) (BN (A3 A9 (A3 A9 (A3 A9 (A3 A9 (A3 A9 A6))))))))
  (A4 (AL (i:=1) cT.nd (AA Dt (A0 1) (BN (A3 A9 (A3 A9 (A3 A9 (A3 A9 (A3 A9 A6))))))))
  (A4 (AL (i:=1) cT.nd (AA Dt (A0 1) (BN (A3 A9 (A3 A9 (A3 A9 A6))))))
  (A4 (AL (i:=1) cT.nd (AA Dt (A0 1) (BN (A3 A9 (A3 A9 (A3 A9 A6))))))
  (A4 (AL (i:=1) cT.nd (AA Dt (A0 1) (BN (A3 A9 (A3 A9 A6)))))
  (A4 (AQ (AD (A0 1) (AA BU (A0 0) (BE Co rfl aE Bl (A3 (A0 1) A6)))))
  A8))))))))))),?_⟩
 simp only[B5];left;intro p0 P2;generalize e0:up _ p0 (O.lst _)=Γ0;have g0:=AX e0;have l0:=AW e0 P2
 clear e0;left;exact Gv g0 (n:=70) (by decide +kernel) rfl (by decide +kernel) (by decide) λp1 Γ1 w1 l1 g1 h1 c1=>?_;left;exact Gv g1 h1 c1 (by decide +kernel) (by decide) λp2 Γ2 w2 l2 g2 h2 c2=>?_;left;exact Gv g2 h2 c2 (by decide +kernel) (by decide) λp3 Γ3 w3 l3 g3 h3 c3=>?_;left;exact Gv g3 h3 c3 (by decide +kernel) (by decide) λp4 Γ4 w4 l4 g4 h4 c4=>?_;left;exact Gv g4 h4 c4 (by decide +kernel) (by decide) λp5 Γ5 w5 l5 g5 h5 c5=>?_;left;exact Gv g5 h5 c5 (by decide +kernel) (by decide) λp6 Γ6 w6 l6 g6 h6 c6=>?_;left;exact Gv g6 h6 c6 (by decide +kernel) (by decide) λp7 Γ7 w7 l7 g7 h7 c7=>?_;left;exact Gv g7 h7 c7 (by decide +kernel) (by decide) λp8 Γ8 w8 l8 g8 h8 c8=>?_;left;exact Gv g8 h8 c8 (by decide +kernel) (by decide) λp9 Γ9 w9 l9 g9 h9 c9=>?_;left;exact GF g9 ?_;rw[c9];exact G0 (by show(0:Int)<_;decide) ?_;let⟨l,hx,hl⟩:=lM (r:=n%52) h9 (CK _ (by decide)) (by rw[c9];exact Cc _ (by decide));exact AU g9 hx ?_;left;exact AH (l0.trans (l1.trans (l2.trans (l3.trans (l4.trans (l5.trans (l6.trans (l7.trans (l8.trans l9))))))))) (q l hl)
abbrev cD:Stmt:=Bb 63
theorem fE:B6 ["number","some"] ["number"] (Am cD):=⟨rfl,rfl,rfl,by decide +kernel,rfl,by decide +kernel,by decide +kernel⟩
theorem wa(F:eG K "_law_other_word" "_law_other_word" cD f fd)(aE:mg "len" = none):bJ P w K mg ap BK 1 f fd ["number"] (B3 (Of 9)):=by
 exact Bq F fE (λts Γ Z Y h=>?_) (λcO A outer s H E ts Γ Z Y hr h=>?_)
 ·let⟨n,rfl,_⟩:=h
  rfl
 let⟨n,rfl,q⟩:=h;exact⟨_,(A4 (AL (i:=1) fE.nd (BN (A3 A9 (A3 A9 (A3 A9 (A3 A9 (A3 A9 (A3 A9 (A3 A9 (A3 A9 (A3 A9 (A3 A9 (A3 A9 (A3 A9 (A3 A9 (A3 A9 A6))))))))))))))))
  (A4 (AL (i:=1) fE.nd (AA Dt (A0 1) (BN (A3 A9 (A3 A9 (A3 A9 (A3 A9 (A3 A9 (A3 A9 (A3 A9 (A3 A9 (A3 A9 (A3 A9 (A3 A9 (A3 A9 (A3 A9 (A3 A9 (A3 A9 (A3 A9 A6)))))))))))))))))))
  (A4 (AQ (AD (A0 1) (AA BU (A0 0) (BE Co rfl aE Bl (A3 (A0 1) A6)))))
  A8))),?_⟩
 simp only[B5];left;intro p0 P2;generalize e0:up _ p0 (O.lst _)=Γ0;have g0:=AX e0;have l0:=AW e0 P2
 clear e0;left;exact Gv g0 (n:=9) (by decide +kernel) rfl (by decide +kernel) (by decide) λp1 Γ1 w1 l1 g1 h1 c1=>?_;left;exact GF g1 ?_;rw[c1];exact G0 (by show(0:Int)<_;decide) ?_;let⟨l,hx,hl⟩:=lM (r:=n%30) h1 (CK _ (by decide)) (by rw[c1];exact Cc _ (by decide));exact AU g1 hx ?_;left;exact AH (l0.trans l1) (q l hl)
abbrev fT:Stmt:=Bb 64
theorem bC:B6 ["signs","s","way","at","some","sign","parts","j","second"] ["signs","s"] (Am fT):=⟨rfl,rfl,rfl,by decide +kernel,rfl,by decide +kernel,by decide +kernel⟩
def qC:B2:=λts Γ Z _=>∃(l:List Nat) (a:Addr) (ns:List Int),ts=[.str (S l),.ref a]∧Γ a=some (.lst (ns.map T.int))∧ns.length=5∧Fb l 3000∧∀l',Fb l' (2*l.length+200)→Z (.str (S l')) Γ
theorem wQ(F:eG K "_law_changed" "_law_changed" fT f fd)(BC:Al P w K mg ap "_law_odd" 1 ["number"] (Of 70))(oi:Al P w K mg ap "_law_other_word" 1 ["number"] (Of 9))(aE:mg "len" = none)(eW:mg "int" = none):bJ P w K mg ap BK 2 f fd ["signs","s"] (B3 qC):=by
 exact Bq F bC (λts Γ Z Y h=>?_) (λcO A outer s H E ts Γ Z Y hr h=>?_)
 ·let⟨l,a,ns,rfl,_⟩:=h
  rfl
 let⟨l,a,ns,rfl,ga,n5,al,q⟩:=h;exact⟨_,(A4 (AL (i:=2) bC.nd (AA BU (AD (A0 1) A5) A5))
  (A4 (AL (i:=3) bC.nd (AA BU (AD (A0 1) A5) (AA BF (BE Iq rfl aE Bl (A3 (A0 0) A6)) A5)))
  (A4 (AL (i:=4) bC.nd A9)
  (A4 (AL (i:=5) bC.nd (KC (A0 4) (AA BU (AD (A0 1) A5) A5)))
  (A4 (AZ (AY FV (A0 2) A5) (A4 (AQ (AA CA (AA CA (C3 L8 (A0 0) DL (BQ (A0 3))) (AD (BN (A3 (A0 5) (A3 (A0 5) (A3 A9 A6)))) (A0 2))) (C3 L8 (A0 0) (BQ (AA BF (A0 3) (Hb cf rfl eW Jh (A3 (Ek DS (A0 2) A5) A6)))) DL)))
  A8) A8)
  (A4 (AZ (AY Be (A0 2) A5) (A4 (AQ (AD (BN (A3 (AA CA A9 (A0 0)) (A3 (AA CA (A0 0) A9) (A3 (AA CA (A0 0) A9) (A3 (AA CA (A0 0) A9) (A3 (AA CA (AA CA A9 (A0 0)) A9) (A3 (AA CA (A0 0) A9) A6))))))) (AA BU (AD (A0 1) A5) A5)))
  A8) A8)
  (A4 (AZ (AY Be (A0 2) A5) (A4 (AQ (Ak BC hr (A3 (AD (A0 1) A5) A6)))
  A8) A8)
  (A4 (AZ (AY Be (A0 2) A5) (A4 (AQ (AA CA (AA aag A9 (AA BU (AD (A0 1) A5) A5)) A9))
  A8) A8)
  (A4 (AL (i:=6) bC.nd (DT IJ PySem.F.slot_str_split PySem.F.type_str_split rW (A0 0) (A3 A9 A6)))
  (A4 (AL (i:=7) bC.nd (AA BU (AD (A0 1) A5) (BE Co rfl aE Bl (A3 (A0 6) A6))))
  (A4 (D9 (AZ (AY Be (A0 2) A5) (A4 (AL (i:=6) bC.nd (AA Dt (C3 CY (A0 6) DL (BQ (A0 7))) (C3 CY (A0 6) (BQ (AA BF (A0 7) A5)) DL)))
  A8) A8))
  (A4 (D9 (AZ (AY Be (A0 2) A5) (A4 (AL (i:=6) bC.nd (AA Dt (AA Dt (C3 CY (A0 6) DL (BQ (A0 7))) (C3 CY (A0 6) (BQ (A0 7)) (BQ (AA BF (A0 7) A5)))) (C3 CY (A0 6) (BQ (A0 7)) DL)))
  A8) A8))
  (A4 (D9 (AZ (AY Be (A0 2) A5) (A4 (AL (i:=8) bC.nd (C3 CY (A0 6) (BQ (AA BF (A0 7) A5)) (BQ (AA BF (A0 7) A5))))
  (A4 (AL (i:=6) bC.nd (AA Dt (AA Dt (AA Dt (C3 CY (A0 6) DL (BQ (A0 7))) (A0 8)) (C3 CY (A0 6) (BQ (A0 7)) (BQ (AA BF (A0 7) A5)))) (C3 CY (A0 6) (BQ (AA BF (A0 7) A5)) DL)))
  A8)) A8))
  (A4 (D9 (AZ (AY Be (A0 2) A5) (A4 (GZ (Ak oi hr (A3 (AD (A0 1) A5) A6)) (Ny (A0 6) (A0 7)))
  A8) A8))
  (A4 (D9 (AZ (AY Be (A0 2) A5) (A4 (GZ (AA CA (AD (A0 6) (A0 7)) A9) (Ny (A0 6) (A0 7)))
  A8) A8))
  (A4 (D9 (AZ (AY Be (A0 2) A5) (A4 (AL (i:=6) bC.nd (AA Dt (AA Dt (C3 CY (A0 6) DL (BQ (A0 7))) (BN (A3 (DT IJ MB Lp Pe A9 (A3 (C3 CY (A0 6) (BQ (A0 7)) (BQ (AA BF (A0 7) A5))) A6)) A6))) (C3 CY (A0 6) (BQ (AA BF (A0 7) A5)) DL)))
  A8) A8))
  (A4 (AQ (DT IJ MB Lp Pe A9 (A3 (A0 6) A6)))
  A8))))))))))))))))),?_⟩
 simp only[B5];let⟨r0,_,_,x0⟩:=Dw (ns:=ns) (j:=0) (by lia);let⟨r1,_,_,x1⟩:=Dw (ns:=ns) (j:=1) (by lia);let⟨r2,_,_,x2⟩:=Dw (ns:=ns) (j:=2) (by lia);let⟨r3,_,_,x3⟩:=Dw (ns:=ns) (j:=3) (by lia);let⟨r4,_,_,x4⟩:=Dw (ns:=ns) (j:=4) (by lia);left;exact AU ga x0 ?_;left;have bw:0≤r0%12∧r0%12<12:=⟨CK _ (by decide),Cc _ (by decide)⟩;generalize r0%12=way at *
 exact AU ga x1 ?_;left;have ll:=al.2;have sl:=E3;have IH:ff (S l) l.length:=Rf ⟨al.1,Ax _⟩;have fin:∀(y:Str) (Γ':AS),ff y (2*l.length+200)→Le Γ Γ'→De Z (.str y) Γ':=λy Γ' h le=>by
  have:=q y.cps.toList h;rw[Ep]at this;exact AH le this
 exact⟨_,rfl,by rw[Ad];lia,?_⟩;left;rw[Ad];exact G0 (by show(0:Int)<_;lia) ?_;have bat:0≤r1%((l.length:Int)+1):=CK _ (by lia);generalize r1%((l.length:Int)+1)=at_ at *
 left;exact AU ga x2 ?_;left;have bz:ff "\x20!\"#$&'()*+,-./0123456789:;<=>?@ABCDEFGHIJKLMNOPQRSTUVWXYZ[\\]^_`abcdefghijklmnopqrstuvwxyz{|}~\n\t" 96:=GN (by decide +kernel);have bl:(Str.ofString "\x20!\"#$&'()*+,-./0123456789:;<=>?@ABCDEFGHIJKLMNOPQRSTUVWXYZ[\\]^_`abcdefghijklmnopqrstuvwxyz{|}~\n\t").length=96:=by decide +kernel
 generalize Str.ofString "\x20!\"#$&'()*+,-./0123456789:;<=>?@ABCDEFGHIJKLMNOPQRSTUVWXYZ[\\]^_`abcdefghijklmnopqrstuvwxyz{|}~\n\t" = so at *
 let⟨c,hc,mc⟩:=J2 (xs:=so.cps.toList) (r:=r2%96) (CK _ (by decide)) (by rw[Br,bl];exact Cc _ (by decide));exact Ψ3 so _ c ⟨rfl,rfl,by lia,hc,?_⟩;have bc:ff ⟨#[c]⟩ 1:=⟨λd hd=>by rw[aau.mp hd];exact bz.1 c mc,Ax 1⟩;generalize (⟨#[c]⟩:Str)=He at *
 left;exact AR (λc1=>?_) (λc1=>?_)
 ·have c1:=C5 c1
  left;exact⟨by rw[Ad];lia,λy1 PY=>?_⟩;have a1:=IH.cut PY;left;intro p1 jr;generalize e1:up _ p1 (O.lst _)=Γ1;have g1:=AX e1;have l1:=AW e1 jr
  left;obtain⟨u,hu,au⟩:∃u:Str,B7 [T.str He,T.str He,T.str ""] way=some (.str u)∧ff u 1:=by
   have:way=0∨way=1∨way=2:=by lia
   rcases this with e|e|e<;>rw[e]
   ·exact⟨_,rfl,bc⟩
   ·exact⟨_,rfl,bc⟩
   ·exact⟨_,rfl,GN (by decide +kernel)⟩
  exact AU g1 hu ?_;exact Ψ2 y1 u ⟨rfl,rfl,by have:=a1.len;have:=au.len;lia,?_⟩;left;exact⟨_,rfl,?_⟩;left;exact⟨by rw[Ad];lia,λy2 JM=>?_⟩;have a2:=IH.cut JM;have a3:=a1.app au;exact Ψ2 _ y2 ⟨rfl,rfl,by have:=a3.len;have:=a2.len;lia,?_⟩;left;exact fin _ _ ((a3.app a2).le (by lia)) l1
 left;exact AR (λc2=>?_) (λc2=>?_)
 ·left
  exact Ψ2 _ _ ⟨rfl,rfl,by rw[Ad,show("\x20" : Str).length=1 by decide +kernel];lia,?_⟩;left;exact Ψ2 _ _ ⟨rfl,rfl,by rw[Ad,show("\x20" : Str).length=1 by decide +kernel];lia,?_⟩;left;exact Ψ2 _ _ ⟨rfl,rfl,by rw[Ad,show("\n" : Str).length=1 by decide +kernel];lia,?_⟩;left;exact Ψ2 _ _ ⟨rfl,rfl,by rw[Ad,show(")" : Str).length=1 by decide +kernel];lia,?_⟩;left;have b1:ff "(" 1:=GN (by decide +kernel);have b2:ff ")" 1:=GN (by decide +kernel);have b3:ff "\x20" 1:=GN (by decide +kernel);have b4:ff "\n" 1:=GN (by decide +kernel);have b5:ff "," 1:=GN (by decide +kernel);exact Ψ2 _ _ ⟨rfl,rfl,by rw[Ad,show("(" : Str).length=1 by decide +kernel];lia,?_⟩;exact Ψ2 _ _ ⟨rfl,rfl,by have:=(b1.app IH).len;rw[show(")" : Str).length=1 by decide +kernel];lia,?_⟩;left;exact Ψ2 _ _ ⟨rfl,rfl,by rw[Ad,show("," : Str).length=1 by decide +kernel];lia,?_⟩;left;intro p1 jr;generalize e1:up _ p1 (O.lst _)=Γ1;have g1:=AX e1;have l1:=AW e1 jr
  left;exact AU (l1 _ _ ga) x4 ?_;left;let⟨u,hu,mu⟩:=J2 (xs:=[T.str ("\x20" ++ S l),.str (S l ++ "\x20"),.str (S l ++ "\n"),.str (S l ++ ")"),.str ("(" ++ S l ++ ")"),.str (S l ++ ",")]) (r:=r4%6) (CK _ (by decide)) (Cc _ (by decide));exact AU g1 hu ?_;left;have:∃y:Str,u=.str y∧ff y (l.length+2):=by
   simp only[aam,Bx,D7]at mu;rcases mu with e|e|e|e|e|e
   ·exact⟨_,e,(b3.app IH).le (by lia)⟩
   ·exact⟨_,e,(IH.app b3).le (by lia)⟩
   ·exact⟨_,e,(IH.app b4).le (by lia)⟩
   ·exact⟨_,e,(IH.app b2).le (by lia)⟩
   ·exact⟨_,e,((b1.app IH).app b2).le (by lia)⟩
   ·exact⟨_,e,(IH.app b5).le (by lia)⟩
  let⟨y,rfl,ay⟩:=this;exact fin _ _ (ay.le (by lia)) l1
 left;exact AR (λc3=>?_) (λc3=>?_)
 ·left
  exact AU ga x4 ?_;left;exact⟨r4,rfl,λl' h=>?_⟩;left;exact fin _ _ ((Rf h).le (by lia)) .refl
 left;exact AR (λc4=>?_) (λc4=>?_)
 ·left
  exact AU ga x4 ?_;left;have b40:0≤r4%40∧r4%40<40:=⟨CK _ (by decide),Cc _ (by decide)⟩;have rl:=Lb "row\x20" (r4%40).toNat;rw[show("row\x20" : Str).length=4 by decide +kernel]at rl;exact Ψ2 _ _ ⟨rfl,rfl,by lia,by lia,by decide +kernel,?_⟩;left;exact Ψ2 _ _ ⟨rfl,rfl,by rw[rl,show("text" : Str).length=4 by decide +kernel];lia,?_⟩;left;have ar:ff (ED "row\x20" (r4%40).toNat) 160:=by
   exact⟨λc hc=>?_,by rw[Br,rl];lia⟩;rw[RY]at hc;let⟨y,hy,hc⟩:=aco.mp hc;rw[(List.mem_replicate.mp hy).2]at hc;exact(GN (z := "row\x20") (n:=4) (by decide +kernel)).1 c hc
  exact fin _ _ ((ar.app (GN (z := "text") (n:=4) (by decide +kernel))).le (by lia)) .refl
 left;exact Ψ2 l [32] ⟨rfl,by rw[show("\x20" : Str)=S [32]by decide +kernel],by decide,by lia,λls ne ej p6 wJ=>?_⟩;generalize e6:up _ p6 (O.lst _)=Γ6;have g6:=AX e6;have l6:=AW e6 wJ
 clear e6;let⟨wL,wls⟩:=aaj ne ej al;have ll0:0<ls.length:=acL.mpr ne;have lls:=oq ls;left;exact AU (l6 _ _ ga) x3 ?_;left;exact GF g6 ?_;rw[Ae];exact G0 (by show(0:Int)<_;lia) ?_;obtain⟨j,hj,jl⟩:∃j:Nat,r3%(ls.length:Int)=j∧j<ls.length:=by
  have h0:=CK r3 (show(ls.length:Int)≠0 by lia);have h1:=Cc r3 (show(0:Int)<ls.length by lia);exact⟨(r3%(ls.length:Int)).toNat,by lia,by lia⟩
 rw[hj];clear hj;left;exact⟨LD l a Γ way at_ j so He ls 3,?_,?_⟩
 ·left
  exact AR (λd3=>?_) (λd3=>?_)
  ·left
   exact Ψ2 p6 _ ⟨rfl,g6,?_⟩;intro p7 h7;generalize e7:up _ p7 (O.lst _)=Γ7;have g7:=AX e7;have l7:=AW e7 h7;clear e7;rw[CU]at g7
   left;exact Ψ2 p6 _ ⟨rfl,(l7 _ _ g6),?_⟩;intro p8 h8;generalize e8:up _ p8 (O.lst _)=Γ8;have g8:=AX e8;have l8:=AW e8 h8;clear e8;rw[CU]at g8
   rw[Ig (by lia)]at g7;rw[Hq (by lia)]at g8;have e1:=ID ls (j:Int).toNat;have e2:=ID ls ((j:Int)+1).toNat;exact JD (l8 _ _ g7) g8 (by rw[Bi,CH];lia) λp9 Γ9 h9 l9 g9=>?_;left;exact Ψ3 p9 _ none ⟨rfl,g9,le_none l6 (le_none l7 (le_none l8 h9)),l6.trans (l7.trans (l8.trans l9)),(wL.take _).app (wL.drop _),by rw[IW];lia,λh=>by have:=V.int.inj (C5 d3);lia⟩
  ·left
   exact Ψ3 p6 ls none ⟨rfl,g6,wJ,l6,wL,by lia,λ_=>rfl⟩
 intro τ Γ7⟨p7,ms,o8,rfl,g7,h7,l7,wK,wR,mG⟩;left;exact⟨LD l a Γ way at_ j so He ls 4,?_,?_⟩
 ·left
  exact AR (λd=>?_) (λd=>?_)
  ·have d:=V.int.inj (C5 d)
   have mG:=mG (by lia);subst mG;left;exact Ψ2 p7 _ ⟨rfl,g7,?_⟩;intro p8 h8;generalize e8:up _ p8 (O.lst _)=Γ8;have g8:=AX e8;have l8:=AW e8 h8;clear e8;rw[CU]at g8
   left;exact Ψ2 p7 _ ⟨rfl,(l8 _ _ g7),?_⟩;intro p9 h9;generalize e9:up _ p9 (O.lst _)=Γ9;have g9:=AX e9;have l9:=AW e9 h9;clear e9;rw[CU]at g9
   rw[Ig (by lia)]at g8;rw[Gk (by lia) (by lia)]at g9;exact JD (l9 _ _ g8) g9 (by rw[Bi,Bi,CH];lia) λoR Γ10 Up uU zX=>?_;left;exact Ψ2 p7 _ ⟨rfl,(uU _ _ (l9 _ _ (l8 _ _ g7))),?_⟩;intro L0 RO;generalize F5:up _ L0 (O.lst _)=Γ11;have Bo:=AX F5;have yn:=AW F5 RO;clear F5;rw[CU]at Bo
   rw[Hq (by lia)]at Bo;exact JD (yn _ _ zX) Bo (by rw[AG,Bi,Bi,CH];lia) λRm Γ12 RN HE HW=>?_;left;have e1:=ID ms (j:Int).toNat;have e2:=ID (ms.drop (j:Int).toNat) (((j:Int)+1).toNat-(j:Int).toNat);exact Ψ3 Rm _ _ ⟨rfl,HW,le_none l7 (le_none l8 (le_none l9 (le_none uU (le_none yn RN)))),l7.trans (l8.trans (l9.trans (uU.trans (yn.trans HE)))),((wL.take _).app ((wL.drop _).take _)).app (wL.drop _),by rw[IW,IW];lia,λh=>by lia⟩
  ·have d:=λe=>DO d (Ai V.int e)
   left;exact Ψ3 p7 ms o8 ⟨rfl,g7,h7,l7,wK,wR,λh=>mG (by lia)⟩
 clear mG wR wK l7 h7 g7;intro τ Γ7⟨p7,ms,o8,rfl,g7,h7,l7,wK,wR,mG⟩;left;exact⟨LD l a Γ way at_ j so He ls 5,?_,?_⟩
 ·left
  exact AR (λd=>?_) (λd=>?_)
  ·have d:=V.int.inj (C5 d)
   have mG:=mG (by lia);subst mG;left;exact Ψ2 p7 _ ⟨rfl,g7,?_⟩;intro p8 h8;generalize e8:up _ p8 (O.lst _)=Γ8;have g8:=AX e8;have l8:=AW e8 h8;clear e8;rw[CU]at g8
   rw[Gk (by lia) (by lia)]at g8;left;exact Ψ2 p7 _ ⟨rfl,(l8 _ _ g7),?_⟩;intro p9 h9;generalize e9:up _ p9 (O.lst _)=Γ9;have g9:=AX e9;have l9:=AW e9 h9;clear e9;rw[CU]at g9
   rw[Ig (by lia)]at g9;left;exact JD g9 (l9 _ _ g8) (by rw[Bi,Bi,CH];lia) λoR Γ10 Up uU zX=>?_;left;exact Ψ2 p7 _ ⟨rfl,(uU _ _ (l9 _ _ (l8 _ _ g7))),?_⟩;intro L0 RO;generalize F5:up _ L0 (O.lst _)=Γ11;have Bo:=AX F5;have yn:=AW F5 RO;clear F5;rw[CU]at Bo
   rw[Gk (by lia) (by lia)]at Bo;exact JD (yn _ _ zX) Bo (by rw[AG,Bi,Bi,Bi,CH,CH];lia) λRm Γ12 RN HE HW=>?_;left;exact Ψ2 p7 _ ⟨rfl,(HE _ _ (yn _ _ (uU _ _ (l9 _ _ (l8 _ _ g7))))),?_⟩;intro SY Uo;generalize UI:up _ SY (O.lst _)=Γ13;have MZ:=AX UI;have HD:=AW UI Uo;clear UI;rw[CU]at MZ
   rw[Hq (by lia)]at MZ;exact JD (HD _ _ HW) MZ (by rw[AG,AG,Bi,Bi,Bi,CH,CH,CH];lia) λXf Γ14 Yx XE Uw=>?_;left;have e1:=ID ms (j:Int).toNat;have e2:=ID (ms.drop (j:Int).toNat) (((j:Int)+1).toNat-(j:Int).toNat);have e3:=ID (ms.drop ((j:Int)+1).toNat) (((j:Int)+2).toNat-((j:Int)+1).toNat);rw[GD,show(j:Int).toNat+(((j:Int)+1).toNat-(j:Int).toNat)=((j:Int)+1).toNat by lia]at e2;rw[GD,show((j:Int)+1).toNat+(((j:Int)+2).toNat-((j:Int)+1).toNat)=((j:Int)+2).toNat by lia]at e3;exact Ψ3 Xf _ _ ⟨rfl,Uw,le_none l7 (le_none l8 (le_none l9 (le_none uU (le_none yn (le_none HE (le_none HD Yx)))))),l7.trans (l8.trans (l9.trans (uU.trans (yn.trans (HE.trans (HD.trans XE)))))),(((wL.take _).app ((wL.drop _).take _)).app ((wL.drop _).take _)).app (wL.drop _),by rw[IW,IW,IW];lia,λh=>by lia⟩
  ·have d:=λe=>DO d (Ai V.int e)
   left;exact Ψ3 p7 ms o8 ⟨rfl,g7,h7,l7,wK,wR,λh=>mG (by lia)⟩
 clear mG wR wK l7 h7 g7;intro τ Γ7⟨p7,ms,o8,rfl,g7,h7,l7,wK,wR,mG⟩;left;exact⟨LD l a Γ way at_ j so He ls 6,?_,?_⟩
 ·left
  exact AR (λd=>?_) (λd=>?_)
  ·have d:=V.int.inj (C5 d)
   have mG:=mG (by lia);subst mG;left;exact AU (l7 _ _ ga) x4 ?_;left;exact⟨r4,rfl,λw0 VT=>?_⟩;left;exact Ψ4 p7 _ _ j ⟨rfl,rfl,g7,br (by rw[Ae];exact jl),?_⟩;left;have e1:=U0 (ls:=ms) (j:=j) (x:=ms[j]) (y:=w0) (by simp[jl]);have e2:=VT.2;exact Ψ3 p7 (ms.set j w0) _ ⟨rfl,by rw[AP,List.map_set],h7,gA h7 l7,wL.set VT.1,by lia,λh=>by lia⟩
  ·have d:=λe=>DO d (Ai V.int e)
   left;exact Ψ3 p7 ms o8 ⟨rfl,g7,h7,l7,wK,wR,λh=>mG (by lia)⟩
 clear mG wR wK l7 h7 g7;intro τ Γ7⟨p7,ms,o8,rfl,g7,h7,l7,wK,wR,mG⟩;left;exact⟨LD l a Γ way at_ j so He ls 7,?_,?_⟩
 ·left
  exact AR (λd=>?_) (λd=>?_)
  ·have d:=V.int.inj (C5 d)
   have mG:=mG (by lia);subst mG;left;exact AU g7 (Ey (j:=j) (v:=Ld ms[j]) (by simp[jl])) ?_;have ex:=j8 (Lq jl);have es:("\x20" : Str)=S [32]:=by decide +kernel
   exact Ψ2 _ _ ⟨rfl,rfl,by rw[Ad,es,Ad];show _+1≤_;lia,?_⟩;rw[es,DY];left;exact Ψ4 p7 _ _ j ⟨rfl,rfl,g7,br (by rw[Ae];exact jl),?_⟩;left;have e1:=U0 (ls:=ms) (j:=j) (x:=ms[j]) (y:=ms[j]++[32]) (by simp[jl]);have e2:(ms[j]++[32]).length=ms[j].length+1:=by rw[AG];rfl
   exact Ψ3 p7 (ms.set j (ms[j]++[32])) _ ⟨rfl,by rw[AP,List.map_set],h7,gA h7 l7,wL.set λc hc=>?_,by lia,λh=>by lia⟩;rcases aaH.mp hc with hc|hc
   ·exact wL _ (Lq jl) c hc
   ·rw[aau.mp hc];decide
  ·have d:=λe=>DO d (Ai V.int e)
   left;exact Ψ3 p7 ms o8 ⟨rfl,g7,h7,l7,wK,wR,λh=>mG (by lia)⟩
 clear mG wR wK l7 h7 g7;intro τ Γ7⟨p7,ms,o8,rfl,g7,h7,l7,wK,wR,mG⟩;left;exact⟨LD l a Γ way at_ j so He ls 8,?_,?_⟩
 ·left
  exact AR (λd=>?_) (λd=>?_)
  ·have d:=V.int.inj (C5 d)
   have mG:=mG (by lia);subst mG;left;exact Ψ2 p7 _ ⟨rfl,g7,?_⟩;intro p8 h8;generalize e8:up _ p8 (O.lst _)=Γ8;have g8:=AX e8;have l8:=AW e8 h8;clear e8;rw[CU]at g8
   rw[Ig (by lia)]at g8;left;exact Ψ2 p7 _ ⟨rfl,(l8 _ _ g7),?_⟩;intro p9 h9;generalize e9:up _ p9 (O.lst _)=Γ9;have g9:=AX e9;have l9:=AW e9 h9;clear e9;rw[CU]at g9
   rw[Gk (by lia) (by lia)]at g9;left;have e1:=ID ms (j:Int).toNat;have e2:=ID (ms.drop (j:Int).toNat) (((j:Int)+2).toNat-(j:Int).toNat);rw[GD,show(j:Int).toNat+(((j:Int)+2).toNat-(j:Int).toNat)=((j:Int)+2).toNat by lia]at e2;have am:Ac ((ms.drop (j:Int).toNat).take (((j:Int)+2).toNat-(j:Int).toNat)):=(wL.drop _).take _;generalize (ms.drop (j:Int).toNat).take (((j:Int)+2).toNat-(j:Int).toNat)=md at *
   have Ua:=HI [] md;have Yi:(md.map λl:List Nat=>l.length+([]:List Nat).length).sum≤CW md:=ij md;exact Ψ3 p9 [] md ⟨by rw[show("" : Str)=S []by decide +kernel],rfl,BM g9,by lia,?_⟩;left;intro oR Up;generalize NJ:up _ oR (O.lst _)=Γ10;have zX:=AX NJ;have uU:=AW NJ Up;clear NJ
   exact JD (ys:=[B9 [] md]) (uU _ _ (l9 _ _ g8)) zX (by rw[Bi];show _+1≤_;lia) λL0 Γ11 RO yn Bo=>?_;left;exact Ψ2 p7 _ ⟨rfl,yn _ _ (uU _ _ (l9 _ _ (l8 _ _ g7))),?_⟩;intro Rm RN;generalize UJ:up _ Rm (O.lst _)=Γ12;have HW:=AX UJ;have HE:=AW UJ RN;clear UJ;rw[CU]at HW
   rw[Hq (by lia)]at HW;exact JD (HE _ _ Bo) HW (by rw[AG,Bi,CH];show _+1+_≤_;lia) λSY Γ13 Uo HD MZ=>?_;left;have e3:CW [B9 [] md]=(B9 [] md).length+1:=by show _+1+0=_;lia
   exact Ψ3 SY _ _ ⟨rfl,MZ,le_none l7 (le_none l8 (le_none l9 (le_none uU (le_none yn (le_none HE Uo))))),l7.trans (l8.trans (l9.trans (uU.trans (yn.trans (HE.trans HD))))),((wL.take _).app λx hx=>by rw[aau.mp hx];exact Ml am (λc hc=>nomatch hc)).app (wL.drop _),by rw[IW,IW];lia,λh=>by lia⟩
  ·have d:=λe=>DO d (Ai V.int e)
   left;exact Ψ3 p7 ms o8 ⟨rfl,g7,h7,l7,wK,wR,λh=>mG (by lia)⟩
 clear mG wR wK l7 h7 g7;intro τ Γ7⟨p7,ms,o8,rfl,g7,h7,l7,wK,wR,mG⟩;left;have Ua:=HI [32] ms;have Ua:(B9 [32] ms).length≤CW ms:=Ua;have Yi:(ms.map λl:List Nat=>l.length+([32]:List Nat).length).sum=CW ms:=rfl;exact Ψ3 p7 [32] ms ⟨by rw[show("\x20" : Str)=S [32]by decide +kernel],rfl,BM g7,by lia,?_⟩;left;exact fin _ _ (Rf ⟨Ml wK (λc hc=>by rw[aau.mp hc];decide),by lia⟩) l7
end
theorem EK{a:List Nat}(ha:∀c∈a,c<128)(hb:∀c∈b,c<128):∀c∈a++b,c<128:=λc h=>by
 rcases aaH.mp h with h|h
 ·exact ha c h
 ·exact hb c h
theorem Pw(h:Lets z):∀c∈z.cps.toList,c<128:=λc hc=>by have:=h c hc;lia
mutual
theorem LZ:∀{k:Kd},k.good→∀c∈k.sh,c<128
 |.num w,h=>by
  unfold Kd.good at h;rw[Kd.sh];exact EK (by decide) λc hc=>by rw[aau.mp hc];lia
 |.text,h=>by rw[Kd.sh];decide
 |.row k,h=>by
  unfold Kd.good at h;rw[Kd.sh];exact EK (by decide) (LZ h)
 |.rec_ fs,h=>by
  unfold Kd.good at h;rw[Kd.sh];exact EK (EK (by decide) (Ml (dZ h.1) (by decide))) (by decide)
 |.pick fs,h=>by
  unfold Kd.good at h;rw[Kd.sh];exact EK (EK (by decide) (Ml (dZ h.1) (by decide))) (by decide)
theorem dZ:∀{fs:List (Str×Kd)},CO fs→Ac (Af fs)
 |[],_=>λx hx=>by rw[Af]at hx;cases hx
 |(n,k)::r,h=>λx hx=>by
  unfold CO at h;rw[Af]at hx;rcases aam.mp hx with rfl|hx
  ·exact EK (EK (Pw (h.1.2.2)) (by decide)) (LZ h.2.1)
  ·exact dZ h.2.2 x hx
end
theorem aaM{q:Str×Str×Kd}(h:G8 q):∀c∈BO q,c<128:=by
 unfold BO;exact EK (EK (EK (EK (Pw (h.nm.2.2)) (by decide)) (Pw (O0 h.wy).2)) (by decide)) (LZ h.kg)
theorem t5{p:Pa}(h:p.Ok):∀c∈p.sh,c<128:=by
 unfold Pa.sh;exact EK (EK (EK (EK (EK (EK (EK (EK (by decide) (Pw (h.nm.2.2))) (by decide)) λc hc=>?_) (by decide)) (Ml (λx hx=>?_) (by decide))) (by decide)) (by decide)) ?_
 ·rw[aau.mp hc]
  rcases h.sd with e|e<;>rw[e]<;>decide
 ·let⟨q,hq,rfl⟩:=aaV.mp hx
  exact aaM (h.ps q hq)
 ·cases e:p.re with
  |none=>decide
  |some k=>exact LZ (h.re k e).1
theorem IP(h:pre q r=some r'):q.length+r'.length=r.length:=by rw[Bz h,AG]
theorem bW(r:List Nat):(r.dropWhile AB).length≤r.length:=by
 have:=Ai List.length (DG r);rw[AG]at this;lia
theorem OX{f:Ci}(hf:Hj f)(h:f r=some x):x.2.length≤r.length:=by
 let⟨q,hq⟩:=hf r x.1 x.2 h;rw[hq,AG];lia
theorem ye(e:B0 d r=some x):x.2.length+3≤r.length:=by
  cases d with
  |zero=>cases e
  |succ d=>
    have ih:=Js d;have ht:=Ai List.length (DG r);rw[AG]at ht;suffices hh:x.2.length≤(r.dropWhile AB).length∧3≤(r.takeWhile AB).length by lia
    have e:DD (B0 d) (r.takeWhile AB) (r.dropWhile AB)=some x:=e;clear ht;generalize r.takeWhile AB=h at e;generalize r.dropWhile AB=r1 at e;unfold DD at e;split at e
    · rename_i c;cases e;exact⟨Ax _,by rw[c];decide⟩
    all_goals
      cases e1:pre [32] r1 with
      |none=>simp[e1]at e
      |some r2=>
        have a1:=IP e1;simp only[e1,AO]at e;first
          |(
             split at e
             · rename_i c;cases e2:F7 r2 with
               |none=>rw[e2]at e;cases e
               |some y=>
                 rw[e2]at e;cases e;have a2:=OX R2 e2;exact⟨by show y.2.length≤_;lia,by rw[c];decide⟩
             split at e
             · rename_i c;cases e2:B0 d r2 with
               |none=>rw[e2]at e;cases e
               |some y=>
                 rw[e2]at e;cases e;have a2:=OX ih e2;exact⟨by show y.2.length≤_;lia,by rw[c];decide⟩
             split at e
             · rename_i c;cases e3:pre [40] r2 with
               |none=>rw[e3]at e;cases e
               |some r3=>
                 have a2:=IP e3;simp only[e3,AO]at e;cases e4:CP (B0 d) r3 with
                 |none=>rw[e4]at e;cases e
                 |some y=>
                   have a3:=OX (K7 ih) e4;rw[e4,AO]at e;cases e5:BP (CP (B0 d)) (y.2.length+1) y.2 with
                   |none=>rw[e5]at e;cases e
                   |some z=>
                     rw[e5]at e;cases e;let⟨q,hq⟩:=Nh (K7 ih) _ _ z.1 z.2 e5;have a4:=Ai List.length hq;rw[AG]at a4;exact⟨by show z.2.length≤_;lia,?_⟩;rcases c with c|c<;>rw[c]<;>decide
             · cases e)
theorem mI(h:Bw r=some x):x.2.length+5≤r.length:=by
 unfold Bw at h;cases e1:pre [32] (r.dropWhile AB)with
 |none=>rw[e1]at h;cases h
 |some r1=>
  rw[e1,AO]at h;cases e2:pre [32] (r1.dropWhile AB)with
  |none=>rw[e2]at h;cases h
  |some r2=>
   rw[e2,AO]at h;cases e3:B0 5 r2 with
   |none=>rw[e3]at h;cases h
   |some y=>
    rw[e3]at h;cases h;have a1:=IP e1;have a2:=IP e2;have a3:=ye e3;have a4:=bW r;have a5:=bW r1;have a1:1+r1.length=_:=a1;have a2:1+r2.length=_:=a2;show y.2.length+5≤_
    lia
theorem hV:∀{n:Nat} {r:List Nat} {x:List T×List Nat},BP Bw n r=some x→7*x.1.length+x.2.length≤r.length
 |0,r,x,h=>by cases h
 |n+1,r,x,h=>by
  rw[BP]at h;cases e0:pre [41] r with
  |some r1=>rw[e0]at h;cases h;have:=IP e0;show 7*0+r1.length≤_;lia
  |none=>
   rw[e0]at h;have h:((pre [44,32] r).bind λr1=>(Bw r1).bind λx=>(BP Bw n x.2).bind λy=>some (x.1::y.1,y.2))=some x:=h;cases e1:pre [44,32] r with
   |none=>rw[e1]at h;cases h
   |some r1=>
    rw[e1,AO]at h;cases e2:Bw r1 with
    |none=>rw[e2]at h;cases h
    |some y=>
     rw[e2,AO]at h;cases e3:BP Bw n y.2 with
     |none=>rw[e3]at h;cases h
     |some z=>
      rw[e3]at h;cases h;have a1:=IP e1;have a2:=mI e2;have a3:=hV e3;have a1:2+r1.length=_:=a1;show 7*(z.1.length+1)+z.2.length≤_
      lia
theorem aq{l:List Nat}(hl:l.length≤6100):∀x y us d,E5 l=some (.tup [x,y,.tup us,d],[])→us.length≤999:=λx y us d h=>by
 unfold E5 at h;cases e1:pre FK l with
 |none=>rw[e1]at h;cases h
 |some r1=>
  have a1:=IP e1;rw[e1,AO]at h;cases e2:pre [32] (r1.dropWhile AB)with
  |none=>rw[e2]at h;cases h
  |some r2=>
   have a2:=IP e2;have a3:=bW r1;rw[e2,AO]at h;cases e3:F7 r2 with
   |none=>rw[e3]at h;cases h
   |some fx=>
    have a4:=OX R2 e3;rw[e3,AO]at h;cases e4:pre [32,40] fx.2 with
    |none=>rw[e4]at h;cases h
    |some r4=>
     have a5:=IP e4;rw[e4,AO]at h;cases e5:Dr r4 with
     |none=>rw[e5]at h;cases h
     |some py=>
      rw[e5,AO]at h;cases e6:pre [32] py.2 with
      |none=>rw[e6]at h;cases h
      |some r6=>
       rw[e6,AO]at h;have hu:py.1=.tup us:=by
        unfold Jl at h;cases e7:pre Ea r6 with
        |some r7=>
         rw[e7]at h;have h:some (T.tup [.str (S (r1.takeWhile AB)),fx.1,py.1,.non],r7)=some (T.tup [x,y,.tup us,d],[]):=h;have h:=T.tup.inj (Prod.mk.inj (Cr h)).1;exact(B8 (B8 (B8 h).2).2).1
        |none=>
         rw[e7]at h;have h:((B0 5 r6).bind λz=>some (T.tup [.str (S (r1.takeWhile AB)),fx.1,py.1,z.1],z.2))=some (T.tup [x,y,.tup us,d],[]):=h;cases e8:B0 5 r6 with
         |none=>rw[e8]at h;cases h
         |some z=>
          rw[e8,AO]at h;have h:=T.tup.inj (Prod.mk.inj (Cr h)).1;exact(B8 (B8 (B8 h).2).2).1
       unfold Dr at e5;cases e7:pre [41] r4 with
       |some r7=>
        rw[e7]at e5;have e5:some (T.tup [],r7)=some py:=e5;rw[←Cr e5]at hu;rw[←T.tup.inj hu];exact Fe _
       |none=>
        rw[e7]at e5;have e5:((Bw r4).bind λx=>(BP Bw (x.2.length+1) x.2).bind λy=>some (T.tup (x.1::y.1),y.2))=some py:=e5;cases e8:Bw r4 with
        |none=>rw[e8]at e5;cases e5
        |some z=>
         rw[e8,AO]at e5;cases e9:BP Bw (z.2.length+1) z.2 with
         |none=>rw[e9]at e5;cases e5
         |some v=>
          rw[e9,AO]at e5;rw[←Cr e5]at hu;rw[←T.tup.inj hu];have b1:=mI e8;have b2:=hV e9;show v.1.length+1≤999
          lia
def NT(r:Int):Nat:=([0,1,2,3,4,6,0,1]:List Nat).getD (r%8).toNat 0
def PM(r:Int):Int:=([0,1,2,3,4,5,0,1]:List Int).getD (r%8).toNat 0
theorem acz(r:Int):B7 (([0,1,2,3,4,6,0,1]:List Int).map T.int) (r%8)=some (.int (NT r:Nat))∧NT r≤6∧B7 (([0,1,2,3,4,5,0,1]:List Int).map T.int) (r%8)=some (.int (PM r))∧JE (r/8*8+PM r)=NT r:=by
 have h0:=CK r (by decide:(8:Int)≠0);have h1:=Cc r (by decide:(0:Int)<8);unfold NT PM JE;have:r%8=0∨r%8=1∨r%8=2∨r%8=3∨r%8=4∨r%8=5∨r%8=6∨r%8=7:=by lia
 rcases this with e|e|e|e|e|e|e|e<;>rw[e]<;>exact⟨rfl,by decide,rfl,?_⟩
 ·rw[show(r/8*8+[0,1,2,3,4,5,0,1].getD (0:Int).toNat 0)%8=0 by show(r/8*8+0)%8=0;lia];rfl
 ·rw[show(r/8*8+[0,1,2,3,4,5,0,1].getD (1:Int).toNat 0)%8=1 by show(r/8*8+1)%8=1;lia];rfl
 ·rw[show(r/8*8+[0,1,2,3,4,5,0,1].getD (2:Int).toNat 0)%8=2 by show(r/8*8+2)%8=2;lia];rfl
 ·rw[show(r/8*8+[0,1,2,3,4,5,0,1].getD (3:Int).toNat 0)%8=3 by show(r/8*8+3)%8=3;lia];rfl
 ·rw[show(r/8*8+[0,1,2,3,4,5,0,1].getD (4:Int).toNat 0)%8=4 by show(r/8*8+4)%8=4;lia];rfl
 ·rw[show(r/8*8+[0,1,2,3,4,5,0,1].getD (5:Int).toNat 0)%8=5 by show(r/8*8+5)%8=5;lia];rfl
 ·rw[show(r/8*8+[0,1,2,3,4,5,0,1].getD (6:Int).toNat 0)%8=0 by show(r/8*8+0)%8=0;lia];rfl
 ·rw[show(r/8*8+[0,1,2,3,4,5,0,1].getD (7:Int).toNat 0)%8=1 by show(r/8*8+1)%8=1;lia];rfl
section
abbrev gu:Stmt:=Bb 65
theorem cL:B6 ["cell","s","names","many","row","signs"] ["cell"] (Am gu):=⟨rfl,rfl,rfl,by decide +kernel,rfl,by decide +kernel,by decide +kernel⟩
def j7:B2:=λts Γ Z _=>∃c:Int,ts=[.int c]∧∀l,Fb l 6000→Z (.str (S l)) Γ
theorem xh(F:eG K "_law_text" "_law_text" gu f fd)(gM:Al P w K mg ap "_law_draws" 1 ["cell","count"] Sq)(wm:Al P w K mg ap "_law_names" 2 ["row"] i9)(dh:Al P w K mg ap "_law_shown" 6 ["kind"] (LJ 6))(jH:Al P w K mg ap "_law_kind" 2 ["row","names","deepest"] eo)(fU:Al P w K mg ap "_law_paper_shown" 7 ["paper"] gr)(wj:Al P w K mg ap "_law_paper" 3 ["row","names","deepest"] nO)(lR:Al P w K mg ap "_law_changed" 2 ["signs","s"] qC):bJ P w K mg ap BK 8 f fd ["cell"] (B3 j7):=by
 exact Bq F cL (λts Γ Z Y h=>?_) (λcO A outer s H E ts Γ Z Y hr h=>?_)
 ·let⟨c,rfl,_⟩:=h
  rfl
 let⟨c,rfl,q⟩:=h;exact⟨_,(A4 (AL (i:=1) cL.nd (Ak gM hr (A3 (A0 0) (A3 A5 A6))))
  (A4 (AL (i:=2) cL.nd (Ak wm hr (A3 (C3 CY (A0 1) (BQ A5) (BQ A5)) A6)))
  (A4 (AL (i:=3) cL.nd (AD (BN (A3 A5 (A3 A5 (A3 A5 (A3 A5 (A3 A5 (A3 A5 (A3 A5 (A3 A5 A6))))))))) (AA BU (AD (A0 1) A5) A5)))
  (A4 (D9 (AZ (AY Be (AA BU (AD (A0 1) A5) A5) A5) (A4 (AL (i:=4) cL.nd (C3 CY (Ak gM hr (A3 (A0 0) (A3 A5 A6))) (BQ A5) DL))
  (A4 (AL (i:=5) cL.nd (Ak dh hr (A3 (Ak jH hr (A3 (C3 CY (A0 4) DL (BQ (AA BF A5 (AA Ht A5 (AA BU (AA FC (AD (A0 1) A5) A5) A5))))) (A3 (A0 2) (A3 A5 A6)))) A6)))
  A8)) (A4 (AL (i:=4) cL.nd (C3 CY (Ak gM hr (A3 (A0 0) (A3 (AA BF A5 (AA Ht A5 (A0 3))) A6))) (BQ A5) DL))
  (A4 (GZ (AA BF (AA Ht (AA FC (AD (A0 1) A5) A5) A5) (AD (BN (A3 A5 (A3 A5 (A3 A5 (A3 A5 (A3 A5 (A3 A5 (A3 A5 (A3 A5 A6))))))))) (AA BU (AD (A0 1) A5) A5))) (Ny (A0 4) A5))
  (A4 (AL (i:=5) cL.nd (Ak fU hr (A3 (Ak wj hr (A3 (A0 4) (A3 (A0 2) (A3 A5 A6)))) A6)))
  A8)))))
  (A4 (D9 (AZ (AY Hn (AA BU (AD (A0 1) A5) A5) A5) (A4 (AL (i:=5) cL.nd (Ak lR hr (A3 (A0 5) (A3 (C3 CY (A0 1) (BQ A5) (BQ A5)) A6))))
  A8) A8))
  (A4 (D9 (AZ (AY Be (AA BU (AD (A0 1) A5) A5) A5) (A4 (AL (i:=5) cL.nd (Ak lR hr (A3 (A0 5) (A3 (C3 CY (A0 1) (BQ A5) (BQ A5)) A6))))
  A8) A8))
  (A4 (AQ (A0 5))
  A8))))))),?_⟩
 simp only[B5];left;exact Ψ2 c 33 ⟨rfl,by decide,λp0 P2=>?_⟩;generalize e0:up _ p0 (O.lst _)=Γ0;have g0:=AX e0;have l0:=AW e0 P2;clear e0
 have SK:=OJ c 33;generalize Ei c 33=ns at *
 let⟨r0,_,_,x0⟩:=Dw (ns:=ns) (j:=0) (by lia);let⟨Vk,_,_,U8⟩:=Dw (ns:=ns) (j:=11) (by lia);let⟨Rk,_,_,Si⟩:=Dw (ns:=ns) (j:=32) (by lia);let⟨Ye,hm6,Yd,VZ⟩:=acz Rk;left;exact Ψ2 p0 _ ⟨rfl,g0,?_⟩;intro p1 jr;generalize e1:up _ p1 (O.lst _)=Γ1;have g1:=AX e1;have l1:=AW e1 jr;clear e1
 rw[CU,Gk (by decide) (by decide)]at g1;exact Ψ2 p1 _ ⟨rfl,g1,by rw[Bi,CH,SK];rfl,λss p2 s9 nm nd qz=>?_⟩;generalize e2:up _ p2 (O.lst _)=Γ2;have g2:=AX e2;have l2:=AW e2 qz;clear e2
 left;intro p3 Bg;generalize e3:up _ p3 (O.lst _)=Γ3;have g3:=AX e3;have l3:=AW e3 Bg;clear e3
 have HD:=l1.trans (l2.trans l3);left;exact AU (HD _ _ g0) Si ?_;left;exact AU g3 Ye ?_;generalize NT Rk=mn at *
 have Qm:=HD _ _ g0;have Uv:=l3 _ _ g2;have XF:=l0.trans HD;left;exact⟨λτ Γ'=>∃(l:List Nat) (o4:Option T),τ=[some (.int c),some (.ref p0),some (.ref p2),some (.int (mn:Nat)),o4,some (.str (S l))]∧Fb l 1200∧Le Γ3 Γ',?_,?_⟩
 ·left
  exact AU Qm U8 ?_;left;exact AR (λc1=>?_) (λc1=>?_)
  ·left
   exact Ψ2 c 56 ⟨rfl,by decide,λp4 ME=>?_⟩;generalize e4:up _ p4 (O.lst _)=Γ4;have g4:=AX e4;have l4:=AW e4 ME;clear e4
   left;exact Ψ2 p4 _ ⟨rfl,g4,?_⟩;intro p5 vO;generalize e5:up _ p5 (O.lst _)=Γ5;have g5:=AX e5;have l5:=AW e5 vO;clear e5
   rw[CU,Hq (by decide)]at g5;have JI:=l4.trans l5;have sl:((Ei c 56).drop (32:Int).toNat).length=24:=by rw[CH,OJ];rfl
   generalize (Ei c 56).drop (32:Int).toNat=row at *
   left;exact AU (JI _ _ Qm) U8 ?_;left;have b12:0≤Vk/3%12∧Vk/3%12<12:=⟨CK _ (by decide),Cc _ (by decide)⟩;exact Ψ2 p5 _ ⟨rfl,g5,?_⟩;intro p6 wJ;generalize e6:up _ p6 (O.lst _)=Γ6;have g6:=AX e6;have l6:=AW e6 wJ;clear e6
   rw[CU,Ig (by lia)]at g6;left;exact Ψ5 p6 p2 5 _ ss ⟨rfl,g6,l6 _ _ (JI _ _ Uv),by rw[Bi,sl];lia,by rw[Bi,sl];lia,s9,nm,by decide,λk kg kd kw=>?_⟩;have kg:=kg nd;have kl:=Lz kg;rw[Bi,sl]at kw;left;exact⟨k,rfl,kg,by lia,by lia,?_⟩;left;exact Ψ2 k.sh _ ⟨rfl,⟨LZ kg,by lia⟩,JI.trans l6⟩
  ·left
   exact Ψ2 c (60+6*mn) ⟨rfl,by lia,λp4 ME=>?_⟩;generalize e4:up _ p4 (O.lst _)=Γ4;have g4:=AX e4;have l4:=AW e4 ME;clear e4
   left;exact Ψ2 p4 _ ⟨rfl,g4,?_⟩;intro p5 vO;generalize e5:up _ p5 (O.lst _)=Γ5;have g5:=AX e5;have l5:=AW e5 vO;clear e5
   rw[CU,Hq (by decide)]at g5;have JI:=l4.trans l5;have sl:((Ei c (60+6*mn)).drop (32:Int).toNat).length=28+6*mn:=by rw[CH,OJ];show 60+6*mn-32=_;lia
   generalize (Ei c (60+6*mn)).drop (32:Int).toNat=row at *
   left;exact AU (JI _ _ Qm) Si ?_;left;intro p6 wJ;generalize e6:up _ p6 (O.lst _)=Γ6;have g6:=AX e6;have l6:=AW e6 wJ;clear e6
   left;exact AU (l6 _ _ (JI _ _ Qm)) Si ?_;left;exact AU g6 Yd ?_;left;have nf:p2≠p5:=CF (l4 _ _ Uv) vO;have bf:Γ3 p5=none:=le_none l4 vO;exact Ψ4 p5 _ _ 0 ⟨rfl,rfl,l6 _ _ g5,br (j:=0) (by rw[Ae,sl];lia),?_⟩;left;generalize hv:Rk/8*8+PM Rk=v at *
   exact Ψ6 p5 p2 5 (row.set 0 v) ss v ⟨rfl,by rw[AP,List.map_set],by rw[CB nf];exact l6 _ _ (JI _ _ Uv),?_,by rw[List.length_set,sl,VZ],s9,nm,by decide,λpa pg pl=>?_⟩
   ·have:0<row.length:=by lia
    simp[this]
   let⟨Vm,SX⟩:=pg.ok nd nm (by rw[pl,VZ];lia);left;exact⟨pa,rfl,Vm,?_⟩;left;exact Ψ2 pa.sh _ ⟨rfl,⟨t5 Vm,SX⟩,gA bf (JI.trans l6)⟩
 intro τ Γ4⟨l,o4,rfl,al,l4⟩;have RT:=l4 _ _ Qm;have BH:=XF.trans l4;have fin:∀(l:List Nat) (Γ':AS),Fb l 6000→Le Γ Γ'→De Z (.str (S l)) Γ':=λl Γ' h le=>AH le (q l h);left;exact⟨λτ Γ'=>∃(l:List Nat),τ=[some (.int c),some (.ref p0),some (.ref p2),some (.int (mn:Nat)),o4,some (.str (S l))]∧Fb l 2600∧Le Γ4 Γ',?_,?_⟩
 ·left
  exact AU RT x0 ?_;left;exact AR (λc1=>?_) (λc1=>?_)
  ·left
   exact Ψ2 p0 _ ⟨rfl,RT,?_⟩;intro p5 vO;generalize e5:up _ p5 (O.lst _)=Γ5;have g5:=AX e5;have l5:=AW e5 vO;clear e5
   rw[CU,Gk (by decide) (by decide)]at g5;left;exact Ψ3 l p5 _ ⟨rfl,g5,by rw[Bi,CH,SK];rfl,⟨al.1,by have:=al.2;lia⟩,λl' QV=>?_⟩;left;exact⟨l',rfl,⟨QV.1,by have:=QV.2;have:=al.2;lia⟩,l5⟩
  ·left
   exact⟨l,rfl,⟨al.1,by have:=al.2;lia⟩,.refl⟩
 clear al;intro τ Γ5⟨l,rfl,al,l5⟩;left;exact Gj ?_;left;exact AU (l5 _ _ RT) x0 ?_;left;exact AR (λc1=>?_) (λc1=>?_)
 ·left
  exact Ψ2 p0 _ ⟨rfl,l5 _ _ RT,?_⟩;intro p6 wJ;generalize e6:up _ p6 (O.lst _)=Γ6;have g6:=AX e6;have l6:=AW e6 wJ;clear e6
  rw[CU,Gk (by decide) (by decide)]at g6;left;exact Ψ3 l p6 _ ⟨rfl,g6,by rw[Bi,CH,SK];rfl,⟨al.1,by have:=al.2;lia⟩,λl' QV=>?_⟩;left;exact fin l' _ ⟨QV.1,by have:=QV.2;have:=al.2;lia⟩ (BH.trans (l5.trans l6))
 ·left
  exact fin l _ ⟨al.1,by have:=al.2;lia⟩ (BH.trans l5)
end
inductive Sm:Nat→T→Prop
 |non {d:Nat}:Sm d .non
 |int {d:Nat} (i:Int):Sm d (.int i)
 |str {d:Nat} {z:Str} (l:z.length≤1000):Sm d (.str z)
 |tup {d:Nat} {ts:List T} (l:ts.length≤999) (h:∀t∈ts,Sm d t):Sm (d+1) (.tup ts)
theorem Sm.up(h:Sm d t):∀{e:Nat},d≤e→Sm e t:=by
 induction h with
 |non=>exactλ_=>.non
 |int i=>exactλ_=>.int i
 |str l=>exactλ_=>.str l
 |@tup d ts l _ ih=>
  intro e he;obtain⟨e,rfl⟩:∃e',e=e'+1:=⟨e-1,by lia⟩;exact .tup l λt ht=>ih t ht (by lia)
theorem Sm.pt(h:Sm d t):Pt Γ t:=by
 induction h with
 |non=>exact .non
 |int i=>exact .int i
 |str l=>exact .str (by lia)
 |tup l _ ih=>exact .tup (by lia) ih
theorem NK:∀(d:Nat) (t:T),Aj d t=true→Sm (3*d) t
 |0,t,h=>by unfold Aj at h;cases h
 |d+1,t,h=>by
  rw[show 3*(d+1)=(3*d+1+1)+1 by lia];unfold Aj at h;split at h
  ·rename_i z _
   have:=C5 h;rw[this];exact .tup (by show 1≤999;decide) λt ht=>by rw[aau.mp ht];exact .str (by decide +kernel)
  ·rename_i d' z x e0
   cases e0;have hz:Sm (3*d+1+1) (.str z)∧Sm (3*d+1+1) x:=by
    split at h
    ·rename_i e
     subst e;exact⟨.str (by decide +kernel),?_⟩;cases x with
     |int i=>exact .int i
     |_=>cases h
    split at h
    ·rename_i e
     subst e;exact⟨.str (by decide +kernel),(NK d x h).up (by lia)⟩
    rw[DN,Jf]at h;let⟨h1,h2⟩:=h;exact⟨?_,?_⟩
    ·rcases h1 with h1|h1<;>(rw[C5 h1];exact .str (by decide +kernel))
    ·cases x with
     |tup ts=>
      rw[HS]at h2;simp only[DN,F9]at h2;exact .tup (by lia) λu hu=>?_;let⟨z,b,rfl,hz,hb⟩:=TG (aaS.mp h2.1.2 u hu);rw[Hf]at hz;simp only[DN,F9]at hz;exact .tup (by show 2≤999;decide) λv hv=>by
       simp only[aam,Bx,D7]at hv;rcases hv with rfl|rfl
       ·exact .str (by lia)
       ·exact NK d _ hb
     |_=>cases h2
   exact .tup (by show 2≤999;decide) λv hv=>by
    simp only[aam,Bx,D7]at hv;rcases hv with rfl|rfl
    ·exact hz.1
    ·exact hz.2
  ·cases h
theorem zx(h:Dx t=true)(hf:∀x y us d,t=.tup [x,y,.tup us,d]→us.length≤999):Sm 20 t:=by
 unfold Dx at h;split at h
 ·rename_i a b c d
  simp only[DN]at h;let⟨h1,h2,h3,h4⟩:=h;have sa:Sm 19 a:=by
   let⟨z,rfl⟩:=Kt h1;rw[Hf]at h1;simp only[DN,F9]at h1;exact .str (by lia)
  have sb:Sm 19 b:=by
   cases b with
   |int i=>exact .int i
   |_=>cases h2
  have sc:Sm 19 c:=by
   cases c with
   |tup us=>
    have l:=hf a b us d rfl;rw[LQ,DN]at h3;exact .tup (d:=18) l λu hu=>?_;have hu:=aaS.mp h3.1 u hu;let⟨z,b,c,rfl⟩:=cH hu;have hu:(Ca (.str z)&&(Hp b&&Aj 5 c))=true:=hu;rw[Hf]at hu;simp only[DN,F9]at hu;exact .tup (d:=17) (by show 3≤999;decide) λv hv=>?_;simp only[aam,Bx,D7]at hv;rcases hv with rfl|rfl|rfl
    ·exact .str (by lia)
    ·cases v with
     |str w=>
      have:=C5 hu.2.1;simp only[aam,Bx,D7]at this;rcases this with rfl|rfl|rfl|rfl<;>exact .str (by decide +kernel)
     |_=>cases hu.2.1
    ·exact(NK 5 _ hu.2.2).up (by lia)
   |_=>cases h3
  have sd:Sm 19 d:=by
   cases d with
   |non=>exact .non
   |_=>exact(NK 5 _ h4).up (by lia)
  exact .tup (d:=19) (by show 4≤999;decide) λv hv=>by
   simp only[aam,Bx,D7]at hv;rcases hv with rfl|rfl|rfl|rfl
   ·exact sa
   ·exact sb
   ·exact sc
   ·exact sd
 ·cases h
section
abbrev Nq:Stmt:=Bb 51
theorem xW:B6 ["found","due"] ["found","due"] (Am Nq):=⟨rfl,rfl,rfl,by decide +kernel,rfl,by decide +kernel,by decide +kernel⟩
def OR(n:Nat):B2:=λts Γ Z _=>∃(t:T) (d:Nat),ts=[t,t]∧Sm d t∧d<n∧Z (.bl true) Γ
theorem aao(F:eG K "_law_same" "_law_same" Nq f fd)(mv:Al P w K mg ap "_law_same" lv ["found","due"] (OR n))(aj:mg "isinstance" = none)(aB:mg "tuple" = none)(aE:mg "len" = none)(fY:mg "all" = none)(rY:mg "zip" = none)(cR:mg "str" = none)(eW:mg "int" = none)(gU:mg "bool" = none):bJ P w K mg ap BK (lv+1) f fd ["found","due"] (B3 (OR (n+1))):=by
 exact Bq F xW (λts Γ Z Y h=>?_) (λcO A outer s H E ts Γ Z Y hr h=>?_)
 ·let⟨t,d,rfl,_⟩:=h
  rfl
 let⟨t,d,rfl,hs,hd,q⟩:=h;exact⟨_,(A4 (AZ (BL (D2 rfl aj rfl aB EJ (A0 1))) (A4 (AZ (PW.pt (BS (Bf (BL (D2 rfl aj rfl aB EJ (A0 0)))) (Ck (AY DS (BE Co rfl aE Bl (A3 (A0 0) A6)) (BE Co rfl aE Bl (A3 (A0 1) A6)))))) (A4 (AQ CQ)
  A8) A8)
  (A4 (AQ (BE (OL rfl) rfl fY O9 (A3 (Gs (own:=["one","other"]) (cap:=[]) Gg rfl (acT rfl rY (A3 (A0 0) (A3 (A0 1) A6))) (λ_ _ _ _=>(GG (n:=2) rfl (Cj (F8 (i:=0) (show List.Nodup (["one","other"]:List Str)from by decide +kernel) rfl (Or.inl rfl) (Or.inr rfl)) (Cj (F8 (i:=1) (show List.Nodup (["one","other"]:List Str)from by decide +kernel) rfl (Or.inl rfl) (Or.inr rfl)) GH)))) (λ_ _ _ _=>HB) (λ_ _ _ _=>(Ak mv hr (A3 (A0 0) (A3 (A0 1) A6))))) A6)))
  A8)) A8)
  (A4 (AZ (AY Jq (A0 1) E6) (A4 (AQ (Ek Jq (A0 0) E6))
  A8) A8)
  (A4 (AZ (BL (D2 rfl aj rfl cR J5 (A0 1))) (A4 (AQ (FT (D2 rfl aj rfl cR J5 (A0 0)) (Fz (Ek Be (A0 0) (A0 1)))))
  A8) A8)
  (A4 (AQ (FT (D2 rfl aj rfl eW Jh (A0 0)) (FT (dQ (D2 rfl aj rfl gU To (A0 0))) (Fz (Ek Be (A0 0) (A0 1))))))
  A8)))),?_⟩
 simp only[B5];have pt:Pt Γ t:=hs.pt;left;exact Cw (G4 pt) ?_;cases hs with
 |non=>
  left;left;exact AH .refl q
 |int i=>
  left;left;left;exact Cw (in_str pt) ?_;left;left;exact Cw (Sv pt) ?_;left;left;exact Cw (ao pt) ?_;left;left;rw[BY rfl];exact AH .refl q
 |@str _ z l=>
  left;left;left;exact Cw (in_str pt) ?_;left;left;exact Cw (in_str pt) ?_;left;left;rw[BY rfl];exact AH .refl q
 |@tup d ts l h=>
  left;left;exact Cw (G4 pt) ?_;left;exact Bs (by rw[BY rfl];rfl) ?_;left;rw[pI];exact⟨DE (CM (by rw[Ae];lia)),?_⟩;exact⟨λv4 τ ys Γ'=>∃(ds rs:List T) (o0 o1:Option T),v4=rs.map (λy=>T.tup [y,y])∧ts=ds++rs∧τ=[o0,o1]∧ys=(ds.map λ_=>true).map T.bl∧Γ'=Γ,Ψ4 [] ts none none ⟨rfl,rfl,rfl,rfl,rfl⟩,?_,?_⟩
  ·intro τ ys Γ'⟨ds,rs,o0,o1,er,ez,rfl,rfl,rfl⟩
   exact⟨trivial,?_⟩;intro p1 jr;generalize e1:up _ p1 (O.lst _)=Γ1;have g1:=AX e1;have l1:=AW e1 jr
   left;exact Ψ2 p1 _ ⟨rfl,BM g1,?_⟩;rw[show(ds.map λ_=>true).all id=true by rw[aaS];intro b hb;let⟨_,_,rfl⟩:=aaV.mp hb;rfl];exact AH l1 q
  ·intro x r τ ys Γ'⟨ds,rs,o0,o1,er,ez,rfl,rfl,rfl⟩
   cases rs with
   |nil=>cases er
   |cons y rs=>
    cases er;exact⟨trivial,?_⟩;left;exact Ψ2 y d ⟨rfl,h y (by rw[ez];simp),by lia,?_⟩;exact Ψ4 (ds++[y]) rs _ _ ⟨rfl,by rw[ez];simp,rfl,by rw[B1,B1];rfl,rfl⟩
theorem nv{f1 f2:Addr}{M7 M6:FuncData}(F:eG K "is_kind_within" "is_kind_within" Q2 f fd)(m:mg "is_kind_within" = some (.ref f))(kp:W.keepIn K (.ref f)=true)(b:Binds K fd ["thing","depth"] [])
  (rf:eG K "is_field" "is_field" PL f1 M7) (qk:mg "is_field" = some (.ref f1)) (oH:W.keepIn K (.ref f1)=true) (qY:Binds K M7 ["thing","depth"] [])
  (nC:eG K "are_fields" "are_fields" OQ f2 M6) (m4:mg "are_fields" = some (.ref f2)) (lQ:W.keepIn K (.ref f2)=true) (nq:Binds K M6 ["thing","depth"] [])
  (C1:Al P w K mg ap "is_whole" 1 ["thing"] JF) (C2:Al P w K mg ap "is_name" 1 ["thing"] IT) (eQ:mg "WIDEST_NUM" = some v1) (ia:Ef v1 (.int 4)) (dR:mg "MOST_FIELDS" = some v2) (gE:Ef v2 (.int 6)) (aj:mg "isinstance" = none) (aB:mg "tuple" = none) (cR:mg "str" = none) (aE:mg "len" = none) (fY:mg "all" = none) :
  ∀n:Nat,Al P w K mg ap "is_kind_within" (3*n+1) ["thing","depth"] (Mm n)
 |0=>Ψ2 f fd ⟨Kh λts Γ Z Y h=>by obtain⟨_,d,_,h,_⟩:=h;lia,m,kp,b⟩
 |n+1=>by
  have c:=nv F m kp b rf qk oH qY nC m4 lQ nq C1 C2 eQ ia dR gE aj aB cR aE fY n;have c1:Al P w K mg ap "is_field" (3*n+2) ["thing","depth"] (dw n):=Ψ2 f1 M7 ⟨vF rf C2 c aj aB aE,qk,oH,qY⟩;have c2:Al P w K mg ap "are_fields" (3*n+3) ["thing","depth"] (dt n):=Ψ2 f2 M6 ⟨adk nC dR gE c1 aj aB aE fY,m4,lQ,nq⟩;exact Ψ2 f fd ⟨by rw[show 3*(n+1)+1=3*n+4 by lia];exact yD F eQ ia C1 c c2 aj aB cR aE,m,kp,b⟩
theorem lB(F:eG K "_law_same" "_law_same" Nq f fd)(m:mg "_law_same" = some (.ref f))(kp:W.keepIn K (.ref f)=true)(b:Binds K fd ["found","due"] [])(aj:mg "isinstance" = none)(aB:mg "tuple" = none)(aE:mg "len" = none)(fY:mg "all" = none)(rY:mg "zip" = none)(cR:mg "str" = none)(eW:mg "int" = none)(gU:mg "bool" = none):
  ∀n:Nat,Al P w K mg ap "_law_same" n ["found","due"] (OR n)
 |0=>Ψ2 f fd ⟨Kh λts Γ Z Y h=>by obtain⟨_,d,_,_,h,_⟩:=h;lia,m,kp,b⟩
 |n+1=>Ψ2 f fd ⟨aao F (lB F m kp b aj aB aE fY rY cR eW gU n) aj aB aE fY rY cR eW gU,m,kp,b⟩
theorem nP{f1:Addr}{M7:FuncData}(F:eG K "_law_is_kind" "_law_is_kind" Oz f fd)(m:mg "_law_is_kind" = some (.ref f))(kp:W.keepIn K (.ref f)=true)(b:Binds K fd ["thing","depth"] [])
  (iZ:eG K "_law_are_fields" "_law_are_fields" OK f1 M7) (iS:mg "_law_are_fields" = some (.ref f1)) (iJ:W.keepIn K (.ref f1)=true) (iX:Binds K M7 ["thing","depth"] [])
  (C1:Al P w K mg ap "_law_whole" 1 ["thing"] JF) (C2:Al P w K mg ap "_law_is_name" 1 ["thing"] IT) (aj:mg "isinstance" = none) (aB:mg "tuple" = none) (cR:mg "str" = none) (aE:mg "len" = none) :
  ∀n:Nat,Al P w K mg ap "_law_is_kind" (2*n+1) ["thing","depth"] (KQ n)
 |0=>Ψ2 f fd ⟨Kh λts Γ Z Y h=>by obtain⟨_,d,_,_,h,_⟩:=h;lia,m,kp,b⟩
 |n+1=>by
  have c:=nP F m kp b iZ iS iJ iX C1 C2 aj aB cR aE n;have c1:Al P w K mg ap "_law_are_fields" (2*n+2) ["thing","depth"] (QP n):=Ψ2 f1 M7 ⟨xu iZ C2 c aj aB aE,iS,iJ,iX⟩;exact Ψ2 f fd ⟨zC F C1 c c1 aj aB cR aE,m,kp,b⟩
theorem lO(F:eG K "_law_shown" "_law_shown" QM f fd)(m:mg "_law_shown" = some (.ref f))(kp:W.keepIn K (.ref f)=true)(b:Binds K fd ["kind"] []):
  ∀n:Nat,Al P w K mg ap "_law_shown" n ["kind"] (LJ n)
 |0=>Ψ2 f fd ⟨Kh λts Γ Z Y h=>by obtain⟨_,_,_,h,_⟩:=h;lia,m,kp,b⟩
 |n+1=>Ψ2 f fd ⟨rq F (lO F m kp b n),m,kp,b⟩
end
theorem xv:bootBuiltins "ValueError" = some (.type "ValueError"):=by decide +kernel
theorem ab8{K:W.Frag}{C:Addr}{bm:List Value}{n:String}(q:W.excIn K C bm n=true):(W.clsIn K C).isSome=true:=by
 unfold W.excIn at q;unfold W.clsIn;split at q
 ·rename_i ho
  rw[ho];rfl
 ·cases q
def Kb(b:Bool)(l:List Nat):Option T:=if b=true then Dz E5 Dx l else Dz (B0 5) (Aj 5) l
theorem t9{b:Bool}{l:List Nat}(hl:l.length≤6100)(h:Kb b l=some t):Sm 20 t∧Il t=false:=by
 unfold Kb at h;split at h
 ·rw[gJ]at h
  exact⟨zx h.2 λx y us d e2=>aq hl x y us d (by rw[h.1,e2]),?_⟩;cases t with
  |non=>cases h.2
  |_=>rfl
 ·rw[gJ]at h
  exact⟨(NK 5 t h.2).up (by lia),?_⟩;cases t with
  |non=>exact absurd (Om (d:=5) (t:=.non) rfl) (by rw[h.2];decide)
  |_=>rfl
section
variable {iL d1 d2 d3 d4 d5 d6 d7 d8 d9 d10 d11: Addr}
abbrev dy:Stmt:=Bb 66
theorem eM:B6 ["paper","signs","found","word"] ["paper","signs"] (Am dy):=⟨rfl,rfl,rfl,by decide +kernel,rfl,by decide +kernel,by decide +kernel⟩
def kB:B2:=λts Γ Z _=>∃(b:Bool) (l:List Nat),ts=[.bl b,.str (S l)]∧Fb l 6100∧(∀t,Kb b l=some t→Z (.tup [.str "told",t]) Γ)∧(Kb b l=none→Z (.tup [.str "refused",.non]) Γ)
theorem yR(F:eG K "_law_asked" "_law_asked" dy f fd)(kQ:F3 P w K mg ap "read_kind" 21 ["text"] (gX ax))(jF:F3 P w K mg ap "read_paper" 24 ["text"] (cY ax))(bT:mg "NoText" = some (.ref ax))(xbb:W.exmOne K (.ref ax) (.ref ax)=some true):bJ P w K mg ap BK 25 f fd ["paper","signs"] (B3 kB):=by
 exact Bq F eM (λts Γ Z Y h=>?_) (λcO A outer s H E ts Γ Z Y hr h=>?_)
 ·let⟨b,l,rfl,_⟩:=h
  rfl
 let⟨b,l,rfl,al,q1,q2⟩:=h;exact⟨_,(A4 (AL (i:=2) eM.nd E6)
  (A4 (AL (i:=3) eM.nd A9)
  (A4 (adg rfl rfl rfl bT (λ_ _ _ hx=>(A4 (D9 (AZ (BL (A0 0)) (A4 (AL (i:=2) eM.nd (FP jF hr hx (A3 (A0 1) A6)))
  A8) (A4 (AL (i:=2) eM.nd (FP kQ hr hx (A3 (A0 1) A6)))
  A8)))
  A8)) (λ_=>(A4 (AL (i:=3) eM.nd A9)
  A8)))
  (A4 (AQ (C0 (A3 (A0 3) (A3 (A0 2) A6))))
  A8)))),?_⟩
 simp only[B5];have ll:=al.2;left;unfold kE;left;exact Gj ?_;cases b with
 |true=>
  left;exact⟨l,rfl,by lia,al.1,aq ll,λt et=>?_,λen=>⟨xbb,?_⟩⟩
  ·left
   exact AH .refl (q1 t et)
  ·left
   exact AH .refl (q2 en)
 |false=>
  left;exact⟨l,rfl,by lia,al.1,λt et=>?_,λen=>⟨xbb,?_⟩⟩
  ·left
   exact AH .refl (q1 t et)
  ·left
   exact AH .refl (q2 en)
abbrev fO:Stmt:=Bb 67
theorem dB:B6 ["paper","signs","only","e"] ["paper","signs"] (Am fO):=⟨rfl,rfl,rfl,by decide +kernel,rfl,by decide +kernel,by decide +kernel⟩
def mK:B2:=λts Γ Z _=>∃(b:Bool) (l:List Nat),ts=[.bl b,.str (S l)]∧Fb l 6100∧Kb b l=none∧Z (.bl true) Γ
theorem aaA(F:eG K "_law_refused" "_law_refused" fO f fd)(kQ:F3 P w K mg ap "read_kind" 21 ["text"] (gX ax))(jF:F3 P w K mg ap "read_paper" 24 ["text"] (cY ax))(kK:mg "GateError" = some (.ref iL))(yi:mg "Full" = some (.ref d1))(nV:mg "NoBlock" = some (.ref d2))(qr:mg "NoDoor" = some (.ref d3))(qq:mg "NoPart" = some (.ref d4))(kJ:mg "NoPicture" = some (.ref d5))(kI:mg "NoProgram" = some (.ref d6))(qp:mg "NoRoom" = some (.ref d7))(nU:mg "NoThing" = some (.ref d8))(qo:mg "NoWord" = some (.ref d9))(mm:mg "NoWorths" = some (.ref d10))(kH:mg "WrongHand" = some (.ref d11))(xm:W.exmOne K (.ref ax) (.ref iL)=some true)(ka:W.kitAny K (.ref ax) [.ref d1,.ref d2,.ref d3,.ref d4,.ref d5,.ref d6]=some false)(kb:W.kitAny K (.ref ax) [.ref d7,.ref d8,.ref d9,.ref d10,.ref d11]=some false)(kv:W.kitOne K (.ref ax) (.type "ValueError")=some true)(ex:Fv K ax)(aj:mg "isinstance" = none)(jt:mg "ValueError" = none):bJ P w K mg ap BK 25 f fd ["paper","signs"] (B3 mK):=by
 exact Bq F dB (λts Γ Z Y h=>?_) (λcO A outer s H E ts Γ Z Y hr h=>?_)
 ·let⟨b,l,rfl,_⟩:=h
  rfl
 let⟨b,l,rfl,al,hn,q⟩:=h;exact⟨_,(A4 (AL (i:=2) dB.nd CQ)
  (A4 (ac0 (j:=3) rfl rfl rfl kK dB.nd rfl rfl (λ_ _ _ hx=>(A4 (D9 (AZ (BL (A0 0)) (A4 (D8 (FP jF hr hx (A3 (A0 1) A6)))
  A8) (A4 (D8 (FP kQ hr hx (A3 (A0 1) A6)))
  A8)))
  A8)) (λ_=>(A4 (AL (i:=2) dB.nd (BE (abE (K:=K) rfl) rfl aj O3 (A3 (A0 3) (A3 (vo rfl jt xv rfl (by decide) (by decide)) A6))))
  (A4 (D9 (AZ (BL (BE (ir (K:=K) rfl) rfl aj O3 (A3 (A0 3) (A3 (C0 (A3 (Dv rfl yi GA) (A3 (Dv rfl nV GA) (A3 (Dv rfl qr GA) (A3 (Dv rfl qq GA) (A3 (Dv rfl kJ GA) (A3 (Dv rfl kI GA) A6))))))) A6)))) (A4 (AL (i:=2) dB.nd CQ)
  A8) A8))
  (A4 (D9 (AZ (BL (BE (ir (K:=K) rfl) rfl aj O3 (A3 (A0 3) (A3 (C0 (A3 (Dv rfl qp GA) (A3 (Dv rfl nU GA) (A3 (Dv rfl qo GA) (A3 (Dv rfl mm GA) (A3 (Dv rfl kH GA) A6)))))) A6)))) (A4 (AL (i:=2) dB.nd CQ)
  A8) A8))
  A8)))))
  (A4 (AQ (A0 2))
  A8))),?_⟩
 simp only[B5];have ll:=al.2;left;exact Gj ?_;cases b with
 |true=>
  left;exact⟨l,rfl,by lia,al.1,aq ll,λt et=>?_,λen=>⟨xm,λx hx=>?_⟩⟩
  ·exact absurd (et.symm.trans hn) (by simp)
  left;exact Ψ5 x ax _ _ true ⟨rfl,rfl,ex,AP,kv,?_⟩;left;exact Gj ?_;left;exact Ψ5 x ax _ _ false ⟨rfl,rfl,ex,AP,ka,?_⟩;left;exact Gj ?_;left;exact Ψ5 x ax _ _ false ⟨rfl,rfl,ex,AP,kb,?_⟩;left;exact AH (.new hx) q
 |false=>
  left;exact⟨l,rfl,by lia,al.1,λt et=>?_,λen=>⟨xm,λx hx=>?_⟩⟩
  ·exact absurd (et.symm.trans hn) (by simp)
  left;exact Ψ5 x ax _ _ true ⟨rfl,rfl,ex,AP,kv,?_⟩;left;exact Gj ?_;left;exact Ψ5 x ax _ _ false ⟨rfl,rfl,ex,AP,ka,?_⟩;left;exact Gj ?_;left;exact Ψ5 x ax _ _ false ⟨rfl,rfl,ex,AP,kb,?_⟩;left;exact AH (.new hx) q
abbrev bj:Stmt:=Bb 68
theorem eK:B6 ["signs","paper","due","word","found"] ["signs"] (Am bj):=⟨rfl,rfl,rfl,by decide +kernel,rfl,by decide +kernel,by decide +kernel⟩
def qw:B2:=λts Γ Z _=>∃l:List Nat,ts=[.str (S l)]∧Fb l 6100∧Z (.bl true) Γ
theorem abR(F:eG K "_law_holds" "_law_holds" bj f fd)(rV:Al P w K mg ap "_law_kind_of" 14 ["signs"] qP)(qS:Al P w K mg ap "_law_paper_of" 15 ["signs"] nN)(wq:Al P w K mg ap "_law_asked" 25 ["paper","signs"] kB)(rT:Al P w K mg ap "_law_refused" 25 ["paper","signs"] mK)(mv:Al P w K mg ap "_law_same" 21 ["found","due"] (OR 21)):bJ P w K mg ap BK 26 f fd ["signs"] (B3 qw):=by
 exact Bq F eK (λts Γ Z Y h=>?_) (λcO A outer s H E ts Γ Z Y hr h=>?_)
 ·let⟨l,rfl,_⟩:=h
  rfl
 let⟨l,rfl,al,q⟩:=h;exact⟨_,(A4 (Hd G3 rfl (JG (BN (A3 CQ (A3 CQ A6)))) (Cs (i:=1) eK.nd) (A4 (AL (i:=2) eK.nd (Ak rV hr (A3 (A0 0) A6)))
  (A4 (D9 (AZ (BL (A0 1)) (A4 (AL (i:=2) eK.nd (Ak qS hr (A3 (A0 0) A6)))
  A8) A8))
  (A4 (GZ (Ak wq hr (A3 (A0 1) (A3 (A0 0) A6))) (GG (n:=2) rfl (Cj (Cs (i:=3) eK.nd) (Cj (Cs (i:=4) eK.nd) GH))))
  (A4 (AZ (PW.pt (GC (AY Jq (A0 2) E6) (HJ (PW.pt (BS (AY DS (A0 3) A9) (Ck (Bf (BL (Ak rT hr (A3 (A0 1) (A3 (A0 0) A6))))))))))) (A4 (AQ CQ)
  A8) A8)
  (A4 (AZ (PW.pt (GC (AY Qe (A0 2) E6) (HJ (PW.pt (BS (AY DS (A0 3) A9) (Ck (Bf (BL (Ak mv hr (A3 (A0 4) (A3 (A0 2) A6))))))))))) (A4 (AQ CQ)
  A8) A8)
  A8))))))
  (A4 (AQ CQ)
  A8)),?_⟩
 simp only[B5];have ll:=al.2;left;intro p1 jr;generalize e1:up _ p1 (O.lst _)=Γ1;have g1:=AX e1;have l1:=AW e1 jr;clear e1
 left;exact Ψ2 p1 _ ⟨rfl,BM g1,?_⟩;exact⟨λv4 τ Γ'=>∃(bs:List Bool) (o1 o2 o3 o4:Option T),v4=bs.map T.bl∧τ=[some (.str (S l)),o1,o2,o3,o4]∧Γ'=Γ1,Ψ5 [false,true] none none none none ⟨rfl,rfl,rfl⟩,?_,?_⟩
 ·intro τ Γ'⟨bs,o1,o2,o3,o4,er,rfl,rfl⟩
  exact⟨BM g1,?_⟩;left;exact AH l1 q
 intro x rr τ Γ'⟨bs,o1,o2,o3,o4,er,rfl,rfl⟩;cases bs with
 |nil=>cases er
 |cons b bs=>
  cases er;exact⟨BM g1,?_⟩;left;exact⟨l,rfl,by lia,al.1,?_⟩;left;exact⟨λτ Γ2=>τ=[some (.str (S l)),some (.bl b),some (eS (Kb b l)),o3,o4]∧Γ2=Γ',?_,?_⟩
  ·cases b with
   |true=>
    left;exact⟨l,rfl,by lia,?_⟩;left;exact⟨rfl,rfl⟩
   |false=>
    left;exact⟨rfl,rfl⟩
  intro τ Γ2⟨rfl,rfl⟩;left;exact Ψ2 b l ⟨rfl,al,λt et=>?_,λen=>?_⟩
  ·let⟨st,nt⟩:=t9 ll et
   rw[et];left;exact Bs nt ?_;exact Bs rfl ?_;left;exact Bv (by show(!Il t)=true;rw[nt];rfl) ?_;left;exact Ψ2 t 20 ⟨rfl,st,by decide,?_⟩;left;exact Ψ5 bs _ _ _ _ ⟨rfl,rfl,rfl⟩
  ·rw[en]
   left;exact Ψ2 b l ⟨rfl,al,en,?_⟩;left;exact Ψ5 bs _ _ _ _ ⟨rfl,rfl,rfl⟩
abbrev bU:Stmt:=Bb 69
theorem xF:B6 ["script","cell","row"] ["script"] (Am bU):=⟨rfl,rfl,rfl,by decide +kernel,rfl,by decide +kernel,by decide +kernel⟩
def iF(K:W.Frag):B2:=λts Γ Z _=>∃(a:Addr) (ns:List Int),ts=[.scr K a (ns.map T.int)]∧ns.length≤63∧∀Γ',Z (.bl true) Γ'
theorem ze(F:eG K "law" "law" bU f fd)(gM:Al P w K mg ap "_law_draws" 1 ["cell","count"] Sq)(yK:Al P w K mg ap "_law_text" 8 ["cell"] j7)(oK:Al P w K mg ap "_law_holds" 26 ["signs"] qw)(aE:mg "len" = none):bJ P w K mg ap BK 27 f fd ["script"] (B3 (iF K)):=by
 exact Bq F xF (λts Γ Z Y h=>?_) (λcO A outer s H E ts Γ Z Y hr h=>?_)
 ·let⟨a,ns,rfl,_⟩:=h
  rfl
 let⟨a,ns,rfl,V6,q⟩:=h;exact⟨_,(A4 (Hd G3 rfl (JG (AA rU (BN (A3 (BE aak rfl aE Bl (A3 (A0 0) A6)) A6)) (A0 0))) (Cs (i:=1) xF.nd) (A4 (AZ (Bf (BL (Ak oK hr (A3 (Ak yK hr (A3 (A0 1) A6)) A6)))) (A4 (AQ CQ)
  A8) A8)
  A8))
  (A4 (AL (i:=2) xF.nd (Ak gM hr (A3 (AD (AA abX (A0 0) (BN (A3 A5 A6))) A5) (A3 A5 A6))))
  (A4 (AZ (AY Hn (AA BU (AA FC (AD (A0 2) A5) A5) A5) A5) (A4 (AQ CQ)
  A8) A8)
  (A4 (AQ (Ak oK hr (A3 (AA CA (AA CA (AD (BN (A3 A9 (A3 A9 A6))) (AA BU (AA FC (AD (A0 2) A5) A5) A5)) (AA zD A9 (AA BU (AD (A0 2) A5) A5))) A9) A6)))
  A8)))),?_⟩
 simp only[B5];have sl:=E3;left;exact Ψ2 a _ ⟨rfl,?_⟩;rw[Ae];left;intro p1 jr;generalize e1:up _ p1 (O.lst _)=Γ1;have g1:=AX e1;have l1:=AW e1 jr
 left;exact Ψ4 p1 a _ _ ⟨rfl,rfl,g1,DE (CM (by rw[Ae];show 1+_≤_;lia)),?_⟩;intro p2 qz;generalize e2:up _ p2 (O.lst _)=Γ2;have g2:=AX e2;have l2:=AW e2 qz
 have g2:Γ2 p2=some (.lst (((ns.length:Int)::ns).map T.int)):=g2;generalize ((ns.length:Int)::ns)=cs at *
 left;exact Ψ2 p2 _ ⟨rfl,BM g2,?_⟩;exact⟨λv4 τ Γ'=>∃(rs:List Int) (o1:Option T),v4=rs.map T.int∧τ=[some (.scr K a (ns.map T.int)),o1,none]∧Γ'=Γ2,Ψ2 cs none ⟨rfl,rfl,rfl⟩,?_,?_⟩;rotate_left
 ·intro x rr τ Γ'⟨rs,o1,er,rfl,rfl⟩
  cases rs with
  |nil=>cases er
  |cons c rs=>
   cases er;exact⟨BM g2,?_⟩;left;exact⟨c,rfl,λl hl=>?_⟩;left;exact⟨l,rfl,⟨hl.1,by have:=hl.2;lia⟩,?_⟩;left;exact Ψ2 rs _ ⟨rfl,rfl,rfl⟩
 intro τ Γ'⟨rs,o1,er,rfl,rfl⟩;exact⟨BM g2,?_⟩;left;intro p3 Bg;generalize e3:up _ p3 (O.lst _)=Γ3;have g3:=AX e3;have l3:=AW e3 Bg
 exact Ψ4 a p3 _ _ ⟨rfl,rfl,g3,DE (CM (by rw[Ae];show _+1≤_;lia)),?_⟩;intro p4 ME;generalize e4:up _ p4 (O.lst _)=Γ4;have g4:=AX e4;have l4:=AW e4 ME
 obtain⟨c,ec⟩:∃c:Int,B7 (ns.map T.int++[T.int 0]) 0=some (.int c):=by
  cases ns with
  |nil=>exact⟨0,Ey (j:=0) rfl⟩
  |cons n r=>exact⟨n,Ey (j:=0) rfl⟩
 left;exact AU g4 ec ?_;left;exact Ψ2 c 2 ⟨rfl,by decide,?_⟩;intro p5 vO;generalize e5:up _ p5 (O.lst _)=Γ5;have g5:=AX e5;have l5:=AW e5 vO
 have a0:B7 ((Ei c 2).map T.int) 0=some (.int (Eg c 0)):=Ey (j:=0) (by rw[Ha,jz (by decide)];rfl);have a1:B7 ((Ei c 2).map T.int) 1=some (.int (Eg c 1)):=Ey (j:=1) (by rw[Ha,jz (by decide)];rfl);left;exact AR (λc1=>?_) (λc1=>?_)
 ·left
  exact AH .refl (q _)
 left;intro p6 wJ;generalize e6:up _ p6 (O.lst _)=Γ6;have g6:=AX e6;have l6:=AW e6 wJ
 obtain⟨pf,oW,UN⟩:∃pf:Str,B7 [T.str "",.str "door\x20a\x200\x20()\x20"] (Eg c 0/96%2)=some (.str pf)∧ff pf 12:=by
  have:Eg c 0/96%2=0∨Eg c 0/96%2=1:=by lia
  rcases this with e|e<;>rw[e]
  ·exact⟨_,rfl,GN (by decide +kernel)⟩
  ·exact⟨_,rfl,GN (by decide +kernel)⟩
 left;exact AU (l6 _ _ g5) a0 ?_;left;exact AU g6 oW ?_;left;exact AU (l6 _ _ g5) a1 ?_;left;have b15:0≤Eg c 1%1501∧Eg c 1%1501<1501:=⟨CK _ (by decide),Cc _ (by decide)⟩;have rl:=Lb "row\x20" (Eg c 1%1501).toNat;rw[show("row\x20" : Str).length=4 by decide +kernel]at rl;exact Ψ2 _ _ ⟨rfl,rfl,by lia,by lia,by decide +kernel,?_⟩;have ar:ff (ED "row\x20" (Eg c 1%1501).toNat) 6000:=by
  exact⟨λc hc=>?_,by rw[Br,rl];lia⟩;rw[RY]at hc;let⟨y,hy,hc⟩:=aco.mp hc;rw[(List.mem_replicate.mp hy).2]at hc;exact(GN (z := "row\x20") (n:=4) (by decide +kernel)).1 c hc
 have Ws:ff "text" 4:=GN (by decide +kernel);exact Ψ2 _ _ ⟨rfl,rfl,by have:=UN.len;have:=ar.len;lia,?_⟩;left;exact Ψ2 _ _ ⟨rfl,rfl,by have:=(UN.app ar).len;have:=Ws.len;lia,?_⟩;left;have az:=(UN.app ar).app Ws;generalize pf++ED "row\x20" (Eg c 1%1501).toNat ++ "text" = zz at *
 exact⟨zz.cps.toList,by rw[Ep],⟨az.1,by have:=az.2;lia⟩,?_⟩;left;exact AH .refl (q _)
end
def Oq(K:W.Frag):Dc:=λvs H Q _=>∃(a:Addr) (ns:List Int),vs=[.ref a]∧Oi H∧jK K H a (ns.map V.int)∧ns.length≤63∧∀H',Q (.bl true) H'
theorem pk{H:A7}:∀ns:List Int,Rs H (ns.map V.int) (ns.map T.int)
 |[]=>F1
 |n::r=>Ez E0 (pk r)
theorem tK{K:W.Frag}(vs:List V)(H:A7)(Q:Ar)(E:BG)(h:Oq K vs H Q E):B3 (iF K) vs H Q E:=by
 let⟨a,ns,rfl,hO,hS,V6,q⟩:=h;have sc:IM K H a (ns.map V.int):=by
  rcases hS with(h|⟨o,h⟩)|h
  ·rcases hO a with z|⟨o,xs,z⟩
   ·rw[h]at z;cases z
   ·rw[h]at z;cases z
  ·exact .inl ⟨o,h⟩
  ·exact .inr h
 exact Ψ4 [.scr K a (ns.map T.int)] (λ_=>none) (λx _=>x=.bl true) (λ_ _=>False) ⟨Ez (zQ sc (pk ns)) F1,λ_ _ h=>(nomatch h),Ψ2 a ns ⟨rfl,V6,λ_=>rfl⟩,λv x H' Γ' _ _ r z=>?_,λ_ _ _ _ _ z=>z.elim⟩;subst z;rw[Hi r];exact q H'
theorem all_mk{l:W.OpenLaw}{w:World}{K:W.Frag}{h:Heap}{mg:KK}{fa f3 f4 f5 f6 f7 f8 f9 ZS ZR ZQ ZP ZO ZN ZM ZL ZK ZJ ZI ZH ZG ZF ZE ZD ZC ZA Zz Zy Zx Zw Zv Zu Zt Zr Zq Zp Zo Zn Zl Zk Zj Zi:Addr}{g1 g2 g3 g4 g5 g6 g7 g8 g9 zX Bo HW MZ Uw Zb Za Y9 Y8 Y7 Y6 Y5 Y4 Ql Y3 Y2 Y1 YZ YY YX YW YV YU YT YS YR YQ YO YN YM YL YK YJ V9:FuncData}(X:K.In h)(G:h.Ns mainGlobals mg)(Ym:mg "law" = some (.ref fa))
  (d1:Dg K "is_whole" W4 f1 g1) (d2:Dg K "is_name" eA f2 g2) (d3:Dg K "is_kind" bB f3 g3) (d4:Dg K "is_kind_within" Q2 f4 g4) (d5:Dg K "are_fields" OQ f5 g5) (d6:Dg K "is_field" PL f6 g6) (d7:Dg K "is_paper" dS f7 g7) (d8:Dg K "is_side" U1 f8 g8) (d9:Dg K "are_places" aT f9 g9) (d10:Dg K "is_place" Tu ZS zX) (d11:Dg K "read_kind" cu ZR Bo) (d12:Dg K "read_paper" dJ ZQ HW) (d13:Dg K "kind_in" QQ ZP MZ) (d14:Dg K "field_in" Rc ZO Uw) (d15:Dg K "paper_in" cg ZN Zb) (d16:Dg K "places_in" XK ZM Za) (d17:Dg K "place_in" aA ZL Y9) (d18:Dg K "_law_draws" Vv ZK Y8) (d19:Dg K "_law_word" aG ZJ Y7) (d20:Dg K "_law_names" eP ZI Y6) (d21:Dg K "_law_fields" SE ZH Y5) (d22:Dg K "_law_kind" bY ZG Y4) (d23:Dg K "_law_paper" U2 ZF Ql) (d24:Dg K "_law_shown" QM ZE Y3) (d25:Dg K "_law_same" Nq ZD Y2) (d26:Dg K "_law_whole" Wk ZC Y1) (d27:Dg K "_law_is_name" TA ZA YZ) (d28:Dg K "_law_are_fields" OK Zz YY) (d29:Dg K "_law_is_kind" Oz Zy YX) (d30:Dg K "_law_is_paper" Vj Zx YW) (d31:Dg K "_law_paper_shown" S3 Zw YV) (d32:Dg K "_law_words" fh Zv YU) (d33:Dg K "_law_kind_in" QB Zu YT) (d34:Dg K "_law_kind_of" fB Zt YS) (d35:Dg K "_law_paper_of" eC Zr YR) (d36:Dg K "_law_odd" SN Zq YQ) (d37:Dg K "_law_other_word" cD Zp YO) (d38:Dg K "_law_changed" fT Zo YN) (d39:Dg K "_law_text" gu Zn YM) (d40:Dg K "_law_asked" dy Zl YL) (d41:Dg K "_law_refused" fO Zk YK) (d42:Dg K "_law_holds" bj Zj YJ) (d43:Dg K "law" bU Zi V9)
  (zs:Zs K ["len","max","min","range","tuple","isinstance","int","bool","list","str","all","zip","ValueError"])
  {u1:Value} (gk1:W.nsIn K mainGlobals "LETTERS" = some (some u1)) (q1:RelV (.str yP) u1)
  {u2:Value} (gk2:W.nsIn K mainGlobals "LONGEST_NAME" = some (some u2)) (q2:RelV (.int 8) u2)
  {u3:Value} (gk3:W.nsIn K mainGlobals "WIDEST_NUM" = some (some u3)) (q3:RelV (.int 4) u3)
  {u4:Value} (gk4:W.nsIn K mainGlobals "MOST_FIELDS" = some (some u4)) (q4:RelV (.int 6) u4)
  {u5:Value} (gk5:W.nsIn K mainGlobals "DEEPEST_KIND" = some (some u5)) (q5:RelV (.int 5) u5)
  {u6:Value} (gk6:W.nsIn K mainGlobals "FIGURES" = some (some u6)) (q6:RelV (.str Bp) u6)
  {iL:Addr} (gcGateError:W.nsIn K mainGlobals "GateError" = some (some (.ref iL)))
  {ax:Addr} (gcNoText:W.nsIn K mainGlobals "NoText" = some (some (.ref ax)))
  {J6:Addr} (gcFull:W.nsIn K mainGlobals "Full" = some (some (.ref J6)))
  {wx:Addr} (gcNoBlock:W.nsIn K mainGlobals "NoBlock" = some (some (.ref wx)))
  {Aq:Addr} (gcNoDoor:W.nsIn K mainGlobals "NoDoor" = some (some (.ref Aq)))
  {Ap:Addr} (gcNoPart:W.nsIn K mainGlobals "NoPart" = some (some (.ref Ap)))
  {qX:Addr} (gcNoPicture:W.nsIn K mainGlobals "NoPicture" = some (some (.ref qX)))
  {qW:Addr} (gcNoProgram:W.nsIn K mainGlobals "NoProgram" = some (some (.ref qW)))
  {Ao:Addr} (gcNoRoom:W.nsIn K mainGlobals "NoRoom" = some (some (.ref Ao)))
  {wu:Addr} (gcNoThing:W.nsIn K mainGlobals "NoThing" = some (some (.ref wu)))
  {An:Addr} (gcNoWord:W.nsIn K mainGlobals "NoWord" = some (some (.ref An)))
  {sX:Addr} (gcNoWorths:W.nsIn K mainGlobals "NoWorths" = some (some (.ref sX)))
  {qV:Addr} (gcWrongHand:W.nsIn K mainGlobals "WrongHand" = some (some (.ref qV)))
  {bI:Addr} (gcWriting:W.nsIn K mainGlobals "Writing" = some (some (.ref bI)))
  (xNoText:W.excIn K ax [.type "ValueError",.type "Exception",.type "BaseException",.type "object"] "ValueError.__new__" = true)
  (xm:W.exmOne K (.ref ax) (.ref iL)=some true)
  (ka:W.kitAny K (.ref ax) [.ref J6,.ref wx,.ref Aq,.ref Ap,.ref qX,.ref qW]=some false)
  (kb:W.kitAny K (.ref ax) [.ref Ao,.ref wu,.ref An,.ref sX,.ref qV]=some false)
  (kn:W.kitOne K (.ref ax) (.ref ax)=some true)
  (kv:W.kitOne K (.ref ax) (.type "ValueError")=some true)
  (e1:W.findIn K (.ref ax) "__getattribute__" = some (some (.builtin "BaseException.__getattribute__")))
  (e2:W.findIn K (.ref ax) "__getattr__" = some none)
  (e3:W.findIn K (.ref ax) "__class__" = some (some (.builtin "object.__class__")))
  (e4:W.specialIn K (.builtin "object.__class__") "__get__" = some (some (.builtin "getset_descriptor.__get__")))
  (e5:W.takesIn K (.builtin "object.__class__")=some true)
  (e6:W.mroIn K ax (.type "object")=some true)
  (e7:W.mroIn K ax (.type "BaseException")=some true)
  (xbb:W.exmOne K (.ref ax) (.ref ax)=some true)
  {yQ:Addr} (gSIDES:W.nsIn K mainGlobals "SIDES" = some (some (.ref yQ))) {Hy:Option Addr} {ur:Array Value} {HA:Nat} {Gw:Array (Option Value)} (klSIDES:K.lookup yQ=some ⟨.type "tuple",Hy,.seq ur HA,Gw⟩) (kzSIDES:ur.size≤sizeLine) (kvSIDES:Vals [.int 0,.int 1] ur.toList)
  {FL:Addr} (gWAYS:W.nsIn K mainGlobals "WAYS" = some (some (.ref FL))) {Mf:Option Addr} {yq:Array Value} {Mh:Nat} {Lh:Array (Option Value)} (klWAYS:K.lookup FL=some ⟨.type "tuple",Mf,.seq yq Mh,Lh⟩) (kzWAYS:yq.size≤sizeLine) (kvWAYS:Vals (gY.map V.str) yq.toList)
  {Wa:Addr} {YE:FuncData} (dm1:K9 K bI "__init__" "Writing.__init__" aC Wa YE)
  {Zh:Addr} {Qh:FuncData} (dm2:K9 K bI "is_over" "Writing.is_over" Wj Zh Qh)
  {Zg:Addr} {YD:FuncData} (dm3:K9 K bI "sees" "Writing.sees" SR Zg YD)
  {Zf:Addr} {YC:FuncData} (dm4:K9 K bI "skip" "Writing.skip" Wn Zf YC)
  {Ze:Addr} {YB:FuncData} (dm5:K9 K bI "word" "Writing.word" fb Ze YB)
  {Zd:Addr} {JT:FuncData} (dm6:K9 K bI "figure" "Writing.figure" Xa Zd JT)
  (pgWriting:W.plainGet K bI Str.empty=true) (hdWriting:W.hasDictIn K bI=true) (poWriting:W.plainOver K bI=true) (saWriting:W.findIn K (.ref bI) "__setattr__" = some (some (.builtin "object.__setattr__"))) (mkWriting:W.makesIn K bI=true) (keWriting:W.keepIn K (.ref bI)=true)
  (naWriting_text:W.findIn K (.ref bI) "text" = some none)
  (naWriting_at:W.findIn K (.ref bI) "at" = some none)
  :
  ∃fd:FuncData,(∀(s:Shared) (v:Value),BindsTo s fd ⟨[v],[]⟩ [("script",v)])∧∀ap:Heap,K.In ap→ap.Ns mainGlobals mg→bJ l.prog w K mg ap BK 27 fa fd ["script"] (Oq K):=by
 have d1:=d1.df (ps:=["thing"]) X G λ_ _ _ _ _ _=>L3.mE (λ_=>rfl);have d2:=d2.df (ps:=["thing"]) X G λ_ _ _ _ _ _=>L3.mE (λ_=>rfl);have d3:=d3.df (ps:=["thing"]) X G λ_ _ _ _ _ _=>L3.mE (λ_=>rfl);have d4:=d4.df (ps:=["thing","depth"]) X G λ_ _ _ _ _ _=>L3.wY (λ_ _=>rfl);have d5:=d5.df (ps:=["thing","depth"]) X G λ_ _ _ _ _ _=>L3.wY (λ_ _=>rfl);have d6:=d6.df (ps:=["thing","depth"]) X G λ_ _ _ _ _ _=>L3.wY (λ_ _=>rfl);have d7:=d7.df (ps:=["thing"]) X G λ_ _ _ _ _ _=>L3.mE (λ_=>rfl);have d8:=d8.df (ps:=["thing"]) X G λ_ _ _ _ _ _=>L3.mE (λ_=>rfl);have d9:=d9.df (ps:=["thing"]) X G λ_ _ _ _ _ _=>L3.mE (λ_=>rfl);have d10:=d10.df (ps:=["thing"]) X G λ_ _ _ _ _ _=>L3.mE (λ_=>rfl);have d11:=d11.df (ps:=["text"]) X G λ_ _ _ _ _ _=>L3.mE (λ_=>rfl);have d12:=d12.df (ps:=["text"]) X G λ_ _ _ _ _ _=>L3.mE (λ_=>rfl);have d13:=d13.df (ps:=["writing","depth"]) X G λ_ _ _ _ _ _=>L3.wY (λ_ _=>rfl);have d14:=d14.df (ps:=["writing","depth"]) X G λ_ _ _ _ _ _=>L3.wY (λ_ _=>rfl);have d15:=d15.df (ps:=["writing"]) X G λ_ _ _ _ _ _=>L3.mE (λ_=>rfl);have d16:=d16.df (ps:=["writing"]) X G λ_ _ _ _ _ _=>L3.mE (λ_=>rfl);have d17:=d17.df (ps:=["writing"]) X G λ_ _ _ _ _ _=>L3.mE (λ_=>rfl);have d18:=d18.df (ps:=["cell","count"]) X G λ_ _ _ _ _ _=>L3.wY (λ_ _=>rfl);have d19:=d19.df (ps:=["numbers"]) X G λ_ _ _ _ _ _=>L3.mE (λ_=>rfl);have d20:=d20.df (ps:=["row"]) X G λ_ _ _ _ _ _=>L3.mE (λ_=>rfl);have d21:=d21.df (ps:=["kinds","names","number"]) X G λ_ _ _ _ _ _=>L3.Ra (λ_ _ _=>rfl);have d22:=d22.df (ps:=["row","names","deepest"]) X G λ_ _ _ _ _ _=>L3.Ra (λ_ _ _=>rfl);have d23:=d23.df (ps:=["row","names","deepest"]) X G λ_ _ _ _ _ _=>L3.Ra (λ_ _ _=>rfl);have d24:=d24.df (ps:=["kind"]) X G λ_ _ _ _ _ _=>L3.mE (λ_=>rfl);have d25:=d25.df (ps:=["found","due"]) X G λ_ _ _ _ _ _=>L3.wY (λ_ _=>rfl);have d26:=d26.df (ps:=["thing"]) X G λ_ _ _ _ _ _=>L3.mE (λ_=>rfl);have d27:=d27.df (ps:=["thing"]) X G λ_ _ _ _ _ _=>L3.mE (λ_=>rfl);have d28:=d28.df (ps:=["thing","depth"]) X G λ_ _ _ _ _ _=>L3.wY (λ_ _=>rfl);have d29:=d29.df (ps:=["thing","depth"]) X G λ_ _ _ _ _ _=>L3.wY (λ_ _=>rfl);have d30:=d30.df (ps:=["thing"]) X G λ_ _ _ _ _ _=>L3.mE (λ_=>rfl);have d31:=d31.df (ps:=["paper"]) X G λ_ _ _ _ _ _=>L3.mE (λ_=>rfl);have d32:=d32.df (ps:=["signs"]) X G λ_ _ _ _ _ _=>L3.mE (λ_=>rfl);have d33:=d33.df (ps:=["words","at","depth"]) X G λ_ _ _ _ _ _=>L3.Ra (λ_ _ _=>rfl);have d34:=d34.df (ps:=["signs"]) X G λ_ _ _ _ _ _=>L3.mE (λ_=>rfl);have d35:=d35.df (ps:=["signs"]) X G λ_ _ _ _ _ _=>L3.mE (λ_=>rfl);have d36:=d36.df (ps:=["number"]) X G λ_ _ _ _ _ _=>L3.mE (λ_=>rfl);have d37:=d37.df (ps:=["number"]) X G λ_ _ _ _ _ _=>L3.mE (λ_=>rfl);have d38:=d38.df (ps:=["signs","s"]) X G λ_ _ _ _ _ _=>L3.wY (λ_ _=>rfl);have d39:=d39.df (ps:=["cell"]) X G λ_ _ _ _ _ _=>L3.mE (λ_=>rfl);have d40:=d40.df (ps:=["paper","signs"]) X G λ_ _ _ _ _ _=>L3.wY (λ_ _=>rfl);have d41:=d41.df (ps:=["paper","signs"]) X G λ_ _ _ _ _ _=>L3.wY (λ_ _=>rfl);have d42:=d42.df (ps:=["signs"]) X G λ_ _ _ _ _ _=>L3.mE (λ_=>rfl);have d43:=d43.df (ps:=["script"]) X G λ_ _ _ _ _ _=>L3.mE (λ_=>rfl);have e:=Ym.symm.trans d43.m;cases e;obtain⟨aE,yZ,yY,eI,aB,aj,eW,gU,wO,cR,fY,rY,jt,_⟩:=zs.m X G;exact⟨V9,λs v=>?_,λap _ _=>?_⟩
 ·let⟨_,_,_,_,_,_,_,_,_,rfl,_⟩:=d43.F.ex
  exact .of_eq rfl
 have ig:=Ds X G gk1;have iI:=Ds X G gk2;have eQ:=Ds X G gk3;have dR:=Ds X G gk4;have bF:=Ds X G gk5;have nW:=Ds X G gk6;have kK:=Ds X G gcGateError;have bT:=Ds X G gcNoText;have yi:=Ds X G gcFull;have nV:=Ds X G gcNoBlock;have qr:=Ds X G gcNoDoor;have qq:=Ds X G gcNoPart;have kJ:=Ds X G gcNoPicture;have kI:=Ds X G gcNoProgram;have qp:=Ds X G gcNoRoom;have nU:=Ds X G gcNoThing;have qo:=Ds X G gcNoWord;have mm:=Ds X G gcNoWorths;have kH:=Ds X G gcWrongHand;have ie:=Ds X G gcWriting;have WA:=dm1.F;have Z9:=WA.binds (ps:=["self","text"]) λ_ _ _ _ _ _=>L3.wY (λ_ _=>rfl);have mt1:=dm1.t;have Wz:=dm2.F;have Z8:=Wz.binds (ps:=["self"]) λ_ _ _ _ _ _=>L3.mE (λ_=>rfl);have Ta:=dm2.t;have Wy:=dm3.F;have Z7:=Wy.binds (ps:=["self","piece"]) λ_ _ _ _ _ _=>L3.wY (λ_ _=>rfl);have Xx:=dm3.t;have Ww:=dm4.F;have Z6:=Ww.binds (ps:=["self","piece"]) λ_ _ _ _ _ _=>L3.wY (λ_ _=>rfl);have Xw:=dm4.t;have Wv:=dm5.F;have Z5:=Wv.binds (ps:=["self"]) λ_ _ _ _ _ _=>L3.mE (λ_=>rfl);have Xv:=dm5.t;have Wu:=dm6.F;have Z4:=Wu.binds (ps:=["self"]) λ_ _ _ _ _ _=>L3.mE (λ_=>rfl);have Xu:=dm6.t;have aD:rB K bI:=⟨pgWriting,hdWriting,poWriting,saWriting⟩;have yd:Oy K bI Wa:=⟨mkWriting,dm1.t.1,dm1.t.2,keWriting⟩;have aR:da K bI "text" := naWriting_text;have aQ:da K bI "at" := naWriting_at;have ug:=Ds X G gSIDES;have uo:yT K yQ [.int 0,.int 1]:=Ψ3 _ _ _ ⟨klSIDES,rfl,rfl,kzSIDES,kvSIDES⟩;have yh:=Ds X G gWAYS;have yp:yT K FL (gY.map V.str):=Ψ3 _ _ _ ⟨klWAYS,rfl,rfl,kzWAYS,kvWAYS⟩;have ex:Fv K ax:=⟨e1,e2,e3,e4,e5,e6,e7,ab8 xNoText⟩;have WL:=d18.cl (wV (P:=l.prog) (w:=w) (ap:=ap) d18.F eI);have C1:=d1.cl (acW (P:=l.prog) (w:=w) (ap:=ap) d1.F aj eW gU);have C2:=d2.cl (se (P:=l.prog) (w:=w) (ap:=ap) d2.F iI (gl_int q2) ig (gl_str q1) aj cR aE fY);have C8:=d8.cl (aad (P:=l.prog) (w:=w) (ap:=ap) d8.F C1 ug uo);have WC:RX l.prog w K mg ap bI _ _ _:=Ψ2 _ _ ⟨aaJ WA aD aR aQ,yd,Z9⟩;have U4:Eh l.prog w K mg ap bI "is_over" _ _ _:=Ψ2 _ _ ⟨ue Wz aD aR aQ aE,aD,Ta,Z8⟩;have Sd:Eh l.prog w K mg ap bI "sees" _ _ _:=Ψ2 _ _ ⟨acF Wy aD aR aQ aE,aD,Xx,Z7⟩;have Sb:GK l.prog w K mg ap bI "skip" _ _ _:=Ψ2 _ _ ⟨zI Ww Sd bT xNoText,aD,Xw,Z6⟩;have U3:Eh l.prog w K mg ap bI "word" _ _ _:=Ψ2 _ _ ⟨vk Wv aD aR aQ ig (gl_str q1) aE,aD,Xv,Z5⟩;have WB:GK l.prog w K mg ap bI "figure" _ _ _:=Ψ2 _ _ ⟨vt Wu U4 aD aR aQ nW (gl_str q6) bT xNoText eW,aD,Xu,Z4⟩;have U6:=kind_all (P:=l.prog) (w:=w) (ap:=ap) d13.F d13.m d13.k d13.b d14.F d14.m d14.k d14.b U3 Sb Sd WB bT xNoText aB 6;have C17:=d17.cx (sy (P:=l.prog) (w:=w) (ap:=ap) d17.F U3 Sb U6 bF (gl_int q5));have C16:=d16.cx (abu (P:=l.prog) (w:=w) (ap:=ap) d16.F Sb Sd C17 aB);have C15:=d15.cx (abF (P:=l.prog) (w:=w) (ap:=ap) d15.F U3 Sb Sd WB C16 U6 bF (gl_int q5));have WE:=d32.cl (ym (P:=l.prog) (w:=w) (ap:=ap) d32.F aE);have WD:=oz (P:=l.prog) (w:=w) (ap:=ap) d33.F d33.m d33.k d33.b aE aB 7;have WJ:=d26.cl (zj (P:=l.prog) (w:=w) (ap:=ap) d26.F aj eW gU);have WI:=d27.cl (abA (P:=l.prog) (w:=w) (ap:=ap) d27.F aj cR aE);have C19:=d19.cl (acD (P:=l.prog) (w:=w) (ap:=ap) d19.F);have C20:=d20.cl (ab5 (P:=l.prog) (w:=w) (ap:=ap) d20.F C19 aE eI);have C21:=d21.cl (aay (P:=l.prog) (w:=w) (ap:=ap) d21.F wO aE aB);have WK:=d22.cl (aa5 (P:=l.prog) (w:=w) (ap:=ap) d22.F C21 aE eI yY yZ eW);have C23:=d23.cl (abd (P:=l.prog) (w:=w) (ap:=ap) d23.F WK eI aB);have C36:=d36.cl (aby (P:=l.prog) (w:=w) (ap:=ap) d36.F aE);have C37:=d37.cl (wa (P:=l.prog) (w:=w) (ap:=ap) d37.F aE);have C38:=d38.cl (wQ (P:=l.prog) (w:=w) (ap:=ap) d38.F C36 C37 aE eW);have C4:=nv (P:=l.prog) (w:=w) (ap:=ap) d4.F d4.m d4.k d4.b d6.F d6.m d6.k d6.b d5.F d5.m d5.k d5.b C1 C2 eQ (gl_int q3) dR (gl_int q4) aj aB cR aE fY 6;have C25:=lB (P:=l.prog) (w:=w) (ap:=ap) d25.F d25.m d25.k d25.b aj aB aE fY rY cR eW gU 21;have WH:=nP (P:=l.prog) (w:=w) (ap:=ap) d29.F d29.m d29.k d29.b d28.F d28.m d28.k d28.b WJ WI aj aB cR aE 6;have U5:=lO (P:=l.prog) (w:=w) (ap:=ap) d24.F d24.m d24.k d24.b 6;have CC:=d3.cl (wG (P:=l.prog) (w:=w) (ap:=ap) d3.F bF (gl_int q5) C4);have C10:=d10.cl (y6 (P:=l.prog) (w:=w) (ap:=ap) d10.F C2 CC yh yp aj aB cR aE);have C9:=d9.cl (aaY (P:=l.prog) (w:=w) (ap:=ap) d9.F C10 aj aB aE fY);have C7:=d7.cl (zb (P:=l.prog) (w:=w) (ap:=ap) d7.F C2 C8 C9 CC aj aB aE);have WN:=d11.cx (aaR (P:=l.prog) (w:=w) (ap:=ap) d11.F ie WC U4 U6 CC bF (gl_int q5) bT xNoText);have WM:=d12.cx (tj (P:=l.prog) (w:=w) (ap:=ap) d12.F ie WC U4 C15 C7 bT xNoText);have C30:=d30.cl (uG (P:=l.prog) (w:=w) (ap:=ap) d30.F WI WJ WH aj aB cR aE);have WG:=d31.cl (vY (P:=l.prog) (w:=w) (ap:=ap) d31.F U5);have C34:=d34.cl (vD (P:=l.prog) (w:=w) (ap:=ap) d34.F WE WD WH U5);have C35:=d35.cl (tf (P:=l.prog) (w:=w) (ap:=ap) d35.F WE WD C30 WG aB);have C39:=d39.cl (xh (P:=l.prog) (w:=w) (ap:=ap) d39.F WL C20 U5 WK WG C23 C38);have C40:=d40.cl (yR (P:=l.prog) (w:=w) (ap:=ap) d40.F WN WM bT xbb);have C41:=d41.cl (aaA (P:=l.prog) (w:=w) (ap:=ap) d41.F WN WM kK yi nV qr qq kJ kI qp nU qo mm kH xm ka kb kv ex aj jt);have C42:=d42.cl (abR (P:=l.prog) (w:=w) (ap:=ap) d42.F C34 C35 C40 C41 C25);exact(ze d43.F WL C39 C42 aE).imp tK
theorem walk{l:W.OpenLaw}{q:Program}{loose:List Str}{XP:(KK)→Heap→Prop}{YP:World→Heap→Prop}{d:DefRec}{K:Params→W.Frag}(hn:l.most=some 63)(P9:d.params.defaults=[])
  (hY:∀(w:World) (h:Heap),YP w h→(K w.params).In h)
  (F:∀(w:World) (mg:KK) (fa:Addr) (h:Heap),(K w.params).In h→h.Ns mainGlobals mg→mg d.name=some (.ref fa)→
   ∃fd:FuncData,(∀(s:Shared) (u:Value),BindsTo s fd ⟨[u],[]⟩ [("script",u)])∧∀ap:Heap,(K w.params).In ap→ap.Ns mainGlobals mg→bJ l.prog w (K w.params) mg ap BK 27 fa fd ["script"] (Oq (K w.params))) :
  W.WalkO q loose XP YP l.row.toRowW d [] (λf vs=>PySem.call f vs):=
 L2.Gb (n:=63) (k:=27) (x := "script") (CX:=λ_=>BK) (sp:=λw=>Oq (K w.params)) hn (by decide) P9 ⟨rfl,by decide,by decide⟩ hY F (λ_ _ a ns hl hO hS=>Ψ2 a ns ⟨rfl,hO,hS,hl,λ_=>rfl⟩) λ_ _ _ _ _ z=>z
end Tg
open PySem PySem.W PyProof.Rows
def PySem.W.Fast.tw6997935831670259519:Unit:=()
def PySem.W.Fast.tw8437607233174335829:Unit:=()
def PySem.W.Fast.tw5454427722929256011:Unit:=()
def PySem.W.Fast.tw4183990516154189770:Unit:=()
def PySem.W.Fast.tw6163801750551229728:Unit:=()
def PySem.W.Fast.tw3864946175111768529:Unit:=()
def PySem.W.Fast.tw5361284979919967328:Unit:=()
def PySem.W.Fast.tw16415467998898004559:Unit:=()
def PySem.W.Fast.tw10441832593905261274:Unit:=()
def PySem.W.Fast.tw12580638378196776869:Unit:=()
def PySem.W.Fast.tw9632683603589913919:Unit:=()
def PySem.W.Fast.tw7176501635359205302:Unit:=()
def PySem.W.Fast.tw10704049091785893993:Unit:=()
def PySem.W.Fast.tw16705451386898564486:Unit:=()
def PySem.W.Fast.tw7819371086561182774:Unit:=()
def PySem.W.Fast.tw1555886687115842206:Unit:=()
def PySem.W.Fast.tw14330421658334050579:Unit:=()
def PySem.W.Fast.tw13480526975284520459:Unit:=()
def PySem.W.Fast.tw5915455846500086554:Unit:=()
def PySem.W.Fast.tw16371071686380042854:Unit:=()
def PySem.W.Fast.tw17605571684961261102:Unit:=()
def PySem.W.Fast.tw16982756753928252498:Unit:=()
def PySem.W.Fast.tw11643307170687997507:Unit:=()
def PySem.W.Fast.tw6801295001283619760:Unit:=()
def PySem.W.Fast.tw4691989753406701664:Unit:=()
def PySem.W.Fast.tw12884940876314604067:Unit:=()
def PySem.W.Fast.tw15415875205499977620:Unit:=()
def PySem.W.Fast.tw5398688713493947614:Unit:=()
def PySem.W.Fast.tw1745917616659706451:Unit:=()
def PySem.W.Fast.tw1840719486551391767:Unit:=()
def PySem.W.Fast.tw2074332740412872527:Unit:=()
def PySem.W.Fast.tw17171125271085658371:Unit:=()
def PySem.W.Fast.tw213281199790437772:Unit:=()
def PySem.W.Fast.tw5456852728187342516:Unit:=()
def PySem.W.Fast.tw7793864873923324851:Unit:=()
def PySem.W.Fast.tw11639701063656953938:Unit:=()
def PySem.W.Fast.tw6199383047878919000:Unit:=()
def PySem.W.Fast.tw6337504396246267397:Unit:=()
def PySem.W.Fast.tw17462540270858061102:Unit:=()
def PySem.W.Fast.tw5582867333837330538:Unit:=()
def PySem.W.Fast.tw5249011640937454989:Unit:=()
def PySem.W.Fast.tw17674737682191619573:Unit:=()
def PySem.W.Fast.tw1530076518394597526:Unit:=()
def PySem.W.Fast.tw1370027328589033091:Unit:=()
def PySem.W.Fast.tw2892581360586072430:Unit:=()
def PySem.W.Fast.tw9224312641804647740:Unit:=()
def PySem.W.Fast.tw10004536498878172992:Unit:=()
def PySem.W.Fast.tw15829049175572834770:Unit:=()
def PySem.W.Fast.tw4354042957817181612:Unit:=()
def PySem.W.Fast.tw12450660450994460861:Unit:=()
def PySem.W.Fast.tw15338658993410272251:Unit:=()
def PySem.W.Fast.tw7412943233199551439:Unit:=()
def PySem.W.Fast.tw11087652980985501464:Unit:=()
def PySem.W.Fast.tw15944766636244819782:Unit:=()
def PySem.W.Fast.tw11684476987072017994:Unit:=()
def PySem.W.Fast.tw6907639638430826787:Unit:=()
def PySem.W.Fast.tw6884071259690903455:Unit:=()
def PySem.W.Fast.tw9323035672456537553:Unit:=()
def PySem.W.Fast.tw3167978700847611524:Unit:=()
def PySem.W.Fast.tw10095320920641152101:Unit:=()
def PySem.W.Fast.tw15503818009690647749:Unit:=()
def PySem.W.Fast.tw16469548437475500908:Unit:=()
def PySem.W.Fast.tw2353798990546240305:Unit:=()
def PySem.W.Fast.tw16864398501958505096:Unit:=()
def PySem.W.Fast.tw2455492291603872542:Unit:=()
def PySem.W.Fast.tw12487101584375729505:Unit:=()
def PySem.W.Fast.tw4747546932547833613:Unit:=()
def PySem.W.Fast.tw2393140658046587761:Unit:=()
def PySem.W.Fast.tw11489941757535180785:Unit:=()
def PySem.W.Fast.tw14345365467469257779:Unit:=()
def PySem.W.Fast.tw4709213803496351614:Unit:=()
def PySem.W.Fast.tw17108414607516087009:Unit:=()
def PySem.W.Fast.tw13232462712723093782:Unit:=()
def PySem.W.Fast.tw1782234400310102993:Unit:=()
def PySem.W.Fast.tw5370567971333168277:Unit:=()
def PySem.W.Fast.tw2392633883759704618:Unit:=()
def PySem.W.Fast.tw2121654621536959439:Unit:=()
def PySem.W.Fast.tw4330305587999404642:Unit:=()
def PySem.W.Fast.tw2682226560172891880:Unit:=()
def PySem.W.Fast.tw8890780342454585147:Unit:=()
def PySem.W.Fast.tw7638902390909255349:Unit:=()
def PySem.W.Fast.tw6321084539395540948:Unit:=()
def PySem.W.Fast.tw3919172083453062636:Unit:=()
def PySem.W.Fast.tw13718202870739861531:Unit:=()
def PySem.W.Fast.tw7055873595432720863:Unit:=()
def PySem.W.Fast.tw17410982678235381488:Unit:=()
def PySem.W.Fast.tw3030722013549901366:Unit:=()
def PySem.W.Fast.tw9789702535309531609:Unit:=()
def PySem.W.Fast.tw16768074389258900623:Unit:=()
def PySem.W.Fast.tw9187769409335555620:Unit:=()
def PySem.W.Fast.tw8071448317665588417:Unit:=()
def PySem.W.Fast.tw12647265632684010114:Unit:=()
def PySem.W.Fast.tw8032010261531446403:Unit:=()
def PySem.W.Fast.tw10108284280500820259:Unit:=()
def PySem.W.Fast.tw10750180838810677699:Unit:=()
def PySem.W.Fast.tw13739087975022619812:Unit:=()
def PySem.W.Fast.tw9036763623560765988:Unit:=()
def PySem.W.Fast.tw3483321279507707685:Unit:=()
def PySem.W.Fast.tw9723134585717317672:Unit:=()
def PySem.W.Fast.tw14643135104939634888:Unit:=()
def PySem.W.Fast.tw17148651988223673096:Unit:=()
def PySem.W.Fast.tw17990754251811571721:Unit:=()
def PySem.W.Fast.tw17768021704561213321:Unit:=()
def PySem.W.Fast.tw9380418552227717033:Unit:=()
def PySem.W.Fast.tw16884227510588226826:Unit:=()
def PySem.W.Fast.tw9787482004071224010:Unit:=()
def PySem.W.Fast.tw5472504854740176682:Unit:=()
def PySem.W.Fast.tw14574806982320243755:Unit:=()
def PySem.W.Fast.tw16814789509563024107:Unit:=()
def PySem.W.Fast.tw1629630541411557037:Unit:=()
def PySem.W.Fast.tw14772710914449179086:Unit:=()
def PySem.W.Fast.tw4801809267255865167:Unit:=()
def PySem.W.Fast.tw9116557973370266864:Unit:=()
def PySem.W.Fast.tw5135769440387202448:Unit:=()
def PySem.W.Fast.tw2059677776948618096:Unit:=()
def PySem.W.Fast.tw15991595569484184528:Unit:=()
def PySem.W.Fast.tw7711512092478102513:Unit:=()
def PySem.W.Fast.tw16870489756419127731:Unit:=()
def PySem.W.Fast.tw6835155576635108532:Unit:=()
def PySem.W.Fast.tw6220585190970249012:Unit:=()
def PySem.W.Fast.tw11934695131351765205:Unit:=()
def PySem.W.Fast.tw6806959413738714997:Unit:=()
def PySem.W.Fast.tw799639025026954006:Unit:=()
def PySem.W.Fast.tw8081064230709592918:Unit:=()
def PySem.W.Fast.tw9322693654248802359:Unit:=()
def PySem.W.Fast.tw9420473399907532119:Unit:=()
def PySem.W.Fast.tw7234369955774978168:Unit:=()
def PySem.W.Fast.tw13464600187017200281:Unit:=()
def PySem.W.Fast.tw9461060184946895577:Unit:=()
def PySem.W.Fast.tw11200759286788959228:Unit:=()
def PySem.W.Fast.tw11536950906598363581:Unit:=()
def PySem.W.Fast.tw14176981733002307828:Unit:=()
set_option maxRecDepth 100000 in
set_option maxHeartbeats 0 in
theorem PySem.Challenge.cw_tonguegate_k32_texts_of_none_holds : PySem.Challenge.rw_tonguegate_k32_texts_of_none.Holds := by
 w_on;o_law;k_head;(case hw=>w_witness2)
 k_fill
 exact Tg.walk (l:=PySem.Challenge.rw_tonguegate_k32_texts_of_none) rfl rfl (λw h Y=>PySem.W.kIn_of Y) ?F
 case F=>
  intro w mg fa h KX G P5;refine' Tg.all_mk KX G P5 ?d1 ?d2 ?d3 ?d4 ?d5 ?d6 ?d7 ?d8 ?d9 ?d10 ?d11 ?d12 ?d13 ?d14 ?d15 ?d16 ?d17 ?d18 ?d19 ?d20 ?d21 ?d22 ?d23 ?d24 ?d25 ?d26 ?d27 ?d28 ?d29 ?d30 ?d31 ?d32 ?d33 ?d34 ?d35 ?d36 ?d37 ?d38 ?d39 ?d40 ?d41 ?d42 ?d43 ?zs ?gk1 ?q1 ?gk2 ?q2 ?gk3 ?q3 ?gk4 ?q4 ?gk5 ?q5 ?gk6 ?q6 ?gcGateError ?gcNoText ?gcFull ?gcNoBlock ?gcNoDoor ?gcNoPart ?gcNoPicture ?gcNoProgram ?gcNoRoom ?gcNoThing ?gcNoWord ?gcNoWorths ?gcWrongHand ?gcWriting ?xNoText ?xm ?ka ?kb ?kn ?kv ?e1 ?e2 ?e3 ?e4 ?e5 ?e6 ?e7 ?xbb ?gSIDES ?klSIDES ?kzSIDES ?kvSIDES ?gWAYS ?klWAYS ?kzWAYS ?kvWAYS  ?dm1 ?dm2 ?dm3 ?dm4 ?dm5 ?dm6 ?pgWriting ?hdWriting ?poWriting ?saWriting ?mkWriting ?keWriting ?naWriting_text ?naWriting_at
  (case d1|d2|d3|d4|d5|d6|d7|d8|d9|d10|d11|d12|d13|d14|d15|d16|d17|d18|d19|d20|d21|d22|d23|d24|d25|d26|d27|d28|d29|d30|d31|d32|d33|d34|d35|d36|d37|d38|d39|d40|d41|d42|d43=>refine' L3.dg ?a ?l ?c ?k;(case a|l|c|k=>k_is))
  (case zs=>(iterate 13 (exact L3.zc ?_ ?_;k_is));exact trivial)
  (case gk1=>k_is);(case q1=>exact⟨_,rfl⟩)
  (case gk2=>k_is);(case q2=>exact⟨_,rfl⟩)
  (case gk3=>k_is);(case q3=>exact⟨_,rfl⟩)
  (case gk4=>k_is);(case q4=>exact⟨_,rfl⟩)
  (case gk5=>k_is);(case q5=>exact⟨_,rfl⟩)
  (case gk6=>k_is);(case q6=>exact⟨_,rfl⟩)
  (case gcGateError|gcNoText|gcFull|gcNoBlock|gcNoDoor|gcNoPart|gcNoPicture|gcNoProgram|gcNoRoom|gcNoThing|gcNoWord|gcNoWorths|gcWrongHand|gcWriting=>k_is)
  (case xNoText=>k_exc)
  (case xm=>kts_exm)
  (case ka=>kit_is)
  (case kb=>kit_is)
  (case kn=>kit_is)
  (case kv=>kit_is)
  (case e1=>k_is)
  (case e2=>k_is)
  (case e3=>k_is)
  (case e4=>k_is)
  (case e5=>k_is)
  (case e6=>k_is)
  (case e7=>k_is)
  (case xbb=>kts_exm)
  (case gSIDES=>k_is);(case klSIDES=>k_is);(case kzSIDES=>decide);(case kvSIDES=>exact(.cons ⟨_,rfl⟩ (.cons ⟨_,rfl⟩ .nil)))
  (case gWAYS=>k_is);(case klWAYS=>k_is);(case kzWAYS=>decide);(case kvWAYS=>exact(.cons ⟨_,rfl⟩ (.cons ⟨_,rfl⟩ (.cons ⟨_,rfl⟩ (.cons ⟨_,rfl⟩ .nil)))))
  (case dm1|dm2|dm3|dm4|dm5|dm6=>refine' L3.dm ?a ?l ?c ?k ?i;(case a|l|c|k|i=>k_is))
  (case pgWriting=>k_is);(case hdWriting=>k_is);(case poWriting=>k_is);(case saWriting=>k_is);(case mkWriting=>k_is);(case keWriting=>k_is)
  (case naWriting_text=>k_is)
  (case naWriting_at=>k_is)

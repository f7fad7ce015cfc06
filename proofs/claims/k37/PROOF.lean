import PyProof.Rows.All
import Wide.All
import OpenK.AllK
import Wide.FinOn
import Lean
import PyProof.EqAt
import PyProof.EqKinds
import PyProof.TupleCall
import PySem.Challenge.RW_tonguegate_k37_lent_and_leased
section
variable{r:Prop}{α β γ δ ε η ι κ μ:Type}
section
variable{A B C D E F G H I J:Prop}
theorem Ξ02(h:A∧B)(k:A→B→r):r:=k h.1 h.2
theorem Ξ03(h:A∧B∧C)(k:A→B→C→r):r:=k h.1 h.2.1 h.2.2
theorem Ξ04(h:A∧B∧C∧D)(k:A→B→C→D→r):r:=k h.1 h.2.1 h.2.2.1 h.2.2.2
theorem Ξ05(h:A∧B∧C∧D∧E)(k:A→B→C→D→E→r):r:=k h.1 h.2.1 h.2.2.1 h.2.2.2.1 h.2.2.2.2
theorem Ξ06(h:A∧B∧C∧D∧E∧F)(k:A→B→C→D→E→F→r):r:=k h.1 h.2.1 h.2.2.1 h.2.2.2.1 h.2.2.2.2.1 h.2.2.2.2.2
theorem Ξ07(h:A∧B∧C∧D∧E∧F∧G)(k:A→B→C→D→E→F→G→r):r:=k h.1 h.2.1 h.2.2.1 h.2.2.2.1 h.2.2.2.2.1 h.2.2.2.2.2.1 h.2.2.2.2.2.2
theorem Ξ08(h:A∧B∧C∧D∧E∧F∧G∧H)(k:A→B→C→D→E→F→G→H→r):r:=k h.1 h.2.1 h.2.2.1 h.2.2.2.1 h.2.2.2.2.1 h.2.2.2.2.2.1 h.2.2.2.2.2.2.1 h.2.2.2.2.2.2.2
theorem Ξ09(h:A∧B∧C∧D∧E∧F∧G∧H∧I)(k:A→B→C→D→E→F→G→H→I→r):r:=k h.1 h.2.1 h.2.2.1 h.2.2.2.1 h.2.2.2.2.1 h.2.2.2.2.2.1 h.2.2.2.2.2.2.1 h.2.2.2.2.2.2.2.1 h.2.2.2.2.2.2.2.2
theorem Ξ010(h:A∧B∧C∧D∧E∧F∧G∧H∧I∧J)(k:A→B→C→D→E→F→G→H→I→J→r):r:=k h.1 h.2.1 h.2.2.1 h.2.2.2.1 h.2.2.2.2.1 h.2.2.2.2.2.1 h.2.2.2.2.2.2.1 h.2.2.2.2.2.2.2.1 h.2.2.2.2.2.2.2.2.1 h.2.2.2.2.2.2.2.2.2
end
section
variable{A B C D E:α→Prop}
theorem Ξ11(h:∃x,A x)(k:∀x,A x→r):r:=h.elim k
theorem Ξ12(h:∃x,A x∧B x)(k:∀x,A x→B x→r):r:=Ξ11 h λx h=>Ξ02 h (k x)
theorem Ξ13(h:∃x,A x∧B x∧C x)(k:∀x,A x→B x→C x→r):r:=Ξ11 h λx h=>Ξ03 h (k x)
theorem Ξ14(h:∃x,A x∧B x∧C x∧D x)(k:∀x,A x→B x→C x→D x→r):r:=Ξ11 h λx h=>Ξ04 h (k x)
theorem Ξ15(h:∃x,A x∧B x∧C x∧D x∧E x)(k:∀x,A x→B x→C x→D x→E x→r):r:=Ξ11 h λx h=>Ξ05 h (k x)
end
section
variable{A B C D E F:α→β→Prop}
theorem Ξ21(h:∃x y,A x y)(k:∀x y,A x y→r):r:=h.elim λx h=>Ξ11 h (k x)
theorem Ξ22(h:∃x y,A x y∧B x y)(k:∀x y,A x y→B x y→r):r:=Ξ21 h λx y h=>Ξ02 h (k x y)
theorem Ξ23(h:∃x y,A x y∧B x y∧C x y)(k:∀x y,A x y→B x y→C x y→r):r:=Ξ21 h λx y h=>Ξ03 h (k x y)
theorem Ξ24(h:∃x y,A x y∧B x y∧C x y∧D x y)(k:∀x y,A x y→B x y→C x y→D x y→r):r:=Ξ21 h λx y h=>Ξ04 h (k x y)
theorem Ξ25(h:∃x y,A x y∧B x y∧C x y∧D x y∧E x y)(k:∀x y,A x y→B x y→C x y→D x y→E x y→r):r:=Ξ21 h λx y h=>Ξ05 h (k x y)
theorem Ξ26(h:∃x y,A x y∧B x y∧C x y∧D x y∧E x y∧F x y)(k:∀x y,A x y→B x y→C x y→D x y→E x y→F x y→r):r:=Ξ21 h λx y h=>Ξ06 h (k x y)
end
section
variable{A B C D E F G H I J:α→β→γ→Prop}
theorem Ξ31(h:∃x y z,A x y z)(k:∀x y z,A x y z→r):r:=h.elim λx h=>Ξ21 h (k x)
theorem Ξ32(h:∃x y z,A x y z∧B x y z)(k:∀x y z,A x y z→B x y z→r):r:=Ξ31 h λx y z h=>Ξ02 h (k x y z)
theorem Ξ33(h:∃x y z,A x y z∧B x y z∧C x y z)(k:∀x y z,A x y z→B x y z→C x y z→r):r:=Ξ31 h λx y z h=>Ξ03 h (k x y z)
theorem Ξ34(h:∃x y z,A x y z∧B x y z∧C x y z∧D x y z)(k:∀x y z,A x y z→B x y z→C x y z→D x y z→r):r:=Ξ31 h λx y z h=>Ξ04 h (k x y z)
theorem Ξ35(h:∃x y z,A x y z∧B x y z∧C x y z∧D x y z∧E x y z)(k:∀x y z,A x y z→B x y z→C x y z→D x y z→E x y z→r):r:=Ξ31 h λx y z h=>Ξ05 h (k x y z)
theorem Ξ36(h:∃x y z,A x y z∧B x y z∧C x y z∧D x y z∧E x y z∧F x y z)(k:∀x y z,A x y z→B x y z→C x y z→D x y z→E x y z→F x y z→r):r:=Ξ31 h λx y z h=>Ξ06 h (k x y z)
theorem Ξ38(h:∃x y z,A x y z∧B x y z∧C x y z∧D x y z∧E x y z∧F x y z∧G x y z∧H x y z)(k:∀x y z,A x y z→B x y z→C x y z→D x y z→E x y z→F x y z→G x y z→H x y z→r):r:=Ξ31 h λx y z h=>Ξ08 h (k x y z)
theorem Ξ310(h:∃x y z,A x y z∧B x y z∧C x y z∧D x y z∧E x y z∧F x y z∧G x y z∧H x y z∧I x y z∧J x y z)(k:∀x y z,A x y z→B x y z→C x y z→D x y z→E x y z→F x y z→G x y z→H x y z→I x y z→J x y z→r):r:=Ξ31 h λx y z h=>Ξ010 h (k x y z)
end
section
variable{A B C D E F G H:α→β→γ→δ→Prop}
theorem Ξ41(h:∃x y z w,A x y z w)(k:∀x y z w,A x y z w→r):r:=h.elim λx h=>Ξ31 h (k x)
theorem Ξ42(h:∃x y z w,A x y z w∧B x y z w)(k:∀x y z w,A x y z w→B x y z w→r):r:=Ξ41 h λx y z w h=>Ξ02 h (k x y z w)
theorem Ξ44(h:∃x y z w,A x y z w∧B x y z w∧C x y z w∧D x y z w)(k:∀x y z w,A x y z w→B x y z w→C x y z w→D x y z w→r):r:=Ξ41 h λx y z w h=>Ξ04 h (k x y z w)
theorem Ξ45(h:∃x y z w,A x y z w∧B x y z w∧C x y z w∧D x y z w∧E x y z w)(k:∀x y z w,A x y z w→B x y z w→C x y z w→D x y z w→E x y z w→r):r:=Ξ41 h λx y z w h=>Ξ05 h (k x y z w)
theorem Ξ46(h:∃x y z w,A x y z w∧B x y z w∧C x y z w∧D x y z w∧E x y z w∧F x y z w)(k:∀x y z w,A x y z w→B x y z w→C x y z w→D x y z w→E x y z w→F x y z w→r):r:=Ξ41 h λx y z w h=>Ξ06 h (k x y z w)
theorem Ξ47(h:∃x y z w,A x y z w∧B x y z w∧C x y z w∧D x y z w∧E x y z w∧F x y z w∧G x y z w)(k:∀x y z w,A x y z w→B x y z w→C x y z w→D x y z w→E x y z w→F x y z w→G x y z w→r):r:=Ξ41 h λx y z w h=>Ξ07 h (k x y z w)
theorem Ξ48(h:∃x y z w,A x y z w∧B x y z w∧C x y z w∧D x y z w∧E x y z w∧F x y z w∧G x y z w∧H x y z w)(k:∀x y z w,A x y z w→B x y z w→C x y z w→D x y z w→E x y z w→F x y z w→G x y z w→H x y z w→r):r:=Ξ41 h λx y z w h=>Ξ08 h (k x y z w)
end
section
variable{A B C D E F G H:α→β→γ→δ→ε→Prop}
theorem Ξ51(h:∃x y z w u,A x y z w u)(k:∀x y z w u,A x y z w u→r):r:=h.elim λx h=>Ξ41 h (k x)
theorem Ξ54(h:∃x y z w u,A x y z w u∧B x y z w u∧C x y z w u∧D x y z w u)(k:∀x y z w u,A x y z w u→B x y z w u→C x y z w u→D x y z w u→r):r:=Ξ51 h λx y z w u h=>Ξ04 h (k x y z w u)
theorem Ξ55(h:∃x y z w u,A x y z w u∧B x y z w u∧C x y z w u∧D x y z w u∧E x y z w u)(k:∀x y z w u,A x y z w u→B x y z w u→C x y z w u→D x y z w u→E x y z w u→r):r:=Ξ51 h λx y z w u h=>Ξ05 h (k x y z w u)
theorem Ξ56(h:∃x y z w u,A x y z w u∧B x y z w u∧C x y z w u∧D x y z w u∧E x y z w u∧F x y z w u)(k:∀x y z w u,A x y z w u→B x y z w u→C x y z w u→D x y z w u→E x y z w u→F x y z w u→r):r:=Ξ51 h λx y z w u h=>Ξ06 h (k x y z w u)
theorem Ξ57(h:∃x y z w u,A x y z w u∧B x y z w u∧C x y z w u∧D x y z w u∧E x y z w u∧F x y z w u∧G x y z w u)(k:∀x y z w u,A x y z w u→B x y z w u→C x y z w u→D x y z w u→E x y z w u→F x y z w u→G x y z w u→r):r:=Ξ51 h λx y z w u h=>Ξ07 h (k x y z w u)
theorem Ξ58(h:∃x y z w u,A x y z w u∧B x y z w u∧C x y z w u∧D x y z w u∧E x y z w u∧F x y z w u∧G x y z w u∧H x y z w u)(k:∀x y z w u,A x y z w u→B x y z w u→C x y z w u→D x y z w u→E x y z w u→F x y z w u→G x y z w u→H x y z w u→r):r:=Ξ51 h λx y z w u h=>Ξ08 h (k x y z w u)
end
section
variable{A B C D E F G H I:α→β→γ→δ→ε→η→Prop}
theorem Ξ61(h:∃x y z w u v,A x y z w u v)(k:∀x y z w u v,A x y z w u v→r):r:=h.elim λx h=>Ξ51 h (k x)
theorem Ξ69(h:∃x y z w u v,A x y z w u v∧B x y z w u v∧C x y z w u v∧D x y z w u v∧E x y z w u v∧F x y z w u v∧G x y z w u v∧H x y z w u v∧I x y z w u v)(k:∀x y z w u v,A x y z w u v→B x y z w u v→C x y z w u v→D x y z w u v→E x y z w u v→F x y z w u v→G x y z w u v→H x y z w u v→I x y z w u v→r):r:=Ξ61 h λx y z w u v h=>Ξ09 h (k x y z w u v)
end
section
variable{A B C D E F G:α→β→γ→δ→ε→η→ι→Prop}
theorem Ξ71(h:∃x y z w u v s,A x y z w u v s)(k:∀x y z w u v s,A x y z w u v s→r):r:=h.elim λx h=>Ξ61 h (k x)
theorem Ξ72(h:∃x y z w u v s,A x y z w u v s∧B x y z w u v s)(k:∀x y z w u v s,A x y z w u v s→B x y z w u v s→r):r:=Ξ71 h λx y z w u v s h=>Ξ02 h (k x y z w u v s)
theorem Ξ77(h:∃x y z w u v s,A x y z w u v s∧B x y z w u v s∧C x y z w u v s∧D x y z w u v s∧E x y z w u v s∧F x y z w u v s∧G x y z w u v s)(k:∀x y z w u v s,A x y z w u v s→B x y z w u v s→C x y z w u v s→D x y z w u v s→E x y z w u v s→F x y z w u v s→G x y z w u v s→r):r:=Ξ71 h λx y z w u v s h=>Ξ07 h (k x y z w u v s)
end
section
variable{A B:α→β→γ→δ→ε→η→ι→κ→Prop}
theorem Ξ81(h:∃x y z w u v s t,A x y z w u v s t)(k:∀x y z w u v s t,A x y z w u v s t→r):r:=h.elim λx h=>Ξ71 h (k x)
theorem Ξ82(h:∃x y z w u v s t,A x y z w u v s t∧B x y z w u v s t)(k:∀x y z w u v s t,A x y z w u v s t→B x y z w u v s t→r):r:=Ξ81 h λx y z w u v s t h=>Ξ02 h (k x y z w u v s t)
end
section
variable{A B C:α→β→γ→δ→ε→η→ι→κ→μ→Prop}
theorem Ξ91(h:∃x y z w u v s t p,A x y z w u v s t p)(k:∀x y z w u v s t p,A x y z w u v s t p→r):r:=h.elim λx h=>Ξ81 h (k x)
theorem Ξ93(h:∃x y z w u v s t p,A x y z w u v s t p∧B x y z w u v s t p∧C x y z w u v s t p)(k:∀x y z w u v s t p,A x y z w u v s t p→B x y z w u v s t p→C x y z w u v s t p→r):r:=Ξ91 h λx y z w u v s t p h=>Ξ03 h (k x y z w u v s t p)
end
theorem Ψ2{P:α→β→Prop}(x:α)(y:β)(h:P x y):∃x y,P x y:=⟨x,y,h⟩
theorem Ψ3{P:α→β→γ→Prop}(x:α)(y:β)(z:γ)(h:P x y z):∃x y z,P x y z:=⟨x,y,z,h⟩
theorem Ψ4{P:α→β→γ→δ→Prop}(x:α)(y:β)(z:γ)(w:δ)(h:P x y z w):∃x y z w,P x y z w:=⟨x,y,z,w,h⟩
theorem Ψ5{P:α→β→γ→δ→ε→Prop}(x:α)(y:β)(z:γ)(w:δ)(u:ε)(h:P x y z w u):∃x y z w u,P x y z w u:=⟨x,y,z,w,u,h⟩
theorem Ψ6{P:α→β→γ→δ→ε→η→Prop}(x:α)(y:β)(z:γ)(w:δ)(u:ε)(v:η)(h:P x y z w u v):∃x y z w u v,P x y z w u v:=⟨x,y,z,w,u,v,h⟩
theorem Ψ7{P:α→β→γ→δ→ε→η→ι→Prop}(x:α)(y:β)(z:γ)(w:δ)(u:ε)(v:η)(s:ι)(h:P x y z w u v s):∃x y z w u v s,P x y z w u v s:=⟨x,y,z,w,u,v,s,h⟩
theorem Ψ8{P:α→β→γ→δ→ε→η→ι→κ→Prop}(x:α)(y:β)(z:γ)(w:δ)(u:ε)(v:η)(s:ι)(t:κ)(h:P x y z w u v s t):∃x y z w u v s t,P x y z w u v s t:=⟨x,y,z,w,u,v,s,t,h⟩
theorem Ψ9{P:α→β→γ→δ→ε→η→ι→κ→μ→Prop}(x:α)(y:β)(z:γ)(w:δ)(u:ε)(v:η)(s:ι)(t:κ)(p:μ)(h:P x y z w u v s t p):∃x y z w u v s t p,P x y z w u v s t p:=⟨x,y,z,w,u,v,s,t,p,h⟩
end
open Lean in
local macro_rules
|`(tactic|let ⟨$ps,*⟩:=$h)=>do
 let mut b:Array Term:=#[];let mut t←`(tactic|skip)
 for p in ps.getElems do
  if p.raw.isOfKind ``Parser.Term.anonymousCtor||p.raw.getId==`rfl then
   let z←withFreshMacroScope `(z);b:=b.push z
   if p.raw.isIdent then t←`(tactic|($t;subst $z:term))else t←`(tactic|($t;let $p:term:=$z))
  else b:=b.push p
 unless b.any (·.raw.getId==h.raw.getId)||!h.raw.isIdent do t←`(tactic|((try clear $(⟨h⟩));$t))
 let mut a←`(tactic|fail)
 let g(n m:Nat):=mkIdent (.mkSimple s!"Ξ{n}{m}")
 for i in [0:b.size]do
  let m:=b.size-i
  if m*i==0||m==1||[(1,2),(1,3),(1,4),(1,5),(2,2),(2,3),(2,4),(2,5),(2,6),(3,2),(3,3),(3,4),(3,5),(3,6),(3,8),(3,10),(4,2),(4,4),(4,5),(4,6),(4,7),(4,8),(5,4),(5,5),(5,6),(5,7),(5,8),(6,9),(7,2),(7,7),(8,2),(9,3)].contains (i,m)then a←`(tactic|first|refine $(g i m) $h fun $b* =>?_|$a:tactic)
  else a←`(tactic|first|(refine $(g i 1) $h fun $(b[:i])* z=>$(g 0 m) z fun $(b[i:])* =>?_;clear z)|$a:tactic)
 `(tactic|($a;$t))
|`(tactic|intro $ps*)=>do
 unless ps.any fun p=>p.raw.isOfKind ``Parser.Term.anonymousCtor||p.raw.getId==`rfl do Macro.throwUnsupported
 let mut t←`(tactic|skip)
 for p in ps do
  if p.raw.isOfKind ``Parser.Term.anonymousCtor then t←`(tactic|($t;intro z;let $p:term:=z))
  else if p.raw.getId==`rfl then t←`(tactic|($t;intro z;subst z))
  else t←`(tactic|($t;intro $p:term))
 return t
|`(tactic|exact $e)=>`(tactic|refine $e)
|`(tactic|lia)=>`(tactic|omega)
open PySem in abbrev xz:=Value→Shared→Prop
open PySem in abbrev KK:=Str→Option Value
open PySem in abbrev ac:=List (Addr×Obj)
def A8:=@PySem.wpAny_bind
def Ap:=@PySem.Heap.get?_push_of_some
def AV:=@List.length_map
def XO:=@List.mem_cons
def Ao:=@List.map_append
def AS:=@PySem.wpAny_pure
def BJ:=@Bool.false_ne_true
def CB:=@List.mem_append_right
def D2:=@List.getElem?_eq_getElem
def Aq:=@PySem.Heap.lt_size
def BW:=@List.size_toArray
def Br:=@List.length_append
def C3:=@Nat.lt_of_le_of_lt
def BA:=@Bool.true_and
def Ar:=@Nat.le_refl
def Cb:=@Nat.add_le_add_left
def B3:=@Nat.ne_of_lt
def Cv:=@PySem.Heap.get?_push_size
def BQ:=@List.map_cons
def Bt:=@List.append_nil
def X9:=@List.mem_map
def CN:=@List.not_mem_nil
def Bm:=@PySem.boot_len
def D0:=@List.length_cons
def CI:=@decide_eq_true
def Dz:=@List.mem_cons_of_mem
def BO:=@Nat.le_succ
def AN:=@if_neg
def BF:=@PySem.wpAny_mono
def Dy:=@Nat.lt_of_lt_of_le
def AR:=@if_pos
def CG:=@Nat.le_of_lt
def DM:=@Int.emod_nonneg
def E5:=@Int.emod_lt_of_pos
def F6:=@PyProof.Rows.boot_all
def Du:=@decide_eq_false
def E9:=@Bool.and_eq_true
def DP:=@PySem.W.mg_of
def DA:=@Nat.le_trans
def Ej:=@of_decide_eq_true
def Eo:=@Nat.le_succ_of_le
def Yu:=@List.mem_singleton
def ET:=@List.length_take
def Yw:=@List.all_eq_true
def CS:=@PySem.sizeLine_eq
def Dw:=@Bool.false_and
def Ek:=@Option.some.inj
def FX:=@of_decide_eq_false
def Dn:=@List.map_map
def Hf:=@List.getD_eq_getElem?_getD
def YD:=@beq_eq_false_iff_ne
def YE:=@List.mem_append
def FH:=@List.getElem_mem
def YG:=@List.getElem?_eq_some_iff
def HC:=@PySem.F.slot_dict_get
def EK:=@List.map_nil
def Ff:=@List.length_drop
def Fd:=@List.cons_append
def YL:=@PyProof.Rows.slot_tuple_getitem
def G3:=@List.append_assoc
def G6:=@PySem.wpAny_truthy_bool
def IS:=@PySem.F.type_list_append
def J3:=@PySem.F.slot_list_append
def FL:=@PySem.Heap.size_push
def F7:=@PySem.wpAny_holding
def Fo:=@PySem.W.kia_one
def Hv:=@PySem.F.plainAttrs_list
def G4:=@List.find?_cons
def Fx:=@Bool.eq_iff_iff
def Gl:=@Nat.lt_succ_of_lt
def YY:=@List.nodup_append
def GI:=@List.nil_append
def FC:=@List.all_map
def Gu:=@PySem.wpAny_newObj_type
def Ei:=@PySem.wpAny_field
def CO:=@Ne.symm
def HA:=@List.lookup_cons
def Hl:=@PySem.wpAny_Call_Name_kw
def Hi:=@List.getElem?_map
def JJ:=@PySem.wpAny_callSpecial?_slot
def Hq:=@Nat.lt_succ_self
def Hh:=@List.drop_length
def GQ:=@Bool.and_true
def Fm:=@Nat.zero_le
def GS:=@PySem.wpAny_standAt
def IQ:=@PySem.tupleKind_room_in1
def Gm:=@PySem.wpAny_seqItems
def Kz:=@PySem.F.plainAttrs_dict
def Gv:=@Nat.lt_irrefl
def JL:=@Array.length_toList
def Ka:=@PySem.wpAny_comprehension_free
def Zk:=@decide_eq_decide
def HS:=@PySem.PassesOwn.never
def LL:=@PySem.F.entry_dict_get
def LI:=@List.take_of_length_le
def EP:=@or_false
def Eh:=@congrArg
def Zr:=@List.mem_filterMap
def K9:=@List.mem_cons_self
def Hy:=@PySem.wpAny_call_entry
def N1:=@PyProof.Rows.callWith_type1
def Zw:=@List.nodup_cons
def Zx:=@beq_iff_eq
def K5:=@Option.isSome_map
def HZ:=@List.any_cons
def JU:=@PySem.wpAny_pyIter_tuple
def KO:=@List.mem_append_left
def ZD:=@List.mem_range
def KY:=@PySem.mem_of_lookup
def Nu:=@PySem.F.slot_tuple_iterator_next
def KZ:=@PySem.wpAny_newFunctionEnv
def La:=@PySem.W.callWith_K
def Oa:=@PySem.AutoSeq1.wpAny_loadPart'
def Ml:=@PySem.F.type_dict_get
def Ny:=@List.length_singleton
def ZL:=@List.any_eq_true
def Nt:=@List.mem_of_getElem?
def ZN:=@List.mem_filter
def Qs:=@PySem.F.excBase_ValueError
def Ku:=@PySem.wpAny_passesOwn
def Nq:=@decide_eq_true_eq
def XT:=@PySem.F.args_dict_get_2
def Oo:=@List.getElem?_cons_succ
def Kf:=@List.all_cons
def JG:=@PySem.call_meetsIn
def Ob:=@Nat.succ_le_succ
def Lp:=@Nat.min_eq_right
def ZX:=@Option.map_eq_some_iff
def NL:=@PySem.wpAny_pyIter_list
def Lo:=@Nat.ne_of_gt
def MQ:=@Nat.min_eq_left
def MC:=@List.drop_zero
def Gx:=@if_true
def LB:=@Sum.inr.inj
def Qv:=@PySem.W.plainGet_of
def X8:=@List.filterMap_cons
def J2:=@if_false
def Ko:=@PySem.codeAny_mono
def N5:=@PySem.F.slot_zip_next
def JT:=@PySem.wpAny_rule
def Ja:=@PySem.wpAny_Name
def Qt:=@PySem.wpAny_updateSeq_pair
def XS:=@PySem.wpAny_loadName_local
def Oz:=@List.length_range
def Qu:=@PySem.Calls.evalArgs_plain
def WH:=@PySem.wpAny_loadName_cell
def Yd:=@Option.bind_some
def Ot:=@Nat.succ_ne_self
def c9:=@List.eq_nil_of_length_eq_zero
def YC:=@PySem.Heap.SameBut.update
def fb:=@PySem.F.slot_dict_setdefault
def NU:=@PySem.wpAny_onRaise
def Mk:=@PySem.Paired.length
def Si:=@List.of_mem_zip
def Y8:=@List.forIn_cons
def X0:=@List.all_append
def cW:=@List.getElem?_append_right
def Ti:=@PySem.wpAny_setState_of
def Ke:=@PySem.typeIs_str
def aat:=@PySem.F.slot_dict_getitem
def XQ:=@List.take_zero
def TO:=@List.nodup_nil
def aU:=@List.getElem?_append_left
def Sj:=@List.forIn_nil
def gQ:=@List.drop_eq_getElem_cons
def P2:=@Bool.and_assoc
def M1:=@PySem.codeAny_loop
def aaB:=@Option.isSome_iff_exists
def aT:=@PySem.F.args_dict_get_3
def Of:=@List.take_nil
def dw:=@List.getElem?_replicate
set_option Elab.async false
set_option linter.all false
set_option maxRecDepth 100000
set_option maxHeartbeats 1000000
set_option maxHeartbeats 4000000
namespace L2
open PySem PySem.Spec PyProof.Rows
variable {xs vs:List V}{us:List Value}{H:A4}{a b it C:Addr}{o:HO}{u:Value}{P:Program}{w:World}{h base:Heap}{g':Array GenState}{t' i j k n:Nat}{d':Drawn}{ch fp:List Addr}{x qual:Str}{e tg l:Expr}{N ps:List Str}{M:Model}{A:Around}{E Q:xz}{v y:V}{s' s:Shared}{X: Cx}{t: Bq}{pos p: Pos}{v0:ac}{σ:St}{K:W.Frag}{f:Value→Value→Sem Value}{es: List Expr}{te tl:AO}{g:Int→Int→Int}{pos':Pos}{H': A4}{ta tb: AO}{pl:Sem Bool}{body:List Stmt}{r r':Dd}{xA:CmpOp}{dx: Addr}{mA mg:KK}{kw:List (Str×Value)}{CX:G0}{fd:FuncData}{sp:DU}{outer:List Env}{kindOf:Str→Option NameKind}{scope:Scope}{h': Heap}
abbrev AG:=Sum Int Str
def Jc:AG→Value→Bool
 |.inl k,v=>Value.isInt k v
 |.inr x,v=>Value.isStrOf x v
def pC(w:World):AG→Int
 |.inl k=>hashInt k
 |.inr x=>hashStr w x
theorem GP:∀{k:AG} {v:Value},Jc k v=true→(∃i t,k=Sum.inl i∧v=Value.int i t)∨(∃x t,k=Sum.inr x∧v=Value.str x t)
 |.inl i,v,h=>by
  let⟨t,e⟩:=Value.isInt_shape (k:=i) (v:=v) h;exact .inl ⟨i,t,rfl,e⟩
 |.inr x,v,h=>by
  let⟨t,e⟩:=Value.isStrOf_shape (x:=x) (v:=v) h;exact .inr ⟨x,t,rfl,e⟩
theorem uE(i:Int)(t:Tok):Jc (.inl i) (.int i t)=true:=by simp[Jc,Value.isInt]
theorem sO(x:Str)(t:Tok):Jc (.inr x) (.str x t)=true:=by simp[Jc,Value.isStrOf]
theorem yD(a b:Int):decide ((Sum.inl a:AG)=Sum.inl b)=(a==b):=by
 by_cases e:a=b
 ·subst e;simp
 ·have h:¬(Sum.inl a:AG)=Sum.inl b:=λq=>e (Sum.inl.inj q)
  rw[Du h];exact(YD.mpr e).symm
theorem atK(a b:Str):decide ((Sum.inr a:AG)=Sum.inr b)=decide (a=b):=by
 by_cases e:a=b
 ·subst e;simp
 ·have h:¬(Sum.inr a:AG)=Sum.inr b:=λq=>e (LB q)
  rw[Du h,Du e]
theorem vj(a:Int)(b:Str):decide ((Sum.inl a:AG)=Sum.inr b)=false:=Du (λq=>nomatch q)
theorem zq(a:Str)(b:Int):decide ((Sum.inr a:AG)=Sum.inl b)=false:=Du (λq=>nomatch q)
def BS(prog:Program)(w:World):PySem.KeyKind prog w AG where
 is:=Jc
 hash:=pC w
 inj:=λv a b ha hb=>by
  rcases GP ha with⟨i,t,rfl,rfl⟩|⟨x,t,rfl,rfl⟩
  ·rcases GP hb with⟨j,u,rfl,e⟩|⟨y,u,rfl,e⟩
   ·injection e with e1 _;rw[e1]
   ·exact nomatch e
  ·rcases GP hb with⟨j,u,rfl,e⟩|⟨y,u,rfl,e⟩
   ·exact nomatch e
   ·injection e with e1 _;rw[e1]
 byValue:=λk v h=>by
  rcases GP h with⟨i,t,rfl,rfl⟩|⟨x,t,rfl,rfl⟩<;>rfl
 pyHash:=λhv h=>by
  rcases GP hv with⟨i,t,rfl,rfl⟩|⟨x,t,rfl,rfl⟩
  ·exact wpAny_pyHash_int h
  ·exact wpAny_pyHash_str h
 eqBool:=λhu hv h=>by
  rcases GP hu with⟨i,t,rfl,rfl⟩|⟨x,t,rfl,rfl⟩
  ·rcases GP hv with⟨j,u,rfl,rfl⟩|⟨y,u,rfl,rfl⟩
   ·rw[yD]at h;exact wpAny_eqBool_int h
   ·rw[vj]at h;exact SeqAt.EqAt.int_str i t y u _ _ _ _ h
  ·rcases GP hv with⟨j,u,rfl,rfl⟩|⟨y,u,rfl,rfl⟩
   ·rw[zq]at h;exact SeqAt.EqAt.str_int x t j u _ _ _ _ h
   ·rw[atK]at h;exact wpAny_eqBool_str h
 «strs»:=λk x t v h=>by
  rcases GP h with⟨i,u,rfl,e⟩|⟨y,u,rfl,e⟩
  ·exact nomatch e
  ·injection e with e1 _
   subst e1;cases v<;>rfl
theorem yJ(prog:Program)(w:World)(i:Int)(t:Tok):(BS prog w).is (.inl i) (.int i t)=true:=uE i t
theorem YW(prog:Program)(w:World)(x:Str)(t:Tok):(BS prog w).is (.inr x) (.str x t)=true:=sO x t
inductive V where
 |non|bl (b:Bool)|int (i:Int)|str (x:Str)|byt (b:Array UInt8)|flt (b:UInt64)|ref (a:Addr)|ty (n:String)
 deriving DecidableEq
def RelV:V→Value→Prop
 |.non,u=>u=Value.none
 |.bl b,u=>u=Value.bool b
 |.int i,u=>∃t,u=Value.int i t
 |.str x,u=>∃t,u=Value.str x t
 |.byt b,u=>∃t,u=Value.bytes b t
 |.flt b,u=>∃t,u=Value.float b t
 |.ref a,u=>u=Value.ref a
 |.ty n,u=>u=Value.type n
abbrev Vals:List V→List Value→Prop:=Paired RelV
theorem Vals.length(r:Vals xs us):xs.length=us.length:=Mk r
theorem Vals.get:∀{xs:List V} {us:List Value} {i:Nat} {x:V},Vals xs us→xs[i]?=some x→∃u,us[i]?=some u∧RelV x u
 |_,_,_,_,.nil,e=>by simp at e
 |_,_,0,_,.cons r _,e=>by simp at e;subst e;exact⟨_,rfl,r⟩
 |_,_,i+1,x,.cons _ t,e=>by
  let⟨u,h1,h2⟩:=Vals.get (i:=i) (x:=x) t (by simpa using e);exact⟨u,by simpa using h1,h2⟩
theorem Vals.append:∀{xs ys:List V} {us ws:List Value},Vals xs us→Vals ys ws→Vals (xs++ys) (us++ws)
 |_,_,_,_,.nil,s=>s
 |_,_,_,_,.cons r t,s=>.cons r (Vals.append t s)
theorem Vals.take:∀{xs:List V} {us:List Value} (n:Nat),Vals xs us→Vals (xs.take n) (us.take n)
 |_,_,0,_=>.nil
 |_,_,_+1,.nil=>.nil
 |_,_,n+1,.cons r t=>.cons r (Vals.take n t)
theorem Vals.drop:∀{xs:List V} {us:List Value} (n:Nat),Vals xs us→Vals (xs.drop n) (us.drop n)
 |_,_,0,r=>r
 |_,_,_+1,.nil=>.nil
 |_,_,n+1,.cons _ t=>Vals.drop n t
def jo:Option V→Option Value→Prop
 |some v,some u=>RelV v u
 |none,none=>True
 |_,_=>False
def KV{κ:Type}:List (κ×V)→List (κ×Value)→Prop:=Paired λ(p:κ×V) (q:κ×Value)=>p.1=q.1∧RelV p.2 q.2
def Ay:AG→V
 |.inl i=>.int i
 |.inr x=>.str x
inductive HO where
 /-- a list -/
 |lst (xs:List V)
 /-- a tuple (never changes) -/
 |tup (xs:List V)
 /-- a dict JF keys are ints and texts;one JF keys are tuples of ints and texts (vo empty one is both) -/
 |dK (ay:List (AG×V))|dT (ay:List (List AG×V))
 /-- a set of ints: bj members,bj size -/
 |set (S:Int→Bool) (n:Nat)
 /-- an instance of vo class at C,bj dict at dx,bj attributes -/
 |ins (C dx:Addr) (fs:List (Str×V))
 /-- vo dict of vo instance at x -/
 |own (x:Addr)
 /-- vo dict of an exception -/
 |xd (fs:List (Str×V))
 /-- a bound method,f of x -/
 |met (f x:Addr)
 /-- a range object lo,lo+1,.. below hi -/
 |rng (lo hi:Int)
 /-- a JP JQ is known to vo object (vo vD;a dict while a loop walks it): read,never written while it is so -/
 |frz (o:Obj) (u:HO)
 /-- a code Lv table -/
 |tbl (ps:Array Value)
 /-- any other JP,by NK is true of bj one object (a def of Q6 own: WE a S n:=HO.ext λh=>..) -/
 |ext (φ:Heap→Prop)
abbrev A4:=Addr→Option HO
def AK(H:A4)(a:Addr)(o:HO):A4:=λb=>if b=a then some o else H b
theorem BZ:AK H a o a=some o:=by unfold AK;rw[AR rfl]
theorem Al(h:b≠a):AK H a o b=H b:=by unfold AK;rw[AN h]
theorem tP{u:HO}(h:H a=some o)(h':H b=some u)(d:o≠u):a≠b:=by
 intro e;subst e;rw[h]at h';exact d (Ek h')
theorem FV(h:H a=some o)(h':H b=none):a≠b:=by
 intro e;subst e;rw[h]at h';cases h'
section
variable (P: Program)(w: World)
def bZ(H:A4)(h:Heap)(a:Addr):HO→Prop
 |.lst xs=>xs.length≤sizeLine∧∃(bj:List Value) (n:Nat),Vals xs bj∧h.get? a=some {cls:=.type "list",data:=.seq bj.toArray n}
 |.tup xs=>xs.length≤sizeLine∧∃bj:List Value,Vals xs bj∧IsTup h a bj.toArray
 |.dK ay=>ay.length≤sizeLine∧(a==sysModules)=false∧∃vs,KV ay vs∧h.DictOf (BS P w) a vs
 |.dT ay=>ay.length≤sizeLine∧(a==sysModules)=false∧∃xs:List (List AG×Addr×Value),
   Paired (λ(p:List AG×V) (q:List AG×Addr×Value)=>p.1=q.1∧H q.2.1=some (.tup (p.1.map Ay))∧RelV p.2 q.2.2) ay xs∧
   ∃o es ep,h.get? a=some o∧o.ExactDict∧o.data=.dict es ep∧es.toList=xs.map (entryOfKey (tupleKind (BS P w)))∧(xs.map (·.1)).Nodup
 |.set S n=>h.SetOf (intKind P w) a S n
 |.ins C dx fs=>H dx=some (.own a)∧fs.length≤1000∧dx≠a∧h.get? a=some (W.instObj C dx)∧
   ∃mA,h.Ns1 dx mA∧(∀f,jo (fs.lookup f) (mA f))∧PySem.Within mA (fs.map (·.1))
 |.own _=>∃o,h.get? a=some o
 |.xd fs=>∃mA,h.Ns1 a mA∧∀f,jo (fs.lookup f) (mA f)
 |.rng lo hi=>∃t u v,h.get? a=some {cls:=.type "range",data:=.fields #[.int lo t,.int hi u,.int 1 v]}
 |.frz o u=>h.get? a=some o∧bZ H h a u
 |.tbl ps=>h.get? a=some {cls:=.none,data:=.fields ps}
 |.met f x=>h.get? a=some (W.methodObj (.ref f) (.ref x))
 |.ext φ=>φ h∧(∃o,h.get? a=some o)∧∀h1 h2:Heap,φ h1→(∀o,h1.get? a=some o→h2.get? a=some o)→φ h2
def lH(H:A4)(h:Heap):Prop:=∀a o,H a=some o→bZ P w H h a o
end
section
variable {P: Program}{w: World}{H: A4}{h: Heap}{a: Addr}{o: HO}
theorem bZ.lt(x:bZ P w H h a o):a<h.objs.size:=by
 cases o with
 |lst xs=>let⟨_,⟨_,_,_,e⟩⟩:=x;exact Aq e
 |tup xs=>let⟨_,⟨_,_,p⟩⟩:=x;exact p.lt
 |dK ay=>let⟨_,_,⟨_,_,⟨o,_,_,e,_⟩⟩⟩:=x;exact Aq e
 |dT ay=>let⟨_,_,⟨_,_,⟨o,_,_,e,_⟩⟩⟩:=x;exact Aq e
 |set S n=>let⟨o,_,_,_,e,_⟩:=x;exact Aq e
 |ins C dx fs=>let⟨_,_,_,e,_⟩:=x;exact Aq e
 |own y=>let⟨_,e⟩:=x;exact Aq e
 |xd fs=>let⟨_,⟨_,_,_,e,_⟩,_⟩:=x;exact Aq e
 |rng lo hi=>let⟨_,_,_,e⟩:=x;exact Aq e
 |frz ob u=>let⟨e,_⟩:=x;exact Aq e
 |tbl ps=>exact Aq (show h.get? a=some _ from x)
 |met f y=>exact Aq (show h.get? a=some _ from x)
 |ext φ=>let⟨_,⟨_,e⟩,_⟩:=x;exact Aq e
theorem Paired.HH{α β:Type}{F G:α→β→Prop}:∀{l₁:List α} {l₂:List β},Paired F l₁ l₂→(∀a b,F a b→G a b)→Paired G l₁ l₂
 |_,_,.nil,_=>.nil
 |_,_,.cons r t,f=>.cons (f _ _ r) (Paired.HH t f)
theorem bZ.qH(x:bZ P w H h a o)(k:∀b u,(b=a∨H b=some (.own a))→h.get? b=some u→h'.get? b=some u)
  (ho:∀b,H b=some (.own a)→H' b=some (.own a)) (ht:∀b xs,H b=some (.tup xs)→H' b=some (.tup xs)):bZ P w H' h' a o:=by
 induction o with
 |lst xs=>let⟨z,⟨bj,n,r,e⟩⟩:=x;exact⟨z,bj,n,r,k _ _ (.inl rfl) e⟩
 |tup xs=>let⟨z,⟨bj,r,⟨ob,e,c⟩⟩⟩:=x;exact⟨z,bj,r,ob,k _ _ (.inl rfl) e,c⟩
 |dK ay=>let⟨z,y,⟨vs,r,⟨ob,es,ep,e,c⟩⟩⟩:=x;exact⟨z,y,vs,r,ob,es,ep,k _ _ (.inl rfl) e,c⟩
 |dT ay=>
  let⟨z,y,⟨xs,r,⟨ob,es,ep,e,c⟩⟩⟩:=x;exact⟨z,y,xs,Paired.HH r λp q z=>⟨z.1,ht _ _ z.2.1,z.2.2⟩,ob,es,ep,k _ _ (.inl rfl) e,c⟩
 |set S n=>let⟨ob,es,ep,t,e,c⟩:=x;exact Ψ4 ob es ep t ⟨k _ _ (.inl rfl) e,c⟩
 |ins C dx fs=>
  let⟨d,z,ne,e,⟨mA,⟨od,es,ep,e2,c⟩,r⟩⟩:=x;exact⟨ho _ d,z,ne,k _ _ (.inl rfl) e,mA,Ψ3 od es ep ⟨k _ _ (.inr d) e2,c⟩,r⟩
 |own y=>let⟨ob,e⟩:=x;exact⟨ob,k _ _ (.inl rfl) e⟩
 |xd fs=>let⟨mA,⟨od,es,ep,e,c⟩,r⟩:=x;exact⟨mA,Ψ3 od es ep ⟨k _ _ (.inl rfl) e,c⟩,r⟩
 |rng lo hi=>let⟨t,u,v,e⟩:=x;exact Ψ3 t u v (k _ _ (.inl rfl) e)
 |frz ob u ih=>let⟨e,q⟩:=x;exact⟨k _ _ (.inl rfl) e,ih q⟩
 |tbl ps=>
  have e:h.get? a=some {cls:=.none,data:=.fields ps}:=x;show h'.get? a=some {cls:=.none,data:=.fields ps}
  exact k a _ (.inl rfl) e
 |met f y=>
  have e:h.get? a=some (W.methodObj (.ref f) (.ref y)):=x;show h'.get? a=some (W.methodObj (.ref f) (.ref y))
  exact k a _ (.inl rfl) e
 |ext φ=>let⟨p,⟨o,e⟩,st⟩:=x;exact⟨st _ _ p λo q=>k _ _ (.inl rfl) q,⟨o,k _ _ (.inl rfl) e⟩,st⟩
theorem lH.lt(x:lH P w H h)(e:H a=some o):a<h.objs.size:=(x a o e).lt
theorem lH.fresh(x:lH P w H h)(e:h.objs.size≤a):H a=none:=by
 cases q:H a with
 |none=>rfl
 |some u=>exact absurd (Dy (x.lt q) e) (Gv _)
theorem lH.kept(x:lH P w H h)(k:∀b u,h.get? b=some u→h'.get? b=some u):lH P w H h':=λa o e=>
 (x a o e).qH (λb u _ q=>k b u q) (λ_ q=>q) λ_ _ q=>q
theorem lH.laid(x:lH P w H h)(k:∀b u,h.get? b=some u→h'.get? b=some u)(hp:h.objs.size≤a)(new:bZ P w (AK H a o) h' a o):lH P w (AK H a o) h':=λb u e=>by
 have hn:=x.fresh hp;by_cases hb:b=a
 ·subst hb;rw[BZ]at e;cases e;exact new
 ·rw[Al hb]at e
  exact(x b u e).qH (λc v _ q=>k c v q) (λc q=>by rw[Al (FV q hn)];exact q) λc xs q=>by rw[Al (FV q hn)];exact q
end
def Rd(H:A4)(a:Addr)(u:HO):Prop:=H a=some u∨∃o,H a=some (.frz o u)
theorem Rd.ok{u:HO}(r:Rd H a u)(x:lH P w H h):bZ P w H h a u:=by
 rcases r with r|⟨o,r⟩
 ·exact x a u r
 ·let⟨_,q⟩:=x a _ r
  exact q
def Ll:Option HO→Prop
 |some (.lst _)=>True
 |some (.dK _)=>True
 |some (.dT _)=>True
 |some (.set _ _)=>True
 |some (.ins _ _ _)=>True
 |some (.ext _)=>True
 |_=>False
section
variable {P: Program}{w: World}{H: A4}{h: Heap}{x e: Addr}{o': HO}
theorem lH.write(ok:lH P w H h)(mu:Ll (H x))(he:e=x∨H e=some (.own x))(k:∀b u,b≠e→h.get? b=some u→h'.get? b=some u)(Ju:∃u,h'.get? e=some u)
  (new:bZ P w (AK H x o') h' x o'):lH P w (AK H x o') h':=λb u q=>by
 have Lw:∀c y,H c=some (.own y)→c≠x:=λc y r z=>by subst z;rw[r]at mu;exact mu
 have OS:∀c xs,H c=some (.tup xs)→c≠x:=λc xs r z=>by subst z;rw[r]at mu;exact mu
 by_cases hb:b=x
 ·subst hb;rw[BZ]at q;cases q;exact new
 ·rw[Al hb]at q
  by_cases ID:b=e
  ·have q':H b=some (.own x):=by
    rcases he with z|z
    ·exact absurd (ID.trans z) hb
    ·rw[ID];exact z
   rw[q]at q';cases q';let⟨v,hv⟩:=Ju;exact⟨v,by rw[ID];exact hv⟩
  ·exact(ok b u q).qH (λc v hc r=>k c v ?_ r) (λc r=>by rw[Al (Lw c b r)];exact r) λc xs r=>by rw[Al (OS c xs r)];exact r
   rcases hc with rfl|hc
   ·exact ID
   ·rintro rfl
    rcases he with z|z
    ·exact Lw c b hc z
    ·rw[hc]at z;cases z;exact hb rfl
end
structure Un(fs ex:List Addr)(H H':A4)(h h':Heap):Prop where
 keep:∀b o,h.get? b=some o→H b=none→b∉fs→b∉ex→h'.get? b=some o
 slot:∀b o,h.get? b=some o→H b=none→b∈fs→b∉ex→∃sl,h'.get? b=some {o with slots:=sl}
 free:∀b o,h.get? b=some o→H b=none→b∉ex→H' b=none
 there:∀b o,h.get? b=some o→b∉ex→∃o',h'.get? b=some o'
 lM:∀b xs,H b=some (.tup xs)→H' b=some (.tup xs)
 lC:∀b o u,H b=some (.frz o u)→H' b=some (.frz o u)
 lO:∀b ps,H b=some (.tbl ps)→∃more,H' b=some (.tbl (ps++more))
section
variable {fs ex: List Addr}{H H1: A4}{h h1: Heap}{a x e: Addr}{o: HO}
theorem Un.any(u:Un fs ex H H1 h h1){ob:Obj}(q:h.get? b=some ob)(n:H b=none)(hx:b∉ex):∃sl,h1.get? b=some {ob with slots:=sl}:=by
 by_cases hb:b∈fs
 ·exact u.slot b ob q n hb hx
 ·exact⟨ob.slots,u.keep b ob q n hb hx⟩
theorem Un.kept(k:∀b u,h.get? b=some u→h'.get? b=some u):Un fs ex H H h h':=
 ⟨λb ob q _ _ _=>k b ob q,λb ob q _ _ _=>⟨ob.slots,k b ob q⟩,λ_ _ _ n _=>n,λb ob q _=>⟨ob,k b ob q⟩,λ_ _ q=>q,λ_ _ _ q=>q,λ_ ps q=>⟨#[],by rw[q];simp⟩⟩
theorem Un.refl:Un fs ex H H h h:=Un.kept λ_ _ q=>q
theorem Un.laid(k:∀b u,h.get? b=some u→h'.get? b=some u)(hp:h.objs.size≤a)(hn:H a=none):Un fs ex H (AK H a o) h h' where
 keep:=λb u q _ _ _=>k b u q
 slot:=λb u q _ _ _=>⟨u.slots,k b u q⟩
 free:=λb u q n _=>by rw[Al (B3 (Dy (Aq q) hp))];exact n
 there:=λb u q _=>⟨u,k b u q⟩
 lM:=λb xs q=>by rw[Al (FV q hn)];exact q
 lC:=λb u xs q=>by rw[Al (FV q hn)];exact q
 lO:=λb ps q=>⟨#[],by rw[Al (FV q hn),q];simp⟩
theorem Un.write(mu:Ll (H x))(he:e=x∨H e=some (.own x))(k:∀b u,b≠e→h.get? b=some u→h'.get? b=some u)(Ju:∃u,h'.get? e=some u):Un fs ex H (AK H x o) h h':=by
 have hx:∀b,H b=none→b≠x:=λb n z=>by subst z;rw[n]at mu;exact mu
 have hb:∀b,H b=none→b≠e:=λb n z=>by
  subst z;rcases he with r|r
  ·exact hx b n r
  ·rw[n]at r;cases r
 have hm:∀b u,H b=some u→¬Ll (some u)→b≠x:=λb u q nm z=>by subst z;rw[q]at mu;exact nm mu
 exact⟨λb u q n _ _=>k b u (hb b n) q,λb u q n _ _=>⟨u.slots,k b u (hb b n) q⟩,λb u q n _=>by rw[Al (hx b n)];exact n,λb u q _=>?_,
  λb xs q=>by rw[Al (hm b _ q λz=>z)];exact q,λb u xs q=>by rw[Al (hm b _ q λz=>z)];exact q,λb ps q=>⟨#[],by rw[Al (hm b _ q λz=>z),q];simp⟩⟩
 by_cases ID:b=e
 ·subst ID;exact Ju
 ·exact⟨u,k b u ID q⟩
end
def NY(h:Heap)(H:A4):List Addr:=(List.range h.objs.size).filter λa=>(H a).isSome
def HB(h:Heap)(H:A4):Heap:=W.hideAll h (NY h H)
theorem wK(h:Heap)(H:A4):(HB h H).objs.size=h.objs.size:=W.hideAll_size _ _
theorem wq{o:Obj}(e:h.get? b=some o)(n:H b=none):(HB h H).get? b=some o:=
 W.hideAll_get _ e λhm=>by
  have q:(H b).isSome=true:=(ZN.mp hm).2;rw[n]at q;simp at q
theorem zf{o:Obj}(e:(HB h H).get? b=some o):h.get? b=some o∧H b=none:=by
 have e':h.get? b=some o:=W.of_hideAll (NY h H) e;exact⟨e',?_⟩;cases q:H b with
 |none=>rfl
 |some x=>
  have hm:b∈NY h H:=ZN.mpr ⟨ZD.mpr (Aq e'),by simp[q]⟩;have z:(HB h H).get? b=none:=W.hideAll_none (NY h H) hm;rw[z]at e;cases e
def yp(g h:Heap)(L:Addr):ac:=(List.range h.objs.size).filterMap λa=>if a=L∨(g.get? a).isSome=true then none else(h.get? a).map λo=>(a,o)
def v4(g h:Heap)(L d:Addr):ac:=(yp g h L).filter λp=>decide (p.1≠d)
structure Mod(K:W.Frag)(mg:KK)(base:Heap):Prop where
 Fg:K.In base
 glob:base.Ns mainGlobals mg
 blt:∃mb,base.Ns builtinsNs mb∧∀x:Str,x ≠ "__name__" → mb x=bootBuiltins x
 nolimit:base.NoLimit
structure Cx where
 prog:Program
 w:World
 K:W.Frag
 mg:KK
 base:Heap
 A:Around
 N:List Str
 s₀:Shared
 H₀:A4
 env:Env
 outer:List Env
 stack:List Env
 ex:List Addr
 fn:Str→Bool
 calm:Bool
 pn:ac
 xe:xz
def DH(l:List Env):List Addr:=l.filterMap (·.frame)
abbrev Cx.fs(X:Cx):List Addr:=DH X.outer
def Io(sc:Scope)(x:Str):Prop:=sc.names.lookup x=some .local∨sc.names.lookup x=some .cell∨sc.names.lookup x=some .free
def GG(sc:Scope)(x:Str):Prop:=sc.names.lookup x=some .local∨sc.names.lookup x=some .cell
abbrev Fk(X:Cx)(x:Str):Prop:=X.fn x=true∨X.env.scope.names.lookup x=some .local
def Look(env:Env)(h:Heap)(m:KK)(x:Str)(u:Value):Prop:=
 (env.kindOf x=some .local∧m x=some u)∨((env.kindOf x=some .cell∨env.kindOf x=some .free)∧∃c,env.cells.lookup x=some c∧h.IsCell c (some u))
structure Cx.Ok(X:Cx):Prop where
 mod:Mod X.K X.mg X.base
 kind:X.env.scope.kind=.function
 glob:X.env.globals=mainGlobals
 blt:X.env.builtins=builtinsNs
 above:X.s₀.heap.objs.size≤X.env.locals
 inj:∀x y c,X.env.cells.lookup x=some c→X.env.cells.lookup y=some c→x=y
 has:∀x,(X.env.kindOf x=some .cell∨X.env.kindOf x=some .free)→∃c,X.env.cells.lookup x=some c
 Fz:∀x c,X.fn x=true→X.env.cells.lookup x=some c→X.s₀.heap.objs.size≤c
 hd:X.calm=true→X.A.handled=none
 frames:X.A.frames=some X.stack
 Gi:X.stack=X.outer∨(X.stack=X.env::X.outer∧X.env.frame=some X.env.locals)
 Cq:∀b∈X.ex,b≠X.env.locals∧∀x c,X.env.cells.lookup x=some c→c≠b
 bs:∀b o,X.base.get? b=some o→X.s₀.heap.get? b=some o∧X.H₀ b=none
 B6:X.base.objs.size≤X.s₀.heap.objs.size
 ug:∀b o,X.base.get? b=some o→b∉X.ex
 oF:∀b∈X.ex,b∉X.fs
 kH:X.s₀.heap.FunFrames X.base X.outer
 Cp:∀b∈X.fs,X.H₀ b=none
structure Inv(X:Cx)(v0:ac)(σ:List (Option V))(H:A4)(s:Shared):Prop where
 ok:X.Ok
 os:s.os=X.s₀.os
 bare:AllBare s.gens
 base:Un X.fs X.ex X.H₀ H X.s₀.heap s.heap
 loc:∃m,s.heap.Ns X.env.locals m∧∀(i:Nat) (x:Str) (v:V),X.N[i]?=some x→σ[i]?=some (some v)→Io X.env.scope x→∃u,RelV v u∧Look X.env s.heap m x u
 cell:∀x c,X.env.cells.lookup x=some c→∃v,s.heap.IsCell c v
 free:H X.env.locals=none
 gU:∀x c,X.env.cells.lookup x=some c→H c=none
 pin:∀p∈X.pn++v0,s.heap.get? p.1=some p.2∧H p.1=none∧p.1≠X.env.locals∧p.1∉X.fs∧∀v,p.2.data≠.cell v
 bO:lH X.prog X.w H s.heap
 len:σ.length=X.N.length
section
variable {v0: List (Addr×Obj)}{σ: List (Option V)}{H: A4}{s: Shared}
theorem Cx.Ok.OV(ok:X.Ok){o:Obj}(e:X.base.get? b=some o):b∉X.fs:=λhb=>by
 have:=(ok.kH.mem hb).1;rw[e]at this;cases this
theorem Inv.bs(I:Inv X v0 σ H s):∀b o,X.base.get? b=some o→s.heap.get? b=some o∧H b=none:=λb o e=>
 ⟨I.base.keep b o (I.ok.bs b o e).1 (I.ok.bs b o e).2 (I.ok.OV e) (I.ok.ug b o e),I.base.free b o (I.ok.bs b o e).1 (I.ok.bs b o e).2 (I.ok.ug b o e)⟩
theorem Inv.bk(I:Inv X v0 σ H s):∀b o,X.base.get? b=some o→s.heap.get? b=some o:=λb o e=>(I.bs b o e).1
theorem Inv.mod(I:Inv X v0 σ H s):Mod X.K X.mg X.base:=I.ok.mod
theorem Inv.mr(I:Inv X v0 σ H s):X.K.In s.heap:=I.ok.mod.Fg.keeps I.bk
theorem Inv.lt(I:Inv X v0 σ H s):X.env.locals<s.heap.objs.size:=let⟨_,hn,_⟩:=I.loc;hn.lt
theorem Inv.sz(I:Inv X v0 σ H s):X.s₀.heap.objs.size≤s.heap.objs.size:=DA I.ok.above (CG I.lt)
theorem Inv.OU(I:Inv X v0 σ H s)(h:s.heap.objs.size≤a):a∉X.fs:=λhb=>by
 let⟨_,⟨o,ho,_⟩⟩:=I.ok.kH.mem hb;exact absurd (Dy (Aq ho) (DA I.sz h)) (Gv _)
theorem Inv.IX(I:Inv X v0 σ H s):∀x c,X.env.cells.lookup x=some c→c≠X.env.locals:=λx c e z=>by
 let⟨v,o,ho,hd⟩:=I.cell x c e;let⟨m,⟨o',es,ep,oR,IC,_⟩,_⟩:=I.loc;rw[z,oR]at ho;cases ho;rw[IC]at hd;cases hd
theorem Inv.kH(I:Inv X v0 σ H s):s.heap.FunFrames X.base X.outer:=by
 have all:∀(l:List Env),(∀b∈DH l,b∈X.fs)→X.s₀.heap.FunFrames X.base l→s.heap.FunFrames X.base l:=by
  intro l;induction l with
  |nil=>intro _ _;trivial
  |cons env r ih=>
   intro hs hl;let⟨hk,⟨L,o,hf,hn,ho,hd⟩,hr⟩:=hl;have hL:L∈X.fs:=hs L (by unfold DH;rw[X8,hf];exact K9);let⟨sl,e⟩:=I.base.slot L o ho (I.ok.Cp L hL) hL λz=>I.ok.oF L z hL;exact⟨hk,Ψ2 L _ ⟨hf,hn,e,hd⟩,ih (λb hb=>hs b (by unfold DH;rw[X8,hf];exact Dz _ hb)) hr⟩
 exact all X.outer (λ_ hb=>hb) I.ok.kH
theorem Inv.stack(I:Inv X v0 σ H s):s.heap.FunFrames X.base X.stack:=by
 rcases I.ok.Gi with e|⟨e,hf⟩
 ·rw[e];exact I.kH
 ·rw[e]
  let⟨m,hn,_⟩:=I.loc;exact .cons (by rw[I.ok.kind];decide) hf hn ?_ I.kH;exact Heap.get?_none_of_le (DA I.ok.B6 I.ok.above)
theorem Inv.rM(I:Inv X v0 σ H s):∀b∈DH X.stack,b∈X.env.locals::X.fs:=λb hb=>by
 rcases I.ok.Gi with e|⟨e,hf⟩
 ·rw[e]at hb;exact Dz _ hb
 ·rw[e]at hb
  unfold DH at hb;rw[X8,hf]at hb;exact hb
theorem Inv.oO(I:Inv X v0 σ H s):∀b∈DH X.stack,H b=none:=λb hb=>by
 rcases XO.mp (I.rM b hb)with e|hb
 ·rw[e];exact I.free
 ·let⟨_,⟨o,ho,_⟩⟩:=I.ok.kH.mem hb
  exact I.base.free b o ho (I.ok.Cp b hb) λz=>I.ok.oF b z hb
theorem Inv.step(I:Inv X v0 σ H s)
  (Cm:∀b∈ch,(b∈X.ex∨X.s₀.heap.objs.size≤b)∧b≠X.env.locals∧(∀x c,X.env.cells.lookup x=some c→c≠b)∧∀p∈X.pn++v0,p.1≠b)
  (keep:∀b o,b≠X.env.locals→b∉X.fs→b∉ch→s.heap.get? b=some o→H b=none→h'.get? b=some o)
  (slot:∀b o,b≠X.env.locals→b∈X.fs→b∉ch→s.heap.get? b=some o→H b=none→∃sl,h'.get? b=some {o with slots:=sl}) (free:∀b o,b∉ch→s.heap.get? b=some o→H b=none→H' b=none)
  (there:∀b o,b∉ch→s.heap.get? b=some o→∃o',h'.get? b=some o')
  (lM:∀b xs,H b=some (.tup xs)→H' b=some (.tup xs)) (lC:∀b o u,H b=some (.frz o u)→H' b=some (.frz o u)) (lO:∀b ps,H b=some (.tbl ps)→∃more,H' b=some (.tbl (ps++more)))
  (ns:∀m,s.heap.Ns X.env.locals m→h'.Ns X.env.locals m) (bO:lH X.prog X.w H' h') (hg:AllBare g') :
  Inv X v0 σ H' {s with heap:=h',gens:=g',drawn:=d',toks:=t'}:=by
 have Rc:∀b o,X.s₀.heap.get? b=some o→b≠X.env.locals:=λb o e=>B3 (Dy (Aq e) I.ok.above);have M9:∀b o,X.s₀.heap.get? b=some o→b∉X.ex→b∉ch:=λb o e hx hb=>by
  rcases(Cm b hb).1 with z|z
  ·exact hx z
  ·exact absurd (Dy (Aq e) z) (Gv _)
 have cellK:∀x c,X.env.cells.lookup x=some c→∀v,s.heap.IsCell c v→h'.IsCell c v:=λx c e v ξ=>Ξ12 ξ λo ho hd=>by
  have Bf:c∉ch:=λz=>(Cm c z).2.2.1 x c e rfl;by_cases hc:c∈X.fs
  ·let⟨sl,q⟩:=slot c o (I.IX x c e) hc Bf ho (I.gU x c e)
   exact⟨_,q,hd⟩
  ·exact⟨o,keep c o (I.IX x c e) hc Bf ho (I.gU x c e),hd⟩
 exact⟨I.ok,I.os,hg,⟨λb o e n hb hx=>?_,λb o e n hb hx=>?_,λb o e n hx=>?_,λb o e hx=>?_,λb xs e=>lM b xs (I.base.lM b xs e),λb o xs e=>lC b o xs (I.base.lC b o xs e),λb ps e=>?_⟩,?_,λx c e=>?_,?_,λx c e=>?_,λp hp=>?_,bO,I.len⟩
 ·exact keep b o (Rc b o e) hb (M9 b o e hx) (I.base.keep b o e n hb hx) (I.base.free b o e n hx)
 ·let⟨sl,e1⟩:=I.base.slot b o e n hb hx
  let⟨Tt,e2⟩:=slot b _ (Rc b o e) hb (M9 b o e hx) e1 (I.base.free b o e n hx);exact⟨Tt,e2⟩
 ·let⟨o',e1⟩:=I.base.there b o e hx
  exact free b o' (M9 b o e hx) e1 (I.base.free b o e n hx)
 ·let⟨o',e1⟩:=I.base.there b o e hx
  exact there b o' (M9 b o e hx) e1
 ·let⟨m1,e1⟩:=I.base.lO b ps e
  let⟨m2,e2⟩:=lO b _ e1;exact⟨m1++m2,by rw[e2,Array.append_assoc]⟩
 ·let⟨m,hn,hl⟩:=I.loc
  exact⟨m,ns m hn,λi x v e1 e2 e3=>?_⟩;let⟨u,r,l⟩:=hl i x v e1 e2 e3;exact⟨u,r,?_⟩;rcases l with l|⟨k,c,e,z⟩
  ·exact .inl l
  ·exact .inr ⟨k,c,e,cellK x c e _ z⟩
 ·let⟨v,z⟩:=I.cell x c e
  exact⟨v,cellK x c e v z⟩
 ·let⟨m,⟨o,_,_,ho,_⟩,_⟩:=I.loc
  exact free _ o (λz=>(Cm _ z).2.1 rfl) ho I.free
 ·let⟨v,o,ho,hd⟩:=I.cell x c e
  exact free c o (λz=>(Cm c z).2.2.1 x c e rfl) ho (I.gU x c e)
 ·let⟨e,n,ne,nf,d⟩:=I.pin p hp
  have Bf:p.1∉ch:=λz=>(Cm p.1 z).2.2.2 p hp rfl;exact⟨keep p.1 p.2 ne nf Bf e n,free p.1 p.2 Bf e n,ne,nf,d⟩
theorem Inv.un(I:Inv X v0 σ H s)(u:Un X.fs [] H H' s.heap h')(bO:lH X.prog X.w H' h'):Inv X v0 σ H' {s with heap:=h',toks:=t'}:=by
 let⟨m,⟨o,es,ep,ho,r⟩,_⟩:=id I.loc;let⟨sl,hL⟩:=u.any ho I.free (by simp);exact I.step (g':=s.gens) (d':=s.drawn) (ch:=[]) (λ_ z=>nomatch z) (λb o _ hb _ e n=>u.keep b o e n hb (by simp)) (λb o _ hb _ e n=>u.slot b o e n hb (by simp)) (λb o _ e n=>u.free b o e n (by simp)) (λb o _ e=>u.there b o e (by simp)) u.lM u.lC u.lO (λm' hm=>by
  let⟨o',Qe,Qf,oR,r'⟩:=hm;rw[ho]at oR;cases oR;exact Ψ3 _ Qe Qf ⟨hL,r'⟩) bO I.bare
theorem Inv.call(I:Inv X v0 σ H s)(u:Un (DH X.stack) ch H H' s.heap h')(bO:lH X.prog X.w H' h')(hg:AllBare g')
  (Cm:∀b∈ch,(b∈X.ex∨X.s₀.heap.objs.size≤b)∧b≠X.env.locals∧(∀x c,X.env.cells.lookup x=some c→c≠b)∧∀p∈X.pn++v0,p.1≠b) :
  Inv X v0 σ H' {s with heap:=h',gens:=g',drawn:=d',toks:=t'}:=by
 let⟨m,⟨o,es,ep,ho,r⟩,_⟩:=id I.loc;let⟨sl,hL⟩:=u.any ho I.free λz=>(Cm _ z).2.1 rfl;exact I.step (ch:=ch) Cm (λb o hL hb hc e n=>u.keep b o e n (λz=>(XO.mp (I.rM b z)).elim hL hb) hc) (λb o _ _ hc e n=>u.any e n hc) (λb o hc e n=>u.free b o e n hc) (λb o hc e=>u.there b o e hc) u.lM u.lC u.lO (λm' hm=>by
  let⟨o',Qe,Qf,oR,r'⟩:=hm;rw[ho]at oR;cases oR;exact Ψ3 _ Qe Qf ⟨hL,r'⟩) bO hg
theorem Inv.turned(I:Inv X v0 σ H s)(k:∀b o,b≠it→s.heap.get? b=some o→h'.get? b=some o)(hn:H it=none)(hL:it≠X.env.locals)
  (h1:it∈X.ex∨X.s₀.heap.objs.size≤it) (h2:∀x c,X.env.cells.lookup x=some c→c≠it) (h3:∀p∈X.pn++v0,p.1≠it):Inv X v0 σ H {s with heap:=h',toks:=t'}:=by
 have Rb:∀b u,H b=some u→b≠it:=λb u e z=>by rw[z,hn]at e;cases e
 exact I.step (g':=s.gens) (d':=s.drawn) (ch:=[it]) (λb hb=>?_) (λb o _ _ hc e _=>k b o (λz=>hc (by simp[z])) e) (λb o _ _ hc e _=>⟨o.slots,k b o (λz=>hc (by simp[z])) e⟩) (λ_ _ _ _ n=>n)
  (λb o hc e=>⟨o,k b o (λz=>hc (by simp[z])) e⟩) (λ_ _ e=>e) (λ_ _ _ e=>e) (λb ps e=>⟨#[],by rw[e];simp⟩) (λm hm=>?_) (λb u e=>?_) I.bare
 ·have e:b=it:=by simpa using hb
  subst e;exact⟨h1,hL,h2,h3⟩
 ·let⟨o,es,ep,ho,r⟩:=hm
  exact Ψ3 o es ep ⟨k _ o (CO hL) ho,r⟩
 ·exact(I.bO b u e).qH (λc v hc q=>k c v ?_ q) (λ_ q=>q) λ_ _ q=>q
  rcases hc with z|z
  ·rw[z];exact Rb b u e
  ·exact Rb c _ z
theorem Inv.tok(I:Inv X v0 σ H s)(t:Nat):Inv X v0 σ H {s with toks:=t}:=I.un (h':=s.heap) (t':=t) Un.refl I.bO
theorem Inv.kept(I:Inv X v0 σ H s)(k:∀b u,s.heap.get? b=some u→h'.get? b=some u):Inv X v0 σ H {s with heap:=h',toks:=t'}:=I.un (Un.kept k) (I.bO.kept k)
theorem Inv.laid(I:Inv X v0 σ H s)(k:∀b u,s.heap.get? b=some u→h'.get? b=some u)(hp:s.heap.objs.size≤a)(new:bZ X.prog X.w (AK H a o) h' a o):
  Inv X v0 σ (AK H a o) {s with heap:=h',toks:=t'}:=I.un (Un.laid k hp (I.bO.fresh hp)) (I.bO.laid k hp new)
theorem Inv.write{x e:Addr}(I:Inv X v0 σ H s)(mu:Ll (H x))(he:e=x∨H e=some (.own x))(k:∀b u,b≠e→s.heap.get? b=some u→h'.get? b=some u)(Ju:∃u,h'.get? e=some u)
  (new:bZ X.prog X.w (AK H x o) h' x o):Inv X v0 σ (AK H x o) {s with heap:=h',toks:=t'}:=I.un (Un.write mu he k Ju) (I.bO.write mu he k Ju new)
theorem Inv.xv{pN:ac}(I:Inv X v0 σ H s)(h:∀p∈pN,s.heap.get? p.1=some p.2∧H p.1=none∧p.1≠X.env.locals∧p.1∉X.fs∧∀v,p.2.data≠.cell v):Inv X pN σ H s:=
 ⟨I.ok,I.os,I.bare,I.base,I.loc,I.cell,I.free,I.gU,λp hp=>(YE.mp hp).elim (λz=>I.pin p (KO _ z)) (h p),I.bO,I.len⟩
theorem bu(hN:N.Nodup)(a:N[i]?=some x)(b:N[j]?=some x):i=j:=by
 obtain⟨h1,e1⟩:=YG.mp a;obtain⟨h2,e2⟩:=YG.mp b;exact(List.getElem_inj hN).mp (e1.trans e2.symm)
theorem mQ{Q:Unit→Shared→Prop}(I:Inv X v0 σ H s)(hN:X.N.Nodup)(hi:X.N[i]?=some x)(hx:GG X.env.scope x)(r:RelV v u)
  (h:∀s',Inv X v0 (σ.set i (some v)) H s'→(∃a,Heap.SameBut a s.heap s'.heap∧(a=X.env.locals∨X.env.cells.lookup x=some a))→Q () s') (hf:Fk X x:=by first|exact .inl rfl|exact .inr rfl|assumption):wpAny M A (storeName X.env x u) Q E s:=by
 let⟨m,hn,hl⟩:=id I.loc;have PN:(X.env.scope.kind == .class||(X.env.scope.kind == .module&&X.env.locals != X.env.globals))=false:=by rw[I.ok.kind];rfl
 have RB:i<σ.length:=by rw[I.len];exact(YG.mp hi).1
 have IX:=I.IX;have tracked:∀{a:Addr} {h':Heap},(∃o,s.heap.get? a=some o∧H a=none)→Heap.SameBut a s.heap h'→lH X.prog X.w H h':=λ{a h'} ha hs b ob e=>by
  let⟨_,_,Fl⟩:=ha;exact(I.bO b ob e).qH (λc w' hc q=>(hs.2 c ?_).trans q) (λ_ q=>q) λ_ _ q=>q;rintro rfl;rcases hc with rfl|hc
  ·rw[Fl]at e;cases e
  ·rw[Fl]at hc;cases hc
 rcases hx with hk|hk
 ·exact wpAny_storeName_local hk hn (λh' Py hs=>?_) PN
  let⟨oL,_,_,UP,_⟩:=id hn;exact h _ ⟨I.ok,I.os,I.bare,⟨λb o e n hb hx=>?_,λb o e n hb hx=>?_,I.base.free,λb o e hx=>?_,I.base.lM,I.base.lC,I.base.lO⟩,⟨_,Py,λj y v' e1 e2 e3=>?_⟩,λy c e=>?_,I.free,I.gU,λp hp=>?_,tracked ⟨oL,UP,I.free⟩ hs,by simpa using I.len⟩ ⟨_,hs,.inl rfl⟩
  ·exact(hs.2 b (B3 (Dy (Aq e) I.ok.above))).trans (I.base.keep b o e n hb hx)
  ·let⟨sl,e1⟩:=I.base.slot b o e n hb hx
   exact⟨sl,(hs.2 b (B3 (Dy (Aq e) I.ok.above))).trans e1⟩
  ·let⟨o',e1⟩:=I.base.there b o e hx
   exact⟨o',(hs.2 b (B3 (Dy (Aq e) I.ok.above))).trans e1⟩
  ·by_cases hj:j=i
   ·subst hj
    rw[hi]at e1;cases e1;rw[List.getElem?_set_self RB]at e2;cases e2;exact⟨u,r,.inl ⟨hk,by simp⟩⟩
   ·rw[List.getElem?_set_ne (CO hj)]at e2
    let⟨u',r',q⟩:=hl j y v' e1 e2 e3;exact⟨u',r',?_⟩;rcases q with⟨k,e⟩|⟨k,c,e,z⟩
    ·exact .inl ⟨k,?_⟩
     have:y≠x:=λe=>hj (bu hN e1 (e ▸ hi));simp[this,e]
    ·exact .inr ⟨k,c,e,z.sameBut hs (IX y c e)⟩
  ·let⟨w',z⟩:=I.cell y c e
   exact⟨w',z.sameBut hs (IX y c e)⟩
  ·let⟨e,n,ne,nf,d⟩:=I.pin p hp
   exact⟨(hs.2 p.1 ne).trans e,n,ne,nf,d⟩
 ·have PJ:X.fn x=true:=by
   rcases hf with z|z
   ·exact z
   ·rw[z]at hk;cases hk
  let⟨c,hc⟩:=I.ok.has x (.inl hk);let⟨w',z⟩:=I.cell x c hc;exact wpAny_storeName_cell I.ok.kind hk hc z (λh' Cn hs=>?_);let⟨oc,Nh,Px⟩:=id z;exact h {s with heap:=h'} ⟨I.ok,I.os,I.bare,⟨λb o e n hb hx=>?_,λb o e n hb hx=>?_,I.base.free,λb o e hx=>?_,I.base.lM,I.base.lC,I.base.lO⟩,⟨m,hn.sameBut hs (CO (IX x c hc)),λj y v' e1 e2 e3=>?_⟩,λy c' e=>?_,I.free,I.gU,λp hp=>?_,tracked ⟨oc,Nh,I.gU x c hc⟩ hs,by simpa using I.len⟩ ⟨c,hs,.inr hc⟩
  ·exact(hs.2 b (B3 (Dy (Aq e) (I.ok.Fz x c PJ hc)))).trans (I.base.keep b o e n hb hx)
  ·let⟨sl,e1⟩:=I.base.slot b o e n hb hx
   exact⟨sl,(hs.2 b (B3 (Dy (Aq e) (I.ok.Fz x c PJ hc)))).trans e1⟩
  ·let⟨o',e1⟩:=I.base.there b o e hx
   exact⟨o',(hs.2 b (B3 (Dy (Aq e) (I.ok.Fz x c PJ hc)))).trans e1⟩
  ·by_cases hj:j=i
   ·subst hj
    rw[hi]at e1;cases e1;rw[List.getElem?_set_self RB]at e2;cases e2;exact⟨u,r,.inr ⟨.inl hk,c,hc,Cn⟩⟩
   ·rw[List.getElem?_set_ne (CO hj)]at e2
    let⟨u',r',q⟩:=hl j y v' e1 e2 e3;exact⟨u',r',?_⟩;rcases q with q|⟨k,c',e,z'⟩
    ·exact .inl q
    ·exact .inr ⟨k,c',e,z'.sameBut hs ?_⟩
     rintro rfl;exact hj (bu hN e1 (I.ok.inj _ _ _ e hc ▸ hi))
  ·by_cases RE:c'=c
   ·subst RE;exact⟨_,Cn⟩
   ·let⟨w2,z2⟩:=I.cell y c' e
    exact⟨w2,z2.sameBut hs RE⟩
  ·let⟨e,n,ne,nf,d⟩:=I.pin p hp
   exact⟨(hs.2 p.1 ?_).trans e,n,ne,nf,d⟩;intro q;rw[q,Nh]at e;have q':oc=p.2:=Ek e;exact d w' (by rw[←q'];exact Px)
theorem Q2{Q:Unit→Shared→Prop}(I:Inv X v0 σ H s)(hN:X.N.Nodup)(hi:X.N[i]?=some x)(hx:GG X.env.scope x)(r:RelV v u)
  (h:∀s',Inv X v0 (σ.set i (some v)) H s'→Q () s') (hf:Fk X x:=by first|exact .inl rfl|exact .inr rfl|assumption):wpAny M A (storeName X.env x u) Q E s:=
 mQ I hN hi hx r (λs' I' _=>h s' I') hf
theorem Inv.Fy(I:Inv X v0 σ H s)(ho:s'.os=s.os)(u:Un (DH X.stack) ch H H' s.heap s'.heap)(bO:lH X.prog X.w H' s'.heap)(hg:AllBare s'.gens)
  (Cm:∀b∈ch,(b∈X.ex∨X.s₀.heap.objs.size≤b)∧b≠X.env.locals∧(∀x c,X.env.cells.lookup x=some c→c≠b)∧∀p∈X.pn++v0,p.1≠b):Inv X v0 σ H' s':=by
 obtain⟨h',g',d',t',o'⟩:=s';have e:o'=s.os:=ho;subst e;exact I.call (g':=g') (t':=t') (d':=d') u bO hg Cm
end
abbrev Ax:=Value→Option Addr→A4→Prop
abbrev St:=List (Option V)
abbrev Ac:=V→A4→Prop
abbrev AO:=St→A4→Ac→Prop
abbrev C0:=St→A4→(Bool→A4→Prop)→Prop
abbrev Bq:=St→A4→(List V→A4→Prop)→Prop
structure Ends where
 nx:St→A4→Prop
 rt:Ac
 bk:St→A4→Prop:=λ_ _=>False
 ct:St→A4→Prop:=λ_ _=>False
abbrev Bh:=Ends→St→A4→Prop
def BD(X:Cx)(v0:ac)(σ:St)(Q:Ac)(u:Value)(s':Shared):Prop:=∃v H',Inv X v0 σ H' s'∧RelV v u∧Q v H'
def IK(X:Cx)(v0:ac)(σ:St)(Q:Bool→A4→Prop)(b:Bool)(s':Shared):Prop:=∃H',Inv X v0 σ H' s'∧Q b H'
def Ls(X:Cx)(v0:ac)(σ:St)(Q:List V→A4→Prop)(us:List Value)(s':Shared):Prop:=∃vs H',Inv X v0 σ H' s'∧Vals vs us∧Q vs H'
def SP(X:Cx)(v0:ac)(D:Ends)(f:Flow)(s':Shared):Prop:=
 match f with
 |.next=>∃σ' H',Inv X v0 σ' H' s'∧D.nx σ' H'
 |.brk=>∃σ' H',Inv X v0 σ' H' s'∧D.bk σ' H'
 |.cont=>∃σ' H',Inv X v0 σ' H' s'∧D.ct σ' H'
 |.ret u=>∃v σ' H',Inv X v0 σ' H' s'∧RelV v u∧D.rt v H'
structure PE(X:Cx)(e:Expr)(t:AO):Prop where
 run:∀v0 s σ H (Q:Ac),Inv X v0 σ H s→t σ H Q→wpAny (model X.prog X.w) X.A (eval e X.env) (BD X v0 σ Q) X.xe s
instance {X:Cx}{e:Expr}{t:AO}:CoeFun (PE X e t) λ_=>∀v0 s σ H (Q:Ac),Inv X v0 σ H s→t σ H Q→wpAny (model X.prog X.w) X.A (eval e X.env) (BD X v0 σ Q) X.xe s:=⟨PE.run⟩
structure PT(X:Cx)(e:Expr)(t:C0):Prop where
 run:∀v0 s σ H (Q:Bool→A4→Prop),Inv X v0 σ H s→t σ H Q→wpAny (model X.prog X.w) X.A (isTrue e X.env (eval e X.env)) (IK X v0 σ Q) X.xe s
instance {X:Cx}{e:Expr}{t:C0}:CoeFun (PT X e t) λ_=>∀v0 s σ H (Q:Bool→A4→Prop),Inv X v0 σ H s→t σ H Q→wpAny (model X.prog X.w) X.A (isTrue e X.env (eval e X.env)) (IK X v0 σ Q) X.xe s:=⟨PT.run⟩
structure PW(X:Cx)(e:Expr)(t:C0):Prop where
 run:∀(whole:Sem Value) v0 s σ H (Q:Bool→A4→Prop),Inv X v0 σ H s→t σ H Q→wpAny (model X.prog X.w) X.A (isTrue e X.env whole) (IK X v0 σ Q) X.xe s
instance {X:Cx}{e:Expr}{t:C0}:CoeFun (PW X e t) λ_=>∀(whole:Sem Value) v0 s σ H (Q:Bool→A4→Prop),Inv X v0 σ H s→t σ H Q→wpAny (model X.prog X.w) X.A (isTrue e X.env whole) (IK X v0 σ Q) X.xe s:=⟨PW.run⟩
theorem PW.pt{X:Cx}{t:C0}(h:PW X e t):PT X e t:=⟨h.run _⟩
structure PA(X:Cx)(es:List Expr)(t:Bq):Prop where
 run:∀(pos:Pos) v0 s σ H (Q:List V→A4→Prop),Inv X v0 σ H s→t σ H Q→wpAny (model X.prog X.w) X.A (spliced (backTo pos (starEach es X.env))) (Ls X v0 σ Q) X.xe s
instance {X:Cx}{es:List Expr}{t:Bq}:CoeFun (PA X es t) λ_=>∀(pos:Pos) v0 s σ H (Q:List V→A4→Prop),Inv X v0 σ H s→t σ H Q→wpAny (model X.prog X.w) X.A (spliced (backTo pos (starEach es X.env))) (Ls X v0 σ Q) X.xe s:=⟨PA.run⟩
structure PS(X:Cx)(st:Stmt)(t:Bh):Prop where
 run:∀v0 s σ H (D:Ends),Inv X v0 σ H s→t D σ H→wpAny (model X.prog X.w) X.A (exec st X.env) (SP X v0 D) X.xe s
instance {X:Cx}{st:Stmt}{t:Bh}:CoeFun (PS X st t) λ_=>∀v0 s σ H (D:Ends),Inv X v0 σ H s→t D σ H→wpAny (model X.prog X.w) X.A (exec st X.env) (SP X v0 D) X.xe s:=⟨PS.run⟩
structure lG(X:Cx)(st:List Stmt)(t:Bh):Prop where
 run:∀v0 s σ H (D:Ends),Inv X v0 σ H s→t D σ H→wpAny (model X.prog X.w) X.A (execs st X.env) (SP X v0 D) X.xe s
instance {X:Cx}{st:List Stmt}{t:Bh}:CoeFun (lG X st t) λ_=>∀v0 s σ H (D:Ends),Inv X v0 σ H s→t D σ H→wpAny (model X.prog X.w) X.A (execs st X.env) (SP X v0 D) X.xe s:=⟨lG.run⟩
theorem AF{α:Type}{t:Sem α}{Q Q':α→Shared→Prop}(h:wpAny M A t Q E s)(hQ:∀a s,Q a s→Q' a s):wpAny M A t Q' E s:=BF h hQ λ_ _ x=>x
section
def jE(i:Nat):AO:=λσ H Q=>∃v,σ[i]?=some (some v)∧Q v H
def HU(v:V):AO:=λ_ H Q=>Q v H
theorem m3{pos:Pos}(hN:X.N[i]?=some x)(hv:Io X.env.scope x)(hd:(x ==("__debug__" : Str))=false:=by decide)(uv:(x ==("__classdict__" : Str))=false:=by decide):PE X (.Name x pos) (jE i):=by
 exact .mk ?_;intro v0 s σ H Q I h;obtain⟨v,e,h⟩:=h;let⟨m,hn,hl⟩:=I.loc;let⟨u,r,l⟩:=hl i x v hN e hv;have fin:BD X v0 σ Q u s:=Ψ2 v H ⟨I,r,h⟩;rcases l with⟨hk,hm⟩|⟨hk,c,hc,qe⟩
 ·exact Ja (XS I.ok.kind hk hn hm fin) hd
 ·rcases hk with hk|hk
  ·exact Ja (WH I.ok.kind hk hc qe fin) hd
  ·exact Ja (wpAny_loadName_free I.ok.kind hk hc qe fin uv) hd
theorem pK{i j pos}:PE X (.Constant (.int i) j pos) (HU (.int i)):=.mk λ_ _ _ H _ I h=>wpAny_Constant_int ⟨.int i,H,I.tok _,⟨_,rfl⟩,h⟩
theorem uR{b j pos}:PE X (.Constant (.bool b) j pos) (HU (.bl b)):=.mk λ_ _ _ H _ I h=>Constant_bool ⟨.bl b,H,I,rfl,h⟩
theorem mR{j pos}:PE X (.Constant .none j pos) (HU .non):=.mk λ_ _ _ H _ I h=>Constant_none ⟨.non,H,I,rfl,h⟩
theorem yX{x j pos}:PE X (.Constant (.str x) j pos) (HU (.str x)):=.mk λ_ _ _ H _ I h=>Calls.Constant_str ⟨.str x,H,I.tok _,⟨_,rfl⟩,h⟩
def BP(X:Cx)(x:Str):Prop:=X.env.kindOf x=some .globalImplicit
theorem Ji{pos:Pos}(I:Inv X v0 σ H s)(hg:BP X x)(hm:X.mg x=some u)(h:Q u s)
  (hd:(x ==("__debug__" : Str))=false:=by decide):wpAny (model X.prog X.w) X.A (eval (.Name x pos) X.env) Q E s:=
 Calls.Name_function_global I.ok.kind hg (Calls.loadGlobal_global (by rw[I.ok.glob];exact I.mod.glob.keeps I.bk) hm h) hd
theorem Jh{pos:Pos}(I:Inv X v0 σ H s)(hg:BP X x)(hm:X.mg x=none)(hv:bootBuiltins x=some u)(h:Q u s)
  (hn:x ≠ "__name__" := by decide) (hd:(x ==("__debug__" : Str))=false:=by decide):wpAny (model X.prog X.w) X.A (eval (.Name x pos) X.env) Q E s:=by
 let⟨mb,h1,h2⟩:=I.mod.blt;exact Calls.Name_function_global I.ok.kind hg (Calls.loadGlobal_builtin (by rw[I.ok.glob];exact I.mod.glob.keeps I.bk) hm (by rw[I.ok.blt];exact h1.keeps I.bk) ((h2 x hn).trans hv) h) hd
theorem vI{pos:Pos}(hg:BP X x)(hm:X.mg x=some u)(r:RelV v u)(hd:(x ==("__debug__" : Str))=false:=by decide):PE X (.Name x pos) (HU v):=
 .mk λ_ _ _ H _ I h=>Ji I hg hm ⟨v,H,I,r,h⟩ hd
theorem uc{pos:Pos}(hg:BP X x)(hm:X.mg x=none)(hv:bootBuiltins x=some u)(r:RelV v u)(hn:x ≠ "__name__" := by decide)(hd:(x ==("__debug__" : Str))=false:=by decide):PE X (.Name x pos) (HU v):=
 .mk λ_ _ _ H _ I h=>Jh I hg hm hv ⟨v,H,I,r,h⟩ hn hd
variable {a b: Expr}
structure PC(X:Cx)(op:CmpOp)(a b:Expr)(t:AO):Prop where
 run:∀v0 s σ H (Q:Ac),Inv X v0 σ H s→t σ H Q→
  wpAny (model X.prog X.w) X.A (eval a X.env) (λv s₁=>wpAny (model X.prog X.w) X.A (eval b X.env) (λu s₂=>wpAny (model X.prog X.w) X.A (compareOp op v u) (BD X v0 σ Q) X.xe s₂) X.xe s₁) X.xe s
instance {X:Cx}{op:CmpOp}{a b:Expr}{t:AO}:CoeFun (PC X op a b t) λ_=>∀v0 s σ H (Q:Ac),Inv X v0 σ H s→t σ H Q→wpAny (model X.prog X.w) X.A (eval a X.env) (λv s₁=>wpAny (model X.prog X.w) X.A (eval b X.env) (λu s₂=>wpAny (model X.prog X.w) X.A (compareOp op v u) (BD X v0 σ Q) X.xe s₂) X.xe s₁) X.xe s:=⟨PC.run⟩
def KA(t:AO):C0:=λσ H Q=>t σ H λx H1=>∃c,x=.bl c∧Q c H1
theorem wL{t:AO}(h:PE X e t)(he:∀whole,isTrue e X.env whole=(do let v ←whole;standAt e.pos;holding [v] (truthy v)):=by intro _;rfl):PT X e (KA t):=by
 exact .mk ?_;intro v0 s σ H Q I hw;exact isTrue_plain (AF (h v0 s σ H _ I hw) λv s1 ξ=>Ξ23 ξ λx H1 I1 r1 q1=>?_) (he _);let⟨d,rfl,q⟩:=q1;cases r1;exact G6 ⟨H1,I1,q⟩
variable {tA MV: C0}{v4: List Expr}
def ya(t u:C0):C0:=λσ H Q=>t σ H λc H1=>if c=true then u σ H1 Q else Q false H1
def vw(t u:C0):C0:=λσ H Q=>t σ H λc H1=>if c=true then Q true H1 else u σ H1 Q
def yz(t:C0):C0:=λσ H Q=>t σ H λc H1=>Q (!c) H1
theorem rF(ha:PT X a tA):PW X (.BoolOp .And [a] pos) tA:=by
 exact .mk ?_;intro wh v0 s σ H Q I h;exact isTrue_and (AF (ha v0 s σ H Q I h) λc s1 e=>?_);cases c with
 |true=>exact isTrue_and_nil e
 |false=>exact e
theorem o9(ha:PT X a tA):PW X (.BoolOp .Or [a] pos) tA:=by
 exact .mk ?_;intro wh v0 s σ H Q I h;exact isTrue_or (AF (ha v0 s σ H Q I h) λc s1 e=>?_);cases c with
 |false=>exact isTrue_or_nil e
 |true=>exact e
theorem qw(ha:PT X a tA)(hb:PW X (.BoolOp .And (b::v4) pos) MV):PW X (.BoolOp .And (a::b::v4) pos) (ya tA MV):=by
 exact .mk ?_;intro wh v0 s σ H Q I h;exact isTrue_and (AF (ha v0 s σ H _ I h) λc s1 ξ=>Ξ12 ξ λH1 I1 q1=>?_);cases c with
 |true=>exact hb wh v0 s1 σ H1 Q I1 q1
 |false=>exact⟨H1,I1,q1⟩
theorem nH(ha:PT X a tA)(hb:PW X (.BoolOp .Or (b::v4) pos) MV):PW X (.BoolOp .Or (a::b::v4) pos) (vw tA MV):=by
 exact .mk ?_;intro wh v0 s σ H Q I h;exact isTrue_or (AF (ha v0 s σ H _ I h) λc s1 ξ=>Ξ12 ξ λH1 I1 q1=>?_);cases c with
 |true=>exact⟨H1,I1,q1⟩
 |false=>exact hb wh v0 s1 σ H1 Q I1 q1
theorem yx(ha:PT X a tA):PT X (.UnaryOp .Not a pos) (yz tA):=by
 exact .mk ?_;intro v0 s σ H Q I h;exact isTrue_not (ha v0 s σ H (λc H1=>Q (!c) H1) I h)
def sP(ta tb:AO):AO:=λσ H Q=>ta σ H λx H1=>∃c,x=.bl c∧if c=true then tb σ H1 Q else Q (.bl false) H1
def qv(ta tb:AO):AO:=λσ H Q=>ta σ H λx H1=>∃c,x=.bl c∧if c=true then Q (.bl true) H1 else tb σ H1 Q
def zS(ta:AO):AO:=λσ H Q=>ta σ H λx H1=>∃c,x=.bl c∧Q (.bl (!c)) H1
theorem sV{op}{t:AO}(h:PE X a t):PE X (.BoolOp op [a] pos) t:=.mk λv0 s σ H Q I hw=>BoolOp_one (h v0 s σ H Q I hw)
theorem zx(ha:PE X a ta)(hb:PE X (.BoolOp .And (b::v4) pos) tb):PE X (.BoolOp .And (a::b::v4) pos) (sP ta tb):=by
 exact .mk ?_;intro v0 s σ H Q I h;exact BoolOp_and (AF (ha v0 s σ H _ I h) λv s1 ξ=>Ξ23 ξ λx H1 I1 r1 q1=>?_);obtain⟨c,rfl,q1⟩:=q1;cases r1;exact G6 ?_;cases c with
 |true=>exact hb v0 s1 σ H1 Q I1 q1
 |false=>exact Ψ2 (.bl false) H1 ⟨I1,rfl,q1⟩
theorem iN(ha:PE X a ta)(hb:PE X (.BoolOp .Or (b::v4) pos) tb):PE X (.BoolOp .Or (a::b::v4) pos) (qv ta tb):=by
 exact .mk ?_;intro v0 s σ H Q I h;exact BoolOp_or (AF (ha v0 s σ H _ I h) λv s1 ξ=>Ξ23 ξ λx H1 I1 r1 q1=>?_);obtain⟨c,rfl,q1⟩:=q1;cases r1;exact G6 ?_;cases c with
 |false=>exact hb v0 s1 σ H1 Q I1 q1
 |true=>exact Ψ2 (.bl true) H1 ⟨I1,rfl,q1⟩
theorem nw(ha:PE X a ta):PE X (.UnaryOp .Not a pos) (zS ta):=by
 exact .mk ?_;intro v0 s σ H Q I h;exact UnaryOp_ (AF (ha v0 s σ H _ I h) λv s1 ξ=>Ξ23 ξ λx H1 I1 r1 q1=>?_);obtain⟨c,rfl,q1⟩:=q1;cases r1;exact not_of (G6 ⟨.bl (!c),H1,I1,rfl,q1⟩)
end
def kB(K:W.Frag)(H:A4)(a:Addr)(xs:List V):Prop:=
 Rd H a (.lst xs) ∨
  ∃(o:Obj) (bj:Array Value) (n:Nat),K.lookup a=some o∧o.cls=.type "list" ∧ o.dict=none∧o.data=.seq bj n∧bj.size≤sizeLine∧Vals xs bj.toList
def dW(K:W.Frag)(H:A4)(a:Addr)(xs:List V):Prop:=
 Rd H a (.tup xs) ∨
  ∃(o:Obj) (bj:Array Value) (n:Nat),K.lookup a=some o∧o.cls=.type "tuple" ∧ o.data=.seq bj n∧bj.size≤sizeLine∧Vals xs bj.toList
def zA:Value→Option V
 |.none=>some .non
 |.bool b=>some (.bl b)
 |.int i _=>some (.int i)
 |.str x _=>some (.str x)
 |.bytes b _=>some (.byt b)
 |.float b _=>some (.flt b)
 |.ref a=>some (.ref a)
 |.type n=>some (.ty n)
 |_=>none
theorem RelV.abs{x:V}(r:RelV x u):zA u=some x:=by
 cases x with
 |non=>cases r;rfl
 |bl _=>cases r;rfl
 |int _=>let⟨t,rfl⟩:=r;rfl
 |str _=>let⟨t,rfl⟩:=r;rfl
 |byt _=>let⟨t,rfl⟩:=r;rfl
 |flt _=>let⟨t,rfl⟩:=r;rfl
 |ref _=>cases r;rfl
 |ty _=>cases r;rfl
theorem RelV.inj{x:V}(r:RelV x u)(q:RelV y u):x=y:=Ek (r.abs.symm.trans q.abs)
theorem Vals.inj:∀{xs ys:List V} {us:List Value},Vals xs us→Vals ys us→xs=ys
 |_,_,_,.nil,.nil=>rfl
 |_,_,_,.cons r t,.cons r' t'=>by rw[r.inj r',Vals.inj t t']
section
variable {v0: List (Addr×Obj)}{σ: St}{H: A4}{s: Shared}{a: Addr}{xs ys: List V}
theorem kB.of(h:H a=some (.lst xs)):kB K H a xs:=.inl (.inl h)
theorem dW.of(h:H a=some (.tup xs)):dW K H a xs:=.inl (.inl h)
theorem Inv.list(I:Inv X v0 σ H s)(h:kB X.K H a xs):∃bj:List Value,Vals xs bj∧PlainL s.heap a bj.toArray∧xs.length≤sizeLine:=by
 rcases h with h|⟨o,bj,n,hk,hc,hd,hs,hz,r⟩
 ·let⟨z,⟨bj,n,r,e⟩⟩:=h.ok I.bO
  exact⟨bj,r,Ψ2 _ n ⟨e,rfl,rfl,rfl⟩,z⟩
 ·exact⟨bj.toList,r,Ψ2 o n ⟨I.mr a o hk,hc,hd,by simpa using hs⟩,?_⟩
  have e:=r.length;simp only[JL]at e;lia
theorem Inv.tuple(I:Inv X v0 σ H s)(h:dW X.K H a xs):∃bj:List Value,Vals xs bj∧IsTup s.heap a bj.toArray∧xs.length≤sizeLine:=by
 rcases h with h|⟨o,bj,n,hk,hc,hs,hz,r⟩
 ·let⟨z,⟨bj,r,p⟩⟩:=h.ok I.bO
  exact⟨bj,r,p,z⟩
 ·exact⟨bj.toList,r,⟨o,I.mr a o hk,hc,n,by simpa using hs⟩,?_⟩
  have e:=r.length;simp only[JL]at e;lia
theorem Inv.Bj(I:Inv X v0 σ H s)(h:kB X.K H a xs)(h':kB X.K H a ys):xs=ys:=by
 let⟨bj,r,⟨o,n,e,_,_,d⟩,_⟩:=I.list h;let⟨v6',r',⟨o',n',e',_,_,d'⟩,_⟩:=I.list h';rw[e]at e';cases e';rw[d]at d';injection d' with d1 _
 have:bj=v6':=by simpa using Eh Array.toList d1
 subst this;exact r.inj r'
theorem Inv.ke(I:Inv X v0 σ H s)(h:dW X.K H a xs)(h':dW X.K H a ys):xs=ys:=by
 let⟨bj,r,⟨o,e,_,⟨n,d⟩⟩,_⟩:=I.tuple h;let⟨v6',r',⟨o',e',_,⟨n',d'⟩⟩,_⟩:=I.tuple h';rw[e]at e';cases e';rw[d]at d';injection d' with d1 _
 have:bj=v6':=by simpa using Eh Array.toList d1
 subst this;exact r.inj r'
end
abbrev Cx.qG(X:Cx)(E:xz):Cx:={X with xe:=E}
abbrev Cx.h8(X:Cx):Cx:=X.qG λ_ _=>False
theorem Cx.Ok.qG{X:Cx}(ok:X.Ok)(E:xz):(X.qG E).Ok:=
 ⟨ok.mod,ok.kind,ok.glob,ok.blt,ok.above,ok.inj,ok.has,ok.Fz,ok.hd,ok.frames,ok.Gi,ok.Cq,ok.bs,ok.B6,ok.ug,ok.oF,ok.kH,ok.Cp⟩
theorem Cx.Ok.ju{X:Cx}(ok:(X.qG E).Ok):X.Ok:=
 ⟨ok.mod,ok.kind,ok.glob,ok.blt,ok.above,ok.inj,ok.has,ok.Fz,ok.hd,ok.frames,ok.Gi,ok.Cq,ok.bs,ok.B6,ok.ug,ok.oF,ok.kH,ok.Cp⟩
section
variable {v0: List (Addr×Obj)}{σ: St}{H: A4}{s: Shared}{E: Value→Shared→Prop}
theorem Inv.qG(I:Inv X v0 σ H s)(E:xz):Inv (X.qG E) v0 σ H s:=⟨I.ok.qG E,I.os,I.bare,I.base,I.loc,I.cell,I.free,I.gU,I.pin,I.bO,I.len⟩
theorem Inv.ju(I:Inv (X.qG E) v0 σ H s):Inv X v0 σ H s:=⟨I.ok.ju,I.os,I.bare,I.base,I.loc,I.cell,I.free,I.gU,I.pin,I.bO,I.len⟩
theorem SP.ju{D:Ends}{f:Flow}(h:SP (X.qG E) v0 D f s'):SP X v0 D f s':=by
 cases f with
 |next=>let⟨σ',H',I,q⟩:=h;exact Ψ2 σ' H' ⟨I.ju,q⟩
 |brk=>let⟨σ',H',I,q⟩:=h;exact Ψ2 σ' H' ⟨I.ju,q⟩
 |cont=>let⟨σ',H',I,q⟩:=h;exact Ψ2 σ' H' ⟨I.ju,q⟩
 |ret u=>let⟨v,σ',H',I,r,q⟩:=h;exact Ψ3 v σ' H' ⟨I.ju,r,q⟩
theorem lG.h8{st:List Stmt}{t:Bh}(h:lG X.h8 st t):lG X st t:=.mk λv0 s σ H D I hw=>
 BF (h v0 s σ H D (I.qG _) hw) (λ_ _ q=>q.ju) λ_ _ z=>False.elim z
end
section
variable {st: Stmt}{v4: List Stmt}{t u: Bh}{e: Expr}{te: AO}
def uT:Bh:=λD σ H=>D.nx σ H
def vQ(t u:Bh):Bh:=λD σ H=>t {D with nx:=u D} σ H
theorem qQ:lG X [] uT:=.mk λ_ _ σ H _ I h=>wpAny_execs_nil ⟨σ,H,I,h⟩
theorem ql(h1:PS X st t)(h2:lG X v4 u):lG X (st::v4) (vQ t u):=by
 exact .mk ?_;intro v0 s σ H D I h;exact wpAny_execs_cons (AF (h1 v0 s σ H {D with nx:=u D} I h) λf s1 q=>?_);cases f with
 |next=>
  obtain⟨σ',H',I',q⟩:=q;exact h2 v0 s1 σ' H' D I' q
 |ret v=>exact q
 |brk=>exact q
 |cont=>exact q
theorem Inv.quiet(I:Inv X v0 σ H s):interactive X.env=false:=by simp[interactive,I.ok.kind]
def wt(te:AO):Bh:=λD σ H=>te σ H λ_ H1=>D.nx σ H1
theorem t5(he:PE X e te)(hs:swapsWith e none pos.line X.env=pure false:=by rfl):PS X (.Expr e pos) (wt te):=by
 exact .mk ?_;intro v0 s σ H D I h;exact wpAny_Expr_any (AF (he v0 s σ H _ I h) λv s1 ξ=>Ξ23 ξ λx H1 I1 r1 q1=>Ψ2 σ H1 ⟨I1,q1⟩) I.quiet hs
def hZ(te:AO):Bh:=λD σ H=>te σ H D.rt
theorem rT(he:PE X e te):PS X (.Return (some e) pos) (hZ te):=by
 exact .mk ?_;intro v0 s σ H D I h;exact wpAny_Return_some (AF (he v0 s σ H _ I h) λv s1 ξ=>Ξ23 ξ λx H1 I1 r1 q1=>Ψ3 x σ H1 ⟨I1,r1,q1⟩)
def xE(c:C0)(t u:Bh):Bh:=λD σ H=>c σ H λb H1=>if b=true then t D σ H1 else u D σ H1
theorem zj{c:Expr}{a b:List Stmt}{tc:C0}(hc:PT X c tc)(ha:lG X a t)(hb:lG X b u):PS X (.If c a b pos) (xE tc t u):=by
 exact .mk ?_;intro v0 s σ H D I h;exact wpAny_If (AF (hc v0 s σ H _ I h) λd s1 ξ=>Ξ12 ξ λH1 I1 q1=>?_);cases d with
 |true=>exact ha v0 s1 σ H1 D I1 q1
 |false=>exact hb v0 s1 σ H1 D I1 q1
end
abbrev DB:=V→St→A4→(St→A4→Prop)→Prop
abbrev FN:=List V→St→A4→(St→A4→Prop)→Prop
structure PG(X:Cx)(target:Expr)(t:DB):Prop where
 run:∀v0 s σ H (v:V) (u:Value) (Q:St→A4→Prop),Inv X v0 σ H s→RelV v u→t v σ H Q→
  wpAny (model X.prog X.w) X.A (assign target X.env u) (λ_ s'=>∃σ' H',Inv X v0 σ' H' s'∧Q σ' H') X.xe s
instance {X:Cx}{target:Expr}{t:DB}:CoeFun (PG X target t) λ_=>∀v0 s σ H (v:V) (u:Value) (Q:St→A4→Prop),Inv X v0 σ H s→RelV v u→t v σ H Q→wpAny (model X.prog X.w) X.A (assign target X.env u) (λ_ s'=>∃σ' H',Inv X v0 σ' H' s'∧Q σ' H') X.xe s:=⟨PG.run⟩
structure vf(X:Cx)(ts:List Expr)(t:FN):Prop where
 run:∀v0 s σ H (vs:List V) (us:List Value) (Q:St→A4→Prop),Inv X v0 σ H s→Vals vs us→t vs σ H Q→
  wpAny (model X.prog X.w) X.A (assignInOrder ((assignEach ts X.env).map (·.2)) us) (λ_ s'=>∃σ' H',Inv X v0 σ' H' s'∧Q σ' H') X.xe s
instance {X:Cx}{ts:List Expr}{t:FN}:CoeFun (vf X ts t) λ_=>∀v0 s σ H (vs:List V) (us:List Value) (Q:St→A4→Prop),Inv X v0 σ H s→Vals vs us→t vs σ H Q→wpAny (model X.prog X.w) X.A (assignInOrder ((assignEach ts X.env).map (·.2)) us) (λ_ s'=>∃σ' H',Inv X v0 σ' H' s'∧Q σ' H') X.xe s:=⟨vf.run⟩
abbrev SY:=V→V→A4→Ac→Prop
def pj(X:Cx)(op:Operator)(t:SY):Prop:=
 ∀v0 s σ H (x y:V) (v u:Value) (Q:Ac),Inv X v0 σ H s→RelV x v→RelV y u→t x y H Q→
  wpAny (model X.prog X.w) X.A (inplaceOp op v u) (BD X v0 σ Q) X.xe s
section
def ZM(i:Nat):DB:=λv σ H Q=>Q (σ.set i (some v)) H
theorem qL(hN:X.N.Nodup)(hi:X.N[i]?=some x)(hx:GG X.env.scope x)(hf:Fk X x:=by first|exact .inl rfl|exact .inr rfl|assumption):PG X (.Name x pos) (ZM i):=by
 exact .mk ?_;intro v0 s σ H v u Q I r h;exact wpAny_assign_Name (Q2 I hN hi hx r (λs' I'=>Ψ2 _ H ⟨I',h⟩) hf)
def zk:FN:=λvs σ H Q=>vs=[]∧Q σ H
def zb(t:DB)(u:FN):FN:=λvs σ H Q=>∃v r,vs=v::r∧t v σ H λσ' H'=>u r σ' H' Q
theorem zT:vf X [] zk:=by
 exact .mk ?_;intro v0 s σ H vs us Q I r h;obtain⟨e,h⟩:=h;subst e;cases r;exact assignInOrder_nil ⟨σ,H,I,h⟩
theorem xu{es:List Expr}{t:DB}{u:FN}(h1:PG X e t)(h2:vf X es u)
  (hs:(assignEach (e::es) X.env).map (·.2)=assign e X.env::(assignEach es X.env).map (·.2):=by rfl):vf X (e::es) (zb t u):=by
 exact .mk ?_;intro v0 s σ H vs us Q I r h;obtain⟨v,vr,e1,h⟩:=h;subst e1;cases r with
 |cons r rr=>
  rw[hs];exact assignInOrder_cons (AF (h1 v0 s σ H _ _ _ I r h) λ_ s1 ξ=>Ξ22 ξ λσ1 H1 I1 q1=>?_);exact h2 v0 s1 σ1 H1 _ _ Q I1 rr q1
def sv(K:W.Frag)(n:Nat)(t:FN):DB:=λv σ H Q=>∃a xs,v=.ref a∧dW K H a xs∧xs.length=n∧t xs σ H Q
theorem xD{es:List Expr}{t:FN}(hc:X.calm=true)(h:vf X es t)
  (hn:(assignEach es X.env).length=n:=by rfl) (tK:(assignEach es X.env).findIdx? (·.1)=none:=by rfl):PG X (.Tuple es k pos) (sv X.K n t):=by
 exact .mk ?_;intro v0 s σ H v u Q I r hw;obtain⟨a,xs,e1,hq,hl,hw⟩:=hw;subst e1;cases r;let⟨bj,rv,ht,hz⟩:=I.tuple hq;exact assign_Tuple_tuple (I.ok.hd hc) ht (by simp[hn,←hl,rv.length]) tK λh' hx=>?_;have I1:Inv X v0 σ H {s with heap:=h'}:=I.kept (t':=s.toks) λb o e=>hx b o (B3 (Aq e)) e;exact h v0 _ σ H xs _ Q I1 (by simpa using rv) hw
def YR(te:AO)(g:DB):Bh:=λD σ H=>te σ H λx H1=>g x σ H1 D.nx
theorem aao{g:DB}(he:PE X e te)(hg:PG X tg g)(hs:swapsWithSole [tg] e pos.line X.env=pure false:=by rfl)(hw:swappedStores [tg] e X.env=pure none:=by rfl)
  (h1:(assignEach [tg] X.env).map (·.2)=[assign tg X.env]:=by rfl):PS X (.Assign [tg] e pos) (YR te g):=by
 exact .mk ?_;intro v0 s σ H D I h;exact wpAny_Assign_stores (AF (he v0 s σ H _ I h) λv s1 ξ=>Ξ23 ξ λx H1 I1 r1 q1=>?_) hs hw;rw[h1];exact AF (hg v0 s1 σ H1 x v _ I1 r1 q1) λ_ s2 q=>q
theorem jy(hN:X.N.Nodup)(hi:X.N[i]?=some x)(hx:GG X.env.scope x)(he:PE X e te)(hs:swapsWith e (some (.Name x pos')) pos.line X.env=pure false:=by rfl)(hf:Fk X x:=by first|exact .inl rfl|exact .inr rfl|assumption):
  PS X (.Assign [.Name x pos'] e pos) (YR te (ZM i)):=by
 exact .mk ?_;intro v0 s σ H D I h;exact wpAny_Assign_Name (AF (he v0 s σ H _ I h) λv s1 ξ=>Ξ23 ξ λy H1 I1 r1 q1=>?_) hs;exact Q2 I1 hN hi hx r1 (λs2 I2=>Ψ2 _ H1 ⟨I2,q1⟩) hf
def vA(i:Nat)(te:AO)(ti:SY):Bh:=λD σ H=>∃x,σ[i]?=some (some x)∧te σ H λy H1=>ti x y H1 λz H2=>D.nx (σ.set i (some z)) H2
theorem zr{op:Operator}{ti:SY}(hN:X.N.Nodup)(hi:X.N[i]?=some x)(hx:GG X.env.scope x)(he:PE X e te)(ho:pj X op ti)(hf:Fk X x:=by first|exact .inl rfl|exact .inr rfl|assumption):
  PS X (.AugAssign (.Name x pos') op e pos) (vA i te ti):=by
 exact .mk ?_;intro v0 s σ H D I h;obtain⟨v,e1,h⟩:=h;let⟨m,hn,hl⟩:=I.loc;have SM:Io X.env.scope x:=by rcases hx with k|k;exact .inl k;exact .inr (.inl k)
 let⟨u,r,l⟩:=hl i x v hi e1 SM;exact wpAny_AugAssign_Name ?_;have go:wpAny (model X.prog X.w) X.A (eval e X.env) (λw s₂=>wpAny (model X.prog X.w) X.A (inplaceOp op u w) (λr s₃=>wpAny (model X.prog X.w) X.A (storeName X.env x r) (λ_=>SP X v0 D .next) X.xe s₃) X.xe s₂) X.xe s:=by
  exact AF (he v0 s σ H _ I h) λw s1 ξ=>Ξ23 ξ λy H1 I1 r1 q1=>?_;exact AF (ho v0 s1 σ H1 v y u w _ I1 r r1 q1) λz s2 ξ=>Ξ23 ξ λzv H2 I2 r2 q2=>?_;exact Q2 I2 hN hi hx r2 (λs3 I3=>Ψ2 _ H2 ⟨I3,q2⟩) hf
 rcases l with⟨hk,hm⟩|⟨hk,c,hc,qe⟩
 ·exact XS I.ok.kind hk hn hm go
 ·rcases hk with hk|hk
  ·exact WH I.ok.kind hk hc qe go
  ·rcases hx with k|k
   ·have:X.env.scope.names.lookup x=some .free:=hk
    rw[k]at this;cases this
   ·have:X.env.scope.names.lookup x=some .free:=hk
    rw[k]at this;cases this
end
structure Ep where
 go:Nat→A4→Prop
 oK:Nat→A4→V→A4→Prop
 stop:Nat→A4→Prop
def D4(X:Cx)(v0:ac)(H:A4)(b:Addr):Prop:=
 H b=none∧b≠X.env.locals∧b∉X.fs∧(b∈X.ex∨X.s₀.heap.objs.size≤b)∧(∀x c,X.env.cells.lookup x=some c→c≠b)∧∀p∈X.pn++v0,p.1≠b
theorem Inv.wF{X:Cx}{H':A4}(I:Inv X v0 σ H s)(hb:s.heap.objs.size≤b)(hn:H' b=none):D4 X v0 H' b:=by
 exact⟨hn,Lo (Dy I.lt hb),I.OU hb,.inr (DA I.sz hb),λx c e z=>?_,λp hp z=>?_⟩
 ·let⟨v,q⟩:=I.cell x c e
  exact absurd (Dy q.lt (by rw[z];exact hb)) (Gv _)
 ·exact absurd (Dy (Aq (I.pin p hp).1) (by rw[z];exact hb)) (Gv _)
structure Turn(P:Program)(w:World)(K:W.Frag)(tg:Expr)(J:Ep)(fp:List Addr)(it:Addr)(tn:Nat→Heap→Prop):Prop where
 mem:it∈fp
 obj:∀i h,tn i h→∀b∈fp,∃o,h.get? b=some o∧∀v,o.data≠.cell v
 keep:∀i h h',tn i h→(∀b∈fp,∀o,h.get? b=some o→h'.get? b=some o)→tn i h'
 item:∀(X:Cx),X.prog=P→X.w=w→X.K=K→X.calm=true→∀(i:Nat) v0 s σ H (E:xz),Inv X v0 σ H s→(∀b∈fp,D4 X v0 H b)→tn i s.heap→J.go i H→
  wpAny (model P w) X.A (pyNext (.ref it)) (λr s1=>∃u,r=some u∧
   wpAny (model P w) X.A (letOwnedTupleGo tg (.ref it) u) (λ_ s2=>∃x H',Inv X v0 σ H' s2∧RelV x u∧J.oK i H x H'∧tn (i+1) s2.heap∧∀b∈fp,H' b=none) E s1) E s
 done:∀(X:Cx),X.prog=P→X.w=w→X.K=K→X.calm=true→∀(i:Nat) v0 s σ H (E:xz),Inv X v0 σ H s→(∀b∈fp,D4 X v0 H b)→tn i s.heap→J.stop i H→
  wpAny (model P w) X.A (pyNext (.ref it)) (λr s1=>r=none∧Inv X v0 σ H s1) E s
 self:∀(A:Around) (i:Nat) (s:Shared) (Q:xz) (E:xz),tn i s.heap→Q (.ref it) s→wpAny (model P w) A (pyIter (.ref it)) Q E s
abbrev DE:=St→A4→(Ep→A4→Prop)→Prop
def O7(X:Cx)(v0:ac)(σ:St)(tg:Expr)(R:Ep→A4→Prop)(Ia:Value)(s2:Shared):Prop:=
 ∃(it:Addr) (fp:List Addr) (tn:Nat→Heap→Prop) (J:Ep) (H':A4),Ia=.ref it∧Inv X v0 σ H' s2∧Turn X.prog X.w X.K tg J fp it tn∧tn 0 s2.heap∧(∀b∈fp,D4 X v0 H' b)∧R J H'
structure PI(X:Cx)(tg iter:Expr)(wi:DE):Prop where
 run:∀v0 s σ H (R:Ep→A4→Prop),Inv X v0 σ H s→wi σ H R→
  wpAny (model X.prog X.w) X.A (eval iter X.env) (λv s1=>wpAny (model X.prog X.w) X.A (pyIter v) (O7 X v0 σ tg R) X.xe s1) X.xe s
instance {X:Cx}{tg iter:Expr}{wi:DE}:CoeFun (PI X tg iter wi) λ_=>∀v0 s σ H (R:Ep→A4→Prop),Inv X v0 σ H s→wi σ H R→wpAny (model X.prog X.w) X.A (eval iter X.env) (λv s1=>wpAny (model X.prog X.w) X.A (pyIter v) (O7 X v0 σ tg R) X.xe s1) X.xe s:=⟨PI.run⟩
theorem NA{o:Obj}{n:String}{vs:Array Value}{Q:Unit→Shared→Prop}(ho:s.heap.get? it=some o)(hc:o.cls=.type n)(hd:o.data=.fields vs)
    (hn:["enumerate","zip","dict_itemiterator","dict_reverseitemiterator","odict_iterator","itertools.zip_longest","itertools.pairwise"].contains n=false) (hQ:Q () s):wpAny M A (letOwnedTupleGo tg (.ref it) u) Q E s:=by
  unfold letOwnedTupleGo;cases tg<;>first
    |exact AS hQ
    | (cases u<;>first
        |exact AS hQ
        | (exact A8 (wpAny_load ho ?_)
           rw[hc,hd];show wpAny M A (if(["enumerate","zip","dict_itemiterator","dict_reverseitemiterator","odict_iterator","itertools.zip_longest","itertools.pairwise"].contains n&&vs[0]? == some (rawInt _))=true then _ else _) Q E s
           rw[AN (by intro h;rw[hn,Dw]at h;cases h)];exact AS hQ))
def Y5(K:W.Frag)(a:Addr):Ep:=
 ⟨λi H=>∃xs x,kB K H a xs∧xs[i]?=some x,λi H x H'=>H'=H∧∀xs,kB K H a xs→xs[i]?=some x,λi H=>∃xs,kB K H a xs∧xs.length≤i⟩
def Sl(K:W.Frag)(a:Addr):Ep:=
 ⟨λi H=>∃xs x,dW K H a xs∧xs[i]?=some x,λi H x H'=>H'=H∧∀xs,dW K H a xs→xs[i]?=some x,λi H=>∃xs,dW K H a xs∧xs.length≤i⟩
def Lu(lo:Int)(n:Nat):Ep:=⟨λi _=>i<n,λi H x H'=>H'=H∧x=.int (lo+i),λi _=>n≤i⟩
theorem rH(a it:Addr):Turn P w K tg (Y5 K a) [it] it (λi h=>h.IsListIter it a i) where
 mem:=by simp
 obj:=λi h st b hb=>by
  have e:b=it:=by simpa using hb
  subst e;let⟨o,e,c,d⟩:=st;exact⟨o,e,λv z=>by rw[d]at z;cases z⟩
 keep:=λi h h' st k=>st.at λo e=>k it (by simp) o e
 item:=by
  intro X hP hw hK hc i v0 s σ H E I hf st hg;subst hP hw hK;let⟨xs,x,hq,hx⟩:=hg;let⟨bj,rv,p,hz⟩:=I.list hq;let⟨u,hu,ru⟩:=rv.get hx;let⟨f0,f1,f2,f3,f4,f5⟩:=hf it (by simp);exact wpAny_pyNext_list_item st p.isList (x:=u) (by simpa using hu) λh' zZ sb=>?_;have I1:Inv X v0 σ H {s with heap:=h'}:=I.turned (t':=s.toks) (λb o hb e=>(sb.2 b hb).trans e) f0 f1 f3 f4 f5;let⟨o,e,c,d⟩:=id zZ;exact⟨u,rfl,NA (s:={s with heap:=h'}) e c d (by decide) ⟨x,H,I1,ru,⟨rfl,λys hy=>by rw[I.Bj hy hq];exact hx⟩,zZ,λb hb=>(hf b hb).1⟩⟩
 done:=by
  intro X hP hw hK hc i v0 s σ H E I hf st hg;subst hP hw hK;let⟨xs,hq,hx⟩:=hg;let⟨bj,rv,p,hz⟩:=I.list hq;let⟨f0,f1,f2,f3,f4,f5⟩:=hf it (by simp);have hl:=rv.length;exact wpAny_pyNext_list_end (I.ok.hd hc) st p.isList (by simp;lia) λh' eb=>⟨rfl,I.turned (t':=s.toks) (λb o hb e=>eb b o hb e) f0 f1 f3 f4 f5⟩
 self:=λ_ _ _ _ _ st h=>wpAny_pyIter_listiter st h
theorem mV(a it:Addr):Turn P w K tg (Sl K a) [it] it (λi h=>h.IsTupleIter it a i) where
 mem:=by simp
 obj:=λi h st b hb=>by
  have e:b=it:=by simpa using hb
  subst e;let⟨o,e,c,d⟩:=st;exact⟨o,e,λv z=>by rw[d]at z;cases z⟩
 keep:=λi h h' st k=>st.at λo e=>k it (by simp) o e
 item:=by
  intro X hP hw hK hc i v0 s σ H E I hf st hg;subst hP hw hK;let⟨xs,x,hq,hx⟩:=hg;let⟨bj,rv,p,hz⟩:=I.tuple hq;let⟨u,hu,ru⟩:=rv.get hx;let⟨f0,f1,f2,f3,f4,f5⟩:=hf it (by simp);exact wpAny_pyNext_tuple_item st (show s.heap.IsTuple a bj.toArray from p) (x:=u) (by simpa using hu) λh' zZ sb=>?_;have I1:Inv X v0 σ H {s with heap:=h'}:=I.turned (t':=s.toks) (λb o hb e=>(sb.2 b hb).trans e) f0 f1 f3 f4 f5;let⟨o,e,c,d⟩:=id zZ;exact⟨u,rfl,NA (s:={s with heap:=h'}) e c d (by decide) ⟨x,H,I1,ru,⟨rfl,λys hy=>by rw[I.ke hy hq];exact hx⟩,zZ,λb hb=>(hf b hb).1⟩⟩
 done:=by
  intro X hP hw hK hc i v0 s σ H E I hf st hg;subst hP hw hK;let⟨xs,hq,hx⟩:=hg;let⟨bj,rv,p,hz⟩:=I.tuple hq;let⟨f0,f1,f2,f3,f4,f5⟩:=hf it (by simp);have hl:=rv.length;exact wpAny_pyNext_tuple_end (I.ok.hd hc) st (show s.heap.IsTuple a bj.toArray from p) (by simp;lia) λh' eb=>⟨rfl,I.turned (t':=s.toks) (λb o hb e=>eb b o hb e) f0 f1 f3 f4 f5⟩
 self:=λ_ _ _ _ _ st h=>wpAny_pyIter_tupleiter st h
theorem zB(it:Addr)(lo:Int)(n:Nat):Turn P w K tg (Lu lo n) [it] it (λi h=>IsRangeIter h it (lo+(i:Nat)*1) ((n:Int)-(i:Nat)) 1) where
 mem:=by simp
 obj:=λi h st b hb=>by
  have e:b=it:=by simpa using hb
  subst e;exact⟨_,st,λv z=>by
   have z':Data.fields _=Data.cell v:=z;cases z'⟩
 keep:=λi h h' st k=>k it (by simp) _ st
 item:=by
  intro X hP hw hK hc i v0 s σ H E I hf st hg;subst hP hw hK;let⟨f0,f1,f2,f3,f4,f5⟩:=hf it (by simp);have W:=Walks.range (prog:=X.prog) (w:=X.w) (I.ok.hd hc) it lo 1 n;exact W.item i s _ _ hg st λv h' tk hv zZ kk=>?_;let⟨t,rfl⟩:=hv;have I1:Inv X v0 σ H {s with heap:=h',toks:=tk}:=I.turned (λb o hb e=>kk b o (by simpa using hb) e) f0 f1 f3 f4 f5;exact⟨_,rfl,NA (s:={s with heap:=h',toks:=tk}) (n := "range_iterator") zZ rfl rfl (by decide) ⟨.int (lo+i),H,I1,⟨t,?_⟩,⟨rfl,rfl⟩,zZ,λb hb=>(hf b hb).1⟩⟩;rw[Int.mul_one]
 done:=by
  intro X hP hw hK hc i v0 s σ H E I hf st hg;subst hP hw hK;let⟨f0,f1,f2,f3,f4,f5⟩:=hf it (by simp);exact wpAny_pyNext_range_end (I.ok.hd hc) st (by have:n≤i:=hg;lia) λh' eb=>⟨rfl,I.turned (t':=s.toks) (λb o hb e=>eb b o hb e) f0 f1 f3 f4 f5⟩
 self:=λ_ _ _ _ _ st h=>wpAny_pyIter_rangeiter st h
section
variable {tg: Expr}
def nL(K:W.Frag)(tl:AO):DE:=λσ H R=>tl σ H λx H1=>∃a,x=.ref a∧(∃xs,kB K H1 a xs)∧R (Y5 K a) H1
def wb(K:W.Frag)(tl:AO):DE:=λσ H R=>tl σ H λx H1=>∃a,x=.ref a∧(∃xs,dW K H1 a xs)∧R (Sl K a) H1
theorem aaf(hl:PE X l tl):PI X tg l (nL X.K tl):=by
 exact .mk ?_;intro v0 s σ H R I h;exact AF (hl v0 s σ H _ I h) λv s1 ξ=>Ξ23 ξ λx H1 I1 r1 q1=>?_;let⟨a,e,⟨xs,hq⟩,q⟩:=q1;subst e;cases r1;let⟨bj,rv,p,hz⟩:=I1.list hq;exact NL p.isList ?_;exact Ψ5 s1.heap.objs.size [s1.heap.objs.size] _ _ H1 ⟨rfl,I1.kept (t':=s1.toks) λb o e=>Ap _ e,rH a _,⟨_,Cv _ rfl,rfl,rfl⟩,λb hb=>?_,q⟩;have e:b=s1.heap.objs.size:=by simpa using hb
 subst e;exact I1.wF (Ar _) (I1.bO.fresh (Ar _))
theorem iO(hl:PE X l tl):PI X tg l (wb X.K tl):=by
 exact .mk ?_;intro v0 s σ H R I h;exact AF (hl v0 s σ H _ I h) λv s1 ξ=>Ξ23 ξ λx H1 I1 r1 q1=>?_;let⟨a,e,⟨xs,hq⟩,q⟩:=q1;subst e;cases r1;let⟨bj,rv,p,hz⟩:=I1.tuple hq;exact JU (show s1.heap.IsTuple a bj.toArray from p) ?_;exact Ψ5 s1.heap.objs.size [s1.heap.objs.size] _ _ H1 ⟨rfl,I1.kept (t':=s1.toks) λb o e=>Ap _ e,mV a _,⟨_,Cv _ rfl,rfl,rfl⟩,λb hb=>?_,q⟩;have e:b=s1.heap.objs.size:=by simpa using hb
 subst e;exact I1.wF (Ar _) (I1.bO.fresh (Ar _))
theorem tZ{R:Ep→A4→Prop}{lo hi:Int}{t u v:Tok}{tk:Nat}(I:Inv X v0 σ H s)(h1:-(2^62)≤lo)(h2:lo<2^62)(h3:-(2^62)≤hi)(h4:hi<2^62)
  (q:R (Lu lo (hi-lo).toNat) H):wpAny (model X.prog X.w) X.A (pyIter (.ref s.heap.objs.size)) (O7 X v0 σ tg R) E {s with heap:=s.heap.push {cls:=.type "range",data:=.fields #[.int lo t,.int hi u,.int 1 v]},toks:=tk}:=by
 exact wpAny_pyIter_range (IsRange.new ..) (small_one h1 h2 h3 h4) ?_;have I1:Inv X v0 σ H {s with heap:=s.heap.push {cls:=.type "range",data:=.fields #[.int lo t,.int hi u,.int 1 v]},toks:=tk}:=I.kept λb o e=>Ap _ e;exact Ψ5 ((s.heap.push {cls:=.type "range",data:=.fields #[.int lo t,.int hi u,.int 1 v]}).objs.size) ([(s.heap.push {cls:=.type "range",data:=.fields #[.int lo t,.int hi u,.int 1 v]}).objs.size]) _ _ H ⟨rfl,
  I1.kept (t':=tk) λb o e=>Ap _ e,zB _ lo (hi-lo).toNat,?_,λb hb=>?_,q⟩
 ·have e1:lo+((0:Nat):Int)*1=lo:=by simp
  have e2:(((hi-lo).toNat:Nat):Int)-((0:Nat):Int)=Builtin.Range.rangeSize lo hi 1:=by rw[rangeSize_one];split<;>lia
  show IsRangeIter _ _ (lo+((0:Nat):Int)*1) ((((hi-lo).toNat:Nat):Int)-((0:Nat):Int)) 1
  rw[e1,e2];exact Cv _ rfl
 ·have e:b=(s.heap.push {cls:=.type "range",data:=.fields #[.int lo t,.int hi u,.int 1 v]}).objs.size:=by simpa using hb
  subst e;exact I1.wF (Ar _) (I1.bO.fresh (Ar _))
def si(ta:Bq):DE:=λσ H R=>ta σ H λvs H1=>∃j:Int,vs=[.int j]∧-(2^62)≤j∧j<2^62∧R (Lu 0 j.toNat) H1
theorem sy{a:Expr}{ta:Bq}{p pos:Pos}(hg:BP X "range")(hm:X.mg "range" = none)(ha:PA X [a] ta)(hs:starEach [a] X.env=[(false,eval a X.env)]:=by rfl):PI X tg (.Call (.Name "range" p) [a] [] pos) (si ta):=by
 exact .mk ?_;intro v0 s σ H R I h;exact Call_ (Jh I hg hm boot_range (N1 (AF (ha pos v0 s σ H _ I h) λus s1 ξ=>Ξ23 ξ λvs H1 I1 r1 q1=>?_) hs rfl));obtain⟨j,e,q1,q2,q⟩:=q1;subst e;cases r1 with
 |cons r rr=>
  cases rr;let⟨t,rfl⟩:=r;exact call_range_1 (tZ I1 (by lia) (by lia) q1 q2 (by simpa using q))
def qf(wi:DE)(g:DB)(tb:Bh):Bh:=λD σ H=>wi σ H λJ H1=>∃W:Nat→Nat→St→A4→Prop,(∃m,W 0 m σ H1)∧∀i m σ H,W i m σ H→
 (J.stop i H∧D.nx σ H)∨(J.go i H∧∃N:St→A4→Prop,(∀σ' H',N σ' H'→∃m',m' < m∧W (i+1) m' σ' H')∧∀x H',J.oK i H x H'→g x σ H' λσ2 H2=>tb {D with nx:=N,ct:=N,bk:=D.nx} σ2 H2)
def Gh(fp:List Addr)(h:Heap):ac:=fp.filterMap λb=>(h.get? b).map λo=>(b,o)
theorem FU{o:Obj}(hb:b∈fp)(e:h.get? b=some o):(b,o)∈Gh fp h:=Zr.mpr ⟨b,hb,by rw[e];rfl⟩
theorem vF{p:Addr×Obj}(hp:p∈Gh fp h):p.1∈fp∧h.get? p.1=some p.2:=by
 let⟨b,hb,e⟩:=Zr.mp hp;cases q:h.get? b with
 |none=>rw[q]at e;cases e
 |some o=>
  rw[q]at e;have e':(b,o)=p:=Ek e;subst e';exact⟨hb,q⟩
theorem Inv.pinned(I:Inv X v0 σ H s)(hf:∀b∈fp,D4 X v0 H b)(ho:∀b∈fp,∃o,s.heap.get? b=some o∧∀v,o.data≠.cell v):Inv X (v0++Gh fp s.heap) σ H s:=
 I.xv λp hp=>(YE.mp hp).elim (λz=>I.pin p (CB _ z)) λz=>by
  let⟨hb,e⟩:=vF z;let⟨f0,f1,f2,_⟩:=hf p.1 hb;let⟨o,e',d⟩:=ho p.1 hb;rw[e]at e';cases e';exact⟨e,f0,f1,f2,d⟩
theorem Inv.fO{pl:ac}(I:Inv X (v0++pl) σ H s):Inv X v0 σ H s:=I.xv λp hp=>I.pin p (CB _ (KO _ hp))
theorem xg{iter:Expr}{wi:DE}{g:DB}{tb:Bh}{pos:Pos}(hp:PassesOwn (model X.prog X.w) X.A X.env X.xe)(hc:X.calm=true)(hi:PI X tg iter wi)(hg:PG X tg g)(hb:lG X body tb)
  (hs:∀x,foldedSetIterable iter X.env x=pure x:=by intro _;rfl):PS X (.For tg iter body [] pos) (qf wi g tb):=by
 exact .mk ?_;intro v0 s σ H D I h;exact wpAny_For (AF (hi v0 s σ H _ I h) λv s1 h1=>AF h1 λIa s2 h2=>?_) hs;let⟨it,fp,tn,J,H2,e,I2,T,nG,f2,⟨W,⟨m0,w0⟩,turn⟩⟩:=h2;subst e
 -- NK stays true of vo Ib objects through vo loop
 have Gj:∀{H':A4},(∀b∈fp,H' b=none)→∀b∈fp,D4 X v0 H' b:=λhn b hb=>⟨hn b hb,(f2 b hb).2⟩;exact codeAny_forLoop_any (λn s'=>∃i σ' H',Inv X v0 σ' H' s'∧tn i s'.heap∧(∀b∈fp,H' b=none)∧W i n σ' H') ?_ m0 ⟨0,σ,H2,I2,nG,λb hb=>(f2 b hb).1,w0⟩;intro n s3⟨i,σ3,H3,I3,tN,uA,w3⟩;rcases turn i n σ3 H3 w3 with⟨stop,qn⟩|⟨go,N,hN,step⟩
 ·exact Ku hp (AF (T.done X rfl rfl rfl hc i v0 s3 σ3 H3 X.xe I3 (Gj uA) tN stop) λr s4 ξ=>Ξ02 ξ λhr I4=>?_)
  subst hr;exact wpAny_execs_nil ⟨σ3,H3,I4,qn⟩
 ·exact Ku hp (AF (T.item X rfl rfl rfl hc i v0 s3 σ3 H3 X.xe I3 (Gj uA) tN go) λr s4 ξ=>Ξ12 ξ λu hr h4=>?_)
  subst hr;exact Ku hp (AF h4 λ_ s5 ξ=>Ξ25 ξ λx H5 I5 r5 y5 pA BC=>?_);have Cc:=I5.pinned (Gj BC) (T.obj _ _ pA);exact Ku hp (AF (hg _ s5 σ3 H5 x u _ Cc r5 (step x H5 y5)) λ_ s6 ξ=>Ξ22 ξ λσ6 H6 I6 q6=>?_);exact Ku hp (AF (hb _ s6 σ6 H6 _ I6 q6) λf s7 q7=>?_);have again:∀{σ7:St} {H7:A4},Inv X (v0++Gh fp s5.heap) σ7 H7 s7→N σ7 H7→∃m,m<n∧∃i σ' H',Inv X v0 σ' H' s7∧tn i s7.heap∧(∀b∈fp,H' b=none)∧W i m σ' H':=λ{σ7 H7} I7 n7=>by
   let⟨m',hm,w7⟩:=hN σ7 H7 n7;exact⟨m',hm,i+1,σ7,H7,I7.fO,T.keep _ _ _ pA λb hb o e=>(I7.pin (b,o) (CB _ (CB _ (FU hb e)))).1,λb hb=>?_,w7⟩;let⟨o,e,d⟩:=T.obj _ _ pA b hb;exact(I7.pin (b,o) (CB _ (CB _ (FU hb e)))).2.1
  cases f with
  |next=>let⟨σ7,H7,I7,n7⟩:=q7;exact again I7 n7
  |cont=>let⟨σ7,H7,I7,n7⟩:=q7;exact again I7 n7
  |brk=>obtain⟨σ7,H7,I7,q7⟩:=q7;exact Ψ2 σ7 H7 ⟨I7.fO,q7⟩
  |ret v=>obtain⟨x7,σ7,H7,I7,r7,q7⟩:=q7;exact Ψ3 x7 σ7 H7 ⟨I7.fO,r7,q7⟩
end
abbrev Dd:=V→V→A4→Ac→Prop
def iC(X:Cx)(f:Value→Value→Sem Value)(r:Dd):Prop:=
 ∀v0 s σ H (x y:V) (v u:Value) (Q:Ac),Inv X v0 σ H s→RelV x v→RelV y u→r x y H Q→
  wpAny (model X.prog X.w) X.A (f v u) (BD X v0 σ Q) X.xe s
def Oh(X:Cx)(f:Value→Sem Value)(r:V→A4→Ac→Prop):Prop:=
 ∀v0 s σ H (x:V) (v:Value) (Q:Ac),Inv X v0 σ H s→RelV x v→r x H Q→
  wpAny (model X.prog X.w) X.A (f v) (BD X v0 σ Q) X.xe s
def F1(X:Cx)(f:Value)(r:List V→A4→Ac→Prop):Prop:=
 ∀v0 s σ H (xs:List V) (us:List Value) (Q:Ac),Inv X v0 σ H s→Vals xs us→r xs H Q→
  wpAny (model X.prog X.w) X.A (call f us) (BD X v0 σ Q) X.xe s
def xW(X:Cx)(r:V→A4→(Bool→A4→Prop)→Prop):Prop:=
 ∀v0 s σ H (x:V) (v:Value) (Q:Bool→A4→Prop),Inv X v0 σ H s→RelV x v→r x H Q→
  wpAny (model X.prog X.w) X.A (truthy v) (IK X v0 σ Q) X.xe s
def LC(r:Dd)(ta tb:AO):AO:=λσ H Q=>ta σ H λx H1=>tb σ H1 λy H2=>r x y H2 Q
def qm(r:V→A4→Ac→Prop)(ta:AO):AO:=λσ H Q=>ta σ H λx H1=>r x H1 Q
def Ie(C:Int→Int→Prop)(g:Int→Int→V):Dd:=λx y H Q=>∃i j,x=.int i∧y=.int j∧C i j∧Q (g i j) H
def Hn(g:Int→Int→V):Dd:=λx y H Q=>∃i j,x=.int i∧y=.int j∧Q (g i j) H
def bX(g:Int→V):V→A4→Ac→Prop:=λx H Q=>∃i,x=.int i∧Q (g i) H
section
variable {a b: Expr}
theorem S6(ha:PE X a ta)(hb:PE X b tb){R:V→V→A4→Prop}(I:Inv X v0 σ H s)
  (h:ta σ H λx H1=>tb σ H1 λy H2=>R x y H2)  
  (hf:∀v u s2 x y H2,Inv X v0 σ H2 s2→RelV x v→RelV y u→R x y H2→wpAny (model X.prog X.w) X.A (f v u) Q X.xe s2) :
  wpAny (model X.prog X.w) X.A (eval a X.env) (λv s₁=>wpAny (model X.prog X.w) X.A (eval b X.env) (λu s₂=>wpAny (model X.prog X.w) X.A (f v u) Q X.xe s₂) X.xe s₁) X.xe s:=by
 exact AF (ha v0 s σ H _ I h) λv s1 ξ=>Ξ23 ξ λx H1 I1 r1 q1=>?_;exact AF (hb v0 s1 σ H1 _ I1 q1) λu s2 ξ=>Ξ23 ξ λy H2 I2 r2 q2=>?_;exact hf v u s2 x y H2 I2 r1 r2 q2
theorem tQ{op:Operator}(ho:iC X (binaryOp op) r)(ha:PE X a ta)(hb:PE X b tb):PE X (.BinOp a op b pos) (LC r ta tb):=by
 exact .mk ?_;intro v0 s σ H Q I h;exact wpAny_BinOp (S6 ha hb I h λv u s2 x y H2 I2 rx ry q=>ho v0 s2 σ H2 x y v u Q I2 rx ry q)
theorem aam{op:UnaryOp}{r:V→A4→Ac→Prop}(ho:Oh X (unaryOp op) r)(ha:PE X a ta):PE X (.UnaryOp op a pos) (qm r ta):=by
 exact .mk ?_;intro v0 s σ H Q I h;exact UnaryOp_ (AF (ha v0 s σ H _ I h) λv s1 ξ=>Ξ23 ξ λx H1 I1 r1 q1=>ho v0 s1 σ H1 x v Q I1 r1 q1)
theorem KJ{C:Int→Int→Prop}
  (rule:∀(i j:Int) (t u:Tok) (s:Shared) (Q:xz) (E:xz),C i j→Q (.int (g i j) s.toks) {s with toks:=s.toks+1}→wpAny (model X.prog X.w) X.A (f (.int i t) (.int j u)) Q E s) :
  iC X f (Ie C λi j=>.int (g i j)):=by
 intro v0 s σ H x y v u Q I rx ry h;let⟨i,j,rfl,rfl,hc,q⟩:=h;let⟨t,rfl⟩:=rx;let⟨t',rfl⟩:=ry;exact rule i j t t' s _ _ hc ⟨.int (g i j),H,I.tok _,⟨_,rfl⟩,q⟩
theorem ZE
  (rule:∀(i j:Int) (t u:Tok) (s:Shared) (Q:xz) (E:xz),Q (.int (g i j) s.toks) {s with toks:=s.toks+1}→wpAny (model X.prog X.w) X.A (f (.int i t) (.int j u)) Q E s) :
  iC X f (Hn λi j=>.int (g i j)):=by
 intro v0 s σ H x y v u Q I rx ry h;let⟨i,j,rfl,rfl,q⟩:=h;let⟨t,rfl⟩:=rx;let⟨t',rfl⟩:=ry;exact rule i j t t' s _ _ ⟨.int (g i j),H,I.tok _,⟨_,rfl⟩,q⟩
theorem Sf{g:Int→Int→Bool}
  (rule:∀(i j:Int) (t u:Tok) (s:Shared) (Q:xz) (E:xz),Q (.bool (g i j)) s→wpAny (model X.prog X.w) X.A (f (.int i t) (.int j u)) Q E s) :
  iC X f (Hn λi j=>.bl (g i j)):=by
 intro v0 s σ H x y v u Q I rx ry h;let⟨i,j,rfl,rfl,q⟩:=h;let⟨t,rfl⟩:=rx;let⟨t',rfl⟩:=ry;exact rule i j t t' s _ _ ⟨.bl (g i j),H,I,rfl,q⟩
def bT(i j:Int):Prop:=0≤j∧j≤1000000∧i.natAbs<2^64
def zg(i j:Int):Prop:=(-(2^64)<i∧i<2^64)∨(-(2^64)<j∧j<2^64)
theorem zg.ok{i j:Int}(h:zg i j):IntMulOk i j:=by
 rcases h with⟨h1,h2⟩|⟨h1,h2⟩
 ·exact .of_left (intBits_le_64 h1 h2)
 ·exact .of_right (intBits_le_64 h1 h2)
theorem rD:iC X (binaryOp .Add) (Hn λi j=>.int (i+j)):=ZE λ_ _ _ _ _ _ _ q=>add_int q
theorem kV:iC X (binaryOp .Sub) (Hn λi j=>.int (i-j)):=ZE λ_ _ _ _ _ _ _ q=>sub_int q
theorem pD:iC X (binaryOp .Mult) (Ie zg λi j=>.int (i*j)):=KJ λ_ _ _ _ _ _ _ hc q=>mul_int q hc.ok
theorem xw:iC X (binaryOp .Mod) (Ie (λ_ j=>0<j) λi j=>.int (i%j)):=KJ λi j _ _ _ _ _ hc q=>by
 have h1:(0:Int)<j:=hc;exact mod_int' (by lia) (by rw[Int.fmod_eq_emod_of_nonneg i (by lia)];exact q)
theorem vn:iC X (binaryOp .Pow) (Ie bT λi j=>.int (i^j.toNat)):=KJ λ_ _ _ _ _ _ _ hc q=>pow_int_small hc.1 hc.2.1 hc.2.2 q
theorem qN:iC X (inplaceOp .Mult) (Ie zg λi j=>.int (i*j)):=KJ λ_ _ _ _ _ _ _ hc q=>imul_int q hc.ok
theorem ym{f:Value→Sem Value}{g:Int→Int}
  (rule:∀(i:Int) (t:Tok) (s:Shared) (Q:xz) (E:xz),Q (.int (g i) s.toks) {s with toks:=s.toks+1}→wpAny (model X.prog X.w) X.A (f (.int i t)) Q E s) :
  Oh X f (bX λi=>.int (g i)):=by
 intro v0 s σ H x v Q I rx h;let⟨i,rfl,q⟩:=h;let⟨t,rfl⟩:=rx;exact rule i t s _ _ ⟨.int (g i),H,I.tok _,⟨_,rfl⟩,q⟩
theorem pI:Oh X (unaryOp .USub) (bX λi=>.int (-i)):=ym λ_ _ _ _ _ q=>neg_int q
end
def N0:V→V→Bool
 |.non,.non=>true|.non,.int _=>true|.int _,.non=>true|.non,.bl _=>true|.bl _,.non=>true|.non,.str _=>true|.str _,.non=>true
 |.int _,.int _=>true|.bl _,.bl _=>true|.str _,.str _=>true|.byt _,.byt _=>true
 |.int _,.str _=>true|.str _,.int _=>true|.bl _,.str _=>true|.str _,.bl _=>true
 |_,_=>false
def h7:Dd:=λx y H Q=>N0 x y=true∧Q (.bl (decide (x=y))) H
def zL:Dd:=λx y H Q=>N0 x y=true∧Q (.bl (!decide (x=y))) H
theorem ZT{i j:Int}:decide (V.int i=V.int j)=(i==j):=by
 rw[Fx];simp
theorem Z5{i j:Bool}:decide (V.bl i=V.bl j)=(i==j):=by
 rw[Fx];simp
theorem Zb{i j:Str}:decide (V.str i=V.str j)=(i==j):=by
 rw[Fx];simp
theorem eX{i j:Array UInt8}:decide (V.byt i=V.byt j)=(i.toList==j.toList):=by
 rw[Fx];cases i;cases j;simp
section
variable {a b c: Expr}{tc: AO}
theorem BY{Q:Ac}{k k':Bool}(I:Inv X v0 σ H s)(q:Q (.bl k) H)(e:k=k'):BD X v0 σ Q (.bool k') s:=by
 subst e;exact Ψ2 (.bl k) H ⟨I,rfl,q⟩
theorem iL:iC X (compareOp .Eq) h7:=by
 intro v0 s σ H x y v u Q I rx ry h;let⟨hs,q⟩:=h;cases x with
 |non=>
  cases rx;cases y with
  |non=>cases ry;exact PySem.EqNone.eq_none_none (BY I q (by simp))
  |bl j=>cases ry;exact PySem.EqNone.eq_none_bool (BY I q (by simp))
  |int j=>let⟨t',rfl⟩:=ry;exact PySem.EqNone.eq_none_int (BY I q (by simp))
  |str j=>let⟨t',rfl⟩:=ry;exact PySem.EqNone.eq_none_str (BY I q (by simp))
  |_=>exact absurd (show false=true from hs) BJ
 |bl i=>
  cases rx;cases y with
  |non=>cases ry;exact PySem.EqNone.eq_bool_none (BY I q (by simp))
  |bl j=>cases ry;exact eq_bool (BY I q Z5)
  |str j=>let⟨t',rfl⟩:=ry;exact PySem.EqMixed.eq_bool_str (BY I q (by simp))
  |_=>exact absurd (show false=true from hs) BJ
 |int i=>
  let⟨t,rfl⟩:=rx;cases y with
  |non=>cases ry;exact PySem.EqNone.eq_int_none (BY I q (by simp))
  |int j=>let⟨t',rfl⟩:=ry;exact eq_int (BY I q ZT)
  |str j=>let⟨t',rfl⟩:=ry;exact PySem.EqMixed.eq_int_str (BY I q (by simp))
  |_=>exact absurd (show false=true from hs) BJ
 |str i=>
  let⟨t,rfl⟩:=rx;cases y with
  |non=>cases ry;exact PySem.EqNone.eq_str_none (BY I q (by simp))
  |bl j=>cases ry;exact PySem.EqMixed.eq_str_bool (BY I q (by simp))
  |int j=>let⟨t',rfl⟩:=ry;exact PySem.EqMixed.eq_str_int (BY I q (by simp))
  |str j=>let⟨t',rfl⟩:=ry;exact eq_str (BY I q Zb)
  |_=>exact absurd (show false=true from hs) BJ
 |byt i=>
  let⟨t,rfl⟩:=rx;cases y with
  |byt j=>let⟨t',rfl⟩:=ry;exact W.eq_bytes (BY I q eX)
  |_=>exact absurd (show false=true from hs) BJ
 |_=>cases y<;>exact absurd (show false=true from hs) BJ
theorem ij:iC X (compareOp .NotEq) zL:=by
 intro v0 s σ H x y v u Q I rx ry h;let⟨hs,q⟩:=h;cases x with
 |non=>
  cases rx;cases y with
  |non=>cases ry;exact PySem.EqNone.ne_none_none (BY I q (by simp))
  |bl j=>cases ry;exact PySem.EqNone.ne_none_bool (BY I q (by simp))
  |int j=>let⟨t',rfl⟩:=ry;exact PySem.EqNone.ne_none_int (BY I q (by simp))
  |str j=>let⟨t',rfl⟩:=ry;exact PySem.EqNone.ne_none_str (BY I q (by simp))
  |_=>exact absurd (show false=true from hs) BJ
 |bl i=>
  cases rx;cases y with
  |non=>cases ry;exact PySem.EqNone.ne_bool_none (BY I q (by simp))
  |bl j=>cases ry;exact ne_bool (BY I q (Eh not Z5))
  |str j=>let⟨t',rfl⟩:=ry;exact PySem.EqMixed.ne_bool_str (BY I q (by simp))
  |_=>exact absurd (show false=true from hs) BJ
 |int i=>
  let⟨t,rfl⟩:=rx;cases y with
  |non=>cases ry;exact PySem.EqNone.ne_int_none (BY I q (by simp))
  |int j=>let⟨t',rfl⟩:=ry;exact ne_int (BY I q (Eh not ZT))
  |str j=>let⟨t',rfl⟩:=ry;exact PySem.EqMixed.ne_int_str (BY I q (by simp))
  |_=>exact absurd (show false=true from hs) BJ
 |str i=>
  let⟨t,rfl⟩:=rx;cases y with
  |non=>cases ry;exact PySem.EqNone.ne_str_none (BY I q (by simp))
  |bl j=>cases ry;exact PySem.EqMixed.ne_str_bool (BY I q (by simp))
  |int j=>let⟨t',rfl⟩:=ry;exact PySem.EqMixed.ne_str_int (BY I q (by simp))
  |str j=>let⟨t',rfl⟩:=ry;exact ne_str (BY I q (Eh not Zb))
  |_=>exact absurd (show false=true from hs) BJ
 |byt i=>
  let⟨t,rfl⟩:=rx;cases y with
  |byt j=>let⟨t',rfl⟩:=ry;exact W.ne_bytes (BY I q (Eh not eX))
  |_=>exact absurd (show false=true from hs) BJ
 |_=>cases y<;>exact absurd (show false=true from hs) BJ
theorem aag:iC X (compareOp .Lt) (Hn λi j=>.bl (decide (i<j))):=Sf λ_ _ _ _ _ _ _ q=>lt_int q
theorem qT:iC X (compareOp .LtE) (Hn λi j=>.bl (decide (i≤j))):=Sf λ_ _ _ _ _ _ _ q=>le_int q
theorem iK:iC X (compareOp .Gt) (Hn λi j=>.bl (decide (j<i))):=Sf λ_ _ _ _ _ _ _ q=>gt_int q
theorem kC:iC X (compareOp .In) (λx y H Q=>∃i j,x=.str i∧y=.str j∧Q (.bl (!(Builtin.Str.occurrences j i 0 j.length 1).isEmpty)) H):=by
 intro v0 s σ H x y v u Q I rx ry h;let⟨i,j,rfl,rfl,q⟩:=h;let⟨t,rfl⟩:=rx;let⟨t',rfl⟩:=ry;exact in_str (BY I q rfl)
theorem vM:iC X (compareOp .Is) (λx y H Q=>y=.non∧Q (.bl (decide (x=.non))) H):=by
 intro v0 s σ H x y v u Q I rx ry h;let⟨rfl,q⟩:=h;cases ry;exact is_none_gen (BY I q ?_);cases x<;>first
  |(cases rx;rfl)
  |(let⟨t,rfl⟩:=rx;rfl)
theorem xH:iC X (compareOp .IsNot) (λx y H Q=>y=.non∧Q (.bl (!decide (x=.non))) H):=by
 intro v0 s σ H x y v u Q I rx ry h;let⟨rfl,q⟩:=h;cases ry;exact isnot_none_gen (BY I q ?_);cases x<;>first
  |(cases rx;rfl)
  |(let⟨t,rfl⟩:=rx;rfl)
theorem iC.or(h:iC X f r)(h':iC X f r'):iC X f (λx y H Q=>r x y H Q∨r' x y H Q):=by
 intro v0 s σ H x y v u Q I rx ry q;rcases q with q|q
 ·exact h v0 s σ H x y v u Q I rx ry q
 ·exact h' v0 s σ H x y v u Q I rx ry q
theorem c8(b:Expr){op:CmpOp}(h:op≠.In:=by decide)(h2:op≠.NotIn:=by decide):behindInMarks op b=false:=by
 have e1:(op==CmpOp.In)=false:=by cases op<;>first|rfl|exact absurd rfl h
 have e2:(op==CmpOp.NotIn)=false:=by cases op<;>first|rfl|exact absurd rfl h2
 cases b<;>simp[behindInMarks,e1,e2]
theorem rG{op:CmpOp}(ho:iC X (compareOp op) r)(ha:PE X a ta)(hb:PE X b tb)(hm:behindInMarks op b=false):PE X (.Compare a [op] [b] pos) (LC r ta tb):=by
 exact .mk ?_;intro v0 s σ H Q I h;exact wpAny_Compare1 (S6 ha hb I h λv u s2 x y H2 I2 rx ry q=>ho v0 s2 σ H2 x y v u Q I2 rx ry q) hm
def X4(t:AO):C0:=λσ H Q=>t σ H λx H'=>∃k,x=.bl k∧Q k H'
theorem kD{op:CmpOp}(ho:iC X (compareOp op) r)(ha:PE X a ta)(hb:PE X b tb)(hm:behindInMarks op b=false):PT X (.Compare a [op] [b] pos) (X4 (LC r ta tb)):=by
 exact .mk ?_;intro v0 s σ H Q I h;exact wpAny_isTrue_Compare1 (AF (ha v0 s σ H _ I h) λv s1 ξ=>Ξ23 ξ λx H1 I1 r1 q1=>AF (hb v0 s1 σ H1 _ I1 q1) λu s2 ξ=>Ξ23 ξ λy H2 I2 r2 q2=>
  AF (ho v0 s2 σ H2 x y v u _ I2 r1 r2 q2) λc s3⟨z,H3,I3,r3,k,e,q3⟩=>?_) hm
 subst e;cases r3;exact G6 ⟨H3,I3,q3⟩
def YX(r r':Dd)(ta tb tc:AO):AO:=λσ H Q=>ta σ H λx H1=>tb σ H1 λy H2=>r x y H2 λz H3=>∃k,z=.bl k∧
 (if k=true then tc σ H3 λw' H4=>r' y w' H4 Q else Q (.bl false) H3)
theorem rU{op:CmpOp}(ho:iC X (compareOp op) r)(oR:iC X (compareOp xA) r')(ha:PE X a ta)(hb:PE X b tb)(hc:PE X c tc)
  (hm:lastMarks [op,xA] [b,c]=false:=by with_unfolding_all rfl):PE X (.Compare a [op,xA] [b,c] pos) (YX r r' ta tb tc):=by
 exact .mk ?_;intro v0 s σ H Q I h;exact Compare_chain (AF (ha v0 s σ H _ I h) λv s1 ξ=>Ξ23 ξ λx H1 I1 r1 q1=>chain_link (AF (hb v0 s1 σ H1 _ I1 q1) λu s2 ξ=>Ξ23 ξ λy H2 I2 r2 q2=>
  AF (ho v0 s2 σ H2 x y v u _ I2 r1 r2 q2) λd s3⟨z,H3,I3,r3,k,e,q3⟩=>?_)) hm
 subst e;cases r3;exact G6 ?_;cases k with
 |false=>exact ite_ff ⟨.bl false,H3,I3,rfl,q3⟩
 |true=>exact ite_tt (chain_last (AF (hc v0 s3 σ H3 _ I3 q3) λw' s4 ξ=>Ξ23 ξ λz' H4 I4 r4 q4=>oR v0 s4 σ H4 y z' u w' Q I4 r2 r4 q4))
theorem mZ{op:CmpOp}(ho:iC X (compareOp op) r)(oR:iC X (compareOp xA) r')(ha:PE X a ta)(hb:PE X b tb)(hc:PE X c tc)
  (hm:lastMarks [op,xA] [b,c]=false:=by with_unfolding_all rfl):PT X (.Compare a [op,xA] [b,c] pos) (X4 (YX r r' ta tb tc)):=by
 exact .mk ?_;intro v0 s σ H Q I h;exact isTrue_chain (AF (ha v0 s σ H _ I h) λv s1 ξ=>Ξ23 ξ λx H1 I1 r1 q1=>test_link (AF (hb v0 s1 σ H1 _ I1 q1) λu s2 ξ=>Ξ23 ξ λy H2 I2 r2 q2=>
  AF (ho v0 s2 σ H2 x y v u _ I2 r1 r2 q2) λd s3⟨z,H3,I3,r3,k,e,q3⟩=>?_)) hm
 subst e;cases r3;exact G6 ?_;cases k with
 |false=>
  let⟨k',e',q'⟩:=q3;cases e';exact ite_ff ⟨H3,I3,q'⟩
 |true=>
  exact ite_tt (test_last (AF (hc v0 s3 σ H3 _ I3 q3) λw' s4 ξ=>Ξ23 ξ λz' H4 I4 r4 q4=>AF (oR v0 s4 σ H4 y z' u w' _ I4 r2 r4 q4) λd' s5⟨z2,H5,I5,r5,k2,e2,q5⟩=>?_));subst e2;cases r5;exact G6 ⟨H5,I5,q5⟩
def Tp(K:W.Frag)(x:V)(H:A4)(k:Bool):Prop:=
 match x with
 |.non=>k=false
 |.bl b=>k=b
 |.int i=>k=(i != 0)
 |.str y=>y.length≤sizeLine∧k=((y.length:Int) != 0)
 |.byt y=>y.size≤sizeLine∧k=((y.size:Int) != 0)
 |.ref p=>(∃xs,kB K H p xs∧k=!xs.isEmpty)∨(∃xs,dW K H p xs∧k=!xs.isEmpty)∨∃ay,H p=some (.dK ay)∧k=!ay.isEmpty
 |_=>False
theorem pR{κ:Type}{ay:List (κ×V)}{vs:List (κ×Value)}(r:KV ay vs):(!vs.isEmpty)=!ay.isEmpty:=by
 cases r<;>rfl
theorem dX{bj:List Value}(r:Vals xs bj):(!bj.toArray.isEmpty)=!xs.isEmpty:=by
 cases r<;>simp
theorem Jd:(sizeLine:Nat)<2^63:=by rw[CS];decide
theorem oZ:xW X (λx H Q=>∃k,Tp X.K x H k∧Q k H):=by
 intro v0 s σ H x v Q I rx h;let⟨k,e,q⟩:=h;have hl:=Jd;have hs:sizeLine=16777216:=CS;cases x with
 |non=>
  cases rx;have e':k=false:=e;subst e';exact truthy_none ⟨H,I,q⟩
 |bl b=>
  cases rx;have e':k=b:=e;subst e';exact G6 ⟨H,I,q⟩
 |int i=>
  let⟨t,rfl⟩:=rx;have e':k=(i != 0):=e;subst e';exact PySem.P.truthy_int ⟨H,I,q⟩
 |str y=>
  let⟨t,rfl⟩:=rx;obtain⟨hy,e'⟩:y.length≤sizeLine∧k=((y.length:Int) != 0):=e;subst e';exact PySem.P.truthy_str (by lia) ⟨H,I.tok _,q⟩
 |byt y=>
  let⟨t,rfl⟩:=rx;obtain⟨hy,e'⟩:y.size≤sizeLine∧k=((y.size:Int) != 0):=e;subst e';exact W.truthy_bytes (by lia) ⟨H,I.tok _,q⟩
 |ref p=>
  cases rx;have e':(∃xs,kB X.K H p xs∧k=!xs.isEmpty)∨(∃xs,dW X.K H p xs∧k=!xs.isEmpty)∨∃ay,H p=some (.dK ay)∧k=!ay.isEmpty:=e;rcases e' with⟨xs,hx,e'⟩|⟨xs,hx,e'⟩|⟨ay,hx,e'⟩
  ·subst e'
   let⟨bj,r,pl,hz⟩:=I.list hx;have hlen:=r.length;exact wpAny_truthy_list pl.isList (by simp only[BW];lia) ⟨H,I.tok _,by rw[dX r];exact q⟩
  ·subst e'
   let⟨bj,r,pl,hz⟩:=I.tuple hx;have hlen:=r.length;exact truthy_tuple pl (by simp only[BW];lia) ⟨H,I.tok _,by rw[dX r];exact q⟩
  ·subst e'
   obtain⟨hz,hS,vs,r,m⟩:ay.length≤sizeLine∧(p==sysModules)=false∧∃vs,KV ay vs∧s.heap.DictOf (BS X.prog X.w) p vs:=I.bO p _ hx;have hlen:ay.length=vs.length:=Mk r;exact wpAny_truthy_dict hS m (by lia) ⟨H,I.tok _,by rw[pR r];exact q⟩
 |_=>exact(show False from e).elim
theorem nU(ha:PE X a ta)(he:∀whole,isTrue a X.env whole=(do let v ←whole;standAt a.pos;holding [v] (truthy v))):
  PT X a (λσ H Q=>ta σ H λx H'=>∃k,Tp X.K x H' k∧Q k H'):=by
 exact .mk ?_;intro v0 s σ H Q I h;exact isTrue_plain (AF (ha v0 s σ H _ I h) λv s1 ξ=>Ξ23 ξ λx H1 I1 r1 q1=>oZ v0 s1 σ H1 x v Q I1 r1 q1) (he _)
theorem qk:iC X (binaryOp .Add) (λx y H Q=>∃i j,x=.str i∧y=.str j∧i.length+j.length≤sizeLine∧Q (.str (i++j)) H):=by
 intro v0 s σ H x y v u Q I rx ry h;let⟨i,j,rfl,rfl,hz,q⟩:=h;let⟨t,rfl⟩:=rx;let⟨t',rfl⟩:=ry;exact add_str (λt' tk=>Ψ2 (.str (i++j)) H ⟨I.tok _,⟨_,rfl⟩,q⟩) hz
theorem vals1{x:V}(r:Vals [x] us):∃u,us=[u]∧RelV x u:=by
 cases r with
 |cons r1 r2=>cases r2;exact⟨_,rfl,r1⟩
theorem vals2{x:V}(r:Vals [x,y] us):∃u w',us=[u,w']∧RelV x u∧RelV y w':=by
 cases r with
 |cons r1 r2=>
  cases r2 with
  |cons r3 r4=>cases r4;exact Ψ2 _ _ ⟨rfl,r1,r3⟩
theorem vg:F1 X (.builtin "ord") (λxs H Q=>∃x,xs=[.str x]∧x.length=1∧Q (.int (x.cps.getD 0 0:Nat)) H):=by
 intro v0 s σ H xs us Q I r h;let⟨x,rfl,hz,q⟩:=h;let⟨u,rfl,⟨t,rfl⟩⟩:=vals1 r;exact ord_of_one hz ⟨.int _,H,I.tok _,⟨_,rfl⟩,q⟩
end
structure w9(h:Heap)(x dx C:Addr)(mA:KK):Prop where
 obj:h.get? x=some (W.instObj C dx)
 ns:h.Ns1 dx mA
 ne:dx≠x
theorem xC{dx:Addr}(n:h.Ns1 dx mA):∃od,h.get? dx=some od∧∀name,W.lookIn name od=some (mA name):=by
 let⟨o,es,ep,ho,hd,hk,_,hm⟩:=n;exact⟨o,ho,λname=>?_⟩;have e:=hm name;unfold nsFind findBy at e;rw[←Array.find?_toList]at e;unfold W.lookIn;rw[hd];dsimp only;split
 ·rename_i y q
  rw[q]at e;exact Eh some e
 ·rename_i q
  rw[q]at e;have a:es.toList.any (·.refKey)=false:=by
   rw[List.any_eq_false];intro y hy;let⟨z,t,PB⟩:=hk y (Array.mem_toList_iff.mp hy);simp[DictEntry.refKey,PB]
  have a':¬es.toList.any (·.refKey)=true:=by rw[a];exact BJ
  rw[AN a'];exact Eh some e
theorem w9.look{x dx:Addr}(I:w9 h x dx C mA):∃od,W.InstAt h x (W.instObj C dx) C (some od)∧∀name,W.lookIn name od=some (mA name):=
 let⟨od,ho,hl⟩:=xC I.ns
 ⟨od,⟨I.obj,rfl,rfl,ho⟩,hl⟩
section
variable {prog: Program}{w: World}{A: Around}{E: Value→Shared→Prop}{s: Shared}{K: W.Frag}{x C f: Addr}{mA: Str→Option Value}{name: Str}{v: Value}
theorem get_map{expr:Bool}(X:K.In s.heap)(I:w9 s.heap x dx C mA)(hg:W.plainGet K C name=true)(hh:W.hasDictIn K C=true)
  (ha:W.findIn K (.ref C) name=some none) (hv:mA name=some v) (Cj:W.handedIn v=true) (h:Q v {s with toks:=s.toks+1}) :
  wpAny (model prog w) A (getAttr (.ref x) name expr) Q E s:=by
 let⟨od,J,hl⟩:=I.look;exact W.get_value X J (Qv hg).1 (W.findObj_own hh ha rfl (by rw[hl,hv])) Cj h
theorem oS{Q:Value×List Value→Shared→Prop}(X:K.In s.heap)(I:w9 s.heap x dx C mA)(hg:W.plainGet K C name=true)
  (hf:W.findIn K (.ref C) name=some (some (.ref f))) (ht:W.isFn K (.ref f)=true) (hv:mA name=none) (h:Q (.ref f,[.ref x]) s) :
  wpAny (model prog w) A (getMethod (.ref x) name pl) Q E s:=by
 let⟨od,J,hl⟩:=I.look;exact W.method_fn X J (Qv hg).1 (Qv hg).2 hf (Zx.mp ht) (by show(W.lookIn name od).map (·.isSome)=some false;rw[hl,hv];rfl) h
theorem rB{ns:List Str}{Q:Unit→Shared→Prop}(X:K.In s.heap)(I:w9 s.heap x dx C mA)
  (hs:W.findIn K (.ref C) "__setattr__" = some (some (.builtin "object.__setattr__"))) (hp:W.plainOver K C=true) (ht:W.takerIn K C name=some none) (hh:W.hasDictIn K C=true)
  (hw:PySem.Within mA ns) (hsz:ns.length≤sizeLine)
  (h:∀h',w9 h' x dx C (λy=>if y=name then some v else mA y)→Heap.SameBut dx s.heap h'→Q () {s with heap:=h',toks:=s.toks+2}) :
  wpAny (model prog w) A (setAttr (.ref x) name v) Q E s:=by
 let⟨od,J,hl⟩:=I.look;exact W.set_plain X J hs (W.osa_open (s:={s with toks:=s.toks+1}) (r:=none) X J hp ht λb=>?_);let⟨cd,hc,IC⟩:=W.any_some hh;have hx:s.heap.get? x=some ⟨.ref C,some dx,.plain,#[]⟩:=I.obj;exact A8 (AS (A8 (A8 (wpAny_loadPart hx (A8 (W.Looks.here (s:={s with toks:=s.toks+1}) (W.looks_clsIn X hc) ?_))))));rw[IC];exact AS (a:=some dx) (A8 (AS (A8 ?_)));exact wpAny_nsSet1 (s:={s with toks:=s.toks+1}) I.ns λh' Jt qS=>?_;let⟨oD,Xv,Xw,UQ,U0,U2⟩:=Jt.count (PySem.Within.cons name v hw);exact A8 (wpAny_lookBehind UQ (by rw[U0];exact pastItsLine_dict (DA U2 (by rw[D0];lia))) ?_);exact AS (h _ ⟨(qS.2 _ (CO I.ne)).trans I.obj,Jt,I.ne⟩ qS)
theorem lg{R:Result→Shared→Prop}{vs:List Value}(X:K.In s.heap)(hm:W.makesIn K C=true)
  (hi:W.findIn K (.ref C) "__init__" = some (some (.ref f))) (hf:W.typeIn K (.ref f)=some (.type "function"))
  (h:codeAny (model prog w) (A.under (.builtin "type.__call__" ⟨.ref C::vs,kw⟩)) (.call (.ref f) ⟨.ref (s.heap.objs.size+1)::vs,kw⟩) (W.InitBack (s.heap.objs.size+1) R)
   {s with heap:=(s.heap.push W.emptyDict).push (W.instObj C s.heap.objs.size)}) :
  codeAny (model prog w) A (.call (.ref C) ⟨vs,kw⟩) R s:=by
 obtain⟨hh,g,d,t,os⟩:=s;exact W.make_core (W.makes_of X hm) (W.looks_findIn X hi) (λself=>W.bind_fn X self hf) (.inl rfl) h
end
def Dq(f:Str)(v:V):List (Str×V)→List (Str×V)
 |[]=>[(f,v)]
 |(g,x)::r=>if g=f then(g,v)::r else(g,x)::Dq f v r
theorem gd(f g:Str)(v:V):∀fs:List (Str×V),(Dq f v fs).lookup g=if g=f then some v else fs.lookup g
 |[]=>by
  show List.lookup g [(f,v)]=_
  by_cases h:g=f
  ·have hb:(g==f)=true:=Zx.mpr h
   simp only[List.lookup,hb,AR h]
  ·have hb:(g==f)=false:=YD.mpr h
   simp only[List.lookup,hb,AN h]
 |(k,x)::r=>by
  have ih:=gd f g v r;rw[show Dq f v ((k,x)::r)=(if k=f then(k,v)::r else(k,x)::Dq f v r)from rfl];by_cases hk:k=f
  ·rw[AR hk]
   by_cases h:g=k
   ·have hb:(g==k)=true:=Zx.mpr h
    simp only[List.lookup,hb,AR (h.trans hk)]
   ·have hb:(g==k)=false:=YD.mpr h
    simp only[List.lookup,hb,AN (λe:g=f=>h (e.trans hk.symm))]
  ·rw[AN hk]
   by_cases h:g=k
   ·have hb:(g==k)=true:=Zx.mpr h
    simp only[List.lookup,hb,AN (λe:g=f=>hk (h.symm.trans e))]
   ·have hb:(g==k)=false:=YD.mpr h
    simp only[List.lookup,hb];exact ih
theorem Ow(f:Str)(v:V):∀fs:List (Str×V),f∈(Dq f v fs).map (·.1)∧∀g,g∈fs.map (·.1)→g∈(Dq f v fs).map (·.1)
 |[]=>⟨by simp[Dq],λg h=>by simp at h⟩
 |(k,x)::r=>by
  let⟨i1,i2⟩:=Ow f v r;rw[show Dq f v ((k,x)::r)=(if k=f then(k,v)::r else(k,x)::Dq f v r)from rfl];by_cases hk:k=f
  ·rw[AR hk]
   subst hk;exact⟨by simp,λg h=>by simpa using h⟩
  ·rw[AN hk]
   exact⟨?_,λg h=>?_⟩
   ·rw[BQ]
    exact Dz _ i1
   ·rw[BQ]at h ⊢
    rcases XO.mp h with e|e
    ·exact XO.mpr (.inl e)
    ·exact Dz _ (i2 g e)
theorem cw(f:Str)(v:V):∀fs:List (Str×V),(Dq f v fs).length≤fs.length+1
 |[]=>by simp[Dq]
 |(k,x)::r=>by
  have ih:=cw f v r;rw[show Dq f v ((k,x)::r)=(if k=f then(k,v)::r else(k,x)::Dq f v r)from rfl];by_cases hk:k=f
  ·rw[AR hk,D0,D0];lia
  ·rw[AN hk,D0,D0];lia
theorem jo.some_of{o:Option Value}(r:jo (some v) o):∃u,o=some u∧RelV v u:=by
 cases o with
 |none=>exact(show False from r).elim
 |some u=>exact⟨u,rfl,r⟩
theorem jo.none_of{o:Option Value}(r:jo none o):o=none:=by
 cases o with
 |none=>rfl
 |some u=>exact(show False from r).elim
theorem zt(r:RelV v u):W.handedIn u=true:=by
 cases v with
 |non=>cases(show u=Value.none from r);rfl
 |bl b=>cases(show u=Value.bool b from r);rfl
 |int i=>let⟨t,e⟩:=(show ∃t,u=Value.int i t from r);cases e;rfl
 |str x=>let⟨t,e⟩:=(show ∃t,u=Value.str x t from r);cases e;rfl
 |byt b=>let⟨t,e⟩:=(show ∃t,u=Value.bytes b t from r);cases e;rfl
 |flt b=>let⟨t,e⟩:=(show ∃t,u=Value.float b t from r);cases e;rfl
 |ref a=>cases(show u=Value.ref a from r);rfl
 |ty n=>cases(show u=Value.type n from r);rfl
section
variable {P: Program}{w: World}{H: A4}{h: Heap}{a C: Addr}{fs: List (Str×V)}
theorem O3(bO:lH P w H h)(e:H a=some (.ins C dx fs)):∃mA,w9 h a dx C mA∧(∀f,jo (fs.lookup f) (mA f))∧PySem.Within mA (fs.map (·.1))∧fs.length≤1000∧H dx=some (.own a):=by
 let⟨d,z,ne,ob,⟨mA,n,r,q⟩⟩:=(show bZ P w H h a (.ins C dx fs)from bO a _ e);exact⟨mA,⟨ob,n,ne⟩,r,q,z,d⟩
end
structure nD(K:W.Frag)(C:Addr):Prop where
 pg:W.plainGet K C Str.empty=true
 hd:W.hasDictIn K C=true
 po:W.plainOver K C=true
 sa:W.findIn K (.ref C) "__setattr__" = some (some (.builtin "object.__setattr__"))
theorem nD.get(c:nD K C)(f:Str):W.plainGet K C f=true:=c.pg
def bw(K:W.Frag)(C:Addr)(f:Str):Prop:=W.findIn K (.ref C) f=some none
theorem bw.JR{f:Str}(n:bw K C f):W.takerIn K C f=some none:=by
 unfold W.takerIn;rw[show W.findIn K (.ref C) f=some none from n];rfl
structure Meth(K:W.Frag)(C:Addr)(m:Str)(f:Addr):Prop where
 at_:W.findIn K (.ref C) m=some (some (.ref f))
 fn:W.isFn K (.ref f)=true
 kp:W.keepIn K (.ref f)=true
section
variable {v0: List (Addr×Obj)}{σ: St}{H: A4}{s: Shared}{a C: Addr}{fs: List (Str×V)}{f: Str}{v: V}{A: Around}{E: Value→Shared→Prop}
theorem vY{b:Bool}(I:Inv X v0 σ H s)(e:H a=some (.ins C dx fs))(c:nD X.K C)(n:bw X.K C f)(l:fs.lookup f=some v)
  (h:∀u s',Inv X v0 σ H s'→RelV v u→Q u s'):wpAny (model X.prog X.w) A (getAttr (.ref a) f b) Q E s:=by
 let⟨mA,O,r,_,_,_⟩:=O3 I.bO e;let⟨u,hu,ru⟩:=jo.some_of (v:=v) (o:=mA f) (by rw[←l];exact r f);exact get_map I.mr O (c.get f) c.hd n hu (zt ru) (h u _ (I.tok _) ru)
theorem xk{m:Str}{g:Addr}{Q:Value×List Value→Shared→Prop}(I:Inv X v0 σ H s)(e:H a=some (.ins C dx fs))(c:nD X.K C)(k:Meth X.K C m g)(l:fs.lookup m=none)
  (h:Q (.ref g,[.ref a]) s):wpAny (model X.prog X.w) A (getMethod (.ref a) m pl) Q E s:=by
 let⟨mA,O,r,_,_,_⟩:=O3 I.bO e;have hn:mA m=none:=jo.none_of (by rw[←l];exact r m);exact oS I.mr O (c.get m) k.at_ k.fn hn h
theorem wa{Q:Unit→Shared→Prop}(I:Inv X v0 σ H s)(e:H a=some (.ins C dx fs))(c:nD X.K C)(n:bw X.K C f)(hl:fs.length<1000)(ry:RelV y u)
  (h:∀s',Inv X v0 σ (AK H a (.ins C dx (Dq f y fs))) s'→Q () s'):wpAny (model X.prog X.w) A (setAttr (.ref a) f u) Q E s:=by
 let⟨mA,O,r,wi,_,ho⟩:=O3 I.bO e;have hz:(fs.map (·.1)).length≤sizeLine:=by rw[AV,CS];lia
 exact rB I.mr O c.sa c.po n.JR c.hd wi hz λh' O' sb=>h _ ?_;have hd:∃o,h'.get? dx=some o:=let⟨o,_,_,e',_⟩:=O'.ns;⟨o,e'⟩
 exact I.write (x:=a) (e:=dx) (by rw[e];exact True.intro) (.inr ho) (λb q hb z=>(sb.2 b hb).trans z) hd ?_;exact⟨by rw[Al O.ne];exact ho,?_,O.ne,O'.obj,_,O'.ns,λg=>?_,λg hg=>?_⟩
 ·have:=cw f y fs;lia
 ·show jo ((Dq f y fs).lookup g) (if g=f then some u else mA g)
  rw[gd];by_cases q:g=f
  ·rw[AR q,AR q];exact ry
  ·rw[AN q,AN q];exact r g
 ·by_cases q:g=f
  ·rw[q];exact(Ow f y fs).1
  ·exact(Ow f y fs).2 g (wi g λz=>hg ?_)
   show(if g=f then some u else mA g)=none
   rw[AN q];exact z
theorem Inv.made(I:Inv X v0 σ H s):Inv X v0 σ (AK (AK H s.heap.objs.size (.own (s.heap.objs.size+1))) (s.heap.objs.size+1) (.ins C s.heap.objs.size []))
  {s with heap:=(s.heap.push W.emptyDict).push (W.instObj C s.heap.objs.size)}:=by
 have e1:(s.heap.push W.emptyDict).get? s.heap.objs.size=some W.emptyDict:=Cv s.heap rfl;have e2:((s.heap.push W.emptyDict).push (W.instObj C s.heap.objs.size)).get? (s.heap.objs.size+1)=some (W.instObj C s.heap.objs.size):=by
  have:=Cv (s.heap.push W.emptyDict) (o:=W.instObj C s.heap.objs.size) rfl;rwa[FL]at this
 have e3:(s.heap.push W.emptyDict).Ns s.heap.objs.size (λ_=>none):=Ψ3 W.emptyDict (#[]) _ ⟨e1,rfl,(λe he=>absurd he (by simp)),λ_=>rfl⟩;have I1:=I.laid (a:=s.heap.objs.size) (o:=.own (s.heap.objs.size+1)) (h':=s.heap.push W.emptyDict) (t':=s.toks) (λb u q=>Ap _ q) (Ar _) ⟨_,e1⟩;exact I1.laid (a:=s.heap.objs.size+1) (o:=.ins C s.heap.objs.size []) (t':=s.toks) (λb u q=>Ap _ q) (Nat.le_of_eq (FL _ _)) ?_;have ne:s.heap.objs.size≠s.heap.objs.size+1:=B3 (Hq _);exact⟨by rw[Al ne,BZ],Fm _,ne,e2,λ_=>none,(Heap.Ns1.of_empty e3).at λo q=>Ap _ q,λ_=>True.intro,λy hy=>absurd rfl hy⟩
theorem xI{prog:Program}{env:Env}{f:Str}{pos:Pos}(hb:attributeBase e f env (eval e env)=eval e env)
  (h:wpAny (model prog w) A (eval e env) (λo s₁=>wpAny (model prog w) A (getAttr o f true) Q E s₁) E s):wpAny (model prog w) A (eval (.Attribute e f pos) env) Q E s:=
 Attribute_any_ h (by rw[arm_eval_Attribute,hb])
end
def uH(K:W.Frag)(ta:AO)(f:Str):AO:=λσ H Q=>ta σ H λx H1=>∃a C dx fs v,x=.ref a∧H1 a=some (.ins C dx fs)∧nD K C∧bw K C f∧fs.lookup f=some v∧Q v H1
def ma(K:W.Frag)(ta tv:AO)(f:Str):Bh:=λD σ H=>tv σ H λy H1=>ta σ H1 λx H2=>∃a C dx fs,x=.ref a∧H2 a=some (.ins C dx fs)∧nD K C∧bw K C f∧fs.length<1000∧
 D.nx σ (AK H2 a (.ins C dx (Dq f y fs)))
section
variable {o e value: Expr}{f: Str}{pos': Pos}{tv: AO}
theorem rJ(he:PE X e ta)(hb:attributeBase e f X.env (eval e X.env)=eval e X.env):PE X (.Attribute e f pos) (uH X.K ta f):=by
 exact .mk ?_;intro v0 s σ H Q I h;exact xI hb (AF (he v0 s σ H _ I h) λu s1⟨x,H1,I1,rx,a,C,dx,fs,v,ex,ea,c,n,l,q⟩=>?_);subst ex;obtain rfl:u=Value.ref a:=rx;exact vY I1 ea c n l λu' s2 I2 ru=>Ψ2 v H1 ⟨I2,ru,q⟩
theorem aaz(ha:PE X o ta)(hv:PE X value tv)(hs:swapsWith value (some (.Attribute o f pos')) pos.line X.env=pure false):PS X (.Assign [.Attribute o f pos'] value pos) (ma X.K ta tv f):=by
 exact .mk ?_;intro v0 s σ H D I h;exact plainObj_wpAny_Assign_Attribute (AF (hv v0 s σ H _ I h) λu s1 ξ=>Ξ23 ξ λy H1 I1 ry q=>AF (ha v0 s1 σ H1 _ I1 q) λov s2⟨x,H2,I2,rx,a,C,dx,fs,ex,ea,c,n,l,q2⟩=>?_) hs;subst ex;obtain rfl:ov=Value.ref a:=rx;exact wa I2 ea c n l ry λs3 I3=>Ψ2 σ _ ⟨I3,q2⟩
end
section
variable {v0: List (Addr×Obj)}{σ: St}{H: A4}{s: Shared}{A: Around}{E: Value→Shared→Prop}{Q: Value→Shared→Prop}{c: Value}{b: Bool}
inductive Em(K:W.Frag)(H:A4):V→Value→Prop where
 |non:Em K H .non (.type "NoneType")
 |bl (x:Bool):Em K H (.bl x) (.type "bool")
 |int (i:Int):Em K H (.int i) (.type "int")
 |str (x:Str):Em K H (.str x) (.type "str")
 |flt (x:UInt64):Em K H (.flt x) (.type "float")
 |lst {a:Addr} {xs:List V} (e:H a=some (.lst xs)):Em K H (.ref a) (.type "list")
 |frz {a:Addr} {o:Obj} {xs:List V} (e:H a=some (.frz o (.lst xs))):Em K H (.ref a) (.type "list")
 |tup {a:Addr} {xs:List V} (e:H a=some (.tup xs)):Em K H (.ref a) (.type "tuple")
 |dK {a:Addr} {ay:List (AG×V)} (e:H a=some (.dK ay)):Em K H (.ref a) (.type "dict")
 |dT {a:Addr} {ay:List (List AG×V)} (e:H a=some (.dT ay)):Em K H (.ref a) (.type "dict")
 |ins {a C dx:Addr} {fs:List (Str×V)} (e:H a=some (.ins C dx fs)) (cl:nD K C) (ha:W.findIn K (.ref C) "__class__" = some (some (.builtin "object.__class__")))
   (hn:W.specialIn K (.builtin "object.__class__") "__get__" = some (some (.builtin "getset_descriptor.__get__"))) (Rx:W.takesIn K (.builtin "object.__class__")=some true)
   (hm:W.mroIn K C (.type "object")=some true):Em K H (.ref a) (.ref C)
theorem tF{x:V}{t:Value}(I:Inv X v0 σ H s)(rx:RelV x u)(ty:Em X.K H x t)(e:W.kitOne X.K t c=some b)(h:∀tk,Q (.bool b) {s with toks:=tk}):
  wpAny (model X.prog X.w) A (call (.builtin "isinstance") [u,c]) Q E s:=by
 cases ty with
 |non=>cases(show u=Value.none from rx);exact Fo W.kitx_none I.mr True.intro e (λz=>nomatch z) h
 |bl y=>cases(show u=Value.bool y from rx);exact Fo W.kitx_bool I.mr True.intro e (λz=>nomatch z) h
 |int i=>let⟨t,q⟩:=(show ∃t,u=Value.int i t from rx);cases q;exact Fo W.kitx_int I.mr True.intro e (λz=>nomatch z) h
 |str y=>let⟨t,q⟩:=(show ∃t,u=Value.str y t from rx);cases q;exact Fo W.kitx_str I.mr True.intro e (λz=>nomatch z) h
 |flt y=>let⟨t,q⟩:=(show ∃t,u=Value.float y t from rx);cases q;exact Fo W.kitx_float I.mr True.intro e (λz=>nomatch z) h
 |@lst a xs ea=>
  cases(show u=Value.ref a from rx);let⟨_,⟨_,n,_,h1⟩⟩:=(show bZ X.prog X.w H s.heap a (.lst xs)from I.bO a _ ea);exact Fo W.kitx_list I.mr ⟨_,h1,rfl⟩ e (λz=>nomatch z) h
 |@frz a ob xs ea=>
  cases(show u=Value.ref a from rx);let⟨_,_,⟨_,n,_,h1⟩⟩:=(show bZ X.prog X.w H s.heap a (.frz ob (.lst xs))from I.bO a _ ea);exact Fo W.kitx_list I.mr ⟨_,h1,rfl⟩ e (λz=>nomatch z) h
 |@tup a xs ea=>
  cases(show u=Value.ref a from rx);let⟨_,⟨_,_,p⟩⟩:=(show bZ X.prog X.w H s.heap a (.tup xs)from I.bO a _ ea);let⟨o,h1,h2,_⟩:=p;exact Fo W.kitx_tuple I.mr ⟨o,h1,h2⟩ e (λz=>nomatch z) h
 |@dK a ay ea=>
  cases(show u=Value.ref a from rx);let⟨_,_,⟨vs,_,p⟩⟩:=(show bZ X.prog X.w H s.heap a (.dK ay)from I.bO a _ ea);let⟨o,es,ep,h1,h2,_⟩:=p;exact Fo W.kitx_dict I.mr ⟨o,h1,h2.1⟩ e (λz=>nomatch z) h
 |@dT a ay ea=>
  cases(show u=Value.ref a from rx);let⟨_,_,⟨xs,_,⟨o,es,ep,h1,h2,_⟩⟩⟩:=(show bZ X.prog X.w H s.heap a (.dT ay)from I.bO a _ ea);exact Fo W.kitx_dict I.mr ⟨o,h1,h2.1⟩ e (λz=>nomatch z) h
 |@ins a C dx fs ea cl ha hn Rx hm=>
  cases(show u=Value.ref a from rx);let⟨mA,O,_⟩:=O3 I.bO ea;let⟨od,J,_⟩:=O.look;exact Fo (W.kitx_own (cl.get _) cl.hd ha hn Rx hm) I.mr J e (λz=>nomatch z) h
end
structure dA(k:Nat)(A:Around):Prop where
 hd:A.handled=none
 dp:A.depth+3*k+5<recursionLimit
 un:A.units+16*k+200<cLine
theorem dA.mono(r:dA k A)(h:j≤k):dA j A:=⟨r.hd,by have:=r.dp;lia,by have:=r.un;lia⟩
theorem dA.deeper(r:dA (k+1) A)(env:Env):dA k (A.deeper env):=
 ⟨r.hd,by have:=r.dp;show A.depth+1+3*k+5<_;lia,by have:=r.un;show A.units+3+16*k+200<_;lia⟩
theorem oz:(A.under (.builtin "type.__call__" ⟨.ref C::us,kw⟩)).depth=A.depth+1:=by
 first|rfl|simp[Around.under,Code.weight,Code.isCreation,Code.isGuard,Code.isCaller,Code.frames,Code.isFrame,guardIds]
theorem u0:(A.under (.builtin "type.__call__" ⟨.ref C::us,kw⟩)).units=A.units+1:=by
 first|rfl|simp[Around.under,Code.cUnits,Code.frames,Code.isFrame]
theorem dA.make(r:dA (k+1) A)(C:Addr)(us:List Value)(kw:List (Str×Value)):dA k (A.under (.builtin "type.__call__" ⟨.ref C::us,kw⟩)):=
 ⟨r.hd,by have:=r.dp;rw[oz];lia,by have:=r.un;rw[u0];lia⟩
theorem dA.depth(r:dA k A):A.depth<recursionLimit:=by have:=r.dp;lia
theorem dA.units(r:dA k A):A.units+64<cLine:=by have:=r.un;lia
def cT:Bq:=λ_ H Q=>Q [] H
def XX(ta:AO)(tr:Bq):Bq:=λσ H Q=>ta σ H λx H1=>tr σ H1 λxs H2=>Q (x::xs) H2
section
variable {e: Expr}{te: AO}
theorem Yl:PA X [] cT:=.mk λ_ _ _ _ H Q I h=>Calls.spliced_nil ⟨[],H,I,.nil,h⟩
theorem TT(ha:PE X e te)(hr:PA X es t)(hs:starEach (e::es) X.env=(false,eval e X.env)::starEach es X.env:=by rfl):PA X (e::es) (XX te t):=by
 exact .mk ?_;intro pos v0 s σ H Q I h;rw[hs];show wpAny _ _ (spliced ((false,eval e X.env)::backTo pos (starEach es X.env))) _ _ s
 exact Calls.spliced_cons (AF (ha v0 s σ H _ I h) λu s1 ξ=>Ξ23 ξ λx H1 I1 r1 q1=>?_);exact AF (hr pos v0 s1 σ H1 _ I1 q1) λus s2 ξ=>Ξ23 ξ λxs H2 I2 r2 q2=>Ψ2 (x::xs) H2 ⟨I2,.cons r1 r2,q2⟩
def rn(t:Bq):AO:=λσ H Q=>t σ H λxs H1=>xs.length≤sizeLine∧∀p,H1 p=none→Q (.ref p) (AK H1 p (.tup xs))
def zU(t:Bq):AO:=λσ H Q=>t σ H λxs H1=>xs.length≤sizeLine∧∀p,H1 p=none→Q (.ref p) (AK H1 p (.lst xs))
theorem xy{x1}(h:PA X es t):PE X (.Tuple es x1 pos) (rn t):=by
 exact .mk ?_;intro v0 s σ H Q I hq;exact wpAny_Tuple_spliced (AF (h pos v0 s σ H _ I hq) λus s1 ξ=>Ξ24 ξ λxs H1 I1 r z q=>⟨by rw[←r.length];exact z,?_⟩);have hf:H1 s1.heap.objs.size=none:=I1.bO.fresh (Ar _);exact Ψ2 (.ref s1.heap.objs.size) (AK H1 s1.heap.objs.size (.tup xs)) ⟨I1.laid (t':=s1.toks) (λb u e=>Ap _ e) (Ar _) ?_,rfl,q _ hf⟩;exact⟨z,us,r,⟨_,Cv _ rfl,rfl,_,rfl⟩⟩
theorem iP(h:PA X es t):PE X (.List es pos) (zU t):=by
 exact .mk ?_;intro v0 s σ H Q I hq;exact wpAny_List_spliced (AF (h pos v0 s σ H _ I hq) λus s1 ξ=>Ξ24 ξ λxs H1 I1 r z q=>⟨by rw[←r.length];exact z,?_⟩);have hf:H1 s1.heap.objs.size=none:=I1.bO.fresh (Ar _);exact Ψ2 (.ref s1.heap.objs.size) (AK H1 s1.heap.objs.size (.lst xs)) ⟨I1.laid (t':=s1.toks) (λb u e=>Ap _ e) (Ar _) ?_,rfl,q _ hf⟩;exact⟨z,us,0,r,Cv _ rfl⟩
end
abbrev DU:=List V→A4→Ac→Ax→Prop
abbrev G0:=List Env→A4→Shared→Ax→xz
structure xa(P:Program)(w:World)(K:W.Frag)(mg:KK)(base:Heap)(A:Around)(outer:List Env)(s:Shared)(H:A4):Prop where
 frames:A.frames=some outer
 mod:Mod K mg base
 bs:∀b o,base.get? b=some o→s.heap.get? b=some o∧H b=none
 B6:base.objs.size≤s.heap.objs.size
 kH:s.heap.FunFrames base outer
 Cp:∀b∈DH outer,H b=none
 bO:lH P w H s.heap
 bare:AllBare s.gens
def Qr(outer:List Env)(P:Program)(w:World)(H:A4)(s:Shared)(Q:Ac)(u:Value)(s':Shared):Prop:=
 ∃v H',s'.os=s.os∧AllBare s'.gens∧Un (DH outer) [] H H' s.heap s'.heap∧lH P w H' s'.heap∧RelV v u∧Q v H'
def iq(CX:G0)(outer:List Env)(P:Program)(w:World)(H:A4)(s:Shared)(Q:Ac)(E:Ax)(r:Result)(s':Shared):Prop:=
 match r with
 |.ok (.ret u)=>Qr outer P w H s Q u s'
 |.ok _=>False
 |.error e=>CX outer H s E e s'
structure a8(P:Program)(w:World)(K:W.Frag)(mg:KK)(base:Heap)(CX:G0)(k:Nat)(f:Addr)(fd:FuncData)(ps:List Str)(sp:DU):Prop where
 len:∀vs H Q E,sp vs H Q E→vs.length=ps.length
 run:∀(A:Around) (outer:List Env) (s:Shared) (H:A4) (args:Args) (us:List Value) (vs:List V) (Q:Ac) (E:Ax),dA k A→xa P w K mg base A outer s H→BindsTo s fd args (ps.zip us)→Vals vs us→sp vs H Q E→
  codeAny (model P w) A (.call (.ref f) args) (iq CX outer P w H s Q E) s
theorem a8.mono{f:Addr}(F:a8 P w K mg base CX j f fd ps sp)(h:j≤k):
  a8 P w K mg base CX k f fd ps sp:=⟨F.len,λA outer s H args us vs Q E hr=>F.run A outer s H args us vs Q E (hr.mono h)⟩
theorem a8.imp{f:Addr}{QZ:DU}(F:a8 P w K mg base CX k f fd ps sp)
  (h:∀vs H Q E,QZ vs H Q E→sp vs H Q E):a8 P w K mg base CX k f fd ps QZ:=
 ⟨λvs H Q E q=>F.len vs H Q E (h _ _ _ _ q),λA outer s H args us vs Q E hr he hb hv hs=>F.run A outer s H args us vs Q E hr he hb hv (h _ _ _ _ hs)⟩
theorem xa.make(e:xa P w K mg base A outer s H)(C:Addr)(us:List Value)(kw:List (Str×Value)):
  xa P w K mg base (A.under (.builtin "type.__call__" ⟨.ref C::us,kw⟩)) outer s H:=⟨by first|exact e.frames|(simpa[Around.under,Code.envs,Code.isFrame,pushEnvs]using e.frames),e.mod,e.bs,e.B6,e.kH,e.Cp,e.bO,e.bare⟩
section
variable {v0: List (Addr×Obj)}{σ: St}{H: A4}{s s': Shared}
theorem Inv.IP(I:Inv X v0 σ H s):xa X.prog X.w X.K X.mg X.base X.A X.stack s H:=
 ⟨I.ok.frames,I.ok.mod,I.bs,DA I.ok.B6 I.sz,I.stack,I.oO,I.bO,I.bare⟩
theorem Inv.after{Q:Ac}(I:Inv X v0 σ H s)(h:Qr X.stack X.prog X.w H s Q u s'):BD X v0 σ Q u s':=by
 let⟨v,H',os,bare,un,bO,r,q⟩:=h;obtain⟨hh,g,d,t,TZ⟩:=s';obtain rfl:TZ=s.os:=os;exact Ψ2 v H' ⟨I.call (h':=hh) (g':=g) (d':=d) (t':=t) (ch:=[]) un bO bare (λb z=>absurd z (by simp)),r,q⟩
end
def dy(sp:DU)(sT:List V)(E:Ax)(t:Bq):AO:=λσ H Q=>t σ H λvs H1=>sp (vs++sT) H1 Q E
def nz(C:Addr)(m:Str)(sp:DU)(sT:List V)(E:Ax)(ta:AO)(t:Bq):AO:=λσ H Q=>ta σ H λx H1=>∃a dx fs,x=.ref a∧H1 a=some (.ins C dx fs)∧fs.lookup m=none∧
 t σ H1 λvs H2=>sp (x::(vs++sT)) H2 Q E
def zh(C:Addr)(sp:DU)(sT:List V)(E:Ax)(t:Bq):AO:=λσ H Q=>t σ H λvs H1=>∀x dx,H1 x=none→H1 dx=none→dx≠x→
 sp (.ref x::(vs++sT)) (AK (AK H1 dx (.own x)) x (.ins C dx [])) (λv H2=>v=.non∧Q (.ref x) H2) E
def Binds(K:W.Frag)(fd:FuncData)(ps:List Str)(ds:List Value):Prop:=
 ∀(s:Shared) (us:List Value),K.In s.heap→(us++ds).length=ps.length→BindsTo s fd ⟨us,[]⟩ (ps.zip (us++ds))
theorem Binds.all(h:∀us:List Value,us.length=ps.length→bindArgs fd ⟨us,[]⟩=pure (ps.zip us)):Binds K fd ps []:=λs us _ hl=>by
 rw[Bt]at hl ⊢;exact .of_eq (h us hl)
def Passes(CX:G0)(X:Cx)(E:Ax):Prop:=∀(v0:ac) (σ:St) (H:A4) (s:Shared) (e:Value) (s':Shared),Inv X v0 σ H s→CX X.stack H s E e s'→X.xe e s'
section
variable {CX: G0}{k: Nat}{f C: Addr}{fd: FuncData}{ps: List Str}{sp: DU}{sT: List V}{ds: List Value}{E: Ax}{x m: Str}{apos: Pos}{e o: Expr}
theorem S4{Q:Ac}(F:a8 X.prog X.w X.K X.mg X.base CX k f fd ps sp)(hr:dA k X.A)(hb:Binds X.K fd ps ds)(hd:Vals sT ds)(hx:Passes CX X E)
  (I:Inv X v0 σ H s) (r:Vals vs us) (h:sp (vs++sT) H Q E):wpAny (model X.prog X.w) X.A (call (.ref f) us) (BD X v0 σ Q) X.xe s:=by
 have r2:Vals (vs++sT) (us++ds):=r.append hd;have hl:(us++ds).length=ps.length:=by rw[←r2.length];exact F.len _ _ _ _ h
 exact wpAny_call (Ko (F.run X.A X.stack s H ⟨us,[]⟩ (us++ds) (vs++sT) Q E hr I.IP (hb s us I.mr hl) r2 h) λr s' hq=>?_);cases r with
 |error e=>exact hx v0 σ H s e s' I hq
 |ok fl=>
  cases fl with
  |ret u=>exact I.after hq
  |next=>exact False.elim hq
  |brk=>exact False.elim hq
  |cont=>exact False.elim hq
theorem m6(F:a8 X.prog X.w X.K X.mg X.base CX k f fd ps sp)(hr:dA k X.A)(hg:BP X x)(hm:X.mg x=some (.ref f))(hk:W.keepIn X.K (.ref f)=true)(hb:Binds X.K fd ps ds)(hd:Vals sT ds)(hx:Passes CX X E)
  (ha:PA X (e::es) t) (oC:(x ==("__debug__" : Str))=false:=by decide) (he:starEach (e::es) X.env=(false,eval e X.env)::starEach es X.env:=by rfl) (hJ:(backTo pos (starEach es X.env)).any (·.1)=false:=by rfl) :
  PE X (.Call (.Name x p) (e::es) [] pos) (dy sp sT E t):=by
 exact .mk ?_;intro v0 s σ H Q I h;exact Hl (Ji I hg hm ?_ oC);exact La (h₀:=X.base) I.ok.mod.Fg hk (AF (ha pos v0 s σ H _ I h) λus s1 ξ=>Ξ23 ξ λvs H1 I1 r q=>⟨I1.mr,?_⟩) he hJ;exact S4 F hr hb hd hx I1 r q
theorem pB(he:PE X o ta)(c:nD X.K C)(hm:Meth X.K C m f)(F:a8 X.prog X.w X.K X.mg X.base CX k f fd ps sp)(hr:dA k X.A)(hb:Binds X.K fd ps ds)(hd:Vals sT ds)(hx:Passes CX X E)(ha:PA X (e::es) t)
  (tK:starEach (e::es) X.env=(false,eval e X.env)::starEach es X.env:=by rfl) (hJ:(backTo pos (starEach es X.env)).any (·.1)=false:=by rfl)
  (ht:eval (.Call (.Attribute o m apos) (e::es) [] pos) X.env=(do
   let ov ←eval o X.env
   standAt apos.atName
   let(f,first) ←holding [ov] (getMethod ov m pl)
   callWith pos f first (backTo pos (starEach (e::es) X.env)) (backToKw pos (keywordEach [] X.env))):=by rfl) :
  PE X (.Call (.Attribute o m apos) (e::es) [] pos) (nz C m sp sT E ta t):=by
 exact .mk ?_;intro v0 s σ H Q I h;exact W.methodCall_KW (pl:=pl) (AF (he v0 s σ H _ I h) λu s1⟨x,H1,I1,rx,a,dx,fs,ex,ea,l,q⟩=>?_) ht;subst ex;obtain rfl:u=Value.ref a:=rx;exact xk I1 ea c hm l ?_;exact La (first:=[.ref a]) (h₀:=X.base) I.ok.mod.Fg hm.kp (AF (ha pos v0 s1 σ H1 _ I1 q) λus s2 ξ=>Ξ23 ξ λvs H2 I2 r q2=>⟨I2.mr,?_⟩) tK hJ;exact S4 (us:=.ref a::us) (vs:=.ref a::vs) F hr hb hd hx I2 (.cons rfl r) q2
structure Mp(K:W.Frag)(C f:Addr):Prop where
 makes:W.makesIn K C=true
 init:W.findIn K (.ref C) "__init__" = some (some (.ref f))
 fn:W.isFn K (.ref f)=true
 kp:W.keepIn K (.ref C)=true
theorem rK{Q:Ac}(M:Mp X.K C f)(F:a8 X.prog X.w X.K X.mg X.base CX k f fd ps sp)(hr:dA (k+1) X.A)(hb:Binds X.K fd ps ds)(hd:Vals sT ds)
  (hx:Passes CX X E) (I:Inv X v0 σ H s) (r:Vals vs us)
  (h:∀x dx,H x=none→H dx=none→dx≠x→sp (.ref x::(vs++sT)) (AK (AK H dx (.own x)) x (.ins C dx [])) (λv H2=>v=.non∧Q (.ref x) H2) E) :
  wpAny (model X.prog X.w) X.A (call (.ref C) us) (BD X v0 σ Q) X.xe s:=by
 have hq:=h (s.heap.objs.size+1) s.heap.objs.size (I.bO.fresh (BO _)) (I.bO.fresh (Ar _)) (B3 (Hq _));have I2:=Inv.made (C:=C) I;have r2:Vals (V.ref (s.heap.objs.size+1)::(vs++sT)) (Value.ref (s.heap.objs.size+1)::(us++ds)):=.cons rfl (r.append hd);have hl:(Value.ref (s.heap.objs.size+1)::us++ds).length=ps.length:=by
  have e:=r2.length;rw[F.len _ _ _ _ hq]at e;exact e.symm
 exact wpAny_call (lg (f:=f) I.mr M.makes M.init (Zx.mp M.fn) (Ko (F.run _ X.stack _ _ ⟨Value.ref (s.heap.objs.size+1)::us,[]⟩ (Value.ref (s.heap.objs.size+1)::(us++ds)) _ _ E (hr.make C us [])
  (I2.IP.make C us []) (hb _ (Value.ref (s.heap.objs.size+1)::us) I2.mr hl) r2 hq) λr s' LQ=>?_))
 cases r with
 |error e=>exact hx v0 σ _ _ e s' I2 LQ
 |ok fl=>
  cases fl with
  |ret u=>
   let⟨v,H',I3,rv,ev,q3⟩:=I2.after LQ;subst ev;exact⟨rv,Ψ2 (V.ref (s.heap.objs.size+1)) H' ⟨I3,rfl,q3⟩⟩
  |next=>exact False.elim LQ
  |brk=>exact False.elim LQ
  |cont=>exact False.elim LQ
theorem sI(M:Mp X.K C f)(F:a8 X.prog X.w X.K X.mg X.base CX k f fd ps sp)(hr:dA (k+1) X.A)(hg:BP X x)(hm:X.mg x=some (.ref C))(hb:Binds X.K fd ps ds)(hd:Vals sT ds)(hx:Passes CX X E)
  (ha:PA X (e::es) t) (oC:(x ==("__debug__" : Str))=false:=by decide) (he:starEach (e::es) X.env=(false,eval e X.env)::starEach es X.env:=by rfl) (hJ:(backTo pos (starEach es X.env)).any (·.1)=false:=by rfl) :
  PE X (.Call (.Name x p) (e::es) [] pos) (zh C sp sT E t):=by
 exact .mk ?_;intro v0 s σ H Q I h;exact Hl (Ji I hg hm ?_ oC);exact La (h₀:=X.base) I.ok.mod.Fg M.kp (AF (ha pos v0 s σ H _ I h) λus s1 ξ=>Ξ23 ξ λvs H1 I1 r q=>⟨I1.mr,?_⟩) he hJ;exact rK M F hr hb hd hx I1 r q
end
structure PK(X:Cx)(Nd:List Keyword)(t:Bq):Prop where
 run:∀(pos:Pos) v0 s σ H (Q:List V→A4→Prop),Inv X v0 σ H s→t σ H Q→wpAny (model X.prog X.w) X.A (evalAll ((backToKw pos (keywordEach Nd X.env)).map (·.2))) (Ls X v0 σ Q) X.xe s
instance {X:Cx}{Nd:List Keyword}{t:Bq}:CoeFun (PK X Nd t) λ_=>∀(pos:Pos) v0 s σ H (Q:List V→A4→Prop),Inv X v0 σ H s→t σ H Q→wpAny (model X.prog X.w) X.A (evalAll ((backToKw pos (keywordEach Nd X.env)).map (·.2))) (Ls X v0 σ Q) X.xe s:=⟨PK.run⟩
structure Ak(N P:List Str)(sc:Scope):Prop where
 kind:sc.kind=.function
 co:sc.isCoroutine=false
 gen:sc.isGenerator=false
 nd:N.Nodup
 pre:N.take P.length=P
 par:∀x∈P,sc.names.lookup x=some .local∨sc.names.lookup x=some .cell
 HE:∀y∈sc.names,y.2≠.free
theorem dP{kindOf:Str→Option NameKind}{x:Str}:∀{binds:List (Str×Value)} {m:KK},(∀v,(x,v)∉binds)→bindL kindOf binds m x=m x
 |[],_,_=>rfl
 |(n,v)::r,m,h=>by
  unfold bindL;rw[dP λw hw=>h w (Dz _ hw)];split
  ·have:x≠n:=by rintro rfl;exact h v K9
   simp[this]
  ·rfl
theorem dZ{kindOf:Str→Option NameKind}{x:Str}:∀{binds:List (Str×Value)} {m:KK},(∀v,(x,v)∉binds)→bindC kindOf binds m x=m x
 |[],_,_=>rfl
 |(n,v)::r,m,h=>by
  unfold bindC;rw[dZ λw hw=>h w (Dz _ hw)];split
  ·rfl
  ·have:x≠n:=by rintro rfl;exact h v K9
   simp[this]
theorem aH{kindOf:Str→Option NameKind}{x:Str}{v:Value}:∀{P:List Str} {vs:List Value} {i:Nat} {m:KK},P.Nodup→P[i]?=some x→vs[i]?=some v→kindOf x=some .local→
  bindL kindOf (P.zip vs) m x=some v
 |[],_,_,_,_,h,_,_=>by simp at h
 |_::_,[],_,_,_,_,h,_=>by simp at h
 |p::P,w::vs,0,m,nd,h1,h2,hk=>by
  simp at h1 h2;subst h1;subst h2;show bindL kindOf ((p,w)::P.zip vs) m p=_
  unfold bindL;rw[dP λv hv=>(Zw.mp nd).1 (Si hv).1,AR hk];simp
 |p::P,w::vs,i+1,m,nd,h1,h2,hk=>by
  show bindL kindOf ((p,w)::P.zip vs) m x=_
  unfold bindL;exact aH (i:=i) (Zw.mp nd).2 (by simpa using h1) (by simpa using h2) hk
theorem dz{kindOf:Str→Option NameKind}{x:Str}{v:Value}:∀{P:List Str} {vs:List Value} {i:Nat} {m:KK},P.Nodup→P[i]?=some x→vs[i]?=some v→kindOf x≠some .local→
  bindC kindOf (P.zip vs) m x=some v
 |[],_,_,_,_,h,_,_=>by simp at h
 |_::_,[],_,_,_,_,h,_=>by simp at h
 |p::P,w::vs,0,m,nd,h1,h2,hk=>by
  simp at h1 h2;subst h1;subst h2;show bindC kindOf ((p,w)::P.zip vs) m p=_
  unfold bindC;rw[dZ λv hv=>(Zw.mp nd).1 (Si hv).1,AN hk];simp
 |p::P,w::vs,i+1,m,nd,h1,h2,hk=>by
  show bindC kindOf ((p,w)::P.zip vs) m x=_
  unfold bindC;exact dz (i:=i) (Zw.mp nd).2 (by simpa using h1) (by simpa using h2) hk
def start(N:List Str)(vs:List V):St:=vs.map some++List.replicate (N.length-vs.length) none
def Ha(CX:G0)(P:Program)(w:World)(K:W.Frag)(mg:KK)(base:Heap)(N:List Str)(qual:Str)(scope:Scope)(f:Addr)(cd:Value)(A:Around)(outer:List Env)(s:Shared)(H:A4)(E:Ax):Cx where
 prog:=P
 w:=w
 K:=K
 mg:=mg
 base:=base
 A:=A.deeper (envOfC qual scope s.heap.objs.size f cd)
 N:=N
 s₀:=s
 H₀:=H
 env:=envOfC qual scope s.heap.objs.size f cd
 outer:=outer
 stack:=envOfC qual scope s.heap.objs.size f cd::outer
 ex:=[]
 calm:=true
 fn:=λ_=>true
 pn:=[]
 xe:=λe s'=>wpAny (model P w) (A.deeper (envOfC qual scope s.heap.objs.size f cd)) (leaving (envOfC qual scope s.heap.objs.size f cd) e) (λ_ Aj=>CX outer H s E e Aj) (λe' Aj=>CX outer H s E e' Aj) s'
theorem ae{sc:Scope}(h:sc.names.lookup x=some .cell):∃c,(cellsFrom n sc.names []).lookup x=some c:=by
 have q:=W.cellsFrom_some sc.names n [] (.inl h);exact aaB.mp q
theorem vk{f:Addr}{cd:Value}{s1:Shared}{E:Ax}
  (S:Ak N ps scope) (hd:A.handled=none) (e0:xa P w K mg base A outer s H) (hl:vs.length=ps.length) (r:Vals vs us)
  (x:InCallC s s.heap.objs.size (bindL (envOfC qual scope s.heap.objs.size f cd).kindOf (ps.zip us) λ_=>none) (cellsFrom (s.heap.objs.size+1) scope.names []) (bindC (envOfC qual scope s.heap.objs.size f cd).kindOf (ps.zip us) λ_=>none) s1) :
  Inv (Ha CX P w K mg base N qual scope f cd A outer s H E) [] (start N vs) H s1:=by
 have hJ:ps.length≤N.length:=by have:=Eh List.length S.pre;rw[ET]at this;lia
 let⟨h1,tk,rfl,hk⟩:=x.done;have Lx:∀b:Addr,b∉(Ha CX P w K mg base N qual scope f cd A outer s H E).ex:=λb z=>absurd (show b∈([]:List Addr)from z) (by simp);exact⟨⟨e0.mod,S.kind,rfl,rfl,Ar _,λy z c h1 h2=>?_,λy hy=>?_,λy c _ h=>?_,λ_=>hd,Around.frames_deeper e0.frames,.inr ⟨rfl,rfl⟩,λb z=>absurd z (Lx b),e0.bs,e0.B6,λb _ _=>Lx b,λb z=>absurd z (Lx b),e0.kH,e0.Cp⟩,
  rfl,e0.bare,Un.kept hk,⟨_,x.toInCall.ns,λi y v h1 h2 h3=>?_⟩,λy c h=>⟨_,x.cell y c h⟩,e0.bO.fresh (Ar _),λy c h=>?_,λp hp=>absurd (show p∈([]:ac)from hp) (by simp),e0.bO.kept hk,?_⟩
 ·exact name_of_addr x.apart (KY h1) (KY h2)
 ·have hy:scope.names.lookup y=some .cell∨scope.names.lookup y=some .free:=hy
  rcases hy with hy|hy
  ·exact ae hy
  ·exact absurd rfl (S.HE _ (KY hy))
 ·exact CG (x.above y c (KY h))
 ·have hi:i<vs.length:=by
   unfold start at h2;by_cases hi:i<vs.length
   ·exact hi
   ·rw[cW (by simpa using hi)]at h2
    rw[dw]at h2;split at h2<;>cases h2
  have ha:vs[i]?=some v:=by
   unfold start at h2;rw[aU (by simpa using hi),Hi]at h2;cases e:vs[i]? with
   |none=>rw[e]at h2;cases h2
   |some a=>rw[e]at h2;cases h2;rfl
  let⟨u,hu,rv⟩:=r.get ha;have hp:ps[i]?=some y:=by
   rw[←S.pre,List.getElem?_take_of_lt (by lia)];exact h1
  have Rg:ps.Nodup:=by rw[←S.pre];exact S.nd.sublist (List.take_sublist _ _)
  exact⟨u,rv,?_⟩;rcases S.par y (Nt hp)with k|k
  ·exact .inl ⟨k,aH Rg hp hu k⟩
  ·let⟨c,e⟩:=ae (n:=s.heap.objs.size+1) k
   exact .inr ⟨.inl k,c,e,?_⟩;have q:=x.cell y c e;rw[dz Rg hp hu (by show scope.names.lookup y≠_;rw[k];decide)]at q;exact q
 ·exact e0.bO.fresh (CG (x.above y c (KY h)))
 ·unfold start
  show _=N.length
  rw[Br,AV,List.length_replicate];lia
theorem Yy{f:Addr}{name:Str}{params:Arguments}{dV Ay doc pm cn ct oc:Value}{an od:Option Addr}
  {yC:Array (Option Value)}   (lk:K.lookup f=some ⟨oc,od,.func (W.fnOf name qual params body scope dV Ay doc pm an cn ct),yC⟩) (uv:W.codeIn K cn qual=true) (S:Ak N ps scope)
  (len:∀vs H Q E,sp vs H Q E→vs.length=ps.length)
  (mx:∀(A:Around) (outer:List Env) (s:Shared) (H:A4) (vs:List V) (Q:Ac) (E:Ax),dA k (A.deeper (envOfC qual scope s.heap.objs.size f cn))→sp vs H Q E→
   ∃t,lG (Ha CX P w K mg base N qual scope f cn A outer s H E) body t∧t {nx:=λ_ H'=>Q .non H',rt:=Q} (start N vs) H) :
  a8 P w K mg base CX (k+1) f (W.fnOf name qual params body scope dV Ay doc pm an cn ct) ps sp:=by
 exact⟨len,λA outer s H args us vs Q E hr e0 hb r vc=>?_⟩;have hl:=len _ _ _ _ vc;have KX:K.In s.heap:=e0.mod.Fg.keeps λb o e=>(e0.bs b o e).1;have lim:s.heap.NoLimit:=e0.mod.nolimit.keeps λb o e=>(e0.bs b o e).1;have LW:∀y∈ps.zip us,scope.names.lookup y.1=some .local∨(scope.names.lookup y.1=some .cell∧((cellsFrom (s.heap.objs.size+1) scope.names []).lookup y.1).isSome=true):=λ⟨n,v⟩ hy=>by
  rcases S.par n (Si hy).1 with q|q
  ·exact .inl q
  ·exact .inr ⟨q,W.cellsFrom_some _ _ _ (.inl q)⟩
 exact codeAny_call_function hr.depth (KX _ _ lk) rfl S.co S.gen rfl (W.codeRec_of KX uv) (hb _ _ _ _ ?_);exact wpAny_newFunctionEnv_cells S.kind LW λenv he s1 x=>?_;subst he;exact⟨lim.keeps x.toInCall.keep,codeAny_func ?_⟩;let⟨t,ht,hq⟩:=mx A outer s H vs Q E (hr.deeper _) vc;have I:Inv (Ha CX P w K mg base N qual scope f cn A outer s H E) [] (start N vs) H s1:=vk S hr.hd e0 hl r x;exact BF (ht [] s1 (start N vs) H _ I hq) (λfl s' hs=>?_) λe s' hs=>hs;have fin:∀{σ':St} {H':A4} {v:V} {u:Value},Inv (Ha CX P w K mg base N qual scope f cn A outer s H E) [] σ' H' s'→RelV v u→Q v H'→Qr outer P w H s Q u s':=
  λ{σ' H' v u} J rv q=>Ψ2 v H' ⟨J.os,J.bare,J.base,J.bO,rv,q⟩
 cases fl with
 |ret u=>
  let⟨v,σ',H',J,rv,q⟩:=hs;exact fin J rv q
 |next=>
  let⟨σ',H',J,q⟩:=hs;exact fin (v:=V.non) (u:=Value.none) J rfl q
 |brk=>
  let⟨_,_,_,q⟩:=hs;exact False.elim q
 |cont=>
  let⟨_,_,_,q⟩:=hs;exact False.elim q
section
variable {x: Str}{e: Expr}{id T: String}{r: List V→A4→Ac→Prop}
def WG(r:List V→A4→Ac→Prop)(t:Bq):AO:=λσ H Q=>t σ H λvs H1=>r vs H1 Q
theorem eE(hc:F1 X (.builtin id) r)(hg:BP X x)(hm:X.mg x=none)(hv:bootBuiltins x=some (.builtin id))(ha:PA X (e::es) t)(hn:x ≠ "__name__" := by decide)(oC:(x ==("__debug__" : Str))=false:=by decide)
  (he:starEach (e::es) X.env=(false,eval e X.env)::starEach es X.env:=by rfl) (hJ:(backTo pos (starEach es X.env)).any (·.1)=false:=by rfl):PE X (.Call (.Name x p) (e::es) [] pos) (WG r t):=by
 exact .mk ?_;intro v0 s σ H Q I h;exact Hl (Jh I hg hm hv ?_ hn oC);exact PyProof.Rows.callWith_builtin1 (AF (ha pos v0 s σ H _ I h) λus s1 ξ=>Ξ23 ξ λvs H1 I1 r1 q1=>hc v0 s1 σ H1 vs us Q I1 r1 q1) he hJ
theorem jR(hc:F1 X (.type T) r)(hg:BP X x)(hm:X.mg x=none)(hv:bootBuiltins x=some (.type T))(ha:PA X (e::es) t)(hn:x ≠ "__name__" := by decide)(oC:(x ==("__debug__" : Str))=false:=by decide)
  (he:starEach (e::es) X.env=(false,eval e X.env)::starEach es X.env:=by rfl) (hJ:(backTo pos (starEach es X.env)).any (·.1)=false:=by rfl):PE X (.Call (.Name x p) (e::es) [] pos) (WG r t):=by
 exact .mk ?_;intro v0 s σ H Q I h;exact Hl (Jh I hg hm hv ?_ hn oC);exact N1 (AF (ha pos v0 s σ H _ I h) λus s1 ξ=>Ξ23 ξ λvs H1 I1 r1 q1=>hc v0 s1 σ H1 vs us Q I1 r1 q1) he hJ
end
end L2
namespace HT
open PySem PyProof.Rows
variable {sl:Addr}{vl vu:Value}{lo hi:Option Int}
section
open PySem.SeqAt
open PySem.AutoSeq1 (wpAny_loadPart')
open PySem.MeetsSeq PySem.MeetsSeq2 PySem.MeetsSeq3
end
section
variable {prog: Program}{w: World}{A: Around}{E: Value→Shared→Prop}{s: Shared}
def cR(n d:Nat):Option Int→Nat
 |none=>d
 |some v=>if v<0 then(v+(n:Int)).toNat else min v.toNat n
theorem pH(n d:Nat):cR n d none=d:=rfl
theorem rR(n d:Nat)(hd:d≤n)(o:Option Int):cR n d o≤n:=by
 cases o with
 |none=>exact hd
 |some v=>
  show(if v<0 then(v+(n:Int)).toNat else min v.toNat n)≤n
  by_cases hv:v<0
  ·rw[AR hv];lia
  ·rw[AN hv];exact Nat.min_le_right _ _
theorem cO(v:Int)(n d:Nat):(if v<0 then max (v+(n:Int)) 0 else min v (n:Int))=((cR n d (some v):Nat):Int):=by
 show(if v<0 then max (v+(n:Int)) 0 else min v (n:Int))=(((if v<0 then(v+(n:Int)).toNat else min v.toNat n):Nat):Int)
 by_cases hv:v<0
 ·simp only[AR hv];lia
 ·simp only[AN hv];lia
theorem rN(lo hi:Option Int)(n:Nat):Builtin.Slice.sliceAdjust lo hi 1 (n:Int)=(((cR n 0 lo:Nat):Int),((cR n n hi:Nat):Int)):=by
 have h1:¬((1:Int)<0):=by lia
 unfold Builtin.Slice.sliceAdjust;simp only[h1,J2];exact Prod.ext ?_ ?_
 ·cases lo with
  |none=>rfl
  |some v=>exact cO v n 0
 ·cases hi with
  |none=>rfl
  |some v=>exact cO v n n
theorem uI(i j:Nat):Builtin.Slice.slicePlaces (i:Int) (j:Int) 1=j-i:=by
 unfold Builtin.Slice.slicePlaces;have h1:(1:Int)>0:=by lia
 simp only[h1,Gx,Int.ediv_one];split<;>lia
theorem Z1{v:Value}{o:Option Int}{Q:Option Int→Shared→Prop}(p:IsPart v o)(h:Q o s):wpAny (model prog w) A (Builtin.Slice.slicePartIndex v) Q E s:=by
 cases p with
 |none=>exact slicePart_none h
 |int i t=>exact slicePart_int h
theorem iD{n:Nat}{Q:Int×Int×Nat→Shared→Prop}(hs:s.heap.IsSliceOf sl vl vu .none)(pl:IsPart vl lo)(pu:IsPart vu hi)
  (h:Q (((cR n 0 lo:Nat):Int),1,cR n n hi-cR n 0 lo) s):wpAny (model prog w) A (Builtin.Slice.sliceApplied (.ref sl) (pure (n:Int))) Q E s:=by
 let⟨os,Il,Jv,IB⟩:=id hs;unfold Builtin.Slice.sliceApplied Builtin.Slice.sliceFields;exact A8 (A8 (Ei Il IB (x:=vl) rfl (A8 (Ei Il IB (x:=vu) rfl (A8 (Ei Il IB (x:=.none) rfl (AS ?_)))))));exact A8 (slicePart_none ?_);show wpAny _ _ (if((1:Int)==0)=true then _ else _) _ _ s
 rw[AN (by decide)];exact A8 (Z1 pl (A8 (Z1 pu (A8 (AS ?_)))));show wpAny _ _ (match Builtin.Slice.sliceAdjust lo hi 1 (n:Int)with|(lo,hi)=>pure (lo,(1:Int),Builtin.Slice.slicePlaces lo hi 1)) _ _ s
 rw[rN lo hi n];show wpAny _ _ (pure (((cR n 0 lo:Nat):Int),(1:Int),Builtin.Slice.slicePlaces ((cR n 0 lo:Nat):Int) ((cR n n hi:Nat):Int) 1)) _ _ s
 rw[uI];exact AS h
theorem rm(xs:Array Value)(i k:Nat):((List.range k).filterMap λ(m:Nat)=>xs[((i:Int)+(m:Int)*1).toNat]?).toArray=((xs.toList.drop i).take k).toArray:=by
 have e:(λ(m:Nat)=>xs[((i:Int)+(m:Int)*1).toNat]?)=λm=>xs[i+m]? := by
  funext m
  have:((i:Int)+(m:Int)*1).toNat=i+m:=by lia
  rw[this]
 rw[e];have:=pick_run xs i k;rw[List.filterMap_map]at this;have e2:((λx=>xs[x]?) ∘ λx=>i+x)=λm=>xs[i+m]? := rfl;rw[e2]at this;rw[this]
theorem mz{t:Addr}{items:Array Value}{Q:xz}(ht:IsTup s.heap t items)(hs:s.heap.IsSliceOf sl vl vu .none)(pl:IsPart vl lo)(pu:IsPart vu hi)
  (hw:¬(cR items.size 0 lo=0∧cR items.size items.size hi=items.size))
  (h:Q (.ref s.heap.objs.size) {s with heap:=s.heap.push {cls:=.type "tuple",data:=.seq ((items.toList.drop (cR items.size 0 lo)).take (cR items.size items.size hi-cR items.size 0 lo)).toArray}})
  (hsz:items.size≤sizeLine):wpAny (model prog w) A (getItem (.ref t) (.ref sl)) Q E s:=by
 have xJ:sizeOk (.seq ((items.toList.drop (cR items.size 0 lo)).take (cR items.size items.size hi-cR items.size 0 lo)).toArray):=by
  show((items.toList.drop (cR items.size 0 lo)).take (cR items.size items.size hi-cR items.size 0 lo)).toArray.size≤sizeLine
  rw[BW,ET,Ff,JL];lia
 have hj:cR items.size items.size hi≤items.size:=rR _ _ (Ar _) hi;let⟨os,Il,Jv,IB⟩:=id hs;have PU:s.TypeIs (.ref sl) "slice" :=⟨os,Il,Jv⟩;unfold getItem
 try with_reducible refine F7 ?_
 first|refine A8 (AS ?_)|skip
 exact A8 (wpAny_sequenceKey ht.typeIs (by decide) ?_);exact A8 (JJ (name:=Str.ofString "__getitem__") ht.typeIs YL
  (Hy YL ht.typeIs entry_tuple_getitem ?_ (args_tuple_getitem _ _)))
 show wpAny _ _ (Builtin.Tuple.tupleItemsOf (.ref t) >>= _) _ _ s
 exact A8 (tupleItemsOf_ ht ?_);exact A8 (wpAny_typeOf PU ?_);rw[AR (by decide)];exact A8 (iD hs pl pu ?_);have US:¬((((cR items.size 0 lo:Nat):Int)==0&&(1:Int)==1&&(cR items.size items.size hi-cR items.size 0 lo)==items.size)=true):=by
  intro q;rw[E9,E9]at q;have q1:((cR items.size 0 lo:Nat):Int)=0:=eq_of_beq q.1.1;have q2:cR items.size items.size hi-cR items.size 0 lo=items.size:=eq_of_beq q.2;exact hw ⟨by lia,by lia⟩
 show wpAny _ _ (if(((cR items.size 0 lo:Nat):Int)==0&&(1:Int)==1&&(cR items.size items.size hi-cR items.size 0 lo)==items.size)=true then _ else _) _ _ s
 rw[AN US,rm];first
  |exact A8 (m:=Builtin.Tuple.tupleExact _) (Gu (AS ⟨_,rfl,AS h⟩) xJ)
  |exact A8 (m:=Builtin.Tuple.tupleExact _) (Gu (A8 (AS (AS ⟨_,rfl,AS h⟩))) xJ)
  |exact A8 (A8 (m:=Builtin.Tuple.tupleExact _) (Gu (AS (AS ⟨_,rfl,AS h⟩)) xJ))
  |exact A8 (A8 (m:=Builtin.Tuple.tupleExact _) (Gu (AS ⟨_,rfl,AS h⟩) xJ))
end
end HT
namespace L2
open PySem PySem.Spec PyProof.Rows
variable {n j t':Nat}{i:Int}{A:Around}{s:Shared}{y x:V}{u v:Value}{bj:List Value}{X: Cx}{e: Expr}{pos: Pos}
abbrev GW:=St→A4→(Option Int→A4→Prop)→Prop
structure PO(X:Cx)(e:Option Expr)(t:GW):Prop where
 run:∀v0 s σ H (Q:Option Int→A4→Prop),Inv X v0 σ H s→t σ H Q→
  wpAny (model X.prog X.w) X.A (evalPart e X.env) (λu s'=>∃o H',Inv X v0 σ H' s'∧IsPart u o∧Q o H') X.xe s
instance {X:Cx}{e:Option Expr}{t:GW}:CoeFun (PO X e t) λ_=>∀v0 s σ H (Q:Option Int→A4→Prop),Inv X v0 σ H s→t σ H Q→wpAny (model X.prog X.w) X.A (evalPart e X.env) (λu s'=>∃o H',Inv X v0 σ H' s'∧IsPart u o∧Q o H') X.xe s:=⟨PO.run⟩
def pQ:GW:=λ_ H Q=>Q none H
def lV(t:AO):GW:=λσ H Q=>t σ H λx H1=>∃i,x=.int i∧Q (some i) H1
section
variable {te: AO}{lo hi: Option Expr}{tl th: GW}{p2: Pos}
theorem aan:PO X none pQ:=by
 exact .mk ?_;intro v0 s σ H Q I h;rw[evalPart_none];exact AS ⟨none,H,I,.none,h⟩
theorem ic(h:PE X e te):PO X (some e) (lV te):=by
 exact .mk ?_;intro v0 s σ H Q I hw;rw[evalPart_some];exact AF (h v0 s σ H _ I hw) λu s1 ξ=>Ξ23 ξ λx H1 I1 r1 q1=>?_;let⟨i,rfl,q⟩:=q1;let⟨t,rfl⟩:=r1;exact Ψ2 (some i) H1 ⟨I1,.int i t,q⟩
def Hu(X:Cx)(r:V→Option Int→Option Int→A4→Ac→Prop):Prop:=
 ∀v0 s σ H (x:V) (v vl vu:Value) (lo hi:Option Int) (sl:Addr) (Q:Ac),Inv X v0 σ H s→RelV x v→s.heap.IsSliceOf sl vl vu .none→IsPart vl lo→IsPart vu hi→r x lo hi H Q→
  ∃T id,typeLookup (.type T) "__getitem__" = pure (some (.builtin id))∧s.TypeIs v T∧wpAny (model X.prog X.w) X.A (getItem v (.ref sl)) (BD X v0 σ Q) X.xe s
def pO(r:V→Option Int→Option Int→A4→Ac→Prop)(te:AO)(tl th:GW):AO:=λσ H Q=>te σ H λx H1=>tl σ H1 λl H2=>th σ H2 λu H3=>r x l u H3 Q
theorem tS{r:V→Option Int→Option Int→A4→Ac→Prop}(hr:Hu X r)(he:PE X e te)(hl:PO X lo tl)(hu:PO X hi th):PE X (.Subscript e (.Slice lo hi none p2) pos) (pO r te tl th):=by
 exact .mk ?_;intro v0 s σ H Q I h;exact Subscript_ (AF (he v0 s σ H _ I h) λv s1 ξ=>Ξ23 ξ λx H1 I1 r1 q1=>?_);exact wpAny_Slice (AF (hl v0 s1 σ H1 _ I1 q1) λvl s2 ξ=>Ξ23 ξ λl H2 I2 pl q2=>AF (hu v0 s2 σ H2 _ I2 q2) λvu s3 ξ=>Ξ23 ξ λu H3 I3 pu q3=>?_);rw[evalPart_none];exact AS ?_;have I4:Inv X v0 σ H3 {s3 with heap:=s3.heap.push {cls:=.type "slice",data:=.fields #[vl,vu,.none]}}:=I3.kept (t':=s3.toks) λb ob q=>Ap _ q;let⟨T,id,hT,ht,hg⟩:=hr v0 {s3 with heap:=s3.heap.push {cls:=.type "slice",data:=.fields #[vl,vu,.none]}} σ H3 x v vl vu l u s3.heap.objs.size Q I4 r1 (Heap.IsSliceOf.new ..) pl pu q3;show wpAny (model X.prog X.w) X.A (subscriptTail e (.Slice lo hi none p2) v (.ref s3.heap.objs.size)) (BD X v0 σ Q) X.xe {s3 with heap:=s3.heap.push {cls:=.type "slice",data:=.fields #[vl,vu,.none]}}
 exact tail_any (ops:=[.ref s3.heap.objs.size,v]) ht hT hg (by with_unfolding_all rfl)
def FP(xs:List V)(lo hi:Option Int):List V:=(xs.drop (HT.cR xs.length 0 lo)).take (HT.cR xs.length xs.length hi-HT.cR xs.length 0 lo)
theorem ck(xs:List V)(lo hi:Option Int):(FP xs lo hi).length≤xs.length:=by
 unfold FP;rw[ET,Ff];lia
def md(K:W.Frag):V→Option Int→Option Int→A4→Ac→Prop:=λx lo hi H Q=>∃a xs,x=.ref a∧dW K H a xs∧
 ¬(HT.cR xs.length 0 lo=0∧HT.cR xs.length xs.length hi=xs.length)∧∀p,H p=none→Q (.ref p) (AK H p (.tup (FP xs lo hi)))
theorem vX:Hu X (md X.K):=by
 intro v0 s σ H x v vl vu lo hi sl Q I rx hs pl pu h;let⟨a,xs,rfl,hx,hw,q⟩:=h;cases rx;let⟨bj,r,ht,hz⟩:=I.tuple hx;have hlen:bj.toArray.size=xs.length:=by rw[BW];exact r.length.symm
 exact Ψ2 ("tuple") _ ⟨YL.lookup,ht.typeIs,?_⟩;exact HT.mz ht hs pl pu (by rw[hlen];exact hw) ?_ (by rw[hlen];exact hz);rw[hlen];exact Ψ2 (.ref s.heap.objs.size) _ ⟨I.laid (t':=s.toks) (o:=.tup (FP xs lo hi)) (λb ob q=>Ap _ q) (Ar _) ?_,rfl,q _ (I.bO.fresh (Ar _))⟩;exact⟨DA (ck xs lo hi) hz,_,(r.drop (HT.cR xs.length 0 lo)).take (HT.cR xs.length xs.length hi-HT.cR xs.length 0 lo),IsTup.new _ _⟩
end
def I0(n:Nat)(i:Int):Option Nat:=if 0≤i then(if i<n then some i.toNat else none)else if -(n:Int)≤i then some (i+n).toNat else none
def Cz{α:Type}(xs:List α)(i:Int):Option α:=(I0 xs.length i).bind λj=>xs[j]?
theorem aaw(h:I0 n i=some j):seqIndex? i n=some j∧j<n∧-(n:Int)≤i∧i<n:=by
 unfold I0 at h;by_cases h0:0≤i
 ·rw[AR h0]at h
  by_cases h1:i<n
  ·rw[AR h1]at h
   have e:i.toNat=j:=Ek h;exact⟨by rw[seqIndex_of h0 h1,e],by lia,by lia,h1⟩
  ·rw[AN h1]at h;cases h
 ·rw[AN h0]at h
  by_cases h1:-(n:Int)≤i
  ·rw[AR h1]at h
   have e:(i+n).toNat=j:=Ek h;exact⟨by rw[seqIndex_neg (by lia) h1,e],by lia,h1,by lia⟩
  ·rw[AN h1]at h;cases h
theorem Qh{α:Type}{xs:List α}{v:α}(h:Cz xs i=some v):∃j,seqIndex? i xs.length=some j∧xs[j]?=some v∧j<xs.length∧-(xs.length:Int)≤i∧i<xs.length:=by
 unfold Cz at h;cases e:I0 xs.length i with
 |none=>rw[e]at h;cases h
 |some j=>
  rw[e]at h;let⟨h1,h2,h3,h4⟩:=aaw e;exact⟨j,h1,h,h2,h3,h4⟩
theorem Iv{α:Type}{xs:List α}{v:α}(h:xs[j]?=some v):Cz xs (j:Int)=some v:=by
 have hj:j<xs.length:=(YG.mp h).1;have e:I0 xs.length (j:Int)=some j:=by
  unfold I0;rw[AR (by lia),AR (by lia)];simp
 unfold Cz;rw[e];exact h
def Lj(b:Expr):Prop:=∀o i,subscripted b false o i=operate [o,i] (getItem o i)
def EC(X:Cx)(r:Dd):Prop:=
 ∀(value slice:Expr) v0 s σ H (x y:V) (v u:Value) (Q:Ac),Inv X v0 σ H s→RelV x v→RelV y u→r x y H Q→
  subscripted slice false v u=operate [v,u] (getItem v u)→wpAny (model X.prog X.w) X.A (subscriptTail value slice v u) (BD X v0 σ Q) X.xe s
def Jg(X:Cx)(id:String)(r:V→List V→A4→Ac→Prop):Prop:=
 ∀v0 s σ H (x:V) (xs:List V) (v:Value) (us:List Value) (Q:Ac),Inv X v0 σ H s→RelV x v→Vals xs us→r x xs H Q→
  wpAny (model X.prog X.w) X.A (call (.builtin id) (v::us)) (BD X v0 σ Q) X.xe s
section
variable {a b: Expr}{ta tb: AO}
theorem EC.or{r r':Dd}(h:EC X r)(h':EC X r'):EC X (λx y H Q=>r x y H Q∨r' x y H Q):=by
 intro value slice v0 s σ H x y v u Q I rx ry q hs;rcases q with q|q
 ·exact h value slice v0 s σ H x y v u Q I rx ry q hs
 ·exact h' value slice v0 s σ H x y v u Q I rx ry q hs
theorem eZ{r:Dd}(hr:EC X r)(ha:PE X a ta)(hb:PE X b tb)(hs:Lj b):PE X (.Subscript a b pos) (LC r ta tb):=by
 exact .mk ?_;intro v0 s σ H Q I h;exact Subscript_ (S6 ha hb I h λv u s2 x y H2 I2 rx ry q=>hr a b v0 s2 σ H2 x y v u Q I2 rx ry q (hs _ _))
def ZF(K:W.Frag):Dd:=λx y H Q=>∃p xs i v,x=.ref p∧y=.int i∧kB K H p xs∧Cz xs i=some v∧Q v H
def fB(K:W.Frag):Dd:=λx y H Q=>∃p xs i v,x=.ref p∧y=.int i∧dW K H p xs∧Cz xs i=some v∧Q v H
def ZI:Dd:=λx y H Q=>∃z i c,x=.str z∧y=.int i∧z.length≤sizeLine∧Cz z.cps.toList i=some c∧Q (.str ⟨#[c]⟩) H
theorem D5:EC X (ZF X.K):=by
 intro value slice v0 s σ H x y v u Q I rx ry h hs;let⟨p,xs,i,z,rfl,rfl,hq,he,q⟩:=h;cases rx;let⟨t,rfl⟩:=ry;let⟨bj,r,pl,hz⟩:=I.list hq;let⟨j,h1,h2,h3,h4,h5⟩:=Qh he;let⟨w,ew,rS⟩:=r.get h2;have hl:=r.length;have hn:=Jd;have fin:BD X v0 σ Q w s:=Ψ2 z H ⟨I,rS,q⟩;by_cases h0:0≤i
 ·have hj:i.toNat=j:=by
   rw[seqIndex_of h0 h5]at h1;exact Ek h1
  exact item_listR pl.isList h0 (by lia) (by rw[hj];simpa using ew) fin hs
 ·have hj:(i+(bj.toArray.size:Int)).toNat=j:=by
   rw[seqIndex_neg (by lia) h4]at h1;rw[BW,←hl];exact Ek h1
  exact subscriptTail_builtinR (x:=w) pl.isList.typeIs slot_list_getitem.lookup
   (wpAny_getItem_list_neg (Q:=λr s'=>r=w∧BD X v0 σ Q r s') pl.isList (by lia) (by rw[BW]<;>lia) (by lia) (by rw[hj];simpa using ew) ⟨rfl,fin⟩) hs
theorem HX:EC X (fB X.K):=by
 intro value slice v0 s σ H x y v u Q I rx ry h hs;let⟨p,xs,i,z,rfl,rfl,hq,he,q⟩:=h;cases rx;let⟨t,rfl⟩:=ry;let⟨bj,r,pl,hz⟩:=I.tuple hq;let⟨j,h1,h2,h3,h4,h5⟩:=Qh he;let⟨w,ew,rS⟩:=r.get h2;have hl:=r.length;have hn:=Jd;have fin:BD X v0 σ Q w s:=Ψ2 z H ⟨I,rS,q⟩;exact subscriptTail_builtinR (x:=w) pl.typeIs slot_tuple_getitem.lookup
  (getItem_tuple (j:=j) (Q:=λr s'=>r=w∧BD X v0 σ Q r s') pl (by lia) (by lia) (by rw[BW,←hl];exact h1) (by simpa using ew) ⟨rfl,fin⟩) hs
theorem Zo:EC X ZI:=by
 intro value slice v0 s σ H x y v u Q I rx ry h hs;let⟨z,i,c,rfl,rfl,hz,he,q⟩:=h;let⟨t,rfl⟩:=rx;let⟨t',rfl⟩:=ry;let⟨j,h1,h2,h3,h4,h5⟩:=Qh he;have hl:z.cps.toList.length=z.length:=by simp[Str.length]
 rw[hl]at h1 h4 h5;have hn:=Jd;exact tail_any (Ke s z t) slot_str_getitem.lookup (getItem_str (c:=c) (by
  have e1:decide (i < -(2^63:Int))=false:=Du (by lia);have e2:decide (i ≥ 2^63)=false:=Du (by lia);rw[e1,e2,Bool.or_false]) (by rw[h1];simpa using h2) ⟨.str ⟨#[c]⟩,H,I.tok _,⟨_,rfl⟩,q⟩) hs
def tX(K:W.Frag):Dd:=λx y H Q=>ZF K x y H Q∨fB K x y H Q∨ZI x y H Q
theorem sX:EC X (tX X.K):=D5.or (HX.or Zo)
theorem yf(lo hi:Option Int)(n:Nat):(sliceBounds lo hi none n).1=((HT.cR n 0 lo:Nat):Int)∧(sliceBounds lo hi none n).2.1=((HT.cR n n hi:Nat):Int)∧(sliceBounds lo hi none n).2.2=1:=by
 exact⟨?_,?_,rfl⟩
 ·cases lo with
  |none=>simp[sliceBounds,HT.cR]
  |some i=>
   simp only[sliceBounds,HT.cR,Option.getD_none,show(1:Int)>0 by decide,Gx];by_cases h:i<0
   ·simp only[h,Gx]<;>lia
   ·simp only[h,J2]<;>lia
 ·cases hi with
  |none=>simp[sliceBounds,HT.cR]
  |some i=>
   simp only[sliceBounds,HT.cR,Option.getD_none,show(1:Int)>0 by decide,Gx];by_cases h:i<0
   ·simp only[h,Gx]<;>lia
   ·simp only[h,J2]<;>lia
theorem m7(bj:List Value)(lo hi:Option Int):slicePick bj.toArray lo hi none=((bj.drop (HT.cR bj.length 0 lo)).take (HT.cR bj.length bj.length hi-HT.cR bj.length 0 lo)).toArray:=by
 let⟨h1,h2,h3⟩:=yf lo hi bj.toArray.size;unfold slicePick;rw[h1,h2,h3];simp only[sliceRange_one,pick_run,BW]<;>rfl
def oJ(K:W.Frag):V→Option Int→Option Int→A4→Ac→Prop:=λx lo hi H Q=>∃a xs,x=.ref a∧kB K H a xs∧∀p,H p=none→Q (.ref p) (AK H p (.lst (FP xs lo hi)))
theorem zF:Hu X (oJ X.K):=by
 intro v0 s σ H x v vl vu lo hi sl Q I rx hs pl pu h;let⟨a,xs,rfl,hx,q⟩:=h;cases rx;let⟨bj,r,ht,hz⟩:=I.list hx;have hlen:=r.length;exact Ψ2 ("list") _ ⟨slot_list_getitem.lookup,ht.isList.typeIs,?_⟩;exact wpAny_getItem_list_slice ht.isList hs pl pu .none (by simp) ?_ (by rw[BW]<;>lia)
 rw[m7,←hlen];exact Ψ2 (.ref s.heap.objs.size) _ ⟨I.laid (t':=s.toks) (o:=.lst (FP xs lo hi)) (λb ob q=>Ap _ q) (Ar _) ?_,rfl,q _ (I.bO.fresh (Ar _))⟩;exact⟨DA (ck xs lo hi) hz,_,0,(r.drop (HT.cR xs.length 0 lo)).take (HT.cR xs.length xs.length hi-HT.cR xs.length 0 lo),Cv _ rfl⟩
def Dt:V→Bool
 |.non=>true
 |.bl _=>true
 |.int _=>true
 |.str _=>true
 |_=>false
def E0:V→V→Bool
 |.non,.non=>true
 |.bl a,.bl b=>a==b
 |.bl a,.int b=>(if a then 1 else 0)==b
 |.int a,.bl b=>a ==(if b then 1 else 0)
 |.int a,.int b=>a==b
 |.str a,.str b=>a==b
 |_,_=>false
theorem LJ(ry:RelV y u)(rx:RelV x v)(fy:Dt y=true)(fx:Dt x=true):SeqAt.EqAt A s u v (E0 y x):=by
 cases y with
 |non=>
  cases ry;cases x with
  |non=>cases rx;exact SeqAt.EqAt.same _
  |bl b=>cases rx;exact SeqAt.EqAt.none_bool b
  |int b=>let⟨t,rfl⟩:=rx;exact SeqAt.EqAt.none_int b t
  |str b=>let⟨t,rfl⟩:=rx;exact SeqAt.EqAt.none_str b t
  |_=>exact absurd (show false=true from fx) BJ
 |bl a=>
  cases ry;cases x with
  |non=>cases rx;exact SeqAt.EqAt.bool_none a
  |bl b=>cases rx;exact SeqAt.EqAt.bool_bool a b
  |int b=>let⟨t,rfl⟩:=rx;exact SeqAt.EqAt.bool_int a b t
  |str b=>let⟨t,rfl⟩:=rx;exact SeqAt.EqAt.bool_str a b t
  |_=>exact absurd (show false=true from fx) BJ
 |int a=>
  let⟨t',rfl⟩:=ry;cases x with
  |non=>cases rx;exact SeqAt.EqAt.int_none a t'
  |bl b=>cases rx;exact SeqAt.EqAt.int_bool a t' b
  |int b=>let⟨t,rfl⟩:=rx;exact SeqAt.EqAt.int_int a t' b t
  |str b=>let⟨t,rfl⟩:=rx;exact SeqAt.EqAt.int_str a t' b t
  |_=>exact absurd (show false=true from fx) BJ
 |str a=>
  let⟨t',rfl⟩:=ry;cases x with
  |non=>cases rx;exact SeqAt.EqAt.str_none a t'
  |bl b=>cases rx;exact SeqAt.EqAt.str_bool a t' b
  |int b=>let⟨t,rfl⟩:=rx;exact SeqAt.EqAt.str_int a t' b t
  |str b=>let⟨t,rfl⟩:=rx;exact SeqAt.EqAt.str_str a t' b t
  |_=>exact absurd (show false=true from fx) BJ
 |_=>exact absurd (show false=true from fy) BJ
def El(x:V)(u:Value):Bool:=match u with
 |.none=>E0 .non x
 |.bool b=>E0 (.bl b) x
 |.int i _=>E0 (.int i) x
 |.str z _=>E0 (.str z) x
 |_=>false
theorem cK(r:RelV y u)(f:Dt y=true):El x u=E0 y x:=by
 cases y with
 |non=>cases r;rfl
 |bl b=>cases r;rfl
 |int i=>let⟨t,rfl⟩:=r;rfl
 |str z=>let⟨t,rfl⟩:=r;rfl
 |_=>exact absurd (show false=true from f) BJ
theorem KW{x:V}:∀{xs:List V} {us:List Value},Vals xs us→xs.all Dt=true→us.any (El x)=xs.any λy=>E0 y x
 |_,_,.nil,_=>rfl
 |y::xs,u::us,.cons r t,f=>by
  rw[Kf,E9]at f;rw[HZ,HZ,cK r f.1,KW t f.2]
theorem Kb{A:Around}{s:Shared}{x:V}{v:Value}(rx:RelV x v)(fx:Dt x=true):∀{xs:List V} {us:List Value},Vals xs us→xs.all Dt=true→∀u∈us,SeqAt.EqAt A s u v (El x u)
 |_,_,.nil,_=>λu hu=>by cases hu
 |y::xs,u::us,.cons r t,f=>λu' hu=>by
  rw[Kf,E9]at f;rcases XO.mp hu with rfl|hu
  ·rw[cK r f.1];exact LJ r rx f.1 fx
  ·exact Kb rx fx t f.2 u' hu
def DK(x:V)(xs:List V):Bool:=xs.any λy=>E0 y x
def S5(K:W.Frag)(neg:Bool):Dd:=λx y H Q=>∃p xs,y=.ref p∧(kB K H p xs∨dW K H p xs)∧Dt x=true∧xs.all Dt=true∧Q (.bl (if neg then !DK x xs else DK x xs)) H
theorem aL:iC X (compareOp .In) (S5 X.K false):=by
 intro v0 s σ H x y v u Q I rx ry h;let⟨p,xs,rfl,hq,fx,fs,q⟩:=h;cases ry;rcases hq with hq|hq
 ·let⟨bj,r,pl,hz⟩:=I.list hq
  exact SeqAt.in_listAt (El x) pl.isList (λw hw=>Kb rx fx r fs w (by simpa using hw)) ⟨.bl _,H,I,rfl,?_⟩;rw[show bj.toArray.any (El x)=bj.any (El x)by simp,KW r fs];exact q
 ·let⟨bj,r,pl,hz⟩:=I.tuple hq
  exact SeqAt.in_tupleAt (El x) pl (λw hw=>Kb rx fx r fs w (by simpa using hw)) ⟨.bl _,H,I,rfl,?_⟩;rw[show bj.toArray.any (El x)=bj.any (El x)by simp,KW r fs];exact q
theorem fF:iC X (compareOp .NotIn) (S5 X.K true):=by
 intro v0 s σ H x y v u Q I rx ry h;let⟨p,xs,rfl,hq,fx,fs,q⟩:=h;cases ry;rcases hq with hq|hq
 ·let⟨bj,r,pl,hz⟩:=I.list hq
  exact SeqAt.notIn_listAt (El x) pl.isList (λw hw=>Kb rx fx r fs w (by simpa using hw)) ⟨.bl _,H,I,rfl,?_⟩;rw[show bj.toArray.any (El x)=bj.any (El x)by simp,KW r fs];exact q
 ·let⟨bj,r,pl,hz⟩:=I.tuple hq
  exact SeqAt.notIn_tupleAt (El x) pl (λw hw=>Kb rx fx r fs w (by simpa using hw)) ⟨.bl _,H,I,rfl,?_⟩;rw[show bj.toArray.any (El x)=bj.any (El x)by simp,KW r fs];exact q
theorem YS:F1 X (.builtin "len") (λxs H Q=>∃p ys,xs=[.ref p]∧(kB X.K H p ys∨dW X.K H p ys)∧Q (.int ys.length) H):=by
 intro v0 s σ H xs us Q I r h;let⟨p,ys,rfl,hq,q⟩:=h;let⟨u,rfl,rx⟩:=vals1 r;cases rx;have hn:=Jd;rcases hq with hq|hq
 ·let⟨bj,r',pl,hz⟩:=I.list hq
  have hlen:=r'.length;exact Calls.call_len_list pl.isList (by simp only[BW]<;>lia) ⟨.int ys.length,H,I.tok _,⟨s.toks+1,by rw[BW,hlen]⟩,q⟩
 ·let⟨bj,r',pl,hz⟩:=I.tuple hq
  have hlen:=r'.length;exact len_tuple pl (by simp only[BW]<;>lia) ⟨.int ys.length,H,I.tok _,⟨s.toks+1,by rw[BW,hlen]⟩,q⟩
theorem rP:F1 X (.builtin "len") (λxs H Q=>∃z,xs=[.str z]∧z.length≤sizeLine∧Q (.int z.length) H):=by
 intro v0 s σ H xs us Q I r h;let⟨z,rfl,hz,q⟩:=h;let⟨u,rfl,⟨t,rfl⟩⟩:=vals1 r;have hn:=Jd;exact len_str (by lia) ⟨.int z.length,H,I.tok _,⟨_,rfl⟩,q⟩
theorem mU:F1 X (.type "tuple") (λxs H Q=>∃p ys,xs=[.ref p]∧((kB X.K H p ys∧∀l,H l=none→Q (.ref l) (AK H l (.tup ys)))∨(dW X.K H p ys∧Q (.ref p) H))):=by
 intro v0 s σ H xs us Q I r h;obtain⟨p,ys,rfl,h⟩:=h;let⟨u,rfl,rx⟩:=vals1 r;cases rx;rcases h with⟨hq,q⟩|⟨hq,q⟩
 ·let⟨bj,r',pl,hz⟩:=I.list hq
  have hlen:=r'.length;exact call_tuple_list pl.isList (λh' kp=>?_) (by simp only[BW]<;>lia)
  have I1:Inv X v0 σ H {s with heap:=h'}:=I.kept (t':=s.toks) kp;have I2:Inv X v0 σ (AK H h'.objs.size (.tup ys)) {s with heap:=h'.push {cls:=.type "tuple",data:=.seq bj.toArray}}:=
   I1.laid (t':=s.toks) (λb o e=>Ap _ e) (Ar _) (show bZ X.prog X.w _ _ _ (.tup ys)from⟨hz,bj,r',IsTup.new _ _⟩)
  exact Ψ2 (.ref h'.objs.size) _ ⟨I2,rfl,q _ (I1.bO.fresh (Ar _))⟩
 ·let⟨bj,r',pl,hz⟩:=I.tuple hq
  exact call_tuple_same pl ⟨.ref p,H,I,rfl,q⟩
def Ro(K:W.Frag)(T:String)(x:V)(H:A4):Prop:=match x with
 |.str _=>T = "str"
 |.int _=>T = "int"
 |.ref p=>(T = "list" ∧ ∃xs,kB K H p xs)∨(T = "tuple" ∧ ∃o,K.lookup p=some o∧o.cls=.type "tuple" ∧ o.dict=none) ∨
   (T = "dict" ∧((∃ay,H p=some (.dK ay))∨∃ay,H p=some (.dT ay)))∨(T = "set" ∧ ∃S n,H p=some (.set S n))
 |_=>False
theorem oV{v0:ac}{σ:St}{H:A4}{T:String}(I:Inv X v0 σ H s)(r:RelV x v)(ty:Ro X.K T x H):
  s.TypeIs v T∧∀a,v=.ref a→∃ob,s.heap.get? a=some ob∧ob.dict=none:=by
 cases x with
 |str z=>
  let⟨t,rfl⟩:=r;cases(show T = "str" from ty);exact⟨Ke s z t,λ_ e=>nomatch e⟩
 |int i=>
  let⟨t,rfl⟩:=r;cases(show T = "int" from ty);exact⟨typeIs_int s i t,λ_ e=>nomatch e⟩
 |ref p=>
  cases r;rcases ty with⟨rfl,xs,hq⟩|⟨rfl,o,hk,hc,hd⟩|⟨rfl,hk⟩|⟨rfl,S,n,hk⟩
  ·let⟨bj,_,pl,_⟩:=I.list hq
   exact⟨pl.isList.typeIs,λa e=>?_⟩;cases e;let⟨o,n,e,c,hd,_⟩:=pl;exact⟨o,e,hd⟩
  ·exact⟨⟨o,I.mr p o hk,hc⟩,λa e=>?_⟩
   cases e;exact⟨o,I.mr _ o hk,hd⟩
  ·have z:∃o,s.heap.get? p=some o∧o.ExactDict:=by
    rcases hk with⟨ay,hk⟩|⟨ay,hk⟩
    ·let⟨_,_,⟨_,_,⟨o,_,_,e,ex,_⟩⟩⟩:=I.bO p _ hk
     exact⟨o,e,ex⟩
    ·let⟨_,_,⟨_,_,⟨o,_,_,e,ex,_⟩⟩⟩:=I.bO p _ hk
     exact⟨o,e,ex⟩
   let⟨o,e,ex⟩:=z;exact⟨⟨o,e,ex.1⟩,λa e2=>?_⟩;cases e2;exact⟨o,e,ex.2.1⟩
  ·let⟨o,_,_,_,e,ex,_⟩:=I.bO p _ hk
   exact⟨⟨o,e,ex.1⟩,λa e2=>?_⟩;cases e2;exact⟨o,e,ex.2.1⟩
 |_=>exact False.elim ty
def ni(K:W.Frag)(T:String)(r:V→List V→A4→Ac→Prop)(to:AO)(t:Bq):AO:=λσ H Q=>to σ H λx H1=>Ro K T x H1∧t σ H1 λxs H2=>r x xs H2 Q
variable {o: Expr}{es: List Expr}{to: AO}{t: Bq}{name: Str}{apos ek: Pos}{T id: String}{r: V→List V→A4→Ac→Prop}
theorem lF(pa:PlainAttrs T)(slot:Slot T name id)(Ck:typeOf (.builtin id)=pure (.type "method_descriptor"))(hm:Jg X id r)(ho:PE X o to)(ha:PA X (e::es) t)
  (Bx:attributeBase o name X.env (eval o X.env)=eval o X.env:=by rfl)
  (Iu:((backTo ek (starEach (e::es) X.env)).all (λx=>!x.1)&&(backToKw ek (keywordEach [] X.env)).all (λx=>x.1.isSome)
   && decide ((e::es).length+([]:List Keyword).length+(if([]:List Keyword).isEmpty then 0 else 1)<30))=true:=by rfl)
  (Bv:(apos.endLine==ek.line)=true:=by rfl) (hs:starEach (e::es) X.env=(false,eval e X.env)::starEach es X.env:=by rfl) (wz:(backTo ek (starEach es X.env)).any (·.1)=false:=by rfl) :
  PE X (.Call (.Attribute o name apos) (e::es) [] ek) (ni X.K T r to t):=by
 exact .mk ?_;intro v0 s σ H Q I h;exact wpAny_Call_method_late Bx Iu Bv rfl (AF (ho v0 s σ H _ I h) λv s1 ξ=>Ξ24 ξ λx H1 I1 r1 ty q1=>?_);let⟨h1,h2⟩:=oV I1 r1 ty;exact Ψ2 T id ⟨pa,slot,Ck,h1,h2,?_⟩;have hA:=ha ek v0 s1 σ H1 _ I1 q1;rw[hs]at hA ⊢;exact Calls.callWith_builtin (by show(false||(backTo ek (starEach es X.env)).any (·.1))=false;rw[wz]<;>rfl) (Qu ?_)
 exact AF hA λus s2 ξ=>Ξ23 ξ λvs H2 I2 r2 q2=>hm v0 s2 σ H2 x vs v us Q I2 r1 r2 q2
end
def nM(X:Cx)(id:String)(r:V→List V→A4→Ac→Prop):Prop:=
 ∀v0 s σ H (x:V) (xs:List V) (v:Value) (us:List Value) (Q:Ac),Inv X v0 σ H s→RelV x v→Vals xs us→r x xs H Q→
  wpAny (model X.prog X.w) X.A (call (.builtin id) (v::us)) (BD X v0 σ Q) X.xe s
theorem Vals.one:∀{x:V} {us:List Value},Vals [x] us→∃u,us=[u]∧RelV x u
 |_,_,.cons r .nil=>⟨_,rfl,r⟩
theorem Vals.two:∀{x y:V} {us:List Value},Vals [x,y] us→∃u v,us=[u,v]∧RelV x u∧RelV y v
 |_,_,_,.cons r (.cons q .nil)=>Ψ2 _ _ ⟨rfl,r,q⟩
section
variable {v0: List (Addr×Obj)}{σ: St}{H: A4}{s: Shared}{l: Addr}{xs ys: List V}
theorem Inv.O1{v6':List Value}{f:Array Value→Array Value}(I:Inv X v0 σ H s)(hH:H l=some (.lst xs))
  (e:s.heap.get? l=some {cls:=.type "list",data:=.seq bj.toArray n}) (hf:f bj.toArray=v6'.toArray) (hv:Vals ys v6') (hz:ys.length≤sizeLine) :
  Inv X v0 σ (AK H l (.lst ys)) {s with heap:=s.heap.update l (Obj.mapSeq f),toks:=t'}:=by
 have q:=PySem.IsL.update e f;rw[hf]at q;exact I.write (x:=l) (e:=l) (by rw[hH];exact trivial) (.inl rfl) (λb' u hb hu=>(Heap.get?_update_other s.heap (Obj.mapSeq f) (CO hb)).trans hu) ⟨_,q⟩ ?_;exact⟨hz,v6',_,hv,q⟩
theorem Inv.LD(I:Inv X v0 σ H s)(hv:Vals ys bj)(hz:ys.length≤sizeLine):
  Inv X v0 σ (AK H s.heap.objs.size (.lst ys)) {s with heap:=s.heap.push {cls:=.type "list",data:=.seq bj.toArray},toks:=t'}:=
 I.laid (λ_ _ q=>Ap _ q) (Ar _) ⟨hz,bj,0,hv,Cv _ rfl⟩
theorem Inv.fresh(I:Inv X v0 σ H s):H s.heap.objs.size=none:=I.bO.fresh (Ar _)
theorem Inv.D1(I:Inv X v0 σ H s)(hH:H l=some (.lst xs)):xs.length≤sizeLine∧∃(bj:List Value) (n:Nat),Vals xs bj∧xs.length=bj.length∧s.heap.get? l=some {cls:=.type "list",data:=.seq bj.toArray n}:=by
 let⟨z,⟨bj,n,r,e⟩⟩:=I.bO l _ hH;exact⟨z,bj,n,r,r.length,e⟩
end
section
def kj:V→List V→A4→Ac→Prop:=λx vs H Q=>∃l xs y,x=.ref l∧vs=[y]∧H l=some (.lst xs)∧xs.length<sizeLine∧Q .non (AK H l (.lst (xs++[y])))
theorem gJ:nM X "list.append" kj:=by
 intro v0 s σ H x vs v us Q I rx rv h;let⟨l,xs,y,rfl,rfl,hH,hz,q⟩:=h;cases rx;let⟨u,rfl,ru⟩:=rv.one;let⟨z,⟨bj,n,r,hl,e⟩⟩:=I.D1 hH;exact call_meets F.slot_list_append ⟨_,e,rfl⟩ F.entry_list_append (F.args_list_append_2 _ _) (PySem.list_append l bj.toArray n u (by rw[BW];lia)) ⟨e,?_⟩;exact Ψ2 (.non) _ ⟨I.O1 (v6':=bj++[u]) hH e (by simp) (r.append (.cons ru .nil)) ?_,rfl,q⟩;rw[Br,Ny];lia
def oN:Dd:=λx y H Q=>∃l b xs zs,x=.ref l∧y=.ref b∧H l=some (.lst xs)∧H b=some (.lst zs)∧xs.length+zs.length≤sizeLine∧∀p,H p=none→Q (.ref p) (AK H p (.lst (xs++zs)))
theorem jm:iC X (binaryOp .Add) oN:=by
 intro v0 s σ H x y v u Q I rx ry h;let⟨l,b,xs,zs,rfl,rfl,hH,hB,hz,q⟩:=h;cases rx;cases ry;let⟨z,⟨bj,n,r,hl,e⟩⟩:=I.D1 hH;let⟨z2,⟨lB,n2,r2,RA,e2⟩⟩:=I.D1 hB;exact PySem.P.add_list e e2 ?_ (by rw[BW,BW];lia);have ea:bj.toArray++lB.toArray=(bj++lB).toArray:=by simp
 rw[ea];exact Ψ2 (.ref _) _ ⟨I.LD (t':=s.toks) (r.append r2) (by rw[Br];lia),rfl,q _ I.fresh⟩
end
section
set_option maxRecDepth 100000 in
end
end L2
namespace NG
open PySem PySem.W PySem.Calls PyProof.Rows
variable {P:Params}{h:Heap}{l:OpenLaw}{n:Nat}
theorem v7:∀(ns:List Int) (vs:List Value),WellAll P h vs (ns.map WData.int)→IntsAre vs ns:=by
 intro ns;induction ns with
 |nil=>
  intro vs w;rw[EK]at w;cases w;exact .nil
 |cons n ns ih=>
  intro vs w;rw[BQ]at w;cases w with
  |cons a b=>
   cases a;exact .cons _ _ (ih _ b)
theorem vt(hn:l.most=some n){args:List WData}{vals:List Value}
  (D9:l.row.toRowW.claim.pre args=true) (Pl:WellAll P h vals args) :
  ∃a vs ns,vals=[Value.ref a]∧args=[WData.list (ns.map WData.int)]∧h.get? a=some {cls:=.type "list",data:=.seq vs.toArray}∧IntsAre vs ns∧ns.length≤n:=by
 have UA:WShape.hasAll [] args [.list .int]=true:=(pre_splitW D9).1;have hc:l.pre.holds [] {args:=args}=true:=(pre_splitW D9).2;let⟨d,r,rfl,h1,h2⟩:=hasAllW_cons UA;obtain rfl:=hasAllW_nil h2;let⟨xs,rfl,h3⟩:=hasW_list h1;let⟨ns,rfl⟩:=items_int h3;have hlen:ns.length≤n:=by
  unfold OpenLaw.pre at hc;have h4:(WTm.not (.lt (.lit (.int (n:Int))) (.len (.arg 0)))).holds [] {args:=[.list (ns.map .int)]}=true:=by
   have h4:=(holds_andW hc).1;rw[hn]at h4;exact h4
  have h5:=condW_of h4 (w_not (w_lt w_lit (w_len_list (w_arg rfl))));rw[AV]at h5;exact Nat.le_of_not_lt λq=>?_;have q':(n:Int)<((ns.length:Nat):Int):=by lia
  first
   |(rw[CI q']at h5;exact absurd h5 (by decide))
   |(simp at h5;lia)
 cases Pl with
 |cons w1 w2=>
  cases w2;cases w1 with
  |list ho ux=>exact Ψ3 _ _ ns ⟨rfl,rfl,ho,v7 ns _ ux,hlen⟩
theorem ie(l:OpenLaw)(args:List WData):l.row.toRowW.claim.post args (.bool true) args=true:=
 postW_of (r:=l.row.toRowW) (X:=(true==true))
  (show WShape.has [] (.bool true) .bool=true by first|rfl|decide|simp[WShape.has,WShape.arms,WShape.armsAll])
  (show(WTm.eq .res (.lit (.bool true))).value [] {args:=args,res:=some (.bool true),after:=args}=some (.bool (true==true))from w_eq_bool (w_res rfl) w_lit) rfl
theorem uV{q:Program}{loose:List Str}{XP:(KK)→Heap→Prop}{YP:World→Heap→Prop}{d:DefRec}
  (hn:l.most=some n) (L0:d.params.defaults=[])
  (call:∀(w:World) (s₀ s₁:Shared) (mg mb:KK) (fa:Addr) (o:Obj) (pm cd doc:Value) (a:Addr) (vs:List Value) (ns:List Int),
   Ground q loose [] XP w s₀ mg mb s₁.heap→YP w s₁.heap→
   s₁.heap.get? fa=some o→o.data=.func (docDef d.name d.params d.body d.scope pm cd doc)→s₁.heap.CodeRec cd d.name→mg d.name=some (.ref fa)→
   s₁.heap.get? a=some {cls:=.type "list",data:=.seq vs.toArray}→IntsAre vs ns→ns.length≤n→s₁.gens=#[]→
   codeAny (model l.prog w) callerA (.call (.ref fa) ⟨[.ref a],[]⟩) (λr s'=>r=.ok (.ret (.bool true))∧OldK s₁.heap s'.heap∧s'.os=s₁.os∧AllBare s'.gens) s₁) :
  WalkO q loose XP YP l.row.toRowW d [] (λf vs=>PySem.call f vs):=by
 intro w s₀ s₁ mg mb G Y fa o pm cd doc dV Ay ho hd uv hD LU hg args vals as D9 UT Xo Pl Xq;obtain rfl:dV=.none:=Dflts.none hD L0;obtain rfl:Ay=.none:=Dflts.noKw hD;let⟨a,vs,ns,rfl,rfl,Im,hints,hlen⟩:=vt hn D9 Pl;exact enter_call (Ko (call w s₀ s₁ mg mb fa o pm cd doc a vs ns G Y ho (fd_plain hd) uv LU Im hints hlen hg) λr s' hq=>?_);let⟨rfl,h2,h3,h4⟩:=hq;exact⟨.inl ⟨.bool true,.bool true,[],rfl,λ_=>rfl,.bool true,ie l _,λ_=>⟨List.Pairwise.nil,λ_ hm=>(nomatch hm)⟩⟩,h2,h3,h4⟩
end NG
namespace L2
open PySem PySem.Spec PyProof.Rows
variable {w:World}{k n:Nat}{fd:FuncData}{x qual:Str}{sp:DU}{l:List Addr}{X: Cx}{st:Stmt}{f C:Addr}{ps:List Str}{scope: Scope}{pos p: Pos}{env:Env}{own: List Str}{cap: List (Nat×Str)}{σ:St}{s2:Shared}{cl: List (Str×Addr)}{te: AO}
theorem fN:∀{vs:List Value} {ns:List Int},IntsAre vs ns→Vals (ns.map V.int) vs
 |_,_,.nil=>.nil
 |_,_,.cons n t h=>.cons ⟨t,rfl⟩ (fN h)
def OD(H:A4):Prop:=∀b,H b=none∨∃o xs,H b=some (.frz o (.lst xs))
theorem v5{P:Program}{K:W.Frag}{mg mb:KK}{CX:G0}{fa a:Addr}{s₁:Shared}{vs:List Value}{ns:List Int}
  (KX:K.In s₁.heap) (Rz:s₁.heap.Ns mainGlobals mg) (hb:s₁.heap.Ns builtinsNs mb) (U3:∀x:Str,x ≠ "__name__" → mb x=bootBuiltins x) (Pz:s₁.heap.NoLimit) (hg:s₁.gens=#[])
  (ha:s₁.heap.get? a=some {cls:=.type "list",data:=.seq vs.toArray}) (hi:IntsAre vs ns) (hl:ns.length≤sizeLine) (hr:dA k callerA)
  (F:∀base:Heap,K.In base→base.Ns mainGlobals mg→a8 P w K mg base CX k fa fd [x] sp) (L6:∀(s:Shared) (u:Value),BindsTo s fd ⟨[u],[]⟩ [(x,u)])
  (vc:∀H:A4,OD H→kB K H a (ns.map V.int)→sp [.ref a] H (λv _=>v=.bl true) λ_ _ _=>False)
  (PX:∀H e s',CX [] H s₁ (λ_ _ _=>False) e s'→False) :
  codeAny (model P w) callerA (.call (.ref fa) ⟨[.ref a],[]⟩) (λr s'=>r=.ok (.ret (.bool true))∧OldK s₁.heap s'.heap∧s'.os=s₁.os∧AllBare s'.gens) s₁:=by
 have rv:=fN hi;have O2:=hi.length
 -- from an abstract heap in QC nothing but vo vD may be tracked
 have core:∀H:A4,OD H→kB K H a (ns.map V.int)→lH P w H s₁.heap→(∀b,H b≠none→b=a)→(H a≠none→K.lookup a=none)→
   codeAny (model P w) callerA (.call (.ref fa) ⟨[.ref a],[]⟩) (λr s'=>r=.ok (.ret (.bool true))∧OldK s₁.heap s'.heap∧s'.os=s₁.os∧AllBare s'.gens) s₁:=by
  intro H hO hS bO hA hK;have yb:∀{b:Addr} {o:Obj},s₁.heap.get? b=some o→H b=none→(HB s₁.heap H).get? b=some o:=λe n=>wq e n;have Lx:∀{b:Addr} {o:Obj} {es:Array DictEntry} {ep:Nat},s₁.heap.get? b=some o→o.data=.dict es ep→H b=none:=λ{b o es ep} e d=>by
   cases q:H b with
   |none=>rfl
   |some u=>
    have e':b=a:=hA b (by rw[q];simp);subst e';rw[ha]at e;cases e;have d':Data.seq vs.toArray _=Data.dict es ep:=d;cases d'
  have M7:∀{b:Addr} {m:KK},s₁.heap.Ns b m→(HB s₁.heap H).Ns b m:=λ{b m} ⟨o,es,ep,e,d,r⟩=>Ψ3 o es ep ⟨yb e (Lx e d),d,r⟩;have RH:K.In (HB s₁.heap H):=λb o e=>yb (KX b o e) (by
   cases q:H b with
   |none=>rfl
   |some u=>
    have e':b=a:=hA b (by rw[q];simp);subst e';rw[hK (by rw[q];simp)]at e;cases e)
  have hM:Mod K mg (HB s₁.heap H):=⟨RH,M7 Rz,⟨mb,M7 hb,U3⟩,let⟨mc,h1,h2⟩:=Pz;⟨mc,M7 h1,h2⟩⟩;have e0:xa P w K mg (HB s₁.heap H) callerA [] s₁ H:=⟨rfl,hM,λb o e=>zf e,Nat.le_of_eq (wK _ _),trivial,λb hb=>absurd (show b∈([]:List Addr)from hb) (by simp),bO,.of_eq hg⟩;exact Ko ((F _ RH (M7 Rz)).run callerA [] s₁ H ⟨[.ref a],[]⟩ [.ref a] [.ref a] _ _ hr e0 (L6 s₁ (.ref a)) (.cons rfl .nil) (vc H hO hS)) λr s' h=>?_;cases r with
  |error e=>exact(PX H e s' h).elim
  |ok fl=>
   cases fl with
   |next=>exact False.elim h
   |brk=>exact False.elim h
   |cont=>exact False.elim h
   |ret u=>
    let⟨v,H',os,bare,un,Pw,r',q⟩:=h;have q':v=.bl true:=q;subst q';obtain rfl:u=Value.bool true:=r';exact⟨rfl,OldK.of_keep λb o e=>?_,os,bare⟩;cases q:H b with
    |none=>exact un.keep b o e q (by intro z;exact absurd (show b∈([]:List Addr)from z) (by simp)) (by simp)
    |some u=>
     rcases hO b with z|⟨ob,xs,z⟩
     ·rw[q]at z;cases z
     ·have z2:=un.lC b ob _ z
      let⟨e1,_⟩:=bO b _ z;let⟨e2,_⟩:=Pw b _ z2;rw[e]at e1;cases e1;exact e2
 cases hk:K.lookup a with
 |some o=>
  -- vo vD is one of vo LA own objects
  have e:=KX a o hk;rw[ha]at e;cases e;exact core (λ_=>none) (λ_=>.inl rfl) (.inr ⟨_,vs.toArray,_,hk,rfl,rfl,rfl,by rw[BW,O2];exact hl,by simpa using rv⟩) (λb u z=>by have z':(none:Option HO)=some u:=z;cases z') (λb z=>absurd rfl z) λz=>absurd rfl z
 |none=>
  exact core (λb=>if b=a then some (.frz {cls:=.type "list",data:=.seq vs.toArray} (.lst (ns.map V.int)))else none) (λb=>?_) (.inl (.inr ⟨{cls:=.type "list",data:=.seq vs.toArray},AR rfl⟩)) (λb u z=>?_) (λb z=>?_) λ_=>hk
  ·by_cases hb:b=a
   ·exact .inr ⟨_,_,AR hb⟩
   ·exact .inl (AN hb)
  ·by_cases hb:b=a
   ·have z':=(AR hb).symm.trans z
    cases z';subst hb;exact⟨ha,by rw[AV];exact hl,vs,_,rv,ha⟩
   ·have z':=(AN hb).symm.trans z
    cases z'
  ·by_cases hb:b=a
   ·exact hb
   ·exact absurd (AN hb) z
theorem Cs{l:W.OpenLaw}{q:Program}{loose:List Str}{XP:(KK)→Heap→Prop}{YP:World→Heap→Prop}{d:DefRec}{K:Params→W.Frag}{CX:World→G0}{sp:World→DU}
  (hn:l.most=some n) (Jt:n≤sizeLine) (L0:d.params.defaults=[]) (hr:dA k callerA)
  (hY:∀(w:World) (h:Heap),YP w h→(K w.params).In h)
  (F:∀(w:World) (mg:KK) (fa:Addr) (h:Heap),(K w.params).In h→h.Ns mainGlobals mg→mg d.name=some (.ref fa)→
   ∃fd:FuncData,(∀(s:Shared) (u:Value),BindsTo s fd ⟨[u],[]⟩ [(x,u)])∧
    ∀base:Heap,(K w.params).In base→base.Ns mainGlobals mg→a8 l.prog w (K w.params) mg base (CX w) k fa fd [x] (sp w))
  (vc:∀(w:World) (H:A4) (a:Addr) (ns:List Int),ns.length≤n→OD H→kB (K w.params) H a (ns.map V.int)→sp w [.ref a] H (λv _=>v=.bl true) λ_ _ _=>False)
  (PX:∀(w:World) (H:A4) (s:Shared) (e:Value) (s':Shared),CX w [] H s (λ_ _ _=>False) e s'→False) :
  W.WalkO q loose XP YP l.row.toRowW d [] (λf vs=>PySem.call f vs):=by
 exact NG.uV hn L0 λw s₀ s₁ mg mb fa o pm cd doc a vs ns G Y ho hd uv LU Im hints hlen hg=>?_;have KX:=hY w _ Y;let⟨fd,hb,hF⟩:=F w mg fa _ KX G.T.g LU;exact v5 KX G.T.g G.T.b G.T.builtins G.T.nolimit hg Im hints (DA hlen Jt) hr hF hb (λH hO hS=>vc w H a ns hlen hO hS) λH e s'=>PX w H s₁ e s'
def Ge(s:Stmt):Arguments:=match s with
 |.FunctionDef _ a _ _ _ _ _ _ _ _=>a
 |_=>{posonlyargs:=[],args:=[],vararg:=none,kwonlyargs:=[],kw_defaults:=[],kwarg:=none,defaults:=[]}
def FG(s:Stmt):List Stmt:=match s with
 |.FunctionDef _ _ b _ _ _ _ _ _ _=>b
 |_=>[]
def AX(s:Stmt):Scope:=match s with
 |.FunctionDef _ _ _ _ _ _ sc _ _ _=>sc
 |_=>{kind:=.function,names:=[],isGenerator:=false,isCoroutine:=false}
abbrev Ag:G0:=λ_ _ _ _ _ _=>False
abbrev Hj:Ax:=λ_ _ _=>False
theorem aY{X:Cx}:Passes Ag X Hj:=λ_ _ _ _ _ _ _ h=>h.elim
structure cP(K:W.Frag)(x qual:Str)(st:Stmt)(f:Addr)(fd:FuncData):Prop where
 ex:∃(oc:Value) (od:Option Addr) (Ay doc pm:Value) (an:Option Addr) (cn ct:Value) (yC:Array (Option Value)),
  fd=W.fnOf x qual (Ge st) (FG st) (AX st) .none Ay doc pm an cn ct∧K.lookup f=some ⟨oc,od,.func fd,yC⟩∧W.codeIn K cn qual=true
 kp:W.keepIn K (.ref f)=true
section
variable {P: Program}{w: World}{K: W.Frag}{mg: Str→Option Value}{base: Heap}
theorem cP.ok{N:List Str}(F:cP K x qual st f fd)(S:Ak N ps (AX st))(len:∀vs H Q E,sp vs H Q E→vs.length=ps.length)
  (mx:∀(cn:Value) (A:Around) (outer:List Env) (s:Shared) (H:A4) (vs:List V) (Q:Ac) (E:Ax),dA k (A.deeper (envOfC qual (AX st) s.heap.objs.size f cn))→sp vs H Q E→
   ∃t,lG (Ha Ag P w K mg base N qual (AX st) f cn A outer s H E).h8 (FG st) t∧t {nx:=λ_ H'=>Q .non H',rt:=Q} (start N vs) H):a8 P w K mg base Ag (k+1) f fd ps sp:=by
 let⟨oc,od,Ay,doc,pm,an,cn,ct,yC,rfl,lk,uv⟩:=F.ex;exact Yy lk uv S len λA outer s H vs Q E hr vc=>?_;let⟨t,h,q⟩:=mx cn A outer s H vs Q E hr vc;exact⟨t,h.h8,q⟩
theorem cP.binds(F:cP K x qual st f fd)
  (h:∀(Ay doc pm:Value) (an:Option Addr) (cn ct:Value) (us:List Value),us.length=ps.length→bindArgs (W.fnOf x qual (Ge st) (FG st) (AX st) .none Ay doc pm an cn ct) ⟨us,[]⟩=pure (ps.zip us)):Binds K fd ps []:=by
 let⟨oc,od,Ay,doc,pm,an,cn,ct,yC,rfl,lk,uv⟩:=F.ex;exact .all (h Ay doc pm an cn ct)
theorem Zg{oc:Value}{od an:Option Addr}{yC:Array (Option Value)}{Ay doc pm cn ct:Value}(l:K.lookup f=some ⟨oc,od,.func (W.fnOf x qual (Ge st) (FG st) (AX st) .none Ay doc pm an cn ct),yC⟩)
  (c:W.codeIn K cn qual=true) (k:W.keepIn K (.ref f)=true):cP K x qual st f (W.fnOf x qual (Ge st) (FG st) (AX st) .none Ay doc pm an cn ct):=⟨Ψ9 oc od Ay doc pm an cn ct yC ⟨rfl,l,c⟩,k⟩
end
theorem CJ(h:n≤1000):n<sizeLine:=C3 h (by decide)
theorem xM{prog:Program}{A:Around}{R:Result→Shared→Prop}{s:Shared}{elt target iter:Expr}{ifs:List Expr}{scope:Scope}{pos:Pos}{it acc:Value}(I:Nat→Shared→Prop)
  (turn:∀n s,I n s→wpAny (model prog w) A (pyNext it) (λr s₁=>match r with
   |none=>R (.ok .next) s₁
   |some v=>wpAny (model prog w) A (letOwnedTupleGo target it v) (λ_ zY=>wpAny (model prog w) A (assign target env v) (λ_ s₂=>
     wpAny (model prog w) A (forIn ifs true λc r=>if r=true then do let ok ←isTrue c env (eval c env);pure (ForInStep.yield ok)else pure (ForInStep.yield r)) (λok s₃=>
      if ok=true then wpAny (model prog w) A (eval elt env) (λx s₄=>
       wpAny (model prog w) A (call (.builtin "list.append") [acc,x]) (λ_ s₅=>∃m,m<n∧I m s₅) (notedBy (model prog w) A env λe s'=>R (.error e) s') s₄) (notedBy (model prog w) A env λe s'=>R (.error e) s') s₃
      else ∃m,m<n∧I m s₃) (notedBy (model prog w) A env λe s'=>R (.error e) s') s₂) (notedBy (model prog w) A env λe s'=>R (.error e) s') zY) (notedBy (model prog w) A env λe s'=>R (.error e) s') s₁) (notedBy (model prog w) A env λe s'=>R (.error e) s') s)
  (n:Nat) (h:I n s) :
  codeAny (model prog w) A (.compLoop (.ListComp elt [⟨target,iter,ifs,0⟩] scope pos) 0 it acc env) R s:=by
 exact M1 rfl I (λn s hI=>?_) n h;show wpAny _ A ((compTurn (.ListComp elt [⟨target,iter,ifs,0⟩] scope pos) 0 it acc env).onRaise (λx=>do noteFrame x env;theTreesLotGoes x)) _ _ s
 exact wpAny_noted ?_;rw[compTurn_list];exact A8 (GS (A8 (BF (turn n s hI) (λr s₁ h₁=>?_) λ_ _ h'=>h')));cases r with
 |none=>exact AS h₁
 |some v=>
  exact A8 (BF h₁ (λ_ zY Ii=>?_) λ_ _ h'=>h');exact A8 (BF Ii (λ_ s₂ h₂=>A8 (BF h₂ (λok s₃ h₃=>?_) λ_ _ h'=>h')) λ_ _ h'=>h');cases ok with
  |false=>exact AS ⟨rfl,h₃⟩
  |true=>
   exact A8 (A8 (BF h₃ (λx s₄ h₄=>A8 (BF h₄ (λ_ s₅ h₅=>AS (AS ⟨rfl,h₅⟩)) λ_ _ h'=>h')) λ_ _ h'=>h'))
structure uW(X:Cx)(ifs:List Expr)(t:C0):Prop where
 run:∀v0 s σ H (Q:Bool→A4→Prop),Inv X v0 σ H s→t σ H Q→
  wpAny (model X.prog X.w) X.A (forIn ifs true λc r=>if r=true then do let ok ←isTrue c X.env (eval c X.env);pure (ForInStep.yield ok)else pure (ForInStep.yield r)) (IK X v0 σ Q) X.xe s
instance {X:Cx}{ifs:List Expr}{t:C0}:CoeFun (uW X ifs t) λ_=>∀v0 s σ H (Q:Bool→A4→Prop),Inv X v0 σ H s→t σ H Q→wpAny (model X.prog X.w) X.A (forIn ifs true λc r=>if r=true then do let ok ←isTrue c X.env (eval c X.env);pure (ForInStep.yield ok)else pure (ForInStep.yield r)) (IK X v0 σ Q) X.xe s:=⟨uW.run⟩
def rC:C0:=λ_ H Q=>Q true H
theorem zo{X:Cx}:uW X [] rC:=.mk λ_ _ _ H _ I h=>wpAny_tests_nil ⟨H,I,h⟩
theorem tM{X:Cx}{c:Expr}{t:C0}(h:PT X c t):uW X [c] t:=.mk λv0 s σ H Q I q=>wpAny_tests_one (h v0 s σ H Q I q)
def BE(X:Cx)(Nc:List Str)(scope:Scope)(cl:List (Str×Addr))(C:Addr)(s:Shared)(H:A4)(fp:List Addr)(E:xz):Cx where
 prog:=X.prog
 w:=X.w
 K:=X.K
 mg:=X.mg
 base:=X.base
 A:=X.A
 N:=Nc
 s₀:=s
 H₀:=H
 env:=compEnvC scope cl C X.env
 outer:=X.stack
 stack:=X.stack
 ex:=fp
 calm:=X.calm
 fn:=λ_=>false
 pn:=[]
 xe:=E
def qq(X:Cx)(scope:Scope)(cl:List (Str×Addr))(j:Nat)(x:Str):Prop:=
 X.N[j]?=some x∧Io X.env.scope x∧X.env.kindOf x≠some .local∧(relabel scope X.env).names.lookup x≠some .local∧((relabel scope X.env).names.lookup x=some .cell∨(relabel scope X.env).names.lookup x=some .free)
structure di(X:Cx)(scope:Scope)(cl:List (Str×Addr))(own:List Str)(cap:List (Nat×Str)):Prop where
 wQ:closureFor scope X.env=pure cl
 cell:∀y∈scope.names,y.2≠.cell
 kind:scope.kind=.function
 names:∀y∈scope.names,y.2=.local→scope.names.lookup y.1=some .local
 sub:∀x c,cl.lookup x=some c→X.env.cells.lookup x=some c
 has:∀p∈(relabel scope X.env).names,p.2=.cell∨p.2=.free→(cl.lookup p.1).isSome=true
 Er:∀p∈cap,qq X scope cl p.1 p.2
def Ex(own:List Str)(cap:List (Nat×Str))(σ:St):St:=List.replicate own.length none++cap.map λp=>(σ[p.1]?).getD none
theorem lookup_mem{α:Type}:∀{l:List (Str×α)} {n:Str} {c:α},l.lookup n=some c→(n,c)∈l:=λh=>mem_of_lookup h
section
variable {v0: List (Addr×Obj)}{σ: St}{H: A4}{s: Shared}{fp: List Addr}{E: Value→Shared→Prop}
theorem di.IE(c:di X scope cl own cap)(x:Str)(h:(relabel scope X.env).names.lookup x=some .cell∨(relabel scope X.env).names.lookup x=some .free):∃a,cl.lookup x=some a:=by
 have:(cl.lookup x).isSome=true:=by
  rcases h with h|h
  ·exact c.has (x,.cell) (lookup_mem h) (.inl rfl)
  ·exact c.has (x,.free) (lookup_mem h) (.inr rfl)
 exact aaB.mp this
theorem FY(c:di X scope cl own cap)(I:Inv X v0 σ H s)(hf:∀b∈fp,D4 X v0 H b)(dk:∀b∈fp,b<s.heap.objs.size)(hC:s.heap.objs.size≤C):
  (BE X (own++cap.map (·.2)) scope cl C s H fp E).Ok where
 mod:=I.ok.mod
 kind:=c.kind
 glob:=I.ok.glob
 blt:=I.ok.blt
 above:=hC
 inj:=λx y a h1 h2=>I.ok.inj x y a (c.sub x a h1) (c.sub y a h2)
 has:=λx h=>c.IE x h
 Fz:=λx a h=>absurd h (by intro z;exact Bool.noConfusion z)
 hd:=I.ok.hd
 frames:=I.ok.frames
 Gi:=.inl rfl
 Cq:=λb hb=>⟨λz=>by
   have:=dk b hb;rw[z]at this;exact absurd (Dy this hC) (Gv _),λx a h=>(hf b hb).2.2.2.2.1 x a (c.sub x a h)⟩
 bs:=I.bs
 B6:=DA I.ok.B6 I.sz
 ug:=λb o e hb=>by
  rcases(hf b hb).2.2.2.1 with z|z
  ·exact I.ok.ug b o e z
  ·exact absurd (Dy (Aq (I.ok.bs b o e).1) z) (Gv _)
 oF:=λb hb hs=>by
  rcases XO.mp (I.rM b hs)with z|z
  ·exact(hf b hb).2.1 z
  ·exact(hf b hb).2.2.1 z
 kH:=I.stack
 Cp:=I.oO
theorem ZP{own:List Str}{cap:List (Nat×Str)}{i:Nat}{v:V}(h1:(own++cap.map (·.2))[i]?=some x)(h2:(Ex own cap σ)[i]?=some (some v)):∃p∈cap,p.2=x∧σ[p.1]?=some (some v):=by
 unfold Ex at h2;by_cases hi:i<own.length
 ·rw[aU (by simpa using hi),dw]at h2
  split at h2<;>cases h2
 ·rw[cW (by simpa using hi)]at h2 h1
  rw[List.length_replicate,Hi]at h2;rw[Hi]at h1;cases e:cap[i-own.length]? with
  |none=>rw[e]at h2;cases h2
  |some p=>
   rw[e]at h1 h2;exact⟨p,Nt e,Ek h1,?_⟩;have h3:(σ[p.1]?).getD none=some v:=Ek h2;cases q:σ[p.1]? with
   |none=>rw[q]at h3;cases h3
   |some z=>rw[q]at h3;exact Eh some h3
theorem aau(c:di X scope cl own cap)(I:Inv X v0 σ H s)(hf:∀b∈fp,D4 X v0 H b)(dk:∀b∈fp,b<s.heap.objs.size){h₁:Heap}{tk:Nat}{m:KK}
  (hk:∀b o,s.heap.get? b=some o→h₁.get? b=some o) (hD:h₁.get? s.heap.objs.size=some {cls:=.type "list",data:=.seq ([]:List Value).toArray}) (hn:h₁.Ns (s.heap.objs.size+1) m) :
  Inv (BE X (own++cap.map (·.2)) scope cl (s.heap.objs.size+1) s H fp E) [] (Ex own cap σ) (AK H s.heap.objs.size (.lst [])) {s with heap:=h₁,toks:=tk}:=by
 have Eb:H s.heap.objs.size=none:=I.fresh;have Ir:H (s.heap.objs.size+1)=none:=I.bO.fresh (BO _);have Ip:bZ X.prog X.w (AK H s.heap.objs.size (.lst [])) h₁ s.heap.objs.size (.lst []):=⟨Fm _,[],0,.nil,hD⟩;exact⟨FY c I hf dk (BO _),rfl,I.bare,Un.laid hk (Ar _) Eb,⟨m,hn,λi x v e1 e2 _=>?_⟩,λx a e=>?_,?_,λx a e=>?_,λp hp=>absurd (show p∈([]:ac)from hp) (by simp),I.bO.laid hk (Ar _) Ip,?_⟩
 ·let⟨p,hp,ex,es⟩:=ZP e1 e2
  let⟨q1,q2,q3,q4,q5⟩:=c.Er p hp;rw[ex]at q1 q2 q3 q4 q5;let⟨m',Py,hl⟩:=I.loc;let⟨u,r,l⟩:=hl p.1 x v q1 es q2;exact⟨u,r,?_⟩;rcases l with l|⟨k,a,e,z⟩
  ·exact absurd l.1 q3
  ·let⟨a',e'⟩:=c.IE x q5
   have ea:=c.sub x a' e';rw[e]at ea;cases ea;exact .inr ⟨q5,a,e',z.keeps hk⟩
 ·let⟨v,z⟩:=I.cell x a (c.sub x a e)
  exact⟨v,z.keeps hk⟩
 ·show AK H s.heap.objs.size (.lst []) (s.heap.objs.size+1)=none
  rw[Al (Ot _)];exact Ir
 ·let⟨v,z⟩:=I.cell x a (c.sub x a e)
  show AK H s.heap.objs.size (.lst []) a=none
  rw[Al (B3 z.lt)];exact I.gU x a (c.sub x a e)
 ·show(Ex own cap σ).length=(own++cap.map (·.2)).length
  simp[Ex]
theorem KS{H':A4}{σ':St}{Nc:List Str}{pN:ac}(I:Inv X v0 σ H s)(hf:∀b∈fp,D4 X v0 H b)(hC:s.heap.objs.size≤C)(J:Inv (BE X Nc scope cl C s H fp E) pN σ' H' s2):
  Inv X v0 σ H' s2∧D4 X v0 H' C:=by
 have os:s2.os=s.os:=J.os;have un:Un (DH X.stack) fp H H' s.heap s2.heap:=J.base;exact⟨I.Fy os un J.bO J.bare λb hb=>⟨(hf b hb).2.2.2.1,(hf b hb).2.1,(hf b hb).2.2.2.2.1,(hf b hb).2.2.2.2.2⟩,I.wF hC J.free⟩
end
def ZZ(wi:DE)(g:DB)(tc:C0)(te:AO)(own:List Str)(cap:List (Nat×Str)):AO:=λσ H Q=>wi σ H λJ H1=>∀D,H1 D=none→
 ∃W:Nat→Nat→St→List V→A4→Prop,(∃m,W 0 m (Ex own cap σ) [] (AK H1 D (.lst [])))∧∀i m σ' ys H',W i m σ' ys H'→H' D=some (.lst ys)∧
  ((J.stop i H'∧Q (.ref D) H')∨(J.go i H'∧ys.length<sizeLine∧∃N:St→List V→A4→Prop,(∀σ ys H,N σ ys H→∃m',m' < m∧W (i+1) m' σ ys H)∧∀x H2,J.oK i H' x H2→g x σ' H2 λσ3 H3=>tc σ3 H3 λb H4=>if b=true then te σ3 H4 λy H5=>H5 D=some (.lst ys)∧N σ3 (ys++[y]) (AK H5 D (.lst (ys++[y])))
   else N σ3 ys H4))
section
variable {tg iter elt: Expr}{ifs: List Expr}{wi: DE}{g: DB}{tc: C0}
theorem mL{v0:ac}{H2:A4}{it:Addr}{fp:List Addr}{tn:Nat→Heap→Prop}{J:Ep}{Q:Ac}{RR:Value→Addr→Result→Shared→Prop}{E':xz}
  (c:di X scope cl own cap) (hc:X.calm=true)
  (hg:∀C s H fp,PG (BE X (own++cap.map (·.2)) scope cl C s H fp λ_ _=>False) tg g) (ht:∀C s H fp,uW (BE X (own++cap.map (·.2)) scope cl C s H fp λ_ _=>False) ifs tc)
  (he:∀C s H fp,PE (BE X (own++cap.map (·.2)) scope cl C s H fp λ_ _=>False) elt te)
  (I2:Inv X v0 σ H2 s2) (T:Turn X.prog X.w X.K tg J fp it tn) (nG:tn 0 s2.heap) (f2:∀b∈fp,D4 X v0 H2 b)
  (hw:∀D,H2 D=none→∃W:Nat→Nat→St→List V→A4→Prop,(∃m,W 0 m (Ex own cap σ) [] (AK H2 D (.lst [])))∧∀i m σ' ys H',W i m σ' ys H'→H' D=some (.lst ys)∧
   ((J.stop i H'∧Q (.ref D) H')∨(J.go i H'∧ys.length<sizeLine∧∃N:St→List V→A4→Prop,(∀σ ys H,N σ ys H→∃m',m' < m∧W (i+1) m' σ ys H)∧∀x H2,J.oK i H' x H2→g x σ' H2 λσ3 H3=>tc σ3 H3 λb H4=>if b=true then te σ3 H4 λy H5=>H5 D=some (.lst ys)∧N σ3 (ys++[y]) (AK H5 D (.lst (ys++[y])))
    else N σ3 ys H4)))
  (Ec:∀D C s' H' m,Inv X v0 σ H' s'→D4 X v0 H' C→s'.heap.Ns C m→Q (.ref D) H'→RR (.ref D) C (.ok .next) s') :
  wpAny (model X.prog X.w) X.A (newList []) (λacc s₃=>wpAny (model X.prog X.w) X.A (newFunctionEnv scope X.env.globals cl [] X.env.qual none .none (some X.env)) (λMt s₄=>
   codeAny (model X.prog X.w) X.A (.compStart (.ListComp elt [⟨tg,iter,ifs,0⟩] scope pos) 0 (.ref it) acc {Mt with scope:=relabel scope X.env}) (RR acc Mt.locals) s₄) E' s₃) E' s2:=by
 exact Gu (KZ c.cell (by intro y hy;simp at hy) (λh₁ gR fY=>?_) c.kind);dsimp only at gR fY ⊢;have hsz:(s2.heap.push {cls:=.type "list",dict:=none,data:=.seq ([]:List Value).toArray}).objs.size=s2.heap.objs.size+1:=FL _ _;have kk:∀b o,s2.heap.get? b=some o→h₁.get? b=some o:=λb o e=>fY.extBut b o (by rw[hsz];exact B3 (Gl (Aq e))) (Ap _ (Ap _ e));have hD:h₁.get? s2.heap.objs.size=some {cls:=.type "list",data:=.seq ([]:List Value).toArray}:=
  fY.extBut _ _ (by rw[hsz];exact B3 (Hq _)) (Ap _ (Cv _ rfl))
 rw[hsz]at gR ⊢;have dk:∀b∈fp,b<s2.heap.objs.size:=λb hb=>by
  let⟨o,e,_⟩:=T.obj _ _ nG b hb;exact Aq e
 let⟨W,⟨m0,w0⟩,turn⟩:=hw s2.heap.objs.size I2.fresh;have J1:=aau (E:=λ_ _=>False) c I2 f2 dk (tk:=s2.toks+([]:List (Str×Value)).length) kk hD gR;generalize eJ:BE X (own++cap.map (·.2)) scope cl (s2.heap.objs.size+1) s2 H2 fp (λ_ _=>False)=X' at J1;have Ea:PG X' tg g:=eJ ▸ hg _ _ _ _;have Pm:uW X' ifs tc:=eJ ▸ ht _ _ _ _;have LZ:PE X' elt te:=eJ ▸ he _ _ _ _;have pX:X'.prog=X.prog:=by rw[←eJ];rfl
 have wX:X'.w=X.w:=by rw[←eJ];rfl
 have kX:X'.K=X.K:=by rw[←eJ];rfl
 have aX:X'.A=X.A:=by rw[←eJ];rfl
 have cX:X'.calm=true:=by rw[←eJ];exact hc
 have nX:X'.env=compEnvC scope cl (s2.heap.objs.size+1) X.env:=by rw[←eJ];rfl
 have xX:X'.xe=λ_ _=>False:=by rw[←eJ];rfl
 have fX:∀b∈fp,∀{H':A4},H' b=none→D4 X' [] H' b:=λb hb {H'} hn=>by
  have o1:=(FY (E:=λ_ _=>False) c I2 f2 dk (C:=s2.heap.objs.size+1) (BO _)).Cq b hb;have o2:=(FY (E:=λ_ _=>False) c I2 f2 dk (C:=s2.heap.objs.size+1) (BO _)).oF b hb;rw[←eJ];exact⟨hn,o1.1,o2,.inl hb,o1.2,λp hp=>absurd (show p∈([]:ac)from hp) (by simp)⟩
 have fin:∀{σ':St} {H':A4} {s':Shared},Inv X' [] σ' H' s'→Q (.ref s2.heap.objs.size) H'→RR (.ref s2.heap.objs.size) (s2.heap.objs.size+1) (.ok .next) s':=λ{σ' H' s'} J' q=>by
  rw[←eJ]at J';let⟨A1,A2⟩:=KS I2 f2 (BO _) J';let⟨m,hm,_⟩:=J'.loc;exact Ec _ _ s' H' m A1 A2 hm q
 have loop:codeAny (model X.prog X.w) X.A (.compLoop (.ListComp elt [⟨tg,iter,ifs,0⟩] scope pos) 0 (.ref it) (.ref s2.heap.objs.size) (compEnvC scope cl (s2.heap.objs.size+1) X.env)) (RR (.ref s2.heap.objs.size) (s2.heap.objs.size+1))
   {s2 with heap:=h₁,toks:=s2.toks+([]:List (Str×Value)).length}:=by
  exact xM (λn s'=>∃i σ' ys H',Inv X' [] σ' H' s'∧tn i s'.heap∧(∀b∈fp,H' b=none)∧W i n σ' ys H') ?_ m0
   ⟨0,_,[],_,J1,T.keep _ _ _ nG λb _ o e=>kk b o e,λb hb=>by rw[Al (B3 (dk b hb))];exact(f2 b hb).1,w0⟩
  intro n s3⟨i,σ3,ys,H3,I3,tN,uA,w3⟩;let⟨Nl,w4⟩:=turn i n σ3 ys H3 w3;rw[←nX,←aX,←pX,←wX];have h8:∀{α:Type} {t:Sem α} {Q1:α→Shared→Prop} {E1:xz} {s:Shared},wpAny (model X'.prog X'.w) X'.A t Q1 X'.xe s→wpAny (model X'.prog X'.w) X'.A t Q1 E1 s:=λ{α t Q1 E1 s} h=>by
   rw[xX]at h;exact BF h (λ_ _ q=>q) λ_ _ f=>f.elim
  rcases w4 with⟨stop,qn⟩|⟨go,Js,N,hN,step⟩
  ·have d:=T.done X' pX wX kX cX i [] s3 σ3 H3 X'.xe I3 (λb hb=>fX b hb (uA b hb)) tN stop
   rw[←pX,←wX]at d;exact h8 (AF d λr s4 ξ=>Ξ02 ξ λhr I4=>?_);subst hr;exact fin I4 qn
  ·have d:=T.item X' pX wX kX cX i [] s3 σ3 H3 X'.xe I3 (λb hb=>fX b hb (uA b hb)) tN go
   rw[←pX,←wX]at d;exact h8 (AF d λr s4 ξ=>Ξ12 ξ λu hr h4=>?_);subst hr;exact h8 (AF h4 λ_ s5 ξ=>Ξ25 ξ λx H5 I5 r5 y5 pA BC=>?_);have Cc:=I5.pinned (λb hb=>fX b hb (BC b hb)) (T.obj _ _ pA);have again:∀{σ7:St} {H7:A4} {s7:Shared} {NH:List V},Inv X' ([]++Gh fp s5.heap) σ7 H7 s7→N σ7 NH H7→
     ∃m,m<n∧∃i σ' ys H',Inv X' [] σ' H' s7∧tn i s7.heap∧(∀b∈fp,H' b=none)∧W i m σ' ys H':=λ{σ7 H7 s7 NH} I7 n7=>by
    let⟨m',hm,w7⟩:=hN _ _ _ n7;exact⟨m',hm,i+1,σ7,NH,H7,I7.fO,T.keep _ _ _ pA λb hb o e=>(I7.pin (b,o) (CB _ (CB _ (FU hb e)))).1,λb hb=>?_,w7⟩;let⟨o,e,d⟩:=T.obj _ _ pA b hb;exact(I7.pin (b,o) (CB _ (CB _ (FU hb e)))).2.1
   exact h8 (AF (Ea _ s5 σ3 H5 x u _ Cc r5 (step x H5 y5)) λ_ s6 ξ=>Ξ22 ξ λσ6 H6 I6 q6=>?_);exact h8 (AF (Pm _ s6 σ6 H6 _ I6 q6) λb s7 ξ=>Ξ12 ξ λH7 I7 q7=>?_);cases b with
   |false=>
    rw[AN BJ]at q7 ⊢;exact again I7 q7
   |true=>
    rw[AR rfl]at q7 ⊢;exact h8 (AF (LZ _ s7 σ6 H7 _ I7 q7) λu8 s8 ξ=>Ξ24 ξ λy8 H8 I8 r8 d8 q8=>?_);exact h8 (AF (gJ _ s8 σ6 H8 (.ref s2.heap.objs.size) [y8] (.ref s2.heap.objs.size) [u8] (λ_ H9=>N σ6 (ys++[y8]) H9) I8 rfl (.cons r8 .nil) ⟨_,ys,y8,rfl,rfl,d8,Js,q8⟩) λ_ s9 ξ=>Ξ23 ξ λ_ H9 I9 _ q9=>?_);exact again I9 q9
 exact codeAny_compStart_list loop (T.self X.A 0 _ _ _ (T.keep _ _ _ nG λb _ o e=>kk b o e) loop)
theorem uJ(c:di X scope cl own cap)(hc:X.calm=true)(hi:PI X tg iter wi)
  (hg:∀C s H fp,PG (BE X (own++cap.map (·.2)) scope cl C s H fp λ_ _=>False) tg g) (ht:∀C s H fp,uW (BE X (own++cap.map (·.2)) scope cl C s H fp λ_ _=>False) ifs tc)
  (he:∀C s H fp,PE (BE X (own++cap.map (·.2)) scope cl C s H fp λ_ _=>False) elt te) (hs:∀x,foldedSetIterable iter X.env x=pure x:=by intro _;rfl) :
  PE X (.ListComp elt [⟨tg,iter,ifs,0⟩] scope pos) (ZZ wi g tc te own cap):=by
 exact .mk ?_;intro v0 s σ H Q I h;rw[eval_ListComp];exact Ka (use:=none) rfl hs c.wQ c.kind c.names (AF (hi v0 s σ H _ I h) λv s1 h1=>AF h1 λIa s2 h2=>?_);let⟨it,fp,tn,J,H2,e,I2,T,nG,f2,hw⟩:=h2;subst e;exact mL (Q:=Q) (RR:=λacc C=>compPost (model X.prog X.w) X.A X.xe none (BD X v0 σ Q) acc C) c hc hg ht he I2 T nG f2 hw ?_;intro D C s' H' m I' hC hm q;exact⟨m,hm,λh' hG=>Ψ2 (.ref D) H' ⟨?_,rfl,q⟩⟩;exact I'.turned (t':=s'.toks) (λb o hb e=>(hG.2 b hb).trans e) hC.1 hC.2.1 hC.2.2.2.1 hC.2.2.2.2.1 hC.2.2.2.2.2
end
def gB:List Int→Int
 |[]=>0
 |[x]=>x
 |x::y::r=>max x (gB (y::r))
def Cf{α:Type}(xs:List α)(lo hi:Option Int):List α:=(xs.drop (HT.cR xs.length 0 lo)).take (HT.cR xs.length xs.length hi-HT.cR xs.length 0 lo)
theorem MU{α:Type}(xs:List α)(lo hi:Option Int):(Cf xs lo hi).length≤xs.length:=by
 unfold Cf;rw[ET,Ff];lia
theorem N8(v:Int)(n d:Nat):max (0:Int) (min (if v<0 then v+(n:Int)else v) (n:Int))=((HT.cR n d (some v):Nat):Int):=by
 show _=(((if v<0 then(v+(n:Int)).toNat else min v.toNat n):Nat):Int)
 by_cases hv:v<0
 ·rw[AR hv,AR hv];lia
 ·rw[AN hv,AN hv];lia
theorem Zu(lo hi:Option Int)(n:Nat):Builtin.Str.strSliceIndices lo hi 1 n=Builtin.Str.strSliceIndices (some ((HT.cR n 0 lo:Nat):Int)) (some ((HT.cR n n hi:Nat):Int)) 1 n:=by
 have a1:=HT.rR n 0 (Fm _) lo;have a2:=HT.rR n n (Ar _) hi;have n1:¬(((HT.cR n 0 lo:Nat):Int)<0):=by lia
 have n2:¬(((HT.cR n n hi:Nat):Int)<0):=by lia
 have e1:max (0:Int) (min ((HT.cR n 0 lo:Nat):Int) (n:Int))=((HT.cR n 0 lo:Nat):Int):=by lia
 have e2:max (0:Int) (min ((HT.cR n n hi:Nat):Int) (n:Int))=((HT.cR n n hi:Nat):Int):=by lia
 have p1:((1:Int)>0)=True:=by simp
 simp only[Builtin.Str.strSliceIndices,n1,n2,J2,e1,e2,p1,Gx];cases lo with
 |none=>
  cases hi with
  |none=>rfl
  |some v=>simp only[N8 v n n];rfl
 |some u=>
  cases hi with
  |none=>simp only[N8 u n 0];rfl
  |some v=>simp only[N8 u n 0,N8 v n n]
theorem zi{a b:Nat}(h:b≤a):Builtin.Str.strSliceIndices (some (a:Int)) (some (b:Int)) 1 n=[]:=by
 have n1:¬((a:Int)<0):=by lia
 have n2:¬((b:Int)<0):=by lia
 have p1:((1:Int)>0)=True:=by simp
 have p2:¬(max (0:Int) (min (a:Int) (n:Int))<max (0:Int) (min (b:Int) (n:Int))):=by lia
 simp only[Builtin.Str.strSliceIndices,PySem.sliceRange,n1,n2,J2,p1,Gx,p2];rfl
theorem xx(x:Str)(lo hi:Option Int):(StrLaws.sliceText x lo hi).cps.toList=Cf x.cps.toList lo hi:=by
 have hn:x.cps.toList.length=x.length:=by simp[Str.length]
 unfold Cf;rw[hn];have a2:=HT.rR x.length x.length (Ar _) hi;by_cases h:HT.cR x.length 0 lo≤HT.cR x.length x.length hi
 ·have q:=StrLaws.sliceText_nat x h a2
  have e:StrLaws.sliceText x lo hi=StrLaws.sliceText x (some ((HT.cR x.length 0 lo:Nat):Int)) (some ((HT.cR x.length x.length hi:Nat):Int)):=by
   unfold StrLaws.sliceText;rw[Zu lo hi x.length]
  rw[e,q]
 ·have z:HT.cR x.length x.length hi-HT.cR x.length 0 lo=0:=by lia
  rw[z,XQ];unfold StrLaws.sliceText;rw[Zu lo hi x.length,zi (by lia)];split
  ·rename_i c
   have c':(0:Nat)=x.length:=by simpa using c
   exact c9 (by rw[hn];exact c'.symm)
  ·rfl
def xq:V→Option Int→Option Int→A4→Ac→Prop:=λx lo hi H Q=>∃z:Str,x=.str z∧z.length≤sizeLine∧∀y:Str,y.cps.toList=Cf z.cps.toList lo hi→Q (.str y) H
theorem vP{X:Cx}:Hu X xq:=by
 intro v0 s σ H x v vl vu lo hi sl Q I rx hs pl pu h;let⟨z,rfl,hz,q⟩:=h;let⟨t,rfl⟩:=rx;exact Ψ2 ("str") _ ⟨F.slot_str_getitem.lookup,Ke _ z t,?_⟩;have fin:∀(l u:Option (Int×Tok)),l.map (·.1)=lo→u.map (·.1)=hi→s.heap.IsSlice sl l u none→wpAny (model X.prog X.w) X.A (getItem (.str z t) (.ref sl)) (BD X v0 σ Q) X.xe s:=λl u el eu hq=>by
  exact wpAny_getItem_str_slice hq rfl ?_;have hc:=xx z lo hi;unfold StrLaws.sliceText at hc;unfold sliceMade slicePicked;rw[el,eu];show(if((1:Int)==1&&(Builtin.Str.strSliceIndices lo hi 1 z.length).length==z.length)=true then Made.val (.str z t)else .str ⟨((Builtin.Str.strSliceIndices lo hi 1 z.length).filterMap (z.cps[·]?)).toArray⟩).post (BD X v0 σ Q) s
  split
  ·rename_i c
   rw[AR c]at hc;exact Ψ2 (.str z) H ⟨I,⟨t,rfl⟩,q z hc⟩
  ·rename_i c
   rw[AN c]at hc;have hl:(Str.mk ((Builtin.Str.strSliceIndices lo hi 1 z.length).filterMap (z.cps[·]?)).toArray).length≤z.length:=by
    have e:=MU z.cps.toList lo hi;rw[←hc]at e;simpa[Str.length]using e
   exact⟨DA hl hz,.str ⟨((Builtin.Str.strSliceIndices lo hi 1 z.length).filterMap (z.cps[·]?)).toArray⟩,H,I.tok _,⟨_,rfl⟩,q _ hc⟩
 cases pl with
 |none=>
  cases pu with
  |none=>exact fin none none rfl rfl hs
  |int j t'=>exact fin none (some (j,t')) rfl rfl hs
 |int i QV=>
  cases pu with
  |none=>exact fin (some (i,QV)) none rfl rfl hs
  |int j t'=>exact fin (some (i,QV)) (some (j,t')) rfl rfl hs
section
variable {x: Expr}{p2: Pos}{T: Str}{Ty: String}
def tW(K:W.Frag)(Ty:String)(te:AO):AO:=λσ H Q=>te σ H λv H1=>∃v',[v,V.ty Ty]=[v',V.ty Ty]∧∃t b,Em K H1 v' t∧W.kitOne K t (.type Ty)=some b∧Q (.bl b) H1
theorem wU(hg:BP X "isinstance")(hm:X.mg "isinstance" = none)(LX:BP X T)(LV:X.mg T=none)(LO:bootBuiltins T=some (.type Ty))(he:PE X x te)(hn:T ≠ "__name__" := by decide)(L5:(T ==("__debug__" : Str))=false:=by decide)
  (hs:starEach [x,.Name T p2] X.env=(false,eval x X.env)::starEach [.Name T p2] X.env:=by rfl) (qS:starEach [.Name T p2] X.env=[(false,eval (.Name T p2) X.env)]:=by rfl)
  (hJ:(backTo pos (starEach [.Name T p2] X.env)).any (·.1)=false:=by rfl) :
  PE X (.Call (.Name "isinstance" p) [x,.Name T p2] [] pos) (tW X.K Ty te):=by
 have c:F1 X (.builtin "isinstance") (λxs H Q=>∃v,xs=[v,.ty Ty]∧∃t b,Em X.K H v t∧W.kitOne X.K t (.type Ty)=some b∧Q (.bl b) H):=by
  intro v0 s σ H xs us Q I r h;let⟨v,rfl,⟨t,b,ty,e,q⟩⟩:=h;let⟨u,w',rfl,ru,rS⟩:=vals2 r;cases(show w'=Value.type Ty from rS);exact tF I ru ty e λtk=>Ψ2 (.bl b) H ⟨I.tok tk,rfl,q⟩
 have pa:PA X [x,.Name T p2] (XX te (XX (HU (.ty Ty)) cT)):=TT he (TT (uc LX LV LO rfl hn L5) Yl qS) hs;exact eE (p:=p) (pos:=pos) c hg hm PyProof.Rows.boot_isinstance pa (by decide) (by decide) hs hJ
end
def Callee(P:Program)(w:World)(K:W.Frag)(mg:KK)(base:Heap)(x:Str)(k:Nat)(ps:List Str)(sp:DU):Prop:=
 ∃f fd,a8 P w K mg base Ag k f fd ps sp∧mg x=some (.ref f)∧W.keepIn K (.ref f)=true∧Binds K fd ps []
section
variable {x: Str}{k j: Nat}{ps: List Str}{sp: DU}{e: Expr}{es: List Expr}{t: Bq}
theorem qR(c:Callee X.prog X.w X.K X.mg X.base x k ps sp)(hr:dA j X.A)(hk:k≤j)(hg:BP X x)(ha:PA X (e::es) t)(oC:(x ==("__debug__" : Str))=false:=by decide)
  (he:starEach (e::es) X.env=(false,eval e X.env)::starEach es X.env:=by rfl) (hJ:(backTo pos (starEach es X.env)).any (·.1)=false:=by rfl):PE X (.Call (.Name x p) (e::es) [] pos) (dy sp [] Hj t):=by
 let⟨f,fd,F,m,kp,b⟩:=c;exact m6 F (hr.mono hk) hg m kp b .nil aY ha oC he hJ
end
section
theorem mh{p:Str×NameKind}(h:p∈(relabel scope env).names):∃q∈scope.names,q.1=p.1∧(p.2=q.2∨(q.2=.free∧p.2=.cell)):=by
 let⟨q,hq,e⟩:=X9.mp (show p∈scope.names.map _ from h);exact⟨q,hq,?_⟩;obtain⟨n,k⟩:=q;dsimp only at e;split at e
 ·rename_i c
  subst e;exact⟨rfl,.inr ⟨?_,rfl⟩⟩;simp only[E9,Zx]at c;exact c.1.1
 ·subst e
  exact⟨rfl,.inl rfl⟩
theorem vx(hk:scope.kind=.function)(hn:∀y∈scope.names,y.2≠.free∧y.2≠.cell)(hl:∀y∈scope.names,y.2=.local→scope.names.lookup y.1=some .local):di X scope [] own [] where
 wQ:=closureFor_none λy hy=>(hn y hy).1
 cell:=λy hy=>(hn y hy).2
 kind:=hk
 names:=hl
 sub:=λx c h=>nomatch h
 has:=λp hp h=>by
  let⟨q,hq,e1,e2⟩:=mh hp;have n:=hn q hq;rcases e2 with e2|⟨e2,_⟩
  ·rw[e2]at h
   rcases h with h|h
   ·exact absurd h n.2
   ·exact absurd h n.1
  ·exact absurd e2 n.1
 Er:=λp hp=>nomatch hp
def uY(cells:List (Str×Addr)):List (Str×Addr)→Prop
 |[]=>True
 |p::r=>cells.lookup p.1=some p.2∧uY cells r
theorem uY.mem{cells:List (Str×Addr)}:∀{cl:List (Str×Addr)},uY cells cl→∀p∈cl,cells.lookup p.1=some p.2
 |[],_,p,h=>nomatch h
 |q::r,h,p,hp=>by
  rcases XO.mp hp with rfl|hp
  ·exact h.1
  ·exact uY.mem h.2 p hp
def qz(X:Cx)(scope:Scope):List (Nat×Str)→Prop
 |[]=>True
 |p::r=>(X.N[p.1]?=some p.2∧X.env.kindOf p.2=some .cell∧(relabel scope X.env).names.lookup p.2=some .cell)∧qz X scope r
theorem qz.mem:∀{cap:List (Nat×Str)},qz X scope cap→∀p∈cap,X.N[p.1]?=some p.2∧X.env.kindOf p.2=some .cell∧(relabel scope X.env).names.lookup p.2=some .cell
 |[],_,p,h=>nomatch h
 |q::r,h,p,hp=>by
  rcases XO.mp hp with rfl|hp
  ·exact h.1
  ·exact qz.mem h.2 p hp
theorem Gb{cl:List (Str×Addr)}{cap:List (Nat×Str)}(hk:scope.kind=.function)(hn:∀y∈scope.names,y.2≠.cell)(hl:∀y∈scope.names,y.2=.local→scope.names.lookup y.1=some .local)
  (hc:closureFor scope X.env=pure cl) (ha:uY X.env.cells cl) (hh:((relabel scope X.env).names.all λp=>!(p.2 == .cell||p.2 == .free)||(cl.lookup p.1).isSome)=true) (PQ:qz X scope cap):di X scope cl own cap where
 wQ:=hc
 cell:=hn
 kind:=hk
 names:=hl
 sub:=λx c h=>ha.mem _ (mem_of_lookup h)
 has:=λp hp h=>by
  have q:=Yw.mp hh p hp;rcases h with h|h<;>· rw[h]at q;simpa using q
 Er:=λp hp=>by
  let⟨h1,h2,h3⟩:=PQ.mem p hp;exact⟨h1,.inr (.inl h2),by rw[h2];decide,by rw[h3];decide,.inl h3⟩
end
theorem eF:bootBuiltins "bool" = some (.type "bool"):=by decide +kernel
theorem nv:bootBuiltins "int" = some (.type "int"):=by decide +kernel
theorem IV:bootBuiltins "str" = some (.type "str"):=by decide +kernel
theorem Dm:bootBuiltins "tuple" = some (.type "tuple"):=by decide +kernel
theorem mW:bootBuiltins "dict" = some (.type "dict"):=by decide +kernel
def Kp(l:List Addr)(H H':A4):Prop:=∀b o,b∉l→H b=some o→H' b=some o
theorem Kp.refl(H:A4):Kp l H H:=λ_ _ _ h=>h
theorem Kp.new{H:A4}{p:Addr}(h:H p=none)(o:HO):Kp l H (AK H p o):=λb u _ q=>by rw[Al (FV q h)];exact q
end L2
namespace L2
open PySem PySem.Spec PyProof.Rows PySem.W
variable {h:Heap}{H: A4}{v0:ac}{σ:St}{H1:A4}{s1:Shared}{b:Addr}{o:Obj}{P:Program}{w:World}{x: Str}{X: Cx}{np pos: Pos}{t: Bq}{E: Ax}{s: Shared}
theorem w6{K:Frag}{C:Addr}{FF:List Value}{newId:String}(X:K.In h)(q:excIn K C FF newId=true):
  ∃bm N nm q bs hdct sn sub ab col dd k0 k1 k2 k3 k5 mN,h.get? C=some (excClassObj nm q C N bs bm hdct sn sub ab col dd k0 k1 k2 k3 k5 newId)∧h.Ns N mN∧mN "__init__" = none∧OwnTail h FF bm:=by
 unfold excIn at q;split at q
 ·rename_i dd cd sl ho
  split at q
  ·rename_i C' bm k0 k1 k2 k3 n k5 hm hs
   simp only[E9,Zx,Bool.not_eq_true']at q;let⟨⟨⟨⟨⟨rfl,rfl⟩,L4⟩,ht⟩,bO⟩,Nj⟩:=q;obtain⟨nm,bs,mro,ns,qn,hd,sn,sub,ab,col,del⟩:=cd;dsimp only at hm L4 bO Nj;subst hm L4;have Po:sl=#[k0,k1,k2,k3,some (.builtin n),k5]:=by
    obtain⟨l⟩:=sl;simp only at hs;rw[hs]
   subst Po;exact⟨bm,ns,nm,qn,bs,hd,sn,sub,ab,col,dd,k0,k1,k2,k3,k5,_,X _ _ ho,.of_isNs (isNs_of_in X bO),nsMap_none_of_in X bO Nj,tail_of_in X ht⟩
  ·cases q
 ·cases q
structure Nx(fs:List Addr)(H H':A4)(h B h':Heap):Prop where
 keep:∀b o,h.get? b=some o→H b=none→b∉fs→B.get? b=some o
 slot:∀b o,h.get? b=some o→H b=none→b∈fs→∃sl,h'.get? b=some {o with slots:=sl}
 free:∀b o,h.get? b=some o→H b=none→H' b=none
 there:∀b o,h.get? b=some o→b∉fs→∃o',B.get? b=some o'
 lM:∀b xs,H b=some (.tup xs)→H' b=some (.tup xs)
 lC:∀b o u,H b=some (.frz o u)→H' b=some (.frz o u)
 lO:∀b ps,H b=some (.tbl ps)→∃more,H' b=some (.tbl (ps++more))
theorem Nx.un{fs:List Addr}{H H':A4}{B h':Heap}(u:Nx fs H H' h B h')(st:B.StaysIn h')(hf:∀b∈fs,H b=none):Un fs [] H H' h h':=
 ⟨λb o e n hb _=>st b o (u.keep b o e n hb),λb o e n hb _=>u.slot b o e n hb,λb o e n _=>u.free b o e n,λb o e _=>by
  by_cases hb:b∈fs
  ·let⟨sl,q⟩:=u.slot b o e (hf b hb) hb
   exact⟨_,q⟩
  ·let⟨o',q⟩:=u.there b o e hb
   exact⟨o',st b o' q⟩,u.lM,u.lC,u.lO⟩
def EL(P:Program)(w:World):G0:=λouter H s E e s'=>∃(x:Addr) (C a0:Value) (H':A4) (B:Heap),e=.ref x∧s'.os=s.os∧AllBare s'.gens∧
 Heap.FlyingW B outer x C a0 s'.heap∧lH P w H' B∧Nx (DH outer) H H' s.heap B s'.heap∧E C none H'
def Raises(X:Cx)(E:Ax):Prop:=∀(v0:ac) (σ:St) (H:A4) (s:Shared) (h':Heap) (x:Addr) (C:Value) (vs:List Value),Inv X v0 σ H s→Heap.MadeExcOf s.heap h' x C vs→E C none H→X.xe (.ref x) {s with heap:=h'}
section
variable {C: Addr}{FF: List Value}{B newId wx: String}{ek: Pos}{e₀: Expr}{v4: List Expr}
def ri(E:Ax)(C:Addr)(t:Bq):Bh:=λ_ σ H=>t σ H λvs H1=>vs.length≤sizeLine∧E (.ref C) none H1
theorem vm(hc:X.calm=true)(hg:BP X x)(hm:X.mg x=some (.ref C))(hx:excIn X.K C FF newId=true)(FB:ExcBaseFacts B newId wx FF)(ha:PA X (e₀::v4) t)(hE:Raises X E)
  (hd:(x ==("__debug__" : Str))=false:=by decide) (he:starEach (e₀::v4) X.env=(false,eval e₀ X.env)::starEach v4 X.env:=by rfl) (hJ:(backTo ek (starEach v4 X.env)).any (·.1)=false:=by rfl) :
  PS X (.Raise (some (.Call (.Name x np) (e₀::v4) [] ek)) none pos) (ri E C t):=by
 exact .mk ?_;intro v0 s σ H D I h;obtain⟨bm,N,nm,q,bs,hdct,sn,sub,ab,col,dd,k0,k1,k2,k3,k5,mN,hC,hN,Nj,T⟩:=w6 I.mod.Fg hx;exact wpAny_Raise_call_subT (C:=C) (nm:=nm) (q:=q) (N:=N) (bs:=bs) (bm:=bm) (hdct:=hdct) (sn:=sn) (sub:=sub) (ab:=ab) (col:=col) (dd:=dd) (k0:=k0) (k1:=k1) (k2:=k2) (k3:=k3) (k5:=k5)
  FB (mN:=mN) (T.hasType FB.hasBase) (I.ok.hd hc) (by rw[he];show(false||(backTo ek (starEach v4 X.env)).any (·.1))=false;rw[hJ];rfl) Nj (Ji I hg hm ⟨rfl,?_⟩ hd)
 have hA:=ha ek v0 s σ H _ I h;rw[he]at hA ⊢;exact Qu (AF hA λus s2 ξ=>Ξ24 ξ λvs H1 I1 r1 hz q1=>?_);exact⟨rfl,by rw[←r1.length];exact hz,I1.bk _ _ hC,hN.keeps I1.bk,T.keeps I1.bk,λh' e hM=>hE v0 σ H1 s2 h' e _ _ I1 hM q1⟩
end
section
variable {P: Program}{w: World}{K: W.Frag}{mg: Str→Option Value}{base: Heap}{N: List Str}{qual: Str}{scope: Scope}{f: Addr}{cd: Value}{A: Around}{outer: List Env}
abbrev Gp(P:Program)(w:World)(K:W.Frag)(mg:KK)(base:Heap)(N:List Str)(qual:Str)(scope:Scope)(f:Addr)(cd:Value)(A:Around)(outer:List Env)(s:Shared)(H:A4)(E:Ax):Cx:=
 Ha (EL P w) P w K mg base N qual scope f cd A outer s H E
theorem Mo(I:Inv (Gp P w K mg base N qual scope f cd A outer s H E) v0 σ H1 s1)(e:s.heap.get? b=some o)(hb:b∉DH outer):
  b∉DH (envOfC qual scope s.heap.objs.size f cd::outer):=λhm=>by
 rcases XO.mp (I.rM b hm)with z|z
 ·exact absurd (Aq e) (by rw[z];exact Gv _)
 ·exact hb z
theorem bS(I:Inv (Gp P w K mg base N qual scope f cd A outer s H E) v0 σ H1 s1)(e:s.heap.get? b=some o)(hb:b∈DH outer):∀vs,o.data≠.fields vs:=by
 let⟨_,⟨o',oR,IC⟩⟩:=I.ok.kH.mem hb;have e':s.heap.get? b=some o':=oR;rw[e]at e';cases e';exact IC
theorem Oj:Raises (Gp P w K mg base N qual scope f cd A outer s H E) E:=by
 intro v0 σ H1 s1 h' x C vs I M hE;show wpAny (model P w) (A.deeper (envOfC qual scope s.heap.objs.size f cd)) (leaving (envOfC qual scope s.heap.objs.size f cd) (.ref x)) (λ_ Aj=>EL P w outer H s E (.ref x) Aj) (λe' Aj=>EL P w outer H s E e' Aj) {s1 with heap:=h'}
 have UW:∀BH∈envOfC qual scope s.heap.objs.size f cd::outer,∀a,BH.frame=some a→a∈DH (envOfC qual scope s.heap.objs.size f cd::outer):=λBH he a ha=>Zr.mpr ⟨BH,he,ha⟩;exact wpAny_leaves_madeW (base:=hideAll s1.heap (DH (envOfC qual scope s.heap.objs.size f cd::outer))) (h:=s1.heap) I.ok.frames rfl (λb o q=>of_hideAll _ q) (funFrames_hide I.stack UW) M λh2 t x1 x2 x3 x4=>?_;have nf:∀b u,H1 b=some u→b∉DH (envOfC qual scope s.heap.objs.size f cd::outer):=λb u q hm=>by
  have z:=I.oO b hm;rw[q]at z;cases z
 exact Ψ5 x C (.ref t) H1 _ ⟨rfl,I.os,I.bare,x1,λa o q=>?_,⟨λb o q n hb=>?_,λb o q n hb=>?_,λb o q n=>?_,λb o q hb=>?_,I.base.lM,I.base.lC,I.base.lO⟩,hE⟩
 ·exact(I.bO a o q).qH (λb u hb z=>hideAll_get _ z ?_) (λ_ z=>z) λ_ _ z=>z
  rcases hb with rfl|hb
  ·exact nf _ _ q
  ·exact nf _ _ hb
 ·exact hideAll_get _ (I.base.keep b o q n hb (by exact CN)) (Mo I q hb)
 ·let⟨sl,z⟩:=I.base.slot b o q n hb (by exact CN)
  let⟨Jk,z2⟩:=x4 b _ (M.keeps _ _ z) (have fd:=bS I q hb;λvs=>fd vs);exact⟨Jk,z2⟩
 ·exact I.base.free b o q n (by exact CN)
 ·let⟨o',z⟩:=I.base.there b o q (by exact CN)
  exact⟨o',hideAll_get _ z (Mo I q hb)⟩
theorem fH:Passes (EL P w) (Gp P w K mg base N qual scope f cd A outer s H E) E:=by
 intro v0 σ H1 s1 e s2 I h;let⟨x,C,a0,H',B,rfl,os,bare,fl,bO,u,hE⟩:=h;show wpAny (model P w) (A.deeper (envOfC qual scope s.heap.objs.size f cd)) (leaving (envOfC qual scope s.heap.objs.size f cd) (.ref x)) (λ_ Aj=>EL P w outer H s E (.ref x) Aj) (λe' Aj=>EL P w outer H s E e' Aj) s2
 exact wpAny_leaves_onW I.ok.frames rfl fl λh2 f2 A9=>?_;exact Ψ5 x C a0 H' B ⟨rfl,os.trans I.os,bare,f2,bO,⟨λb o q n hb=>?_,λb o q n hb=>?_,λb o q n=>?_,λb o q hb=>?_,λb xs q=>u.lM b xs (I.base.lM b xs q),λb o v q=>u.lC b o v (I.base.lC b o v q),λb ps q=>?_⟩,hE⟩
 ·exact u.keep b o (I.base.keep b o q n hb (by exact CN)) (I.base.free b o q n (by exact CN)) (Mo I q hb)
 ·let⟨sl,z⟩:=I.base.slot b o q n hb (by exact CN)
  have hm:b∈DH (envOfC qual scope s.heap.objs.size f cd::outer):=by
   let⟨BH,he,ha⟩:=Zr.mp hb;exact Zr.mpr ⟨BH,Dz _ he,ha⟩
  let⟨Jk,z2⟩:=u.slot b _ z (I.base.free b o q n (by exact CN)) hm;let⟨Ts,z3⟩:=A9 b _ z2 (have fd:=bS I q hb;λvs=>fd vs);exact⟨Ts,z3⟩
 ·let⟨o',z⟩:=I.base.there b o q (by exact CN)
  exact u.free b o' z (I.base.free b o q n (by exact CN))
 ·let⟨o',z⟩:=I.base.there b o q (by exact CN)
  exact u.there b o' z (Mo I q hb)
 ·let⟨m1,z1⟩:=I.base.lO b ps q
  let⟨m2,z2⟩:=u.lO b _ z1;exact⟨m1++m2,by rw[z2,Array.append_assoc]⟩
theorem bR:PassesOwn (model P w) (Gp P w K mg base N qual scope f cd A outer s H E).A (Gp P w K mg base N qual scope f cd A outer s H E).env (Gp P w K mg base N qual scope f cd A outer s H E).xe:=PassesOwn.leaving
end
theorem cP.T1{K:W.Frag}{mg:KK}{base:Heap}{x qual:Str}{st:Stmt}{f:Addr}{fd:FuncData}{N ps:List Str}{k:Nat}{sp:DU}(F:cP K x qual st f fd)(S:Ak N ps (AX st))(len:∀vs H Q E,sp vs H Q E→vs.length=ps.length)
  (mx:∀(cn:Value) (A:Around) (outer:List Env) (s:Shared) (H:A4) (vs:List V) (Q:Ac) (E:Ax),dA k (A.deeper (envOfC qual (AX st) s.heap.objs.size f cn))→sp vs H Q E→
   ∃t,lG (Gp P w K mg base N qual (AX st) f cn A outer s H E) (FG st) t∧t {nx:=λ_ H'=>Q .non H',rt:=Q} (start N vs) H):a8 P w K mg base (EL P w) (k+1) f fd ps sp:=by
 let⟨oc,od,Ay,doc,pm,an,cn,ct,yC,rfl,lk,uv⟩:=F.ex;exact Yy lk uv S len λA outer s H vs Q E hr vc=>mx cn A outer s H vs Q E hr vc
def Rt(P:Program)(w:World)(K:W.Frag)(mg:KK)(base:Heap)(x:Str)(k:Nat)(ps:List Str)(sp:DU):Prop:=
 ∃f fd,a8 P w K mg base (EL P w) k f fd ps sp∧mg x=some (.ref f)∧W.keepIn K (.ref f)=true∧Binds K fd ps []
theorem bZ.got{H:A4}{a:Addr}{o:HO}(x:bZ P w H h a o):∃u,h.get? a=some u:=by
 cases o with
 |lst xs=>let⟨_,⟨_,_,_,e⟩⟩:=x;exact⟨_,e⟩
 |tup xs=>let⟨_,⟨_,_,⟨o,e,_⟩⟩⟩:=x;exact⟨_,e⟩
 |dK ay=>let⟨_,_,⟨_,_,⟨o,_,_,e,_⟩⟩⟩:=x;exact⟨_,e⟩
 |dT ay=>let⟨_,_,⟨_,_,⟨o,_,_,e,_⟩⟩⟩:=x;exact⟨_,e⟩
 |set S n=>let⟨o,_,_,_,e,_⟩:=x;exact⟨_,e⟩
 |ins C dx fs=>let⟨_,_,_,e,_⟩:=x;exact⟨_,e⟩
 |own y=>exact x
 |xd fs=>let⟨_,⟨_,_,_,e,_⟩,_⟩:=x;exact⟨_,e⟩
 |rng lo hi=>let⟨_,_,_,e⟩:=x;exact⟨_,e⟩
 |frz ob u=>let⟨e,_⟩:=x;exact⟨_,e⟩
 |tbl ps=>exact⟨_,(show h.get? a=some _ from x)⟩
 |met f y=>exact⟨_,(show h.get? a=some _ from x)⟩
 |ext φ=>let⟨_,e,_⟩:=x;exact e
section
variable {v0: List (Addr×Obj)}{σ: St}
abbrev Cx.tr(X:Cx)(E':xz)(pn:ac):Cx:={X with xe:=E',pn:=pn}
abbrev Cx.su(X:Cx)(x:Addr):Cx:={X with A:=X.A.mark (some (.ref x)),calm:=false,xe:=λ_ _=>False}
theorem Cx.Ok.tr(ok:X.Ok)(E':xz)(pn:ac):(X.tr E' pn).Ok:=
 ⟨ok.mod,ok.kind,ok.glob,ok.blt,ok.above,ok.inj,ok.has,ok.Fz,ok.hd,ok.frames,ok.Gi,ok.Cq,ok.bs,ok.B6,ok.ug,ok.oF,ok.kH,ok.Cp⟩
theorem Cx.Ok.su(ok:X.Ok)(x:Addr):(X.su x).Ok:=
 ⟨ok.mod,ok.kind,ok.glob,ok.blt,ok.above,ok.inj,ok.has,ok.Fz,(λz=>absurd (show false=true from z) (by decide)),ok.frames,ok.Gi,ok.Cq,ok.bs,ok.B6,ok.ug,ok.oF,ok.kH,ok.Cp⟩
theorem Inv.tr(I:Inv X v0 σ H s)(E':xz):Inv (X.tr E' (X.pn++v0)) [] σ H s:=
 ⟨I.ok.tr E' _,I.os,I.bare,I.base,I.loc,I.cell,I.free,I.gU,λp hp=>I.pin p (by simpa using hp),I.bO,I.len⟩
theorem Inv.zN{E':xz}{pN:ac}(ok:X.Ok)(I:Inv (X.tr E' (X.pn++v0)) pN σ H s):Inv X v0 σ H s:=
 ⟨ok,I.os,I.bare,I.base,I.loc,I.cell,I.free,I.gU,λp hp=>I.pin p (KO _ hp),I.bO,I.len⟩
theorem Inv.su(I:Inv X v0 σ H s)(x:Addr):Inv (X.su x) v0 σ H s:=⟨I.ok.su x,I.os,I.bare,I.base,I.loc,I.cell,I.free,I.gU,I.pin,I.bO,I.len⟩
theorem Inv.Cu{x:Addr}(ok:X.Ok)(I:Inv (X.su x) v0 σ H s):Inv X v0 σ H s:=⟨ok,I.os,I.bare,I.base,I.loc,I.cell,I.free,I.gU,I.pin,I.bO,I.len⟩
end
section
def Yx(X:Cx)(v0:ac)(D:Ends)(hs:List ExceptHandler):xz:=λe s₁=>
 wpAny (model X.prog X.w) X.A (noteFrame e X.env) (λ_ s₂=>wpAny (model X.prog X.w) X.A (setFlight e none) (λ_ s₃=>wpAny (model X.prog X.w) X.A (handleBy e X.env hs) (SP X v0 D) X.xe s₃) X.xe s₂) X.xe s₁
end
section
variable {k j: Nat}{ps: List Str}{sp: DU}{p: Pos}{e: Expr}{es: List Expr}{W: St→Ax}
def rX(sp:DU)(W:St→Ax)(t:Bq):AO:=λσ H Q=>t σ H λvs H1=>sp vs H1 Q (W σ)
def XY(X:Cx)(W:St→Ax):Prop:=∀(v0:ac) (σ:St) (H:A4) (s:Shared) (e:Value) (s':Shared),Inv X v0 σ H s→EL X.prog X.w X.stack H s (W σ) e s'→X.xe e s'
theorem xN(c:Rt X.prog X.w X.K X.mg X.base x k ps sp)(hr:dA j X.A)(hk:k≤j)(hg:BP X x)(hx:XY X W)(ha:PA X (e::es) t)(oC:(x ==("__debug__" : Str))=false:=by decide)
  (he:starEach (e::es) X.env=(false,eval e X.env)::starEach es X.env:=by rfl) (hJ:(backTo pos (starEach es X.env)).any (·.1)=false:=by rfl):PE X (.Call (.Name x p) (e::es) [] pos) (rX sp W t):=by
 exact .mk ?_;let⟨f,fd,F,m,kp,b⟩:=c;intro v0 s σ H Q I h;exact Hl (Ji I hg m ?_ oC);exact La (h₀:=X.base) I.ok.mod.Fg kp (AF (ha pos v0 s σ H _ I h) λus s1 ξ=>Ξ23 ξ λvs H1 I1 r q=>⟨I1.mr,?_⟩) he hJ;have hl:us.length=ps.length:=by rw[←r.length];exact F.len _ _ _ _ q
 have hb:=b s1 us I1.mr (by rw[Bt];exact hl);rw[Bt]at hb;exact wpAny_call (Ko (F.run X.A X.stack s1 H1 ⟨us,[]⟩ us vs Q (W σ) (hr.mono hk) I1.IP hb r q) λr' s' hq=>?_);cases r' with
 |error e=>exact hx v0 σ H1 s1 e s' I1 hq
 |ok fl=>
  cases fl with
  |ret u=>exact I1.after hq
  |next=>exact False.elim hq
  |brk=>exact False.elim hq
  |cont=>exact False.elim hq
end
section
variable {body nE: List Stmt}{b₀: Stmt}{y: Str}{Bu: Pos}{Cy: Addr}{tb:(St→Ax)→Bh}{ts: Bh}
def SW(K:W.Frag)(Cy:Addr)(ts:Bh)(D:Ends):St→Ax:=λσ C _ H'=>exmOne K C (.ref Cy)=some true∧ts D σ H'
def sh(K:W.Frag)(Cy:Addr)(tb:(St→Ax)→Bh)(ts:Bh):Bh:=λD σ H=>tb (SW K Cy ts D) D σ H
theorem wO{D:Ends}(ok:X.Ok)(tK:X.stack=X.env::X.outer)(Eb:X.env.frame=some X.env.locals)(hy:BP X y)(LS:X.mg y=some (.ref Cy))
  (hs:∀x,lG (X.su x) (b₀::nE) ts) (hd:(y ==("__debug__" : Str))=false) {σ1:St}   {e:Value} {s2:Shared} (J1:Inv X v0 σ1 H1 s1) (PM:EL X.prog X.w X.stack H1 s1 (SW X.K Cy ts D σ1) e s2) :
  Yx X v0 D [.ExceptHandler (some (.Name y np)) none (b₀::nE) Bu] e s2:=by
 let⟨x,C,a0,H',B,rfl,os,bare,fl,bO,u,hm,hw⟩:=PM;have PH:X.A.frames=some (X.env::X.outer):=by rw[←tK];exact ok.frames
 have RP:Heap.FlyingW B (X.env::X.outer) x C a0 s2.heap:=by rw[←tK];exact fl
 have data:∀b∈DH X.stack,∀o,s1.heap.get? b=some o→∀vs,o.data≠.fields vs:=λb hb o q=>by
  let⟨_,⟨o',oR,IC⟩⟩:=J1.stack.mem hb;rw[q]at oR;cases oR;exact IC
 have Rk:∀h5:Heap,B.StaysIn h5→s2.heap.UpToSlots h5→Inv X v0 σ1 H' {s2 with heap:=h5}:=λh5 st A9=>by
  have u5:Nx (DH X.stack) H1 H' s1.heap B h5:=⟨u.keep,λb o q n' hb=>by
   let⟨sl,z⟩:=u.slot b o q n' hb;let⟨Jk,z2⟩:=A9 b _ z (have dd:=data b hb o q;λvs=>dd vs);exact⟨Jk,z2⟩,u.free,u.there,u.lM,u.lC,u.lO⟩
  exact J1.Fy (s':={s2 with heap:=h5}) (ch:=[]) os (u5.un st J1.oO) (bO.kept st) bare (λb hb=>nomatch hb)
 have Uu:B.get? x=none:=RP.2.1;have Hx:H' x=none:=by
  cases q:H' x with
  |none=>rfl
  |some o=>
   let⟨z,hz⟩:=(bO x o q).got;rw[Uu]at hz;cases hz
 exact wpAny_looks_onW PH Eb RP λh4 LY QG=>?_;exact wpAny_landsW LY λh5 P5 QF=>?_;have I5:=Rk h5 P5.1 (QG.trans QF);let⟨ob,UO,Nh⟩:=P5.there;have LT:Looks (model X.prog X.w) h5 (typeOf (.ref x)) C:=by rw[←Nh];exact(Looks.ld UO).andThen .now
 exact wpAny_handleBy_cons (codeAny_handlers_test (Ji (X:=X.su x) (I5.su x) hy LS ?_ hd)) (by intro q;cases q);exact(exm_one I5.mr LT hm).here ?_;exact codeAny_handlers_suite ?_;exact lands_againW P5 λh6 VV SO=>?_;have I6:=Rk h6 VV.1 ((QG.trans QF).trans SO);exact BF ((hs x).run v0 {s2 with heap:=h6} _ _ _ (I6.su x) hw) (λf s8 q=>?_) (λ_ _ z=>z.elim);cases f with
 |next=>obtain⟨σ2,H2,I8,q⟩:=q;exact Ψ2 _ _ ⟨Inv.Cu ok I8,q⟩
 |brk=>obtain⟨σ2,H2,I8,q⟩:=q;exact Ψ2 _ _ ⟨Inv.Cu ok I8,q⟩
 |cont=>obtain⟨σ2,H2,I8,q⟩:=q;exact Ψ2 _ _ ⟨Inv.Cu ok I8,q⟩
 |ret v=>obtain⟨v',σ2,H2,I8,r,q⟩:=q;exact Ψ3 v' _ _ ⟨Inv.Cu ok I8,r,q⟩
theorem iQ(tK:X.stack=X.env::X.outer)(Eb:X.env.frame=some X.env.locals)(hy:BP X y)(LS:X.mg y=some (.ref Cy))
  (hb:∀(E':xz) (pn:ac) (W:St→Ax),(∀v0 σ H s e s',Inv (X.tr E' pn) v0 σ H s→EL X.prog X.w X.stack H s (W σ) e s'→E' e s')→lG (X.tr E' pn) body (tb W))
  (hs:∀x,lG (X.su x) (b₀::nE) ts) (hd:(y ==("__debug__" : Str))=false:=by decide) :
  PS X (.Try body [.ExceptHandler (some (.Name y np)) none (b₀::nE) Bu] [] [] pos) (sh X.K Cy tb ts):=by
 exact .mk ?_;intro v0 s σ H D I h;have ok:=I.ok;exact wpAny_Try_except ?_;have fin:=(hb (Yx X v0 D [.ExceptHandler (some (.Name y np)) none (b₀::nE) Bu]) (X.pn++v0) (SW X.K Cy ts D) (λpN σ1 H1 s1 e s2 J PM=>wO ok tK Eb hy LS hs hd (Inv.zN ok J) PM)).run [] s σ H D (I.tr _) h;exact BF fin (λf s1 q=>?_) λe s1 q=>q;cases f with
 |next=>
  obtain⟨σ',H',I',q⟩:=q;exact wpAny_execs_nil ⟨σ',H',Inv.zN ok I',q⟩
 |brk=>obtain⟨σ',H',I',q⟩:=q;exact Ψ2 σ' H' ⟨Inv.zN ok I',q⟩
 |cont=>obtain⟨σ',H',I',q⟩:=q;exact Ψ2 σ' H' ⟨Inv.zN ok I',q⟩
 |ret v=>obtain⟨v',σ',H',I',r,q⟩:=q;exact Ψ3 v' σ' H' ⟨Inv.zN ok I',r,q⟩
end
end L2
namespace L2
open PySem PySem.Spec PyProof.Rows
variable {i t':Nat}{j t a u z p j1 j2 u1 u2:Addr}{pos:Pos}{bs:List Bool}{s:Shared}{prog P:Program}{w:World}{A:Around}{E Q:xz}{ss:List Str}{ch:List Addr}{K:W.Frag}{vs ws:Array Value}{b:Value}{X: Cx}
section
def ye(i j:Int):Prop:=0<j∧j<2^200
theorem ye.OX{i j:Int}(h:ye i j):Builtin.divisionGoesByPylong i j=false:=by
 exact PyProof.noPylong_of_log2 ?_;have h1:j.natAbs<2^200:=by have:=h.1;have:=h.2;lia
 have h2:j.natAbs≠0:=by have:=h.1;lia
 have:=(Nat.log2_lt h2).mpr h1;lia
theorem hV:iC X (binaryOp .FloorDiv) (Ie ye λi j=>.int (i/j)):=KJ λi j _ _ _ _ _ hc q=>by
 have h1:(0:Int)<j:=hc.1;exact floordiv_int (by lia) (by rw[Int.fdiv_eq_ediv_of_nonneg i (by lia)];exact q) (.inl hc.OX)
def Yr(X:Cx)(r:V→A4→Ac→Prop):Prop:=
 ∀v0 s σ H (x:V) (v vs:Value) (sl:Addr) (Q:Ac),Inv X v0 σ H s→RelV x v→s.heap.IsSliceOf sl .none .none vs→IsPart vs (some (-1))→r x H Q→
  ∃T id,typeLookup (.type T) "__getitem__" = pure (some (.builtin id))∧s.TypeIs v T∧wpAny (model X.prog X.w) X.A (getItem v (.ref sl)) (BD X v0 σ Q) X.xe s
theorem uw{r:V→A4→Ac→Prop}{e st:Expr}{te ts:AO}{p2:Pos}(hr:Yr X r)(he:PE X e te)(hs:PE X st ts):
  PE X (.Subscript e (.Slice none none (some st) p2) pos) (λσ H Q=>te σ H λx H1=>ts σ H1 λy H2=>y=.int (-1)∧r x H2 Q):=by
 exact .mk ?_;intro v0 s σ H Q I h;exact Subscript_ (AF (he v0 s σ H _ I h) λv s1 ξ=>Ξ23 ξ λx H1 I1 r1 q1=>?_);exact wpAny_Slice ?_;rw[evalPart_none];exact AS ?_;exact AS ?_;rw[evalPart_some];exact AF (hs v0 s1 σ H1 _ I1 q1) λvs s2 ξ=>Ξ23 ξ λy H2 I2 r2 q2=>?_;let⟨rfl,q3⟩:=q2;let⟨t,rfl⟩:=r2;have I4:Inv X v0 σ H2 {s2 with heap:=s2.heap.push {cls:=.type "slice",data:=.fields #[.none,.none,.int (-1) t]}}:=I2.kept (t':=s2.toks) λb ob q=>Ap _ q;let⟨T,id,hT,ht,hg⟩:=hr v0 {s2 with heap:=s2.heap.push {cls:=.type "slice",data:=.fields #[.none,.none,.int (-1) t]}} σ H2 x v _ s2.heap.objs.size Q I4 r1 (Heap.IsSliceOf.new ..) (.int (-1) t) q3;show wpAny (model X.prog X.w) X.A (subscriptTail e (.Slice none none (some st) p2) v (.ref s2.heap.objs.size)) (BD X v0 σ Q) X.xe {s2 with heap:=s2.heap.push {cls:=.type "slice",data:=.fields #[.none,.none,.int (-1) t]}}
 exact tail_any (ops:=[v,.ref s2.heap.objs.size]) ht hT hg (by with_unfolding_all rfl)
theorem ar:∀{us:List Value},Vals (bs.map V.bl) us→us=bs.map Value.bool:=by
 induction bs with
 |nil=>intro us r;rw[EK]at r;cases r;rfl
 |cons n ns ih=>
  intro us r;rw[BQ]at r;cases r with
  |cons r1 r2=>
   rw[ih r2];cases r1;rfl
theorem range_all:(List.range bs.length).all (λi=>bs.getD i true)=bs.all id:=by
 rw[Fx,Yw,Yw];constructor
 ·intro h b hb
  obtain⟨i,hi,rfl⟩:=List.getElem_of_mem hb;have:=h i (ZD.mpr hi);simpa[List.getD,D2 hi]using this
 ·intro h i hi
  have Fj:=ZD.mp hi;have:=h bs[i] (FH Fj);simpa[List.getD,D2 Fj]using this
theorem Z8{o₀:Obj}{h':Heap}(hk:∀b o,b∉[s.heap.objs.size]→(s.heap.push o₀).get? b=some o→h'.get? b=some o):∀b o,s.heap.get? b=some o→h'.get? b=some o:=λb o e=>by
 exact hk b o (λhm=>?_) (Ap _ e);exact absurd ((Yu.mp hm) ▸ Aq e) (Gv _)
theorem zW(hc:X.calm=true):F1 X (.builtin "all") (λxs H Q=>∃(p:Addr) (bs:List Bool),xs=[.ref p]∧kB X.K H p (bs.map V.bl)∧Q (.bl (bs.all id)) H):=by
 intro v0 s σ H xs us Q I r h;let⟨p,bs,rfl,hq,q⟩:=h;let⟨u,rfl,ru⟩:=vals1 r;cases ru;let⟨bj,rv,pl,hz⟩:=I.list hq;have eb:=ar rv;have hl:s.heap.IsList p bj.toArray:=pl.isList;have dk:p<s.heap.objs.size:=by let⟨_,e,_⟩:=hl;exact Aq e
 exact call_all_walk (NL hl ?_);exact Ψ7 s.heap.objs.size _ _ _ _ _ (λi=>bs.getD i true) ⟨rfl,Walks.list (prog:=X.prog) (w:=X.w) (A:=X.A.in1) (I.ok.hd hc) s.heap.objs.size p (B3 dk) bj.toArray,⟨⟨_,Cv _ rfl,rfl,rfl⟩,hl.push _⟩,?_,?_⟩
 ·intro i v s' Q' E' hP hQ
  have e:v=.bool (bs.getD i true):=by
   rw[eb]at hP;simp only[List.getElem?_toArray,Hi,ZX]at hP;let⟨b,hb,rfl⟩:=hP;simp[List.getD,hb]
  rw[e];exact G6 hQ
 ·intro h' tk hk
  exact Ψ2 (.bl (bs.all id)) H ⟨I.kept (Z8 hk),?_,q⟩;have e2:bj.toArray.size=bs.length:=by rw[eb];simp
  rw[e2,range_all];rfl
theorem Vals.at{xs:List V}{us:List Value}(r:Vals xs us):∀{j:Nat} (h:j<us.length),RelV (xs.getD j .non) us[j]:=by
 induction r with
 |nil=>intro j h;exact absurd h (Nat.not_lt_zero _)
 |cons r1 r2 ih=>
  intro j h;cases j with
  |zero=>exact r1
  |succ j=>exact ih (Nat.lt_of_succ_lt_succ h)
theorem aaj{sl:Addr}{items:Array Value}{vl vu:Value}{lo hi:Option Int}(ht:IsTup s.heap t items)(hs:s.heap.IsSliceOf sl vl vu .none)(pl:IsPart vl lo)(pu:IsPart vu hi)
  (h0:HT.cR items.size 0 lo=0) (h1:HT.cR items.size items.size hi=items.size) (h:Q (.ref t) s):wpAny (model prog w) A (getItem (.ref t) (.ref sl)) Q E s:=by
 let⟨os,Il,Jv,IB⟩:=id hs;have PU:s.TypeIs (.ref sl) "slice" :=⟨os,Il,Jv⟩;unfold getItem
 try with_reducible refine F7 ?_
 first|refine A8 (AS ?_)|skip
 exact A8 (wpAny_sequenceKey ht.typeIs (by decide) ?_);exact A8 (JJ (name:=Str.ofString "__getitem__") ht.typeIs YL
  (Hy YL ht.typeIs entry_tuple_getitem ?_ (args_tuple_getitem _ _)))
 show wpAny _ _ (Builtin.Tuple.tupleItemsOf (.ref t) >>= _) _ _ s
 exact A8 (tupleItemsOf_ ht ?_);exact A8 (wpAny_typeOf PU ?_);rw[AR (by decide)];exact A8 (HT.iD hs pl pu ?_);have Ph:((((HT.cR items.size 0 lo:Nat):Int)==0&&(1:Int)==1&&(HT.cR items.size items.size hi-HT.cR items.size 0 lo)==items.size)=true):=by
  rw[h0,h1];simp
 show wpAny _ _ (if(((HT.cR items.size 0 lo:Nat):Int)==0&&(1:Int)==1&&(HT.cR items.size items.size hi-HT.cR items.size 0 lo)==items.size)=true then _ else _) _ _ s
 rw[AR Ph];unfold Builtin.Tuple.tupleIsExact;exact A8 (A8 (wpAny_typeOf ht.typeIs ?_));exact AS ?_;rw[AR (by decide)];exact A8 (JT ?_);exact AS ⟨_,rfl,AS h⟩
def xU(K:W.Frag):V→Option Int→Option Int→A4→Ac→Prop:=λx lo hi H Q=>∃a xs,x=.ref a∧dW K H a xs∧
 ((HT.cR xs.length 0 lo=0∧HT.cR xs.length xs.length hi=xs.length)→Q (.ref a) H)∧(¬(HT.cR xs.length 0 lo=0∧HT.cR xs.length xs.length hi=xs.length)→∀p,H p=none→Q (.ref p) (AK H p (.tup (FP xs lo hi))))
theorem ml:Hu X (xU X.K):=by
 intro v0 s σ H x v vl vu lo hi sl Q I rx hs pl pu h;let⟨a,xs,rfl,hx,q1,q2⟩:=h;by_cases hw:HT.cR xs.length 0 lo=0∧HT.cR xs.length xs.length hi=xs.length
 ·cases rx
  let⟨bj,r,ht,hz⟩:=I.tuple hx;have hlen:bj.toArray.size=xs.length:=by rw[BW];exact r.length.symm
  exact Ψ2 ("tuple") _ ⟨YL.lookup,ht.typeIs,?_⟩;exact aaj ht hs pl pu (by rw[hlen];exact hw.1) (by rw[hlen];exact hw.2) ⟨.ref a,H,I,rfl,q1 hw⟩
 ·exact vX v0 s σ H _ v vl vu lo hi sl Q I rx hs pl pu ⟨a,xs,rfl,hx,hw,q2 hw⟩
end
section
theorem range_any:(List.range bs.length).any (λi=>bs.getD i true)=bs.any id:=by
 rw[Fx,ZL,ZL];constructor
 ·intro⟨i,hi,h⟩
  have Fj:=ZD.mp hi;exact⟨bs[i],FH Fj,?_⟩;simpa[List.getD,D2 Fj]using h
 ·intro⟨b,hb,h⟩
  obtain⟨i,hi,rfl⟩:=List.getElem_of_mem hb;exact⟨i,ZD.mpr hi,?_⟩;simpa[List.getD,D2 hi]using h
theorem ki(hc:X.calm=true):F1 X (.builtin "any") (λxs H Q=>∃(p:Addr) (bs:List Bool),xs=[.ref p]∧kB X.K H p (bs.map V.bl)∧Q (.bl (bs.any id)) H):=by
 intro v0 s σ H xs us Q I r h;let⟨p,bs,rfl,hq,q⟩:=h;let⟨u,rfl,ru⟩:=vals1 r;cases ru;let⟨bj,rv,pl,hz⟩:=I.list hq;have eb:=ar rv;have hl:s.heap.IsList p bj.toArray:=pl.isList;have dk:p<s.heap.objs.size:=by let⟨_,e,_⟩:=hl;exact Aq e
 exact call_any_walk (NL hl ?_);exact Ψ7 s.heap.objs.size _ _ _ _ _ (λi=>bs.getD i true) ⟨rfl,Walks.list (prog:=X.prog) (w:=X.w) (A:=X.A.in1) (I.ok.hd hc) s.heap.objs.size p (B3 dk) bj.toArray,⟨⟨_,Cv _ rfl,rfl,rfl⟩,hl.push _⟩,?_,?_⟩
 ·intro i v s' Q' E' hP hQ
  have e:v=.bool (bs.getD i true):=by
   rw[eb]at hP;simp only[List.getElem?_toArray,Hi,ZX]at hP;let⟨b,hb,rfl⟩:=hP;simp[List.getD,hb]
  rw[e];exact G6 hQ
 ·intro h' tk hk
  exact Ψ2 (.bl (bs.any id)) H ⟨I.kept (Z8 hk),?_,q⟩;have e2:bj.toArray.size=bs.length:=by rw[eb];simp
  rw[e2,range_any];rfl
def uo:V→Option Int→Option Int→A4→Ac→Prop:=λx lo hi H Q=>∃a xs,x=.ref a∧H a=some (.tup xs)∧∀c H',Kp [] H H'→H' c=some (.tup (FP xs lo hi))→Q (.ref c) H'
theorem ui:Hu X uo:=by
 intro v0 s σ H x v vl vu lo hi sl Q I rx hs pl pu h;let⟨a,xs,rfl,ha,q⟩:=h;exact ml v0 s σ H _ v vl vu lo hi sl Q I rx hs pl pu ⟨a,xs,rfl,dW.of ha,λz=>q a H (Kp.refl _) ?_,λ_ p hp=>q p _ (Kp.new hp _) BZ⟩;unfold FP;rw[z.1,z.2,MC,Nat.sub_zero,List.take_length];exact ha
theorem nk:∀{us:List Value},Vals (ss.map V.str) us→∃l:List (Str×Tok),us=strValues l∧l.map (·.1)=ss:=by
 induction ss with
 |nil=>intro us r;rw[EK]at r;cases r;exact⟨[],rfl,rfl⟩
 |cons x r ih=>
  intro us rv;rw[BQ]at rv;cases rv with
  |cons r1 r2=>
   let⟨t,rfl⟩:=r1;let⟨l,rfl,e⟩:=ih r2;exact⟨(x,t)::l,rfl,by rw[BQ,e]⟩
def Hb(ss:List Str):Str:=⟨(ss.map (·.cps.toList)).flatten.toArray⟩
theorem ZC:∀(ss:List Str) (x:Array Nat),ss.foldl (λacc (p:Str)=>acc++(Str.empty).cps++p.cps) x=(x.toList++(ss.map (·.cps.toList)).flatten).toArray
 |[],x=>by simp
 |y::r,x=>by
  rw[List.foldl_cons,ZC r];simp[Str.empty,Array.toList_append,G3]
theorem oW:∀ss:List Str,Builtin.Str.glued Str.empty ss=Hb ss
 |[]=>rfl
 |y::r=>by
  show(⟨r.foldl (λacc (p:Str)=>acc++(Str.empty).cps++p.cps) y.cps⟩:Str)=_
  rw[ZC];rfl
theorem fh(sep:Nat):∀(ss:List Str) (n B:Nat),(∀y∈ss,y.length≤B)→ss.foldl (λa (p:Str)=>a+p.length+sep) n≤n+ss.length*(B+sep)
 |[],n,B,_=>by simp
 |y::r,n,B,h=>by
  rw[List.foldl_cons];have h1:=fh sep r (n+y.length+sep) B λz hz=>h z (Dz _ hz);have h2:=h y K9;rw[D0,Nat.succ_mul];lia
theorem ai{α:Type}(B:Nat):∀ls:List (List α),(∀l∈ls,l.length≤B)→ls.flatten.length≤ls.length*B
 |[],_=>by simp
 |l::r,h=>by
  rw[List.flatten_cons,Br,D0,Nat.succ_mul];have h1:=ai B r λz hz=>h z (Dz _ hz);have h2:=h l K9;lia
theorem vU{B:Nat}(h:∀y∈ss,y.length≤B):(Hb ss).length≤ss.length*B:=by
 show(ss.map (·.cps.toList)).flatten.toArray.size≤_
 rw[BW];have:=ai B (ss.map (·.cps.toList)) λl hl=>by
  let⟨y,hy,rfl⟩:=X9.mp hl;rw[JL];exact h y hy
 rwa[AV]at this
theorem t7:Jg X "str.join" (λx vs H Q=>∃(p:Addr) (ss:List Str),x=.str Str.empty∧vs=[.ref p]∧kB X.K H p (ss.map V.str)∧ss.length≤1000∧(∀y∈ss,y.length≤1000)∧Q (.str (Hb ss)) H):=by
 intro v0 s σ H x vs v us Q I rx rv h;let⟨p,ss,rfl,rfl,hq,l1,l2,q⟩:=h;let⟨t,rfl⟩:=rx;let⟨u,rfl,ru⟩:=rv.one;cases ru;let⟨bj,r,pl,hz⟩:=I.list hq;let⟨l,rfl,rfl⟩:=nk r;have hs:(1000*1000:Nat)≤sizeLine:=by decide
 have hlen:(l.map (·.1)).foldl (λa (p:Str)=>a+p.length+(Str.empty).length) 0≤1000*1000:=by
  have h1:=fh (Str.empty).length (l.map (·.1)) 0 1000 l2;have h2:(Str.empty).length=0:=rfl;rw[h2]at h1 ⊢;have h3:(l.map (·.1)).length*(1000+0)≤1000*1000:=Nat.mul_le_mul l1 (by lia);lia
 have hl:Builtin.Str.tooLong ((l.map (·.1)).toArray.foldl (· + ·.length+(Str.empty).length) 0)=false:=by
  unfold Builtin.Str.tooLong;rw[List.foldl_toArray];exact Du (by lia)
 exact call_meets F.slot_str_join (Ke s _ t) F.entry_str_join (F.args_str_join_2 _ _) (meets_str_join_list Str.empty t p l hl) ⟨pl.isList,?_⟩;have fin:∀z:Str,z=Hb (l.map (·.1))→Q (.str z) H:=λz e=>by rw[e];exact q
 match l,oW (l.map (·.1)),fin,l1,l2 with
 |[],_,fin,_,_=>exact⟨by decide,.str Str.empty,H,I.tok _,⟨_,rfl⟩,fin _ rfl⟩
 |[y],_,fin,_,_=>exact Ψ2 (.str y.1) H ⟨I,⟨y.2,rfl⟩,fin _ (by simp[Hb])⟩
 |y::z::r,e,fin,l1,l2=>
  exact⟨?_,.str (Builtin.Str.glued Str.empty ((y::z::r).map (·.1))),H,I.tok _,⟨_,rfl⟩,fin _ e⟩;show(Builtin.Str.glued Str.empty ((y::z::r).map (·.1))).length≤sizeLine
  rw[e];have h1:=vU (B:=1000) l2;have h2:((y::z::r).map (·.1)).length*1000≤1000*1000:=Nat.mul_le_mul l1 (Ar _);lia
end
section
variable {v0: List (Addr×Obj)}{σ: St}{H: A4}{s: Shared}{h': Heap}
theorem Inv.qZ{o:HO}(I:Inv X v0 σ H s)(k:∀b u,b∉ch→s.heap.get? b=some u→h'.get? b=some u)(hf:∀b∈ch,D4 X v0 H b)(ha:s.heap.objs.size≤a)
  (new:bZ X.prog X.w (AK H a o) h' a o):Inv X v0 σ (AK H a o) {s with heap:=h',toks:=t'}:=by
 have hn:H a=none:=I.bO.fresh ha;have Bf:∀b u,H b=some u→b∉ch:=λb u e z=>by rw[(hf b z).1]at e;cases e
 exact I.step (g':=s.gens) (d':=s.drawn) (ch:=ch) (λb hb=>?_) (λb o _ _ hc e _=>k b o hc e) (λb o _ _ hc e _=>⟨o.slots,k b o hc e⟩) (λb o _ e n=>?_)
  (λb o hc e=>⟨o,k b o hc e⟩) (λb xs e=>by rw[Al (FV e hn)];exact e) (λb u v e=>by rw[Al (FV e hn)];exact e) (λb ps e=>⟨#[],by rw[Al (FV e hn),e];simp⟩) (λm hm=>?_) (λb u e=>?_) I.bare
 ·let⟨f0,f1,f2,f3,f4,f5⟩:=hf b hb
  exact⟨f3,f1,f4,f5⟩
 ·rw[Al (B3 (Dy (Aq e) ha))]
  exact n
 ·let⟨o,es,ep,ho,r⟩:=hm
  exact Ψ3 o es ep ⟨k _ o (λz=>(hf _ z).2.1 rfl) ho,r⟩
 ·by_cases hb:b=a
  ·subst hb;rw[BZ]at e;cases e;exact new
  ·rw[Al hb]at e
   exact(I.bO b u e).qH (λc v hc q=>k c v ?_ q) (λc q=>by rw[Al (FV q hn)];exact q) λc xs q=>by rw[Al (FV q hn)];exact q
   rcases hc with z|z
   ·rw[z];exact Bf b u e
   ·exact Bf c _ z
theorem Inv.yi(I:Inv X v0 σ H s)(k:∀b u,b∉ch→s.heap.get? b=some u→h'.get? b=some u)(hf:∀b∈ch,D4 X v0 H b):Inv X v0 σ H {s with heap:=h',toks:=t'}:=by
 have Bf:∀b u,H b=some u→b∉ch:=λb u e z=>by rw[(hf b z).1]at e;cases e
 exact I.step (g':=s.gens) (d':=s.drawn) (ch:=ch) (λb hb=>?_) (λb o _ _ hc e _=>k b o hc e) (λb o _ _ hc e _=>⟨o.slots,k b o hc e⟩) (λb o _ e n=>n)
  (λb o hc e=>⟨o,k b o hc e⟩) (λb xs e=>e) (λb u v e=>e) (λb ps e=>⟨#[],by rw[e];simp⟩) (λm hm=>?_) (λb u e=>?_) I.bare
 ·let⟨f0,f1,f2,f3,f4,f5⟩:=hf b hb
  exact⟨f3,f1,f4,f5⟩
 ·let⟨o,es,ep,ho,r⟩:=hm
  exact Ψ3 o es ep ⟨k _ o (λz=>(hf _ z).2.1 rfl) ho,r⟩
 ·exact(I.bO b u e).qH (λc v hc q=>k c v ?_ q) (λ_ q=>q) λ_ _ q=>q
  rcases hc with z|z
  ·rw[z];exact Bf b u e
  ·exact Bf c _ z
end
def Yt(c:Nat):V:=.str ⟨#[c]⟩
def MR(x:Str):Ep:=⟨λi _=>i<x.cps.size,λi H v H'=>H'=H∧∃c,x.cps[i]?=some c∧v=Yt c,λi _=>x.cps.size≤i⟩
theorem oB{tg:Expr}(it:Addr)(x:Str)(t:Tok)(ty:String)(Ck:ty = "str_ascii_iterator" ∨ ty = "str_iterator"):Turn P w K tg (MR x) [it] it (λi h=>h.IsStrIter it ty x t i) where
 mem:=by simp
 obj:=λi h st b hb=>by
  have e:b=it:=by simpa using hb
  subst e;let⟨o,e,c,d⟩:=st;exact⟨o,e,λv z=>by rw[d]at z;cases z⟩
 keep:=λi h h' st k=>by
  let⟨o,e,r⟩:=st;exact⟨o,k it (by simp) o e,r⟩
 item:=by
  intro X hP hw hK hc i v0 s σ H E I hf st hg;subst hP hw hK;let⟨f0,f1,f2,f3,f4,f5⟩:=hf it (by simp);have key:∀v h' tk,SignAt x i v→h'.IsStrIter it ty x t (i+1)→(∀b o,b∉[it]→s.heap.get? b=some o→h'.get? b=some o)→∃u,some v=some u∧
    wpAny (model X.prog X.w) X.A (letOwnedTupleGo tg (.ref it) u) (λ_ s2=>∃y H',Inv X v0 σ H' s2∧RelV y u∧(MR x).oK i H y H'∧s2.heap.IsStrIter it ty x t (i+1)∧∀b∈[it],H' b=none) E {s with heap:=h',toks:=tk}:=by
   intro v h' tk hv zZ kk;let⟨c,u,Cn,rfl⟩:=hv;have I1:Inv X v0 σ H {s with heap:=h',toks:=tk}:=I.turned (λb o hb e=>kk b o (by simpa using hb) e) f0 f1 f3 f4 f5;let⟨o,e,ec,ed⟩:=id zZ;exact⟨_,rfl,NA (s:={s with heap:=h',toks:=tk}) e ec ed (by rcases Ck with rfl|rfl<;>decide) ⟨Yt c,H,I1,⟨u,rfl⟩,⟨rfl,c,Cn,rfl⟩,zZ,λb hb=>(hf b hb).1⟩⟩
  rcases Ck with rfl|rfl
  ·exact(Walks.strAscii (prog:=X.prog) (w:=X.w) (I.ok.hd hc) it x t).item i s _ _ hg st key
  ·exact(Walks.strWide (prog:=X.prog) (w:=X.w) (I.ok.hd hc) it x t).item i s _ _ hg st key
 done:=by
  intro X hP hw hK hc i v0 s σ H E I hf st hg;subst hP hw hK;let⟨f0,f1,f2,f3,f4,f5⟩:=hf it (by simp);have hx:x.cps[i]?=none:=Array.getElem?_eq_none hg;rcases Ck with rfl|rfl
  ·exact wpAny_pyNext_ascii_end (I.ok.hd hc) st hx λh' eb=>⟨rfl,I.turned (t':=s.toks) (λb o hb e=>eb b o hb e) f0 f1 f3 f4 f5⟩
  ·exact wpAny_pyNext_wide_end (I.ok.hd hc) st hx λh' eb=>⟨rfl,I.turned (t':=s.toks) (λb o hb e=>eb b o hb e) f0 f1 f3 f4 f5⟩
 self:=λ_ _ _ _ _ st h=>by
  rcases Ck with rfl|rfl
  ·exact wpAny_pyIter_striter_ascii st h
  ·exact wpAny_pyIter_striter_wide st h
section
variable {tg: Expr}
def yg(tl:AO):DE:=λσ H R=>tl σ H λx H1=>∃z,x=.str z∧R (MR z) H1
theorem iu{l:Expr}{tl:AO}(hl:PE X l tl):PI X tg l (yg tl):=by
 exact .mk ?_;intro v0 s σ H R I h;exact AF (hl v0 s σ H _ I h) λv s1 ξ=>Ξ23 ξ λx H1 I1 r1 q1=>?_;let⟨z,e,q⟩:=q1;subst e;let⟨t,rfl⟩:=r1;have fin:∀ty:String,(ty = "str_ascii_iterator" ∨ ty = "str_iterator")→O7 X v0 σ tg R (.ref s1.heap.objs.size) {s1 with heap:=s1.heap.push {cls:=.type ty,data:=.fields #[.str z t,.int 0 0]}}:=by
  intro ty Ck;exact Ψ5 s1.heap.objs.size [s1.heap.objs.size] _ _ H1 ⟨rfl,I1.kept (t':=s1.toks) λb o e=>Ap _ e,oB s1.heap.objs.size z t ty Ck,⟨_,Cv _ rfl,rfl,rfl⟩,λb hb=>?_,q⟩;have e:b=s1.heap.objs.size:=by simpa using hb
  subst e;exact I1.wF (Ar _) (I1.bO.fresh (Ar _))
 cases ha:z.cps.all (· < 128)
 ·exact wpAny_pyIter_wide ha (fin _ (.inr rfl))
 ·exact wpAny_pyIter_ascii ha (fin _ (.inl rfl))
end
section
variable {prog: Program}{w: World}{A: Around}{E: Value→Shared→Prop}{s: Shared}
theorem M6{v:Value}(hj:s.heap.IsTupleIter j u i)(hu:s.heap.IsTuple u vs)(hv:vs[i]?=some v)
  (q:∀h',h'.IsTupleIter j u (i+1)→Heap.SameBut j s.heap h'→Q v {s with heap:=h'}):wpAny (model prog w) A (Builtin.SmallTypes.nextOf (.ref j)) Q E s:=by
 let⟨ob,b1,b2,b3⟩:=id hj;let⟨ou,c1,_,⟨nu,c3⟩⟩:=hu;unfold Builtin.SmallTypes.nextOf;exact A8 (JJ (name:=Str.ofString "__next__") hj.typeIs Nu (Hy Nu hj.typeIs F.entry_tuple_iterator_next ?_ (F.args_tuple_iterator_next_1 _)));show wpAny _ _ (field (.ref j) 0 >>= _) _ _ s
 exact A8 (Ei b1 b3 (x:=.ref u) rfl ?_);show wpAny _ _ (if(Value.ref u==Value.none)=true then _ else _) _ _ s
 rw[AN (show ¬((Value.ref u==Value.none)=true)from BJ)];show wpAny _ _ (field (.ref j) 1 >>= _) _ _ s
 exact A8 (Ei b1 b3 (x:=.int i 0) rfl ?_);show wpAny _ _ (seqItems? (.ref u) >>= _) _ _ s
 exact A8 (Gm c1 c3 ?_);simp only[Int.toNat_natCast,hv];exact A8 (wpAny_setField b1 b3 (by simp) (AS ⟨v,rfl,AS (q _ ?_ (YC ..))⟩));exact⟨_,Heap.get?_update_self _ b1 (Obj.isFreed_of_fields (Obj.data_mapFields b3 _)),(Obj.cls_mapFields ..).trans b2,by rw[Obj.data_mapFields b3];simp[rawInt]⟩
theorem X7(hh:A.handled=none)(hj:s.heap.IsTupleIter j u i)(hu:s.heap.IsTuple u vs)(hv:vs[i]?=none)
  (q:∀h' e,Heap.ExtBut j s.heap h'→(∃o,h'.get? e=some o∧o.cls=.type "StopIteration")→E (.ref e) {s with heap:=h'}):wpAny (model prog w) A (Builtin.SmallTypes.nextOf (.ref j)) Q E s:=by
 let⟨ob,b1,b2,b3⟩:=id hj;let⟨ou,c1,_,⟨nu,c3⟩⟩:=hu;unfold Builtin.SmallTypes.nextOf;exact A8 (JJ (name:=Str.ofString "__next__") hj.typeIs Nu (Hy Nu hj.typeIs F.entry_tuple_iterator_next ?_ (F.args_tuple_iterator_next_1 _)));show wpAny _ _ (field (.ref j) 0 >>= _) _ _ s
 exact A8 (Ei b1 b3 (x:=.ref u) rfl ?_);show wpAny _ _ (if(Value.ref u==Value.none)=true then _ else _) _ _ s
 rw[AN (show ¬((Value.ref u==Value.none)=true)from BJ)];show wpAny _ _ (field (.ref j) 1 >>= _) _ _ s
 exact A8 (Ei b1 b3 (x:=.int i 0) rfl ?_);show wpAny _ _ (seqItems? (.ref u) >>= _) _ _ s
 exact A8 (Gm c1 c3 ?_);simp only[Int.toNat_natCast,hv];exact A8 (JT (A8 (wpAny_setField b1 b3 (by simp) ?_)));show wpAny _ _ (newExc (.type "StopIteration") [] >>= _) _ _ _
 exact A8 ?_;simp only[newExc,newTuple];exact A8 (Gu ?_ (by show 0≤sizeLine;exact Fm _));exact A8 (m:=firstArgMember _ _) (wpAny_of_eq (a:=Value.none) (by first|rfl|(simp only[firstArgMember]<;>rfl)) ?_)
 exact Gu ?_ (by size_fits);simp only[raiseNew];exact A8 (wpAny_handled ?_);first|rw[show A.in1.handled=none from hh]|rw[hh]
 exact A8 (AS (wpAny_throw ?_));exact q _ _ (((YC ..).extBut.push _).push _) ⟨_,Cv _ rfl,rfl⟩
structure Apart(z p r j1 j2 u1 u2:Addr):Prop where
 pz:p≠z
 rz:r≠z
 Fh:j1≠z
 Jr:j2≠z
 pr:p≠r
 TX:p≠j1
 TV:p≠j2
 MZ:r≠j1
 MY:r≠j2
 O9:j1≠j2
 NM:u1≠z
 Xa:u1≠r
 SU:u1≠j1
 SS:u1≠j2
 QH:u2≠z
 QI:u2≠r
 JO:u2≠j1
 SR:u2≠j2
theorem J6{h h':Heap}(x:h.IsTupleIter a t i)(e:∀o,h.get? a=some o→h'.get? a=some o):h'.IsTupleIter a t i:=let⟨o,ho,r⟩:=x;⟨o,e o ho,r⟩
theorem aay{r:Addr}{x y a:Value}(D:Apart z p r j1 j2 u1 u2)
  (hz:IsZip s.heap z p r .none) (hp:IsPair s.heap p (.ref j1) (.ref j2)) (hr:IsPair s.heap r a b)
  (h1:s.heap.IsTupleIter j1 u1 i) (h2:s.heap.IsTupleIter j2 u2 i) (l1:s.heap.IsTuple u1 vs) (l2:s.heap.IsTuple u2 ws) (hx:vs[i]?=some x) (hy:ws[i]?=some y)
  (q:∀h',IsZip h' z p r (rawInt s.heap.objs.size)→IsPair h' r x y→h'.IsTupleIter j1 u1 (i+1)→h'.IsTupleIter j2 u2 (i+1)→IsPair h' s.heap.objs.size x y→h'.objs.size=s.heap.objs.size+1→
   (∀c o,c≠z→c≠r→c≠j1→c≠j2→s.heap.get? c=some o→h'.get? c=some o)→Q (.ref s.heap.objs.size) {s with heap:=h'}) :
  wpAny (model prog w) A (Builtin.«zip.__next__» ⟨[.ref z],[]⟩) (λfin s'=>∃v,fin=.done (.ret v)∧Q v s') E s:=by
 show wpAny _ _ (field (.ref z) 2 >>= _) _ _ _
 exact A8 (Ei hz rfl (x:=.bool false) rfl ?_);show wpAny _ _ (field (.ref z) 3 >>= _) _ _ _
 exact A8 (Ei hz rfl (x:=.ref p) rfl ?_);exact A8 (Gm hp rfl ?_);show wpAny _ _ (Builtin.SmallTypes.ownedTupleIsFree (.ref z) >>= _) _ _ _
 exact A8 ?_;unfold Builtin.SmallTypes.ownedTupleIsFree;exact A8 (Ei hz rfl (x:=.none) rfl (AS ?_));simp only[Gx];exact A8 (JT ?_);exact A8 (Ei hz rfl (x:=.ref r) rfl ?_);exact A8 (wpAny_setField_rec hz (by simp) λg1 z1 e1=>?_)
 replace z1:IsZip g1 z p r .ellipsis:=z1
 exact A8 ?_;simp only[List.zipIdx_cons,List.zipIdx_nil,Y8,Sj];exact A8 (A8 (NU ?_));show wpAny _ _ (Builtin.SmallTypes.nextOf (.ref j1) >>= _) _ _ _
 exact A8 (M6 (h1.extBut e1.extBut D.Fh) (l1.extBut e1.extBut D.NM) hx λg2 a2 e2=>AS ?_);have r2:IsPair g2 r a b:=e2.extBut _ _ D.MZ (e1.extBut _ _ D.rz hr);exact A8 (Gm r2 rfl ?_);exact A8 (Qt r2 λg3 r3 e3=>?_)
 replace r3:IsPair g3 r x b:=r3
 exact A8 (wpAny_letGo (AS ?_));exact A8 (A8 (NU ?_));show wpAny _ _ (Builtin.SmallTypes.nextOf (.ref j2) >>= _) _ _ _
 exact A8 (M6 (((h2.extBut e1.extBut D.Jr).extBut e2.extBut D.O9.symm).extBut e3.extBut D.MY.symm) (((l2.extBut e1.extBut D.QH).extBut e2.extBut D.JO).extBut e3.extBut D.QI) hy λg4 a4 e4=>AS ?_);have r4:IsPair g4 r x b:=e4.extBut _ _ D.MY r3;exact A8 (Gm r4 rfl ?_);exact A8 (Qt r4 λg5 r5 e5=>?_)
 replace r5:IsPair g5 r x y:=r5
 exact A8 (wpAny_letGo (AS (AS ?_)));exact A8 (Gm r5 rfl ?_);exact A8 (wpAny_newTuple ?_);have sz:g5.objs.size=s.heap.objs.size:=by rw[e5.1,e4.1,e3.1,e2.1,e1.1]
 have z5:IsZip g5 z p r .ellipsis:=e5.extBut _ _ D.rz.symm (e4.extBut _ _ D.Jr.symm (e3.extBut _ _ D.rz.symm (e2.extBut _ _ D.Fh.symm z1)));have k5:∀c o,c≠z→c≠r→c≠j1→c≠j2→s.heap.get? c=some o→g5.get? c=some o:=λc o n1 n2 n3 n4 e=>
  e5.extBut _ _ n2 (e4.extBut _ _ n4 (e3.extBut _ _ n2 (e2.extBut _ _ n3 (e1.extBut _ _ n1 e))))
 have b1:g5.IsTupleIter j1 u1 (i+1):=((a2.extBut e3.extBut D.MZ.symm).extBut e4.extBut D.O9).extBut e5.extBut D.MZ.symm;have b2:g5.IsTupleIter j2 u2 (i+1):=a4.extBut e5.extBut D.MY.symm;have zl:z<g5.objs.size:=Aq z5;show wpAny _ _ (Builtin.SmallTypes.ownedTupleHandOut (.ref z) (.ref g5.objs.size) >>= _) _ _ _
 exact A8 ?_;unfold Builtin.SmallTypes.ownedTupleHandOut;have z6:IsZip (g5.push {cls:=.type "tuple",data:=.seq #[x,y]}) z p r .ellipsis:=Ap _ z5;exact A8 (wpAny_setField_rec z6 (by simp) λg7 z7 e7=>?_)
 replace z7:IsZip g7 z p r (rawInt g5.objs.size):=z7
 exact wpAny_setField_rec z7 (by simp) λg8 z8 e8=>?_
 replace z8:IsZip g8 z p r (rawInt g5.objs.size):=z8
 have A9:∀c o,c≠z→g5.get? c=some o→g8.get? c=some o:=λc o n1 e=>e8.extBut _ _ n1 (e7.extBut _ _ n1 (Ap _ e));have t8:IsPair g8 g5.objs.size x y:=e8.extBut _ _ (Lo zl) (e7.extBut _ _ (Lo zl) (Cv _ rfl));have s8:g8.objs.size=g5.objs.size+1:=by rw[e8.1,e7.1,FL]
 rw[sz]at z8 t8 s8;exact AS ⟨_,rfl,?_⟩;show Q (.ref g5.objs.size) _
 rw[sz];exact q g8 z8 (A9 _ _ D.rz r5) (J6 b1 λo e=>A9 _ o D.Fh e) (J6 b2 λo e=>A9 _ o D.Jr e) t8 s8 λc o n1 n2 n3 n4 e=>A9 c o n1 (k5 c o n1 n2 n3 n4 e)
theorem yy{r:Addr}{a:Value}{Q:Fin→Shared→Prop}(hh:A.handled=none)(D:Apart z p r j1 j2 u1 u2)
  (hz:IsZip s.heap z p r .none) (hp:IsPair s.heap p (.ref j1) (.ref j2)) (hr:IsPair s.heap r a b)
  (h1:s.heap.IsTupleIter j1 u1 i) (h2:s.heap.IsTupleIter j2 u2 i) (l1:s.heap.IsTuple u1 vs) (l2:s.heap.IsTuple u2 ws) (Iw:vs[i]?=none∨ws[i]?=none)
  (q:∀h' e,(∀c o,c≠z→c≠r→c≠j1→c≠j2→s.heap.get? c=some o→h'.get? c=some o)→(∃o,h'.get? e=some o∧o.cls=.type "StopIteration")→E (.ref e) {s with heap:=h'}) :
  wpAny (model prog w) A (Builtin.«zip.__next__» ⟨[.ref z],[]⟩) Q E s:=by
 show wpAny _ _ (field (.ref z) 2 >>= _) _ _ _
 exact A8 (Ei hz rfl (x:=.bool false) rfl ?_);show wpAny _ _ (field (.ref z) 3 >>= _) _ _ _
 exact A8 (Ei hz rfl (x:=.ref p) rfl ?_);exact A8 (Gm hp rfl ?_);show wpAny _ _ (Builtin.SmallTypes.ownedTupleIsFree (.ref z) >>= _) _ _ _
 exact A8 ?_;unfold Builtin.SmallTypes.ownedTupleIsFree;exact A8 (Ei hz rfl (x:=.none) rfl (AS ?_));simp only[Gx];exact A8 (JT ?_);exact A8 (Ei hz rfl (x:=.ref r) rfl ?_);exact A8 (wpAny_setField_rec hz (by simp) λg1 z1 e1=>?_)
 replace z1:IsZip g1 z p r .ellipsis:=z1
 exact A8 ?_;simp only[List.zipIdx_cons,List.zipIdx_nil,Y8,Sj];exact A8 (A8 (NU ?_));show wpAny _ _ (Builtin.SmallTypes.nextOf (.ref j1) >>= _) _ _ _
 cases hx:vs[i]? with
 |none=>
  exact A8 (X7 hh (h1.extBut e1.extBut D.Fh) (l1.extBut e1.extBut D.NM) hx λg2 e e2 he=>?_);let⟨oe,IA,Iz⟩:=he;have z2:IsZip g2 z p r .ellipsis:=e2 _ _ D.Fh.symm z1;have OZ:e≠z:=λx=>by subst x;rw[z2]at IA;cases IA;simp at Iz
  exact wpAny_setField_rec z2 (by simp) λg3 _ e3=>q g3 e (λc o n1 _ n3 _ x=>e3.extBut _ _ n1 (e2 _ _ n3 (e1.extBut _ _ n1 x))) ⟨oe,e3.extBut _ _ OZ IA,Iz⟩
 |some x=>
  have hy:ws[i]?=none:=by rcases Iw with h|h;rw[hx]at h;cases h;exact h
  exact A8 (M6 (h1.extBut e1.extBut D.Fh) (l1.extBut e1.extBut D.NM) hx λg2 a2 e2=>AS ?_);have r2:IsPair g2 r a b:=e2.extBut _ _ D.MZ (e1.extBut _ _ D.rz hr);exact A8 (Gm r2 rfl ?_);exact A8 (Qt r2 λg3 r3 e3=>?_);exact A8 (wpAny_letGo (AS ?_));exact A8 (A8 (NU ?_));show wpAny _ _ (Builtin.SmallTypes.nextOf (.ref j2) >>= _) _ _ _
  exact A8 (X7 hh (((h2.extBut e1.extBut D.Jr).extBut e2.extBut D.O9.symm).extBut e3.extBut D.MY.symm) (((l2.extBut e1.extBut D.QH).extBut e2.extBut D.JO).extBut e3.extBut D.QI) hy λg4 e e4 he=>?_);let⟨oe,IA,Iz⟩:=he;have z4:IsZip g4 z p r .ellipsis:=e4 _ _ D.Jr.symm (e3.extBut _ _ D.rz.symm (e2.extBut _ _ D.Fh.symm z1));have OZ:e≠z:=λx=>by subst x;rw[z4]at IA;cases IA;simp at Iz
  exact wpAny_setField_rec z4 (by simp) λg5 _ e5=>q g5 e (λc o n1 n2 n3 n4 x=>e5.extBut _ _ n1 (e4 _ _ n4 (e3.extBut _ _ n2 (e2.extBut _ _ n3 (e1.extBut _ _ n1 x))))) ⟨oe,e5.extBut _ _ OZ IA,Iz⟩
end
def Mw(K:W.Frag)(a b:Addr):Ep:=
  ⟨λi H=>∃xs ys x y,dW K H a xs∧dW K H b ys∧xs[i]?=some x∧ys[i]?=some y,
   λi H v H'=>∃p x y,H p=none∧v=.ref p∧H'=AK H p (.tup [x,y])∧(∀xs,dW K H a xs→xs[i]?=some x)∧(∀ys,dW K H b ys→ys[i]?=some y),
   λi H=>∃xs ys,dW K H a xs∧dW K H b ys∧(xs.length≤i∨ys.length≤i)⟩
theorem y0{elts:List Expr}{kk:Nat}(a b z p r j1 j2:Addr)(D:Apart z p r j1 j2 a b):
  Turn P w K (.Tuple elts kk pos) (Mw K a b) [z,p,r,j1,j2] z (λi h=>IsZip h z p r .none∧IsPair h p (.ref j1) (.ref j2)∧(∃u v,IsPair h r u v)∧h.IsTupleIter j1 a i∧h.IsTupleIter j2 b i) where
 mem:=by simp
 obj:=λi h st c hc=>by
  let⟨hz,hp,⟨u,v,hr⟩,⟨o1,e1,_,d1⟩,⟨o2,e2,_,d2⟩⟩:=st;simp only[XO,CN,EP]at hc;rcases hc with rfl|rfl|rfl|rfl|rfl
  ·exact⟨_,hz,λv z=>by have z':Data.fields _=Data.cell v:=z;cases z'⟩
  ·exact⟨_,hp,λv z=>by have z':Data.seq _ _=Data.cell v:=z;cases z'⟩
  ·exact⟨_,hr,λv z=>by have z':Data.seq _ _=Data.cell v:=z;cases z'⟩
  ·exact⟨o1,e1,λv z=>by rw[d1]at z;cases z⟩
  ·exact⟨o2,e2,λv z=>by rw[d2]at z;cases z⟩
 keep:=λi h h' st k=>by
  let⟨hz,hp,⟨u,v,hr⟩,h1,h2⟩:=st;exact⟨k z (by simp) _ hz,k p (by simp) _ hp,Ψ2 u v (k r (by simp) _ hr),J6 h1 λo e=>k j1 (by simp) o e,J6 h2 λo e=>k j2 (by simp) o e⟩
 item:=by
  intro X hP hw hK hc i v0 s σ H E I hf st hg;subst hP hw hK;let⟨hz,hp,⟨u,v,hr⟩,h1,h2⟩:=st;let⟨xs,ys,x,y,D8,Js,hx,hy⟩:=hg;let⟨bj,rv,pl,_⟩:=I.tuple D8;let⟨lB,vN,tJ,_⟩:=I.tuple Js;let⟨Bo,ex,rx⟩:=rv.get hx;let⟨vy,ey,ry⟩:=vN.get hy;have hT:s.TypeIs (.ref z) "zip" :=⟨_,hz,rfl⟩;have n0:H s.heap.objs.size=none:=I.bO.fresh (Ar _);unfold pyNext;exact A8 (wpAny_attempt (JJ (name:=Str.ofString "__next__") hT N5 (Hy N5 hT F.entry_zip_next
   (aay D hz hp hr h1 h2 pl tJ (by simpa using ex) (by simpa using ey) λg a1 a2 a3 a4 a5 a6 a7=>AS ?_) (F.args_zip_next_1 _))))
  exact⟨_,rfl,?_⟩;exact wpAny_letOwnedTupleGo_zip a1 λg2 b1 b2=>?_;have zl:z<s.heap.objs.size:=Aq hz;have lt:∀c∈[z,p,r,j1,j2],c<s.heap.objs.size:=λc hc=>by
   simp only[XO,CN,EP]at hc;let⟨_,q1,_⟩:=h1;let⟨_,q2,_⟩:=h2;rcases hc with rfl|rfl|rfl|rfl|rfl
   ·exact zl
   ·exact Aq hp
   ·exact Aq hr
   ·exact Aq q1
   ·exact Aq q2
  exact Ψ2 (.ref s.heap.objs.size) (AK H s.heap.objs.size (.tup [x,y])) ⟨?_,rfl,Ψ3 _ x y ⟨n0,rfl,rfl,λzs LN=>by rw[I.ke LN D8];exact hx,λzs LN=>by rw[I.ke LN Js];exact hy⟩,⟨b1,?_,Ψ2 Bo vy ?_,?_,?_⟩,λc hc=>?_⟩
  ·exact I.qZ (t':=s.toks) (ch:=[z,r,j1,j2]) (λc o hc e=>?_) (λc hc=>hf c ?_) (Ar _) ⟨by show 2≤sizeLine;decide,[Bo,vy],.cons rx (.cons ry .nil),?_⟩
   ·simp only[XO,CN,EP,not_or]at hc
    exact b2.extBut _ _ hc.1 (a7 c o hc.1 hc.2.1 hc.2.2.1 hc.2.2.2 e)
   ·simp only[XO,CN,EP]at hc ⊢
    rcases hc with rfl|rfl|rfl|rfl<;>simp
   ·exact⟨_,b2.extBut _ _ (Lo zl) a5,rfl,0,rfl⟩
  ·exact b2.extBut _ _ D.pz (a7 _ _ D.pz D.pr D.TX D.TV hp)
  ·exact b2.extBut _ _ D.rz a2
  ·exact a3.extBut b2.extBut D.Fh
  ·exact a4.extBut b2.extBut D.Jr
  ·rw[Al (B3 (lt c hc))]
   exact(hf c hc).1
 done:=by
  intro X hP hw hK hc i v0 s σ H E I hf st hg;subst hP hw hK;let⟨hz,hp,⟨u,v,hr⟩,h1,h2⟩:=st;let⟨xs,ys,D8,Js,he⟩:=hg;let⟨bj,rv,pl,_⟩:=I.tuple D8;let⟨lB,vN,tJ,_⟩:=I.tuple Js;have l1:=rv.length;have l2:=vN.length;have Iw:bj.toArray[i]?=none∨lB.toArray[i]?=none:=he.imp (λe=>by simp;lia) (λe=>by simp;lia);have hT:s.TypeIs (.ref z) "zip" :=⟨_,hz,rfl⟩;unfold pyNext;exact A8 (wpAny_attempt (JJ (name:=Str.ofString "__next__") hT N5 (Hy N5 hT F.entry_zip_next
   (yy (I.ok.hd hc) D hz hp hr h1 h2 pl tJ Iw λg e kk he=>?_) (F.args_zip_next_1 _))))
  let⟨o,ho,U1⟩:=he;exact A8 (wpAny_isInstance (T := "StopIteration") (b:=true) ⟨o,ho,U1⟩ isSubtype_stop ?_);exact AS ⟨rfl,I.yi (t':=s.toks) (ch:=[z,r,j1,j2]) (λc o hc e=>?_) (λc hc=>hf c ?_)⟩
  ·simp only[XO,CN,EP,not_or]at hc
   exact kk c o hc.1 hc.2.1 hc.2.2.1 hc.2.2.2 e
  ·simp only[XO,CN,EP]at hc ⊢
   rcases hc with rfl|rfl|rfl|rfl<;>simp
 self:=λ_ _ _ _ _ st h=>wpAny_pyIter_zip st.1 h
abbrev Lr(h:Heap)(a:Addr):Heap:=h.push {cls:=.type "tuple_iterator",data:=.fields #[.ref a,.int 0 0]}
abbrev MA(h:Heap)(a b:Addr):Heap:=(Lr h a).push {cls:=.type "tuple_iterator",data:=.fields #[.ref b,.int 0 0]}
abbrev Mq(h:Heap)(a b:Addr):Heap:=(MA h a b).push {cls:=.type "tuple",data:=.seq #[.ref h.objs.size,.ref (Lr h a).objs.size]}
abbrev Mg(h:Heap)(a b:Addr):Heap:=(Mq h a b).push {cls:=.type "tuple",data:=.seq #[.none,.none]}
abbrev JI(h:Heap)(a b:Addr):Heap:=(Mg h a b).push {cls:=.type "zip",data:=.fields #[.none,.bool false,.bool false,.ref (MA h a b).objs.size,.ref (Mq h a b).objs.size]}
theorem oM(a b:Addr)(vs ws:Array Value):
  Meets (Builtin.«zip.__new__» ⟨[.type "zip",.ref a,.ref b],[]⟩) (λ_ R s=>s.heap.IsTuple a vs∧s.heap.IsTuple b ws∧R (.ok (.ret (.ref (Mg s.heap a b).objs.size))) {s with heap:=JI s.heap a b}):=
 .of_wp λprog w A R s h=>by
  obtain⟨hp,g,d,tk,os⟩:=s;obtain⟨la,lb,h⟩:=h;have Pn:=sub_zip;have L1:Heap.IsTuple (Shared.heap ⟨hp,g,d,tk,os⟩) a vs:=la;have L2:Heap.IsTuple (Shared.heap ⟨hp.push {cls:=.type "tuple_iterator",data:=.fields #[.ref a,.int 0 0]},g,d,tk,os⟩) b ws:=Heap.IsTuple.push lb _
  wp_walk using JU L1,JU L2
  exact⟨_,rfl,h⟩
theorem zD{b:Addr}(la:s.heap.IsTuple a vs)(lb:s.heap.IsTuple b ws)
  (q:∀h',IsZip h' (s.heap.objs.size+4) (s.heap.objs.size+2) (s.heap.objs.size+3) .none→IsPair h' (s.heap.objs.size+2) (.ref s.heap.objs.size) (.ref (s.heap.objs.size+1))→
   IsPair h' (s.heap.objs.size+3) .none .none→h'.IsTupleIter s.heap.objs.size a 0→h'.IsTupleIter (s.heap.objs.size+1) b 0→(∀c o,s.heap.get? c=some o→h'.get? c=some o)→Q (.ref (s.heap.objs.size+4)) {s with heap:=h'}) :
  wpAny (model prog w) A (call (.type "zip") [.ref a,.ref b]) Q E s:=by
 exact callType_new F.called_zip (by decide) (F.typeCall_zip_2 _ _) (F.newCall_zip_2 _ _) (λobj=>F.args_object_init_3 obj _ _) F.entry_zip_new (oM a b vs ws) ⟨la,lb,?_⟩;have z1:(Lr s.heap a).objs.size=s.heap.objs.size+1:=FL ..;have z2:(MA s.heap a b).objs.size=s.heap.objs.size+2:=by rw[FL,z1]
 have z3:(Mq s.heap a b).objs.size=s.heap.objs.size+3:=by rw[FL,z2]
 have z4:(Mg s.heap a b).objs.size=s.heap.objs.size+4:=by rw[FL,z3]
 have g5:(JI s.heap a b).get? (Mg s.heap a b).objs.size=some _:=Cv _ rfl;have g4:(JI s.heap a b).get? (Mq s.heap a b).objs.size=some _:=Ap _ (Cv _ rfl);have g3:(JI s.heap a b).get? (MA s.heap a b).objs.size=some _:=Ap _ (Ap _ (Cv _ rfl));have g2:(JI s.heap a b).get? (Lr s.heap a).objs.size=some _:=Ap _ (Ap _ (Ap _ (Cv _ rfl)));have g1:(JI s.heap a b).get? s.heap.objs.size=some _:=Ap _ (Ap _ (Ap _ (Ap _ (Cv _ rfl))));show _∧_
 rw[z2,z3,z4]at g5;rw[z1,z2]at g3;rw[z3]at g4;rw[z1]at g2;rw[z4];exact⟨⟨_,g5,rfl⟩,q _ g5 g3 g4 ⟨_,g1,rfl,rfl⟩ ⟨_,g2,rfl,rfl⟩ λc o x=>Ap _ (Ap _ (Ap _ (Ap _ (Ap _ x))))⟩
theorem apart_new{n b:Addr}(ha:a<n)(hb:b<n):Apart (n+4) (n+2) (n+3) n (n+1) a b:=by
 have ne:∀i j:Nat,i≠j→(Nat.add n i:Addr)≠Nat.add n j:=λi j h e=>h (Nat.add_left_cancel e);have lo:∀(c:Addr) (i:Nat),c<n→c≠Nat.add n i:=λc i h=>B3 (Dy h (Nat.le_add_right n i));exact⟨ne 2 4 (by decide),ne 3 4 (by decide),ne 0 4 (by decide),ne 1 4 (by decide),ne 2 3 (by decide),ne 2 0 (by decide),ne 2 1 (by decide),ne 3 0 (by decide),ne 3 1 (by decide),ne 0 1 (by decide),
  lo a 4 ha,lo a 3 ha,lo a 0 ha,lo a 1 ha,lo b 4 hb,lo b 3 hb,lo b 0 hb,lo b 1 hb⟩
section
variable {elts: List Expr}{kk: Nat}{rL: Pos}
def aah(K:W.Frag)(ta:Bq):DE:=λσ H R=>ta σ H λvs H1=>∃a b xs ys,vs=[.ref a,.ref b]∧dW K H1 a xs∧dW K H1 b ys∧R (Mw K a b) H1
theorem cj{a b:Expr}{ta:Bq}{p:Pos}(hg:BP X "zip")(hm:X.mg "zip" = none)(ha:PA X [a,b] ta)(hs:starEach [a,b] X.env=[(false,eval a X.env),(false,eval b X.env)]:=by rfl)(qS:starEach [b] X.env=[(false,eval b X.env)]:=by rfl):
  PI X (.Tuple elts kk rL) (.Call (.Name "zip" p) [a,b] [] pos) (aah X.K ta):=by
 exact .mk ?_;intro v0 s σ H R I h;exact Call_ (Jh I hg hm boot_zip (N1 (AF (ha pos v0 s σ H _ I h) λus s1 ξ=>Ξ23 ξ λvs H1 I1 r1 q1=>?_) (by rw[hs,qS]) (by rw[qS];rfl)));let⟨u1,u2,xs,ys,e,hx,hy,q⟩:=q1;subst e;cases r1 with
 |cons r rr=>
  cases rr with
  |cons r' rr=>
   cases rr;cases r;cases r';let⟨bj,rv,pl,_⟩:=I1.tuple hx;let⟨lB,vN,tJ,_⟩:=I1.tuple hy;let⟨o1,e1,_⟩:=id pl;let⟨o2,e2,_⟩:=id tJ;exact zD pl tJ λh' hz hp hr j1 j2 k=>?_;exact wpAny_pyIter_zip hz ?_;exact Ψ5 (s1.heap.objs.size+4) [s1.heap.objs.size+4,s1.heap.objs.size+2,s1.heap.objs.size+3,s1.heap.objs.size,s1.heap.objs.size+1] _ _ H1 ⟨rfl,I1.kept (t':=s1.toks) k,y0 u1 u2 _ _ _ _ _ (apart_new (Aq e1) (Aq e2)),⟨hz,hp,Ψ2 _ _ hr,j1,j2⟩,λc hc=>?_,q⟩;have Cn:s1.heap.objs.size≤c:=by
    simp only[XO,CN,EP]at hc;rcases hc with rfl|rfl|rfl|rfl|rfl<;>first|exact Ar _|exact Nat.le_add_right _ _
   exact I1.wF Cn (I1.bO.fresh Cn)
end
end L2
namespace L2
open PySem PySem.Spec PyProof.Rows
variable {prog P:Program}{w:World}{A:Around}{s:Shared}{scope: Scope}{pos:Pos}{X: Cx}{cl: List (Str×Addr)}{own: List Str}{cap: List (Nat×Str)}
theorem yE(elt target iter:Expr)(ifs:List Expr)(scope:Scope)(pos:Pos)(it acc:Value)(env:Env):
  compTurn (.SetComp elt [⟨target,iter,ifs,0⟩] scope pos) 0 it acc env=(do
   standAt iter.pos
   match ←pyNext it with
   |none=>pure (.done .next)
   |some v=>
    letOwnedTupleGo target it v
    assign target env v
    let mut ok:=true
    for c in ifs do
     if ok then ok ←isTrue c env (eval c env)
    if ok then
     (do let v ←eval elt env;standAt elt.pos;let _ ←call (.builtin "set.add") [acc,v])
    again (.compLoop (.SetComp elt [⟨target,iter,ifs,0⟩] scope pos) 0 it acc env)):=by rfl
theorem Zy{R:Result→Shared→Prop}{elt target iter ifs v4 scope pos it acc env}
  (h0:codeAny (model prog w) A (.compLoop (.SetComp elt (⟨target,iter,ifs,0⟩::v4) scope pos) 0 it acc env) R s)
  (h:wpAny (model prog w) A (pyIter it) (λPa s'=>codeAny (model prog w) A (.compLoop (.SetComp elt (⟨target,iter,ifs,0⟩::v4) scope pos) 0 Pa acc env) R s')
   (notedBy (model prog w) A env λx s'=>R (.error x) s') s) :
  codeAny (model prog w) A (.compStart (.SetComp elt (⟨target,iter,ifs,0⟩::v4) scope pos) 0 it acc env) R s:=by
 exact codeAny_of_tree ?_;show wpAny _ _ ((compStart (.SetComp elt (⟨target,iter,ifs,0⟩::v4) scope pos) 0 it acc env).onRaise (λx=>do noteFrame x env;standAt theWindowsPlace)) _ _ s
 exact wpAny_notedAt ?_;unfold compStart;show wpAny _ _ (ask >>= _) _ _ s
 exact A8 (wpAny_askSetting (wpAny_ite ?_));split
 ·first
   |exact A8 (AS (AS (And.intro rfl h0)))
   |exact AS (And.intro rfl h0)
 ·first
   |exact A8 (JT (A8 (GS (A8 (BF h (λPa s' h'=>AS (And.intro rfl h')) λ_ _ x=>x)))))
   |(exact A8 (JT ?_);show wpAny _ _ (standAt iter.pos >>= _) _ _ s;exact A8 (GS (A8 (BF h (λPa s' h'=>AS (And.intro rfl h')) λ_ _ x=>x))))
theorem eK{R:Result→Shared→Prop}{elt target iter:Expr}{scope:Scope}{it acc:Value}{env:Env}(I:Nat→Shared→Prop)
  (turn:∀n s,I n s→wpAny (model prog w) A (pyNext it) (λr s₁=>match r with
   |none=>R (.ok .next) s₁
   |some v=>wpAny (model prog w) A (letOwnedTupleGo target it v) (λ_ zY=>wpAny (model prog w) A (assign target env v) (λ_ s₂=>
      wpAny (model prog w) A (eval elt env) (λx s₄=>
       wpAny (model prog w) A (call (.builtin "set.add") [acc,x]) (λ_ s₅=>∃m,m<n∧I m s₅) (notedBy (model prog w) A env λe s'=>R (.error e) s') s₄) (notedBy (model prog w) A env λe s'=>R (.error e) s') s₂) (notedBy (model prog w) A env λe s'=>R (.error e) s') zY) (notedBy (model prog w) A env λe s'=>R (.error e) s') s₁) (notedBy (model prog w) A env λe s'=>R (.error e) s') s)
  (n:Nat) (h:I n s) :
  codeAny (model prog w) A (.compLoop (.SetComp elt [⟨target,iter,[],0⟩] scope pos) 0 it acc env) R s:=by
 exact M1 rfl I (λn s hI=>?_) n h;show wpAny _ A ((compTurn (.SetComp elt [⟨target,iter,[],0⟩] scope pos) 0 it acc env).onRaise (λx=>do noteFrame x env;theTreesLotGoes x)) _ _ s
 exact wpAny_noted ?_;rw[yE];exact A8 (GS (A8 (BF (turn n s hI) (λr s₁ h₁=>?_) λ_ _ h'=>h')));cases r with
 |none=>exact AS h₁
 |some v=>
  exact A8 (BF h₁ (λ_ zY Ii=>?_) λ_ _ h'=>h');exact A8 (BF Ii (λ_ s₂ h₂=>A8 (wpAny_tests_nil ?_)) λ_ _ h'=>h');exact A8 (A8 (BF h₂ (λx s₄ h₄=>A8 (GS (A8 (BF h₄ (λ_ s₅ h₅=>AS (AS ⟨rfl,h₅⟩)) λ_ _ h'=>h')))) λ_ _ h'=>h'))
def setAt(P:Program)(w:World)(a:Addr)(S:Str→Bool)(n:Nat):Heap→Prop:=λh=>h.SetOf (strKind P w) a S n
theorem aO{H:A4}{h:Heap}{a:Addr}{S:Str→Bool}{n:Nat}(q:h.SetOf (strKind P w) a S n):bZ P w H h a (.ext (setAt P w a S n)):=by
 exact⟨q,?_,λh1 h2 q1 k=>?_⟩
 ·let⟨o,_,_,_,e,_⟩:=q
  exact⟨o,e⟩
 ·let⟨o,es,ep,t,e,r⟩:=q1
  exact Ψ4 o es ep t ⟨k o e,r⟩
section
variable {v0: List (Addr×Obj)}{σ: St}{H: A4}{s: Shared}{fp: List Addr}{E: Value→Shared→Prop}
theorem MS{o:HO}(c:di X scope cl own cap)(I:Inv X v0 σ H s)(hf:∀b∈fp,D4 X v0 H b)(dk:∀b∈fp,b<s.heap.objs.size){h₁:Heap}{tk:Nat}{m:KK}
  (hk:∀b o,s.heap.get? b=some o→h₁.get? b=some o) (Ip:bZ X.prog X.w (AK H s.heap.objs.size o) h₁ s.heap.objs.size o) (hn:h₁.Ns (s.heap.objs.size+1) m) :
  Inv (BE X (own++cap.map (·.2)) scope cl (s.heap.objs.size+1) s H fp E) [] (Ex own cap σ) (AK H s.heap.objs.size o) {s with heap:=h₁,toks:=tk}:=by
 have Eb:H s.heap.objs.size=none:=I.fresh;have Ir:H (s.heap.objs.size+1)=none:=I.bO.fresh (BO _);exact⟨FY c I hf dk (BO _),rfl,I.bare,Un.laid hk (Ar _) Eb,⟨m,hn,λi x v e1 e2 _=>?_⟩,λx a e=>?_,?_,λx a e=>?_,λp hp=>absurd (show p∈([]:ac)from hp) (by simp),I.bO.laid hk (Ar _) Ip,?_⟩
 ·let⟨p,hp,ex,es⟩:=ZP e1 e2
  let⟨q1,q2,q3,q4,q5⟩:=c.Er p hp;rw[ex]at q1 q2 q3 q4 q5;let⟨m',Py,hl⟩:=I.loc;let⟨u,r,l⟩:=hl p.1 x v q1 es q2;exact⟨u,r,?_⟩;rcases l with l|⟨k,a,e,z⟩
  ·exact absurd l.1 q3
  ·let⟨a',e'⟩:=c.IE x q5
   have ea:=c.sub x a' e';rw[e]at ea;cases ea;exact .inr ⟨q5,a,e',z.keeps hk⟩
 ·let⟨v,z⟩:=I.cell x a (c.sub x a e)
  exact⟨v,z.keeps hk⟩
 ·show AK H s.heap.objs.size o (s.heap.objs.size+1)=none
  rw[Al (Ot _)];exact Ir
 ·let⟨v,z⟩:=I.cell x a (c.sub x a e)
  show AK H s.heap.objs.size o a=none
  rw[Al (B3 z.lt)];exact I.gU x a (c.sub x a e)
 ·show(Ex own cap σ).length=(own++cap.map (·.2)).length
  simp[Ex]
end
def more(S:Str→Bool)(n:Nat)(k:Str):Nat:=if S k then n else n+1
def gj(P:Program)(w:World)(wi:DE)(g:DB)(te:AO)(own:List Str)(cap:List (Nat×Str)):AO:=λσ H Q=>wi σ H λJ H1=>∀D,H1 D=none→
 ∃W:Nat→Nat→St→(Str→Bool)→Nat→A4→Prop,(∃m,W 0 m (Ex own cap σ) (λ_=>false) 0 (AK H1 D (.ext (setAt P w D (λ_=>false) 0))))∧∀i m σ' S n H',W i m σ' S n H'→H' D=some (.ext (setAt P w D S n))∧
  ((J.stop i H'∧Q (.ref D) H')∨(J.go i H'∧n<1000∧∃N:St→(Str→Bool)→Nat→A4→Prop,(∀σ S n H,N σ S n H→∃m',m' < m∧W (i+1) m' σ S n H)∧∀x H2,J.oK i H' x H2→g x σ' H2 λσ3 H3=>te σ3 H3 λy H5=>∃k,y=.str k∧H5 D=some (.ext (setAt P w D S n))∧
   N σ3 (λk'=>S k'||decide (k'=k)) (more S n k) (AK H5 D (.ext (setAt P w D (λk'=>S k'||decide (k'=k)) (more S n k))))))
section
variable {tg iter elt: Expr}{wi: DE}{g: DB}{te: AO}{pos: Pos}
theorem yY(c:di X scope cl own cap)(hc:X.calm=true)(hi:PI X tg iter wi)
  (hg:∀C s H fp,PG (BE X (own++cap.map (·.2)) scope cl C s H fp λ_ _=>False) tg g)
  (he:∀C s H fp,PE (BE X (own++cap.map (·.2)) scope cl C s H fp λ_ _=>False) elt te) (hs:∀x,foldedSetIterable iter X.env x=pure x:=by intro _;rfl) :
  PE X (.SetComp elt [⟨tg,iter,[],0⟩] scope pos) (gj X.prog X.w wi g te own cap):=by
 exact .mk ?_;intro v0 s σ H Q I h;show wpAny _ X.A (comprehension (.SetComp elt [⟨tg,iter,[],0⟩] scope pos) scope X.env _ (newSet (.type "set")) false (eval iter X.env)) _ _ s
 exact Ka (use:=none) rfl hs c.wQ c.kind c.names (AF (hi v0 s σ H _ I h) λv s1 h1=>AF h1 λIa s2 h2=>?_);let⟨it,fp,tn,J,H2,e,I2,T,nG,f2,hw⟩:=h2;subst e;exact wpAny_newSet_of (knd:=strKind X.prog X.w) λled hS=>KZ c.cell (by intro y hy;simp at hy) (λh₁ gR fY=>?_) c.kind;dsimp only at gR fY ⊢;generalize hO:({cls:=.type "set",dict:=none,data:=.set #[] 0 (.fresh 0 0 led)}:Obj)=O at hS gR fY ⊢;have hsz:(s2.heap.push O).objs.size=s2.heap.objs.size+1:=FL _ _;have kk:∀b o,s2.heap.get? b=some o→h₁.get? b=some o:=λb o e=>fY.extBut b o (by rw[hsz];exact B3 (Gl (Aq e))) (Ap _ (Ap _ e));have IF:h₁.SetOf (strKind X.prog X.w) s2.heap.objs.size (λ_=>false) 0:=by
  let⟨o,es,ep,t,e,r⟩:=hS;exact Ψ4 o es ep t ⟨fY.extBut _ _ (by rw[hsz];exact B3 (Hq _)) (Ap _ e),r⟩
 rw[hsz]at gR ⊢;have dk:∀b∈fp,b<s2.heap.objs.size:=λb hb=>by
  let⟨o,e,_⟩:=T.obj _ _ nG b hb;exact Aq e
 let⟨W,⟨m0,w0⟩,turn⟩:=hw s2.heap.objs.size I2.fresh;have J1:=MS (E:=λ_ _=>False) c I2 f2 dk (tk:=s2.toks+([]:List (Str×Value)).length) kk (aO IF) gR;generalize eJ:BE X (own++cap.map (·.2)) scope cl (s2.heap.objs.size+1) s2 H2 fp (λ_ _=>False)=X' at J1;have Ea:PG X' tg g:=eJ ▸ hg _ _ _ _;have LZ:PE X' elt te:=eJ ▸ he _ _ _ _;have pX:X'.prog=X.prog:=by rw[←eJ];rfl
 have wX:X'.w=X.w:=by rw[←eJ];rfl
 have kX:X'.K=X.K:=by rw[←eJ];rfl
 have aX:X'.A=X.A:=by rw[←eJ];rfl
 have cX:X'.calm=true:=by rw[←eJ];exact hc
 have nX:X'.env=compEnvC scope cl (s2.heap.objs.size+1) X.env:=by rw[←eJ];rfl
 have xX:X'.xe=λ_ _=>False:=by rw[←eJ];rfl
 have fX:∀b∈fp,∀{H':A4},H' b=none→D4 X' [] H' b:=λb hb {H'} hn=>by
  have o1:=(FY (E:=λ_ _=>False) c I2 f2 dk (C:=s2.heap.objs.size+1) (BO _)).Cq b hb;have o2:=(FY (E:=λ_ _=>False) c I2 f2 dk (C:=s2.heap.objs.size+1) (BO _)).oF b hb;rw[←eJ];exact⟨hn,o1.1,o2,.inl hb,o1.2,λp hp=>absurd (show p∈([]:ac)from hp) (by simp)⟩
 have Ec:∀D C s' H' m,Inv X v0 σ H' s'→D4 X v0 H' C→s'.heap.Ns C m→Q (.ref D) H'→compPost (model X.prog X.w) X.A X.xe none (BD X v0 σ Q) (.ref D) C (.ok .next) s':=by
  intro D C s' H' m I' hC hm q;exact⟨m,hm,λh' hG=>Ψ2 (.ref D) H' ⟨?_,rfl,q⟩⟩;exact I'.turned (t':=s'.toks) (λb o hb e=>(hG.2 b hb).trans e) hC.1 hC.2.1 hC.2.2.2.1 hC.2.2.2.2.1 hC.2.2.2.2.2
 have fin:∀{σ':St} {H':A4} {s':Shared},Inv X' [] σ' H' s'→Q (.ref s2.heap.objs.size) H'→compPost (model X.prog X.w) X.A X.xe none (BD X v0 σ Q) (.ref s2.heap.objs.size) (s2.heap.objs.size+1) (.ok .next) s':=λ{σ' H' s'} J' q=>by
  rw[←eJ]at J';let⟨A1,A2⟩:=KS I2 f2 (BO _) J';let⟨m,hm,_⟩:=J'.loc;exact Ec _ _ s' H' m A1 A2 hm q
 have loop:codeAny (model X.prog X.w) X.A (.compLoop (.SetComp elt [⟨tg,iter,[],0⟩] scope pos) 0 (.ref it) (.ref s2.heap.objs.size) (compEnvC scope cl (s2.heap.objs.size+1) X.env)) (compPost (model X.prog X.w) X.A X.xe none (BD X v0 σ Q) (.ref s2.heap.objs.size) (s2.heap.objs.size+1))
   {s2 with heap:=h₁,toks:=s2.toks+([]:List (Str×Value)).length}:=by
  exact eK (λn s'=>∃i σ' S z H',Inv X' [] σ' H' s'∧tn i s'.heap∧(∀b∈fp,H' b=none)∧W i n σ' S z H') ?_ m0
   ⟨0,_,_,0,_,J1,T.keep _ _ _ nG λb _ o e=>kk b o e,λb hb=>by rw[Al (B3 (dk b hb))];exact(f2 b hb).1,w0⟩
  intro n s3⟨i,σ3,S,z,H3,I3,tN,uA,w3⟩;let⟨Nl,w4⟩:=turn i n σ3 S z H3 w3;rw[←nX,←aX,←pX,←wX];have h8:∀{α:Type} {t:Sem α} {Q1:α→Shared→Prop} {E1:xz} {s:Shared},wpAny (model X'.prog X'.w) X'.A t Q1 X'.xe s→wpAny (model X'.prog X'.w) X'.A t Q1 E1 s:=λ{α t Q1 E1 s} h=>by
   rw[xX]at h;exact BF h (λ_ _ q=>q) λ_ _ f=>f.elim
  rcases w4 with⟨stop,qn⟩|⟨go,hz,N,hN,step⟩
  ·have d:=T.done X' pX wX kX cX i [] s3 σ3 H3 X'.xe I3 (λb hb=>fX b hb (uA b hb)) tN stop
   rw[←pX,←wX]at d;exact h8 (AF d λr s4 ξ=>Ξ02 ξ λhr I4=>?_);subst hr;have f4:=fin I4 qn;rw[←pX,←wX,←aX]at f4;exact f4
  ·have d:=T.item X' pX wX kX cX i [] s3 σ3 H3 X'.xe I3 (λb hb=>fX b hb (uA b hb)) tN go
   rw[←pX,←wX]at d;exact h8 (AF d λr s4 ξ=>Ξ12 ξ λu hr h4=>?_);subst hr;exact h8 (AF h4 λ_ s5 ξ=>Ξ25 ξ λx H5 I5 r5 y5 pA BC=>?_);have Cc:=I5.pinned (λb hb=>fX b hb (BC b hb)) (T.obj _ _ pA);have again:∀{σ7:St} {H7:A4} {s7:Shared} {S':Str→Bool} {z':Nat},Inv X' ([]++Gh fp s5.heap) σ7 H7 s7→N σ7 S' z' H7→
     ∃m,m<n∧∃i σ' S z H',Inv X' [] σ' H' s7∧tn i s7.heap∧(∀b∈fp,H' b=none)∧W i m σ' S z H':=λ{σ7 H7 s7 S' z'} I7 n7=>by
    let⟨m',hm,w7⟩:=hN _ _ _ _ n7;exact⟨m',hm,i+1,σ7,S',z',H7,I7.fO,T.keep _ _ _ pA λb hb o e=>(I7.pin (b,o) (CB _ (CB _ (FU hb e)))).1,λb hb=>?_,w7⟩;let⟨o,e,d⟩:=T.obj _ _ pA b hb;exact(I7.pin (b,o) (CB _ (CB _ (FU hb e)))).2.1
   exact h8 (AF (Ea _ s5 σ3 H5 x u _ Cc r5 (step x H5 y5)) λ_ s6 ξ=>Ξ22 ξ λσ6 H6 I6 q6=>?_);exact h8 (AF (LZ _ s6 σ6 H6 _ I6 q6) λu8 s8⟨y8,H8,I8,r8,k8,e8,d8,q8⟩=>?_);subst e8;let⟨t8,rfl⟩:=r8;have OQ:=(I8.bO _ _ d8).1;have T2:s8.heap.SetOf (strKind X'.prog X'.w) s2.heap.objs.size S z:=by rw[pX,wX];exact OQ
   exact h8 (call_set_add (k:=k8) (knd:=strKind X'.prog X'.w) (by show Value.isStrOf k8 (.str k8 t8)=true;simp[Value.isStrOf]) rfl T2 (C3 (Nat.succ_le_of_lt hz) (by decide)) λh' Pp L9=>?_);exact again (I8.write (x:=s2.heap.objs.size) (e:=s2.heap.objs.size) (o:=.ext (setAt X.prog X.w s2.heap.objs.size (λk'=>S k'||decide (k'=k8)) (more S z k8))) (by rw[d8];exact trivial) (.inl rfl) (λb' u hb hu=>(Pp.2 b' hb).trans hu) ?_ ?_) q8
   ·let⟨o,_,_,_,e,_⟩:=L9
    exact⟨o,e⟩
   ·rw[←pX,←wX]
    exact aO L9
 exact Zy loop (T.self X.A 0 _ _ _ (T.keep _ _ _ nG λb _ o e=>kk b o e) loop)
theorem mf:F1 X (.builtin "len") (λxs H Q=>∃(p:Addr) (S:Str→Bool) (n:Nat),xs=[.ref p]∧H p=some (.ext (setAt X.prog X.w p S n))∧Q (.int n) H):=by
 intro v0 s σ H vs us Q I rv h;let⟨p,S,n,rfl,hp,q⟩:=h;let⟨u,rfl,ru⟩:=rv.one;cases ru;let⟨o,es,ep,t,e,ex,d,Xr,hm,hb,hf,hn⟩:=(I.bO p _ hp).1;have Xs:es.size<4096:=hb;exact call_len_set e ex d hf (by lia) ⟨.int n,H,I.tok _,⟨s.toks+1,by rw[hn]⟩,q⟩
end
theorem fA(hh:A.handled=none)(it l:Addr)(Nk:l≠it)(items:Array Value):
  Draws prog w A it [it,l] items.size (λi v=>items[i]?=some v) (λi h=>h.IsTupleIter it l i∧h.IsTuple l items) where
 live:=λ_ _ st=>let⟨o,ho,_⟩:=st.1;⟨o,ho⟩
 frame:=λ_ _ _ st hk=>⟨J6 st.1 λo e=>hk it (by simp) o e,st.2.at λo e=>hk l (by simp) o e⟩
 item:=λi s Q E hi st hQ=>by
  exact M6 st.1 st.2 (v:=items[i]) (by simp[hi]) λh' PF hG=>?_;exact hQ _ h' s.toks (by simp[hi]) ⟨PF,st.2.extBut hG.extBut Nk⟩ hG
 done:=λs Q E st hE=>X7 hh st.1 st.2 (by simp) hE
def X6(K:W.Frag)(a:Addr):Ep:=
  ⟨λi H=>∃xs x,dW K H a xs∧xs[i]?=some x,
   λi H v H'=>∃p x,H p=none∧v=.ref p∧H'=AK H p (.tup [.int i,x])∧(∀xs,dW K H a xs→xs[i]?=some x),
   λi H=>∃xs,dW K H a xs∧xs.length=i⟩
theorem xp{K:W.Frag}{elts:List Expr}{kk:Nat}(a e it:Addr)(PL:e≠it)(U5:a≠e)(RG:a≠it):
  Turn P w K (.Tuple elts kk pos) (X6 K a) [e,it] e (λi h=>(∃old,IsEnum h e it i old)∧h.IsTupleIter it a i) where
 mem:=by simp
 obj:=λi h st c hc=>by
  let⟨⟨old,he⟩,⟨o1,e1,_,d1⟩⟩:=st;simp only[XO,CN,EP]at hc;rcases hc with rfl|rfl
  ·exact⟨_,he,λv z=>by have z':Data.fields _=Data.cell v:=z;cases z'⟩
  ·exact⟨o1,e1,λv z=>by rw[d1]at z;cases z⟩
 keep:=λi h h' st k=>by
  let⟨⟨old,he⟩,h1⟩:=st;exact⟨⟨old,k e (by simp) _ he⟩,J6 h1 λo q=>k it (by simp) o q⟩
 item:=by
  intro X hP hw hK hc i v0 s σ H E I hf st hg;subst hP hw hK;let⟨⟨old,he⟩,h1⟩:=st;let⟨xs,x,D8,hx⟩:=hg;let⟨bj,rv,pl,_⟩:=I.tuple D8;let⟨Bo,ex,rx⟩:=rv.get hx;have n0:H s.heap.objs.size=none:=I.bO.fresh (Ar _);have hi:i<bj.toArray.size:=by
   have:=(YG.mp ex).1;simpa using this
  exact wpAny_pyNext_enum_itemD (fA (prog:=X.prog) (w:=X.w) (A:=X.A.in1) (I.ok.hd hc) it a RG bj.toArray) he ⟨h1,pl⟩ hi PL (by simp[PL,U5.symm]) λv h' tk hv ho hG ht hsz kk=>?_;have Uw:v=Bo:=by
   have Cj:bj[i]?=some v:=by simpa using hv
   rw[ex]at Cj;exact(Ek Cj).symm
  subst Uw;exact⟨_,rfl,wpAny_letOwnedTupleGo_enum ho λg2 Iz qS=>?_⟩;have el:e<s.heap.objs.size:=Aq he;have il:it<s.heap.objs.size:=by let⟨_,q,_⟩:=h1;exact Aq q
  exact Ψ2 (.ref s.heap.objs.size) (AK H s.heap.objs.size (.tup [.int i,x])) ⟨?_,rfl,Ψ2 _ x ⟨n0,rfl,rfl,λzs LN=>by rw[I.ke LN D8];exact hx⟩,⟨⟨v,?_⟩,?_⟩,λc hc=>?_⟩
  ·exact I.qZ (t':=tk+1) (ch:=[e,it]) (λc o hc q=>?_) (λc hc=>hf c hc) (Ar _) ⟨by show 2≤sizeLine;decide,[.int i tk,v],.cons ⟨tk,rfl⟩ (.cons rx .nil),?_⟩
   ·simp only[XO,CN,EP,not_or]at hc
    exact(qS.2 c hc.1).trans (kk c o hc.1 hc.2 q)
   ·exact⟨_,(qS.2 _ (Lo el)).trans ht,rfl,0,rfl⟩
  ·have:((i+1:Nat):Int)=(i:Int)+1:=by lia
   rw[this];exact Iz
  ·exact J6 hG.1 λo q=>(qS.2 it PL.symm).trans q
  ·have:c<s.heap.objs.size:=by
    simp only[XO,CN,EP]at hc;rcases hc with rfl|rfl
    ·exact el
    ·exact il
   rw[Al (B3 this)];exact(hf c hc).1
 done:=by
  intro X hP hw hK hc i v0 s σ H E I hf st hg;subst hP hw hK;let⟨⟨old,he⟩,h1⟩:=st;let⟨xs,D8,hl⟩:=hg;let⟨bj,rv,pl,_⟩:=I.tuple D8;have l1:=rv.length;have ei:i=bj.toArray.size:=by simp;lia
  subst ei;exact wpAny_pyNext_enum_endD (fA (prog:=X.prog) (w:=X.w) (A:=X.A.in1) (I.ok.hd hc) it a RG bj.toArray) he ⟨h1,pl⟩ λh' hx=>⟨rfl,?_⟩;let⟨f0,f1,f2,f3,f4,f5⟩:=hf it (by simp);exact I.turned (t':=s.toks) (λb o hb q=>hx b o hb q) f0 f1 f3 f4 f5
 self:=λ_ _ _ _ _ st h=>by
  let⟨⟨old,he⟩,_⟩:=st;exact wpAny_pyIter_enum he h
theorem ir(l:Addr)(items:Array Value)(n:Nat)(dct:Option Addr)(sl:Array (Option Value)):
  Meets (Builtin.«enumerate.__new__» ⟨[.type "enumerate",.ref l],[]⟩) (λ_ R s=>s.heap.get? l=some {cls:=.type "tuple",dict:=dct,data:=.seq items n,slots:=sl}∧
   R (.ok (.ret (.ref (s.heap.push {cls:=.type "tuple_iterator",data:=.fields #[.ref l,.int 0 0]}).objs.size)))
    {s with heap:=(s.heap.push {cls:=.type "tuple_iterator",data:=.fields #[.ref l,.int 0 0]}).push {cls:=.type "enumerate",data:=.fields #[.none,.bool false,.ref s.heap.objs.size,rawInt 0,.none,.none]}}):=
 .of_wp λprog w A R s h=>by
  obtain⟨hp,g,d,tk,os⟩:=s;obtain⟨hl,h⟩:=h;have Pn:=sub_enumerate;have hL:Heap.IsTuple (Shared.heap ⟨hp,g,d,tk,os⟩) l items:=⟨_,hl,rfl,n,rfl⟩
  wp_walk using Oa hl
  exact wpAny_stack_any λst=>AS ?_;split
  ·rename_i c _ _ _ _ _
   cases(c==Value.type "enumerate")
   ·wp_walk using Oa hl,JU hL
    exact⟨_,rfl,h⟩
   ·wp_walk using Oa hl,JU hL
    exact⟨_,rfl,h⟩
  ·wp_walk using Oa hl,JU hL
   exact⟨_,rfl,h⟩
theorem aap{E:xz}{l:Addr}{items:Array Value}{Q:xz}(hL:s.heap.IsTuple l items)
  (h:∀h',IsEnum h' (s.heap.objs.size+1) s.heap.objs.size 0 .none→h'.IsTupleIter s.heap.objs.size l 0→(∀b o,s.heap.get? b=some o→h'.get? b=some o)→Q (.ref (s.heap.objs.size+1)) {s with heap:=h'}) :
  wpAny (model prog w) A (call (.type "enumerate") [.ref l]) Q E s:=by
 obtain⟨⟨c,dct,dt,sl⟩,hl,hc,n,hd⟩:=hL
 replace hc:c=.type "tuple" := hc
 replace hd:dt=.seq items n:=hd
 subst hc hd;exact callType_new F.called_enumerate (by decide) (F.typeCall_enumerate_1 _) (F.newCall_enumerate_1 _) (λobj=>F.args_object_init_2 obj _) F.entry_enumerate_new
  (ir l items n dct sl) ⟨hl,?_⟩
 have hz:(s.heap.push {cls:=.type "tuple_iterator",data:=.fields #[.ref l,.int 0 0]}).objs.size=s.heap.objs.size+1:=FL ..;show _∧_
 rw[hz];have he:IsEnum ((s.heap.push {cls:=.type "tuple_iterator",data:=.fields #[.ref l,.int 0 0]}).push
   {cls:=.type "enumerate",data:=.fields #[.none,.bool false,.ref s.heap.objs.size,rawInt 0,.none,.none]}) (s.heap.objs.size+1) s.heap.objs.size 0 .none:=by
  have:=Cv (s.heap.push {cls:=.type "tuple_iterator",data:=.fields #[.ref l,.int 0 0]})
   (o:={cls:=.type "enumerate",data:=.fields #[.none,.bool false,.ref s.heap.objs.size,rawInt 0,.none,.none]}) rfl
  rw[hz]at this;exact this
 exact⟨⟨_,he,rfl⟩,h _ he ⟨_,Ap _ (Cv _ rfl),rfl,rfl⟩ λb o y=>Ap _ (Ap _ y)⟩
section
variable {elts: List Expr}{kk: Nat}{rL: Pos}
def lh(K:W.Frag)(ta:Bq):DE:=λσ H R=>ta σ H λvs H1=>∃(a:Addr) (xs:List V),vs=[.ref a]∧dW K H1 a xs∧R (X6 K a) H1
theorem xY{a:Expr}{ta:Bq}{p:Pos}(hg:BP X "enumerate")(hm:X.mg "enumerate" = none)(ha:PA X [a] ta)(hs:starEach [a] X.env=[(false,eval a X.env)]:=by rfl):
  PI X (.Tuple elts kk rL) (.Call (.Name "enumerate" p) [a] [] pos) (lh X.K ta):=by
 exact .mk ?_;intro v0 s σ H R I h;exact Call_ (Jh I hg hm boot_enumerate (N1 (AF (ha pos v0 s σ H _ I h) λus s1 ξ=>Ξ23 ξ λvs H1 I1 r1 q1=>?_) hs rfl));let⟨u1,xs,e,hx,q⟩:=q1;subst e;cases r1 with
 |cons r rr=>
  cases rr;cases r;let⟨bj,rv,pl,_⟩:=I1.tuple hx;let⟨o1,e1,_⟩:=id pl;have l1:=Aq e1;exact aap pl λh' he hi k=>?_;exact wpAny_pyIter_enum he ?_;exact Ψ5 (s1.heap.objs.size+1) [s1.heap.objs.size+1,s1.heap.objs.size] _ _ H1 ⟨rfl,I1.kept (t':=s1.toks) k,xp u1 _ _ (Ot _) (B3 (Gl l1)) (B3 l1),⟨⟨.none,he⟩,hi⟩,λc hc=>?_,q⟩;have Cn:s1.heap.objs.size≤c:=by
   simp only[XO,CN,EP]at hc;rcases hc with rfl|rfl
   ·exact BO _
   ·exact Ar _
  exact I1.wF Cn (I1.bO.fresh Cn)
end
def mv(H:A4)(P:Addr)(q:Str)(pos:Pos):Prop:=H P=some (.tbl #[])∨∃(c':Addr) (oc:Obj) (vs:Array Value) (t:Tok) (u:HO),
 H P=some (.tbl #[rawInt pos.line,rawInt pos.col,.ref c'])∧H c'=some (.frz oc u)∧oc.data=.fields vs∧vs[1]?=some (.str q t)
end L2
namespace L2
open PySem PySem.Spec PyProof.Rows
def dR(K:W.Frag)(a:Addr)(xs:List V):Prop:=∃(o:Obj) (bj:Array Value) (n:Nat),K.lookup a=some o∧o.cls=.type "tuple" ∧ o.data=.seq bj n∧bj.size≤sizeLine∧Vals xs bj.toList
theorem dR.sq{K:W.Frag}{H:A4}{a:Addr}{xs:List V}(h:dR K a xs):dW K H a xs:=.inr h
end L2
namespace L2
open PySem PySem.Spec PyProof.Rows
variable {ss:List Str}{n:Nat}{X: Cx}
def lx(P:Program)(w:World)(K:W.Frag)(mg:KK)(base:Heap)(C:Addr)(m:Str)(k:Nat)(ps:List Str)(sp:DU):Prop:=
 ∃f fd,a8 P w K mg base Ag k f fd ps sp∧nD K C∧Meth K C m f∧Binds K fd ps []
def uD(P:Program)(w:World)(K:W.Frag)(mg:KK)(base:Heap)(C:Addr)(k:Nat)(ps:List Str)(sp:DU):Prop:=
 ∃f fd,a8 P w K mg base Ag k f fd ps sp∧Mp K C f∧Binds K fd ps []
section
theorem uC:iC X (binaryOp .Add) (λx y H Q=>∃l b xs zs,x=.ref l∧y=.ref b∧kB X.K H l xs∧kB X.K H b zs∧xs.length+zs.length≤sizeLine∧∀p,H p=none→Q (.ref p) (AK H p (.lst (xs++zs)))):=by
 intro v0 s σ H x y v u Q I rx ry h;let⟨l,b,xs,zs,rfl,rfl,hH,hB,hz,q⟩:=h;cases rx;cases ry;let⟨bj,r,pl,z⟩:=I.list hH;let⟨lB,r2,tJ,z2⟩:=I.list hB;have l1:=r.length;have l2:=r2.length;obtain⟨⟨cls,dd,data,sl⟩,ho,hc,n,hd⟩:=pl.isList;obtain⟨⟨Wt,Wo,data2,Jk⟩,Ni,RF,n2,hd2⟩:=tJ.isList;simp only at hc hd RF hd2;subst hc hd RF hd2;have e:bj.toArray++lB.toArray=(bj++lB).toArray:=by simp
 exact concat_meets ⟨_,ho,rfl⟩ ⟨_,Ni,rfl⟩ noFill_list_add seq_list_add PySem.F.slot_list_add PySem.F.entry_list_add (PySem.F.args_list_add_2 _ _) (list_addW l b bj.toArray lB.toArray n n2 dd Wo sl Jk (by simp only[BW];lia)) ⟨ho,Ni,?_⟩;rw[e];exact Ψ2 (.ref _) _ ⟨I.LD (t':=s.toks) (r.append r2) (by rw[Br];lia),rfl,q _ I.fresh⟩
def S(l:List Nat):Str:=⟨l.toArray⟩
theorem iZ(l:List Nat):(S l).length=l.length:=by simp[S,Str.length]
def j4(ss:List Str)(S:Str→Bool)(n:Nat):Prop:=(∀k,S k=true↔k∈ss)∧((ss.Nodup∧n=ss.length)∨(¬ss.Nodup∧n<ss.length))
theorem j4.nil:j4 [] (λ_=>false) 0:=⟨λk=>by simp,.inl ⟨TO,rfl⟩⟩
theorem j4.le{S:Str→Bool}(h:j4 ss S n):n≤ss.length:=by
 rcases h.2 with⟨_,h⟩|⟨_,h⟩<;>lia
theorem j4.snoc{S:Str→Bool}{k:Str}(h:j4 ss S n):j4 (ss++[k]) (λk'=>S k'||decide (k'=k)) (more S n k):=by
 let⟨h1,h2⟩:=h;exact⟨λk'=>by rw[Bool.or_eq_true,Nq,h1 k',YE,Yu],?_⟩;have e:(ss++[k]).Nodup↔ss.Nodup∧k∉ss:=by
  rw[YY];constructor
  ·intro⟨a,_,b⟩
   exact⟨a,λm=>b k m k (by simp) rfl⟩
  ·intro⟨a,b⟩
   exact⟨a,by simp,λx hx y hy e=>b ?_⟩;rw[Yu]at hy;rw[←hy,←e];exact hx
 rw[e,Br];show(_∧(if S k=true then n else n+1)=_)∨(_∧(if S k=true then n else n+1)<_)
 by_cases c:S k=true
 ·rw[AR c]
  have m:=(h1 k).mp c;rcases h2 with⟨a,b⟩|⟨a,b⟩
  ·exact .inr ⟨λz=>z.2 m,by rw[b];exact Hq _⟩
  ·exact .inr ⟨λz=>z.2 m,Gl b⟩
 ·rw[AN c]
  have m:k∉ss:=λz=>c ((h1 k).mpr z);rcases h2 with⟨a,b⟩|⟨a,b⟩
  ·exact .inl ⟨⟨a,m⟩,by rw[b];rfl⟩
  ·exact .inr ⟨λz=>a z.1,Nat.succ_lt_succ b⟩
end
section
theorem lP:Yr X (λx H Q=>∃z:Str,x=.str z∧z.length≤sizeLine∧∀y:Str,y.length≤z.length→(∀c∈y.cps.toList,c∈z.cps.toList)→Q (.str y) H):=by
 intro v0 s σ H x v vs sl Q I rx hs ps h;let⟨z,rfl,hz,q⟩:=h;let⟨t,rfl⟩:=rx;exact Ψ2 ("str") _ ⟨F.slot_str_getitem.lookup,Ke _ z t,?_⟩;let⟨o,h1,h2,h3⟩:=hs;cases ps with
 |int j t'=>
  exact wpAny_getItem_str_slice (l:=none) (u:=none) (st:=some (-1,t')) ⟨o,h1,h2,h3⟩ rfl ?_;unfold sliceMade slicePicked;show(if((-1:Int)==1&&(Builtin.Str.strSliceIndices none none (-1) z.length).length==z.length)=true then Made.val (.str z t)else .str ⟨((Builtin.Str.strSliceIndices none none (-1) z.length).filterMap (z.cps[·]?)).toArray⟩).post _ _
  rw[AN (by rw[show((-1:Int)==1)=false from rfl,Dw];exact BJ)];have hl:(Str.mk ((Builtin.Str.strSliceIndices none none (-1) z.length).filterMap (z.cps[·]?)).toArray).length≤z.length:=by
   show((Builtin.Str.strSliceIndices none none (-1) z.length).filterMap (z.cps[·]?)).toArray.size≤z.length
   rw[BW];exact DA (List.length_filterMap_le _ _) ?_;rw[picked_rev,AV,Oz];exact Ar _
  exact⟨DA hl hz,.str _,H,I.tok _,⟨_,rfl⟩,q _ hl λc hc=>?_⟩;have hc:c∈(Builtin.Str.strSliceIndices none none (-1) z.length).filterMap (z.cps[·]?):=by simpa using hc
  let⟨i,_,e⟩:=Zr.mp hc;exact Array.mem_toList_iff.mpr (Array.mem_of_getElem? e)
end
abbrev upd:=St→A4→(St→A4→Prop)→Prop
end L2
namespace L2
open PySem PySem.Spec PyProof.Rows
variable {o:Option V}{u:Value}{y:V}{P:Program}{w:World}{H H':A4}{ay:List (List AG×V)}{xs:List (List AG×Addr×Value)}{a: Addr}{Q:xz}{h':Heap}{A: Around}{E: Value→Shared→Prop}{s: Shared}{X: Cx}{v0: List (Addr×Obj)}{σ: St}{r: Value}
section
variable {κ: Type}[DecidableEq κ]
def Dk(ay:List (κ×V))(k:κ):Option V:=(ay.find? λkv=>decide (kv.1=k)).map (·.2)
def putK(ay:List (κ×V))(k:κ)(v:V):List (κ×V):=
 if(ay.any λkv=>decide (kv.1=k))=true then ay.map (λkv=>if kv.1=k then(kv.1,v)else kv)else ay++[(k,v)]
theorem OB{p:κ×V}{r:List (κ×V)}{k:κ}(e:p.1=k):Dk (p::r) k=some p.2:=by simp[Dk,G4,e]
theorem Lf{p:κ×V}{r:List (κ×V)}{k:κ}(e:¬p.1=k):Dk (p::r) k=Dk r k:=by simp[Dk,G4,e]
theorem bA(k:κ):∀ay:List (κ×V),(ay.any λkv=>decide (kv.1=k))=(Dk ay k).isSome
 |[]=>rfl
 |p::r=>by
  rw[HZ];by_cases e:p.1=k
  ·simp only[OB e,CI e,Bool.true_or,Option.isSome_some]
  ·rw[Lf e,Du e,Bool.false_or];exact bA k r
theorem MT(ay:List (κ×V))(k:κ)(v:V):(putK ay k v).length≤ay.length+1:=by
 unfold putK;split
 ·rw[AV];lia
 ·rw[Br,D0,List.length_nil];lia
theorem jo.iG{u:Option Value}(r:jo o u):o.isSome=u.isSome:=by
 cases o with
 |none=>cases u with
  |none=>rfl
  |some _=>exact(show False from r).elim
 |some _=>cases u with
  |none=>exact(show False from r).elim
  |some _=>rfl
theorem jo.getD{u:Option Value}{d:V}{d':Value}(r:jo o u)(rd:RelV d d'):RelV (o.getD d) (u.getD d'):=by
 cases o with
 |none=>cases u with
  |none=>exact rd
  |some _=>exact(show False from r).elim
 |some _=>cases u with
  |none=>exact(show False from r).elim
  |some _=>exact r
theorem KV.val{ay:List (κ×V)}{vs:List (κ×Value)}(r:KV ay vs)(k:κ):jo (Dk ay k) (valueAt vs k):=by
 unfold KV at r;induction r with
 |nil=>exact True.intro
 |@cons p q ps qs h t ih=>
  let⟨h1,h2⟩:=h;by_cases e:p.1=k
  ·have e':q.1=k:=h1.symm.trans e
   have b:valueAt (q::qs) k=some q.2:=by simp[valueAt,G4,e']
   rw[OB e,b];exact h2
  ·have e':¬q.1=k:=λz=>e (h1.trans z)
   have b:valueAt (q::qs) k=valueAt qs k:=by simp[valueAt,G4,e']
   rw[Lf e,b];exact ih
theorem KV.any{ay:List (κ×V)}{vs:List (κ×Value)}(r:KV ay vs)(k:κ):(ay.any λkv=>decide (kv.1=k))=vs.any λkv=>decide (kv.1=k):=by
 unfold KV at r;induction r with
 |nil=>rfl
 |cons h t ih=>rw[HZ,HZ,ih,h.1]
theorem KV.GC{ay:List (κ×V)}{vs:List (κ×Value)}(r:KV ay vs)(k:κ)(ry:RelV y u):
  KV (ay.map λkv=>if kv.1=k then(kv.1,y)else kv) (vs.map λkv=>if kv.1=k then(kv.1,u)else kv):=by
 unfold KV at r ⊢;induction r with
 |nil=>exact .nil
 |@cons p q ps qs h t ih=>
  rw[BQ,BQ];exact .cons ?_ ih;let⟨h1,h2⟩:=h;by_cases e:p.1=k
  ·rw[AR e,AR (h1.symm.trans e)];exact⟨h1,ry⟩
  ·rw[AN e,AN (λz=>e (h1.trans z))];exact⟨h1,h2⟩
theorem KV.put{ay:List (κ×V)}{vs:List (κ×Value)}(r:KV ay vs)(k:κ)(ry:RelV y u):KV (putK ay k y) (stored vs k u):=by
 unfold putK stored;rw[r.any k];by_cases e:(vs.any λkv=>decide (kv.1=k))=true
 ·rw[AR e,AR e];exact r.GC k ry
 ·rw[AN e,AN e];exact Paired.snoc r ⟨rfl,ry⟩
theorem KV.length{ay:List (κ×V)}{vs:List (κ×Value)}(r:KV ay vs):ay.length=vs.length:=Mk r
end
theorem FR{k:AG}(r:RelV (Ay k) u):(BS P w).is k u=true:=by
 cases k with
 |inl i=>let⟨t,e⟩:=(show ∃t,u=Value.int i t from r);subst e;exact yJ P w i t
 |inr x=>let⟨t,e⟩:=(show ∃t,u=Value.str x t from r);subst e;exact YW P w x t
theorem cb{P:Program}{w:World}:∀{ks:List AG} {us:List Value},Vals (ks.map Ay) us→ItemsAre (BS P w) ks us
 |[],_,r=>by rw[EK]at r;cases r;exact .nil
 |k::ks,_,r=>by
  rw[BQ]at r;cases r with
  |cons h t=>exact .cons (FR h) (cb t)
abbrev KT(H:A4):List (List AG×V)→List (List AG×Addr×Value)→Prop:=Paired λp q=>p.1=q.1∧H q.2.1=some (.tup (p.1.map Ay))∧RelV p.2 q.2.2
theorem KT.val(r:KT H ay xs)(k:List AG):jo (Dk ay k) ((atKey xs k).map (·.2)):=by
 induction r with
 |nil=>exact True.intro
 |@cons p q ps qs h t ih=>
  let⟨h1,_,h2⟩:=h;by_cases e:p.1=k
  ·have e':q.1=k:=h1.symm.trans e
   have b:atKey (q::qs) k=some q.2:=by simp[atKey,G4,e']
   rw[OB e,b];exact h2
  ·have e':¬q.1=k:=λz=>e (h1.trans z)
   have b:atKey (q::qs) k=atKey qs k:=by simp[atKey,G4,e']
   rw[Lf e,b];exact ih
theorem KT.GC(r:KT H ay xs)(k:List AG)(ry:RelV y u):
  KT H (ay.map λkv=>if kv.1=k then(kv.1,y)else kv) (xs.map (putAt k u)):=by
 induction r with
 |nil=>exact .nil
 |@cons p q ps qs h t ih=>
  rw[BQ,BQ];exact .cons ?_ ih;let⟨h1,h2,h3⟩:=h;unfold putAt;by_cases e:p.1=k
  ·rw[AR e,AR (h1.symm.trans e)];exact⟨h1,h2,ry⟩
  ·rw[AN e,AN (λz=>e (h1.trans z))];exact⟨h1,h2,h3⟩
theorem KT.put(r:KT H ay xs)(k:List AG){b:Addr}(hb:H b=some (.tup (k.map Ay)))(ry:RelV y u):
  KT H (putK ay k y) (storedH xs k b u):=by
 have e:(ay.any λkv=>decide (kv.1=k))=(atKey xs k).isSome:=by
  rw[bA,(r.val k).iG,K5]
 unfold putK storedH;rw[e];by_cases q:(atKey xs k).isSome=true
 ·rw[AR q,AR q];exact r.GC k ry
 ·rw[AN q,AN q];exact Paired.snoc r ⟨rfl,hb,ry⟩
theorem KT.keeps(r:KT H ay xs)(ht:∀b ys,H b=some (.tup ys)→H' b=some (.tup ys)):KT H' ay xs:=
 Paired.HH r λ_ _ z=>⟨z.1,ht _ _ z.2.1,z.2.2⟩
section
variable {P: Program}{w: World}{H: A4}{h: Heap}
theorem fk{u:HO}(ok:lH P w H h)(e:Rd H a u):bZ P w H h a u:=e.ok ok
theorem HL{ay:List (AG×V)}(ok:lH P w H h)(e:Rd H a (.dK ay)):ay.length≤sizeLine∧(a==sysModules)=false∧∃vs,KV ay vs∧h.DictOf (BS P w) a vs:=
 show bZ P w H h a (.dK ay)from fk ok e
theorem Sq{ay:List (AG×V)}(ok:lH P w H h)(e:H a=some (.dK ay)):ay.length≤sizeLine∧(a==sysModules)=false∧∃vs,KV ay vs∧h.DictOf (BS P w) a vs:=HL ok (.inl e)
theorem Hs{ks:List AG}(ok:lH P w H h)(e:H a=some (.tup (ks.map Ay))):(tupleKind (BS P w)).is h ks a:=by
 let⟨_,⟨bj,r,⟨o,h1,h2,⟨n,h3⟩⟩⟩⟩:=(show bZ P w H h a (.tup (ks.map Ay))from ok a _ e);exact Ψ3 o bj.toArray n ⟨h1,h2,h3,by simpa using cb r⟩
theorem Hz(ok:lH P w H h)(e:Rd H a (.dT ay)):ay.length≤sizeLine∧(a==sysModules)=false∧
  ∃xs,KT H ay xs∧h.DictOfH (tupleKind (BS P w)) a xs:=by
 let⟨z,y,⟨xs,r,⟨o,es,ep,h1,h2,h3,h4,h5⟩⟩⟩:=(show bZ P w H h a (.dT ay)from fk ok e);exact⟨z,y,xs,r,o,es,ep,h1,h2,h3,h4,λx hx=>?_,h5⟩;have all:∀{l:List (List AG×V)} {m:List (List AG×Addr×Value)},KT H l m→∀x∈m,(tupleKind (BS P w)).is h x.1 x.2.1:=by
  intro l m q;induction q with
  |nil=>intro x hx;exact nomatch hx
  |@cons p q ps qs hq t ih=>
   intro x hx;rcases XO.mp hx with e|hx
   ·subst e
    exact Hs ok (by rw[←hq.1];exact hq.2.1)
   ·exact ih x hx
 exact all r x hx
theorem sR(ok:lH P w H h)(e:H a=some (.dT ay)):ay.length≤sizeLine∧(a==sysModules)=false∧
  ∃xs,KT H ay xs∧h.DictOfH (tupleKind (BS P w)) a xs:=Hz ok (.inl e)
end
def jq(H:A4)(a:Addr)(y:V)(r:Option V):Prop:=
 (∃ay k,Rd H a (.dK ay)∧y=Ay k∧r=Dk ay k)∨∃ay k b,Rd H a (.dT ay)∧y=.ref b∧H b=some (.tup (k.map Ay))∧r=Dk ay k
def Ce(H:A4)(a:Addr)(y v:V)(H':A4):Prop:=
 (∃ay k,H a=some (.dK ay)∧y=Ay k∧ay.length<sizeLine∧H'=AK H a (.dK (putK ay k v))) ∨
 ∃ay k b,H a=some (.dT ay)∧y=.ref b∧H b=some (.tup (k.map Ay))∧ay.length<sizeLine∧H'=AK H a (.dT (putK ay k v))
theorem jq.k{H:A4}{a:Addr}{ay:List (AG×V)}{k:AG}(e:H a=some (.dK ay)):jq H a (Ay k) (Dk ay k):=.inl ⟨ay,k,.inl e,rfl,rfl⟩
theorem Ce.k{H:A4}{a:Addr}{ay:List (AG×V)}{k:AG}{v:V}(e:H a=some (.dK ay))(hl:ay.length<sizeLine):Ce H a (Ay k) v (AK H a (.dK (putK ay k v))):=.inl ⟨ay,k,e,rfl,hl,rfl⟩
section
variable {H: A4}{y v: V}{u: Value}{o: Option V}
theorem Inv.big(I:Inv X v0 σ H s):sysModules<s.heap.objs.size:=by
 have h:mainGlobals<s.heap.objs.size:=(I.mod.glob.keeps I.bk).lt;exact Nat.lt_trans (by decide) h
theorem vR(hu:A.units+1<cLine)(I:Inv X v0 σ H s)(g:jq H a y (some v))(ry:RelV y u)(h:∀w' s',Inv X v0 σ H s'→RelV v w'→Q w' s'):
  wpAny (model X.prog X.w) A (getItem (.ref a) u) Q E s:=by
 rcases g with⟨ay,k,e,ey,l⟩|⟨ay,k,b,e,ey,eb,l⟩
 ·subst ey
  let⟨z,hd,⟨vs,rel,dd⟩⟩:=HL I.bO e;let⟨w',hw,rS⟩:=jo.some_of (v:=v) (o:=valueAt vs k) (by rw[l];exact rel.val k);exact wpAny_getItem_of (FR ry) dd.mapOf hw (h w' _ (I.tok _) rS)
 ·subst ey
  cases(show u=Value.ref b from ry);let⟨z,hd,⟨xs,rel,dd⟩⟩:=Hz I.bO e;let⟨w',hw,rS⟩:=jo.some_of (v:=v) (o:=(atKey xs k).map (·.2)) (by rw[l];exact rel.val k);let⟨p,hp,hU⟩:=ZX.mp hw;exact wpAny_getItem_heap (IQ hu) (Hs I.bO eb) dd hp ?_;rw[hU];exact h w' _ (I.tok _) rS
theorem xT(hu:A.units+1<cLine)(I:Inv X v0 σ H s)(g:jq H a y o)(ry:RelV y u)(h:∀s',Inv X v0 σ H s'→Q (.bool o.isSome) s'):
  wpAny (model X.prog X.w) A (compareOp .In u (.ref a)) Q E s:=by
 rcases g with⟨ay,k,e,ey,l⟩|⟨ay,k,b,e,ey,eb,l⟩
 ·subst ey
  let⟨z,hd,⟨vs,rel,dd⟩⟩:=HL I.bO e;exact wpAny_in_of (FR ry) hd dd.mapOf ?_;rw[←(rel.val k).iG,←l];exact h _ (I.tok _)
 ·subst ey
  cases(show u=Value.ref b from ry);let⟨z,hd,⟨xs,rel,dd⟩⟩:=Hz I.bO e;exact wpAny_in_heap (IQ hu) (Hs I.bO eb) hd dd ?_;have q:=(rel.val k).iG;rw[K5]at q;rw[←q,←l];exact h _ (I.tok _)
theorem vZ(hu:A.units+1<cLine)(I:Inv X v0 σ H s)(g:jq H a y o)(ry:RelV y u)(h:∀s',Inv X v0 σ H s'→Q (.bool (!o.isSome)) s'):
  wpAny (model X.prog X.w) A (compareOp .NotIn u (.ref a)) Q E s:=by
 rcases g with⟨ay,k,e,ey,l⟩|⟨ay,k,b,e,ey,eb,l⟩
 ·subst ey
  let⟨z,hd,⟨vs,rel,dd⟩⟩:=HL I.bO e;exact wpAny_notIn_of (FR ry) hd dd.mapOf ?_;rw[←(rel.val k).iG,←l];exact h _ (I.tok _)
 ·subst ey
  cases(show u=Value.ref b from ry);let⟨z,hd,⟨xs,rel,dd⟩⟩:=Hz I.bO e;exact wpAny_notIn_heap (IQ hu) (Hs I.bO eb) hd dd ?_;have q:=(rel.val k).iG;rw[K5]at q;rw[←q,←l];exact h _ (I.tok _)
theorem NO{t':Nat}{ob:HO}(I:Inv X v0 σ H s)(mu:Ll (H a))(hs:Heap.SameBut a s.heap h')(he:∃q,h'.get? a=some q)(new:bZ X.prog X.w (AK H a ob) h' a ob):
  Inv X v0 σ (AK H a ob) {s with heap:=h',toks:=t'}:=
 I.write (x:=a) (e:=a) mu (.inl rfl) (λb q hb z=>(hs.2 b hb).trans z) he new
theorem M5{ay:List (AG×V)}{vs:List (AG×Value)}(z:ay.length≤sizeLine)(hd:(a==sysModules)=false)(rel:KV ay vs)(dd:h'.DictOf (BS P w) a vs):
  bZ P w H' h' a (.dK ay):=⟨z,hd,vs,rel,dd⟩
theorem yd{Q:Unit→Shared→Prop}(hu:A.units+1<cLine)(I:Inv X v0 σ H s)(g:Ce H a y v H')(ry:RelV y u)(rv:RelV v r)(h:∀s',Inv X v0 σ H' s'→Q () s'):
  wpAny (model X.prog X.w) A (setItem (.ref a) u r) Q E s:=by
 rcases g with⟨ay,k,e,ey,l,eH⟩|⟨ay,k,b,e,ey,eb,l,eH⟩
 ·subst ey eH
  let⟨z,hd,⟨vs,rel,dd⟩⟩:=Sq I.bO e;have hz:vs.length≤sizeLine:=by rw[←rel.length];exact z
  have hl:(putK ay k v).length≤sizeLine:=by have:=MT ay k v;lia
  exact wpAny_setItem_pairs (hsz:=hz) (FR ry) dd λh' zm hs=>h _ ?_;have he:∃q,h'.get? a=some q:=let⟨q,_,_,hq,_⟩:=zm;⟨q,hq⟩
  exact NO I (by rw[e];exact True.intro) hs he (M5 hl hd (rel.put k rv) zm)
 ·subst ey eH
  cases(show u=Value.ref b from ry);let⟨z,hd,⟨xs,rel,dd⟩⟩:=sR I.bO e;have hz:xs.length≤sizeLine:=by rw[←Mk rel];exact z
  have hl:(putK ay k v).length≤sizeLine:=by have:=MT ay k v;lia
  exact wpAny_setItem_heap (hsz:=hz) (IQ hu) (Hs I.bO eb) dd λh' zm hs=>h _ ?_;let⟨q,es,ep,hq,h2,h3,h4,_,h5⟩:=zm;exact NO I (by rw[e];exact True.intro) hs ⟨q,hq⟩ ⟨hl,hd,_,(rel.put k eb rv).keeps λc ys ec=>?_,q,es,ep,hq,h2,h3,h4,h5⟩;rw[Al (tP ec e (λz=>nomatch z))];exact ec
end
section
variable {H: A4}{ay: List (AG×V)}
theorem sk(I:Inv X v0 σ H s)(e:Rd H a (.dK ay))(h:∀t s',Inv X v0 σ H s'→Q (.int ay.length t) s'):wpAny (model X.prog X.w) A (call (.builtin "len") [.ref a]) Q E s:=by
 let⟨z,hd,⟨vs,rel,dd⟩⟩:=HL I.bO e;exact call_len_dict hd dd (by rw[←rel.length];rw[CS]at z;lia) ?_;rw[←rel.length];exact h _ _ (I.tok _)
end
def Kr(i:Expr):Prop:=∀ov iv,subscripted i false ov iv=operate [ov,iv] (getItem ov iv)
theorem cD{prog:Program}{A:Around}{E:xz}{s:Shared}{env:Env}{value slice:Expr}{pos:Pos}{T id:String}
  (hl:typeLookup (.type T) "__getitem__" = pure (some (.builtin id))) (hs:Kr slice)
  (h:wpAny (model prog w) A (eval value env) (λo s₁=>wpAny (model prog w) A (eval slice env) (λi s₂=>s₂.TypeIs o T∧wpAny (model prog w) A (getItem o i) Q E s₂) E s₁) E s) :
  wpAny (model prog w) A (eval (.Subscript value slice pos) env) Q E s:=by
 exact Subscript_ (BF h (λo s₁ h₁=>BF h₁ (λi s₂ h₂=>?_) λ_ _ x=>x) λ_ _ x=>x);obtain⟨hT,h₂⟩:=h₂;unfold subscriptTail;exact A8 ?_;rw[getitemInPython_of_ne hT.not_modules];exact A8 (wpAny_specialOf hT hl ?_);have fin:wpAny (model prog w) A (subscripted slice false o i) (λr s₃=>wpAny (model prog w) A (letTemporaryGo value o r >>= λ_=>pure r) Q E s₃) E s₂:=by
  rw[hs o i];exact wpAny_operating (BF h₂ (λr s₃ h₃=>A8 (wpAny_letTemporaryGo (AS h₃))) λ_ _ x=>x)
 first
  |exact AS (A8 fin)
  |exact A8 (AS (A8 fin))
  |exact A8 fin
theorem uG{X:Cx}{v0:ac}{σ:St}{s:Shared}{a:Addr}(I:Inv X v0 σ H s)(g:jq H a y o):s.TypeIs (.ref a) "dict" := by
 rcases g with⟨ay,k,e,_,_⟩|⟨ay,k,b,e,_,_,_⟩
 ·let⟨_,_,⟨vs,_,dd⟩⟩:=HL I.bO e
  exact dd.typeIs
 ·let⟨_,_,⟨xs,_,dd⟩⟩:=Hz I.bO e
  exact dd.typeIs
def iB(td ty:AO):AO:=λσ H Q=>td σ H λx H1=>ty σ H1 λy H2=>∃a v,x=.ref a∧jq H2 a y (some v)∧Q v H2
def vp(td ty tv:AO):Bh:=λD σ H=>tv σ H λv H1=>td σ H1 λx H2=>ty σ H2 λy H3=>∃a H4,x=.ref a∧Ce H3 a y v H4∧D.nx σ H4
section
variable {o i value: Expr}{pos pos': Pos}{td ty tv: AO}
theorem yO(hu:X.A.units+1<cLine)(ho:PE X o td)(hi:PE X i ty)(hs:Kr i):PE X (.Subscript o i pos) (iB td ty):=by
 exact .mk ?_;intro v0 s σ H Q I h;exact cD aat.lookup hs (AF (ho v0 s σ H _ I h) λu s1 ξ=>Ξ23 ξ λx H1 I1 rx q1=>AF (hi v0 s1 σ H1 _ I1 q1) λiv s2⟨y,H2,I2,ry,a,v,ex,g,q2⟩=>?_);subst ex;obtain rfl:u=Value.ref a:=rx;exact⟨uG I2 g,vR hu I2 g ry λw' s3 I3 rS=>Ψ2 v H2 ⟨I3,rS,q2⟩⟩
theorem xF(hu:X.A.units+1<cLine)(ho:PE X o td)(hi:PE X i ty)(hv:PE X value tv)(hs:swapsWith value (some (.Subscript o i pos')) pos.line X.env=pure false):
  PS X (.Assign [.Subscript o i pos'] value pos) (vp td ty tv):=by
 exact .mk ?_;intro v0 s σ H D I h;exact wpAny_Assign_Subscript (AF (hv v0 s σ H _ I h) λr s1 ξ=>Ξ23 ξ λv H1 I1 rv q1=>AF (ho v0 s1 σ H1 _ I1 q1) λu s2 ξ=>Ξ23 ξ λx H2 I2 rx q2=>AF (hi v0 s2 σ H2 _ I2 q2) λiv s3⟨y,H3,I3,ry,a,H4,ex,g,q3⟩=>?_) hs;subst ex;obtain rfl:u=Value.ref a:=rx;exact yd hu I3 g ry rv λs4 I4=>Ψ2 σ H4 ⟨I4,q3⟩
end
theorem ZS(h:Heap)(hb:sysModules<h.objs.size):bZ P w H (h.push {cls:=.type "dict",data:=.dict #[]}) h.objs.size (.dK []):=
 ⟨Fm _,YD.mpr (CO (B3 hb)),[],.nil,Heap.DictOf.new h⟩
structure gK(X:Cx)(o:Expr)(m:Str)(apos:Pos)(e:Expr)(ek:Pos):Prop where
 base:attributeBase o m X.env (eval o X.env)=eval o X.env
 VW:((backTo ek (starEach [e] X.env)).all (λx=>!x.1)&&(backToKw ek (keywordEach [] X.env)).all (λx=>x.1.isSome)
  && decide (([e]:List Expr).length+([]:List Keyword).length+(if([]:List Keyword).isEmpty then 0 else 1)<30))=true
 line:(apos.endLine==ek.line)=true
 trees:backTo ek (starEach [e] X.env)=[(false,eval e X.env)]
section
variable {H: A4}{y d: V}{u: Value}{o: Option V}
theorem mY(hu:A.units+1<cLine)(I:Inv X v0 σ H s)(g:jq H a y o)(ry:RelV y u)(h:∀w' s',Inv X v0 σ H s'→RelV (o.getD .non) w'→Q w' s'):
  wpAny (model X.prog X.w) A (call (.builtin "dict.get") [.ref a,u]) Q E s:=by
 rcases g with⟨ay,k,e,ey,l⟩|⟨ay,k,b,e,ey,eb,l⟩
 ·subst ey
  let⟨z,hd,⟨vs,rel,dd⟩⟩:=HL I.bO e;exact JG HC dd.typeIs LL (XT _ _) (meets_dict_get (BS X.prog X.w) a (FR ry) hd) ⟨_,dd.mapOf,h _ _ (I.tok _) ?_⟩;rw[l];exact(rel.val k).getD rfl
 ·subst ey
  cases(show u=Value.ref b from ry);let⟨z,hd,⟨xs,rel,dd⟩⟩:=Hz I.bO e;exact JG HC dd.typeIs LL (XT _ _) (meetsH_dict_get (tupleKind (BS X.prog X.w)) a b hd) ⟨IQ hu,k,xs,Hs I.bO eb,dd,h _ _ (I.tok _) ?_⟩;rw[l];exact(rel.val k).getD rfl
theorem lR(hu:A.units+1<cLine)(I:Inv X v0 σ H s)(g:jq H a y o)(ry:RelV y u)(rd:RelV d r)(h:∀w' s',Inv X v0 σ H s'→RelV (o.getD d) w'→Q w' s'):
  wpAny (model X.prog X.w) A (call (.builtin "dict.get") [.ref a,u,r]) Q E s:=by
 rcases g with⟨ay,k,e,ey,l⟩|⟨ay,k,b,e,ey,eb,l⟩
 ·subst ey
  let⟨z,hd,⟨vs,rel,dd⟩⟩:=HL I.bO e;exact JG HC dd.typeIs LL (aT _ _ _) (meets_dict_get_default (BS X.prog X.w) a (FR ry) hd r) ⟨_,dd.mapOf,h _ _ (I.tok _) ?_⟩;rw[l];exact(rel.val k).getD rd
 ·subst ey
  cases(show u=Value.ref b from ry);let⟨z,hd,⟨xs,rel,dd⟩⟩:=Hz I.bO e;exact JG HC dd.typeIs LL (aT _ _ _) (meetsH_dict_get_default (tupleKind (BS X.prog X.w)) a b hd r) ⟨IQ hu,k,xs,Hs I.bO eb,dd,h _ _ (I.tok _) ?_⟩;rw[l];exact(rel.val k).getD rd
end
section
variable {H: A4}{ay: List (AG×V)}
theorem yv(I:Inv X v0 σ H s)(e:Rd H a (.dK ay))(h:∀p s',H p=none→Inv X v0 σ (AK H p (.dK ay)) s'→Q (.ref p) s'):wpAny (model X.prog X.w) A (call (.type "dict") [.ref a]) Q E s:=by
 let⟨z,hd,⟨vs,rel,dd⟩⟩:=HL I.bO e;exact kt_call_dict hd dd (by rw[←rel.length];exact z) λh' zm hs=>?_;exact h _ _ (I.bO.fresh (Ar _)) (I.laid (a:=s.heap.objs.size) (o:=.dK ay) (t':=s.toks) (λb q hq=>?_) (Ar _) (M5 z (YD.mpr (CO (B3 I.big))) rel zm));exact(hs.2 b (B3 (Aq hq))).trans (Ap _ hq)
end
end L2
namespace L2
open PySem PySem.Spec PyProof.Rows
variable {X: Cx}
section
theorem yW:F1 X (.builtin "len") (λxs H Q=>∃a ay,xs=[V.ref a]∧H a=some (.dK ay)∧Q (.int ay.length) H):=by
 intro v0 s σ H xs us Q I r h;let⟨a,ay,rfl,ha,q⟩:=h;let⟨u,rfl,ru⟩:=vals1 r;cases ru;exact sk I (.inl ha) λt s' I'=>Ψ2 (.int ay.length) H ⟨I',⟨t,rfl⟩,q⟩
end
section
variable {κ: Type}[DecidableEq κ]
end
section
variable {o: Expr}
theorem pT(hu:X.A.units+1<cLine):iC X (compareOp .In) (λy x H Q=>∃a o,x=.ref a∧jq H a y o∧Q (.bl o.isSome) H):=by
 intro v0 s σ H y x u v Q I ry rx h;let⟨a,o,rfl,g,q⟩:=h;cases rx;exact xT hu I g ry λs3 I3=>Ψ2 (.bl o.isSome) H ⟨I3,rfl,q⟩
theorem lS(hu:X.A.units+1<cLine):iC X (compareOp .NotIn) (λy x H Q=>∃a o,x=.ref a∧jq H a y o∧Q (.bl (!o.isSome)) H):=by
 intro v0 s σ H y x u v Q I ry rx h;let⟨a,o,rfl,g,q⟩:=h;cases rx;exact vZ hu I g ry λs3 I3=>Ψ2 (.bl (!o.isSome)) H ⟨I3,rfl,q⟩
end
end L2
namespace Sr
open PySem PyProof.Rows
section
variable {Kk: Type}[DecidableEq Kk]
end
end Sr
namespace Sr
open PySem PyProof.Rows
section
variable {K: Type}[DecidableEq K]
end
end Sr
namespace Sr
open PySem PyProof.Rows
section
variable {Kk: Type}[DecidableEq Kk]
end
end Sr
namespace Sr
open PySem PyProof.Rows
abbrev rv(out:Array Keyed):List Keyed:=out.toList.reverse
end Sr
namespace Sr
open PySem PyProof.Rows
section
variable {Kk: Type}[DecidableEq Kk]
end
end Sr
namespace L2
open PySem PySem.Spec PyProof.Rows
theorem lN{prog:Program}{w:World}{A:Around}{R:Result→Shared→Prop}{s:Shared}{kx Bo target iter:Expr}{scope:Scope}{pos:Pos}{it:Value}{D:Addr}{env:Env}(I:Nat→Shared→Prop)
  (turn:∀n s,I n s→wpAny (model prog w) A (pyNext it) (λr s₁=>match r with
   |none=>R (.ok .next) s₁
   |some v=>wpAny (model prog w) A (letOwnedTupleGo target it v) (λ_ zY=>wpAny (model prog w) A (assign target env v) (λ_ s₂=>
      wpAny (model prog w) A (eval kx env) (λkv s₃=>wpAny (model prog w) A (eval Bo env) (λvv s₄=>
       wpAny (model prog w) A (dictSet D kv vv) (λ_ s₅=>∃m,m<n∧I m s₅) (notedBy (model prog w) A env λe s'=>R (.error e) s') s₄) (notedBy (model prog w) A env λe s'=>R (.error e) s') s₃) (notedBy (model prog w) A env λe s'=>R (.error e) s') s₂) (notedBy (model prog w) A env λe s'=>R (.error e) s') zY) (notedBy (model prog w) A env λe s'=>R (.error e) s') s₁) (notedBy (model prog w) A env λe s'=>R (.error e) s') s)
  (n:Nat) (h:I n s) :
  codeAny (model prog w) A (.compLoop (.DictComp kx Bo [⟨target,iter,[],0⟩] scope pos) 0 it (.ref D) env) R s:=by
 exact M1 rfl I (λn s hI=>?_) n h;show wpAny _ A ((compTurn (.DictComp kx Bo [⟨target,iter,[],0⟩] scope pos) 0 it (.ref D) env).onRaise (λx=>do noteFrame x env;theTreesLotGoes x)) _ _ s
 exact wpAny_noted ?_;rw[compTurn_dict];exact A8 (GS (A8 (BF (turn n s hI) (λr s₁ h₁=>?_) λ_ _ h'=>h')));cases r with
 |none=>exact AS h₁
 |some v=>
  exact A8 (BF h₁ (λ_ zY Ii=>?_) λ_ _ h'=>h');exact A8 (BF Ii (λ_ s₂ h₂=>A8 (wpAny_tests_nil ?_)) λ_ _ h'=>h');exact A8 (A8 (BF h₂ (λkv s₃ h₃=>A8 (F7 (BF h₃ (λvv s₄ h₄=>A8 (GS (F7 (BF h₄ (λ_ s₅ h₅=>AS ⟨rfl,h₅⟩) λ_ _ h'=>h')))) λ_ _ h'=>h'))) λ_ _ h'=>h'))
section
variable {X: Cx}{v0: List (Addr×Obj)}{σ: St}{H: A4}{s: Shared}{A: Around}{E: Value→Shared→Prop}{a: Addr}{ay: List (AG×V)}{k: AG}{v: V}{u r: Value}
theorem bq{Q:Unit→Shared→Prop}(I:Inv X v0 σ H s)(e:H a=some (.dK ay))(l:ay.length<sizeLine)(ry:RelV (Ay k) u)(rv:RelV v r)(h:∀s',Inv X v0 σ (AK H a (.dK (putK ay k v))) s'→Q () s'):
  wpAny (model X.prog X.w) A (dictSet a u r) Q E s:=by
 let⟨z,hd,⟨vs,rel,dd⟩⟩:=Sq I.bO e;have hz:vs.length≤sizeLine:=by rw[←rel.length];exact z
 have hl:(putK ay k v).length≤sizeLine:=by have:=MT ay k v;lia
 unfold dictSet
 try with_reducible refine F7 ?_
 exact A8 ((BS X.prog X.w).pyHash (FR ry) ?_);have I1:=I.tok (s.toks+1);exact wpAny_dictSetHashed_pairs (knd:=BS X.prog X.w) (s:={s with toks:=s.toks+1}) (FR ry) dd (λh' zm hs=>h _ ?_) hz;have he:∃q,h'.get? a=some q:=let⟨q,_,_,hq,_⟩:=zm;⟨q,hq⟩
 exact NO I1 (by rw[e];exact True.intro) hs he (M5 hl hd (rel.put k rv) zm)
end
def Z9(wi:DE)(g:DB)(tk tv:AO)(own:List Str)(cap:List (Nat×Str)):AO:=λσ H Q=>wi σ H λJ H1=>∀D,H1 D=none→
 ∃W:Nat→Nat→St→List (AG×V)→A4→Prop,(∃m,W 0 m (Ex own cap σ) [] (AK H1 D (.dK [])))∧∀i m σ' ay H',W i m σ' ay H'→H' D=some (.dK ay)∧
  ((J.stop i H'∧Q (.ref D) H')∨(J.go i H'∧ay.length<sizeLine∧∃N:St→List (AG×V)→A4→Prop,(∀σ ay H,N σ ay H→∃m',m' < m∧W (i+1) m' σ ay H)∧∀x H2,J.oK i H' x H2→g x σ' H2 λσ3 H3=>tk σ3 H3 λy H4=>tv σ3 H4 λz H5=>∃k,y=Ay k∧H5 D=some (.dK ay)∧
   N σ3 (putK ay k z) (AK H5 D (.dK (putK ay k z)))))
section
variable {X: Cx}{scope: Scope}{cl: List (Str×Addr)}{own: List Str}{cap: List (Nat×Str)}{tg iter kx Bo: Expr}{wi: DE}{g: DB}{tk tv: AO}{pos: Pos}
theorem yR(c:di X scope cl own cap)(hc:X.calm=true)(hi:PI X tg iter wi)
  (hg:∀C s H fp,PG (BE X (own++cap.map (·.2)) scope cl C s H fp λ_ _=>False) tg g)
  (hk:∀C s H fp,PE (BE X (own++cap.map (·.2)) scope cl C s H fp λ_ _=>False) kx tk)
  (hv:∀C s H fp,PE (BE X (own++cap.map (·.2)) scope cl C s H fp λ_ _=>False) Bo tv) (hs:∀x,foldedSetIterable iter X.env x=pure x:=by intro _;rfl) :
  PE X (.DictComp kx Bo [⟨tg,iter,[],0⟩] scope pos) (Z9 wi g tk tv own cap):=by
 exact .mk ?_;intro v0 s σ H Q I h;show wpAny _ X.A (comprehension (.DictComp kx Bo [⟨tg,iter,[],0⟩] scope pos) scope X.env _ newDict false (eval iter X.env)) _ _ s
 exact Ka (use:=none) rfl hs c.wQ c.kind c.names (AF (hi v0 s σ H _ I h) λv s1 h1=>AF h1 λIa s2 h2=>?_);let⟨it,fp,tn,J,H2,e,I2,T,nG,f2,hw⟩:=h2;subst e;exact Gu (KZ c.cell (by intro y hy;simp at hy) (λh₁ gR fY=>?_) c.kind) (by size_fits);dsimp only at gR fY ⊢;have hO:=ZS (P:=X.prog) (w:=X.w) (H:=AK H2 s2.heap.objs.size (.dK [])) s2.heap I2.big;generalize U6:({cls:=.type "dict",data:=.dict #[]}:Obj)=O at hO gR fY ⊢;have hsz:(s2.heap.push O).objs.size=s2.heap.objs.size+1:=FL _ _;have kk:∀b o,s2.heap.get? b=some o→h₁.get? b=some o:=λb o e=>fY.extBut b o (by rw[hsz];exact B3 (Gl (Aq e))) (Ap _ (Ap _ e));have IF:bZ X.prog X.w (AK H2 s2.heap.objs.size (.dK [])) h₁ s2.heap.objs.size (.dK []):=by
  exact hO.qH (λb u hb q=>?_) (λ_ q=>q) λ_ _ q=>q;rcases hb with rfl|hb
  ·exact fY.extBut _ _ (by rw[hsz];exact B3 (Hq _)) (Ap _ q)
  ·by_cases z:b=s2.heap.objs.size
   ·subst z;rw[BZ]at hb;cases hb
   ·rw[Al z]at hb
    have lt:b<s2.heap.objs.size:=I2.bO.lt hb;exact fY.extBut _ _ (by rw[hsz];exact B3 (Gl lt)) (Ap _ q)
 rw[hsz]at gR ⊢;have dk:∀b∈fp,b<s2.heap.objs.size:=λb hb=>by
  let⟨o,e,_⟩:=T.obj _ _ nG b hb;exact Aq e
 let⟨W,⟨m0,w0⟩,turn⟩:=hw s2.heap.objs.size I2.fresh;have J1:=MS (E:=λ_ _=>False) c I2 f2 dk (tk:=s2.toks+([]:List (Str×Value)).length) kk IF gR;generalize eJ:BE X (own++cap.map (·.2)) scope cl (s2.heap.objs.size+1) s2 H2 fp (λ_ _=>False)=X' at J1;have Ea:PG X' tg g:=eJ ▸ hg _ _ _ _;have hk':PE X' kx tk:=eJ ▸ hk _ _ _ _;have Cj:PE X' Bo tv:=eJ ▸ hv _ _ _ _;have pX:X'.prog=X.prog:=by rw[←eJ];rfl
 have wX:X'.w=X.w:=by rw[←eJ];rfl
 have kX:X'.K=X.K:=by rw[←eJ];rfl
 have aX:X'.A=X.A:=by rw[←eJ];rfl
 have cX:X'.calm=true:=by rw[←eJ];exact hc
 have nX:X'.env=compEnvC scope cl (s2.heap.objs.size+1) X.env:=by rw[←eJ];rfl
 have xX:X'.xe=λ_ _=>False:=by rw[←eJ];rfl
 have fX:∀b∈fp,∀{H':A4},H' b=none→D4 X' [] H' b:=λb hb {H'} hn=>by
  have o1:=(FY (E:=λ_ _=>False) c I2 f2 dk (C:=s2.heap.objs.size+1) (BO _)).Cq b hb;have o2:=(FY (E:=λ_ _=>False) c I2 f2 dk (C:=s2.heap.objs.size+1) (BO _)).oF b hb;rw[←eJ];exact⟨hn,o1.1,o2,.inl hb,o1.2,λp hp=>absurd (show p∈([]:ac)from hp) (by simp)⟩
 have Ec:∀D C s' H' m,Inv X v0 σ H' s'→D4 X v0 H' C→s'.heap.Ns C m→Q (.ref D) H'→compPost (model X.prog X.w) X.A X.xe none (BD X v0 σ Q) (.ref D) C (.ok .next) s':=by
  intro D C s' H' m I' hC hm q;exact⟨m,hm,λh' hG=>Ψ2 (.ref D) H' ⟨?_,rfl,q⟩⟩;exact I'.turned (t':=s'.toks) (λb o hb e=>(hG.2 b hb).trans e) hC.1 hC.2.1 hC.2.2.2.1 hC.2.2.2.2.1 hC.2.2.2.2.2
 have fin:∀{σ':St} {H':A4} {s':Shared},Inv X' [] σ' H' s'→Q (.ref s2.heap.objs.size) H'→compPost (model X.prog X.w) X.A X.xe none (BD X v0 σ Q) (.ref s2.heap.objs.size) (s2.heap.objs.size+1) (.ok .next) s':=λ{σ' H' s'} J' q=>by
  rw[←eJ]at J';let⟨A1,A2⟩:=KS I2 f2 (BO _) J';let⟨m,hm,_⟩:=J'.loc;exact Ec _ _ s' H' m A1 A2 hm q
 have loop:codeAny (model X.prog X.w) X.A (.compLoop (.DictComp kx Bo [⟨tg,iter,[],0⟩] scope pos) 0 (.ref it) (.ref s2.heap.objs.size) (compEnvC scope cl (s2.heap.objs.size+1) X.env)) (compPost (model X.prog X.w) X.A X.xe none (BD X v0 σ Q) (.ref s2.heap.objs.size) (s2.heap.objs.size+1))
   {s2 with heap:=h₁,toks:=s2.toks+([]:List (Str×Value)).length}:=by
  exact lN (λn s'=>∃i σ' ay H',Inv X' [] σ' H' s'∧tn i s'.heap∧(∀b∈fp,H' b=none)∧W i n σ' ay H') ?_ m0
   ⟨0,_,_,_,J1,T.keep _ _ _ nG λb _ o e=>kk b o e,λb hb=>by rw[Al (B3 (dk b hb))];exact(f2 b hb).1,w0⟩
  intro n s3⟨i,σ3,ay,H3,I3,tN,uA,w3⟩;let⟨Nl,w4⟩:=turn i n σ3 ay H3 w3;rw[←nX,←aX,←pX,←wX];have h8:∀{α:Type} {t:Sem α} {Q1:α→Shared→Prop} {E1:xz} {s:Shared},wpAny (model X'.prog X'.w) X'.A t Q1 X'.xe s→wpAny (model X'.prog X'.w) X'.A t Q1 E1 s:=λ{α t Q1 E1 s} h=>by
   rw[xX]at h;exact BF h (λ_ _ q=>q) λ_ _ f=>f.elim
  rcases w4 with⟨stop,qn⟩|⟨go,hz,N,hN,step⟩
  ·have d:=T.done X' pX wX kX cX i [] s3 σ3 H3 X'.xe I3 (λb hb=>fX b hb (uA b hb)) tN stop
   rw[←pX,←wX]at d;exact h8 (AF d λr s4 ξ=>Ξ02 ξ λhr I4=>?_);subst hr;have f4:=fin I4 qn;rw[←pX,←wX,←aX]at f4;exact f4
  ·have d:=T.item X' pX wX kX cX i [] s3 σ3 H3 X'.xe I3 (λb hb=>fX b hb (uA b hb)) tN go
   rw[←pX,←wX]at d;exact h8 (AF d λr s4 ξ=>Ξ12 ξ λu hr h4=>?_);subst hr;exact h8 (AF h4 λ_ s5 ξ=>Ξ25 ξ λx H5 I5 r5 y5 pA BC=>?_);have Cc:=I5.pinned (λb hb=>fX b hb (BC b hb)) (T.obj _ _ pA);have again:∀{σ7:St} {H7:A4} {s7:Shared} {lz:List (AG×V)},Inv X' ([]++Gh fp s5.heap) σ7 H7 s7→N σ7 lz H7→
     ∃m,m<n∧∃i σ' ay H',Inv X' [] σ' H' s7∧tn i s7.heap∧(∀b∈fp,H' b=none)∧W i m σ' ay H':=λ{σ7 H7 s7 lz} I7 n7=>by
    let⟨m',hm,w7⟩:=hN _ _ _ n7;exact⟨m',hm,i+1,σ7,lz,H7,I7.fO,T.keep _ _ _ pA λb hb o e=>(I7.pin (b,o) (CB _ (CB _ (FU hb e)))).1,λb hb=>?_,w7⟩;let⟨o,e,d⟩:=T.obj _ _ pA b hb;exact(I7.pin (b,o) (CB _ (CB _ (FU hb e)))).2.1
   exact h8 (AF (Ea _ s5 σ3 H5 x u _ Cc r5 (step x H5 y5)) λ_ s6 ξ=>Ξ22 ξ λσ6 H6 I6 q6=>?_);exact h8 (AF (hk' _ s6 σ6 H6 _ I6 q6) λu7 s7 ξ=>Ξ23 ξ λy7 H7 I7 r7 q7=>?_);exact h8 (AF (Cj _ s7 σ6 H7 _ I7 q7) λu8 s8⟨y8,H8,I8,r8,k8,e8,d8,q8⟩=>?_);subst e8;exact h8 (bq I8 d8 hz r7 r8 λs9 I9=>again I9 q8)
 exact codeAny_compStart_dict loop (T.self X.A 0 _ _ _ (T.keep _ _ _ nG λb _ o e=>kk b o e) loop)
end
end L2
namespace L2
open PySem PySem.Spec PyProof.Rows
variable {P:Program}{w:World}{a D b l:Addr}{A: Around}{s: Shared}{iter e tg: Expr}{scope: Scope}{pos: Pos}{n:Nat}{ks:List AG}{X: Cx}{items:Array Value}{cl: List (Str×Addr)}{own: List Str}{cap: List (Nat×Str)}{wi: DE}{g: DB}{E: Value→Shared→Prop}
def yc(P:Program)(w:World)(K:W.Frag)(a:Addr)(ay:List (Str×Addr)):Prop:=
 ∃(o:Obj) (es:Array DictEntry) (ep:Nat),K.lookup a=some o∧o.ExactDict∧o.data=.dict es ep∧KeysOf (BS P w) es∧Pairs (BS P w) es.toList (ay.map λp=>((Sum.inr p.1:AG),Value.ref p.2))∧(ay.map (·.1)).Nodup∧(a==sysModules)=false
inductive oI(w:World):List DictEntry→List (Str×Addr)→Prop
 |nil:oI w [] []
 |cons {z:Str} {t:Tok} {a:Addr} {es:List DictEntry} {ay:List (Str×Addr)} {hh:Int} (e:hh=hashStr w z) (r:oI w es ay):oI w (⟨hh,.str z t,.ref a⟩::es) ((z,a)::ay)
theorem oI.keys:∀{es:List DictEntry} {ay:List (Str×Addr)},oI w es ay→∀e∈es,∃k,(BS P w).is k e.key=true∧e.hash=(BS P w).hash k
 |_,_,.nil,e,h=>by simp at h
 |_,_,.cons e1 r,e,h=>by
  rcases XO.mp h with rfl|h
  ·exact⟨.inr _,YW _ _ _ _,e1⟩
  ·exact oI.keys r e h
theorem oI.pairs:∀{es:List DictEntry} {ay:List (Str×Addr)},oI w es ay→Pairs (BS P w) es (ay.map λp=>((Sum.inr p.1:AG),Value.ref p.2))
 |_,_,.nil=>.nil
 |_,_,.cons e1 r=>.cons (YW _ _ _ _) rfl (oI.pairs r)
theorem wg{K:W.Frag}{ay:List (Str×Addr)}{es:List DictEntry}{ep:Nat}(l:K.lookup a=some ⟨.type "dict",none,.dict es.toArray ep,#[]⟩)(h:oI w es ay)(nd:(ay.map (·.1)).Nodup)(hs:(a==sysModules)=false):yc P w K a ay:=
 ⟨_,_,_,l,⟨rfl,rfl,rfl⟩,rfl,λe he=>h.keys e (by simpa using he),h.pairs,nd,hs⟩
theorem Oy:∀(ay:List (Str×Addr)) (z:Str),valueAt (ay.map λp=>((Sum.inr p.1:AG),Value.ref p.2)) (.inr z)=(ay.lookup z).map Value.ref
 |[],z=>rfl
 |(y,b)::r,z=>by
  have ih:=Oy r z;unfold valueAt at ih ⊢;rw[BQ,G4,HA];by_cases h:y=z
  ·subst h;simp
  ·have h1:¬((Sum.inr y:AG)=Sum.inr z):=λe=>h (LB e)
   have h2:(z==y)=false:=by rw[YD];exactλe=>h e.symm
   rw[h2];simp only[h1,decide_false];exact ih
section
variable {v0: List (Addr×Obj)}{σ: St}{H: A4}{a: Addr}{ay: List (Str×Addr)}
theorem hR:∀{l:List (Str×Addr)},(l.map (·.1)).Nodup→((l.map λp=>((Sum.inr p.1:AG),Value.ref p.2)).map (·.1)).Nodup:=λ{l} h=>by
 rw[Dn];have:(l.map ((·.1) ∘ λp:Str×Addr=>((Sum.inr p.1:AG),Value.ref p.2)))=(l.map (·.1)).map (Sum.inr:Str→AG):=by rw[Dn];rfl
 rw[this];exact List.Pairwise.map _ (λa b h e=>h (LB e)) h
theorem yc.at(k:yc X.prog X.w X.K a ay)(I:Inv X v0 σ H s):(a==sysModules)=false∧s.heap.DictOf (BS X.prog X.w) a (ay.map λp=>((Sum.inr p.1:AG),Value.ref p.2)):=by
 let⟨o,es,ep,l,ex,d,ko,pr,nd,hs⟩:=k;exact⟨hs,o,es,ep,I.mr _ _ l,ex,d,ko,pr,hR nd⟩
end
def yj(P:Program)(w:World)(K:W.Frag)(td ty:AO):AO:=λσ H Q=>td σ H λx H1=>ty σ H1 λy H2=>∃a ay z b,x=.ref a∧yc P w K a ay∧y=.str z∧ay.lookup z=some b∧Q (.ref b) H2
def tB(P:Program)(w:World)(K:W.Frag)(td ty:AO):AO:=λσ H Q=>td σ H λx H1=>∃a ay,x=.ref a∧yc P w K a ay∧ty σ H1 λy H2=>∃z,y=.str z∧(∀b,ay.lookup z=some b→Q (.ref b) H2)∧(ay.lookup z=none→Q .non H2)
section
variable {o i: Expr}{apos ek: Pos}{td ty: AO}
theorem rW(ho:PE X o td)(hi:PE X i ty)(hs:Kr i):PE X (.Subscript o i pos) (yj X.prog X.w X.K td ty):=by
 exact .mk ?_;intro v0 s σ H Q I h;exact cD aat.lookup hs (AF (ho v0 s σ H _ I h) λu s1 ξ=>Ξ23 ξ λx H1 I1 rx q1=>AF (hi v0 s1 σ H1 _ I1 q1) λiv s2⟨y,H2,I2,ry,a,ay,z,b,ex,kd,ey,l,q2⟩=>?_);subst ex ey;obtain rfl:u=Value.ref a:=rx;let⟨hd,dd⟩:=kd.at I2;have hw:valueAt (ay.map λp=>((Sum.inr p.1:AG),Value.ref p.2)) (.inr z)=some (Value.ref b):=by rw[Oy,l];rfl
 exact⟨dd.typeIs,wpAny_getItem_of (FR (k:=.inr z) ry) dd.mapOf hw ⟨.ref b,H2,I2.tok _,rfl,q2⟩⟩
theorem iE(ho:PE X o td)(he:PE X e ty)(m:gK X o "get" apos e ek):PE X (.Call (.Attribute o "get" apos) [e] [] ek) (tB X.prog X.w X.K td ty):=by
 exact .mk ?_;intro v0 s σ H Q I h;exact wpAny_Call_method m.base m.VW m.line Kz HC Ml (AF (ho v0 s σ H _ I h) λu s1⟨x,H1,I1,rx,a,ay,ex,kd,q1⟩=>?_);subst ex;obtain rfl:u=Value.ref a:=rx;let⟨hd,dd⟩:=kd.at I1;exact⟨dd.typeIs,dd.mapOf.noDict,?_⟩;rw[m.trees];exact Calls.callWith_builtin rfl (Qu (Calls.spliced_cons (AF (he v0 s1 σ H1 _ I1 q1) λiv s2⟨y,H2,I2,ry,z,ey,q2,q3⟩=>Calls.spliced_nil ?_)));subst ey;let⟨hd,dd⟩:=kd.at I2;exact JG HC dd.typeIs LL (XT _ _) (meets_dict_get (BS X.prog X.w) a (FR (k:=.inr z) ry) hd) ⟨_,dd.mapOf,?_⟩;rw[Oy];cases l:ay.lookup z with
 |none=>exact Ψ2 (.non) H2 ⟨I2.tok _,rfl,q3 l⟩
 |some b=>exact Ψ2 (.ref b) H2 ⟨I2.tok _,rfl,q2 b l⟩
end
section
theorem yT(hu:X.A.units+1<cLine):Jg X "dict.get" (λx vs H Q=>∃a y o,x=.ref a∧vs=[y]∧jq H a y o∧Q (o.getD .non) H):=by
 intro v0 s σ H x vs u us Q I rx rv h;let⟨a,y,o,rfl,rfl,g,q⟩:=h;cases rx;let⟨iv,rfl,ry⟩:=vals1 rv;exact mY hu I g ry λw' s3 I3 rS=>Ψ2 _ H ⟨I3,rS,q⟩
theorem lA(hu:X.A.units+1<cLine):Jg X "dict.get" (λx vs H Q=>∃a y z o,x=.ref a∧vs=[y,z]∧jq H a y o∧Q (o.getD z) H):=by
 intro v0 s σ H x vs u us Q I rx rv h;let⟨a,y,z,o,rfl,rfl,g,q⟩:=h;cases rx;let⟨iv,zv,rfl,ry,rz⟩:=rv.two;exact lR hu I g ry rz λw' s3 I3 rS=>Ψ2 _ H ⟨I3,rS,q⟩
theorem pM:Jg X "dict.setdefault" (λx vs H Q=>∃a k z ay,x=.ref a∧vs=[Ay k,z]∧H a=some (.dK ay)∧ay.length<sizeLine∧(∀v,Dk ay k=some v→Q v H)∧(Dk ay k=none→Q z (AK H a (.dK (putK ay k z))))):=by
 intro v0 s σ H x vs u us Q I rx rv h;let⟨a,k,z,ay,rfl,rfl,e,hl,q1,q2⟩:=h;cases rx;let⟨iv,zv,rfl,ry,rz⟩:=rv.two;let⟨hz,hd,⟨vs,rel,dd⟩⟩:=Sq I.bO e;have Us:vs.length≤sizeLine:=by rw[←rel.length];exact hz
 exact JG fb dd.typeIs PySem.F.entry_dict_setdefault (PySem.F.args_dict_setdefault_3 _ _ _) (kt_meets_setdefault (BS X.prog X.w) a (FR ry) hd zv) ⟨vs,dd,Us,λv hv=>?_,λhn h' zm hG=>?_⟩
 ·have rr:=rel.val k
  rw[hv]at rr;cases l:Dk ay k with
  |none=>rw[l]at rr;exact rr.elim
  |some v'=>rw[l]at rr;exact Ψ2 v' H ⟨I.tok _,rr,q1 v' l⟩
 ·have rr:=rel.val k
  rw[hn]at rr;cases l:Dk ay k with
  |some v'=>rw[l]at rr;exact rr.elim
  |none=>
   have UU:(putK ay k z).length≤sizeLine:=by have:=MT ay k z;lia
   have he:∃q,h'.get? a=some q:=let⟨q,_,_,hq,_⟩:=zm;⟨q,hq⟩
   exact Ψ2 z _ ⟨NO (t':=s.toks+1) I (by rw[e];exact True.intro) hG he (M5 UU hd (rel.put k rz) zm),rz,q2 l⟩
theorem se:F1 X (.type "dict") (λxs H Q=>∃a ay,xs=[V.ref a]∧H a=some (.dK ay)∧∀p,H p=none→Q (.ref p) (AK H p (.dK ay))):=by
 intro v0 s σ H xs us Q I r h;let⟨a,ay,rfl,ha,q⟩:=h;let⟨u,rfl,ru⟩:=vals1 r;cases ru;exact yv I (.inl ha) λp s' hp I'=>Ψ2 (.ref p) _ ⟨I',rfl,q p hp⟩
end
def eY(P:Program)(w:World)(K:W.Frag)(mg:KK)(base:Heap)(f:Addr)(k:Nat)(ps:List Str)(sp:DU):Prop:=
 ∃fd,a8 P w K mg base Ag k f fd ps sp∧W.keepIn K (.ref f)=true∧Binds K fd ps []
def yr(P:Program)(w:World)(K:W.Frag)(mg:KK)(base:Heap)(k:Nat)(ps:List Str)(i:Nat)(t:Bq):AO:=λσ H Q=>∃f sp,σ[i]?=some (some (.ref f))∧eY P w K mg base f k ps sp∧t σ H λvs H1=>sp vs H1 Q Hj
section
variable {x: Str}{k j i: Nat}{ps: List Str}{p: Pos}{es: List Expr}{t: Bq}
theorem kL(hr:dA j X.A)(hk:k≤j)(hN:X.N[i]?=some x)(hv:Io X.env.scope x)(ha:PA X (e::es) t)(hd:(x ==("__debug__" : Str))=false:=by decide)(uv:(x ==("__classdict__" : Str))=false:=by decide)
  (he:starEach (e::es) X.env=(false,eval e X.env)::starEach es X.env:=by rfl) (hJ:(backTo pos (starEach es X.env)).any (·.1)=false:=by rfl):PE X (.Call (.Name x p) (e::es) [] pos) (yr X.prog X.w X.K X.mg X.base k ps i t):=by
 exact .mk ?_;intro v0 s σ H Q I h;obtain⟨f,sp,ex,⟨fd,F,kp,b⟩,h⟩:=h;let⟨m,hn,hl⟩:=I.loc;let⟨u,r,l⟩:=hl i x _ hN ex hv;cases r;have fin:wpAny (model X.prog X.w) X.A (callWith pos (.ref f) [] (backTo pos (starEach (e::es) X.env)) (backToKw pos (keywordEach [] X.env))) (BD X v0 σ Q) X.xe s:=by
  exact La (h₀:=X.base) I.ok.mod.Fg kp (AF (ha pos v0 s σ H _ I h) λus s1 ξ=>Ξ23 ξ λvs H1 I1 r q=>⟨I1.mr,?_⟩) he hJ;exact S4 F (hr.mono hk) b .nil aY I1 r (by rw[Bt];exact q)
 rcases l with⟨hk',hm⟩|⟨hk',c,hc,qe⟩
 ·exact Hl (Ja (XS I.ok.kind hk' hn hm fin) hd)
 ·rcases hk' with hk'|hk'
  ·exact Hl (Ja (WH I.ok.kind hk' hc qe fin) hd)
  ·exact Hl (Ja (wpAny_loadName_free I.ok.kind hk' hc qe fin uv) hd)
end
theorem pS{prog:Program}{A:Around}{R:Result→Shared→Prop}{s:Shared}{kx Bo target iter:Expr}{ifs:List Expr}{scope:Scope}{pos:Pos}{it:Value}{env:Env}(I:Nat→Shared→Prop)
  (turn:∀n s,I n s→wpAny (model prog w) A (pyNext it) (λr s₁=>match r with
   |none=>R (.ok .next) s₁
   |some v=>wpAny (model prog w) A (letOwnedTupleGo target it v) (λ_ zY=>wpAny (model prog w) A (assign target env v) (λ_ s₂=>
      wpAny (model prog w) A (forIn ifs true λc r=>if r=true then do let ok ←isTrue c env (eval c env);pure (ForInStep.yield ok)else pure (ForInStep.yield r)) (λok OC=>if ok=true then wpAny (model prog w) A (eval kx env) (λkv s₃=>wpAny (model prog w) A (eval Bo env) (λvv s₄=>
       wpAny (model prog w) A (dictSet D kv vv) (λ_ s₅=>∃m,m<n∧I m s₅) (notedBy (model prog w) A env λe s'=>R (.error e) s') s₄) (notedBy (model prog w) A env λe s'=>R (.error e) s') s₃) (notedBy (model prog w) A env λe s'=>R (.error e) s') OC else ∃m,m<n∧I m OC) (notedBy (model prog w) A env λe s'=>R (.error e) s') s₂) (notedBy (model prog w) A env λe s'=>R (.error e) s') zY) (notedBy (model prog w) A env λe s'=>R (.error e) s') s₁) (notedBy (model prog w) A env λe s'=>R (.error e) s') s)
  (n:Nat) (h:I n s) :
  codeAny (model prog w) A (.compLoop (.DictComp kx Bo [⟨target,iter,ifs,0⟩] scope pos) 0 it (.ref D) env) R s:=by
 exact M1 rfl I (λn s hI=>?_) n h;show wpAny _ A ((compTurn (.DictComp kx Bo [⟨target,iter,ifs,0⟩] scope pos) 0 it (.ref D) env).onRaise (λx=>do noteFrame x env;theTreesLotGoes x)) _ _ s
 exact wpAny_noted ?_;rw[compTurn_dict];exact A8 (GS (A8 (BF (turn n s hI) (λr s₁ h₁=>?_) λ_ _ h'=>h')));cases r with
 |none=>exact AS h₁
 |some v=>
  exact A8 (BF h₁ (λ_ zY Ii=>?_) λ_ _ h'=>h');exact A8 (BF Ii (λ_ s₂ h₂=>A8 (BF h₂ (λok OC Ru=>?_) λ_ _ h'=>h')) λ_ _ h'=>h');cases ok with
  |false=>exact AS ⟨rfl,Ru⟩
  |true=>
   exact A8 (A8 (BF Ru (λkv s₃ h₃=>A8 (F7 (BF h₃ (λvv s₄ h₄=>A8 (GS (F7 (BF h₄ (λ_ s₅ h₅=>AS ⟨rfl,h₅⟩) λ_ _ h'=>h')))) λ_ _ h'=>h'))) λ_ _ h'=>h'))
def aZ(wi:DE)(g:DB)(tt:C0)(tk tv:AO)(own:List Str)(cap:List (Nat×Str)):AO:=λσ H Q=>wi σ H λJ H1=>∀D,H1 D=none→
 ∃W:Nat→Nat→St→List (AG×V)→A4→Prop,(∃m,W 0 m (Ex own cap σ) [] (AK H1 D (.dK [])))∧∀i m σ' ay H',W i m σ' ay H'→H' D=some (.dK ay)∧
  ((J.stop i H'∧Q (.ref D) H')∨(J.go i H'∧ay.length<sizeLine∧∃N:St→List (AG×V)→A4→Prop,(∀σ ay H,N σ ay H→∃m',m' < m∧W (i+1) m' σ ay H)∧∀x H2,J.oK i H' x H2→g x σ' H2 λσ3 H3=>tt σ3 H3 λok H3=>if ok=true then tk σ3 H3 λy H4=>tv σ3 H4 λz H5=>∃k,y=Ay k∧H5 D=some (.dK ay)∧
   N σ3 (putK ay k z) (AK H5 D (.dK (putK ay k z)))else N σ3 ay H3))
section
variable {kx Bo: Expr}{ifs: List Expr}{tt: C0}{tk tv: AO}
theorem gz(c:di X scope cl own cap)(hc:X.calm=true)(hi:PI X tg iter wi)
  (hg:∀C s H fp,PG (BE X (own++cap.map (·.2)) scope cl C s H fp λ_ _=>False) tg g)
  (ht:∀C s H fp,uW (BE X (own++cap.map (·.2)) scope cl C s H fp λ_ _=>False) ifs tt)
  (hk:∀C s H fp,PE (BE X (own++cap.map (·.2)) scope cl C s H fp λ_ _=>False) kx tk)
  (hv:∀C s H fp,PE (BE X (own++cap.map (·.2)) scope cl C s H fp λ_ _=>False) Bo tv) (hs:∀x,foldedSetIterable iter X.env x=pure x:=by intro _;rfl) :
  PE X (.DictComp kx Bo [⟨tg,iter,ifs,0⟩] scope pos) (aZ wi g tt tk tv own cap):=by
 exact .mk ?_;intro v0 s σ H Q I h;show wpAny _ X.A (comprehension (.DictComp kx Bo [⟨tg,iter,ifs,0⟩] scope pos) scope X.env _ newDict false (eval iter X.env)) _ _ s
 exact Ka (use:=none) rfl hs c.wQ c.kind c.names (AF (hi v0 s σ H _ I h) λv s1 h1=>AF h1 λIa s2 h2=>?_);let⟨it,fp,tn,J,H2,e,I2,T,nG,f2,hw⟩:=h2;subst e;exact Gu (KZ c.cell (by intro y hy;simp at hy) (λh₁ gR fY=>?_) c.kind) (by size_fits);dsimp only at gR fY ⊢;have hO:=ZS (P:=X.prog) (w:=X.w) (H:=AK H2 s2.heap.objs.size (.dK [])) s2.heap I2.big;generalize U6:({cls:=.type "dict",data:=.dict #[]}:Obj)=O at hO gR fY ⊢;have hsz:(s2.heap.push O).objs.size=s2.heap.objs.size+1:=FL _ _;have kk:∀b o,s2.heap.get? b=some o→h₁.get? b=some o:=λb o e=>fY.extBut b o (by rw[hsz];exact B3 (Gl (Aq e))) (Ap _ (Ap _ e));have IF:bZ X.prog X.w (AK H2 s2.heap.objs.size (.dK [])) h₁ s2.heap.objs.size (.dK []):=by
  exact hO.qH (λb u hb q=>?_) (λ_ q=>q) λ_ _ q=>q;rcases hb with rfl|hb
  ·exact fY.extBut _ _ (by rw[hsz];exact B3 (Hq _)) (Ap _ q)
  ·by_cases z:b=s2.heap.objs.size
   ·subst z;rw[BZ]at hb;cases hb
   ·rw[Al z]at hb
    have lt:b<s2.heap.objs.size:=I2.bO.lt hb;exact fY.extBut _ _ (by rw[hsz];exact B3 (Gl lt)) (Ap _ q)
 rw[hsz]at gR ⊢;have dk:∀b∈fp,b<s2.heap.objs.size:=λb hb=>by
  let⟨o,e,_⟩:=T.obj _ _ nG b hb;exact Aq e
 let⟨W,⟨m0,w0⟩,turn⟩:=hw s2.heap.objs.size I2.fresh;have J1:=MS (E:=λ_ _=>False) c I2 f2 dk (tk:=s2.toks+([]:List (Str×Value)).length) kk IF gR;generalize eJ:BE X (own++cap.map (·.2)) scope cl (s2.heap.objs.size+1) s2 H2 fp (λ_ _=>False)=X' at J1;have Ea:PG X' tg g:=eJ ▸ hg _ _ _ _;have Pm:uW X' ifs tt:=eJ ▸ ht _ _ _ _;have hk':PE X' kx tk:=eJ ▸ hk _ _ _ _;have Cj:PE X' Bo tv:=eJ ▸ hv _ _ _ _;have pX:X'.prog=X.prog:=by rw[←eJ];rfl
 have wX:X'.w=X.w:=by rw[←eJ];rfl
 have kX:X'.K=X.K:=by rw[←eJ];rfl
 have aX:X'.A=X.A:=by rw[←eJ];rfl
 have cX:X'.calm=true:=by rw[←eJ];exact hc
 have nX:X'.env=compEnvC scope cl (s2.heap.objs.size+1) X.env:=by rw[←eJ];rfl
 have xX:X'.xe=λ_ _=>False:=by rw[←eJ];rfl
 have fX:∀b∈fp,∀{H':A4},H' b=none→D4 X' [] H' b:=λb hb {H'} hn=>by
  have o1:=(FY (E:=λ_ _=>False) c I2 f2 dk (C:=s2.heap.objs.size+1) (BO _)).Cq b hb;have o2:=(FY (E:=λ_ _=>False) c I2 f2 dk (C:=s2.heap.objs.size+1) (BO _)).oF b hb;rw[←eJ];exact⟨hn,o1.1,o2,.inl hb,o1.2,λp hp=>absurd (show p∈([]:ac)from hp) (by simp)⟩
 have Ec:∀D C s' H' m,Inv X v0 σ H' s'→D4 X v0 H' C→s'.heap.Ns C m→Q (.ref D) H'→compPost (model X.prog X.w) X.A X.xe none (BD X v0 σ Q) (.ref D) C (.ok .next) s':=by
  intro D C s' H' m I' hC hm q;exact⟨m,hm,λh' hG=>Ψ2 (.ref D) H' ⟨?_,rfl,q⟩⟩;exact I'.turned (t':=s'.toks) (λb o hb e=>(hG.2 b hb).trans e) hC.1 hC.2.1 hC.2.2.2.1 hC.2.2.2.2.1 hC.2.2.2.2.2
 have fin:∀{σ':St} {H':A4} {s':Shared},Inv X' [] σ' H' s'→Q (.ref s2.heap.objs.size) H'→compPost (model X.prog X.w) X.A X.xe none (BD X v0 σ Q) (.ref s2.heap.objs.size) (s2.heap.objs.size+1) (.ok .next) s':=λ{σ' H' s'} J' q=>by
  rw[←eJ]at J';let⟨A1,A2⟩:=KS I2 f2 (BO _) J';let⟨m,hm,_⟩:=J'.loc;exact Ec _ _ s' H' m A1 A2 hm q
 have loop:codeAny (model X.prog X.w) X.A (.compLoop (.DictComp kx Bo [⟨tg,iter,ifs,0⟩] scope pos) 0 (.ref it) (.ref s2.heap.objs.size) (compEnvC scope cl (s2.heap.objs.size+1) X.env)) (compPost (model X.prog X.w) X.A X.xe none (BD X v0 σ Q) (.ref s2.heap.objs.size) (s2.heap.objs.size+1))
   {s2 with heap:=h₁,toks:=s2.toks+([]:List (Str×Value)).length}:=by
  exact pS (λn s'=>∃i σ' ay H',Inv X' [] σ' H' s'∧tn i s'.heap∧(∀b∈fp,H' b=none)∧W i n σ' ay H') ?_ m0
   ⟨0,_,_,_,J1,T.keep _ _ _ nG λb _ o e=>kk b o e,λb hb=>by rw[Al (B3 (dk b hb))];exact(f2 b hb).1,w0⟩
  intro n s3⟨i,σ3,ay,H3,I3,tN,uA,w3⟩;let⟨Nl,w4⟩:=turn i n σ3 ay H3 w3;rw[←nX,←aX,←pX,←wX];have h8:∀{α:Type} {t:Sem α} {Q1:α→Shared→Prop} {E1:xz} {s:Shared},wpAny (model X'.prog X'.w) X'.A t Q1 X'.xe s→wpAny (model X'.prog X'.w) X'.A t Q1 E1 s:=λ{α t Q1 E1 s} h=>by
   rw[xX]at h;exact BF h (λ_ _ q=>q) λ_ _ f=>f.elim
  rcases w4 with⟨stop,qn⟩|⟨go,hz,N,hN,step⟩
  ·have d:=T.done X' pX wX kX cX i [] s3 σ3 H3 X'.xe I3 (λb hb=>fX b hb (uA b hb)) tN stop
   rw[←pX,←wX]at d;exact h8 (AF d λr s4 ξ=>Ξ02 ξ λhr I4=>?_);subst hr;have f4:=fin I4 qn;rw[←pX,←wX,←aX]at f4;exact f4
  ·have d:=T.item X' pX wX kX cX i [] s3 σ3 H3 X'.xe I3 (λb hb=>fX b hb (uA b hb)) tN go
   rw[←pX,←wX]at d;exact h8 (AF d λr s4 ξ=>Ξ12 ξ λu hr h4=>?_);subst hr;exact h8 (AF h4 λ_ s5 ξ=>Ξ25 ξ λx H5 I5 r5 y5 pA BC=>?_);have Cc:=I5.pinned (λb hb=>fX b hb (BC b hb)) (T.obj _ _ pA);have again:∀{σ7:St} {H7:A4} {s7:Shared} {lz:List (AG×V)},Inv X' ([]++Gh fp s5.heap) σ7 H7 s7→N σ7 lz H7→
     ∃m,m<n∧∃i σ' ay H',Inv X' [] σ' H' s7∧tn i s7.heap∧(∀b∈fp,H' b=none)∧W i m σ' ay H':=λ{σ7 H7 s7 lz} I7 n7=>by
    let⟨m',hm,w7⟩:=hN _ _ _ n7;exact⟨m',hm,i+1,σ7,lz,H7,I7.fO,T.keep _ _ _ pA λb hb o e=>(I7.pin (b,o) (CB _ (CB _ (FU hb e)))).1,λb hb=>?_,w7⟩;let⟨o,e,d⟩:=T.obj _ _ pA b hb;exact(I7.pin (b,o) (CB _ (CB _ (FU hb e)))).2.1
   exact h8 (AF (Ea _ s5 σ3 H5 x u _ Cc r5 (step x H5 y5)) λ_ s6 ξ=>Ξ22 ξ λσ6 H6 I6 q6=>?_);exact h8 (AF (Pm _ s6 σ6 H6 _ I6 q6) λok s6 ξ=>Ξ12 ξ λH6 I6 q6=>?_);cases ok with
   |false=>exact again I6 q6
   |true=>
   exact h8 (AF (hk' _ s6 σ6 H6 _ I6 q6) λu7 s7 ξ=>Ξ23 ξ λy7 H7 I7 r7 q7=>?_);exact h8 (AF (Cj _ s7 σ6 H7 _ I7 q7) λu8 s8⟨y8,H8,I8,r8,k8,e8,d8,q8⟩=>?_);subst e8;exact h8 (bq I8 d8 hz r7 r8 λs9 I9=>again I9 q8)
 exact codeAny_compStart_dict loop (T.self X.A 0 _ _ _ (T.keep _ _ _ nG λb _ o e=>kk b o e) loop)
end
def De(a:Addr):Nat→Heap→Prop
 |0,h=>∃led:Bool,h.get? a=some {cls:=.type "set",dict:=none,data:=.set #[] 0 (.fresh 0 0 led)}
 |n+1,h=>∃o es ep t,h.get? a=some o∧o.ExactSet∧o.data=.set es ep t∧t.fits es.size=true∧es.size=n+1
theorem Zf{H:A4}{h:Heap}(q:De a n h):bZ P w H h a (.ext (De a n)):=by
 exact⟨q,?_,λh1 h2 q1 k=>?_⟩
 ·cases n with
  |zero=>let⟨l,e⟩:=q;exact⟨_,e⟩
  |succ n=>let⟨o,_,_,_,e,_⟩:=q;exact⟨o,e⟩
 ·cases n with
  |zero=>let⟨l,e⟩:=q1;exact⟨l,k _ e⟩
  |succ n=>let⟨o,es,ep,t,e,r⟩:=q1;exact Ψ4 o es ep t ⟨k o e,r⟩
theorem xo(led:Bool)(f:Nat→Int)(h:Int)(p:SetTable.Probe):(SetTable.fresh 0 0 led).probe f h p=some (.empty p.j p.dummy):=by
 unfold SetTable.probe;show SetTable.probe.go (SetTable.fresh 0 0 led) f h (219+1) p=_
 rw[SetTable.probe.go];rfl
section
variable {P: Program}{w: World}
theorem fu{Q:Option Bool×Unit→Shared→Prop}:∀{l:List Value} {ks:List AG},ItemsAre (BS P w) ks l→(∀r,Q r s)→wpAny (model P w) A (forIn l ((none:Option Bool),()) λx __s=>do
      let __do_lift ←hashByValue 7 x
      if(!__do_lift)=true then pure (ForInStep.done (some false,()))else pure (ForInStep.yield (none,()))) Q E s
 |_,_,.nil,h=>by rw[Sj];exact AS (h _)
 |_,_,.cons e r,h=>by
  rw[Y8];rcases GP e with⟨i,t,rfl,rfl⟩|⟨x,t,rfl,rfl⟩
  ·exact A8 (A8 ?_)
   rw[show hashByValue 7 (.int i t)=pure true from by simp[hashByValue]];exact AS ?_;rw[AN (by simp)];exact AS (fu r h)
  ·exact A8 (A8 ?_)
   rw[show hashByValue 7 (.str x t)=pure false from by simp[hashByValue]];exact AS ?_;rw[AR (by simp)];exact AS (AS (h _))
theorem zG{Q:Bool→Shared→Prop}(hk:(tupleKind (BS P w)).is s.heap ks b)(h:∀r,Q r s):wpAny (model P w) A (hashByValue 8 (.ref b)) Q E s:=by
 let⟨o,items,n,ho,hc,hd,hi⟩:=hk;unfold hashByValue;exact A8 (wpAny_specialOf ⟨o,ho,hc⟩ PySem.F.slot_tuple_hash.lookup ?_);split
 ·exact A8 (Gm ho hd ?_)
  exact A8 ?_;show wpAny _ _ (forIn items _ _) _ _ s
  rw[←Array.forIn_toList];exact fu hi λr=>?_;dsimp only;split
  ·exact AS (h _)
  ·exact AS (h _)
 all_goals (rename_i e;first|(exact absurd rfl e)|(exfalso;simp at e;done)|(exfalso;simp_all))
theorem wD{Q:xz}(hu:A.units+1<cLine)(hS:De D 0 s.heap)(hk:(tupleKind (BS P w)).is s.heap ks b)
  (h:∀h' t',Heap.SameBut D s.heap h'→De D 1 h'→Q .none {s with heap:=h',toks:=t'}):wpAny (model P w) A (call (.builtin "set.add") [.ref D,.ref b]) Q E s:=by
 obtain⟨led,hS⟩:=hS;exact Hy PySem.F.slot_set_add ⟨_,hS,rfl⟩ PySem.F.entry_set_add ?_ (PySem.F.args_set_add_2 _ _);unfold Builtin.«set.add» Builtin.Frozenset.oneOther;simp only[List.isEmpty_nil,bind_assoc];unfold Builtin.Frozenset.addrOf setAdd;exact A8 (AS ?_)
 try dsimp only
 exact A8 (AS ?_)
 try dsimp only
 exact A8 ?_;exact F7 ?_;exact A8 ((tupleKind (BS P w)).pyHash (IQ hu) hk ?_);unfold setAddHashed setAddHashedIn;exact F7 (A8 (Ti (s:={s with toks:=s.toks+_}) hS rfl rfl ?_));dsimp only;rw[AN (show ¬byScan (Value.ref b) #[]=true from BJ)];unfold setSearch;exact A8 ?_;unfold setSearchFrom;exact A8 (Ti (s:={s with toks:=s.toks+_}) hS rfl rfl ?_);dsimp only;rw[AN (show ¬(SetTable.fresh 0 0 led).gaveWay=true from λe=>by unfold SetTable.gaveWay SetTable.fresh at e;simp at e),xo];dsimp only;exact AS ?_;generalize ((none:Option SetTable.Probe).getD ((SetTable.fresh 0 0 led).probeStart ((tupleKind (BS P w)).hash ks))).j=j;exact A8 (Ti (s:={s with toks:=s.toks+_}) hS rfl rfl ?_);dsimp only;rw[AR (show((SetTable.fresh 0 0 led).put j).fst.plain=true from rfl)];exact A8 (zG hk λr=>?_);have hf:(if r=true then((SetTable.fresh 0 0 led).put j).fst else {((SetTable.fresh 0 0 led).put j).fst with plain:=false}).fits 1=true:=by cases r<;>rfl
 have hF:(if r=true then((SetTable.fresh 0 0 led).put j).fst else {((SetTable.fresh 0 0 led).put j).fst with plain:=false}).tooFull=false:=by cases r<;>rfl
 generalize (if r=true then((SetTable.fresh 0 0 led).put j).fst else {((SetTable.fresh 0 0 led).put j).fst with plain:=false})=t2 at hf hF ⊢;rw[hF];have hz:(SetTable.insertAt #[] ((SetTable.fresh 0 0 led).put j).snd ((tupleKind (BS P w)).hash ks,Value.ref b)).size=1:=rfl;generalize SetTable.insertAt #[] ((SetTable.fresh 0 0 led).put j).snd ((tupleKind (BS P w)).hash ks,Value.ref b)=Np at hz ⊢;exact A8 (wpAny_storeSet_of (s:={s with toks:=s.toks+_}) hS rfl ?_ (by rw[hz];decide));rw[AN (by simp)];exact AS (AS ⟨_,rfl,h _ _ (YC s.heap D _) ?_⟩);have hg:=Heap.get?_update_self (Obj.putSet Np t2) hS (by rw[putSet_of Np t2 rfl];rfl);rw[putSet_of Np t2 rfl]at hg;exact Ψ4 _ Np _ t2 ⟨hg,⟨rfl,rfl,rfl⟩,rfl,by rw[hz];exact hf,hz⟩
end
def dB(wi:DE)(g:DB)(te:AO)(own:List Str)(cap:List (Nat×Str)):AO:=λσ H Q=>wi σ H λJ H1=>∀D,H1 D=none→
 ∃W:Nat→Nat→St→Nat→A4→Prop,(∃m,W 0 m (Ex own cap σ) 0 (AK H1 D (.ext (De D 0))))∧∀i m σ' n H',W i m σ' n H'→H' D=some (.ext (De D n))∧
  ((J.stop i H'∧Q (.ref D) H')∨(J.go i H'∧n=0∧∃N:St→A4→Prop,(∀σ H,N σ H→∃m',m' < m∧W (i+1) m' σ 1 H)∧∀x H2,J.oK i H' x H2→g x σ' H2 λσ3 H3=>te σ3 H3 λy H5=>∃(b:Addr) (ks:List AG),y=.ref b∧H5 b=some (.tup (ks.map Ay))∧H5 D=some (.ext (De D 0))∧
   N σ3 (AK H5 D (.ext (De D 1)))))
section
variable {elt: Expr}{te: AO}
theorem jQ(hu:X.A.units+1<cLine)(c:di X scope cl own cap)(hc:X.calm=true)(hi:PI X tg iter wi)
  (hg:∀C s H fp,PG (BE X (own++cap.map (·.2)) scope cl C s H fp λ_ _=>False) tg g)
  (he:∀C s H fp,PE (BE X (own++cap.map (·.2)) scope cl C s H fp λ_ _=>False) elt te) (hs:∀x,foldedSetIterable iter X.env x=pure x:=by intro _;rfl) :
  PE X (.SetComp elt [⟨tg,iter,[],0⟩] scope pos) (dB wi g te own cap):=by
 exact .mk ?_;intro v0 s σ H Q I h;show wpAny _ X.A (comprehension (.SetComp elt [⟨tg,iter,[],0⟩] scope pos) scope X.env _ (newSet (.type "set")) false (eval iter X.env)) _ _ s
 exact Ka (use:=none) rfl hs c.wQ c.kind c.names (AF (hi v0 s σ H _ I h) λv s1 h1=>AF h1 λIa s2 h2=>?_);let⟨it,fp,tn,J,H2,e,I2,T,nG,f2,hw⟩:=h2;subst e;exact wpAny_newSet_of (knd:=strKind X.prog X.w) λled hS=>KZ c.cell (by intro y hy;simp at hy) (λh₁ gR fY=>?_) c.kind;dsimp only at gR fY ⊢;generalize hO:({cls:=.type "set",dict:=none,data:=.set #[] 0 (.fresh 0 0 led)}:Obj)=O at hS gR fY ⊢;have hsz:(s2.heap.push O).objs.size=s2.heap.objs.size+1:=FL _ _;have kk:∀b o,s2.heap.get? b=some o→h₁.get? b=some o:=λb o e=>fY.extBut b o (by rw[hsz];exact B3 (Gl (Aq e))) (Ap _ (Ap _ e));have IF:De s2.heap.objs.size 0 h₁:=⟨led,by rw[hO];exact fY.extBut _ _ (by rw[hsz];exact B3 (Hq _)) (Ap _ (Cv _ (by rw[←hO];rfl)))⟩;rw[hsz]at gR ⊢;have dk:∀b∈fp,b<s2.heap.objs.size:=λb hb=>by
  let⟨o,e,_⟩:=T.obj _ _ nG b hb;exact Aq e
 let⟨W,⟨m0,w0⟩,turn⟩:=hw s2.heap.objs.size I2.fresh;have J1:=MS (E:=λ_ _=>False) c I2 f2 dk (tk:=s2.toks+([]:List (Str×Value)).length) kk (Zf IF) gR;generalize eJ:BE X (own++cap.map (·.2)) scope cl (s2.heap.objs.size+1) s2 H2 fp (λ_ _=>False)=X' at J1;have Ea:PG X' tg g:=eJ ▸ hg _ _ _ _;have LZ:PE X' elt te:=eJ ▸ he _ _ _ _;have pX:X'.prog=X.prog:=by rw[←eJ];rfl
 have wX:X'.w=X.w:=by rw[←eJ];rfl
 have kX:X'.K=X.K:=by rw[←eJ];rfl
 have aX:X'.A=X.A:=by rw[←eJ];rfl
 have cX:X'.calm=true:=by rw[←eJ];exact hc
 have nX:X'.env=compEnvC scope cl (s2.heap.objs.size+1) X.env:=by rw[←eJ];rfl
 have xX:X'.xe=λ_ _=>False:=by rw[←eJ];rfl
 have fX:∀b∈fp,∀{H':A4},H' b=none→D4 X' [] H' b:=λb hb {H'} hn=>by
  have o1:=(FY (E:=λ_ _=>False) c I2 f2 dk (C:=s2.heap.objs.size+1) (BO _)).Cq b hb;have o2:=(FY (E:=λ_ _=>False) c I2 f2 dk (C:=s2.heap.objs.size+1) (BO _)).oF b hb;rw[←eJ];exact⟨hn,o1.1,o2,.inl hb,o1.2,λp hp=>absurd (show p∈([]:ac)from hp) (by simp)⟩
 have Ec:∀D C s' H' m,Inv X v0 σ H' s'→D4 X v0 H' C→s'.heap.Ns C m→Q (.ref D) H'→compPost (model X.prog X.w) X.A X.xe none (BD X v0 σ Q) (.ref D) C (.ok .next) s':=by
  intro D C s' H' m I' hC hm q;exact⟨m,hm,λh' hG=>Ψ2 (.ref D) H' ⟨?_,rfl,q⟩⟩;exact I'.turned (t':=s'.toks) (λb o hb e=>(hG.2 b hb).trans e) hC.1 hC.2.1 hC.2.2.2.1 hC.2.2.2.2.1 hC.2.2.2.2.2
 have fin:∀{σ':St} {H':A4} {s':Shared},Inv X' [] σ' H' s'→Q (.ref s2.heap.objs.size) H'→compPost (model X.prog X.w) X.A X.xe none (BD X v0 σ Q) (.ref s2.heap.objs.size) (s2.heap.objs.size+1) (.ok .next) s':=λ{σ' H' s'} J' q=>by
  rw[←eJ]at J';let⟨A1,A2⟩:=KS I2 f2 (BO _) J';let⟨m,hm,_⟩:=J'.loc;exact Ec _ _ s' H' m A1 A2 hm q
 have loop:codeAny (model X.prog X.w) X.A (.compLoop (.SetComp elt [⟨tg,iter,[],0⟩] scope pos) 0 (.ref it) (.ref s2.heap.objs.size) (compEnvC scope cl (s2.heap.objs.size+1) X.env)) (compPost (model X.prog X.w) X.A X.xe none (BD X v0 σ Q) (.ref s2.heap.objs.size) (s2.heap.objs.size+1))
   {s2 with heap:=h₁,toks:=s2.toks+([]:List (Str×Value)).length}:=by
  exact eK (λn s'=>∃i σ' z H',Inv X' [] σ' H' s'∧tn i s'.heap∧(∀b∈fp,H' b=none)∧W i n σ' z H') ?_ m0
   ⟨0,_,0,_,J1,T.keep _ _ _ nG λb _ o e=>kk b o e,λb hb=>by rw[Al (B3 (dk b hb))];exact(f2 b hb).1,w0⟩
  intro n s3⟨i,σ3,z,H3,I3,tN,uA,w3⟩;let⟨Nl,w4⟩:=turn i n σ3 z H3 w3;rw[←nX,←aX,←pX,←wX];have h8:∀{α:Type} {t:Sem α} {Q1:α→Shared→Prop} {E1:xz} {s:Shared},wpAny (model X'.prog X'.w) X'.A t Q1 X'.xe s→wpAny (model X'.prog X'.w) X'.A t Q1 E1 s:=λ{α t Q1 E1 s} h=>by
   rw[xX]at h;exact BF h (λ_ _ q=>q) λ_ _ f=>f.elim
  rcases w4 with⟨stop,qn⟩|⟨go,hz,N,hN,step⟩
  ·have d:=T.done X' pX wX kX cX i [] s3 σ3 H3 X'.xe I3 (λb hb=>fX b hb (uA b hb)) tN stop
   rw[←pX,←wX]at d;exact h8 (AF d λr s4 ξ=>Ξ02 ξ λhr I4=>?_);subst hr;have f4:=fin I4 qn;rw[←pX,←wX,←aX]at f4;exact f4
  ·have d:=T.item X' pX wX kX cX i [] s3 σ3 H3 X'.xe I3 (λb hb=>fX b hb (uA b hb)) tN go
   rw[←pX,←wX]at d;exact h8 (AF d λr s4 ξ=>Ξ12 ξ λu hr h4=>?_);subst hr;exact h8 (AF h4 λ_ s5 ξ=>Ξ25 ξ λx H5 I5 r5 y5 pA BC=>?_);have Cc:=I5.pinned (λb hb=>fX b hb (BC b hb)) (T.obj _ _ pA);have again:∀{σ7:St} {H7:A4} {s7:Shared},Inv X' ([]++Gh fp s5.heap) σ7 H7 s7→N σ7 H7→
     ∃m,m<n∧∃i σ' z H',Inv X' [] σ' H' s7∧tn i s7.heap∧(∀b∈fp,H' b=none)∧W i m σ' z H':=λ{σ7 H7 s7} I7 n7=>by
    let⟨m',hm,w7⟩:=hN _ _ n7;exact⟨m',hm,i+1,σ7,1,H7,I7.fO,T.keep _ _ _ pA λb hb o e=>(I7.pin (b,o) (CB _ (CB _ (FU hb e)))).1,λb hb=>?_,w7⟩;let⟨o,e,d⟩:=T.obj _ _ pA b hb;exact(I7.pin (b,o) (CB _ (CB _ (FU hb e)))).2.1
   exact h8 (AF (Ea _ s5 σ3 H5 x u _ Cc r5 (step x H5 y5)) λ_ s6 ξ=>Ξ22 ξ λσ6 H6 I6 q6=>?_);exact h8 (AF (LZ _ s6 σ6 H6 _ I6 q6) λu8 s8⟨y8,H8,I8,r8,b8,Xn,e8,t8,d8,q8⟩=>?_);subst e8;obtain rfl:u8=Value.ref b8:=r8;have OQ:De s2.heap.objs.size 0 s8.heap:=(I8.bO _ _ d8).1;exact h8 (wD (P:=X'.prog) (w:=X'.w) (by rw[aX];exact hu) OQ (Hs I8.bO t8) λh' Xc Pp L9=>?_);exact again (I8.write (x:=s2.heap.objs.size) (e:=s2.heap.objs.size) (o:=.ext (De s2.heap.objs.size 1)) (by rw[d8];exact trivial) (.inl rfl) (λb' u hb hu=>(Pp.2 b' hb).trans hu) ?_ (Zf L9)) q8;let⟨o,_,_,_,e,_⟩:=L9;exact⟨o,e⟩
 exact Zy loop (T.self X.A 0 _ _ _ (T.keep _ _ _ nG λb _ o e=>kk b o e) loop)
theorem mJ:F1 X (.builtin "len") (λxs H Q=>∃(p:Addr) (n:Nat),xs=[.ref p]∧n≤1∧H p=some (.ext (De p n))∧Q (.int n) H):=by
 intro v0 s σ H vs us Q I rv h;let⟨p,n,rfl,Xp,hp,q⟩:=h;let⟨u,rfl,ru⟩:=rv.one;cases ru;have ok:=(I.bO p _ hp).1;cases n with
 |zero=>
  let⟨led,e⟩:=ok;exact call_len_set e ⟨rfl,rfl,rfl⟩ rfl rfl (by decide) ⟨.int (0:Nat),H,I.tok _,⟨s.toks+1,rfl⟩,q⟩
 |succ n=>
  let⟨o,es,ep,t,e,ex,d,hf,hn⟩:=ok;exact call_len_set e ex d hf (by lia) ⟨.int (n+1:Nat),H,I.tok _,⟨s.toks+1,by rw[hn]⟩,q⟩
end
theorem iH{X:Cx}(hu:X.A.units<cLine):iC X (compareOp .Eq) (λx y H Q=>∃a vs,x=.non∧y=.ref a∧H a=some (.tup vs)∧Q (.bl false) H):=by
 intro v0 s σ H x y v u Q I rx ry h;let⟨a,vs,rfl,rfl,hp,q⟩:=h;cases rx;cases ry;let⟨bj,rv,pl,hz⟩:=I.tuple (dW.of (K:=X.K) hp);exact SeqAt.RcAt.none_tuple pl hu _ _ _ _ ⟨.bl false,H,I,rfl,q⟩
section
variable {prog: Program}{w: World}
theorem gT{it l:Addr}{items:Array Value}(Nk:l≠it):∀(n i:Nat) (s:Shared) (Q:List Value→Shared→Prop),s.heap.IsListIter it l i→s.heap.IsList l items→i+n≤items.size→
  (∀h',h'.IsListIter it l (i+n)→Heap.SameBut it s.heap h'→Q ((items.toList.drop i).take n) {s with heap:=h'})→wpAny (model prog w) A (draw (.ref it) n) Q E s
 |0,i,s,Q,hit,_,_,hQ=>by
  show wpAny _ _ (pure []) Q E s
  exact AS (by simpa using hQ s.heap hit (Heap.SameBut.refl ..))
 |n+1,i,s,Q,hit,ht,hle,hQ=>by
  have dk:i<items.size:=by lia
  show wpAny _ _ (pyNext (.ref it) >>= _) Q E s
  exact A8 (wpAny_pyNext_list_item hit ht (x:=items[i]) (by simp[dk]) λh₁ Iq LP=>?_);exact A8 (F7 (gT Nk n (i+1) _ _ Iq (ht.extBut LP.extBut Nk) (by lia) λh₂ PD Uy=>AS ?_));have hd:items.toList.drop i=items[i]::items.toList.drop (i+1):=by simp[gQ,dk]
  have:=hQ h₂ (by rw[show i+(n+1)=i+1+n by lia];exact PD) (LP.trans Uy);rw[hd,List.take_succ_cons]at this;exact this
theorem aas{Q:List Value→Shared→Prop}(hh:A.handled=none)(ht:s.heap.IsList l items)
  (hQ:∀h',Heap.ExtBut s.heap.objs.size s.heap h'→Q items.toList {s with heap:=h'}):wpAny (model prog w) A (unpackItems (.ref l) items.size none) Q E s:=by
 have dk:l≠s.heap.objs.size:=by let⟨o,ho,_⟩:=ht;exact B3 (Aq ho)
 unfold unpackItems;exact A8 ?_
 ·unfold notIterableAtAll
  exact A8 (wpAny_specialOf ht.typeIs slot_list_iter.lookup ?_);exact AS ?_;simp only[Bool.false_eq_true,J2];exact A8 (F7 (NL ht ?_));exact A8 (F7 (gT dk items.size 0 _ _ ⟨_,Cv _ rfl,rfl,rfl⟩ (ht.push _) (by lia) λh₁ Iq LP=>?_));have ux:List.take items.size (List.drop 0 items.toList)=items.toList:=by
   rw[MC];exact LI (by simp)
  rw[ux];rw[AN (by simp)];have Ux:h₁.IsList l items:=(ht.push _).extBut LP.extBut dk;exact A8 (F7 (wpAny_pyNext_list_end hh Iq Ux (by simp) λh₂ UZ=>?_));simp only[Option.isSome_none,Bool.false_eq_true,J2];exact AS (hQ h₂ λb o hb e=>UZ b o hb (LP.extBut b o hb (Ap _ e)))
end
def lT(n:Nat)(t:FN):DB:=λv σ H Q=>∃a xs,v=.ref a∧H a=some (.lst xs)∧xs.length=n∧t xs σ H Q
theorem oo{X:Cx}{pos:Pos}{es:List Expr}{k:Nat}{t:FN}(hc:X.calm=true)(h:vf X es t)
  (hn:(assignEach es X.env).length=n:=by rfl) (tK:(assignEach es X.env).findIdx? (·.1)=none:=by rfl):PG X (.Tuple es k pos) (lT n t):=by
 exact .mk ?_;intro v0 s σ H v u Q I r hw;obtain⟨a,xs,e1,hq,hl,hw⟩:=hw;subst e1;cases r;let⟨hz,⟨bj,n',rv,RA,hg⟩⟩:=I.D1 hq;have il:s.heap.IsList a bj.toArray:=⟨_,hg,rfl,n',rfl⟩;rw[PyProof.Rows.assign_Tuple];exact A8 (GS ?_);unfold unpack;have Jt:(assignEach es X.env).length=bj.toArray.size:=by simp[hn,←hl,RA]
 rw[Jt,tK];exact A8 (F7 (aas (I.ok.hd hc) il λh' hx=>?_));have I1:Inv X v0 σ H {s with heap:=h'}:=I.kept (t':=s.toks) λb o e=>hx b o (B3 (Aq e)) e;exact h v0 _ σ H xs _ Q I1 (by simpa using rv) hw
end L2
namespace WD
abbrev top:=Int×Int
abbrev rat:=Int×Int×Int
end WD
namespace L3
open PySem PySem.Spec L2
open PyProof.Rows hiding St
variable {Γ Γ1 Γ':AJ}{a p:Addr}{o o3 o2:O}{b neg:Bool}{u:Value}{K:W.Frag}{vs:List V}{xs ts us:List T}{i k n kk:Nat}{v:V}{x:T}{H H':A4}{Y: Ey}{E: St→Ax}{Z: Cw}{Q:Option Int→AJ→Prop}{e tg c:Expr}{t ta:C5}{t' t0:C0}{z qual:Str}{pos np ek: Pos}{r:T→AJ→Cw→Prop}{tb: AI}{v4 elts:List Expr}{tc:CP}{es: List Expr}{g:CD}{gs:Gn}{te tl:AI}{pos' rL:Pos}{wi:I3}{τ: Az}{own N ps:List Str}{cap:List (Nat×Str)}{f:Value→Value→Sem Value}{C:Int→Int→Prop}{g3:Int→Int→T}{th:Hm}{Tn: String}{Ty:String}{l:List Addr}{st:Stmt}{fd:FuncData}{sp:Am}{A:List T→AJ→Prop}{j:Int}{I:List T→(AJ→Prop)→AJ→Prop}{X: Cx}
inductive T where
 |non|bl (b:Bool)|int (i:Int)|str (z:Str)|tup (ts:List T)|ref (a:Addr)|ty (n:String)
 /-- a list JQ OW changes (vo vD) -/
 |scr (K:W.Frag) (a:Addr) (ts:List T)
def EA(K:W.Frag)(H:A4)(a:Addr)(vs:List V):Prop:=(∃o,H a=some (.frz o (.lst vs))) ∨
 ∃(o:Obj) (bj:Array Value) (n:Nat),K.lookup a=some o∧o.cls=.type "list" ∧ o.dict=none∧o.data=.seq bj n∧bj.size≤sizeLine∧Vals vs bj.toList
inductive O where
 |lst (ts:List T)
 |ins (C dx:Addr) (fs:List (Str×T))
 |own (x:Addr)
 |dK (ay:List (AG×T))
 |ext (φ:Heap→Prop)
 /-- vo table of a def JQ makes a O4 -/
 |lam (q:Str) (pos:Pos)
abbrev AJ:=Addr→Option O
def A9(Γ:AJ)(a:Addr)(o:O):AJ:=λb=>if b=a then some o else Γ b
theorem B1:A9 Γ a o a=some o:=by unfold A9;rw[AR rfl]
theorem Bz{b:Addr}(h:b≠a):A9 Γ a o b=Γ b:=by unfold A9;rw[AN h]
theorem ND{u:O}:A9 (A9 Γ a o) a u=A9 Γ a u:=by
 funext b;unfold A9;split<;>rfl
theorem YO{b:Addr}{u:O}(h:Γ a=some o)(h':Γ b=some u)(d:o≠u):a≠b:=by
 intro e;subst e;rw[h]at h';exact d (Ek h')
theorem EZ{b:Addr}(h:Γ a=some o)(h':Γ b=none):a≠b:=by
 intro e;subst e;rw[h]at h';cases h'
mutual
def R(H:A4):V→T→Prop
 |v,.non=>v=.non
 |v,.bl b=>v=.bl b
 |v,.int i=>v=.int i
 |v,.str z=>v=.str z
 |v,.ref a=>v=.ref a
 |v,.ty n=>v=.ty n
 |v,.tup ts=>∃a vs,v=.ref a∧H a=some (.tup vs)∧Rs H vs ts
 |v,.scr K a ts=>v=.ref a∧∃vs,EA K H a vs∧Rs H vs ts
def Rs(H:A4):List V→List T→Prop
 |vs,[]=>vs=[]
 |vs,t::r=>∃v ws,vs=v::ws∧R H v t∧Rs H ws r
end
def Tq(H H':A4):Prop:=(∀a vs,H a=some (.tup vs)→H' a=some (.tup vs))∧∀a o u,H a=some (.frz o u)→H' a=some (.frz o u)
section
variable {H H': A4}
theorem Tq.refl:Tq H H:=⟨λ_ _ h=>h,λ_ _ _ h=>h⟩
theorem Tq.trans{H1:A4}(a:Tq H H1)(b:Tq H1 H'):Tq H H':=⟨λx vs h=>b.1 x vs (a.1 x vs h),λx o u h=>b.2 x o u (a.2 x o u h)⟩
theorem EA.mono(t:Tq H H')(h:EA K H a vs):EA K H' a vs:=by
 rcases h with⟨o,h⟩|h
 ·exact .inl ⟨o,t.2 _ _ _ h⟩
 ·exact .inr h
mutual
theorem R.mono(t:Tq H H'):∀{x:T} {v:V},R H v x→R H' v x
 |.non,v,h=>by unfold R at h ⊢;exact h
 |.bl _,v,h=>by unfold R at h ⊢;exact h
 |.int _,v,h=>by unfold R at h ⊢;exact h
 |.str _,v,h=>by unfold R at h ⊢;exact h
 |.ref _,v,h=>by unfold R at h ⊢;exact h
 |.ty _,v,h=>by unfold R at h ⊢;exact h
 |.tup ts,v,h=>by
  unfold R at h ⊢;let⟨a,vs,e,s,q⟩:=h;exact Ψ2 a vs ⟨e,t.1 a vs s,Rs.mono t q⟩
 |.scr K a ts,v,h=>by
  unfold R at h ⊢;let⟨e,⟨vs,s,q⟩⟩:=h;exact⟨e,vs,s.mono t,Rs.mono t q⟩
theorem Rs.mono(t:Tq H H'):∀{xs:List T} {vs:List V},Rs H vs xs→Rs H' vs xs
 |[],vs,h=>by unfold Rs at h ⊢;exact h
 |x::r,vs,h=>by
  unfold Rs at h ⊢;let⟨v,ws,e,p,q⟩:=h;exact Ψ2 v ws ⟨e,R.mono t p,Rs.mono t q⟩
end
theorem Rs.length:∀{xs:List T} {vs:List V},Rs H vs xs→vs.length=xs.length
 |[],vs,h=>by unfold Rs at h;subst h;rfl
 |x::r,vs,h=>by
  unfold Rs at h;let⟨v,ws,e,_,q⟩:=h;rw[e,D0,D0,Rs.length q]
theorem Rs.get:∀{xs:List T} {vs:List V} {i:Nat} {x:T},Rs H vs xs→xs[i]?=some x→∃v,vs[i]?=some v∧R H v x
 |[],vs,i,x,h,e=>by simp at e
 |y::r,vs,i,x,h,e=>by
  unfold Rs at h;let⟨v,ws,e1,p,q⟩:=h;subst e1;cases i with
  |zero=>cases e;exact⟨v,rfl,p⟩
  |succ i=>exact Rs.get (i:=i) q e
theorem Rs.wC(h:Rs H vs xs)(e:vs[i]?=some v):∃x,xs[i]?=some x∧R H v x:=by
 have hl:=h.length;obtain⟨hi,_⟩:=YG.mp e;have Fj:i<xs.length:=by lia
 let⟨v',e',r⟩:=h.get (i:=i) (x:=xs[i]) (by simp[Fj]);rw[e]at e';cases e';exact⟨xs[i],by simp[Fj],r⟩
theorem Rs.app:∀{xs ys:List T} {vs ws:List V},Rs H vs xs→Rs H ws ys→Rs H (vs++ws) (xs++ys)
 |[],ys,vs,ws,h,h'=>by unfold Rs at h;subst h;exact h'
 |x::r,ys,vs,ws,h,h'=>by
  unfold Rs at h;let⟨v,us,e,p,q⟩:=h;subst e;show Rs H (v::(us++ws)) (x::(r++ys))
  unfold Rs;exact Ψ2 v _ ⟨rfl,p,Rs.app q h'⟩
theorem FI:Rs H [] []:=by unfold Rs;rfl
theorem Et(a:R H v x)(b:Rs H vs xs):Rs H (v::vs) (x::xs):=by
 unfold Rs;exact Ψ2 v vs ⟨rfl,a,b⟩
theorem G5(h:Rs H vs (x::xs)):∃v ws,vs=v::ws∧R H v x∧Rs H ws xs:=by unfold Rs at h;exact h
theorem Gf(h:Rs H vs []):vs=[]:=by unfold Rs at h;exact h
theorem Rs.drop:∀{xs:List T} {vs:List V} (n:Nat),Rs H vs xs→Rs H (vs.drop n) (xs.drop n)
 |xs,vs,0,h=>h
 |[],vs,n+1,h=>by rw[Gf h];exact FI
 |x::r,vs,n+1,h=>by
  let⟨v,ws,e,_,q⟩:=G5 h;subst e;exact Rs.drop n q
theorem Rs.take:∀{xs:List T} {vs:List V} (n:Nat),Rs H vs xs→Rs H (vs.take n) (xs.take n)
 |xs,vs,0,h=>by rw[XQ,XQ];exact FI
 |[],vs,n+1,h=>by rw[Gf h];exact FI
 |x::r,vs,n+1,h=>by
  let⟨v,ws,e,p,q⟩:=G5 h;subst e;exact Et p (Rs.take n q)
end
def Fs(H:A4):List (Str×V)→List (Str×T)→Prop:=Paired λ(p:Str×V) (q:Str×T)=>p.1=q.1∧R H p.2 q.2
def Ks(H:A4):List (AG×V)→List (AG×T)→Prop:=Paired λ(p:AG×V) (q:AG×T)=>p.1=q.1∧R H p.2 q.2
theorem TE{α β:Type}{P Q:α→β→Prop}(h:∀a b,P a b→Q a b):∀{xs:List α} {ys:List β},Paired P xs ys→Paired Q xs ys
 |_,_,.nil=>.nil
 |_,_,.cons a b=>.cons (h _ _ a) (TE h b)
theorem Fs.mono(t:Tq H H'){a:List (Str×V)}{b:List (Str×T)}(h:Fs H a b):Fs H' a b:=TE (λ_ _ q=>⟨q.1,q.2.mono t⟩) h
theorem Ks.mono(t:Tq H H'){a:List (AG×V)}{b:List (AG×T)}(h:Ks H a b):Ks H' a b:=TE (λ_ _ q=>⟨q.1,q.2.mono t⟩) h
def Ho(H:A4)(a:Addr):O→Prop
 |.lst ts=>∃vs,H a=some (.lst vs)∧Rs H vs ts
 |.ins C dx fs=>∃gs,H a=some (.ins C dx gs)∧Fs H gs fs
 |.own x=>H a=some (.own x)
 |.dK ay=>∃us,H a=some (.dK us)∧Ks H us ay
 |.ext φ=>H a=some (.ext φ)
 |.lam q pos=>mv H a q pos
def HR(H:A4)(Γ:AJ):Prop:=∀a o,Γ a=some o→Ho H a o
structure fM(H:A4)(Γ:AJ)(H':A4)(Γ':AJ):Prop where
 tq:Tq H H'
 sU:∀a,H a≠none→H' a≠none
 new:∀a,H a≠none→Γ a=none→Γ' a=none
 rq:∀a o,H a=some o→Γ a=none→H' a=some o
section
variable {H H' H1: A4}{Γ Γ' Γ1: AJ}
theorem fM.refl:fM H Γ H Γ:=⟨.refl,λ_ h=>h,λ_ _ h=>h,λ_ _ h _=>h⟩
theorem fM.trans(a:fM H Γ H1 Γ1)(b:fM H1 Γ1 H' Γ'):fM H Γ H' Γ':=
 ⟨a.tq.trans b.tq,λx h=>b.sU x (a.sU x h),λx h g=>b.new x (a.sU x h) (a.new x h g),λx o h g=>b.rq x o (a.rq x o h g) (a.new x (by rw[h];exactλz=>(nomatch z)) g)⟩
theorem Ho.mono(t:Tq H H')(e:∀u,H a=some u→H' a=some u)(h:Ho H a o):Ho H' a o:=by
 cases o with
 |lst ts=>obtain⟨vs,h,r⟩:=h;exact⟨vs,e _ h,r.mono t⟩
 |ins C dx fs=>obtain⟨vs,h,r⟩:=h;exact⟨vs,e _ h,r.mono t⟩
 |own x=>exact e _ h
 |dK ay=>obtain⟨vs,h,r⟩:=h;exact⟨vs,e _ h,r.mono t⟩
 |ext φ=>exact e _ h
 |lam q pos=>
  rcases h with h|⟨c',oc,vs,t',u,h1,h2,h3⟩
  ·exact .inl (e _ h)
  ·exact .inr ⟨c',oc,vs,t',u,e _ h1,t.2 _ _ _ h2,h3⟩
theorem Ho.some(h:Ho H a o):∃u,H a=some u∧(∀vs:List V,u≠.tup vs)∧∀b w,u≠.frz b w:=by
 cases o with
 |lst ts=>obtain⟨vs,h,r⟩:=h;exact⟨_,h,⟨λ_ z=>(nomatch z),λ_ _ z=>(nomatch z)⟩⟩
 |ins C dx fs=>obtain⟨vs,h,r⟩:=h;exact⟨_,h,⟨λ_ z=>(nomatch z),λ_ _ z=>(nomatch z)⟩⟩
 |own x=>exact⟨_,h,⟨λ_ z=>(nomatch z),λ_ _ z=>(nomatch z)⟩⟩
 |dK ay=>obtain⟨vs,h,r⟩:=h;exact⟨_,h,⟨λ_ z=>(nomatch z),λ_ _ z=>(nomatch z)⟩⟩
 |ext φ=>exact⟨_,h,⟨λ_ z=>(nomatch z),λ_ _ z=>(nomatch z)⟩⟩
 |lam q pos=>
  rcases h with h|⟨c',oc,vs,t',u,h,_⟩
  ·exact⟨_,h,⟨λ_ z=>(nomatch z),λ_ _ z=>(nomatch z)⟩⟩
  ·exact⟨_,h,⟨λ_ z=>(nomatch z),λ_ _ z=>(nomatch z)⟩⟩
theorem HR.free(h:HR H Γ)(n:H a=none):Γ a=none:=by
 cases e:Γ a with
 |none=>rfl
 |some o=>
  let⟨u,hu,_⟩:=(h a o e).some;rw[n]at hu;cases hu
theorem Ct(k:∀b o,H b=some o→H' b=some o):Tq H H':=⟨λa vs h=>k _ _ h,λa o u h=>k _ _ h⟩
theorem fM.keep(k:∀b o,H b=some o→H' b=some o):fM H Γ H' Γ:=
 ⟨Ct k,λa h z=>by
  cases e:H a with
  |none=>exact h e
  |some o=>exact(by rw[k a o e]at z;cases z),λ_ _ h=>h,λa o h _=>k a o h⟩
theorem HR.keep(h:HR H Γ)(k:∀b o,H b=some o→H' b=some o):HR H' Γ:=λa o e=>(h a o e).mono (Ct k) (k a)
theorem Bw{o:HO}(h:H p=none):∀b u,H b=some u→AK H p o b=some u:=λb u q=>by rw[Al (FV q h)];exact q
theorem fM.make{o:HO}(h:H p=none):fM H Γ (AK H p o) (A9 Γ p o3):=by
 exact⟨Ct (Bw h),λa q z=>?_,λa q g=>?_,λa u q _=>Bw h a u q⟩
 ·by_cases e:a=p
  ·subst e;exact q h
  ·rw[Al e]at z;exact q z
 ·have e:a≠p:=λe=>q (by rw[e];exact h)
  rw[Bz e];exact g
theorem HR.make(hr:HR H Γ){o:HO}(h:H p=none)(k:Ho (AK H p o) p o3):HR (AK H p o) (A9 Γ p o3):=λa u e=>by
 by_cases z:a=p
 ·subst z;rw[B1]at e;cases e;exact k
 ·rw[Bz z]at e
  exact(hr a u e).mono (Ct (Bw h)) λ_ q=>by rw[Al z];exact q
theorem Fu{o u:HO}(h:H a=some u)(n:(∀vs:List V,u≠.tup vs)∧∀b w,u≠.frz b w):Tq H (AK H a o):=⟨λx vs q=>by
 have:x≠a:=λe=>by subst e;rw[h]at q;exact n.1 vs (Ek q)
 rw[Al this];exact q,λx b w q=>by
 have:x≠a:=λe=>by subst e;rw[h]at q;exact n.2 b w (Ek q)
 rw[Al this];exact q⟩
theorem fM.set{o:HO}(hr:HR H Γ)(g:Γ a=some o2):fM H Γ (AK H a o) (A9 Γ a o3):=by
 let⟨u,hu,n⟩:=(hr a o2 g).some;exact⟨Fu hu n,λx q z=>?_,λx q g'=>?_,λx w q g'=>?_⟩
 ·by_cases e:x=a
  ·subst e;rw[BZ]at z;cases z
  ·rw[Al e]at z;exact q z
 ·have e:x≠a:=λe=>by subst e;rw[g]at g';cases g'
  rw[Bz e];exact g'
 ·have e:x≠a:=λe=>by subst e;rw[g]at g';cases g'
  rw[Al e];exact q
theorem HR.set{o:HO}(hr:HR H Γ)(g:Γ a=some o2)(k:Ho (AK H a o) a o3):HR (AK H a o) (A9 Γ a o3):=λx u e=>by
 let⟨w,hw,n⟩:=(hr a o2 g).some;by_cases z:x=a
 ·subst z;rw[B1]at e;cases e;exact k
 ·rw[Bz z]at e
  exact(hr x u e).mono (Fu hw n) λ_ q=>by rw[Al z];exact q
theorem HR.hide{o u:HO}(hr:HR H Γ)(g:Γ a=none)(h:H a=some u)(n:(∀vs:List V,u≠.tup vs)∧∀b w,u≠.frz b w):HR (AK H a o) Γ:=λx w e=>by
 have z:x≠a:=λz=>by subst z;rw[g]at e;cases e
 exact(hr x w e).mono (Fu h n) λ_ q=>by rw[Al z];exact q
end
abbrev Az:=List (Option T)
abbrev Ey:=Az→Value→AJ→Prop
abbrev Cw:=T→AJ→Prop
abbrev AI:=Ey→Az→AJ→Cw→Prop
abbrev CP:=Ey→Az→AJ→(Bool→AJ→Prop)→Prop
abbrev C5:=Ey→Az→AJ→(List T→AJ→Prop)→Prop
structure Jj where
 nx:Az→AJ→Prop
 rt:Cw
 bk:Az→AJ→Prop:=λ_ _=>False
 ct:Az→AJ→Prop:=λ_ _=>False
abbrev BV:=Ey→Jj→Az→AJ→Prop
def MJ(H:A4):Option V→Option T→Prop
 |_,none=>True
 |some v,some x=>R H v x
 |none,some _=>False
def RS(H:A4):St→Az→Prop
 |[],[]=>True
 |v::r,x::q=>MJ H v x∧RS H r q
 |_,_=>False
section
variable {H H': A4}{Γ Γ': AJ}
theorem MJ.mono(t:Tq H H'){v:Option V}{x:Option T}(h:MJ H v x):MJ H' v x:=by
 cases x with
 |none=>exact trivial
 |some x=>cases v with
  |none=>exact h.elim
  |some v=>exact R.mono t h
theorem RS.mono(t:Tq H H'):∀{σ:St} {τ:Az},RS H σ τ→RS H' σ τ
 |[],[],_=>trivial
 |_::_,_::_,h=>⟨h.1.mono t,RS.mono t h.2⟩
 |[],_::_,h=>h.elim
 |_::_,[],h=>h.elim
theorem RS.get:∀{σ:St} {τ:Az} {i:Nat} {x:T},RS H σ τ→τ[i]?=some (some x)→∃v,σ[i]?=some (some v)∧R H v x
 |[],[],i,x,_,e=>by simp at e
 |v::r,y::q,i,x,h,e=>by
  cases i with
  |zero=>
   cases e;cases v with
   |none=>exact h.1.elim
   |some v=>exact⟨v,rfl,h.1⟩
  |succ i=>exact RS.get (i:=i) h.2 e
 |[],_::_,_,_,h,_=>h.elim
 |_::_,[],_,_,h,_=>h.elim
theorem RS.set(r:R H v x):∀{σ:St} {τ:Az} (i:Nat),RS H σ τ→RS H (σ.set i (some v)) (τ.set i (some x))
 |[],[],_,_=>trivial
 |_::_,_::_,0,h=>⟨r,h.2⟩
 |_::_,_::_,i+1,h=>⟨h.1,RS.set r i h.2⟩
 |[],_::_,_,h=>h.elim
 |_::_,[],_,h=>h.elim
def XR(H:A4)(Γ:AJ)(Y:Ey)(E:St→Ax):Prop:=∀σ τ C H' Γ',fM H Γ H' Γ'→HR H' Γ'→RS H' σ τ→Y τ C Γ'→E σ C none H'
theorem XR.mono{Y:Ey}{E:St→Ax}(x:XR H Γ Y E)(s:fM H Γ H' Γ'):XR H' Γ' Y E:=λσ τ C H2 Γ2 s2 h2 r y=>x σ τ C H2 Γ2 (s.trans s2) h2 r y
def VR(H:A4)(Γ:AJ)(Z:Cw)(Q:Ac):Prop:=∀v x H' Γ',fM H Γ H' Γ'→HR H' Γ'→R H' v x→Z x Γ'→Q v H'
theorem VR.mono{Z:Cw}{Q:Ac}(x:VR H Γ Z Q)(s:fM H Γ H' Γ'):VR H' Γ' Z Q:=λv x' H2 Γ2 s2 h2 r y=>x v x' H2 Γ2 (s.trans s2) h2 r y
def NR(H:A4)(Γ:AJ)(Z:Az→AJ→Prop)(Q:St→A4→Prop):Prop:=∀σ τ H' Γ',fM H Γ H' Γ'→HR H' Γ'→RS H' σ τ→Z τ Γ'→Q σ H'
theorem NR.mono{Z:Az→AJ→Prop}{Q:St→A4→Prop}(x:NR H Γ Z Q)(s:fM H Γ H' Γ'):NR H' Γ' Z Q:=λv x' H2 Γ2 s2 h2 r y=>x v x' H2 Γ2 (s.trans s2) h2 r y
structure DR(H:A4)(Γ:AJ)(Z:Jj)(Q:Ends):Prop where
 nx:NR H Γ Z.nx Q.nx
 rt:VR H Γ Z.rt Q.rt
 bk:NR H Γ Z.bk Q.bk
 ct:NR H Γ Z.ct Q.ct
theorem DR.mono{Z:Jj}{Q:Ends}(x:DR H Γ Z Q)(s:fM H Γ H' Γ'):DR H' Γ' Z Q:=⟨x.nx.mono s,x.rt.mono s,x.bk.mono s,x.ct.mono s⟩
end
section
variable (E: St→Ax)
def AD(t:AI):AO:=λσ H Q=>∃τ Γ Y Z,RS H σ τ∧HR H Γ∧t Y τ Γ Z∧VR H Γ Z Q∧XR H Γ Y E
def C6(t:CP):C0:=λσ H Q=>∃τ Γ Y Z,RS H σ τ∧HR H Γ∧t Y τ Γ Z∧(∀b H' Γ',fM H Γ H' Γ'→HR H' Γ'→Z b Γ'→Q b H')∧XR H Γ Y E
def DD(t:C5):Bq:=λσ H Q=>∃τ Γ Y Z,RS H σ τ∧HR H Γ∧t Y τ Γ Z∧(∀vs xs H' Γ',fM H Γ H' Γ'→HR H' Γ'→Rs H' vs xs→Z xs Γ'→Q vs H')∧XR H Γ Y E
def CE(t:BV):Bh:=λD σ H=>∃τ Γ Y Z,RS H σ τ∧HR H Γ∧t Y Z τ Γ∧DR H Γ Z D∧XR H Γ Y E
end
section
theorem F3{t t':AO}(h:PE X e t)(w:∀σ H Q,t' σ H Q→t σ H Q):PE X e t':=⟨λv0 s σ H Q I q=>h.run v0 s σ H Q I (w _ _ _ q)⟩
theorem OP{t:C0}(h:PT X e t)(w:∀σ H Q,t' σ H Q→t σ H Q):PT X e t':=⟨λv0 s σ H Q I q=>h.run v0 s σ H Q I (w _ _ _ q)⟩
theorem ix{t:C0}(h:PW X e t)(w:∀σ H Q,t' σ H Q→t σ H Q):PW X e t':=⟨λwh v0 s σ H Q I q=>h.run wh v0 s σ H Q I (w _ _ _ q)⟩
theorem kh{e:List Expr}{t t':Bq}(h:PA X e t)(w:∀σ H Q,t' σ H Q→t σ H Q):PA X e t':=⟨λpos v0 s σ H Q I q=>h.run pos v0 s σ H Q I (w _ _ _ q)⟩
theorem PY{e:Stmt}{t t':Bh}(h:PS X e t)(w:∀D σ H,t' D σ H→t D σ H):PS X e t':=⟨λv0 s σ H D I q=>h.run v0 s σ H D I (w _ _ _ q)⟩
theorem uU{e:List Stmt}{t t':Bh}(h:lG X e t)(w:∀D σ H,t' D σ H→t D σ H):lG X e t':=⟨λv0 s σ H D I q=>h.run v0 s σ H D I (w _ _ _ q)⟩
theorem nc{t t':DB}(h:PG X e t)(w:∀v σ H Q,t' v σ H Q→t v σ H Q):PG X e t':=⟨λv0 s σ H v u Q I r q=>h.run v0 s σ H v u Q I r (w _ _ _ _ q)⟩
theorem tG{e:List Expr}{t t':FN}(h:vf X e t)(w:∀v σ H Q,t' v σ H Q→t v σ H Q):vf X e t':=⟨λv0 s σ H v u Q I r q=>h.run v0 s σ H v u Q I r (w _ _ _ _ q)⟩
theorem lK{t t':DE}(h:PI X tg e t)(w:∀σ H Q,t' σ H Q→t σ H Q):PI X tg e t':=⟨λv0 s σ H Q I q=>h.run v0 s σ H Q I (w _ _ _ q)⟩
theorem ip{e:List Expr}{t:C0}(h:uW X e t)(w:∀σ H Q,t' σ H Q→t σ H Q):uW X e t':=⟨λv0 s σ H Q I q=>h.run v0 s σ H Q I (w _ _ _ q)⟩
theorem DY{t0:AO}{t:AI}(h:PE X e t0)(w:∀σ H Q τ Γ Y Z,RS H σ τ→HR H Γ→t Y τ Γ Z→VR H Γ Z Q→XR H Γ Y E→t0 σ H Q):PE X e (AD E t):=
 F3 h (by intro σ H Q⟨τ,Γ,Y,Z,rs,hr,q,vr,xr⟩;exact w σ H Q τ Γ Y Z rs hr q vr xr)
theorem dY{t:CP}(h:PT X e t0)(w:∀σ H Q τ Γ Y Z,RS H σ τ→HR H Γ→t Y τ Γ Z→(∀b H' Γ',fM H Γ H' Γ'→HR H' Γ'→Z b Γ'→Q b H')→XR H Γ Y E→t0 σ H Q):PT X e (C6 E t):=
 OP h (by intro σ H Q⟨τ,Γ,Y,Z,rs,hr,q,vr,xr⟩;exact w σ H Q τ Γ Y Z rs hr q vr xr)
theorem cA{t:CP}(h:PW X e t0)(w:∀σ H Q τ Γ Y Z,RS H σ τ→HR H Γ→t Y τ Γ Z→(∀b H' Γ',fM H Γ H' Γ'→HR H' Γ'→Z b Γ'→Q b H')→XR H Γ Y E→t0 σ H Q):PW X e (C6 E t):=
 ix h (by intro σ H Q⟨τ,Γ,Y,Z,rs,hr,q,vr,xr⟩;exact w σ H Q τ Γ Y Z rs hr q vr xr)
theorem fv{e:List Expr}{t0:Bq}(h:PA X e t0)(w:∀σ H Q τ Γ Y Z,RS H σ τ→HR H Γ→t Y τ Γ Z→(∀vs xs H' Γ',fM H Γ H' Γ'→HR H' Γ'→Rs H' vs xs→Z xs Γ'→Q vs H')→XR H Γ Y E→t0 σ H Q):PA X e (DD E t):=
 kh h (by intro σ H Q⟨τ,Γ,Y,Z,rs,hr,q,vr,xr⟩;exact w σ H Q τ Γ Y Z rs hr q vr xr)
theorem yn{e:List Expr}{t:CP}(h:uW X e t0)(w:∀σ H Q τ Γ Y Z,RS H σ τ→HR H Γ→t Y τ Γ Z→(∀b H' Γ',fM H Γ H' Γ'→HR H' Γ'→Z b Γ'→Q b H')→XR H Γ Y E→t0 σ H Q):uW X e (C6 E t):=
 ip h (by intro σ H Q⟨τ,Γ,Y,Z,rs,hr,q,vr,xr⟩;exact w σ H Q τ Γ Y Z rs hr q vr xr)
theorem GV{e:Stmt}{t0:Bh}{t:BV}(h:PS X e t0)(w:∀D σ H τ Γ Y Z,RS H σ τ→HR H Γ→t Y Z τ Γ→DR H Γ Z D→XR H Γ Y E→t0 D σ H):PS X e (CE E t):=
 PY h (by intro D σ H⟨τ,Γ,Y,Z,rs,hr,q,dr,xr⟩;exact w D σ H τ Γ Y Z rs hr q dr xr)
theorem Zh{e:List Stmt}{t0:Bh}{t:BV}(h:lG X e t0)(w:∀D σ H τ Γ Y Z,RS H σ τ→HR H Γ→t Y Z τ Γ→DR H Γ Z D→XR H Γ Y E→t0 D σ H):lG X e (CE E t):=
 uU h (by intro D σ H⟨τ,Γ,Y,Z,rs,hr,q,dr,xr⟩;exact w D σ H τ Γ Y Z rs hr q dr xr)
section
variable {H: A4}
theorem Je:R H .non .non:=by unfold R;rfl
theorem Cr:R H (.bl b) (.bl b):=by unfold R;rfl
theorem DO{i:Int}:R H (.int i) (.int i):=by unfold R;rfl
theorem Ga:R H (.str z) (.str z):=by unfold R;rfl
theorem ER:R H (.ref a) (.ref a):=by unfold R;rfl
theorem J4(h:H a=some (.tup vs))(r:Rs H vs ts):R H (.ref a) (.tup ts):=by unfold R;exact Ψ2 a vs ⟨rfl,h,r⟩
theorem Hk(h:R H v .non):v=.non:=by unfold R at h;exact h
theorem G7(h:R H v (.bl b)):v=.bl b:=by unfold R at h;exact h
theorem CY{b:Int}(h:R H v (.int b)):v=.int b:=by unfold R at h;exact h
theorem Bl{b:Str}(h:R H v (.str b)):v=.str b:=by unfold R at h;exact h
theorem BL{b:Addr}(h:R H v (.ref b)):v=.ref b:=by unfold R at h;exact h
theorem y6{b:String}(h:R H v (.ty b)):v=.ty b:=by unfold R at h;exact h
theorem P0(h:R H v (.scr K a ts)):v=.ref a∧∃vs,EA K H a vs∧Rs H vs ts:=by unfold R at h;exact h
theorem aaD(h:EA K H a vs)(q:Rs H vs ts):R H (.ref a) (.scr K a ts):=by unfold R;exact⟨rfl,vs,h,q⟩
theorem EA.sq(h:EA K H a vs):kB K H a vs:=by
 rcases h with⟨o,h⟩|h
 ·exact .inl (.inr ⟨o,h⟩)
 ·exact .inr h
theorem CV(h:R H v (.tup ts)):∃a vs,v=.ref a∧H a=some (.tup vs)∧Rs H vs ts:=by unfold R at h;exact h
end
def Ys(i:Nat):AI:=λ_ τ Γ Z=>∃x,τ[i]?=some (some x)∧Z x Γ
def Hw(x:T):AI:=λ_ _ Γ Z=>Z x Γ
theorem A0(i:Nat){x:Str}{pos:Pos}(hN:X.N[i]?=some x:=by rfl)(hv:Io X.env.scope x:=by first|exact Or.inl rfl|exact Or.inr (Or.inl rfl)|exact Or.inr (Or.inr rfl))(hd:(x ==("__debug__" : Str))=false:=by decide)
  (uv:(x ==("__classdict__" : Str))=false:=by decide):PE X (.Name x pos) (AD E (Ys i)):=
 DY (m3 hN hv hd uv) λσ H Q τ Γ Y Z rs hr q0 vr xr=>by
  let⟨x,e,z⟩:=q0;let⟨v,hv,r⟩:=rs.get e;exact⟨v,hv,vr v x H Γ .refl hr r z⟩
theorem Kg(h:PE X e (HU v))(r:∀H,R H v x):PE X e (AD E (Hw x)):=
 DY h λσ H Q τ Γ Y Z rs hr z vr xr=>vr v x H Γ .refl hr (r H) z
theorem AA{i j pos}:PE X (.Constant (.int i) j pos) (AD E (Hw (.int i))):=Kg pK λ_=>DO
theorem B4{b j pos}:PE X (.Constant (.bool b) j pos) (AD E (Hw (.bl b))):=Kg uR λ_=>Cr
theorem Gz{j pos}:PE X (.Constant .none j pos) (AD E (Hw .non)):=Kg mR λ_=>Je
theorem AM{x j pos}:PE X (.Constant (.str x) j pos) (AD E (Hw (.str x))):=Kg yX λ_=>Ga
def Ca(u:Value)(x:T):Prop:=∃v,RelV v u∧∀H,R H v x
theorem Ds{x:Str}{t:T}{pos:Pos}(hg:BP X x)(hm:X.mg x=some u)(r:Ca u t)(hd:(x ==("__debug__" : Str))=false:=by decide):PE X (.Name x pos) (AD E (Hw t)):=by
 obtain⟨v,r,h⟩:=r;exact Kg (vI hg hm r hd) h
theorem gl_int{i:Int}(h:RelV (.int i) u):Ca u (.int i):=⟨_,h,λ_=>DO⟩
theorem gl_str{i:Str}(h:RelV (.str i) u):Ca u (.str i):=⟨_,h,λ_=>Ga⟩
theorem Kn{i:Addr}:Ca (.ref i) (.ref i):=⟨.ref i,rfl,λ_=>ER⟩
abbrev E3:=T→T→AJ→Cw→Prop
def BG(X:Cx)(f:Value→Value→Sem Value)(r3:E3):Prop:=∃r:Dd,iC X f r∧∀x y a b H Γ Q Z,R H x a→R H y b→HR H Γ→r3 a b Γ Z→VR H Γ Z Q→r x y H Q
def Fw(r3:E3)(ta tb:AI):AI:=λY τ Γ Z=>ta Y τ Γ λx Γ1=>tb Y τ Γ1 λy Γ2=>r3 x y Γ2 Z
theorem Kj{r:Dd}{r3:E3}{ta tb:AI}(h:∀x y a b H Γ Q Z,R H x a→R H y b→HR H Γ→r3 a b Γ Z→VR H Γ Z Q→r x y H Q)(σ:St)(H:A4)(Q:Ac)(q:AD E (Fw r3 ta tb) σ H Q):LC r (AD E ta) (AD E tb) σ H Q:=by
 let⟨τ,Γ,Y,Z,rs,hr,t,vr,xr⟩:=q;exact Ψ4 τ Γ Y _ ⟨rs,hr,t,λv x H1 Γ1 s1 h1 r1 z1=>?_,xr⟩;exact Ψ4 τ Γ1 Y _ ⟨rs.mono s1.tq,h1,z1,λu y H2 Γ2 s2 h2 r2 z2=>?_,xr.mono s1⟩;exact h v u x y H2 Γ2 Q Z (r1.mono s2.tq) r2 h2 z2 (vr.mono (s1.trans s2))
section
variable {a b c: Expr}{ta tc: AI}{op xA: CmpOp}{r3 Jn: E3}
theorem AQ{op:Operator}(ho:BG X (binaryOp op) r3)(ha:PE X a (AD E ta))(hb:PE X b (AD E tb)):PE X (.BinOp a op b pos) (AD E (Fw r3 ta tb)):=by
 obtain⟨r,ho,h⟩:=ho;exact F3 (tQ ho ha hb) (Kj h)
theorem GR(ho:BG X (compareOp op) r3)(ha:PE X a (AD E ta))(hb:PE X b (AD E tb))(hm:behindInMarks op b=false):PE X (.Compare a [op] [b] pos) (AD E (Fw r3 ta tb)):=by
 obtain⟨r,ho,h⟩:=ho;exact F3 (rG ho ha hb hm) (Kj h)
def JH(t:AI):CP:=λY τ Γ Z=>t Y τ Γ λx Γ1=>∃k,x=.bl k∧Z k Γ1
theorem Od{t2:AO}{t:AI}(h:∀σ H Q,AD E t σ H Q→t2 σ H Q)(σ:St)(H:A4)(Q:Bool→A4→Prop)(q:C6 E (JH t) σ H Q):X4 t2 σ H Q:=by
 let⟨τ,Γ,Y,Z,rs,hr,t,vr,xr⟩:=q;exact h σ H _ ⟨τ,Γ,Y,_,rs,hr,t,λv x H1 Γ1 s1 h1 r1 z1=>?_,xr⟩;let⟨k,rfl,z⟩:=z1;exact⟨k,G7 r1,vr k H1 Γ1 s1 h1 z⟩
theorem Kh(ho:BG X (compareOp op) r3)(ha:PE X a (AD E ta))(hb:PE X b (AD E tb))(hm:behindInMarks op b=false):PT X (.Compare a [op] [b] pos) (C6 E (JH (Fw r3 ta tb))):=by
 obtain⟨r,ho,h⟩:=ho;exact OP (kD ho ha hb hm) (Od (Kj h))
def NC(r r':E3)(ta tb tc:AI):AI:=λY τ Γ Z=>ta Y τ Γ λx Γ1=>tb Y τ Γ1 λy Γ2=>r x y Γ2 λz Γ3=>∃k,z=.bl k∧(if k=true then tc Y τ Γ3 λw' Γ4=>r' y w' Γ4 Z else Z (.bl false) Γ3)
theorem aM{r r':Dd}(h:∀x y a b H Γ Q Z,R H x a→R H y b→HR H Γ→r3 a b Γ Z→VR H Γ Z Q→r x y H Q)(h':∀x y a b H Γ Q Z,R H x a→R H y b→HR H Γ→Jn a b Γ Z→VR H Γ Z Q→r' x y H Q)
  (σ:St) (H:A4) (Q:Ac) (q:AD E (NC r3 Jn ta tb tc) σ H Q):YX r r' (AD E ta) (AD E tb) (AD E tc) σ H Q:=by
 let⟨τ,Γ,Y,Z,rs,hr,t,vr,xr⟩:=q;exact Ψ4 τ Γ Y _ ⟨rs,hr,t,λv x H1 Γ1 s1 h1 r1 z1=>?_,xr⟩;exact Ψ4 τ Γ1 Y _ ⟨rs.mono s1.tq,h1,z1,λu y H2 Γ2 s2 h2 r2 z2=>?_,xr.mono s1⟩;exact h v u x y H2 Γ2 _ _ (r1.mono s2.tq) r2 h2 z2 λd z H3 Γ3 s3 h3 r3 z3=>?_;obtain⟨k,rfl,z3⟩:=z3;exact⟨k,G7 r3,?_⟩;cases k with
 |false=>exact vr _ _ H3 Γ3 ((s1.trans s2).trans s3) h3 Cr z3
 |true=>
  exact Ψ4 τ Γ3 Y _ ⟨rs.mono ((s1.trans s2).trans s3).tq,h3,z3,λw' y' H4 Γ4 s4 h4 r4 z4=>?_,xr.mono ((s1.trans s2).trans s3)⟩;exact h' u w' y y' H4 Γ4 Q Z (r2.mono (s3.trans s4).tq) r4 h4 z4 (vr.mono (((s1.trans s2).trans s3).trans s4))
theorem NI(ho:BG X (compareOp op) r3)(oR:BG X (compareOp xA) Jn)(ha:PE X a (AD E ta))(hb:PE X b (AD E tb))(hc:PE X c (AD E tc))(hm:lastMarks [op,xA] [b,c]=false:=by with_unfolding_all rfl):
  PE X (.Compare a [op,xA] [b,c] pos) (AD E (NC r3 Jn ta tb tc)):=by
 obtain⟨r,ho,h⟩:=ho;obtain⟨r',oR,h'⟩:=oR;exact F3 (rU ho oR ha hb hc hm) (aM h h')
theorem XJ(ho:BG X (compareOp op) r3)(oR:BG X (compareOp xA) Jn)(ha:PE X a (AD E ta))(hb:PE X b (AD E tb))(hc:PE X c (AD E tc))(hm:lastMarks [op,xA] [b,c]=false:=by with_unfolding_all rfl):
  PT X (.Compare a [op,xA] [b,c] pos) (C6 E (JH (NC r3 Jn ta tb tc))):=by
 obtain⟨r,ho,h⟩:=ho;obtain⟨r',oR,h'⟩:=oR;exact OP (mZ ho oR ha hb hc hm) (Od (aM h h'))
def Zq(ta tb:AI):AI:=λY τ Γ Z=>ta Y τ Γ λx Γ1=>∃c,x=.bl c∧if c=true then tb Y τ Γ1 Z else Z (.bl false) Γ1
def bP(ta tb:AI):AI:=λY τ Γ Z=>ta Y τ Γ λx Γ1=>∃c,x=.bl c∧if c=true then Z (.bl true) Γ1 else tb Y τ Γ1 Z
def cM(ta:AI):AI:=λY τ Γ Z=>ta Y τ Γ λx Γ1=>∃c,x=.bl c∧Z (.bl (!c)) Γ1
theorem CA{op}(h:PE X a (AD E ta)):PE X (.BoolOp op [a] pos) (AD E ta):=sV h
theorem CK(ha:PE X a (AD E ta))(hb:PE X (.BoolOp .And (b::v4) pos) (AD E tb)):PE X (.BoolOp .And (a::b::v4) pos) (AD E (Zq ta tb)):=
 DY (zx ha hb) λσ H Q τ Γ Y Z rs hr t vr xr=>by
  exact Ψ4 τ Γ Y _ ⟨rs,hr,t,λv x H1 Γ1 s1 h1 r1 z1=>?_,xr⟩;obtain⟨k,rfl,z1⟩:=z1;exact⟨k,G7 r1,?_⟩;cases k with
  |false=>exact vr _ _ H1 Γ1 s1 h1 Cr z1
  |true=>exact Ψ4 τ Γ1 Y Z ⟨rs.mono s1.tq,h1,z1,vr.mono s1,xr.mono s1⟩
theorem Kx(ha:PE X a (AD E ta))(hb:PE X (.BoolOp .Or (b::v4) pos) (AD E tb)):PE X (.BoolOp .Or (a::b::v4) pos) (AD E (bP ta tb)):=
 DY (iN ha hb) λσ H Q τ Γ Y Z rs hr t vr xr=>by
  exact Ψ4 τ Γ Y _ ⟨rs,hr,t,λv x H1 Γ1 s1 h1 r1 z1=>?_,xr⟩;obtain⟨k,rfl,z1⟩:=z1;exact⟨k,G7 r1,?_⟩;cases k with
  |true=>exact vr _ _ H1 Γ1 s1 h1 Cr z1
  |false=>exact Ψ4 τ Γ1 Y Z ⟨rs.mono s1.tq,h1,z1,vr.mono s1,xr.mono s1⟩
theorem mm(ha:PE X a (AD E ta)):PE X (.UnaryOp .Not a pos) (AD E (cM ta)):=
 DY (nw ha) λσ H Q τ Γ Y Z rs hr t vr xr=>by
  exact Ψ4 τ Γ Y _ ⟨rs,hr,t,λv x H1 Γ1 s1 h1 r1 z1=>?_,xr⟩;obtain⟨k,rfl,z1⟩:=z1;exact⟨k,G7 r1,vr _ _ H1 Γ1 s1 h1 Cr z1⟩
variable {tA KA: CP}
def cQ(t u:CP):CP:=λY τ Γ Z=>t Y τ Γ λc Γ1=>if c=true then u Y τ Γ1 Z else Z false Γ1
def ZJ(t u:CP):CP:=λY τ Γ Z=>t Y τ Γ λc Γ1=>if c=true then Z true Γ1 else u Y τ Γ1 Z
def ao(t:CP):CP:=λY τ Γ Z=>t Y τ Γ λc Γ1=>Z (!c) Γ1
theorem Zd(ha:PT X a (C6 E tA)):PW X (.BoolOp .And [a] pos) (C6 E tA):=rF ha
theorem DJ(ha:PT X a (C6 E tA)):PW X (.BoolOp .Or [a] pos) (C6 E tA):=o9 ha
theorem Wv(ha:PT X a (C6 E tA))(hb:PW X (.BoolOp .And (b::v4) pos) (C6 E KA)):PW X (.BoolOp .And (a::b::v4) pos) (C6 E (cQ tA KA)):=
 cA (qw ha hb) λσ H Q τ Γ Y Z rs hr t vr xr=>by
  exact Ψ4 τ Γ Y _ ⟨rs,hr,t,λk H1 Γ1 s1 h1 z1=>?_,xr⟩;cases k with
  |false=>exact vr _ H1 Γ1 s1 h1 z1
  |true=>exact Ψ4 τ Γ1 Y Z ⟨rs.mono s1.tq,h1,z1,λb H2 Γ2 s2 h2 z2=>vr b H2 Γ2 (s1.trans s2) h2 z2,xr.mono s1⟩
theorem CQ(ha:PT X a (C6 E tA))(hb:PW X (.BoolOp .Or (b::v4) pos) (C6 E KA)):PW X (.BoolOp .Or (a::b::v4) pos) (C6 E (ZJ tA KA)):=
 cA (nH ha hb) λσ H Q τ Γ Y Z rs hr t vr xr=>by
  exact Ψ4 τ Γ Y _ ⟨rs,hr,t,λk H1 Γ1 s1 h1 z1=>?_,xr⟩;cases k with
  |true=>exact vr _ H1 Γ1 s1 h1 z1
  |false=>exact Ψ4 τ Γ1 Y Z ⟨rs.mono s1.tq,h1,z1,λb H2 Γ2 s2 h2 z2=>vr b H2 Γ2 (s1.trans s2) h2 z2,xr.mono s1⟩
theorem B5(ha:PT X a (C6 E tA)):PT X (.UnaryOp .Not a pos) (C6 E (ao tA)):=
 dY (yx ha) λσ H Q τ Γ Y Z rs hr t vr xr=>Ψ4 τ Γ Y _ ⟨rs,hr,t,λk H1 Γ1 s1 h1 z1=>vr _ H1 Γ1 s1 h1 z1,xr⟩
theorem B7{t:AI}(h:PE X e (AD E t))(he:∀whole,isTrue e X.env whole=(do let v ←whole;standAt e.pos;holding [v] (truthy v)):=by intro _;rfl):PT X e (C6 E (JH t)):=
 OP (wL h he) (Od (t2:=AD E t) λ_ _ _ q=>q)
end
section
variable {e: Expr}{te: AI}{t: C5}
def c6:C5:=λ_ _ Γ Z=>Z [] Γ
def dL(ta:AI)(tr:C5):C5:=λY τ Γ Z=>ta Y τ Γ λx Γ1=>tr Y τ Γ1 λxs Γ2=>Z (x::xs) Γ2
theorem A6:PA X [] (DD E c6):=fv Yl λσ H Q τ Γ Y Z rs hr t vr xr=>vr [] [] H Γ .refl hr FI t
theorem A3(ha:PE X e (AD E te))(hr:PA X es (DD E t))(hs:starEach (e::es) X.env=(false,eval e X.env)::starEach es X.env:=by rfl):PA X (e::es) (DD E (dL te t)):=
 fv (TT ha hr hs) λσ H Q τ Γ Y Z rs hr t vr xr=>by
  exact Ψ4 τ Γ Y _ ⟨rs,hr,t,λv x H1 Γ1 s1 h1 r1 z1=>?_,xr⟩;exact Ψ4 τ Γ1 Y _ ⟨rs.mono s1.tq,h1,z1,λvs xs H2 Γ2 s2 h2 r2 z2=>vr (v::vs) (x::xs) H2 Γ2 (s1.trans s2) h2 (Et (r1.mono s2.tq) r2) z2,xr.mono s1⟩
def So(t:C5):AI:=λY τ Γ Z=>t Y τ Γ λxs Γ1=>xs.length≤sizeLine∧Z (.tup xs) Γ1
def Zm(t:C5):AI:=λY τ Γ Z=>t Y τ Γ λxs Γ1=>xs.length≤sizeLine∧∀p,Γ1 p=none→Z (.ref p) (A9 Γ1 p (.lst xs))
theorem AP{x1}(h:PA X es (DD E t)):PE X (.Tuple es x1 pos) (AD E (So t)):=
 DY (xy h) λσ H Q τ Γ Y Z rs hr t vr xr=>by
  exact Ψ4 τ Γ Y _ ⟨rs,hr,t,λvs xs H1 Γ1 s1 h1 r1 z1=>?_,xr⟩;exact⟨by rw[r1.length];exact z1.1,λp hp=>?_⟩;have k:=Bw (o:=.tup vs) hp;exact vr _ _ _ Γ1 (s1.trans (.keep k)) (h1.keep k) (J4 BZ (r1.mono (Ct k))) z1.2
theorem CW(h:PA X es (DD E t)):PE X (.List es pos) (AD E (Zm t)):=
 DY (iP h) λσ H Q τ Γ Y Z rs hr t vr xr=>by
  exact Ψ4 τ Γ Y _ ⟨rs,hr,t,λvs xs H1 Γ1 s1 h1 r1 z1=>?_,xr⟩;exact⟨by rw[r1.length];exact z1.1,λp hp=>?_⟩;have k:=Bw (o:=.lst vs) hp;exact vr _ _ _ _ (s1.trans (.make hp)) (h1.make (o3:=.lst xs) hp ⟨vs,BZ,r1.mono (Ct k)⟩) ER (z1.2 p (h1.free hp))
end
abbrev Am:=List T→AJ→Cw→(Value→AJ→Prop)→Prop
def Af(sp:Am):DU:=λvs H Q E=>∃ts Γ Z Y,Rs H vs ts∧HR H Γ∧sp ts Γ Z Y∧VR H Γ Z Q∧∀C H' Γ',fM H Γ H' Γ'→HR H' Γ'→Y C Γ'→E C none H'
abbrev AU(P:Program)(w:World)(K:W.Frag)(mg:KK)(am:Heap)(x:Str)(k:Nat)(ps:List Str)(sp:Am):Prop:=Callee P w K mg am x k ps (Af sp)
abbrev Lk(P:Program)(w:World)(K:W.Frag)(mg:KK)(am:Heap)(x:Str)(k:Nat)(ps:List Str)(sp:Am):Prop:=Rt P w K mg am x k ps (Af sp)
def Yg(sp:Am)(t:C5):AI:=λY τ Γ Z=>t Y τ Γ λxs Γ1=>sp xs Γ1 Z λ_ _=>False
def TP(sp:Am)(t:C5):AI:=λY τ Γ Z=>t Y τ Γ λxs Γ1=>sp xs Γ1 Z (Y τ)
section
variable {x: Str}{k j: Nat}{ps: List Str}{sp: Am}{p: Pos}{e: Expr}{t: C5}
theorem oq(c:AU X.prog X.w X.K X.mg X.base x k ps sp)(hr:dA j X.A)(hk:k≤j)(hg:BP X x)(ha:PA X (e::es) (DD E t))(oC:(x ==("__debug__" : Str))=false:=by decide)
  (he:starEach (e::es) X.env=(false,eval e X.env)::starEach es X.env:=by rfl) (hJ:(backTo pos (starEach es X.env)).any (·.1)=false:=by rfl):PE X (.Call (.Name x p) (e::es) [] pos) (AD E (Yg sp t)):=
 DY (qR c hr hk hg ha oC he hJ) λσ H Q τ Γ Y Z rs hr t vr xr=>by
  exact Ψ4 τ Γ Y _ ⟨rs,hr,t,λvs xs H1 Γ1 s1 h1 r1 z1=>?_,xr⟩;show Af sp (vs++[]) H1 Q Hj
  rw[Bt];exact Ψ4 xs Γ1 Z _ ⟨r1,h1,z1,vr.mono s1,λ_ _ _ _ _ z=>z.elim⟩
theorem qC(c:Lk X.prog X.w X.K X.mg X.base x k ps sp)(hr:dA j X.A)(hk:k≤j)(hg:BP X x)(hx:XY X E)(ha:PA X (e::es) (DD E t))(oC:(x ==("__debug__" : Str))=false:=by decide)
  (he:starEach (e::es) X.env=(false,eval e X.env)::starEach es X.env:=by rfl) (hJ:(backTo pos (starEach es X.env)).any (·.1)=false:=by rfl):PE X (.Call (.Name x p) (e::es) [] pos) (AD E (TP sp t)):=
 DY (xN c hr hk hg hx ha oC he hJ) λσ H Q τ Γ Y Z rs hr t vr xr=>by
  exact Ψ4 τ Γ Y _ ⟨rs,hr,t,λvs xs H1 Γ1 s1 h1 r1 z1=>?_,xr⟩;exact Ψ4 xs Γ1 Z (Y τ) ⟨r1,h1,z1,vr.mono s1,λC H' Γ' s' h' y=>xr σ τ C H' Γ' (s1.trans s') h' (rs.mono (s1.trans s').tq) y⟩
end
end
section
variable {st: Stmt}{QX: List Stmt}{e: Expr}{te: AI}{t u: BV}
def dF:BV:=λ_ D τ Γ=>D.nx τ Γ
def gI(t u:BV):BV:=λY D τ Γ=>t Y {D with nx:=u Y D} τ Γ
def fR(te:AI):BV:=λY D τ Γ=>te Y τ Γ λ_ Γ1=>D.nx τ Γ1
def bM(te:AI):BV:=λY D τ Γ=>te Y τ Γ D.rt
def ZA(c:CP)(t u:BV):BV:=λY D τ Γ=>c Y τ Γ λb Γ1=>if b=true then t Y D τ Γ1 else u Y D τ Γ1
theorem A7:lG X [] (CE E dF):=Zh qQ λD σ H τ Γ Y Z rs hr t dr xr=>dr.nx σ τ H Γ .refl hr rs t
theorem A5(h1:PS X st (CE E t))(h2:lG X QX (CE E u)):lG X (st::QX) (CE E (gI t u)):=
 Zh (ql h1 h2) λD σ H τ Γ Y Z rs hr t dr xr=>
  ⟨τ,Γ,Y,_,rs,hr,t,⟨λσ' τ' H' Γ' s h r z=>Ψ4 τ' Γ' Y Z ⟨r,h,z,dr.mono s,xr.mono s⟩,dr.rt,dr.bk,dr.ct⟩,xr⟩
theorem Ig(he:PE X e (AD E te))(hs:swapsWith e none pos.line X.env=pure false:=by rfl):PS X (.Expr e pos) (CE E (fR te)):=
 GV (t5 he hs) λD σ H τ Γ Y Z rs hr t dr xr=>Ψ4 τ Γ Y _ ⟨rs,hr,t,λv x H' Γ' s h r z=>dr.nx σ τ H' Γ' s h (rs.mono s.tq) z,xr⟩
theorem AH(he:PE X e (AD E te)):PS X (.Return (some e) pos) (CE E (bM te)):=
 GV (rT he) λD σ H τ Γ Y Z rs hr t dr xr=>Ψ4 τ Γ Y _ ⟨rs,hr,t,dr.rt,xr⟩
theorem Ah{a b:List Stmt}(hc:PT X c (C6 E tc))(ha:lG X a (CE E t))(hb:lG X b (CE E u)):PS X (.If c a b pos) (CE E (ZA tc t u)):=
 GV (zj hc ha hb) λD σ H τ Γ Y Z rs hr t dr xr=>by
  exact Ψ4 τ Γ Y _ ⟨rs,hr,t,λk H1 Γ1 s1 h1 z1=>?_,xr⟩;cases k with
  |true=>exact Ψ4 τ Γ1 Y Z ⟨rs.mono s1.tq,h1,z1,dr.mono s1,xr.mono s1⟩
  |false=>exact Ψ4 τ Γ1 Y Z ⟨rs.mono s1.tq,h1,z1,dr.mono s1,xr.mono s1⟩
def cN(t:BV):BV:=λY D τ Γ=>∃P:Az→AJ→Prop,t Y {D with nx:=P} τ Γ∧∀τ Γ,P τ Γ→D.nx τ Γ
theorem Aw(h:PS X st (CE E t)):PS X st (CE E (cN t)):=
 GV h λD σ H τ Γ Y Z rs hr q0 dr xr=>by let⟨P,t,k⟩:=q0;exact Ψ4 τ Γ Y _ ⟨rs,hr,t,⟨λσ' τ' H' Γ' s h r z=>dr.nx σ' τ' H' Γ' s h r (k _ _ z),dr.rt,dr.bk,dr.ct⟩,xr⟩
abbrev CD:=Ey→T→Az→AJ→(Az→AJ→Prop)→Prop
abbrev Gn:=Ey→List T→Az→AJ→(Az→AJ→Prop)→Prop
def DW(E:St→Ax)(g:CD):DB:=λv σ H Q=>∃x τ Γ Y Z,R H v x∧RS H σ τ∧HR H Γ∧g Y x τ Γ Z∧NR H Γ Z Q∧XR H Γ Y E
def K6(E:St→Ax)(g:Gn):FN:=λv σ H Q=>∃x τ Γ Y Z,Rs H v x∧RS H σ τ∧HR H Γ∧g Y x τ Γ Z∧NR H Γ Z Q∧XR H Γ Y E
theorem R2{t0:DB}{t:CD}(h:PG X e t0)(w:∀v σ H Q x τ Γ Y Z,R H v x→RS H σ τ→HR H Γ→t Y x τ Γ Z→NR H Γ Z Q→XR H Γ Y E→t0 v σ H Q):PG X e (DW E t):=
 nc h (by intro v σ H Q⟨x,τ,Γ,Y,Z,r,rs,hr,q,nr,xr⟩;exact w v σ H Q x τ Γ Y Z r rs hr q nr xr)
theorem aV{e:List Expr}{t0:FN}{t:Gn}(h:vf X e t0)(w:∀v σ H Q x τ Γ Y Z,Rs H v x→RS H σ τ→HR H Γ→t Y x τ Γ Z→NR H Γ Z Q→XR H Γ Y E→t0 v σ H Q):vf X e (K6 E t):=
 tG h (by intro v σ H Q⟨x,τ,Γ,Y,Z,r,rs,hr,q,nr,xr⟩;exact w v σ H Q x τ Γ Y Z r rs hr q nr xr)
def hName(i:Nat):CD:=λ_ x τ Γ Z=>Z (τ.set i (some x)) Γ
def ZQ:Gn:=λ_ xs τ Γ Z=>xs=[]∧Z τ Γ
def cy(g:CD)(gs:Gn):Gn:=λY xs τ Γ Z=>∃x r,xs=x::r∧g Y x τ Γ λτ1 Γ1=>gs Y r τ1 Γ1 Z
def ZU(n:Nat)(gs:Gn):CD:=λY x τ Γ Z=>∃ts,x=.tup ts∧ts.length=n∧gs Y ts τ Γ Z
theorem BM{x:Str}(hN:X.N.Nodup)(hi:X.N[i]?=some x)(hx:GG X.env.scope x)(hf:Fk X x:=by first|exact .inl rfl|exact .inr rfl|assumption):PG X (.Name x pos) (DW E (hName i)):=
 R2 (qL hN hi hx hf) λv σ H Q x τ Γ Y Z r rs hr t nr xr=>nr _ _ H Γ .refl hr (rs.set r i) t
theorem Bd:vf X [] (K6 E ZQ):=aV zT λv σ H Q x τ Γ Y Z r rs hr q0 nr xr=>by
 let⟨e,t⟩:=q0;subst e;exact⟨Gf r,nr _ _ H Γ .refl hr rs t⟩
theorem AL{es:List Expr}(h1:PG X e (DW E g))(h2:vf X es (K6 E gs))(hs:(assignEach (e::es) X.env).map (·.2)=assign e X.env::(assignEach es X.env).map (·.2):=by rfl):vf X (e::es) (K6 E (cy g gs)):=
 aV (xu h1 h2 hs) λv σ H Q x τ Γ Y Z r rs hr q0 nr xr=>by
  let⟨y,ys,e,t⟩:=q0;subst e;let⟨w,ws,rfl,r1,r2⟩:=G5 r;exact Ψ2 w ws ⟨rfl,y,τ,Γ,Y,_,r1,rs,hr,t,λσ' τ' H' Γ' s h r z=>?_,xr⟩;exact Ψ5 ys τ' Γ' Y Z ⟨r2.mono s.tq,r,h,z,nr.mono s,xr.mono s⟩
theorem Be{es:List Expr}(hc:X.calm=true)(h:vf X es (K6 E gs))
  (hn:(assignEach es X.env).length=n:=by rfl) (tK:(assignEach es X.env).findIdx? (·.1)=none:=by rfl):PG X (.Tuple es k pos) (DW E (ZU n gs)):=
 R2 (xD hc h hn tK) λv σ H Q x τ Γ Y Z r rs hr q0 nr xr=>by
  let⟨ts,e,l,t⟩:=q0;subst e;obtain⟨a,vs,rfl,ha,r⟩:=CV r;exact Ψ2 a vs ⟨rfl,dW.of ha,by rw[r.length];exact l,ts,τ,Γ,Y,Z,r,rs,hr,t,nr,xr⟩
def Ov(te:AI)(g:CD):BV:=λY D τ Γ=>te Y τ Γ λx Γ1=>g Y x τ Γ1 D.nx
theorem xi(D:Ends)(σ:St)(H:A4)(q:CE E (Ov te g) D σ H):YR (AD E te) (DW E g) D σ H:=by
 let⟨τ,Γ,Y,Z,rs,hr,t,dr,xr⟩:=q;exact Ψ4 τ Γ Y _ ⟨rs,hr,t,λv x H1 Γ1 s1 h1 r1 z1=>Ψ5 x τ Γ1 Y _ ⟨r1,rs.mono s1.tq,h1,z1,dr.nx.mono s1,xr.mono s1⟩,xr⟩
theorem EJ(he:PE X e (AD E te))(hg:PG X tg (DW E g))(hs:swapsWithSole [tg] e pos.line X.env=pure false:=by rfl)(hw:swappedStores [tg] e X.env=pure none:=by rfl)
  (h1:(assignEach [tg] X.env).map (·.2)=[assign tg X.env]:=by rfl):PS X (.Assign [tg] e pos) (CE E (Ov te g)):=PY (aao he hg hs hw h1) xi
def Y1(i:Nat)(te:AI):BV:=λY D τ Γ=>te Y τ Γ λx Γ1=>D.nx (τ.set i (some x)) Γ1
theorem i0{x:Str}(hN:X.N.Nodup)(hi:X.N[i]?=some x)(hx:GG X.env.scope x)(he:PE X e (AD E te))(hs:swapsWith e (some (.Name x pos')) pos.line X.env=pure false:=by rfl)(hf:Fk X x:=by first|exact .inl rfl|exact .inr rfl|assumption):
  PS X (.Assign [.Name x pos'] e pos) (CE E (Y1 i te)):=GV (jy hN hi hx he hs hf) λD σ H τ Γ Y Z rs hr t dr xr=>
   ⟨τ,Γ,Y,_,rs,hr,t,λv x H1 Γ1 s1 h1 r1 z1=>dr.nx _ _ H1 Γ1 s1 h1 ((rs.mono s1.tq).set r1 i) z1,xr⟩
def lZ(i:Nat)(te:AI)(r:E3):BV:=λY D τ Γ=>∃x,τ[i]?=some (some x)∧te Y τ Γ λy Γ1=>r x y Γ1 λz Γ2=>D.nx (τ.set i (some z)) Γ2
theorem oQ{x:Str}{op:Operator}{r3:E3}(hN:X.N.Nodup)(hi:X.N[i]?=some x)(hx:GG X.env.scope x)(he:PE X e (AD E te))(ho:BG X (inplaceOp op) r3)(hf:Fk X x:=by first|exact .inl rfl|exact .inr rfl|assumption):
  PS X (.AugAssign (.Name x pos') op e pos) (CE E (lZ i te r3)):=by
 obtain⟨r,ho,h⟩:=ho;exact PY (zr (ti:=r) hN hi hx he ho hf) λD σ H ⟨τ,Γ,Y,Z,rs,hr,⟨x,e,t⟩,dr,xr⟩=>?_;let⟨v,ev,rv⟩:=rs.get e;exact⟨v,ev,τ,Γ,Y,_,rs,hr,t,λw y H1 Γ1 s1 h1 r1 z1=>?_,xr⟩;exact h v w x y H1 Γ1 _ _ (rv.mono s1.tq) r1 h1 z1 λu z H2 Γ2 s2 h2 r2 z2=>?_;exact dr.nx _ _ H2 Γ2 (s1.trans s2) h2 ((rs.mono (s1.trans s2).tq).set r2 i) z2
structure Walks(J:Ep)(ts:List T)(AE:AJ→Prop)(H0:A4):Prop where
 go:∀i H Γ,Tq H0 H→HR H Γ→AE Γ→i<ts.length→J.go i H
 oK:∀i H Γ x H',Tq H0 H→HR H Γ→AE Γ→i<ts.length→J.oK i H x H'→fM H Γ H' Γ∧HR H' Γ∧∃t,ts[i]?=some t∧R H' x t
 stop:∀H Γ,Tq H0 H→HR H Γ→AE Γ→J.stop ts.length H
abbrev I3:=Ey→Az→AJ→(List T→(AJ→Prop)→AJ→Prop)→Prop
def Di(E:St→Ax)(wi:I3):DE:=λσ H Q=>∃τ Γ Y Z,RS H σ τ∧HR H Γ∧wi Y τ Γ Z∧(∀J ts AE H' Γ',fM H Γ H' Γ'→HR H' Γ'→Walks J ts AE H'→Z ts AE Γ'→Q J H')∧XR H Γ Y E
theorem Ic{t0:DE}{t:I3}(h:PI X tg e t0)(w:∀σ H Q τ Γ Y Z,RS H σ τ→HR H Γ→t Y τ Γ Z→(∀J ts AE H' Γ',fM H Γ H' Γ'→HR H' Γ'→Walks J ts AE H'→Z ts AE Γ'→Q J H')→XR H Γ Y E→t0 σ H Q):PI X tg e (Di E t):=
 lK h (by intro σ H Q⟨τ,Γ,Y,Z,rs,hr,q,vr,xr⟩;exact w σ H Q τ Γ Y Z rs hr q vr xr)
def Z7(AE:AJ→Prop)(g:CD)(tb:BV)(Y:Ey)(D:Jj)(ts:List T)(τ:Az)(Γ:AJ):Prop:=∃P:List T→Az→AJ→Prop,P ts τ Γ∧(∀τ Γ,P [] τ Γ→AE Γ∧D.nx τ Γ)∧
 ∀x r τ Γ,P (x::r) τ Γ→AE Γ∧g Y x τ Γ λτ2 Γ2=>tb Y {D with nx:=P r,ct:=P r,bk:=D.nx} τ2 Γ2
def cG(wi:I3)(g:CD)(tb:BV):BV:=λY D τ Γ=>wi Y τ Γ λts AE Γ1=>Z7 AE g tb Y D ts τ Γ1
theorem drop_cons{α:Type}{xs:List α}(h:i<xs.length):xs.drop i=xs[i]::xs.drop (i+1):=gQ h
theorem GJ{iter:Expr}{body:List Stmt}{tb:BV}(hp:PassesOwn (model X.prog X.w) X.A X.env X.xe)(hc:X.calm=true)(hi:PI X tg iter (Di E wi))(hg:PG X tg (DW E g))(hb:lG X body (CE E tb))
  (hs:∀x,foldedSetIterable iter X.env x=pure x:=by intro _;rfl):PS X (.For tg iter body [] pos) (CE E (cG wi g tb)):=
 GV (xg hp hc hi hg hb hs) λD σ H τ Γ Y Z rs hr t dr xr=>by
  exact Ψ4 τ Γ Y _ ⟨rs,hr,t,λJ ts AE H1 Γ1 s1 h1 wk ξ=>Ξ13 ξ λP z1 p0 pc=>?_,xr⟩;exact⟨λi m σ' H'=>∃τ' Γ',i≤ts.length∧m=ts.length-i∧RS H' σ' τ'∧HR H' Γ'∧fM H1 Γ1 H' Γ'∧P (ts.drop i) τ' Γ',Ψ3 ts.length τ Γ1 ⟨Fm _,rfl,rs.mono s1.tq,h1,.refl,z1⟩,?_⟩;intro i m σ2 H2⟨τ2,Γ2,hi,rfl,tV,h2,s2,w2⟩;by_cases dk:i<ts.length
  ·rw[drop_cons dk]at w2
   let⟨g2,w2⟩:=pc _ _ _ _ w2;exact .inr ⟨wk.go i H2 Γ2 s2.tq h2 g2 dk,λσ' H'=>∃τ' Γ',RS H' σ' τ'∧HR H' Γ'∧fM H1 Γ1 H' Γ'∧P (ts.drop (i+1)) τ' Γ',λσ' H' ξ=>Ξ24 ξ λτ' Γ' a b c d=>⟨ts.length-(i+1),by lia,τ',Γ',dk,rfl,a,b,c,d⟩,λx H3 yl=>?_⟩;let⟨s3,h3,⟨x3,e3,r3⟩⟩:=wk.oK i H2 Γ2 x H3 s2.tq h2 g2 dk yl;rw[D2 dk]at e3;cases e3;exact Ψ5 _ τ2 Γ2 Y _ ⟨r3,tV.mono s3.tq,h3,w2,λσ4 τ4 H4 Γ4 s4 h4 r4 z4=>?_,xr.mono ((s1.trans s2).trans s3)⟩;have s5:=(s2.trans s3).trans s4;exact Ψ4 τ4 Γ4 Y _ ⟨r4,h4,z4,⟨λσ' τ' H' Γ' s h r z=>Ψ2 τ' Γ' ⟨r,h,s5.trans s,z⟩,dr.rt.mono (s1.trans s5),dr.nx.mono (s1.trans s5),λσ' τ' H' Γ' s h r z=>Ψ2 τ' Γ' ⟨r,h,s5.trans s,z⟩⟩,xr.mono (s1.trans s5)⟩
  ·have e:i=ts.length:=by lia
   subst e;rw[Hh]at w2;have w2:=p0 _ _ w2;exact .inl ⟨wk.stop H2 Γ2 s2.tq h2 w2.1,dr.nx σ2 τ2 H2 Γ2 (s1.trans s2) h2 tV w2.2⟩
def Fe(own:List Str)(cap:List (Nat×Str))(τ:Az):Az:=List.replicate own.length none++cap.map λp=>(τ[p.1]?).getD none
theorem Zv{H:A4}:∀{a:St} {b:Az} {c:St} {d:Az},RS H a b→RS H c d→RS H (a++c) (b++d)
 |[],[],_,_,_,h=>h
 |_::_,_::_,_,_,h,q=>⟨h.1,Zv h.2 q⟩
 |[],_::_,_,_,h,_=>h.elim
 |_::_,[],_,_,h,_=>h.elim
theorem gq{H:A4}:∀n:Nat,RS H (List.replicate n none) (List.replicate n none)
 |0=>trivial
 |n+1=>⟨trivial,gq n⟩
theorem KR{σ:St}{τ:Az}(own:List Str)(h:RS H σ τ):∀cap:List (Nat×Str),RS H (Ex own cap σ) (Fe own cap τ):=λcap=>by
 exact Zv (gq _) ?_;induction cap with
 |nil=>exact trivial
 |cons p r ih=>
  exact⟨?_,ih⟩;show MJ H ((σ[p.1]?).getD none) ((τ[p.1]?).getD none)
  cases e:τ[p.1]? with
  |none=>exact trivial
  |some o=>
   cases o with
   |none=>exact trivial
   |some x=>
    let⟨v,ev,rv⟩:=h.get e;rw[ev];exact rv
abbrev BX:Ey:=λ_ _ _=>False
def bp(AE:AJ→Prop)(g:CD)(tc:CP)(te:AI)(C:List T→AJ→Prop)(ts:List T)(τ:Az)(ys:List T)(Γ:AJ):Prop:=∃P:List T→Az→List T→AJ→Prop,P ts τ ys Γ∧(∀τ ys Γ,P [] τ ys Γ→AE Γ∧C ys Γ)∧
 ∀x r τ ys Γ,P (x::r) τ ys Γ→AE Γ∧g BX x τ Γ λτ3 Γ3=>tc BX τ3 Γ3 λb Γ4=>if b=true then te BX τ3 Γ4 λy Γ5=>P r τ3 (ys++[y]) Γ5 else P r τ3 ys Γ4
def Te(wi:I3)(g:CD)(tc:CP)(te:AI)(own:List Str)(cap:List (Nat×Str)):AI:=λY τ Γ Z=>wi Y τ Γ λts AE Γ1=>ts.length≤sizeLine∧
 bp AE g tc te (λys Γ2=>∀D,Γ2 D=none→Z (.ref D) (A9 Γ2 D (.lst ys))) ts (Fe own cap τ) [] Γ1
abbrev Bn:St→Ax:=λ_=>Hj
theorem EW:XR H Γ BX Bn:=λ_ _ _ _ _ _ _ _ z=>z.elim
theorem iW(σ:St)(H:A4)(Q:Ac)(q:AD E (Te wi g tc te own cap) σ H Q):ZZ (Di E wi) (DW Bn g) (C6 Bn tc) (AD Bn te) own cap σ H Q:=by
 let⟨τ,Γ,Y,Z,rs,hr,t,vr,xr⟩:=q;exact Ψ4 τ Γ Y _ ⟨rs,hr,t,λJ ts AE H1 Γ1 s1 h1 wk⟨hz,P,z1,p0,pc⟩=>?_,xr⟩;intro D hD;have nl:∀vs:List V,(∀us:List V,HO.lst vs≠.tup us)∧∀b w,HO.lst vs≠.frz b w:=λ_=>⟨λ_ z=>(nomatch z),λ_ _ z=>(nomatch z)⟩;exact⟨λi m σ' vs H'=>∃τ' ys Γ',i≤ts.length∧m=ts.length-i∧vs.length≤i∧RS H' σ' τ'∧HR H' Γ'∧H' D=some (.lst vs)∧Γ' D=none∧Rs H' vs ys∧fM H1 Γ1 H' Γ'∧P (ts.drop i) τ' ys Γ',
  ⟨ts.length,Fe own cap τ,[],Γ1,Fm _,rfl,Ar _,(KR own (rs.mono s1.tq) cap).mono (Ct (Bw hD)),h1.keep (Bw hD),BZ,h1.free hD,FI,.keep (Bw hD),z1⟩,?_⟩
 intro i m σ2 vs H2⟨τ2,ys,Γ2,hi,rfl,hv,tV,h2,d2,gD,ry,s2,w2⟩;exact⟨d2,?_⟩;by_cases dk:i<ts.length
 ·rw[drop_cons dk]at w2
  let⟨g2,w2⟩:=pc _ _ _ _ _ w2;exact .inr ⟨wk.go i H2 Γ2 s2.tq h2 g2 dk,by lia,λσ' ws H'=>∃τ' ys Γ',ws.length≤i+1∧RS H' σ' τ'∧HR H' Γ'∧H' D=some (.lst ws)∧Γ' D=none∧Rs H' ws ys∧fM H1 Γ1 H' Γ'∧P (ts.drop (i+1)) τ' ys Γ',
   λσ' ws H' ξ=>Ξ38 ξ λτ' ys Γ' a b c d e f k l=>⟨ts.length-(i+1),by lia,τ',ys,Γ',dk,rfl,a,b,c,d,e,f,k,l⟩,λx H3 yl=>?_⟩
  let⟨s3,h3,⟨x3,e3,r3⟩⟩:=wk.oK i H2 Γ2 x H3 s2.tq h2 g2 dk yl;rw[D2 dk]at e3;cases e3;exact Ψ5 _ τ2 Γ2 BX _ ⟨r3,tV.mono s3.tq,h3,w2,λσ4 τ4 H4 Γ4 s4 h4 r4 z4=>?_,EW⟩;exact Ψ4 τ4 Γ4 BX _ ⟨r4,h4,z4,λk H5 Γ5 s5 h5 z5=>?_,EW⟩;have K1:=(s3.trans s4).trans s5;have d5:H5 D=some (.lst vs):=K1.rq D _ d2 gD;have g5:Γ5 D=none:=K1.new D (by rw[d2];exactλz=>nomatch z) gD;cases k with
  |false=>exact Ψ3 τ4 ys Γ5 ⟨Eo hv,r4.mono s5.tq,h5,d5,g5,ry.mono K1.tq,s2.trans K1,z5⟩
  |true=>
   exact Ψ4 τ4 Γ5 BX _ ⟨r4.mono s5.tq,h5,z5,λy y' H6 Γ6 s6 h6 r6 z6=>?_,EW⟩;have qA:=K1.trans s6;have d6:H6 D=some (.lst vs):=qA.rq D _ d2 gD;have g6:Γ6 D=none:=qA.new D (by rw[d2];exactλz=>nomatch z) gD;have tq:Tq H6 (AK H6 D (.lst (vs++[y]))):=Fu d6 (nl vs);exact⟨d6,τ4,ys++[y'],Γ6,by rw[Br];exact Ob hv,(r4.mono (s5.trans s6).tq).mono tq,h6.hide g6 d6 (nl vs),BZ,g6,Rs.app ((ry.mono qA.tq).mono tq) (Et (r6.mono tq) FI),?_,z6⟩;have s7:=s2.trans qA;exact⟨s7.tq.trans tq,λa h z=>?_,s7.new,λa o h g=>?_⟩
   ·by_cases e:a=D
    ·subst e;exact h hD
    ·rw[Al e]at z;exact s7.sU a h z
   ·have e:a≠D:=λe=>by subst e;rw[hD]at h;cases h
    rw[Al e];exact s7.rq a o h g
 ·have e:i=ts.length:=by lia
  subst e;rw[Hh]at w2;have w2:=p0 _ _ _ w2;exact .inl ⟨wk.stop H2 Γ2 s2.tq h2 w2.1,?_⟩;have s12:=s1.trans s2;exact vr (.ref D) (.ref D) H2 (A9 Γ2 D (.lst ys)) ⟨s12.tq,s12.sU,λa h g=>?_,s12.rq⟩ (λa o g=>?_) ER (w2.2 D gD)
  ·have e:a≠D:=λe=>by subst e;exact s1.sU _ h hD
   rw[Bz e];exact s12.new a h g
  ·by_cases e:a=D
   ·subst e;rw[B1]at g;cases g;exact⟨vs,d2,ry⟩
   ·rw[Bz e]at g;exact h2 a o g
section
variable {scope: Scope}{cl: List (Str×Addr)}{own: List Str}{cap: List (Nat×Str)}{tg iter elt: Expr}{ifs: List Expr}{wi: I3}{g: CD}{tc: CP}{te: AI}
theorem EB(c:di X scope cl own cap)(hc:X.calm=true)(hi:PI X tg iter (Di E wi))
  (hg:∀C s H fp,PG (BE X (own++cap.map (·.2)) scope cl C s H fp λ_ _=>False) tg (DW Bn g)) (ht:∀C s H fp,uW (BE X (own++cap.map (·.2)) scope cl C s H fp λ_ _=>False) ifs (C6 Bn tc))
  (he:∀C s H fp,PE (BE X (own++cap.map (·.2)) scope cl C s H fp λ_ _=>False) elt (AD Bn te)) (hs:∀x,foldedSetIterable iter X.env x=pure x:=by intro _;rfl) :
  PE X (.ListComp elt [⟨tg,iter,ifs,0⟩] scope pos) (AD E (Te wi g tc te own cap)):=F3 (uJ c hc hi hg ht he hs) iW
def fi:CP:=λ_ _ Γ Z=>Z true Γ
theorem EH:uW X [] (C6 E fi):=yn zo λσ H Q τ Γ Y Z rs hr t vr xr=>vr true H Γ .refl hr t
theorem i5{t:CP}(h:PT X c (C6 E t)):uW X [c] (C6 E t):=tM h
end
end
def Ai:List Str→List T→Az
 |[],_=>[]
 |_::N,[]=>none::Ai N []
 |_::N,t::ts=>some t::Ai N ts
theorem gC{H:A4}:∀N:List Str,RS H (List.replicate N.length none) (Ai N [])
 |[]=>trivial
 |_::N=>⟨trivial,gC N⟩
theorem X3{H:A4}:∀(N:List Str) {vs:List V} {ts:List T},Rs H vs ts→ts.length≤N.length→RS H (L2.start N vs) (Ai N ts)
 |N,vs,[],h,_=>by
  rw[Gf h];exact gC N
 |[],vs,t::ts,h,l=>absurd l (by simp)
 |n::N,vs,t::ts,h,l=>by
  let⟨v,ws,rfl,a,b⟩:=G5 h;have:=X3 N b (by simpa using l);exact⟨a,?_⟩;unfold L2.start at this;rw[D0,D0,Nat.add_sub_add_right];exact this
theorem eQ{sc:Scope}(S:Ak N ps sc):ps.length≤N.length:=by
 have:=Eh List.length S.pre;rw[ET]at this;lia
section
variable {x: Str}{C: Addr}{FF: List Value}{B newId wx: String}{e₀: Expr}{v4: List Expr}{t: C5}{E: Ax}
def az(C:Addr)(t:C5):BV:=λY D τ Γ=>t Y τ Γ λxs Γ1=>xs.length≤sizeLine∧Y τ (.ref C) Γ1
theorem Qm(hc:X.calm=true)(hg:BP X x)(hm:X.mg x=some (.ref C))(hx:W.excIn X.K C FF newId=true)(FB:ExcBaseFacts B newId wx FF)(ha:PA X (e₀::v4) (DD (λ_=>E) t))(hE:Raises X E)
  (hd:(x ==("__debug__" : Str))=false:=by decide) (he:starEach (e₀::v4) X.env=(false,eval e₀ X.env)::starEach v4 X.env:=by rfl) (hJ:(backTo ek (starEach v4 X.env)).any (·.1)=false:=by rfl) :
  PS X (.Raise (some (.Call (.Name x np) (e₀::v4) [] ek)) none pos) (CE (λ_=>E) (az C t)):=
 GV (vm hc hg hm hx FB ha hE hd he hJ) λD σ H τ Γ Y Z rs hr t dr xr=>
  ⟨τ,Γ,Y,_,rs,hr,t,λvs xs H1 Γ1 s1 h1 r1 z1=>⟨by rw[r1.length];exact z1.1,xr σ τ _ H1 Γ1 s1 h1 (rs.mono s1.tq) z1.2⟩,xr⟩
end
section
variable {body nE: List Stmt}{b₀: Stmt}{y: Str}{Bu: Pos}{Cy: Addr}{tb ts: BV}
def aq(K:W.Frag)(Cy:Addr)(tb ts:BV):BV:=λ_ D τ Γ=>tb (λτ' C Γ'=>W.exmOne K C (.ref Cy)=some true∧ts BX D τ' Γ') D τ Γ
theorem sC(tK:X.stack=X.env::X.outer)(Eb:X.env.frame=some X.env.locals)(hy:BP X y)(LS:X.mg y=some (.ref Cy))
  (hb:∀(E':xz) (pn:ac) (W:St→Ax),(∀v0 σ H s e s',Inv (X.tr E' pn) v0 σ H s→EL X.prog X.w X.stack H s (W σ) e s'→E' e s')→lG (X.tr E' pn) body (CE W tb))
  (hs:∀x,lG (X.su x) (b₀::nE) (CE Bn ts)) (hd:(y ==("__debug__" : Str))=false:=by decide) :
  PS X (.Try body [.ExceptHandler (some (.Name y np)) none (b₀::nE) Bu] [] [] pos) (CE E (aq X.K Cy tb ts)):=
 GV (iQ tK Eb hy LS hb hs hd) λD σ H τ Γ Y Z rs hr t dr xr=>
  ⟨τ,Γ,_,Z,rs,hr,t,dr,λσ1 τ1 C H1 Γ1 s1 h1 r1 y1=>⟨y1.1,_,_,BX,_,r1,h1,y1.2,dr.mono s1,EW⟩⟩
end
def sc:T→Option V
 |.non=>some .non|.bl b=>some (.bl b)|.int i=>some (.int i)|.str z=>some (.str z)|_=>none
theorem HQ{u:V}(r:R H v x)(h:sc x=some u):v=u:=by
 cases x with
 |non=>cases h;exact Hk r
 |bl b=>cases h;exact G7 r
 |int i=>cases h;exact CY r
 |str z=>cases h;exact Bl r
 |tup ts=>cases h
 |ref a=>cases h
 |ty n=>cases h
 |scr K a ts=>cases h
def HP:List T→Option (List V)
 |[]=>some []
 |x::r=>match sc x,HP r with|some v,some vs=>some (v::vs)|_,_=>none
theorem Zi{H:A4}:∀{ts:List T} {vs us:List V},Rs H vs ts→HP ts=some us→vs=us
 |[],vs,us,r,h=>by cases h;exact Gf r
 |x::q,vs,us,r,h=>by
  let⟨v,ws,rfl,a,b⟩:=G5 r;unfold HP at h;split at h
  ·rename_i v' zM e1 e2
   cases h;rw[HQ a e1,Zi b e2]
  ·cases h
def EE(Γ:AJ):T→Option (List T)
 |.tup ts=>some ts
 |.ref a=>match Γ a with|some (.lst ts)=>some ts|_=>none
 |_=>none
theorem Bk(h:Γ a=some (.lst ts)):EE Γ (.ref a)=some ts:=by
 show(match Γ a with|some (.lst ts)=>some ts|_=>none)=_
 rw[h]
theorem Gq(hr:HR H Γ)(h:EE Γ (.ref a)=some ts):∃vs,kB K H a vs∧Rs H vs ts:=by
 have h:(match Γ a with|some (.lst ts)=>some ts|_=>none)=some ts:=h;split at h
 ·rename_i Xb g;cases h;let⟨vs,ha,q⟩:=hr a _ g;exact⟨vs,kB.of ha,q⟩
 ·cases h
theorem Ya(r:R H v x)(hr:HR H Γ)(h:EE Γ x=some ts):∃p vs,v=.ref p∧(kB K H p vs∨dW K H p vs)∧Rs H vs ts:=by
 cases x with
 |tup us=>cases h;let⟨a,vs,e,ha,q⟩:=CV r;exact Ψ2 a vs ⟨e,.inr (dW.of ha),q⟩
 |ref a=>let⟨vs,s,q⟩:=Gq (K:=K) hr h;exact Ψ2 a vs ⟨BL r,.inl s,q⟩
 |_=>cases h
section
def J9(C:Int→Int→Prop)(g:Int→Int→T):E3:=λx y Γ Z=>∃i j,x=.int i∧y=.int j∧C i j∧Z (g i j) Γ
def J7(g:Int→Int→T):E3:=λx y Γ Z=>∃i j,x=.int i∧y=.int j∧Z (g i j) Γ
theorem Lm{g:Int→Int→V}(h:iC X f (Ie C g))(e:∀i j H,R H (g i j) (g3 i j)):BG X f (J9 C g3):=
 ⟨_,h,λx y a b H Γ Q Z ra rb hr q0 vr=>by let⟨i,j,ea,eb,c,z⟩:=q0;subst ea eb;exact Ψ2 i j ⟨CY ra,CY rb,c,vr _ _ H Γ .refl hr (e i j H) z⟩⟩
theorem KI{g:Int→Int→V}(h:iC X f (Hn g))(e:∀i j H,R H (g i j) (g3 i j)):BG X f (J7 g3):=
 ⟨_,h,λx y a b H Γ Q Z ra rb hr q0 vr=>by let⟨i,j,ea,eb,z⟩:=q0;subst ea eb;exact Ψ2 i j ⟨CY ra,CY rb,vr _ _ H Γ .refl hr (e i j H) z⟩⟩
theorem FD:BG X (binaryOp .Add) (J7 λi j=>.int (i+j)):=KI rD λ_ _ _=>DO
theorem ON:BG X (binaryOp .Sub) (J7 λi j=>.int (i-j)):=KI kV λ_ _ _=>DO
theorem Mm:BG X (binaryOp .Mult) (J9 zg λi j=>.int (i*j)):=Lm pD λ_ _ _=>DO
theorem GZ:BG X (binaryOp .FloorDiv) (J9 ye λi j=>.int (i/j)):=Lm hV λ_ _ _=>DO
theorem CF:BG X (binaryOp .Mod) (J9 (λ_ j=>0<j) λi j=>.int (i%j)):=Lm xw λ_ _ _=>DO
theorem Mz:BG X (binaryOp .Pow) (J9 bT λi j=>.int (i^j.toNat)):=Lm vn λ_ _ _=>DO
theorem YF:BG X (compareOp .Lt) (J7 λi j=>.bl (decide (i<j))):=KI aag λ_ _ _=>Cr
theorem F4:BG X (compareOp .LtE) (J7 λi j=>.bl (decide (i≤j))):=KI qT λ_ _ _=>Cr
theorem YT:BG X (compareOp .Gt) (J7 λi j=>.bl (decide (j<i))):=KI iK λ_ _ _=>Cr
theorem vV:BG X (inplaceOp .Mult) (J9 zg λi j=>.int (i*j)):=Lm qN λ_ _ _=>DO
theorem LF:BG X (binaryOp .Add) (λx y Γ Z=>∃i j,x=.str i∧y=.str j∧i.length+j.length≤sizeLine∧Z (.str (i++j)) Γ):=
 ⟨_,qk,λx y a b H Γ Q Z ra rb hr q0 vr=>by let⟨i,j,ea,eb,c,z⟩:=q0;subst ea eb;exact Ψ2 i j ⟨Bl ra,Bl rb,c,vr _ _ H Γ .refl hr Ga z⟩⟩
theorem oj:BG X (compareOp .In) (λx y Γ Z=>∃i j,x=.str i∧y=.str j∧Z (.bl (!(Builtin.Str.occurrences j i 0 j.length 1).isEmpty)) Γ):=
 ⟨_,kC,λx y a b H Γ Q Z ra rb hr q0 vr=>by let⟨i,j,ea,eb,z⟩:=q0;subst ea eb;exact Ψ2 i j ⟨Bl ra,Bl rb,vr _ _ H Γ .refl hr Cr z⟩⟩
def Me:E3:=λx y Γ Z=>∃u v,sc x=some u∧sc y=some v∧N0 u v=true∧Z (.bl (decide (u=v))) Γ
def Rp:E3:=λx y Γ Z=>∃u v,sc x=some u∧sc y=some v∧N0 u v=true∧Z (.bl (!decide (u=v))) Γ
theorem CT:BG X (compareOp .Eq) Me:=
 ⟨_,iL,λx y a b H Γ Q Z ra rb hr q0 vr=>by let⟨u,v,ea,eb,c,z⟩:=q0;rw[HQ ra ea,HQ rb eb];exact⟨c,vr _ _ H Γ .refl hr Cr z⟩⟩
theorem EI:BG X (compareOp .NotEq) Rp:=
 ⟨_,ij,λx y a b H Γ Q Z ra rb hr q0 vr=>by let⟨u,v,ea,eb,c,z⟩:=q0;rw[HQ ra ea,HQ rb eb];exact⟨c,vr _ _ H Γ .refl hr Cr z⟩⟩
def Fv:T→Bool|.non=>true|_=>false
theorem Yh(r:R H v x):decide (v=.non)=Fv x:=by
 cases x with
 |non=>rw[Hk r];rfl
 |bl b=>rw[G7 r];rfl
 |int i=>rw[CY r];rfl
 |str z=>rw[Bl r];rfl
 |tup ts=>let⟨a,vs,e,_⟩:=CV r;rw[e];rfl
 |ref a=>rw[BL r];rfl
 |ty n=>rw[y6 r];rfl
 |scr K a ts=>rw[(P0 r).1];rfl
theorem N2:BG X (compareOp .Is) (λx y Γ Z=>y=.non∧Z (.bl (Fv x)) Γ):=
 ⟨_,vM,λx y a b H Γ Q Z ra rb hr q0 vr=>by let⟨eb,z⟩:=q0;subst eb;exact⟨Hk rb,by rw[Yh ra];exact vr _ _ H Γ .refl hr Cr z⟩⟩
theorem Og:BG X (compareOp .IsNot) (λx y Γ Z=>y=.non∧Z (.bl (!Fv x)) Γ):=
 ⟨_,xH,λx y a b H Γ Q Z ra rb hr q0 vr=>by let⟨eb,z⟩:=q0;subst eb;exact⟨Hk rb,by rw[Yh ra];exact vr _ _ H Γ .refl hr Cr z⟩⟩
def K0(neg:Bool):E3:=λx y Γ Z=>∃u ts us,sc x=some u∧EE Γ y=some ts∧HP ts=some us∧Dt u=true∧us.all Dt=true∧Z (.bl (if neg then !DK u us else DK u us)) Γ
theorem Zc(x y:V)(a b:T)(H:A4)(Γ:AJ)(Q:Ac)(Z:Cw)(ra:R H x a)(rb:R H y b)(hr:HR H Γ)(h:K0 neg a b Γ Z)(vr:VR H Γ Z Q):S5 X.K neg x y H Q:=by
 let⟨u,ts,us,ea,eb,es,f1,f2,z⟩:=h;let⟨p,vs,rfl,sq,q⟩:=Ya (K:=X.K) rb hr eb;rw[HQ ra ea];cases Zi q es;exact Ψ2 p _ ⟨rfl,sq,f1,f2,vr _ _ H Γ .refl hr Cr z⟩
theorem YM:BG X (compareOp .In) (K0 false):=⟨_,aL,Zc⟩
theorem Ol:BG X (compareOp .NotIn) (K0 true):=⟨_,fF,Zc⟩
theorem Yk(q:Rs H vs ts):vs.isEmpty=ts.isEmpty:=by
 have:=q.length;cases vs<;>cases ts<;>simp_all
theorem Oe(k:Kp [] H H'):∀b o,H b=some o→H' b=some o:=λb o h=>k b o (by simp) h
def rQ:E3:=λx y Γ Z=>∃a b ts us,x=.ref a∧y=.ref b∧Γ a=some (.lst ts)∧Γ b=some (.lst us)∧ts.length+us.length≤sizeLine∧∀p,Γ p=none→Z (.ref p) (A9 Γ p (.lst (ts++us)))
theorem Eu:BG X (binaryOp .Add) rQ:=
 ⟨_,jm,λx y a b H Γ Q Z ra rb hr q0 vr=>by
  let⟨p,p',ts,us,ea,eb,g1,g2,l,z⟩:=q0;subst ea eb;let⟨vs,hv,q⟩:=hr p _ g1;let⟨zM,Cj,q'⟩:=hr p' _ g2;exact Ψ4 p p' vs zM ⟨BL ra,BL rb,hv,Cj,by rw[q.length,q'.length];exact l,λc hc=>?_⟩;have k:=Bw (o:=.lst (vs++zM)) hc;exact vr _ _ _ _ (.make hc) (hr.make (o3:=.lst (ts++us)) hc ⟨_,BZ,Rs.app (q.mono (Ct k)) (q'.mono (Ct k))⟩) ER (z c (hr.free hc))⟩
theorem pG{i:Int}{t:T}(q:Rs H vs ts)(h:Cz ts i=some t):∃v,Cz vs i=some v∧R H v t:=by
 unfold Cz at h ⊢;rw[q.length];cases e:I0 ts.length i with
 |none=>rw[e]at h;cases h
 |some j=>
  rw[e]at h;have h':ts[j]?=some t:=h;let⟨v,hv,r⟩:=q.get h';exact⟨v,hv,r⟩
def JZ:E3:=λx y Γ Z=>∃ts i t,EE Γ x=some ts∧y=.int i∧Cz ts i=some t∧Z t Γ
def ZW:E3:=λx y Γ Z=>∃z i c,x=.str z∧y=.int i∧z.length≤sizeLine∧Cz z.cps.toList i=some c∧Z (.str ⟨#[c]⟩) Γ
variable {a b e: Expr}{ta te: AI}{p2: Pos}
theorem vO(ha:PE X a (AD E ta))(hb:PE X b (AD E tb))(hs:Lj b):PE X (.Subscript a b pos) (AD E (Fw JZ ta tb)):=
 F3 (eZ sX ha hb hs) (Kj λx y a b H Γ Q Z ra rb hr q0 vr=>by
  let⟨ts,i,t,ea,eb,h,z⟩:=q0;subst eb;let⟨p,vs,rfl,sq,q⟩:=Ya (K:=X.K) ra hr ea;let⟨v,hv,r⟩:=pG q h;rcases sq with sq|sq
  ·exact .inl ⟨p,vs,i,v,rfl,CY rb,sq,hv,vr _ _ H Γ .refl hr r z⟩
  ·exact .inr (.inl ⟨p,vs,i,v,rfl,CY rb,sq,hv,vr _ _ H Γ .refl hr r z⟩))
theorem jv(ha:PE X a (AD E ta))(hb:PE X b (AD E tb))(hs:Lj b):PE X (.Subscript a b pos) (AD E (Fw ZW ta tb)):=
 F3 (eZ Zo ha hb hs) (Kj λx y a b H Γ Q Z ra rb hr q0 vr=>by
  let⟨w,i,c,ea,eb,l,h,z⟩:=q0;subst ea eb;exact Ψ3 w i c ⟨Bl ra,CY rb,l,h,vr _ _ H Γ .refl hr Ga z⟩)
abbrev Hm:=Ey→Az→AJ→(Option Int→AJ→Prop)→Prop
def L8(E:St→Ax)(t:Hm):GW:=λσ H Q=>∃τ Γ Y Z,RS H σ τ∧HR H Γ∧t Y τ Γ Z∧(∀i H' Γ',fM H Γ H' Γ'→HR H' Γ'→Z i Γ'→Q i H')∧XR H Γ Y E
theorem jx{e:Option Expr}{t t':GW}(h:PO X e t)(w:∀σ H Q,t' σ H Q→t σ H Q):PO X e t':=⟨λv0 s σ H Q I q=>h.run v0 s σ H Q I (w _ _ _ q)⟩
theorem da{e:Option Expr}{t0:GW}{t:Hm}(h:PO X e t0)(w:∀σ H Q τ Γ Y Z,RS H σ τ→HR H Γ→t Y τ Γ Z→(∀i H' Γ',fM H Γ H' Γ'→HR H' Γ'→Z i Γ'→Q i H')→XR H Γ Y E→t0 σ H Q):PO X e (L8 E t):=
 jx h (by intro σ H Q⟨τ,Γ,Y,Z,rs,hr,q,vr,xr⟩;exact w σ H Q τ Γ Y Z rs hr q vr xr)
def Zj:Hm:=λ_ _ Γ Z=>Z none Γ
def eh(t:AI):Hm:=λY τ Γ Z=>t Y τ Γ λx Γ1=>∃i,x=.int i∧Z (some i) Γ1
theorem EY:PO X none (L8 E Zj):=da aan λσ H Q τ Γ Y Z rs hr t vr xr=>vr none H Γ .refl hr t
theorem DC(h:PE X e (AD E te)):PO X (some e) (L8 E (eh te)):=da (ic h) λσ H Q τ Γ Y Z rs hr t vr xr=>
 ⟨τ,Γ,Y,_,rs,hr,t,λv x H1 Γ1 s1 h1 r1 q0=>by let⟨i,ex,z⟩:=q0;subst ex;exact⟨i,CY r1,vr _ H1 Γ1 s1 h1 z⟩,xr⟩
abbrev O8:=T→Option Int→Option Int→AJ→Cw→Prop
def MI(X:Cx)(r3:O8):Prop:=∃r,Hu X r∧∀x a lo hi H Γ Q Z,R H x a→HR H Γ→r3 a lo hi Γ Z→VR H Γ Z Q→r x lo hi H Q
def au(r:O8)(te:AI)(tl th:Hm):AI:=λY τ Γ Z=>te Y τ Γ λx Γ1=>tl Y τ Γ1 λl Γ2=>th Y τ Γ2 λu Γ3=>r x l u Γ3 Z
theorem Dj{r3:O8}{lo hi:Option Expr}{tl:Hm}(hs:MI X r3)(he:PE X e (AD E te))(hl:PO X lo (L8 E tl))(hu:PO X hi (L8 E th)):PE X (.Subscript e (.Slice lo hi none p2) pos) (AD E (au r3 te tl th)):=by
 let⟨r,UD,sim⟩:=hs;exact DY (tS UD he hl hu) λσ H Q τ Γ Y Z rs hr t vr xr=>?_;exact Ψ4 τ Γ Y _ ⟨rs,hr,t,λv x H1 Γ1 s1 h1 r1 z1=>?_,xr⟩;exact Ψ4 τ Γ1 Y _ ⟨rs.mono s1.tq,h1,z1,λl H2 Γ2 s2 h2 z2=>?_,xr.mono s1⟩;exact Ψ4 τ Γ2 Y _ ⟨rs.mono (s1.trans s2).tq,h2,z2,λu H3 Γ3 s3 h3 z3=>?_,xr.mono (s1.trans s2)⟩;exact sim v x l u H3 Γ3 Q Z (r1.mono (s2.trans s3).tq) h3 z3 (vr.mono ((s1.trans s2).trans s3))
theorem ZV{lo hi:Option Int}(q:Rs H vs ts):Rs H (FP vs lo hi) (Cf ts lo hi):=by
 unfold FP Cf;rw[q.length];exact Rs.take _ (Rs.drop _ q)
theorem fS:MI X (λx lo hi Γ Z=>∃ts,x=.tup ts∧Z (.tup (Cf ts lo hi)) Γ):=
 ⟨_,ui,λx a lo hi H Γ Q Z ra hr q0 vr=>by
  let⟨ts,ea,z⟩:=q0;subst ea;let⟨p,vs,rfl,hp,q⟩:=CV ra;exact Ψ2 p vs ⟨rfl,hp,λc H' k hc=>vr _ _ H' Γ (.keep (Oe k)) (hr.keep (Oe k)) (J4 hc (ZV (q.mono (Ct (Oe k))))) z⟩⟩
theorem FA:MI X (λx lo hi Γ Z=>∃a ts,x=.ref a∧Γ a=some (.lst ts)∧∀p,Γ p=none→Z (.ref p) (A9 Γ p (.lst (Cf ts lo hi)))):=
 ⟨_,zF,λx a lo hi H Γ Q Z ra hr q0 vr=>by
  let⟨p,ts,ea,g,z⟩:=q0;subst ea;let⟨vs,hv,q⟩:=hr p _ g;exact Ψ2 p vs ⟨BL ra,kB.of hv,λc hc=>?_⟩;have k:=Bw (o:=.lst (FP vs lo hi)) hc;exact vr _ _ _ _ (.make hc) (hr.make (o3:=.lst (Cf ts lo hi)) hc ⟨_,BZ,ZV (q.mono (Ct k))⟩) ER (z c (hr.free hc))⟩
theorem To:MI X (λx lo hi Γ Z=>∃z:Str,x=.str z∧z.length≤sizeLine∧∀y:Str,y.cps.toList=Cf z.cps.toList lo hi→Z (.str y) Γ):=
 ⟨_,vP,λx a lo hi H Γ Q Z ra hr q0 vr=>by
  let⟨w,ea,l,z⟩:=q0;subst ea;exact⟨w,Bl ra,l,λy hy=>vr _ _ H Γ .refl hr Ga (z y hy)⟩⟩
def Su(r:T→AJ→Cw→Prop)(te ts:AI):AI:=λY τ Γ Z=>te Y τ Γ λx Γ1=>ts Y τ Γ1 λk Γ2=>k=.int (-1)∧r x Γ2 Z
def gi(g:Int→T):T→AJ→Cw→Prop:=λx Γ Z=>∃i,x=.int i∧Z (g i) Γ
def Z0(r:T→AJ→Cw→Prop)(ta:AI):AI:=λY τ Γ Z=>ta Y τ Γ λx Γ1=>r x Γ1 Z
theorem gu(ha:PE X a (AD E ta)):PE X (.UnaryOp .USub a pos) (AD E (Z0 (gi λi=>.int (-i)) ta)):=
 DY (aam pI ha) λσ H Q τ Γ Y Z rs hr t vr xr=>
  ⟨τ,Γ,Y,_,rs,hr,t,λv x H1 Γ1 s1 h1 r1 q0=>by let⟨i,ex,z⟩:=q0;subst ex;exact⟨i,CY r1,vr _ _ H1 Γ1 s1 h1 DO z⟩,xr⟩
abbrev Li:=List T→AJ→Cw→Prop
def F8(X:Cx)(f:Value)(r3:Li):Prop:=∃r,F1 X f r∧∀vs ts H Γ Q Z,Rs H vs ts→HR H Γ→r3 ts Γ Z→VR H Γ Z Q→r vs H Q
def OH(r:Li)(t:C5):AI:=λY τ Γ Z=>t Y τ Γ λts Γ1=>r ts Γ1 Z
theorem Yz{r:List V→A4→Ac→Prop}{r3:Li}(h:∀vs ts H Γ Q Z,Rs H vs ts→HR H Γ→r3 ts Γ Z→VR H Γ Z Q→r vs H Q)(σ:St)(H:A4)(Q:Ac)(q:AD E (OH r3 t) σ H Q):WG r (DD E t) σ H Q:=by
 let⟨τ,Γ,Y,Z,rs,hr,t,vr,xr⟩:=q;exact Ψ4 τ Γ Y _ ⟨rs,hr,t,λvs xs H1 Γ1 s1 h1 r1 z1=>h vs xs H1 Γ1 Q Z r1 h1 z1 (vr.mono s1),xr⟩
section
variable {x: Str}{p: Pos}{e: Expr}{t: C5}{id: String}{r3: Li}
theorem Av(hc:F8 X (.builtin id) r3)(hg:BP X x)(hm:X.mg x=none)(hv:bootBuiltins x=some (.builtin id))(ha:PA X (e::es) (DD E t))(hn:x ≠ "__name__" := by decide)(oC:(x ==("__debug__" : Str))=false:=by decide)
  (he:starEach (e::es) X.env=(false,eval e X.env)::starEach es X.env:=by rfl) (hJ:(backTo pos (starEach es X.env)).any (·.1)=false:=by rfl):PE X (.Call (.Name x p) (e::es) [] pos) (AD E (OH r3 t)):=by
 let⟨r,hr,h⟩:=hc;exact F3 (eE hr hg hm hv ha hn oC he hJ) (Yz h)
theorem Nr(hc:F8 X (.type Tn) r3)(hg:BP X x)(hm:X.mg x=none)(hv:bootBuiltins x=some (.type Tn))(ha:PA X (e::es) (DD E t))(hn:x ≠ "__name__" := by decide)(oC:(x ==("__debug__" : Str))=false:=by decide)
  (he:starEach (e::es) X.env=(false,eval e X.env)::starEach es X.env:=by rfl) (hJ:(backTo pos (starEach es X.env)).any (·.1)=false:=by rfl):PE X (.Call (.Name x p) (e::es) [] pos) (AD E (OH r3 t)):=by
 let⟨r,hr,h⟩:=hc;exact F3 (jR hr hg hm hv ha hn oC he hJ) (Yz h)
end
theorem Dv(h:Rs H vs [x]):∃v,vs=[v]∧R H v x:=by
 let⟨v,ws,rfl,a,b⟩:=G5 h;exact⟨v,by rw[Gf b],a⟩
theorem tV{y:T}(h:Rs H vs [x,y]):∃v w,vs=[v,w]∧R H v x∧R H w y:=by
 let⟨v,ws,rfl,a,b⟩:=G5 h;let⟨w,rfl,c⟩:=Dv b;exact Ψ2 v w ⟨rfl,a,c⟩
theorem DL:F8 X (.builtin "len") (λxs Γ Z=>∃x ts,xs=[x]∧EE Γ x=some ts∧Z (.int ts.length) Γ):=
 ⟨_,YS,λvs xs H Γ Q Z r hr q0 vr=>by
  let⟨x,ts,e,h,z⟩:=q0;subst e;let⟨v,rfl,rv⟩:=Dv r;let⟨p,us,rfl,sq,q⟩:=Ya (K:=X.K) rv hr h;exact Ψ2 p us ⟨rfl,sq,by rw[q.length];exact vr _ _ H Γ .refl hr DO z⟩⟩
theorem Y7:F8 X (.builtin "len") (λxs Γ Z=>∃z:Str,xs=[.str z]∧z.length≤sizeLine∧Z (.int z.length) Γ):=
 ⟨_,rP,λvs xs H Γ Q Z r hr q0 vr=>by
  let⟨w,e,l,z⟩:=q0;subst e;let⟨v,rfl,rv⟩:=Dv r;exact⟨w,by rw[Bl rv],l,vr _ _ H Γ .refl hr DO z⟩⟩
theorem Pg:F8 X (.type "tuple") (λxs Γ Z=>∃x ts,xs=[x]∧EE Γ x=some ts∧Z (.tup ts) Γ):=
 ⟨_,mU,λvs xs H Γ Q Z r hr q0 vr=>by
  let⟨x,ts,e,h,z⟩:=q0;subst e;let⟨v,rfl,rv⟩:=Dv r;cases x with
  |tup us=>
   cases h;let⟨a,ws,rfl,ha,q⟩:=CV rv;exact Ψ2 a ws ⟨rfl,.inr ⟨dW.of ha,vr _ _ H Γ .refl hr (J4 ha q) z⟩⟩
  |ref a=>
   let⟨us,sq,q⟩:=Gq (K:=X.K) hr h;exact Ψ2 a us ⟨by rw[BL rv],.inl ⟨sq,λl hl=>?_⟩⟩;have k:=Bw (o:=.tup us) hl;exact vr _ _ _ Γ (.keep k) (hr.keep k) (J4 BZ (q.mono (Ct k))) z
  |_=>cases h⟩
theorem nA:F8 X (.builtin "ord") (λxs Γ Z=>∃x:Str,xs=[.str x]∧x.length=1∧Z (.int (x.cps.getD 0 0:Nat)) Γ):=
 ⟨_,vg,λvs xs H Γ Q Z r hr q0 vr=>by
  let⟨i,e,l,z⟩:=q0;subst e;let⟨v,rfl,a⟩:=Dv r;exact⟨i,by rw[Bl a],l,vr _ _ H Γ .refl hr DO z⟩⟩
theorem SE{H:A4}:∀{ns:List Bool} {vs:List V},Rs H vs (ns.map T.bl)→vs=ns.map V.bl
 |[],vs,h=>Gf h
 |n::r,vs,h=>by
  let⟨v,ws,rfl,a,b⟩:=G5 h;rw[G7 a,SE b];rfl
theorem gX{H:A4}:∀{ns:List Str} {vs:List V},Rs H vs (ns.map T.str)→vs=ns.map V.str
 |[],vs,h=>Gf h
 |n::r,vs,h=>by
  let⟨v,ws,rfl,a,b⟩:=G5 h;rw[Bl a,gX b];rfl
theorem F5(hc:X.calm=true):F8 X (.builtin "all") (λxs Γ Z=>∃(p:Addr) (bs:List Bool),xs=[.ref p]∧EE Γ (.ref p)=some (bs.map T.bl)∧Z (.bl (bs.all id)) Γ):=
 ⟨_,zW hc,λvs xs H Γ Q Z r hr q0 vr=>by
  let⟨p,ns,e,g,z⟩:=q0;subst e;let⟨v,rfl,a⟩:=Dv r;let⟨us,sq,q⟩:=Gq (K:=X.K) hr g;rw[SE q]at sq;exact Ψ2 p ns ⟨by rw[BL a],sq,vr _ _ H Γ .refl hr Cr z⟩⟩
theorem Yp(hc:X.calm=true):F8 X (.builtin "any") (λxs Γ Z=>∃(p:Addr) (bs:List Bool),xs=[.ref p]∧EE Γ (.ref p)=some (bs.map T.bl)∧Z (.bl (bs.any id)) Γ):=
 ⟨_,ki hc,λvs xs H Γ Q Z r hr q0 vr=>by
  let⟨p,ns,e,g,z⟩:=q0;subst e;let⟨v,rfl,a⟩:=Dv r;let⟨us,sq,q⟩:=Gq (K:=X.K) hr g;rw[SE q]at sq;exact Ψ2 p ns ⟨by rw[BL a],sq,vr _ _ H Γ .refl hr Cr z⟩⟩
def Ef(Γ:AJ):T→Option String
 |.non=>some "NoneType" |.bl _=>some "bool" |.int _=>some "int" |.str _=>some "str" |.tup _=>some "tuple"
 |.ref a=>match Γ a with|some (.lst _)=>some "list" |some (.dK _)=>some "dict" |_=>none
 |.ty _=>none
 |.scr _ _ _=>none
theorem Z6{n:String}(r:R H v x)(hr:HR H Γ)(h:Ef Γ x=some n):Em K H v (.type n):=by
 cases x with
 |non=>cases h;rw[Hk r];exact .non
 |bl b=>cases h;rw[G7 r];exact .bl b
 |int i=>cases h;rw[CY r];exact .int i
 |str z=>cases h;rw[Bl r];exact .str z
 |tup ts=>cases h;let⟨a,vs,e,ha,_⟩:=CV r;rw[e];exact .tup ha
 |ty n=>cases h
 |scr K a ts=>cases h
 |ref a=>
  rw[BL r];have h:(match Γ a with|some (.lst _)=>some "list" |some (.dK _)=>some "dict" |_=>none)=some n:=h;split at h
  ·rename_i g;cases h;let⟨vs,hv,_⟩:=hr a _ g;exact .lst hv
  ·rename_i g;cases h;let⟨vs,hv,_⟩:=hr a _ g;exact .dK hv
  ·cases h
def S2(K:W.Frag)(Ty:String)(te:AI):AI:=λY τ Γ Z=>te Y τ Γ λx Γ1=>∃n b,Ef Γ1 x=some n∧W.kitOne K (.type n) (.type Ty)=some b∧Z (.bl b) Γ1
theorem CR{x:Expr}{p p2 pos:Pos}{Tn:Str}(hg:BP X "isinstance")(hm:X.mg "isinstance" = none)(LX:BP X Tn)(LV:X.mg Tn=none)(LO:bootBuiltins Tn=some (.type Ty))(he:PE X x (AD E te))(hn:Tn ≠ "__name__" := by decide)(L5:(Tn ==("__debug__" : Str))=false:=by decide)
  (hs:starEach [x,.Name Tn p2] X.env=(false,eval x X.env)::starEach [.Name Tn p2] X.env:=by rfl) (qS:starEach [.Name Tn p2] X.env=[(false,eval (.Name Tn p2) X.env)]:=by rfl)
  (hJ:(backTo pos (starEach [.Name Tn p2] X.env)).any (·.1)=false:=by rfl):PE X (.Call (.Name "isinstance" p) [x,.Name Tn p2] [] pos) (AD E (S2 X.K Ty te)):=
 DY (wU hg hm LX LV LO he hn L5 hs qS hJ) λσ H Q τ Γ Y Z rs hr t vr xr=>
  ⟨τ,Γ,Y,_,rs,hr,t,λv x H1 Γ1 s1 h1 r1 ξ=>Ξ23 ξ λn b ty k z=>⟨v,rfl,.type n,b,Z6 r1 h1 ty,k,vr _ _ H1 Γ1 s1 h1 Cr z⟩,xr⟩
def S0(Γ:AJ):T→Option Bool
 |.non=>some false|.bl b=>some b|.int i=>some (i != 0)|.tup ts=>some (!ts.isEmpty)
 |.str z=>if z.length≤sizeLine then some ((z.length:Int) != 0)else none
 |.ref a=>match Γ a with|some (.lst ts)=>some (!ts.isEmpty)|some (.dK ay)=>some (!ay.isEmpty)|_=>none
 |.ty _=>none
 |.scr _ _ _=>none
theorem kf{us:List (AG×V)}{ay:List (AG×T)}(q:Ks H us ay):us.isEmpty=ay.isEmpty:=by cases q<;>rfl
theorem xO{k:Bool}(r:R H v x)(hr:HR H Γ)(h:S0 Γ x=some k):Tp K v H k:=by
 cases x with
 |non=>cases h;rw[Hk r];rfl
 |bl b=>cases h;rw[G7 r];rfl
 |int i=>cases h;rw[CY r];rfl
 |str z=>
  rw[Bl r];have h:(if z.length≤sizeLine then some ((z.length:Int) != 0)else none)=some k:=h;by_cases c:z.length≤sizeLine
  ·rw[AR c]at h;cases h;exact⟨c,rfl⟩
  ·rw[AN c]at h;cases h
 |tup ts=>cases h;let⟨a,vs,e,ha,q⟩:=CV r;rw[e];exact .inr (.inl ⟨vs,dW.of ha,by rw[Yk q]⟩)
 |ty n=>cases h
 |scr K a ts=>cases h
 |ref a=>
  rw[BL r];have h:(match Γ a with|some (.lst ts)=>some (!ts.isEmpty)|some (.dK ay)=>some (!ay.isEmpty)|_=>none)=some k:=h;split at h
  ·rename_i g;cases h;let⟨vs,hv,q⟩:=hr a _ g;exact .inl ⟨vs,kB.of hv,by rw[Yk q]⟩
  ·rename_i g;cases h;let⟨vs,hv,q⟩:=hr a _ g;exact .inr (.inr ⟨vs,hv,by rw[kf q]⟩)
  ·cases h
def Yq(t:AI):CP:=λY τ Γ Z=>t Y τ Γ λx Γ1=>∃k,S0 Γ1 x=some k∧Z k Γ1
theorem lX{a:Expr}{ta:AI}(ha:PE X a (AD E ta))(he:∀whole,isTrue a X.env whole=(do let v ←whole;standAt a.pos;holding [v] (truthy v))):PT X a (C6 E (Yq ta)):=
 dY (nU ha he) λσ H Q τ Γ Y Z rs hr t vr xr=>
  ⟨τ,Γ,Y,_,rs,hr,t,λv x H1 Γ1 s1 h1 r1 ξ=>Ξ12 ξ λk tr z=>⟨k,xO r1 h1 tr,vr _ H1 Γ1 s1 h1 z⟩,xr⟩
theorem nY:F8 X (.builtin "len") (λxs Γ Z=>∃a ts,xs=[.scr X.K a ts]∧Z (.int ts.length) Γ):=
 ⟨_,YS,λvs xs H Γ Q Z r hr q0 vr=>by
  let⟨a,ts,e,z⟩:=q0;subst e;let⟨v,rfl,rv⟩:=Dv r;let⟨rfl,⟨us,sq,q⟩⟩:=P0 rv;exact Ψ2 a us ⟨rfl,.inl sq.sq,by rw[q.length];exact vr _ _ H Γ .refl hr DO z⟩⟩
end
section
variable {tg l: Expr}{tl: AI}{p: Pos}
abbrev D3:AJ→Prop:=λ_=>True
def fK(tl:AI):I3:=λY τ Γ Z=>tl Y τ Γ λx Γ1=>∃ts,x=.tup ts∧Z ts D3 Γ1
theorem yt(ha:H a=some (.tup vs))(q:Rs H vs ts):Walks (Sl K a) ts D3 H where
 go:=λi H' Γ t hr _ hi=>Ψ2 vs (vs[i]'(by rw[q.length];exact hi)) ⟨dW.of (t.1 a vs ha),by simp⟩
 oK:=λi H' Γ x H2 t hr _ hi q0=>by
  let⟨e,y⟩:=q0;subst e;let⟨t',e',r⟩:=(q.mono t).wC (y vs (dW.of (t.1 a vs ha)));exact⟨.refl,hr,t',e',r⟩
 stop:=λH' Γ t hr _=>⟨vs,dW.of (t.1 a vs ha),by rw[q.length];exact Ar _⟩
theorem Dc(hl:PE X l (AD E tl)):PI X tg l (Di E (fK tl)):=
 Ic (iO hl) λσ H Q τ Γ Y Z rs hr t vr xr=>⟨τ,Γ,Y,_,rs,hr,t,λv x H1 Γ1 s1 h1 r1 ξ=>Ξ12 ξ λts ex z=>by
  subst ex;let⟨a,vs,rfl,ha,q⟩:=CV r1;exact⟨a,rfl,⟨vs,dW.of ha⟩,vr _ ts D3 H1 Γ1 s1 h1 (yt ha q) z⟩,xr⟩
def eV(tl:AI):I3:=λY τ Γ Z=>tl Y τ Γ λx Γ1=>∃a ts,x=.ref a∧EE Γ1 (.ref a)=some ts∧Z ts (λΓ'=>EE Γ' (.ref a)=some ts) Γ1
theorem uB:Walks (Y5 K a) ts (λΓ'=>EE Γ' (.ref a)=some ts) H where
 go:=λi H' Γ t hr g hi=>by
  let⟨vs,sq,q⟩:=Gq (K:=K) hr g;exact Ψ2 vs (vs[i]'(by rw[q.length];exact hi)) ⟨sq,by simp⟩
 oK:=λi H' Γ x H2 t hr g hi q0=>by
  let⟨e,y⟩:=q0;subst e;let⟨vs,sq,q⟩:=Gq (K:=K) hr g;let⟨t',e',r⟩:=q.wC (y vs sq);exact⟨.refl,hr,t',e',r⟩
 stop:=λH' Γ t hr g=>by
  let⟨vs,sq,q⟩:=Gq (K:=K) hr g;exact⟨vs,sq,by rw[q.length];exact Ar _⟩
theorem XN(hl:PE X l (AD E tl)):PI X tg l (Di E (eV tl)):=
 Ic (aaf hl) λσ H Q τ Γ Y Z rs hr t vr xr=>⟨τ,Γ,Y,_,rs,hr,t,λv x H1 Γ1 s1 h1 r1 ξ=>Ξ23 ξ λa ts ex g z=>by
  subst ex;let⟨vs,sq,q⟩:=Gq (K:=X.K) h1 g;exact⟨a,BL r1,⟨vs,sq⟩,vr _ ts _ H1 Γ1 s1 h1 uB z⟩,xr⟩
def Eg(lo:Int):Nat→List T
 |0=>[]
 |n+1=>.int lo::Eg (lo+1) n
theorem Mj:∀(n:Nat) (lo:Int),(Eg lo n).length=n
 |0,_=>rfl
 |n+1,lo=>by rw[Eg,D0,Mj n]
theorem dv:∀(n:Nat) (lo:Int) (i:Nat),i<n→(Eg lo n)[i]?=some (.int (lo+i))
 |0,_,i,h=>absurd h (Nat.not_lt_zero _)
 |n+1,lo,0,_=>by rw[Eg];simp
 |n+1,lo,i+1,h=>by
  rw[Eg,Oo,dv n (lo+1) i (by lia)];congr 2
  lia
theorem xK(lo:Int)(n:Nat):Walks (Lu lo n) (Eg lo n) D3 H where
 go:=λi H' Γ t hr _ hi=>by rw[Mj]at hi;exact hi
 oK:=λi H' Γ x H2 t hr _ hi q0=>by
  let⟨e,y⟩:=q0;subst e y;rw[Mj]at hi;exact⟨.refl,hr,_,dv n lo i hi,DO⟩
 stop:=λH' Γ t hr _=>by rw[Mj];exact Ar _
def Zp(ta:C5):I3:=λY τ Γ Z=>ta Y τ Γ λxs Γ1=>∃j:Int,xs=[.int j]∧-(2^62)≤j∧j<2^62∧Z (Eg 0 j.toNat) D3 Γ1
theorem M3{a:Expr}(hg:BP X "range")(hm:X.mg "range" = none)(ha:PA X [a] (DD E ta))(hs:starEach [a] X.env=[(false,eval a X.env)]:=by rfl):PI X tg (.Call (.Name "range" p) [a] [] pos) (Di E (Zp ta)):=
 Ic (sy hg hm ha hs) λσ H Q τ Γ Y Z rs hr t vr xr=>⟨τ,Γ,Y,_,rs,hr,t,λvs xs H1 Γ1 s1 h1 r1 ξ=>Ξ14 ξ λj ex b1 b2 z=>by
  subst ex;let⟨v,rfl,a⟩:=Dv r1;exact⟨j,by rw[CY a],b1,b2,vr _ _ D3 H1 Γ1 s1 h1 (xK 0 _) z⟩,xr⟩
def E6:List T→List T→List T
 |x::r,y::q=>.tup [x,y]::E6 r q
 |_,_=>[]
theorem Iy:∀{xs ys:List T},(E6 xs ys).length=min xs.length ys.length
 |[],_=>by simp[E6]
 |_::_,[]=>by simp[E6]
 |x::r,y::q=>by rw[E6,D0,Iy,D0,D0];lia
theorem YU:∀{xs ys:List T} {i:Nat} {x y:T},xs[i]?=some x→ys[i]?=some y→(E6 xs ys)[i]?=some (.tup [x,y])
 |[],_,_,_,_,h,_=>by simp at h
 |_::_,[],_,_,_,_,h=>by simp at h
 |a::r,b::q,0,x,y,h,h'=>by cases h;cases h';rfl
 |a::r,b::q,i+1,x,y,h,h'=>by rw[E6,Oo];exact YU (by simpa using h) (by simpa using h')
def ZO(ta:C5):I3:=λY τ Γ Z=>ta Y τ Γ λxs Γ1=>∃ts us,xs=[.tup ts,.tup us]∧Z (E6 ts us) D3 Γ1
theorem i4{b:Addr}{ws:List V}(ha:H a=some (.tup vs))(q:Rs H vs ts)(hb:H b=some (.tup ws))(q':Rs H ws us):Walks (Mw K a b) (E6 ts us) D3 H where
 go:=λi H' Γ t hr _ hi=>by
  rw[Iy]at hi;exact Ψ4 vs ws (vs[i]'(by rw[q.length];lia)) (ws[i]'(by rw[q'.length];lia)) ⟨dW.of (t.1 a vs ha),dW.of (t.1 b ws hb),by simp,by simp⟩
 oK:=λi H' Γ v H2 t hr _ hi q0=>by
  let⟨p,x,y,hp,e1,e2,y1,y2⟩:=q0;subst e1 e2;let⟨t1,f1,r1⟩:=(q.mono t).wC (y1 vs (dW.of (t.1 a vs ha)));let⟨t2,f2,r2⟩:=(q'.mono t).wC (y2 ws (dW.of (t.1 b ws hb)));have k:=Bw (o:=.tup [x,y]) hp;exact⟨.keep k,hr.keep k,_,YU f1 f2,J4 BZ (Et (r1.mono (Ct k)) (Et (r2.mono (Ct k)) FI))⟩
 stop:=λH' Γ t hr _=>Ψ2 vs ws ⟨dW.of (t.1 a vs ha),dW.of (t.1 b ws hb),by rw[Iy,q.length,q'.length];lia⟩
theorem eR{a b:Expr}(hg:BP X "zip")(hm:X.mg "zip" = none)(ha:PA X [a,b] (DD E ta))(hs:starEach [a,b] X.env=[(false,eval a X.env),(false,eval b X.env)]:=by rfl)(qS:starEach [b] X.env=[(false,eval b X.env)]:=by rfl):
  PI X (.Tuple elts kk rL) (.Call (.Name "zip" p) [a,b] [] pos) (Di E (ZO ta)):=
 Ic (cj hg hm ha hs qS) λσ H Q τ Γ Y Z rs hr t vr xr=>⟨τ,Γ,Y,_,rs,hr,t,λvs xs H1 Γ1 s1 h1 r1 ξ=>Ξ22 ξ λts us ex z=>by
  subst ex;let⟨v,w,rfl,a,b⟩:=tV r1;let⟨pa,va,rfl,ha,qa⟩:=CV a;let⟨pb,vb,rfl,hb,qb⟩:=CV b;exact Ψ4 pa pb va vb ⟨rfl,dW.of ha,dW.of hb,vr _ _ D3 H1 Γ1 s1 h1 (i4 ha qa hb qb) z⟩,xr⟩
def GX(n:Nat):List T→List T
 |[]=>[]
 |x::r=>.tup [.int n,x]::GX (n+1) r
theorem S3:∀{xs:List T} {n:Nat},(GX n xs).length=xs.length
 |[],_=>rfl
 |x::r,n=>by rw[GX,D0,S3,D0]
theorem gF:∀{xs:List T} {n i:Nat} {x:T},xs[i]?=some x→(GX n xs)[i]?=some (.tup [.int ((n+i:Nat):Int),x])
 |[],_,_,_,h=>by simp at h
 |a::r,n,0,x,h=>by cases h;rfl
 |a::r,n,i+1,x,h=>by
  rw[GX,Oo,gF (n:=n+1) (by simpa using h)];congr 4
  lia
def aR(ta:C5):I3:=λY τ Γ Z=>ta Y τ Γ λxs Γ1=>∃ts,xs=[.tup ts]∧Z (GX 0 ts) D3 Γ1
theorem ud(ha:H a=some (.tup vs))(q:Rs H vs ts):Walks (X6 K a) (GX 0 ts) D3 H where
 go:=λi H' Γ t hr _ hi=>by
  rw[S3]at hi;exact Ψ2 vs (vs[i]'(by rw[q.length];lia)) ⟨dW.of (t.1 a vs ha),by simp⟩
 oK:=λi H' Γ v H2 t hr _ hi q0=>by
  let⟨p,x,hp,e1,e2,y1⟩:=q0;subst e1 e2;let⟨t1,f1,r1⟩:=(q.mono t).wC (y1 vs (dW.of (t.1 a vs ha)));have k:=Bw (o:=.tup [.int i,x]) hp;exact⟨.keep k,hr.keep k,_,gF f1,J4 BZ (Et ?_ (Et (r1.mono (Ct k)) FI))⟩;rw[Nat.zero_add];exact DO
 stop:=λH' Γ t hr _=>⟨vs,dW.of (t.1 a vs ha),by rw[S3,q.length]⟩
theorem uy{a:Expr}(hg:BP X "enumerate")(hm:X.mg "enumerate" = none)(ha:PA X [a] (DD E ta))(hs:starEach [a] X.env=[(false,eval a X.env)]:=by rfl):
  PI X (.Tuple elts kk rL) (.Call (.Name "enumerate" p) [a] [] pos) (Di E (aR ta)):=
 Ic (xY hg hm ha hs) λσ H Q τ Γ Y Z rs hr t vr xr=>⟨τ,Γ,Y,_,rs,hr,t,λvs xs H1 Γ1 s1 h1 r1 ξ=>Ξ12 ξ λts ex z=>by
  subst ex;let⟨v,rfl,a⟩:=Dv r1;let⟨pa,va,rfl,ha,qa⟩:=CV a;exact Ψ2 pa va ⟨rfl,dW.of ha,vr _ _ D3 H1 Γ1 s1 h1 (ud ha qa) z⟩,xr⟩
def Gy(z:Str):List T:=z.cps.toList.map λc=>.str ⟨#[c]⟩
def bQ(tl:AI):I3:=λY τ Γ Z=>tl Y τ Γ λx Γ1=>∃z,x=.str z∧Z (Gy z) D3 Γ1
theorem rA(z:Str):Walks (MR z) (Gy z) D3 H where
 go:=λi H' Γ t hr _ hi=>by
  unfold Gy at hi;rw[AV,JL]at hi;exact hi
 oK:=λi H' Γ x H2 t hr _ hi q0=>by
  let⟨e,⟨c,hc,ex⟩⟩:=q0;subst e ex;exact⟨.refl,hr,.str ⟨#[c]⟩,?_,Ga⟩;unfold Gy;rw[Hi,Array.getElem?_toList,hc];rfl
 stop:=λH' Γ t hr _=>by
  show z.cps.size≤(Gy z).length
  unfold Gy;rw[AV,JL];exact Ar _
theorem fz(hl:PE X l (AD E tl)):PI X tg l (Di E (bQ tl)):=
 Ic (iu hl) λσ H Q τ Γ Y Z rs hr t vr xr=>⟨τ,Γ,Y,_,rs,hr,t,λv x H1 Γ1 s1 h1 r1 ξ=>Ξ12 ξ λz ex zz=>by
  subst ex;exact⟨z,Bl r1,vr _ _ D3 H1 Γ1 s1 h1 (rA z) zz⟩,xr⟩
abbrev Ma:=T→List T→AJ→Cw→Prop
def K4(X:Cx)(id:String)(r3:Ma):Prop:=∃r,Jg X id r∧∀v x vs ts H Γ Q Z,R H v x→Rs H vs ts→HR H Γ→r3 x ts Γ Z→VR H Γ Z Q→r v vs H Q
def de(Tn:String)(r3:Ma)(to:AI)(t:C5):AI:=λY τ Γ Z=>to Y τ Γ λx Γ1=>Ef Γ1 x=some Tn∧t Y τ Γ1 λxs Γ2=>r3 x xs Γ2 Z
theorem wA{n:String}(r:R H v x)(hr:HR H Γ)(h:Ef Γ x=some n)(hn:n = "list" ∨ n = "str" ∨ n = "dict"):Ro K n v H:=by
 have ty:=Z6 (K:=K) r hr h;cases x with
 |non=>cases h;rcases hn with h|h|h<;>exact absurd h (by decide)
 |bl b=>cases h;rcases hn with h|h|h<;>exact absurd h (by decide)
 |int i=>cases h;rcases hn with h|h|h<;>exact absurd h (by decide)
 |str z=>cases h;rw[Bl r];rfl
 |tup ts=>cases h;rcases hn with h|h|h<;>exact absurd h (by decide)
 |ty n=>cases h
 |scr K a ts=>cases h
 |ref a=>
  rw[BL r];have h:(match Γ a with|some (.lst _)=>some "list" |some (.dK _)=>some "dict" |_=>none)=some n:=h;split at h
  ·rename_i g;cases h;let⟨vs,hv,_⟩:=hr a _ g;exact .inl ⟨rfl,vs,kB.of hv⟩
  ·rename_i g;cases h;let⟨vs,hv,_⟩:=hr a _ g;exact .inr (.inr (.inl ⟨rfl,.inl ⟨vs,hv⟩⟩))
  ·cases h
section
variable {o e: Expr}{to: AI}{t: C5}{name: Str}{apos: Pos}{id: String}{r3: Ma}
theorem FZ(pa:PlainAttrs Tn)(slot:Slot Tn name id)(Ck:typeOf (.builtin id)=pure (.type "method_descriptor"))(hm:K4 X id r3)(ho:PE X o (AD E to))(ha:PA X (e::es) (DD E t))(hn:Tn = "list" ∨ Tn = "str" ∨ Tn = "dict" := by decide)
  (Bx:attributeBase o name X.env (eval o X.env)=eval o X.env:=by rfl)
  (Iu:((backTo ek (starEach (e::es) X.env)).all (λx=>!x.1)&&(backToKw ek (keywordEach [] X.env)).all (λx=>x.1.isSome)
   && decide ((e::es).length+([]:List Keyword).length+(if([]:List Keyword).isEmpty then 0 else 1)<30))=true:=by rfl)
  (Bv:(apos.endLine==ek.line)=true:=by rfl) (hs:starEach (e::es) X.env=(false,eval e X.env)::starEach es X.env:=by rfl) (wz:(backTo ek (starEach es X.env)).any (·.1)=false:=by rfl) :
  PE X (.Call (.Attribute o name apos) (e::es) [] ek) (AD E (de Tn r3 to t)):=by
 obtain⟨r,hm,sim⟩:=hm;exact DY (lF pa slot Ck hm ho ha Bx Iu Bv hs wz) λσ H Q τ Γ Y Z rs hr t vr xr=>⟨τ,Γ,Y,_,rs,hr,t,λv x H1 Γ1 s1 h1 r1 ξ=>Ξ02 ξ λty z=>
  ⟨wA r1 h1 ty hn,τ,Γ1,Y,_,rs.mono s1.tq,h1,z,λvs xs H2 Γ2 s2 h2 r2 z2=>sim v x vs xs H2 Γ2 Q Z (r1.mono s2.tq) r2 h2 z2 (vr.mono (s1.trans s2)),xr.mono s1⟩,xr⟩
end
theorem Ih:K4 X "list.append" (λx ts Γ Z=>∃a us y,x=.ref a∧ts=[y]∧Γ a=some (.lst us)∧us.length<sizeLine∧Z .non (A9 Γ a (.lst (us++[y])))):=
 ⟨_,gJ,λv x vs ts H Γ Q Z r rs hr q0 vr=>by
  let⟨a,us,y,ex,et,g,l,z⟩:=q0;subst ex et;let⟨w,rfl,rS⟩:=Dv rs;let⟨ws,hw,q⟩:=hr a _ g;exact Ψ3 a ws w ⟨BL r,rfl,hw,by rw[q.length];exact l,?_⟩;have s:fM H Γ (AK H a (.lst (ws++[w]))) (A9 Γ a (.lst (us++[y]))):=.set hr g;exact vr _ _ _ _ s (hr.set g ⟨_,BZ,Rs.app (q.mono s.tq) (Et (rS.mono s.tq) FI)⟩) Je z⟩
theorem iT:K4 X "str.join" (λx ts Γ Z=>∃(p:Addr) (ss:List Str),x=.str Str.empty∧ts=[.ref p]∧EE Γ (.ref p)=some (ss.map T.str)∧ss.length≤1000∧(∀y∈ss,y.length≤1000)∧Z (.str (Hb ss)) Γ):=
 ⟨_,t7,λv x vs ts H Γ Q Z r rs hr q0 vr=>by
  let⟨p,ss,ex,et,g,l,l2,z⟩:=q0;subst ex et;let⟨w,rfl,rS⟩:=Dv rs;let⟨us,sq,q⟩:=Gq (K:=X.K) hr g;rw[gX q]at sq;exact Ψ2 p ss ⟨Bl r,by rw[BL rS],sq,l,l2,vr _ _ H Γ .refl hr Ga z⟩⟩
theorem sY{r:V→A4→Ac→Prop}{r3:T→AJ→Cw→Prop}{ts:AI}(h:∀v x H Γ Q Z,R H v x→HR H Γ→r3 x Γ Z→VR H Γ Z Q→r v H Q)(σ:St)(H:A4)(Q:Ac)(q:AD E (Su r3 te ts) σ H Q):
  AD E te σ H λx H1=>AD E ts σ H1 λy H2=>y=.int (-1)∧r x H2 Q:=by
 let⟨τ,Γ,Y,Z,rs,hr,t,vr,xr⟩:=q;exact Ψ4 τ Γ Y _ ⟨rs,hr,t,λv x H1 Γ1 s1 h1 r1 z1=>?_,xr⟩;exact Ψ4 τ Γ1 Y _ ⟨rs.mono s1.tq,h1,z1,λu y H2 Γ2 s2 h2 r2 z2=>?_,xr.mono s1⟩;obtain⟨e,z2⟩:=z2;subst e;exact⟨CY r2,h v x H2 Γ2 Q Z (r1.mono s2.tq) h2 z2 (vr.mono (s1.trans s2))⟩
end
def Le(Γ Γ':AJ):Prop:=∀a o,Γ a=some o→Γ' a=some o
theorem Le.refl:Le Γ Γ:=λ_ _ h=>h
theorem Le.trans(a:Le Γ Γ1)(b:Le Γ1 Γ'):Le Γ Γ':=λx o h=>b x o (a x o h)
theorem Le.new(h:Γ p=none):Le Γ (A9 Γ p o):=λb u q=>by rw[Bz (EZ q h)];exact q
theorem HR.le(h:HR H Γ')(l:Le Γ Γ'):HR H Γ:=λa o e=>h a o (l a o e)
def Kq(l:List Addr)(Γ Γ':AJ):Prop:=∀b o,b∉l→Γ b=some o→Γ' b=some o
theorem Kq.refl:Kq l Γ Γ:=λ_ _ _ h=>h
theorem Kq.trans(a:Kq l Γ Γ1)(b:Kq l Γ1 Γ'):Kq l Γ Γ':=λc o n h=>b c o n (a c o n h)
theorem Kq.mono{l':List Addr}(a:Kq l Γ Γ1)(s:∀b∈l,b∈l'):Kq l' Γ Γ1:=λc o n h=>a c o (λz=>n (s c z)) h
theorem Kq.new(h:Γ p=none)(o:O):Kq l Γ (A9 Γ p o):=λb u _ q=>by rw[Bz (EZ q h)];exact q
theorem Kq.set(h:p∈l)(o:O):Kq l Γ (A9 Γ p o):=λb u n q=>by
 have e:b≠p:=λz=>n (by rw[z];exact h);rw[Bz e];exact q
theorem Le.kq(k:Le Γ Γ'):Kq l Γ Γ':=λa o _ h=>k a o h
def Dx(Z:Cw):Cw:=λx Γ'=>∃Γ2,Le Γ2 Γ'∧Z x Γ2
theorem AB{Z:Cw}(k:Le Γ Γ')(z:Z x Γ):Dx Z x Γ':=⟨Γ,k,z⟩
theorem eC{Z:Cw}(k:Kq [a] Γ Γ')(h:Γ' a=some o)(z:Z x (A9 Γ a o)):Dx Z x Γ':=⟨A9 Γ a o,λb u q=>by
 by_cases e:b=a
 ·subst e;rw[B1]at q;cases q;exact h
 ·rw[Bz e]at q;exact k b u (by simpa using e) q,z⟩
theorem fM.cut{Γ2:AJ}(s:fM H Γ H' Γ')(l:Le Γ2 Γ'):fM H Γ H' Γ2:=⟨s.tq,s.sU,λa h g=>by
 cases e:Γ2 a with
 |none=>rfl
 |some o=>exact(by have:=l a o e;rw[s.new a h g]at this;cases this),s.rq⟩
section
variable {P: Program}{w: World}{K: W.Frag}{mg: Str→Option Value}{am: Heap}
theorem As{x:Str}{f:Addr}(F:cP K x qual st f fd)(S:Ak N ps (AX st))(len:∀ts Γ Z Y,sp ts Γ Z Y→ts.length=ps.length)
  (mx:∀(cn:Value) (A:Around) (outer:List Env) (s:Shared) (H:A4) (E:Ax) (ts:List T) (Γ:AJ) (Z:Cw) (Y:Value→AJ→Prop),dA k (A.deeper (envOfC qual (AX st) s.heap.objs.size f cn))→sp ts Γ Z Y→
   ∃t,lG (Ha Ag P w K mg am N qual (AX st) f cn A outer s H E).h8 (FG st) (CE Bn t)∧t BX {nx:=λ_ Γ'=>Dx Z .non Γ',rt:=Dx Z} (Ai N ts) Γ):a8 P w K mg am Ag (k+1) f fd ps (Af sp):=by
 exact F.ok S (λvs H Q E q0=>by let⟨ts,Γ,Z,Y,r,_,h,_⟩:=q0;rw[r.length];exact len _ _ _ _ h) λcn A outer s H vs Q E hr ξ=>Ξ45 ξ λts Γ Z Y r h vc vr xr=>?_;let⟨t,ht,hq⟩:=mx cn A outer s H E ts Γ Z Y hr vc;exact⟨_,ht,Ai N ts,Γ,BX,_,X3 N r (by rw[len _ _ _ _ vc];exact eQ S),h,hq,⟨λσ τ H' Γ' s' h' _ ξ=>Ξ12 ξ λΓ2 l z=>vr .non .non H' Γ2 (s'.cut l) (h'.le l) Je z,λv x H' Γ' s' h' rv ξ=>Ξ12 ξ λΓ2 l z=>vr v x H' Γ2 (s'.cut l) (h'.le l) rv z,λ_ _ _ _ _ _ _ z=>z.elim,λ_ _ _ _ _ _ _ z=>z.elim⟩,EW⟩
theorem Qn{x:Str}{f:Addr}(F:cP K x qual st f fd)(S:Ak N ps (AX st))(len:∀ts Γ Z Y,sp ts Γ Z Y→ts.length=ps.length)
  (mx:∀(cn:Value) (A:Around) (outer:List Env) (s:Shared) (H:A4) (E:Ax) (ts:List T) (Γ:AJ) (Z:Cw) (Y:Value→AJ→Prop),dA k (A.deeper (envOfC qual (AX st) s.heap.objs.size f cn))→sp ts Γ Z Y→
   ∃t,lG (Gp P w K mg am N qual (AX st) f cn A outer s H E) (FG st) (CE (λ_=>E) t)∧t (λ_ C Γ'=>∃Γ2,Le Γ2 Γ'∧Y C Γ2) {nx:=λ_ Γ'=>Dx Z .non Γ',rt:=Dx Z} (Ai N ts) Γ):a8 P w K mg am (EL P w) (k+1) f fd ps (Af sp):=by
 exact F.T1 S (λvs H Q E q0=>by let⟨ts,Γ,Z,Y,r,_,h,_⟩:=q0;rw[r.length];exact len _ _ _ _ h) λcn A outer s H vs Q E hr ξ=>Ξ45 ξ λts Γ Z Y r h vc vr xr=>?_;let⟨t,ht,hq⟩:=mx cn A outer s H E ts Γ Z Y hr vc;exact⟨_,ht,Ai N ts,Γ,_,_,X3 N r (by rw[len _ _ _ _ vc];exact eQ S),h,hq,⟨λσ τ H' Γ' s' h' _ ξ=>Ξ12 ξ λΓ2 l z=>vr .non .non H' Γ2 (s'.cut l) (h'.le l) Je z,λv x H' Γ' s' h' rv ξ=>Ξ12 ξ λΓ2 l z=>vr v x H' Γ2 (s'.cut l) (h'.le l) rv z,λ_ _ _ _ _ _ _ z=>z.elim,λ_ _ _ _ _ _ _ z=>z.elim⟩,λσ τ C H' Γ' s' h' _ ξ=>Ξ12 ξ λΓ2 l y=>xr C H' Γ2 (s'.cut l) (h'.le l) y⟩
theorem Ms{f:Addr}{CX:G0}(no:∀ts Γ Z Y,¬sp ts Γ Z Y):a8 P w K mg am CX k f fd ps (Af sp):=
 ⟨λvs H Q E ξ=>Ξ44 ξ λts Γ Z Y _ _ h _=>absurd h (no _ _ _ _),λA outer s H args us vs Q E _ _ _ _ ξ=>Ξ44 ξ λts Γ Z Y _ _ h _=>absurd h (no _ _ _ _)⟩
end
theorem Zl{α:Type}{t:α}{ts:List α}:Cz (t::ts) 0=some t:=by show Cz (t::ts) ((0:Nat):Int)=some t;exact Iv rfl
theorem eA{α:Type}{t u:α}{ts:List α}:Cz (t::u::ts) 1=some u:=by show Cz (t::u::ts) ((1:Nat):Int)=some u;exact Iv rfl
section
variable {Γ: AJ}{D: Jj}{B: Bool→AJ→Prop}{N: Az→AJ→Prop}
theorem aad(h:τ[i]?=some (some x))(z:Z x Γ):Ys i Y τ Γ Z:=⟨x,h,z⟩
theorem zH(z:Z x Γ):Hw x Y τ Γ Z:=z
theorem xl{r:E3}{a b:AI}(h:a Y τ Γ λx Γ1=>b Y τ Γ1 λy Γ2=>r x y Γ2 Z):Fw r a b Y τ Γ Z:=h
theorem jH{t:AI}(h:t Y τ Γ λx Γ1=>∃k,x=.bl k∧B k Γ1):JH t Y τ Γ B:=h
theorem iV{Q:Bool→Prop}(h:Q b):∃k,T.bl b=.bl k∧Q k:=⟨b,rfl,h⟩
theorem tU{t u:BV}(h:t Y {D with nx:=u Y D} τ Γ):gI t u Y D τ Γ:=h
theorem vT{c:CP}{t u:BV}(h:c Y τ Γ λb Γ1=>if b=true then t Y D τ Γ1 else u Y D τ Γ1):ZA c t u Y D τ Γ:=h
theorem yM(h:te Y τ Γ λx Γ1=>D.nx (τ.set i (some x)) Γ1):Y1 i te Y D τ Γ:=h
theorem m4(h:te Y τ Γ D.rt):bM te Y D τ Γ:=h
theorem qU(h:te Y τ Γ λ_ Γ1=>D.nx τ Γ1):fR te Y D τ Γ:=h
theorem mG(h:D.nx τ Γ):dF Y D τ Γ:=h
theorem zO{a b:AI}(h:a Y τ Γ λx Γ1=>∃c,x=.bl c∧if c=true then b Y τ Γ1 Z else Z (.bl false) Γ1):Zq a b Y τ Γ Z:=h
theorem qB{a b:AI}(h:a Y τ Γ λx Γ1=>∃c,x=.bl c∧if c=true then Z (.bl true) Γ1 else b Y τ Γ1 Z):bP a b Y τ Γ Z:=h
theorem iM{a:AI}(h:a Y τ Γ λx Γ1=>∃c,x=.bl c∧Z (.bl (!c)) Γ1):cM a Y τ Γ Z:=h
theorem jz{a b:CP}(h:a Y τ Γ λc Γ1=>if c=true then b Y τ Γ1 B else B false Γ1):cQ a b Y τ Γ B:=h
theorem mB{a b:CP}(h:a Y τ Γ λc Γ1=>if c=true then B true Γ1 else b Y τ Γ1 B):ZJ a b Y τ Γ B:=h
theorem yB{a:CP}(h:a Y τ Γ λc Γ1=>B (!c) Γ1):ao a Y τ Γ B:=h
theorem zI(h:A [] Γ):c6 Y τ Γ A:=h
theorem rk(h:te Y τ Γ λx Γ1=>t Y τ Γ1 λxs Γ2=>A (x::xs) Γ2):dL te t Y τ Γ A:=h
theorem pF(h:t Y τ Γ λxs Γ1=>xs.length≤sizeLine∧Z (.tup xs) Γ1):So t Y τ Γ Z:=h
theorem vd(h:t Y τ Γ λxs Γ1=>xs.length≤sizeLine∧∀p,Γ1 p=none→Z (.ref p) (A9 Γ1 p (.lst xs))):Zm t Y τ Γ Z:=h
theorem rg{A:Prop}(h:Nat.ble n 1000=true)(a:A):n≤sizeLine∧A:=⟨DA (Nat.le_of_ble_eq_true h) (by decide),a⟩
theorem wM(h:t Y τ Γ λxs Γ1=>sp xs Γ1 Z λ_ _=>False):Yg sp t Y τ Γ Z:=h
theorem sF(h:t Y τ Γ λxs Γ1=>sp xs Γ1 Z (Y τ)):TP sp t Y τ Γ Z:=h
theorem uq{r:Li}(h:t Y τ Γ λts Γ1=>r ts Γ1 Z):OH r t Y τ Γ Z:=h
theorem yG{g:Int→Int→T}{i:Int}(h:Z (g i j) Γ):J7 g (.int i) (.int j) Γ Z:=Ψ2 i j ⟨rfl,rfl,h⟩
theorem K2{g:Int→Int→T}{i:Int}(c:C i j)(h:Z (g i j) Γ):J9 C g (.int i) (.int j) Γ Z:=Ψ2 i j ⟨rfl,rfl,c,h⟩
theorem wJ{a b:Str}(h:Z (.bl (decide (V.str a=V.str b))) Γ):Me (.str a) (.str b) Γ Z:=Ψ2 _ _ ⟨rfl,rfl,rfl,h⟩
theorem aav{a b:Int}(h:Z (.bl (decide (V.int a=V.int b))) Γ):Me (.int a) (.int b) Γ Z:=Ψ2 _ _ ⟨rfl,rfl,rfl,h⟩
theorem jt{a b:Str}(h:Z (.bl (!decide (V.str a=V.str b))) Γ):Rp (.str a) (.str b) Γ Z:=Ψ2 _ _ ⟨rfl,rfl,rfl,h⟩
theorem jS{a b:Int}(h:Z (.bl (!decide (V.int a=V.int b))) Γ):Rp (.int a) (.int b) Γ Z:=Ψ2 _ _ ⟨rfl,rfl,rfl,h⟩
theorem qD{t:T}(z:Z t Γ):JZ (.tup (t::ts)) (.int 0) Γ Z:=Ψ3 _ 0 t ⟨rfl,rfl,Zl,z⟩
theorem iw{t u:T}(z:Z u Γ):JZ (.tup (t::u::ts)) (.int 1) Γ Z:=Ψ3 _ 1 u ⟨rfl,rfl,eA,z⟩
theorem vW{Tn:String}{r:Ma}{to:AI}(h:to Y τ Γ λx Γ1=>Ef Γ1 x=some Tn∧t Y τ Γ1 λxs Γ2=>r x xs Γ2 Z):de Tn r to t Y τ Γ Z:=h
theorem me(h:te Y τ Γ λx Γ1=>∃n b,Ef Γ1 x=some n∧W.kitOne K (.type n) (.type Ty)=some b∧Z (.bl b) Γ1):S2 K Ty te Y τ Γ Z:=h
theorem xc{t:AI}(h:t Y τ Γ λx Γ1=>∃k,S0 Γ1 x=some k∧B k Γ1):Yq t Y τ Γ B:=h
theorem t9(h:te Y τ Γ λx Γ1=>g Y x τ Γ1 D.nx):Ov te g Y D τ Γ:=h
theorem lE(h:N (τ.set i (some x)) Γ):hName i Y x τ Γ N:=h
theorem vz(l:Nat.beq ts.length n=true)(h:gs Y ts τ Γ N):ZU n gs Y (.tup ts) τ Γ N:=⟨ts,rfl,Nat.eq_of_beq_eq_true l,h⟩
theorem rp{r:List T}(h:g Y x τ Γ λτ1 Γ1=>gs Y r τ1 Γ1 N):cy g gs Y (x::r) τ Γ N:=Ψ2 x r ⟨rfl,h⟩
theorem zE(h:N τ Γ):ZQ Y [] τ Γ N:=⟨rfl,h⟩
theorem sg{a:AI}(h:a Y τ Γ λx Γ1=>r x Γ1 Z):Z0 r a Y τ Γ Z:=h
theorem aae{g:Int→T}{i:Int}(h:Z (g i) Γ):gi g (.int i) Γ Z:=⟨i,rfl,h⟩
theorem uX{r:O8}{tl:Hm}(h:te Y τ Γ λx Γ1=>tl Y τ Γ1 λl Γ2=>th Y τ Γ2 λu Γ3=>r x l u Γ3 Z):au r te tl th Y τ Γ Z:=h
theorem jA(h:Q none Γ):Zj Y τ Γ Q:=h
theorem xV{t:AI}(h:t Y τ Γ λx Γ1=>∃i,x=.int i∧Q (some i) Γ1):eh t Y τ Γ Q:=h
theorem tf{i:Int}{Q:Int→Prop}(h:Q i):∃k,T.int i=.int k∧Q k:=⟨i,rfl,h⟩
theorem up{ts:AI}(h:te Y τ Γ λx Γ1=>ts Y τ Γ1 λk Γ2=>k=.int (-1)∧r x Γ2 Z):Su r te ts Y τ Γ Z:=h
theorem aab{tb:BV}(h:wi Y τ Γ λts AE Γ1=>Z7 AE g tb Y D ts τ Γ1):cG wi g tb Y D τ Γ:=h
theorem pe(h:tl Y τ Γ λx Γ1=>∃ts,x=.tup ts∧I ts D3 Γ1):fK tl Y τ Γ I:=h
theorem yo{Q:List T→Prop}(h:Q ts):∃us,T.tup ts=.tup us∧Q us:=⟨ts,rfl,h⟩
theorem aaA(h:wi Y τ Γ λts AE Γ1=>ts.length≤sizeLine∧bp AE g tc te (λys Γ2=>∀D,Γ2 D=none→Z (.ref D) (A9 Γ2 D (.lst ys))) ts (Fe own cap τ) [] Γ1):Te wi g tc te own cap Y τ Γ Z:=h
theorem kI(h:B true Γ):fi Y τ Γ B:=h
theorem vC{C:Addr}(h:t Y τ Γ λxs Γ1=>xs.length≤sizeLine∧Y τ (.ref C) Γ1):az C t Y D τ Γ:=h
theorem zp(h:ta Y τ Γ λxs Γ1=>∃j:Int,xs=[.int j]∧-(2^62)≤j∧j<2^62∧I (Eg 0 j.toNat) D3 Γ1):Zp ta Y τ Γ I:=h
theorem v8(h:ta Y τ Γ λxs Γ1=>∃ts us,xs=[.tup ts,.tup us]∧I (E6 ts us) D3 Γ1):ZO ta Y τ Γ I:=h
theorem xt(h:ta Y τ Γ λxs Γ1=>∃ts,xs=[.tup ts]∧I (GX 0 ts) D3 Γ1):aR ta Y τ Γ I:=h
theorem nO(h:tl Y τ Γ λx Γ1=>∃a ts,x=.ref a∧EE Γ1 (.ref a)=some ts∧I ts (λΓ'=>EE Γ' (.ref a)=some ts) Γ1):eV tl Y τ Γ I:=h
theorem uk(h:tl Y τ Γ λx Γ1=>∃z,x=.str z∧I (Gy z) D3 Γ1):bQ tl Y τ Γ I:=h
theorem i6{Q:Str→Prop}(h:Q z):∃k,T.str z=.str k∧Q k:=⟨z,rfl,h⟩
theorem SV{A C:Prop}(h:b=true)(a:A):if b=true then A else C:=by rw[AR h];exact a
theorem Lh{A C:Prop}(h:b=false)(a:C):if b=true then A else C:=by rw[AN (by rw[h];exact BJ)];exact a
theorem AW{A C:Prop}(h1:b=true→A)(h2:b=false→C):if b=true then A else C:=by
 cases b with
 |true=>rw[AR rfl];exact h1 rfl
 |false=>rw[AN BJ];exact h2 rfl
theorem Lc{t:BV}(h:t Y D τ Γ):cN t Y D τ Γ:=⟨D.nx,h,λ_ _ z=>z⟩
end
theorem Om:∀ss:List Str,HP (ss.map T.str)=some (ss.map V.str)
 |[]=>rfl
 |s::r=>by rw[BQ,BQ,HP,Om r];rfl
section
variable {Γ: AJ}
theorem mM{Q:List T→Prop}(h:Q us):∃ts,[T.tup us]=[T.tup ts]∧Q ts:=⟨us,rfl,h⟩
theorem kF{ws:List T}{Q:List T→List T→Prop}(h:Q us ws):∃ts vs,[T.tup us,T.tup ws]=[T.tup ts,T.tup vs]∧Q ts vs:=Ψ2 us ws ⟨rfl,h⟩
theorem yA{a:Str}{b:Int}(h:Z (.bl false) Γ):Me (.str a) (.int b) Γ Z:=Ψ2 _ _ ⟨rfl,rfl,rfl,h⟩
theorem ua{A:Prop}(h:A):D3 Γ∧A:=⟨trivial,h⟩
theorem K8{a b:Str}(h:decide (V.str a=V.str b)=true):a=b:=V.str.inj (Ej h)
theorem K3{a b:Str}(h:decide (V.str a=V.str b)=false):a≠b:=λe=>FX h (by rw[e])
theorem JY{a b:Int}(h:decide (V.int a=V.int b)=true):a=b:=V.int.inj (Ej h)
theorem mF{Q:T→List T→Prop}(h:Q (.tup us) us):∃x ts,[T.tup us]=[x]∧EE Γ x=some ts∧Q x ts:=Ψ2 (.tup us) us ⟨rfl,rfl,h⟩
end
section
variable {Γ: AJ}
theorem jC{r r':E3}{a b c:AI}(h:a Y τ Γ λx Γ1=>b Y τ Γ1 λy Γ2=>r x y Γ2 λz Γ3=>∃k,z=.bl k∧(if k=true then c Y τ Γ3 λw' Γ4=>r' y w' Γ4 Z else Z (.bl false) Γ3)):NC r r' a b c Y τ Γ Z:=h
theorem rZ{u:V}{us:List V}(h1:sc x=some u)(h2:HP ts=some us)(h3:(Dt u&&us.all Dt)=true)(z:Z (.bl (if neg then !DK u us else DK u us)) Γ):K0 neg x (.tup ts) Γ Z:=by
 rw[E9]at h3;exact Ψ3 u ts us ⟨h1,rfl,h2,h3.1,h3.2,z⟩
theorem aI{u:V}{us:List V}(g:Γ p=some (.lst ts))(h1:sc x=some u)(h2:HP ts=some us)(h3:Dt u=true)(h4:us.all Dt=true)(z:Z (.bl (if neg then !DK u us else DK u us)) Γ):K0 neg x (.ref p) Γ Z:=
 ⟨u,ts,us,h1,Bk g,h2,h3,h4,z⟩
theorem Za{Q:T→List T→Prop}(g:Γ p=some (.lst ts))(h:Q (.ref p) ts):∃x us,[T.ref p]=[x]∧EE Γ x=some us∧Q x us:=Ψ2 (.ref p) ts ⟨rfl,Bk g,h⟩
theorem BN{i:Int}{t:T}(g:Γ p=some (.lst ts))(h:Cz ts i=some t)(z:Z t Γ):JZ (.ref p) (.int i) Γ Z:=Ψ3 ts i t ⟨Bk g,rfl,h,z⟩
theorem HI{t:T}(h:ts[i]?=some t)(z:Z t Γ):JZ (.tup ts) (.int (i:Nat)) Γ Z:=Ψ3 ts i t ⟨rfl,rfl,Iv h,z⟩
theorem X5{A:Prop}(g:Γ p=some (.lst ts))(h:A):Ef Γ (.ref p)=some "list" ∧ A:=⟨by show(match Γ p with|some (.lst _)=>some "list" |some (.dK _)=>some "dict" |_=>none)=_;rw[g],h⟩
theorem zQ{A:Prop}(h:A):Ef Γ (.str z)=some "str" ∧ A:=⟨rfl,h⟩
end
theorem tH{α:Type}{P:List α→Prop}(h:∀a0,P [a0]):∀us:List α,us.length=1→P us
 |[a0],_=>h _
theorem lL{α:Type}{P:List α→Prop}(h:∀a0 a1,P [a0,a1]):∀us:List α,us.length=2→P us
 |[a0,a1],_=>h _ _
theorem JN{α:Type}{P:List α→Prop}(h:∀a0 a1 a2,P [a0,a1,a2]):∀us:List α,us.length=3→P us
 |[a0,a1,a2],_=>h _ _ _
theorem QE{α:Type}{P:List α→Prop}(h:∀a0 a1 a2 a3,P [a0,a1,a2,a3]):∀us:List α,us.length=4→P us
 |[a0,a1,a2,a3],_=>h _ _ _ _
theorem Rs.getD:∀{vs:List V} {ts:List T} {j:Nat} {t:T},Rs H vs ts→ts[j]?=some t→R H (vs.getD j .non) t
 |vs,[],j,t,q,h=>by simp at h
 |vs,x::ts,j,t,q,h=>by
  let⟨w,ws,rfl,r1,r2⟩:=G5 q;cases j with
  |zero=>cases h;exact r1
  |succ j=>
   show R H (ws.getD j .non) t
   exact Rs.getD r2 (by simpa using h)
end L3
namespace L3
open PySem PySem.Spec L2
variable {a:Addr}{t:C5}{e: Expr}{f:Str}{to tv te:AI}{pos:Pos}{C: Addr}{wi:I3}{g:CD}{own:List Str}{cap:List (Nat×Str)}{sp:Am}{X: Cx}{E: St→Ax}{m: Str}
section
theorem ft{xs:List V}(hk:dR X.K a xs)(hf:xs.all Dt=true):BG X (compareOp .In) (λx y Γ Z=>∃u,sc x=some u∧Dt u=true∧y=.ref a∧Z (.bl (DK u xs)) Γ):=
 ⟨_,aL,λx y v b H Γ Q Z ra rb hr q0 vr=>by
  let⟨u,e1,f1,ey,z⟩:=q0;subst ey;rw[HQ ra e1];exact Ψ2 a xs ⟨BL rb,.inr hk.sq,f1,hf,vr _ _ H Γ .refl hr Cr z⟩⟩
end
def Hg(f:Str)(v:T):List (Str×T)→List (Str×T)
 |[]=>[(f,v)]
 |(g,x)::r=>if g=f then(g,v)::r else(g,x)::Hg f v r
section
variable {H: A4}
theorem Fs.len:∀{gs:List (Str×V)} {fs:List (Str×T)},Fs H gs fs→gs.length=fs.length
 |_,_,.nil=>rfl
 |_,_,.cons a b=>by rw[D0,D0,Fs.len b]
theorem Fs.get:∀{gs:List (Str×V)} {fs:List (Str×T)} {f:Str} {t:T},Fs H gs fs→fs.lookup f=some t→∃v,gs.lookup f=some v∧R H v t
 |_,_,f,t,.nil,h=>by cases h
 |(g,v)::gs,(g',x)::fs,f,t,.cons a b,h=>by
  let⟨e,r⟩:=a;have e:g=g':=e;subst e;rw[HA]at h ⊢;split at h
  ·cases h;exact⟨v,rfl,r⟩
  ·exact Fs.get b h
theorem Fs.non:∀{gs:List (Str×V)} {fs:List (Str×T)} {f:Str},Fs H gs fs→fs.lookup f=none→gs.lookup f=none
 |_,_,f,.nil,h=>rfl
 |(g,v)::gs,(g',x)::fs,f,.cons a b,h=>by
  let⟨e,r⟩:=a;have e:g=g':=e;subst e;rw[HA]at h ⊢;split at h
  ·cases h
  ·exact Fs.non b h
theorem Fs.put{v:V}{t:T}(r:R H v t)(f:Str):∀{gs:List (Str×V)} {fs:List (Str×T)},Fs H gs fs→Fs H (Dq f v gs) (Hg f t fs)
 |_,_,.nil=>.cons ⟨rfl,r⟩ .nil
 |(g,w)::gs,(g',x)::fs,.cons a b=>by
  let⟨e,q⟩:=a;have e:g=g':=e;subst e;unfold Dq Hg;split
  ·exact .cons ⟨rfl,r⟩ b
  ·exact .cons ⟨rfl,q⟩ (Fs.put r f b)
end
section
def dO(C:Addr)(to:AI)(f:Str):AI:=λY τ Γ Z=>to Y τ Γ λx Γ1=>∃a dx fs v,x=.ref a∧Γ1 a=some (.ins C dx fs)∧fs.lookup f=some v∧Z v Γ1
theorem DX{e:Expr}(c:nD X.K C)(n:bw X.K C f)(he:PE X e (AD E to))(hb:attributeBase e f X.env (eval e X.env)=eval e X.env:=by rfl):PE X (.Attribute e f pos) (AD E (dO C to f)):=
 DY (rJ he hb) λσ H Q τ Γ Y Z rs hr t vr xr=>by
  exact Ψ4 τ Γ Y _ ⟨rs,hr,t,λv x H1 Γ1 s1 h1 r1 z1=>?_,xr⟩;let⟨a,dx,fs,u,rfl,g,l,z⟩:=z1;let⟨gs,hg,q⟩:=h1 a _ g;let⟨v',l',r'⟩:=q.get l;exact Ψ5 a C dx gs v' ⟨BL r1,hg,c,n,l',vr v' u H1 Γ1 s1 h1 r' z⟩
def cu(C:Addr)(to tv:AI)(f:Str):BV:=λY D τ Γ=>tv Y τ Γ λy Γ1=>to Y τ Γ1 λx Γ2=>∃a dx fs,x=.ref a∧Γ2 a=some (.ins C dx fs)∧fs.length<1000∧D.nx τ (A9 Γ2 a (.ins C dx (Hg f y fs)))
theorem yU{H:A4}{C dx:Addr}{u:HO}{gs:List (Str×V)}{fs:List (Str×T)}(h:H a=some u)(n:(∀vs:List V,u≠.tup vs)∧∀b w,u≠.frz b w)(q:Fs H gs fs):Ho (AK H a (.ins C dx gs)) a (.ins C dx fs):=⟨gs,BZ,q.mono (Fu h n)⟩
theorem OF{o value:Expr}{pos':Pos}(c:nD X.K C)(n:bw X.K C f)(ha:PE X o (AD E to))(hv:PE X value (AD E tv))(hs:swapsWith value (some (.Attribute o f pos')) pos.line X.env=pure false:=by rfl):PS X (.Assign [.Attribute o f pos'] value pos) (CE E (cu C to tv f)):=
 GV (aaz ha hv hs) λD σ H τ Γ Y Z rs hr t dr xr=>by
  exact Ψ4 τ Γ Y _ ⟨rs,hr,t,λy y3 H1 Γ1 s1 h1 r1 z1=>?_,xr⟩;exact Ψ4 τ Γ1 Y _ ⟨rs.mono s1.tq,h1,z1,λv x H2 Γ2 s2 h2 r2 z2=>?_,xr.mono s1⟩;let⟨a,dx,fs,rfl,g,l,z⟩:=z2;let⟨gs,hg,q⟩:=h2 a _ g;exact Ψ4 a C dx gs ⟨BL r2,hg,c,n,by rw[q.len];exact l,?_⟩;have hh:=(h2 a _ g).some;let⟨u,hu,nn⟩:=hh;have st:fM H2 Γ2 (AK H2 a (.ins C dx (Dq f y gs))) (A9 Γ2 a (.ins C dx (Hg f y3 fs))):=fM.set h2 g;exact dr.nx _ _ _ _ ((s1.trans s2).trans st) (h2.set g (yU hu nn (Fs.put (r1.mono s2.tq) f q))) (rs.mono ((s1.trans s2).trans st).tq) z
abbrev CZ(P:Program)(w:World)(K:W.Frag)(mg:KK)(am:Heap)(C:Addr)(m:Str)(k:Nat)(ps:List Str)(sp:Am):Prop:=lx P w K mg am C m k ps (Af sp)
abbrev Tf(P:Program)(w:World)(K:W.Frag)(mg:KK)(am:Heap)(C:Addr)(k:Nat)(ps:List Str)(sp:Am):Prop:=uD P w K mg am C k ps (Af sp)
def bE(C:Addr)(m:Str)(sp:Am)(to:AI)(t:C5):AI:=λY τ Γ Z=>to Y τ Γ λx Γ1=>∃a dx fs,x=.ref a∧Γ1 a=some (.ins C dx fs)∧fs.lookup m=none∧t Y τ Γ1 λxs Γ2=>sp (.ref a::xs) Γ2 Z λ_ _=>False
variable {k j: Nat}{ps: List Str}{sp: Am}{o: Expr}{es: List Expr}{to: AI}{t: C5}{apos pos p: Pos}{pl: Sem Bool}
theorem E4(c:CZ X.prog X.w X.K X.mg X.base C m k ps sp)(hr:dA j X.A)(hk:k≤j)(he:PE X o (AD E to))(ha:PA X (e::es) (DD E t))
  (tK:starEach (e::es) X.env=(false,eval e X.env)::starEach es X.env:=by rfl) (hJ:(backTo pos (starEach es X.env)).any (·.1)=false:=by rfl)
  (ht:eval (.Call (.Attribute o m apos) (e::es) [] pos) X.env=(do
   let ov ←eval o X.env
   standAt apos.atName
   let(f,first) ←holding [ov] (getMethod ov m pl)
   callWith pos f first (backTo pos (starEach (e::es) X.env)) (backToKw pos (keywordEach [] X.env))):=by rfl):PE X (.Call (.Attribute o m apos) (e::es) [] pos) (AD E (bE C m sp to t)):=by
 obtain⟨f,fd,F,c,hm,hb⟩:=c;exact DY (pB (pl:=pl) (E:=Hj) he c hm F (hr.mono hk) hb .nil (λ_ _ _ _ _ _ _ z=>z.elim) ha tK hJ ht) λσ H Q τ Γ Y Z rs hr t vr xr=>?_;exact Ψ4 τ Γ Y _ ⟨rs,hr,t,λv x H1 Γ1 s1 h1 r1 z1=>?_,xr⟩;let⟨a,dx,fs,rfl,g,l,z⟩:=z1;let⟨gs,hg,q⟩:=h1 a _ g;exact Ψ3 a dx gs ⟨BL r1,hg,q.non l,?_⟩;exact Ψ4 τ Γ1 Y _ ⟨rs.mono s1.tq,h1,z,λvs xs H2 Γ2 s2 h2 r2 z2=>?_,xr.mono s1⟩;show Af sp (v::(vs++[])) H2 Q Hj
 rw[Bt,BL r1];exact Ψ4 (.ref a::xs) Γ2 Z _ ⟨Et ER r2,h2,z2,vr.mono (s1.trans s2),λ_ _ _ _ _ z=>z.elim⟩
def fq(C:Addr)(sp:Am)(t:C5):AI:=λY τ Γ Z=>t Y τ Γ λxs Γ1=>∀x dx,Γ1 x=none→Γ1 dx=none→dx≠x→sp (.ref x::xs) (A9 Γ1 x (.ins C dx [])) (λv Γ2=>v=.non∧Z (.ref x) Γ2) λ_ _=>False
theorem wR{x:Str}(c:Tf X.prog X.w X.K X.mg X.base C k ps sp)(hr:dA j X.A)(hk:k+1≤j)(hg:BP X x)(hm:X.mg x=some (.ref C))(ha:PA X (e::es) (DD E t))(oC:(x ==("__debug__" : Str))=false:=by decide)
  (he:starEach (e::es) X.env=(false,eval e X.env)::starEach es X.env:=by rfl) (hJ:(backTo pos (starEach es X.env)).any (·.1)=false:=by rfl):PE X (.Call (.Name x p) (e::es) [] pos) (AD E (fq C sp t)):=by
 let⟨f,fd,F,M,hb⟩:=c;exact DY (sI (E:=Hj) M F (hr.mono hk) hg hm hb .nil (λ_ _ _ _ _ _ _ z=>z.elim) ha oC he hJ) λσ H Q τ Γ Y Z rs hr t vr xr=>?_;exact Ψ4 τ Γ Y _ ⟨rs,hr,t,λvs xs H1 Γ1 s1 h1 r1 z1=>?_,xr⟩;intro x dx hx RD ne;rw[Bt];have k1:=Bw (o:=.own x) RD;have Rw:(AK H1 dx (.own x)) x=none:=by rw[Al (CO ne)];exact hx
 have QY:fM H1 Γ1 (AK H1 dx (.own x)) Γ1:=.keep k1;have Co:HR (AK H1 dx (.own x)) Γ1:=h1.keep k1;have nG:fM (AK H1 dx (.own x)) Γ1 (AK (AK H1 dx (.own x)) x (.ins C dx [])) (A9 Γ1 x (.ins C dx [])):=.make Rw;have h2:=Co.make (o:=.ins C dx []) (o3:=.ins C dx []) Rw ⟨[],BZ,.nil⟩;exact Ψ4 (.ref x::xs) _ _ _ ⟨Et ER (r1.mono (QY.trans nG).tq),h2,z1 x dx (h1.free hx) (h1.free RD) ne,λv u H3 Γ3 s3 h3 r3 z3=>?_,λ_ _ _ _ _ z=>z.elim⟩;let⟨rfl,z⟩:=z3;exact⟨Hk r3,vr _ _ H3 Γ3 (s1.trans ((QY.trans nG).trans s3)) h3 ER z⟩
end
section
theorem qP:BG X (binaryOp .Add) (λx y Γ Z=>∃a b ts us,x=.ref a∧y=.scr X.K b us∧Γ a=some (.lst ts)∧ts.length+us.length≤sizeLine∧∀p,Γ p=none→Z (.ref p) (A9 Γ p (.lst (ts++us)))):=
 ⟨_,uC,λx y a b H Γ Q Z ra rb hr q0 vr=>by
  let⟨p,p',ts,us,ea,eb,g1,l,z⟩:=q0;subst ea eb;let⟨vs,hv,q⟩:=hr p _ g1;let⟨rfl,⟨zM,sq,q'⟩⟩:=P0 rb;exact Ψ4 p p' vs zM ⟨BL ra,rfl,kB.of hv,sq.sq,by rw[q.length,q'.length];exact l,λc hc=>?_⟩;have k:=Bw (o:=.lst (vs++zM)) hc;exact vr _ _ _ _ (.make hc) (hr.make (o3:=.lst (ts++us)) hc ⟨_,BZ,Rs.app (q.mono (Ct k)) (q'.mono (Ct k))⟩) ER (z c (hr.free hc))⟩
def zR(AE:AJ→Prop)(g:CD)(te:AI)(C:List Str→AJ→Prop)(ts:List T)(τ:Az)(Γ:AJ):Prop:=∃P:List T→Az→List Str→AJ→Prop,P ts τ [] Γ∧(∀τ ys Γ,P [] τ ys Γ→AE Γ∧C ys Γ)∧
 ∀x r τ ys Γ,P (x::r) τ ys Γ→AE Γ∧g BX x τ Γ λτ3 Γ3=>te BX τ3 Γ3 λy Γ5=>∃k,y=.str k∧P r τ3 (ys++[k]) Γ5
def MH(P:Program)(w:World)(wi:I3)(g:CD)(te:AI)(own:List Str)(cap:List (Nat×Str)):AI:=λY τ Γ Z=>wi Y τ Γ λts AE Γ1=>ts.length≤999∧
 zR AE g te (λys Γ2=>∀D S n,j4 ys S n→Γ2 D=none→Z (.ref D) (A9 Γ2 D (.ext (setAt P w D S n)))) ts (Fe own cap τ) Γ1
theorem iU{P:Program}{w:World}(σ:St)(H:A4)(Q:Ac)(q:AD E (MH P w wi g te own cap) σ H Q):gj P w (Di E wi) (DW Bn g) (AD Bn te) own cap σ H Q:=by
 let⟨τ,Γ,Y,Z,rs,hr,t,vr,xr⟩:=q;exact Ψ4 τ Γ Y _ ⟨rs,hr,t,λJ ts AE H1 Γ1 s1 h1 wk⟨hz,Pv,z1,p0,pc⟩=>?_,xr⟩;intro D hD;have nl:∀φ:Heap→Prop,(∀us:List V,HO.ext φ≠.tup us)∧∀b w,HO.ext φ≠.frz b w:=λ_=>⟨λ_ z=>(nomatch z),λ_ _ z=>(nomatch z)⟩;exact⟨λi m σ' S n H'=>∃τ' ys Γ',i≤ts.length∧m=ts.length-i∧ys.length≤i∧j4 ys S n∧RS H' σ' τ'∧HR H' Γ'∧H' D=some (.ext (setAt P w D S n))∧Γ' D=none∧fM H1 Γ1 H' Γ'∧Pv (ts.drop i) τ' ys Γ',
  ⟨ts.length,Fe own cap τ,[],Γ1,Fm _,rfl,Ar _,j4.nil,(KR own (rs.mono s1.tq) cap).mono (Ct (Bw hD)),h1.keep (Bw hD),BZ,h1.free hD,.keep (Bw hD),z1⟩,?_⟩
 intro i m σ2 S n H2⟨τ2,ys,Γ2,hi,rfl,hv,on,tV,h2,d2,gD,s2,w2⟩;exact⟨d2,?_⟩;by_cases dk:i<ts.length
 ·rw[drop_cons dk]at w2
  let⟨g2,w2⟩:=pc _ _ _ _ _ w2;have nn:=on.le;exact .inr ⟨wk.go i H2 Γ2 s2.tq h2 g2 dk,by lia,λσ' S' n' H'=>∃τ' ys Γ',ys.length≤i+1∧j4 ys S' n'∧RS H' σ' τ'∧HR H' Γ'∧H' D=some (.ext (setAt P w D S' n'))∧Γ' D=none∧fM H1 Γ1 H' Γ'∧Pv (ts.drop (i+1)) τ' ys Γ',
   λσ' S' n' H' ξ=>Ξ38 ξ λτ' ys Γ' a b c d e f k l=>⟨ts.length-(i+1),by lia,τ',ys,Γ',dk,rfl,a,b,c,d,e,f,k,l⟩,λx H3 yl=>?_⟩
  let⟨s3,h3,⟨x3,e3,r3⟩⟩:=wk.oK i H2 Γ2 x H3 s2.tq h2 g2 dk yl;rw[D2 dk]at e3;cases e3;exact Ψ5 _ τ2 Γ2 BX _ ⟨r3,tV.mono s3.tq,h3,w2,λσ4 τ4 H4 Γ4 s4 h4 r4 z4=>?_,EW⟩;exact Ψ4 τ4 Γ4 BX _ ⟨r4,h4,z4,λy y' H6 Γ6 s6 h6 r6 z6=>?_,EW⟩;obtain⟨k,rfl,z6⟩:=z6;have qA:=(s3.trans s4).trans s6;have d6:H6 D=some (.ext (setAt P w D S n)):=qA.rq D _ d2 gD;have g6:Γ6 D=none:=qA.new D (by rw[d2];exactλz=>nomatch z) gD;have tq:Tq H6 (AK H6 D (.ext (setAt P w D (λk'=>S k'||decide (k'=k)) (more S n k)))):=Fu d6 (nl _);exact⟨k,Bl r6,d6,τ4,ys++[k],Γ6,by rw[Br];exact Ob hv,on.snoc,(r4.mono s6.tq).mono tq,h6.hide g6 d6 (nl _),BZ,g6,?_,z6⟩;have s7:=s2.trans qA;exact⟨s7.tq.trans tq,λa h z=>?_,s7.new,λa o h g=>?_⟩
  ·by_cases e:a=D
   ·subst e;exact h hD
   ·rw[Al e]at z;exact s7.sU a h z
  ·have e:a≠D:=λe=>by subst e;rw[hD]at h;cases h
   rw[Al e];exact s7.rq a o h g
 ·have e:i=ts.length:=by lia
  subst e;rw[Hh]at w2;have w2:=p0 _ _ _ w2;exact .inl ⟨wk.stop H2 Γ2 s2.tq h2 w2.1,?_⟩;have s12:=s1.trans s2;exact vr (.ref D) (.ref D) H2 (A9 Γ2 D (.ext (setAt P w D S n))) ⟨s12.tq,s12.sU,λa h g=>?_,s12.rq⟩ (λa o g=>?_) ER (w2.2 D S n on gD)
  ·have e:a≠D:=λe=>by subst e;exact s1.sU _ h hD
   rw[Bz e];exact s12.new a h g
  ·by_cases e:a=D
   ·subst e;rw[B1]at g;cases g;exact d2
   ·rw[Bz e]at g;exact h2 a o g
theorem aD{scope:Scope}{cl:List (Str×Addr)}{tg iter elt:Expr}(c:di X scope cl own cap)(hc:X.calm=true)(hi:PI X tg iter (Di E wi))
  (hg:∀C s H fp,PG (BE X (own++cap.map (·.2)) scope cl C s H fp λ_ _=>False) tg (DW Bn g))
  (he:∀C s H fp,PE (BE X (own++cap.map (·.2)) scope cl C s H fp λ_ _=>False) elt (AD Bn te)) (hs:∀x,foldedSetIterable iter X.env x=pure x:=by intro _;rfl) :
  PE X (.SetComp elt [⟨tg,iter,[],0⟩] scope pos) (AD E (MH X.prog X.w wi g te own cap)):=F3 (yY c hc hi hg he hs) iU
theorem Yo:F8 X (.builtin "len") (λxs Γ Z=>∃(p:Addr) (S:Str→Bool) (n:Nat),xs=[.ref p]∧Γ p=some (.ext (setAt X.prog X.w p S n))∧Z (.int n) Γ):=
 ⟨_,mf,λvs xs H Γ Q Z r hr q0 vr=>by
  let⟨p,S,n,e,g,z⟩:=q0;subst e;let⟨v,rfl,a⟩:=Dv r;exact Ψ3 p S n ⟨by rw[BL a],hr p _ g,vr _ _ H Γ .refl hr DO z⟩⟩
end
section
variable {st: Expr}{te ts: AI}{p2 pos: Pos}
theorem yP(he:PE X e (AD E te))(hs:PE X st (AD E ts)):PE X (.Subscript e (.Slice none none (some st) p2) pos) (AD E (Su (λx Γ Z=>∃z:Str,x=.str z∧z.length≤sizeLine∧∀y:Str,y.length≤z.length→(∀c∈y.cps.toList,c∈z.cps.toList)→Z (.str y) Γ) te ts)):=
 F3 (uw lP he hs) (sY λv x H Γ Q Z r hr q0 vr=>by
  let⟨w,ex,l,z⟩:=q0;subst ex;exact⟨w,Bl r,l,λy hy hc=>vr _ _ H Γ .refl hr Ga (z y hy hc)⟩)
end
section
variable {Y: Ey}{D: Jj}{τ: Az}{Γ: AJ}{Z: Cw}{a dx: Addr}{fs: List (Str×T)}{f: Str}
theorem sJ(h:to Y τ Γ λx Γ1=>∃a dx fs v,x=.ref a∧Γ1 a=some (.ins C dx fs)∧fs.lookup f=some v∧Z v Γ1):dO C to f Y τ Γ Z:=h
theorem mX{Q:T→Prop}{v:T}(g:Γ a=some (.ins C dx fs))(l:fs.lookup f=some v)(z:Q v):∃a' Jz Ee v',T.ref a=.ref a'∧Γ a'=some (.ins C Jz Ee)∧Ee.lookup f=some v'∧Q v':=Ψ4 a dx fs v ⟨rfl,g,l,z⟩
theorem ve(h:tv Y τ Γ λy Γ1=>to Y τ Γ1 λx Γ2=>∃a dx fs,x=.ref a∧Γ2 a=some (.ins C dx fs)∧fs.length<1000∧D.nx τ (A9 Γ2 a (.ins C dx (Hg f y fs)))):cu C to tv f Y D τ Γ:=h
theorem yh{Q:AJ→Prop}{y:T}(g:Γ a=some (.ins C dx fs))(l:Nat.ble fs.length 900=true)(z:Q (A9 Γ a (.ins C dx (Hg f y fs)))):∃a' Jz Ee,T.ref a=.ref a'∧Γ a'=some (.ins C Jz Ee)∧Ee.length<1000∧Q (A9 Γ a' (.ins C Jz (Hg f y Ee))):=Ψ3 a dx fs ⟨rfl,g,by have:=Nat.le_of_ble_eq_true l;lia,z⟩
theorem jD(h:to Y τ Γ λx Γ1=>∃a dx fs,x=.ref a∧Γ1 a=some (.ins C dx fs)∧fs.lookup m=none∧t Y τ Γ1 λxs Γ2=>sp (.ref a::xs) Γ2 Z λ_ _=>False):bE C m sp to t Y τ Γ Z:=h
theorem lW{Q:Addr→Prop}(g:Γ a=some (.ins C dx fs))(l:fs.lookup m=none)(z:Q a):∃a' Jz Ee,T.ref a=.ref a'∧Γ a'=some (.ins C Jz Ee)∧Ee.lookup m=none∧Q a':=Ψ3 a dx fs ⟨rfl,g,l,z⟩
theorem qJ(h:t Y τ Γ λxs Γ1=>∀x dx,Γ1 x=none→Γ1 dx=none→dx≠x→sp (.ref x::xs) (A9 Γ1 x (.ins C dx [])) (λv Γ2=>v=.non∧Z (.ref x) Γ2) λ_ _=>False):fq C sp t Y τ Γ Z:=h
theorem Kw{i j:Str}{Q:Str→Str→Prop}(l:i.length+j.length≤sizeLine)(h:Q i j):∃i' j',T.str i=.str i'∧T.str j=.str j'∧i'.length+j'.length≤sizeLine∧Q i' j':=Ψ2 i j ⟨rfl,rfl,l,h⟩
end
end L3
namespace L3
open PySem PySem.Spec L2
open PyProof.Rows hiding St
abbrev wtA:=Az→List T→AJ→(Az→List T→AJ→Prop)→Prop
end L3
namespace L3
open PySem PySem.Spec L2
open PyProof.Rows hiding St
variable {pos:Pos}{v:V}{o i:Expr}{td ty:AI}{X: Cx}{E: St→Ax}
section
variable {pos p: Pos}
def KT(K:W.Frag)(a:Addr)(ts:List T):Prop:=∃vs,dR K a vs∧∀H,Rs H vs ts
theorem nh:F8 X (.builtin "len") (λxs Γ Z=>∃b ts,xs=[.ref b]∧KT X.K b ts∧Z (.int ts.length) Γ):=
 ⟨_,YS,λvs xs H Γ Q Z r hr q0 vr=>by
  let⟨b,ts,e,⟨ws,hk,q⟩,z⟩:=q0;subst e;let⟨v,rfl,rv⟩:=Dv r;exact Ψ2 b ws ⟨by rw[BL rv],.inr hk.sq,by rw[(q H).length];exact vr _ _ H Γ .refl hr DO z⟩⟩
theorem xQ{K:W.Frag}(hK:X.K=K){x:Expr}{te:AI}{p p2:Pos}{Tn:Str}{Ty:String}(hg:BP X "isinstance")(hm:X.mg "isinstance" = none)(LX:BP X Tn)(LV:X.mg Tn=none)(LO:bootBuiltins Tn=some (.type Ty))(he:PE X x (AD E te))(hn:Tn ≠ "__name__" := by decide)(L5:(Tn ==("__debug__" : Str))=false:=by decide)
  (hs:starEach [x,.Name Tn p2] X.env=(false,eval x X.env)::starEach [.Name Tn p2] X.env:=by rfl) (qS:starEach [.Name Tn p2] X.env=[(false,eval (.Name Tn p2) X.env)]:=by rfl)
  (hJ:(backTo pos (starEach [.Name Tn p2] X.env)).any (·.1)=false:=by rfl):PE X (.Call (.Name "isinstance" p) [x,.Name Tn p2] [] pos) (AD E (S2 K Ty te)):=by
 subst hK;exact CR hg hm LX LV LO he hn L5 hs qS hJ
end
def FQ:AG→T
 |.inl i=>.int i
 |.inr z=>.str z
theorem GU{H:A4}{k:AG}(h:R H v (FQ k)):v=Ay k:=by
 cases k with
 |inl i=>exact CY h
 |inr z=>exact Bl h
def DQ(ay:List (AG×T))(k:AG):Option T:=(ay.find? λkv=>decide (kv.1=k)).map (·.2)
def ED(ay:List (AG×T))(k:AG)(v:T):List (AG×T):=
 if(ay.any λkv=>decide (kv.1=k))=true then ay.map (λkv=>if kv.1=k then(kv.1,v)else kv)else ay++[(k,v)]
section
variable {H: A4}
theorem Ks.len:∀{us:List (AG×V)} {ay:List (AG×T)},Ks H us ay→us.length=ay.length
 |_,_,.nil=>rfl
 |_,_,.cons a b=>by rw[D0,D0,Ks.len b]
theorem Ks.val:∀{us:List (AG×V)} {ay:List (AG×T)} (k:AG),Ks H us ay→(Dk us k=none∧DQ ay k=none)∨∃v t,Dk us k=some v∧DQ ay k=some t∧R H v t
 |_,_,k,.nil=>.inl ⟨rfl,rfl⟩
 |(k1,v)::us,(k2,t)::ay,k,.cons a b=>by
  let⟨e,r⟩:=a;have e:k1=k2:=e;subst e;by_cases h:k1=k
  ·exact .inr ⟨v,t,OB h,by simp[DQ,G4,h],r⟩
  ·rcases Ks.val k b with⟨x,y⟩|⟨v',t',x,y,r'⟩
   ·exact .inl ⟨by rw[Lf h];exact x,by rw[show DQ ((k1,t)::ay) k=DQ ay k by simp[DQ,G4,h]];exact y⟩
   ·exact .inr ⟨v',t',by rw[Lf h];exact x,by rw[show DQ ((k1,t)::ay) k=DQ ay k by simp[DQ,G4,h]];exact y,r'⟩
theorem Ks.any:∀{us:List (AG×V)} {ay:List (AG×T)} (k:AG),Ks H us ay→(us.any λkv=>decide (kv.1=k))=(ay.any λkv=>decide (kv.1=k))
 |_,_,k,.nil=>rfl
 |(k1,v)::us,(k2,t)::ay,k,.cons a b=>by
  let⟨e,r⟩:=a;have e:k1=k2:=e;subst e;rw[HZ,HZ,Ks.any k b]
theorem Ks.map:∀{us:List (AG×V)} {ay:List (AG×T)} {v:V} {t:T} (k:AG),R H v t→Ks H us ay→Ks H (us.map λkv=>if kv.1=k then(kv.1,v)else kv) (ay.map λkv=>if kv.1=k then(kv.1,t)else kv)
 |_,_,v,t,k,r,.nil=>.nil
 |(k1,v1)::us,(k2,t1)::ay,v,t,k,r,.cons a b=>by
  let⟨e,r1⟩:=a;have e:k1=k2:=e;subst e;rw[BQ,BQ];by_cases h:k1=k
  ·rw[AR h,AR h];exact .cons ⟨rfl,r⟩ (Ks.map k r b)
  ·rw[AN h,AN h];exact .cons ⟨rfl,r1⟩ (Ks.map k r b)
theorem Ks.snoc:∀{us:List (AG×V)} {ay:List (AG×T)} {v:V} {t:T} (k:AG),R H v t→Ks H us ay→Ks H (us++[(k,v)]) (ay++[(k,t)])
 |_,_,v,t,k,r,.nil=>.cons ⟨rfl,r⟩ .nil
 |_::_,_::_,v,t,k,r,.cons a b=>.cons a (Ks.snoc k r b)
theorem Ks.put{us:List (AG×V)}{ay:List (AG×T)}{t:T}(k:AG)(r:R H v t)(h:Ks H us ay):Ks H (putK us k v) (ED ay k t):=by
 unfold putK ED;rw[h.any k];split
 ·exact h.map k r
 ·exact h.snoc k r
end
section
theorem dh(hu:X.A.units+1<cLine):BG X (compareOp .In) (λy x Γ Z=>∃a ay k,x=.ref a∧y=FQ k∧Γ a=some (.dK ay)∧Z (.bl (DQ ay k).isSome) Γ):=
 ⟨_,pT hu,λy x v b H Γ Q Z ra rb hr q0 vr=>by
  let⟨a,ay,k,ex,ey,g,z⟩:=q0;subst ex ey;let⟨us,hu,q⟩:=hr a _ g;rw[GU ra];exact Ψ2 a _ ⟨BL rb,jq.k hu,?_⟩;have e:(Dk us k).isSome=(DQ ay k).isSome:=by
   rcases q.val k with⟨x,y⟩|⟨v,t,x,y,_⟩<;>rw[x,y]<;>rfl
  rw[e];exact vr _ _ H Γ .refl hr Cr z⟩
theorem vS(hu:X.A.units+1<cLine):BG X (compareOp .NotIn) (λy x Γ Z=>∃a ay k,x=.ref a∧y=FQ k∧Γ a=some (.dK ay)∧Z (.bl (!(DQ ay k).isSome)) Γ):=
 ⟨_,lS hu,λy x v b H Γ Q Z ra rb hr q0 vr=>by
  let⟨a,ay,k,ex,ey,g,z⟩:=q0;subst ex ey;let⟨us,hu,q⟩:=hr a _ g;rw[GU ra];exact Ψ2 a _ ⟨BL rb,jq.k hu,?_⟩;have e:(Dk us k).isSome=(DQ ay k).isSome:=by
   rcases q.val k with⟨x,y⟩|⟨v,t,x,y,_⟩<;>rw[x,y]<;>rfl
  rw[e];exact vr _ _ H Γ .refl hr Cr z⟩
def Gd(td ty:AI):AI:=λY τ Γ Z=>td Y τ Γ λx Γ1=>ty Y τ Γ1 λy Γ2=>∃a ay k v,x=.ref a∧y=FQ k∧Γ2 a=some (.dK ay)∧DQ ay k=some v∧Z v Γ2
theorem GF(hu:X.A.units+1<cLine)(ho:PE X o (AD E td))(hi:PE X i (AD E ty))(hs:Kr i:=by exactλ_ _=>rfl):PE X (.Subscript o i pos) (AD E (Gd td ty)):=
 DY (yO hu ho hi hs) λσ H Q τ Γ Y Z rs hr t vr xr=>by
  exact Ψ4 τ Γ Y _ ⟨rs,hr,t,λv x H1 Γ1 s1 h1 r1 z1=>?_,xr⟩;exact Ψ4 τ Γ1 Y _ ⟨rs.mono s1.tq,h1,z1,λw y H2 Γ2 s2 h2 r2 z2=>?_,xr.mono s1⟩;let⟨a,ay,k,u,rfl,rfl,g,l,z⟩:=z2;let⟨us,hu,q⟩:=h2 a _ g;rcases q.val k with⟨_,y⟩|⟨v',t',x',y',r'⟩
  ·rw[l]at y;cases y
  rw[l]at y';cases y';exact Ψ2 a v' ⟨BL r1,?_,vr v' u H2 Γ2 (s1.trans s2) h2 r' z⟩;rw[GU r2,←x'];exact jq.k hu
def eW(td ty tv:AI):BV:=λY D τ Γ=>tv Y τ Γ λv Γ1=>td Y τ Γ1 λx Γ2=>ty Y τ Γ2 λy Γ3=>∃a ay k,x=.ref a∧y=FQ k∧Γ3 a=some (.dK ay)∧ay.length<sizeLine∧D.nx τ (A9 Γ3 a (.dK (ED ay k v)))
theorem iI{value:Expr}{tv:AI}{pos':Pos}(hu:X.A.units+1<cLine)(ho:PE X o (AD E td))(hi:PE X i (AD E ty))(hv:PE X value (AD E tv))(hs:swapsWith value (some (.Subscript o i pos')) pos.line X.env=pure false:=by rfl):PS X (.Assign [.Subscript o i pos'] value pos) (CE E (eW td ty tv)):=
 GV (xF hu ho hi hv hs) λD σ H τ Γ Y Z rs hr t dr xr=>by
  exact Ψ4 τ Γ Y _ ⟨rs,hr,t,λv v3 H1 Γ1 s1 h1 r1 z1=>?_,xr⟩;exact Ψ4 τ Γ1 Y _ ⟨rs.mono s1.tq,h1,z1,λx x3 H2 Γ2 s2 h2 r2 z2=>?_,xr.mono s1⟩;exact Ψ4 τ Γ2 Y _ ⟨rs.mono (s1.trans s2).tq,h2,z2,λy y3 H3 Γ3 s3 h3 r3 z3=>?_,xr.mono (s1.trans s2)⟩;let⟨a,ay,k,rfl,rfl,g,l,z⟩:=z3;let⟨us,hu,q⟩:=h3 a _ g;have s13:=(s1.trans s2).trans s3;have st:fM H3 Γ3 (AK H3 a (.dK (putK us k v))) (A9 Γ3 a (.dK (ED ay k v3))):=fM.set h3 g;exact Ψ2 a _ ⟨BL r2,by rw[GU r3];exact Ce.k hu (by rw[q.len];exact l),?_⟩;have tq:Tq H3 (AK H3 a (.dK (putK us k v))):=Fu hu ⟨λ_ z=>(nomatch z),λ_ _ z=>(nomatch z)⟩;exact dr.nx _ _ _ _ (s13.trans st) (h3.set g ⟨_,BZ,(q.put k (r1.mono (s2.trans s3).tq)).mono tq⟩) (rs.mono (s13.trans st).tq) z
end
end L3
namespace L3
open PySem PySem.Spec L2
variable {oc Ay doc pm cn ct:Value}{od an:Option Addr}{yC:Array (Option Value)}{wi:I3}{g:CD}{tk tv:AI}{own:List Str}{cap:List (Nat×Str)}
section
variable {P: Program}{w: World}{K: W.Frag}{mg: Str→Option Value}{am h: Heap}{x q: Str}{st: Stmt}{f: Addr}{fd: FuncData}{ps: List Str}{n: Nat}{sp: DU}
structure Dg(K:W.Frag)(x:Str)(st:Stmt)(f:Addr)(fd:FuncData):Prop where
 a:W.nsIn K mainGlobals x=some (some (.ref f))
 F:cP K x x st f fd
theorem dg(a:W.nsIn K mainGlobals x=some (some (.ref f)))(l:K.lookup f=some ⟨oc,od,.func (W.fnOf x x (Ge st) (FG st) (AX st) .none Ay doc pm an cn ct),yC⟩)(c:W.codeIn K cn x=true)(k:W.keepIn K (.ref f)=true):Dg K x st f (W.fnOf x x (Ge st) (FG st) (AX st) .none Ay doc pm an cn ct):=⟨a,Zg l c k⟩
structure Df(K:W.Frag)(mg:KK)(x:Str)(st:Stmt)(ps:List Str)(f:Addr)(fd:FuncData):Prop where
 F:cP K x x st f fd
 m:mg x=some (.ref f)
 k:W.keepIn K (.ref f)=true
 b:Binds K fd ps []
theorem Dg.df(d:Dg K x st f fd)(X:K.In h)(G:h.Ns mainGlobals mg)(hb:∀(Ay doc pm:Value) (an:Option Addr) (cn ct:Value) (us:List Value),us.length=ps.length→bindArgs (W.fnOf x x (Ge st) (FG st) (AX st) .none Ay doc pm an cn ct) ⟨us,[]⟩=pure (ps.zip us)):Df K mg x st ps f fd:=⟨d.F,DP X G d.a,d.F.kp,d.F.binds hb⟩
theorem Df.cl(d:Df K mg x st ps f fd)(o:a8 P w K mg am Ag n f fd ps sp):Callee P w K mg am x n ps sp:=Ψ2 f fd ⟨o,d.m,d.k,d.b⟩
theorem Df.cx(d:Df K mg x st ps f fd)(o:a8 P w K mg am (EL P w) n f fd ps sp):Rt P w K mg am x n ps sp:=Ψ2 f fd ⟨o,d.m,d.k,d.b⟩
def Zs(K:W.Frag):List Str→Prop
 |[]=>True
 |x::l=>W.nsIn K mainGlobals x=some none∧Zs K l
def gE(mg:KK):List Str→Prop
 |[]=>True
 |x::l=>mg x=none∧gE mg l
theorem Zs.m(X:K.In h)(G:h.Ns mainGlobals mg):∀{l:List Str},Zs K l→gE mg l
 |[],_=>trivial
 |_::_,⟨a,b⟩=>⟨W.mg_none_of X G a,Zs.m X G b⟩
theorem zc{x:Str}{l:List Str}(a:W.nsIn K mainGlobals x=some none)(b:Zs K l):Zs K (x::l):=⟨a,b⟩
structure JV(K:W.Frag)(c:Addr)(m q:Str)(st:Stmt)(f:Addr)(fd:FuncData):Prop where
 t:Meth K c m f
 F:cP K m q st f fd
theorem dm{c:Addr}{m:Str}(a:W.findIn K (.ref c) m=some (some (.ref f)))(l:K.lookup f=some ⟨oc,od,.func (W.fnOf m q (Ge st) (FG st) (AX st) .none Ay doc pm an cn ct),yC⟩)(cd:W.codeIn K cn q=true)(k:W.keepIn K (.ref f)=true)(i:W.isFn K (.ref f)=true):JV K c m q st f (W.fnOf m q (Ge st) (FG st) (AX st) .none Ay doc pm an cn ct):=⟨⟨a,i,k⟩,Zg l cd k⟩
end
section
variable {X: Cx}{E: St→Ax}{pos: Pos}
def aac(AE:AJ→Prop)(g:CD)(tk tv:AI)(C:List (AG×T)→AJ→Prop)(ts:List T)(τ:Az)(Γ:AJ):Prop:=∃P:List T→Az→List (AG×T)→AJ→Prop,P ts τ [] Γ∧(∀τ ys Γ,P [] τ ys Γ→AE Γ∧C ys Γ)∧
 ∀x r τ ys Γ,P (x::r) τ ys Γ→AE Γ∧g BX x τ Γ λτ3 Γ3=>tk BX τ3 Γ3 λy Γ4=>tv BX τ3 Γ4 λz Γ5=>∃k,y=FQ k∧P r τ3 (ED ys k z) Γ5
def OK(wi:I3)(g:CD)(tk tv:AI)(own:List Str)(cap:List (Nat×Str)):AI:=λY τ Γ Z=>wi Y τ Γ λts AE Γ1=>ts.length<sizeLine∧
 aac AE g tk tv (λys Γ2=>∀D,Γ2 D=none→Z (.ref D) (A9 Γ2 D (.dK ys))) ts (Fe own cap τ) Γ1
theorem YH(ys:List (AG×T))(k:AG)(z:T):(ED ys k z).length≤ys.length+1:=by
 unfold ED;split
 ·rw[AV];exact BO _
 ·rw[Br];exact Ar _
theorem kA(σ:St)(H:A4)(Q:Ac)(q:AD E (OK wi g tk tv own cap) σ H Q):Z9 (Di E wi) (DW Bn g) (AD Bn tk) (AD Bn tv) own cap σ H Q:=by
 let⟨τ,Γ,Y,Z,rs,hr,t,vr,xr⟩:=q;exact Ψ4 τ Γ Y _ ⟨rs,hr,t,λJ ts AE H1 Γ1 s1 h1 wk⟨hz,Pv,z1,p0,pc⟩=>?_,xr⟩;intro D hD;have nl:∀ay:List (AG×V),(∀us:List V,HO.dK ay≠.tup us)∧∀b w,HO.dK ay≠.frz b w:=λ_=>⟨λ_ z=>(nomatch z),λ_ _ z=>(nomatch z)⟩;exact⟨λi m σ' ay H'=>∃τ' ys Γ',i≤ts.length∧m=ts.length-i∧ys.length≤i∧RS H' σ' τ'∧HR H' Γ'∧H' D=some (.dK ay)∧Γ' D=none∧Ks H' ay ys∧fM H1 Γ1 H' Γ'∧Pv (ts.drop i) τ' ys Γ',
  ⟨ts.length,Fe own cap τ,[],Γ1,Fm _,rfl,Ar _,(KR own (rs.mono s1.tq) cap).mono (Ct (Bw hD)),h1.keep (Bw hD),BZ,h1.free hD,.nil,.keep (Bw hD),z1⟩,?_⟩
 intro i m σ2 ay H2⟨τ2,ys,Γ2,hi,rfl,hv,tV,h2,d2,gD,ry,s2,w2⟩;exact⟨d2,?_⟩;by_cases dk:i<ts.length
 ·rw[drop_cons dk]at w2
  let⟨g2,w2⟩:=pc _ _ _ _ _ w2;have nn:=ry.len;exact .inr ⟨wk.go i H2 Γ2 s2.tq h2 g2 dk,by lia,λσ' lz H'=>∃τ' ys Γ',ys.length≤i+1∧RS H' σ' τ'∧HR H' Γ'∧H' D=some (.dK lz)∧Γ' D=none∧Ks H' lz ys∧fM H1 Γ1 H' Γ'∧Pv (ts.drop (i+1)) τ' ys Γ',
   λσ' lz H' ξ=>Ξ38 ξ λτ' ys Γ' a b c d e f k l=>⟨ts.length-(i+1),by lia,τ',ys,Γ',dk,rfl,a,b,c,d,e,f,k,l⟩,λx H3 yl=>?_⟩
  let⟨s3,h3,⟨x3,e3,r3⟩⟩:=wk.oK i H2 Γ2 x H3 s2.tq h2 g2 dk yl;rw[D2 dk]at e3;cases e3;exact Ψ5 _ τ2 Γ2 BX _ ⟨r3,tV.mono s3.tq,h3,w2,λσ4 τ4 H4 Γ4 s4 h4 r4 z4=>?_,EW⟩;exact Ψ4 τ4 Γ4 BX _ ⟨r4,h4,z4,λy y' H5 Γ5 s5 h5 r5 z5=>?_,EW⟩;exact Ψ4 τ4 Γ5 BX _ ⟨r4.mono s5.tq,h5,z5,λv v' H6 Γ6 s6 h6 r6 z6=>?_,EW⟩;obtain⟨k,rfl,z6⟩:=z6;have qA:=((s3.trans s4).trans s5).trans s6;have d6:H6 D=some (.dK ay):=qA.rq D _ d2 gD;have g6:Γ6 D=none:=qA.new D (by rw[d2];exactλz=>nomatch z) gD;have tq:Tq H6 (AK H6 D (.dK (putK ay k v))):=Fu d6 (nl _);exact⟨k,GU r5,d6,τ4,ED ys k v',Γ6,DA (YH _ _ _) (Ob hv),(r4.mono (s5.trans s6).tq).mono tq,h6.hide g6 d6 (nl _),BZ,g6,((ry.mono qA.tq).put k r6).mono tq,?_,z6⟩;have s7:=s2.trans qA;exact⟨s7.tq.trans tq,λa h z=>?_,s7.new,λa o h g=>?_⟩
  ·by_cases e:a=D
   ·subst e;exact h hD
   ·rw[Al e]at z;exact s7.sU a h z
  ·have e:a≠D:=λe=>by subst e;rw[hD]at h;cases h
   rw[Al e];exact s7.rq a o h g
 ·have e:i=ts.length:=by lia
  subst e;rw[Hh]at w2;have w2:=p0 _ _ _ w2;exact .inl ⟨wk.stop H2 Γ2 s2.tq h2 w2.1,?_⟩;have s12:=s1.trans s2;exact vr (.ref D) (.ref D) H2 (A9 Γ2 D (.dK ys)) ⟨s12.tq,s12.sU,λa h g=>?_,s12.rq⟩ (λa o g=>?_) ER (w2.2 D gD)
  ·have e:a≠D:=λe=>by subst e;exact s1.sU _ h hD
   rw[Bz e];exact s12.new a h g
  ·by_cases e:a=D
   ·subst e;rw[B1]at g;cases g;exact⟨_,d2,ry⟩
   ·rw[Bz e]at g;exact h2 a o g
theorem cY{scope:Scope}{cl:List (Str×Addr)}{tg iter kx Bo:Expr}(c:di X scope cl own cap)(hc:X.calm=true)(hi:PI X tg iter (Di E wi))
  (hg:∀C s H fp,PG (BE X (own++cap.map (·.2)) scope cl C s H fp λ_ _=>False) tg (DW Bn g))
  (hk:∀C s H fp,PE (BE X (own++cap.map (·.2)) scope cl C s H fp λ_ _=>False) kx (AD Bn tk))
  (hv:∀C s H fp,PE (BE X (own++cap.map (·.2)) scope cl C s H fp λ_ _=>False) Bo (AD Bn tv)) (hs:∀x,foldedSetIterable iter X.env x=pure x:=by intro _;rfl) :
  PE X (.DictComp kx Bo [⟨tg,iter,[],0⟩] scope pos) (AD E (OK wi g tk tv own cap)):=F3 (yR c hc hi hg hk hv hs) kA
end
end L3
namespace L3
open PySem PySem.Spec L2
open PyProof.Rows hiding St
variable {t u:T}{d:Nat}{e o:Expr}{H:A4}{ts us:List T}{td ty:AI}{pos:Pos}{X: Cx}
inductive Dp:Nat→T→Prop
 |int {d:Nat} (i:Int):Dp d (.int i)
 |str {d:Nat} (z:Str):Dp d (.str z)
 |tup {d:Nat} {ts:List T} (q:∀t∈ts,Dp d t):Dp (d+1) (.tup ts)
noncomputable def BR(t u:T):Bool:=@decide (t=u) (Classical.propDecidable _)
theorem mC:BR t u=true↔t=u:=by unfold BR;exact @decide_eq_true_iff _ (Classical.propDecidable _)
theorem F2{b:Bool}(h:b=true↔t=u):BR t u=b:=by
 cases b with
 |true=>exact mC.mpr (h.mp rfl)
 |false=>
  cases e:BR t u with
  |false=>rfl
  |true=>exact(h.mpr (mC.mp e)).symm
theorem Dp.mono{e:Nat}(h:d≤e)(p:Dp d t):Dp e t:=by
 induction p generalizing e with
 |int i=>exact .int i
 |str z=>exact .str z
 |@tup d ts q ih=>
  obtain⟨e',rfl⟩:∃e',e=e'+1:=⟨e-1,by lia⟩;exact .tup λt ht=>ih t ht (by lia)
theorem oY:∀{d:Nat} {t:T},Dp d t→∀{d':Nat} {t':T} {v:V},Dp d' t'→R H v t→R H v t'→t=t':=by
 intro d t h;induction h with
 |int i=>
  intro d' t' v h' r r';have e:=CY r;subst e;cases h' with
  |int j=>exact Eh _ (V.int.inj (CY r'))
  |str z=>cases Bl r'
  |tup q=>let⟨_,_,e,_⟩:=CV r';cases e
 |str z=>
  intro d' t' v h' r r';have e:=Bl r;subst e;cases h' with
  |int j=>cases CY r'
  |str z=>exact Eh _ (V.str.inj (Bl r'))
  |tup q=>let⟨_,_,e,_⟩:=CV r';cases e
 |@tup d ts q ih=>
  intro d' t' v h' r r';let⟨p,vs,rfl,hp,rr⟩:=CV r;cases h' with
  |int j=>cases CY r'
  |str z=>cases Bl r'
  |@tup _ us q'=>
   let⟨p2,W9,e,hU,Q0⟩:=CV r';cases e;rw[hp]at hU;cases hU;have l1:=rr.length;have l2:=Q0.length;congr 1
   exact List.ext_getElem (by lia) λj h1 h2=>?_;exact ih _ (FH h1) (q' _ (FH h2)) (rr.getD (D2 h1)) (Q0.getD (D2 h2))
section
theorem qx:((List.range (min ts.length us.length)).all (λj=>BR (ts.getD j .non) (us.getD j .non))&&ts.length==us.length)=true↔ts=us:=by
 rw[E9,Yw,Zx];constructor
 ·intro⟨h,l⟩
  exact List.ext_getElem l λj h1 h2=>?_;have:=mC.mp (h j (ZD.mpr (by lia)));rwa[Hf,Hf,D2 h1,D2 h2]at this
 ·rintro rfl
  exact⟨λj _=>mC.mpr rfl,rfl⟩
theorem ZK{v0:ac}{s:Shared}{σ:L2.St}(I:L2.Inv X v0 σ H s):∀{d:Nat} {t:T},Dp d t→∀{d':Nat} {t':T},Dp d' t'→∀{A:Around} {v v':V} {u u':Value},A.units+d<cLine→R H v t→R H v' t'→RelV v u→RelV v' u'→SeqAt.EqAt A s u u' (BR t t'):=by
 intro d t h;induction h with
 |@int d i=>
  intro d' t' h' A v v' u u' hu r r' x x';rw[CY r]at x;cases h' with
  |int j=>
   rw[CY r']at x';have:=LJ (A:=A) (s:=s) x x' rfl rfl;rwa[show E0 (.int i) (.int j)=BR (.int i) (.int j)from(F2 (by simp[E0])).symm]at this
  |str z=>
   rw[Bl r']at x';have:=LJ (A:=A) (s:=s) x x' rfl rfl;rwa[show E0 (.int i) (.str z)=BR (.int i) (.str z)from(F2 (by simp[E0])).symm]at this
  |@tup _ us q'=>
   let⟨p',zM,rfl,yN,Cg⟩:=CV r';cases x';let⟨lB,vN,tJ,Nf⟩:=I.tuple (dW.of (K:=X.K) yN);let⟨t0,rfl⟩:=x;rw[show BR (.int i) (.tup us)=false from F2 (by simp)];exact SeqAt.EqAt.int_tuple _ _ tJ (by lia)
 |@str d z=>
  intro d' t' h' A v v' u u' hu r r' x x';rw[Bl r]at x;cases h' with
  |int j=>
   rw[CY r']at x';have:=LJ (A:=A) (s:=s) x x' rfl rfl;rwa[show E0 (.str z) (.int j)=BR (.str z) (.int j)from(F2 (by simp[E0])).symm]at this
  |str z2=>
   rw[Bl r']at x';have:=LJ (A:=A) (s:=s) x x' rfl rfl;rwa[show E0 (.str z) (.str z2)=BR (.str z) (.str z2)from(F2 (by simp[E0])).symm]at this
  |@tup _ us q'=>
   let⟨p',zM,rfl,yN,Cg⟩:=CV r';cases x';let⟨lB,vN,tJ,Nf⟩:=I.tuple (dW.of (K:=X.K) yN);let⟨t0,rfl⟩:=x;rw[show BR (.str z) (.tup us)=false from F2 (by simp)];exact SeqAt.EqAt.str_tuple _ _ tJ (by lia)
 |@tup d ts q ih=>
  intro d' t' h' A v v' u u' hu r r' x x';have r0:=r;have TH:=r';let⟨p,vs,rfl,hp,rr⟩:=CV r;cases x;let⟨bj,rv,pl,hz⟩:=I.tuple (dW.of (K:=X.K) hp);cases h' with
  |int j=>
   rw[CY r']at x';let⟨t0,rfl⟩:=x';rw[show BR (.tup ts) (.int j)=false from F2 (by simp)];exact SeqAt.EqAt.tuple_int _ _ pl (by lia)
  |str z=>
   rw[Bl r']at x';let⟨t0,rfl⟩:=x';rw[show BR (.tup ts) (.str z)=false from F2 (by simp)];exact SeqAt.EqAt.tuple_str _ _ pl (by lia)
  |@tup d2 us q'=>
   let⟨p',zM,rfl,yN,Cg⟩:=CV r';cases x';by_cases e:p=p'
   ·subst e
    rw[oY (.tup q) (.tup q') r0 TH,show BR (.tup us) (.tup us)=true from mC.mpr rfl];exact SeqAt.EqAt.same _
   ·let⟨lB,vN,tJ,Nf⟩:=I.tuple (dW.of (K:=X.K) yN)
    have l1:=rr.length;have l2:=Cg.length;have l3:=rv.length;have l4:=vN.length;have:=SeqAt.RcAt.tuples (A:=A) (e:=λj=>BR (ts.getD j .non) (us.getD j .non)) pl tJ (by lia) (λj h1 h2=>?_)
    ·exact SeqAt.EqAt.of_refs e ?_
     rw[BW,BW,←l3,←l4,l1,l2]at this;rwa[show BR (.tup ts) (.tup us)=((List.range (min ts.length us.length)).all (λj=>BR (ts.getD j .non) (us.getD j .non))&&ts.length==us.length)from F2 (qx.trans ⟨λz=>by rw[z],λz=>T.tup.inj z⟩)]
    ·have Co:j<ts.length:=by rw[BW]at h1;lia
     have Fn:j<us.length:=by rw[BW]at h2;lia
     have g:ts[j]?=some ts[j]:=D2 Co;have g':us[j]?=some us[j]:=D2 Fn;have:=ih _ (FH Co) (q' _ (FH Fn)) (A:=A.in1) (by show A.units+1+d<cLine;lia) (rr.getD g) (Cg.getD g') (Vals.at rv (by simpa using h1)) (Vals.at vN (by simpa using h2));rwa[Hf,Hf,g,g']
theorem lU(hu:X.A.units+(1+d)<cLine):iC X (compareOp .NotEq) (λx y H Q=>∃ts us:List T,R H x (.tup ts)∧R H y (.tup us)∧(∀t∈ts,Dp d t)∧(∀t∈us,Dp d t)∧Q (.bl (!BR (.tup ts) (.tup us))) H):=by
 intro v0 s σ H x y v u Q I rx ry h;let⟨ts,us,r,r',q1,q2,q⟩:=h;let⟨p,vs,rfl,hp,rr⟩:=CV r;let⟨p',zM,rfl,yN,Cg⟩:=CV r';cases rx;cases ry;let⟨bj,rv,pl,hz⟩:=I.tuple (dW.of (K:=X.K) hp);let⟨lB,vN,tJ,Nf⟩:=I.tuple (dW.of (K:=X.K) yN);have l1:=rr.length;have l2:=Cg.length;have l3:=rv.length;have l4:=vN.length;exact SeqAt.RcNeAt.tuples (e:=λj=>BR (ts.getD j .non) (us.getD j .non)) pl tJ (by lia) (λj h1 h2=>?_) _ _ _ _ ⟨.bl (!BR (.tup ts) (.tup us)),H,I,?_,q⟩
 ·have Co:j<ts.length:=by rw[BW]at h1;lia
  have Fn:j<us.length:=by rw[BW]at h2;lia
  have g:ts[j]?=some ts[j]:=D2 Co;have g':us[j]?=some us[j]:=D2 Fn;have:=ZK I (q1 _ (FH Co)) (q2 _ (FH Fn)) (A:=X.A.in1) (by show X.A.units+1+d<cLine;lia) (rr.getD g) (Cg.getD g') (Vals.at rv (by simpa using h1)) (Vals.at vN (by simpa using h2));rwa[Hf,Hf,g,g']
 ·show _=Value.bool _
  congr 2
  rw[BW,BW,←l3,←l4,l1,l2];exact(F2 (qx.trans ⟨λz=>by rw[z],λz=>T.tup.inj z⟩)).symm
theorem eT(hu:X.A.units+(1+d)<cLine):BG X (compareOp .NotEq) (λx y Γ Z=>∃ts us:List T,x=.tup ts∧y=.tup us∧(∀t∈ts,Dp d t)∧(∀t∈us,Dp d t)∧Z (.bl (!BR (.tup ts) (.tup us))) Γ):=
 ⟨_,lU hu,λx y a b H Γ Q Z ra rb hr q0 vr=>by
  let⟨ts,us,ea,eb,f1,f2,z⟩:=q0;subst ea eb;exact Ψ2 ts us ⟨ra,rb,f1,f2,vr _ _ H Γ .refl hr Cr z⟩⟩
inductive It(d:Nat):T→T→Prop
 |int (i j:Int):It d (.int i) (.int j)
 |str (y z:Str):It d (.str y) (.str z)
 |tup {ts us:List T} (h:∀t∈ts,Dp d t) (h':∀t∈us,Dp d t):It d (.tup ts) (.tup us)
theorem dH(hu:X.A.units+(1+d)<cLine):iC X (compareOp .Eq) (λx y H Q=>∃t t':T,R H x t∧R H y t'∧It d t t'∧Q (.bl (BR t t')) H):=by
 intro v0 s σ H x y v u Q I rx ry h;let⟨t,t',r,r',tw,q⟩:=h;cases tw with
 |int i j=>
  rw[CY r]at rx;rw[CY r']at ry;let⟨k1,rfl⟩:=rx;let⟨k2,rfl⟩:=ry;have e:BR (.int i) (.int j)=(i==j):=F2 (by rw[Zx];exact⟨Eh _,T.int.inj⟩);exact SeqAt.RcAt.int_int i k1 j k2 _ _ _ _ ⟨.bl (BR (.int i) (.int j)),H,I,by rw[e];rfl,q⟩
 |str y z=>
  rw[Bl r]at rx;rw[Bl r']at ry;let⟨k1,rfl⟩:=rx;let⟨k2,rfl⟩:=ry;have e:BR (.str y) (.str z)=(y==z):=F2 (by rw[Zx];exact⟨Eh _,T.str.inj⟩);exact SeqAt.RcAt.str_str y k1 z k2 _ _ _ _ ⟨.bl (BR (.str y) (.str z)),H,I,by rw[e];rfl,q⟩
 |@tup ts us q1 q2=>
  let⟨p,vs,rfl,hp,rr⟩:=CV r;let⟨p',zM,rfl,yN,Cg⟩:=CV r';cases rx;cases ry;let⟨bj,rv,pl,hz⟩:=I.tuple (dW.of (K:=X.K) hp);let⟨lB,vN,tJ,Nf⟩:=I.tuple (dW.of (K:=X.K) yN);have l1:=rr.length;have l2:=Cg.length;have l3:=rv.length;have l4:=vN.length;exact SeqAt.RcAt.tuples (e:=λj=>BR (ts.getD j .non) (us.getD j .non)) pl tJ (by lia) (λj h1 h2=>?_) _ _ _ _ ⟨.bl (BR (.tup ts) (.tup us)),H,I,?_,q⟩
  ·have Co:j<ts.length:=by rw[BW]at h1;lia
   have Fn:j<us.length:=by rw[BW]at h2;lia
   have g:ts[j]?=some ts[j]:=D2 Co;have g':us[j]?=some us[j]:=D2 Fn;have:=ZK I (q1 _ (FH Co)) (q2 _ (FH Fn)) (A:=X.A.in1) (by show X.A.units+1+d<cLine;lia) (rr.getD g) (Cg.getD g') (Vals.at rv (by simpa using h1)) (Vals.at vN (by simpa using h2));rwa[Hf,Hf,g,g']
  ·show _=Value.bool _
   congr 1
   rw[BW,BW,←l3,←l4,l1,l2];exact(F2 (qx.trans ⟨λz=>by rw[z],λz=>T.tup.inj z⟩)).symm
theorem Yn(hu:X.A.units+(1+d)<cLine):BG X (compareOp .Eq) (λx y Γ Z=>It d x y∧Z (.bl (BR x y)) Γ):=
 ⟨_,dH hu,λx y a b H Γ Q Z ra rb hr q0 vr=>Ψ2 _ _ ⟨ra,rb,q0.1,vr _ _ H Γ .refl hr Cr q0.2⟩⟩
end
section
variable {E: St→Ax}
def Sv(P:Program)(w:World)(K:W.Frag)(td ty:AI):AI:=λY τ Γ Z=>td Y τ Γ λx Γ1=>ty Y τ Γ1 λy Γ2=>∃a ay z b,x=.ref a∧yc P w K a ay∧y=.str z∧ay.lookup z=some b∧Z (.ref b) Γ2
theorem Yi{i:Expr}(ho:PE X o (AD E td))(hi:PE X i (AD E ty))(hs:Kr i:=by exactλ_ _=>rfl):PE X (.Subscript o i pos) (AD E (Sv X.prog X.w X.K td ty)):=
 DY (rW ho hi hs) λσ H Q τ Γ Y Z rs hr t vr xr=>by
  exact Ψ4 τ Γ Y _ ⟨rs,hr,t,λv x H1 Γ1 s1 h1 r1 z1=>?_,xr⟩;exact Ψ4 τ Γ1 Y _ ⟨rs.mono s1.tq,h1,z1,λw y H2 Γ2 s2 h2 r2 z2=>?_,xr.mono s1⟩;let⟨a,ay,z,b,rfl,kd,rfl,l,q⟩:=z2;exact Ψ4 a ay z b ⟨BL r1,kd,Bl r2,l,vr _ _ H2 Γ2 (s1.trans s2) h2 ER q⟩
def bt(P:Program)(w:World)(K:W.Frag)(td ty:AI):AI:=λY τ Γ Z=>td Y τ Γ λx Γ1=>∃a ay,x=.ref a∧yc P w K a ay∧ty Y τ Γ1 λy Γ2=>∃z,y=.str z∧(∀b,ay.lookup z=some b→Z (.ref b) Γ2)∧(ay.lookup z=none→Z .non Γ2)
theorem oA{apos ek:Pos}(ho:PE X o (AD E td))(he:PE X e (AD E ty))(m:gK X o "get" apos e ek):PE X (.Call (.Attribute o "get" apos) [e] [] ek) (AD E (bt X.prog X.w X.K td ty)):=
 DY (iE ho he m) λσ H Q τ Γ Y Z rs hr t vr xr=>by
  exact Ψ4 τ Γ Y _ ⟨rs,hr,t,λv x H1 Γ1 s1 h1 r1 z1=>?_,xr⟩;obtain⟨a,ay,rfl,kd,z1⟩:=z1;exact Ψ2 a ay ⟨BL r1,kd,?_⟩;exact Ψ4 τ Γ1 Y _ ⟨rs.mono s1.tq,h1,z1,λw y H2 Γ2 s2 h2 r2 z2=>?_,xr.mono s1⟩;let⟨z,rfl,q1,q2⟩:=z2;exact⟨z,Bl r2,λb l=>vr _ _ H2 Γ2 (s1.trans s2) h2 ER (q1 b l),λl=>vr _ _ H2 Γ2 (s1.trans s2) h2 Je (q2 l)⟩
theorem ax(hu:X.A.units+1<cLine):K4 X "dict.get" (λx ts Γ Z=>∃a ay k,x=.ref a∧ts=[FQ k]∧Γ a=some (.dK ay)∧Z ((DQ ay k).getD .non) Γ):=
 ⟨_,yT hu,λv x vs ts H Γ Q Z rv r hr q0 vr=>by
  let⟨a,ay,k,rfl,rfl,g,z⟩:=q0;let⟨us,hu,q⟩:=hr a _ g;let⟨y,rfl,ry⟩:=Dv r;rw[GU ry];exact Ψ3 a _ _ ⟨BL rv,rfl,jq.k hu,?_⟩;rcases q.val k with⟨x',y'⟩|⟨v',t',x',y',r'⟩
  ·rw[x'];rw[y']at z;exact vr _ _ H Γ .refl hr Je z
  ·rw[x'];rw[y']at z;exact vr _ _ H Γ .refl hr r' z⟩
theorem vq(hu:X.A.units+1<cLine):K4 X "dict.get" (λx ts Γ Z=>∃a ay k d,x=.ref a∧ts=[FQ k,d]∧Γ a=some (.dK ay)∧Z ((DQ ay k).getD d) Γ):=
 ⟨_,lA hu,λv x vs ts H Γ Q Z rv r hr q0 vr=>by
  let⟨a,ay,k,d,rfl,rfl,g,z⟩:=q0;let⟨us,hu,q⟩:=hr a _ g;let⟨y,d',rfl,ry,rd⟩:=tV r;rw[GU ry];exact Ψ4 a _ _ _ ⟨BL rv,rfl,jq.k hu,?_⟩;rcases q.val k with⟨x',y'⟩|⟨v',t',x',y',r'⟩
  ·rw[x'];rw[y']at z;exact vr _ _ H Γ .refl hr rd z
  ·rw[x'];rw[y']at z;exact vr _ _ H Γ .refl hr r' z⟩
theorem lj:K4 X "dict.setdefault" (λx ts Γ Z=>∃a ay k d,x=.ref a∧ts=[FQ k,d]∧Γ a=some (.dK ay)∧ay.length<sizeLine∧(∀t,DQ ay k=some t→Z t Γ)∧(DQ ay k=none→Z d (A9 Γ a (.dK (ED ay k d))))):=
 ⟨_,pM,λv x vs ts H Γ Q Z rv r hr q0 vr=>by
  let⟨a,ay,k,d,rfl,rfl,g,hl,z1,z2⟩:=q0;let⟨us,hu,q⟩:=hr a _ g;let⟨y,d',rfl,ry,rd⟩:=tV r;rw[GU ry];exact Ψ4 a k d' us ⟨BL rv,rfl,hu,by rw[q.len];exact hl,λv' e=>?_,λe=>?_⟩
  ·rcases q.val k with⟨x',y'⟩|⟨v2,t',x',y',r'⟩
   ·rw[x']at e;cases e
   ·rw[x']at e;cases e;exact vr _ _ H Γ .refl hr r' (z1 _ y')
  ·rcases q.val k with⟨x',y'⟩|⟨v2,t',x',y',r'⟩
   ·have tq:Tq H (AK H a (.dK (putK us k d'))):=Fu hu ⟨λ_ z=>(nomatch z),λ_ _ z=>(nomatch z)⟩
    exact vr _ _ _ _ (fM.set hr g) (hr.set (o3:=.dK (ED ay k d)) g ⟨_,BZ,(q.put k rd).mono tq⟩) (rd.mono tq) (z2 y')
   ·rw[x']at e;cases e⟩
theorem zV:F8 X (.type "dict") (λxs Γ Z=>∃a ay,xs=[.ref a]∧Γ a=some (.dK ay)∧∀p,Γ p=none→Z (.ref p) (A9 Γ p (.dK ay))):=
 ⟨_,se,λvs xs H Γ Q Z r hr q0 vr=>by
  let⟨a,ay,e,g,z⟩:=q0;subst e;let⟨v,rfl,ra⟩:=Dv r;let⟨us,hu,q⟩:=hr a _ g;exact Ψ2 a us ⟨by rw[BL ra],hu,λp hp=>vr _ _ _ _ (.make hp) (hr.make (o3:=.dK ay) hp ⟨_,BZ,q.mono (Ct (Bw hp))⟩) ER (z p (hr.free hp))⟩⟩
theorem zC:F8 X (.builtin "len") (λxs Γ Z=>∃a ay,xs=[.ref a]∧Γ a=some (.dK ay)∧Z (.int ay.length) Γ):=
 ⟨_,yW,λvs xs H Γ Q Z r hr q0 vr=>by
  let⟨a,ay,e,g,z⟩:=q0;subst e;let⟨v,rfl,ra⟩:=Dv r;let⟨us,hu,q⟩:=hr a _ g;exact Ψ2 a us ⟨by rw[BL ra],hu,by rw[q.len];exact vr _ _ H Γ .refl hr DO z⟩⟩
abbrev Zz(P:Program)(w:World)(K:W.Frag)(mg:KK)(am:Heap)(f:Addr)(k:Nat)(ps:List Str)(sp:Am):Prop:=eY P w K mg am f k ps (Af sp)
def Z2(P:Program)(w:World)(K:W.Frag)(mg:KK)(am:Heap)(k:Nat)(ps:List Str)(i:Nat)(t:C5):AI:=λY τ Γ Z=>∃f sp,τ[i]?=some (some (.ref f))∧Zz P w K mg am f k ps sp∧t Y τ Γ λxs Γ1=>sp xs Γ1 Z λ_ _=>False
theorem ue(i:Nat)(k:Nat)(ps:List Str){x:Str}{j:Nat}{p:Pos}{es:List Expr}{t:C5}(hr:dA j X.A)(hk:k≤j)(ha:PA X (e::es) (DD E t))(hN:X.N[i]?=some x:=by rfl)(hv:Io X.env.scope x:=by first|exact Or.inl rfl|exact Or.inr (Or.inl rfl)|exact Or.inr (Or.inr rfl))(hd:(x ==("__debug__" : Str))=false:=by decide)(uv:(x ==("__classdict__" : Str))=false:=by decide)
  (he:starEach (e::es) X.env=(false,eval e X.env)::starEach es X.env:=by rfl) (hJ:(backTo pos (starEach es X.env)).any (·.1)=false:=by rfl):PE X (.Call (.Name x p) (e::es) [] pos) (AD E (Z2 X.prog X.w X.K X.mg X.base k ps i t)):=
 DY (kL (k:=k) (ps:=ps) hr hk hN hv ha hd uv he hJ) λσ H Q τ Γ Y Z rs hr t vr xr=>by
  let⟨f,sp,ex,fc,q⟩:=t;let⟨v,hv,rv⟩:=rs.get ex;rw[BL rv]at hv;exact Ψ2 f _ ⟨hv,fc,τ,Γ,Y,_,rs,hr,q,λvs xs H1 Γ1 s1 h1 r1 z1=>?_,xr⟩;exact Ψ4 xs Γ1 Z _ ⟨r1,h1,z1,vr.mono s1,λ_ _ _ _ _ z=>z.elim⟩
variable {p pos: Pos}
def fI(K:W.Frag)(ta:C5):I3:=λY τ Γ Z=>ta Y τ Γ λxs Γ1=>∃ts b us,xs=[.ref b,.tup us]∧KT K b ts∧Z (E6 ts us) D3 Γ1
theorem kT{K:W.Frag}{a b:Addr}{vs ws:List V}(ha:dR K a vs)(q:∀H,Rs H vs ts)(hb:H b=some (.tup ws))(q':Rs H ws us):Walks (Mw K a b) (E6 ts us) D3 H where
 go:=λi H' Γ t hr _ hi=>by
  rw[Iy]at hi;exact Ψ4 vs ws (vs[i]'(by rw[(q H).length];lia)) (ws[i]'(by rw[q'.length];lia)) ⟨ha.sq,dW.of (t.1 b ws hb),by simp,by simp⟩
 oK:=λi H' Γ v H2 t hr _ hi q0=>by
  let⟨p,x,y,hp,e1,e2,y1,y2⟩:=q0;subst e1 e2;let⟨t1,f1,r1⟩:=(q H').wC (y1 vs ha.sq);let⟨t2,f2,r2⟩:=(q'.mono t).wC (y2 ws (dW.of (t.1 b ws hb)));have k:=Bw (o:=.tup [x,y]) hp;exact⟨.keep k,hr.keep k,_,YU f1 f2,J4 BZ (Et (r1.mono (Ct k)) (Et (r2.mono (Ct k)) FI))⟩
 stop:=λH' Γ t hr _=>Ψ2 vs ws ⟨ha.sq,dW.of (t.1 b ws hb),by rw[Iy,(q H).length,q'.length];lia⟩
theorem za{a b:Expr}{ta:C5}{elts:List Expr}{kk:Nat}{rL:Pos}(hg:BP X "zip")(hm:X.mg "zip" = none)(ha:PA X [a,b] (DD E ta))(hs:starEach [a,b] X.env=[(false,eval a X.env),(false,eval b X.env)]:=by rfl)(qS:starEach [b] X.env=[(false,eval b X.env)]:=by rfl):
  PI X (.Tuple elts kk rL) (.Call (.Name "zip" p) [a,b] [] pos) (Di E (fI X.K ta)):=
 Ic (cj hg hm ha hs qS) λσ H Q τ Γ Y Z rs hr t vr xr=>⟨τ,Γ,Y,_,rs,hr,t,λvs xs H1 Γ1 s1 h1 r1 ⟨ts,b,us,ex,⟨ws,hk,q⟩,z⟩=>by
  subst ex;let⟨v,w,rfl,a,b⟩:=tV r1;let⟨pa,va,rfl,ha,qa⟩:=CV b;rw[BL a];exact Ψ4 _ pa ws va ⟨rfl,hk.sq,dW.of ha,vr _ _ D3 H1 Γ1 s1 h1 (kT hk q ha qa) z⟩,xr⟩
end
end L3
namespace L3
open PySem PySem.Spec L2
variable {wi:I3}{g:CD}{tt:CP}{tk tv:AI}{own:List Str}{cap:List (Nat×Str)}
section
variable {X: Cx}{E: St→Ax}{pos: Pos}
def qY(AE:AJ→Prop)(g:CD)(tt:CP)(tk tv:AI)(C:List (AG×T)→AJ→Prop)(ts:List T)(τ:Az)(Γ:AJ):Prop:=∃P:List T→Az→List (AG×T)→AJ→Prop,P ts τ [] Γ∧(∀τ ys Γ,P [] τ ys Γ→AE Γ∧C ys Γ)∧
 ∀x r τ ys Γ,P (x::r) τ ys Γ→AE Γ∧g BX x τ Γ λτ3 Γ3=>tt BX τ3 Γ3 λok Γ3=>if ok=true then tk BX τ3 Γ3 λy Γ4=>tv BX τ3 Γ4 λz Γ5=>∃k,y=FQ k∧P r τ3 (ED ys k z) Γ5 else P r τ3 ys Γ3
def Qw(wi:I3)(g:CD)(tt:CP)(tk tv:AI)(own:List Str)(cap:List (Nat×Str)):AI:=λY τ Γ Z=>wi Y τ Γ λts AE Γ1=>ts.length<sizeLine∧
 qY AE g tt tk tv (λys Γ2=>∀D,Γ2 D=none→Z (.ref D) (A9 Γ2 D (.dK ys))) ts (Fe own cap τ) Γ1
theorem nZ(σ:St)(H:A4)(Q:Ac)(q:AD E (Qw wi g tt tk tv own cap) σ H Q):aZ (Di E wi) (DW Bn g) (C6 Bn tt) (AD Bn tk) (AD Bn tv) own cap σ H Q:=by
 let⟨τ,Γ,Y,Z,rs,hr,t,vr,xr⟩:=q;exact Ψ4 τ Γ Y _ ⟨rs,hr,t,λJ ts AE H1 Γ1 s1 h1 wk⟨hz,Pv,z1,p0,pc⟩=>?_,xr⟩;intro D hD;have nl:∀ay:List (AG×V),(∀us:List V,HO.dK ay≠.tup us)∧∀b w,HO.dK ay≠.frz b w:=λ_=>⟨λ_ z=>(nomatch z),λ_ _ z=>(nomatch z)⟩;exact⟨λi m σ' ay H'=>∃τ' ys Γ',i≤ts.length∧m=ts.length-i∧ys.length≤i∧RS H' σ' τ'∧HR H' Γ'∧H' D=some (.dK ay)∧Γ' D=none∧Ks H' ay ys∧fM H1 Γ1 H' Γ'∧Pv (ts.drop i) τ' ys Γ',
  ⟨ts.length,Fe own cap τ,[],Γ1,Fm _,rfl,Ar _,(KR own (rs.mono s1.tq) cap).mono (Ct (Bw hD)),h1.keep (Bw hD),BZ,h1.free hD,.nil,.keep (Bw hD),z1⟩,?_⟩
 intro i m σ2 ay H2⟨τ2,ys,Γ2,hi,rfl,hv,tV,h2,d2,gD,ry,s2,w2⟩;exact⟨d2,?_⟩;by_cases dk:i<ts.length
 ·rw[drop_cons dk]at w2
  let⟨g2,w2⟩:=pc _ _ _ _ _ w2;have nn:=ry.len;exact .inr ⟨wk.go i H2 Γ2 s2.tq h2 g2 dk,by lia,λσ' lz H'=>∃τ' ys Γ',ys.length≤i+1∧RS H' σ' τ'∧HR H' Γ'∧H' D=some (.dK lz)∧Γ' D=none∧Ks H' lz ys∧fM H1 Γ1 H' Γ'∧Pv (ts.drop (i+1)) τ' ys Γ',
   λσ' lz H' ξ=>Ξ38 ξ λτ' ys Γ' a b c d e f k l=>⟨ts.length-(i+1),by lia,τ',ys,Γ',dk,rfl,a,b,c,d,e,f,k,l⟩,λx H3 yl=>?_⟩
  let⟨s3,h3,⟨x3,e3,r3⟩⟩:=wk.oK i H2 Γ2 x H3 s2.tq h2 g2 dk yl;rw[D2 dk]at e3;cases e3;exact Ψ5 _ τ2 Γ2 BX _ ⟨r3,tV.mono s3.tq,h3,w2,λσ4 τ4 H4 Γ4 s4 h4 r4 z4=>?_,EW⟩;exact Ψ4 τ4 Γ4 BX _ ⟨r4,h4,z4,λok XG Γ4' Jl RJ Qz=>?_,EW⟩;cases ok with
  |false=>
   have MW:=(s3.trans s4).trans Jl;exact Ψ3 τ4 ys Γ4' ⟨Eo hv,r4.mono Jl.tq,RJ,MW.rq D _ d2 gD,MW.new D (by rw[d2];exactλz=>nomatch z) gD,ry.mono MW.tq,s2.trans MW,Qz⟩
  |true=>
  exact Ψ4 τ4 Γ4' BX _ ⟨r4.mono Jl.tq,RJ,Qz,λy y' H5 Γ5 s5 h5 r5 z5=>?_,EW⟩;exact Ψ4 τ4 Γ5 BX _ ⟨(r4.mono Jl.tq).mono s5.tq,h5,z5,λv v' H6 Γ6 s6 h6 r6 z6=>?_,EW⟩;obtain⟨k,rfl,z6⟩:=z6;have qA:=(((s3.trans s4).trans Jl).trans s5).trans s6;have d6:H6 D=some (.dK ay):=qA.rq D _ d2 gD;have g6:Γ6 D=none:=qA.new D (by rw[d2];exactλz=>nomatch z) gD;have tq:Tq H6 (AK H6 D (.dK (putK ay k v))):=Fu d6 (nl _);exact⟨k,GU r5,d6,τ4,ED ys k v',Γ6,DA (YH _ _ _) (Ob hv),(r4.mono ((Jl.trans s5).trans s6).tq).mono tq,h6.hide g6 d6 (nl _),BZ,g6,((ry.mono qA.tq).put k r6).mono tq,?_,z6⟩;have s7:=s2.trans qA;exact⟨s7.tq.trans tq,λa h z=>?_,s7.new,λa o h g=>?_⟩
  ·by_cases e:a=D
   ·subst e;exact h hD
   ·rw[Al e]at z;exact s7.sU a h z
  ·have e:a≠D:=λe=>by subst e;rw[hD]at h;cases h
   rw[Al e];exact s7.rq a o h g
 ·have e:i=ts.length:=by lia
  subst e;rw[Hh]at w2;have w2:=p0 _ _ _ w2;exact .inl ⟨wk.stop H2 Γ2 s2.tq h2 w2.1,?_⟩;have s12:=s1.trans s2;exact vr (.ref D) (.ref D) H2 (A9 Γ2 D (.dK ys)) ⟨s12.tq,s12.sU,λa h g=>?_,s12.rq⟩ (λa o g=>?_) ER (w2.2 D gD)
  ·have e:a≠D:=λe=>by subst e;exact s1.sU _ h hD
   rw[Bz e];exact s12.new a h g
  ·by_cases e:a=D
   ·subst e;rw[B1]at g;cases g;exact⟨_,d2,ry⟩
   ·rw[Bz e]at g;exact h2 a o g
theorem uZ{scope:Scope}{cl:List (Str×Addr)}{tg iter kx Bo:Expr}{ifs:List Expr}(c:di X scope cl own cap)(hc:X.calm=true)(hi:PI X tg iter (Di E wi))
  (hg:∀C s H fp,PG (BE X (own++cap.map (·.2)) scope cl C s H fp λ_ _=>False) tg (DW Bn g))
  (ht:∀C s H fp,uW (BE X (own++cap.map (·.2)) scope cl C s H fp λ_ _=>False) ifs (C6 Bn tt))
  (hk:∀C s H fp,PE (BE X (own++cap.map (·.2)) scope cl C s H fp λ_ _=>False) kx (AD Bn tk))
  (hv:∀C s H fp,PE (BE X (own++cap.map (·.2)) scope cl C s H fp λ_ _=>False) Bo (AD Bn tv)) (hs:∀x,foldedSetIterable iter X.env x=pure x:=by intro _;rfl) :
  PE X (.DictComp kx Bo [⟨tg,iter,ifs,0⟩] scope pos) (AD E (Qw wi g tt tk tv own cap)):=F3 (gz c hc hi hg ht hk hv hs) nZ
end
end L3
namespace L3
open PySem PySem.Spec L2
open PyProof.Rows hiding St
variable {wi:I3}{g:CD}{te:AI}{own:List Str}{cap:List (Nat×Str)}{X: Cx}{E: St→Ax}
theorem ZG{H:A4}:∀{ks:List AG} {vs:List V},Rs H vs (ks.map FQ)→vs=ks.map Ay
 |[],vs,h=>Gf h
 |k::r,vs,h=>by
  let⟨v,ws,rfl,a,b⟩:=G5 h;rw[GU a,ZG b];rfl
section
def aaC(AE:AJ→Prop)(g:CD)(te:AI)(C:AJ→Prop)(ts:List T)(τ:Az)(Γ:AJ):Prop:=∃P:List T→Az→AJ→Prop,P ts τ Γ∧(∀τ Γ,P [] τ Γ→AE Γ∧C Γ)∧
 ∀x r τ Γ,P (x::r) τ Γ→AE Γ∧g BX x τ Γ λτ3 Γ3=>te BX τ3 Γ3 λy Γ5=>∃ks:List AG,y=.tup (ks.map FQ)∧P r τ3 Γ5
def TF(wi:I3)(g:CD)(te:AI)(own:List Str)(cap:List (Nat×Str)):AI:=λY τ Γ Z=>wi Y τ Γ λts AE Γ1=>ts.length≤1∧
 aaC AE g te (λΓ2=>∀D,Γ2 D=none→Z (.ref D) (A9 Γ2 D (.ext (De D ts.length)))) ts (Fe own cap τ) Γ1
theorem zP(σ:St)(H:A4)(Q:Ac)(q:AD E (TF wi g te own cap) σ H Q):dB (Di E wi) (DW Bn g) (AD Bn te) own cap σ H Q:=by
 let⟨τ,Γ,Y,Z,rs,hr,t,vr,xr⟩:=q;exact Ψ4 τ Γ Y _ ⟨rs,hr,t,λJ ts AE H1 Γ1 s1 h1 wk⟨hz,Pv,z1,p0,pc⟩=>?_,xr⟩;intro D hD;have nl:∀φ:Heap→Prop,(∀us:List V,HO.ext φ≠.tup us)∧∀b w,HO.ext φ≠.frz b w:=λ_=>⟨λ_ z=>(nomatch z),λ_ _ z=>(nomatch z)⟩;exact⟨λi m σ' n H'=>∃τ' Γ',i≤ts.length∧m=ts.length-i∧n=i∧RS H' σ' τ'∧HR H' Γ'∧H' D=some (.ext (De D n))∧Γ' D=none∧fM H1 Γ1 H' Γ'∧Pv (ts.drop i) τ' Γ',
  ⟨ts.length,Fe own cap τ,Γ1,Fm _,rfl,rfl,(KR own (rs.mono s1.tq) cap).mono (Ct (Bw hD)),h1.keep (Bw hD),BZ,h1.free hD,.keep (Bw hD),z1⟩,?_⟩
 intro i m σ2 n H2⟨τ2,Γ2,hi,rfl,rfl,tV,h2,d2,gD,s2,w2⟩;exact⟨d2,?_⟩;by_cases dk:n<ts.length
 ·rw[drop_cons dk]at w2
  let⟨g2,w2⟩:=pc _ _ _ _ w2;have e0:n=0:=by lia
  subst e0;exact .inr ⟨wk.go 0 H2 Γ2 s2.tq h2 g2 dk,rfl,λσ' H'=>∃τ' Γ',RS H' σ' τ'∧HR H' Γ'∧H' D=some (.ext (De D 1))∧Γ' D=none∧fM H1 Γ1 H' Γ'∧Pv (ts.drop (0+1)) τ' Γ',
   λσ' H' ξ=>Ξ26 ξ λτ' Γ' c d e f k l=>⟨ts.length-(0+1),by lia,τ',Γ',dk,rfl,rfl,c,d,e,f,k,l⟩,λx H3 yl=>?_⟩
  let⟨s3,h3,⟨x3,e3,r3⟩⟩:=wk.oK 0 H2 Γ2 x H3 s2.tq h2 g2 dk yl;rw[D2 dk]at e3;cases e3;exact Ψ5 _ τ2 Γ2 BX _ ⟨r3,tV.mono s3.tq,h3,w2,λσ4 τ4 H4 Γ4 s4 h4 r4 z4=>?_,EW⟩;exact Ψ4 τ4 Γ4 BX _ ⟨r4,h4,z4,λy y' H6 Γ6 s6 h6 r6 z6=>?_,EW⟩;obtain⟨ks,rfl,z6⟩:=z6;let⟨b6,W8,rfl,U4,Tz⟩:=CV r6;have ev:=ZG Tz;subst ev;have qA:=(s3.trans s4).trans s6;have d6:H6 D=some (.ext (De D 0)):=qA.rq D _ d2 gD;have g6:Γ6 D=none:=qA.new D (by rw[d2];exactλz=>nomatch z) gD;have tq:Tq H6 (AK H6 D (.ext (De D 1))):=Fu d6 (nl _);exact Ψ2 b6 ks ⟨rfl,U4,d6,τ4,Γ6,(r4.mono s6.tq).mono tq,h6.hide g6 d6 (nl _),BZ,g6,?_,z6⟩;have s7:=s2.trans qA;exact⟨s7.tq.trans tq,λa h z=>?_,s7.new,λa o h g=>?_⟩
  ·by_cases e:a=D
   ·subst e;exact h hD
   ·rw[Al e]at z;exact s7.sU a h z
  ·have e:a≠D:=λe=>by subst e;rw[hD]at h;cases h
   rw[Al e];exact s7.rq a o h g
 ·have e:n=ts.length:=by lia
  subst e;rw[Hh]at w2;have w2:=p0 _ _ w2;exact .inl ⟨wk.stop H2 Γ2 s2.tq h2 w2.1,?_⟩;have s12:=s1.trans s2;exact vr (.ref D) (.ref D) H2 (A9 Γ2 D (.ext (De D ts.length))) ⟨s12.tq,s12.sU,λa h g=>?_,s12.rq⟩ (λa o g=>?_) ER (w2.2 D gD)
  ·have e:a≠D:=λe=>by subst e;exact s1.sU _ h hD
   rw[Bz e];exact s12.new a h g
  ·by_cases e:a=D
   ·subst e;rw[B1]at g;cases g;exact d2
   ·rw[Bz e]at g;exact h2 a o g
theorem pW{scope:Scope}{cl:List (Str×Addr)}{tg iter elt:Expr}{pos:Pos}(hu:X.A.units+1<cLine)(c:di X scope cl own cap)(hc:X.calm=true)(hi:PI X tg iter (Di E wi))
  (hg:∀C s H fp,PG (BE X (own++cap.map (·.2)) scope cl C s H fp λ_ _=>False) tg (DW Bn g))
  (he:∀C s H fp,PE (BE X (own++cap.map (·.2)) scope cl C s H fp λ_ _=>False) elt (AD Bn te)) (hs:∀x,foldedSetIterable iter X.env x=pure x:=by intro _;rfl) :
  PE X (.SetComp elt [⟨tg,iter,[],0⟩] scope pos) (AD E (TF wi g te own cap)):=F3 (jQ hu c hc hi hg he hs) zP
theorem xG:F8 X (.builtin "len") (λxs Γ Z=>∃(p:Addr) (n:Nat),xs=[.ref p]∧n≤1∧Γ p=some (.ext (De p n))∧Z (.int n) Γ):=
 ⟨_,mJ,λvs xs H Γ Q Z r hr q0 vr=>by
  let⟨p,n,e,hn,g,z⟩:=q0;subst e;let⟨v,rfl,ra⟩:=Dv r;exact Ψ2 p n ⟨by rw[BL ra],hn,hr p _ g,vr _ _ H Γ .refl hr DO z⟩⟩
end
section
theorem af{d:Nat}(hu:X.A.units+(1+d)<cLine):BG X (compareOp .Eq) (λx y Γ Z=>(x=.non∧(∃us,y=.tup us)∧Z (.bl false) Γ)∨(It d x y∧Z (.bl (BR x y)) Γ)):=
 ⟨_,iC.or (iH (by lia)) (dH hu),λx y a b H Γ Q Z ra rb hr q0 vr=>by
  rcases q0 with⟨rfl,⟨us,rfl⟩,z⟩|⟨tw,z⟩
  ·let⟨p,vs,rfl,hp,rr⟩:=CV rb
   exact .inl ⟨p,vs,Hk ra,rfl,hp,vr _ _ H Γ .refl hr Cr z⟩
  ·exact .inr ⟨_,_,ra,rb,tw,vr _ _ H Γ .refl hr Cr z⟩⟩
theorem rj{K:W.Frag}(hK:X.K=K):BG X (compareOp .NotIn) (λx y Γ Z=>∃u a xs,sc x=some u∧Dt u=true∧y=.ref a∧dR K a xs∧xs.all Dt=true∧Z (.bl (!DK u xs)) Γ):=by
 subst hK;exact
 ⟨_,fF,λx y v b H Γ Q Z ra rb hr q0 vr=>by
  let⟨u,a,xs,e1,f1,ey,hk,hf,z⟩:=q0;subst ey;rw[HQ ra e1];exact Ψ2 a xs ⟨BL rb,.inr hk.sq,f1,hf,vr _ _ H Γ .refl hr Cr z⟩⟩
end
section
variable {pos: Pos}
def pZ(n:Nat)(gs:Gn):CD:=λY x τ Γ Z=>∃a ts,x=.ref a∧Γ a=some (.lst ts)∧ts.length=n∧gs Y ts τ Γ Z
theorem zX{es:List Expr}{k:Nat}{gs:Gn}{n:Nat}(hc:X.calm=true)(h:vf X es (K6 E gs))
  (hn:(assignEach es X.env).length=n:=by rfl) (tK:(assignEach es X.env).findIdx? (·.1)=none:=by rfl):PG X (.Tuple es k pos) (DW E (pZ n gs)):=
 R2 (oo hc h hn tK) λv σ H Q x τ Γ Y Z r rs hr q0 nr xr=>by
  let⟨a,ts,e,g,l,t⟩:=q0;subst e;rw[BL r];let⟨vs,ha,rr⟩:=hr a _ g;exact Ψ2 a vs ⟨rfl,ha,by rw[rr.length];exact l,ts,τ,Γ,Y,Z,rr,rs,hr,t,nr,xr⟩
end
end L3
namespace L3
open PySem PySem.Spec L2
open PyProof.Rows hiding St
variable {a b e:Expr}{ta tb:AI}{r3:E3}{i k j:Nat}{x:Str}{ps:List Str}{sp:Am}{p:Pos}{es:List Expr}{t:C5}
section
variable {X: Cx}{E: St→Ax}{pos: Pos}
theorem AY(ha:PE X a (AD E ta))(hb:PE X b (AD E tb))(hs:Lj b:=by exactλ_ _=>rfl):PE X (.Subscript a b pos) (AD E (Fw JZ ta tb)):=vO ha hb hs
theorem aak(ha:PE X a (AD E ta))(hb:PE X b (AD E tb))(hs:Lj b:=by exactλ_ _=>rfl):PE X (.Subscript a b pos) (AD E (Fw ZW ta tb)):=jv ha hb hs
theorem Dh{op:CmpOp}(ho:BG X (compareOp op) r3)(ha:PE X a (AD E ta))(hb:PE X b (AD E tb))(hm:behindInMarks op b=false:=by exact c8 _):PE X (.Compare a [op] [b] pos) (AD E (Fw r3 ta tb)):=GR ho ha hb hm
theorem B0{op:CmpOp}(ho:BG X (compareOp op) r3)(ha:PE X a (AD E ta))(hb:PE X b (AD E tb))(hm:behindInMarks op b=false:=by exact c8 _):PT X (.Compare a [op] [b] pos) (C6 E (JH (Fw r3 ta tb))):=Kh ho ha hb hm
theorem Ad{te:AI}{Ld:Pos}(hN:X.N.Nodup)(he:PE X e (AD E te))(hi:X.N[i]?=some x:=by rfl)(hx:GG X.env.scope x:=by first|exact .inl rfl|exact .inr rfl)(hs:swapsWith e (some (.Name x Ld)) pos.line X.env=pure false:=by rfl)(hf:Fk X x:=by first|exact .inl rfl|exact .inr rfl|assumption):PS X (.Assign [.Name x Ld] e pos) (CE E (Y1 i te)):=i0 hN hi hx he hs hf
theorem Aa(hN:X.N.Nodup)(hi:X.N[i]?=some x:=by rfl)(hx:GG X.env.scope x:=by first|exact .inl rfl|exact .inr rfl)(hf:Fk X x:=by first|exact .inl rfl|exact .inr rfl|assumption):PG X (.Name x pos) (DW E (hName i)):=BM hN hi hx hf
theorem Hr(hN:X.N=[x]:=by rfl)(hx:GG X.env.scope x:=by first|exact .inl rfl|exact .inr rfl)(hf:Fk X x:=by first|exact .inl rfl|exact .inr rfl|assumption):PG X (.Name x pos) (DW E (hName 0)):=BM (by rw[hN];simp) (by rw[hN];rfl) hx hf
theorem Ae(c:AU X.prog X.w X.K X.mg X.base x k ps sp)(hr:dA j X.A)(ha:PA X (e::es) (DD E t))(hk:k≤j:=by lia)(hg:BP X x:=by rfl)(oC:(x ==("__debug__" : Str))=false:=by decide)(he:starEach (e::es) X.env=(false,eval e X.env)::starEach es X.env:=by rfl)(hJ:(backTo pos (starEach es X.env)).any (·.1)=false:=by rfl):PE X (.Call (.Name x p) (e::es) [] pos) (AD E (Yg sp t)):=oq c hr hk hg ha oC he hJ
theorem YI(c:Lk X.prog X.w X.K X.mg X.base x k ps sp)(hr:dA j X.A)(hx:XY X E)(ha:PA X (e::es) (DD E t))(hk:k≤j:=by lia)(hg:BP X x:=by rfl)(oC:(x ==("__debug__" : Str))=false:=by decide)(he:starEach (e::es) X.env=(false,eval e X.env)::starEach es X.env:=by rfl)(hJ:(backTo pos (starEach es X.env)).any (·.1)=false:=by rfl):PE X (.Call (.Name x p) (e::es) [] pos) (AD E (TP sp t)):=qC c hr hk hg hx ha oC he hJ
theorem Ez{scope:Scope}{own:List Str}(hk:scope.kind=.function:=by rfl)(hn:∀y∈scope.names,y.2≠.free∧y.2≠.cell:=by decide +kernel)(hl:∀y∈scope.names,y.2=.local→scope.names.lookup y.1=some .local:=by decide +kernel):di X scope [] own []:=vx hk hn hl
end
end L3
namespace Tg
open PySem L2
variable {x y:Str}{lo hi:Option Int}
inductive Kd where
 |num (w:Int)
 |text
 |row (k:Kd)
 |rec_ (fs:List (Str×Kd))
 |pick (fs:List (Str×Kd))
abbrev ad:=List (Str×Kd)
mutual
def Kd.size:Kd→Int
 |.num w=>w
 |.text=>1
 |.row _=>1
 |.rec_ fs=>(Y3 fs).sum
 |.pick fs=>1+gB (Y3 fs)
def Y3:List (Str×Kd)→List Int
 |[]=>[]
 |(_,k)::r=>k.size::Y3 r
end
mutual
def Kd.depth:Kd→Nat
 |.num _=>1
 |.text=>1
 |.row k=>k.depth+1
 |.rec_ fs=>G9 fs+1
 |.pick fs=>G9 fs+1
def G9:List (Str×Kd)→Nat
 |[]=>0
 |(_,k)::r=>max k.depth (G9 r)
end
theorem Km:∀{fs:List (Str×Kd)} {p:Str×Kd},p∈fs→p.2.depth≤G9 fs
 |(nm,k)::r,p,h=>by
  unfold G9;rcases XO.mp h with rfl|h
  ·exact Nat.le_max_left _ _
  ·exact DA (Km h) (Nat.le_max_right _ _)
mutual
/-- a kind as vo document tells it: widths,fields one to six,no name twice,names of one to Se small Na -/
def Kd.good:Kd→Prop
 |.num w=>1≤w∧w≤4
 |.text=>True
 |.row k=>k.good
 |.rec_ fs=>FK fs∧1≤fs.length∧fs.length≤6∧(fs.map (·.1)).Nodup
 |.pick fs=>FK fs∧1≤fs.length∧fs.length≤6∧(fs.map (·.1)).Nodup
def FK:List (Str×Kd)→Prop
 |[]=>True
 |(nm,k)::r=>(1≤nm.length∧nm.length≤8∧∀c∈nm.cps.toList,97≤c∧c≤122)∧k.good∧FK r
end
def Lets(z:Str):Prop:=∀c∈z.cps.toList,97≤c∧c≤122
def Nm(z:Str):Prop:=1≤z.length∧z.length≤8∧Lets z
theorem Fb(z:Str):z.cps.toList.length=z.length:=by simp[Str.length]
theorem fj(x y:Str):(x++y).cps.toList=x.cps.toList++y.cps.toList:=by rw[Str.cps_append,Array.toList_append]
theorem JX(x y:Str):(x++y).length=x.length+y.length:=by rw[←Fb,fj,Br,Fb,Fb]
theorem Lets.app(a:Lets x)(b:Lets y):Lets (x++y):=λc h=>by
 rw[fj]at h;rcases YE.mp h with h|h
 ·exact a c h
 ·exact b c h
theorem Lets.cut(a:Lets x)(e:y.cps.toList=Cf x.cps.toList lo hi):Lets y:=λc h=>by
 rw[e]at h;exact a c (List.mem_of_mem_drop (List.mem_of_mem_take h))
theorem TI(e:y.cps.toList=Cf x.cps.toList lo hi):y.length≤x.length:=by
 rw[←Fb,←Fb,e];exact MU _ _ _
theorem yZ{n:Int}(h:0≤n)(e:y.cps.toList=Cf x.cps.toList none (some n)):y.length=min n.toNat x.length:=by
 rw[←Fb,e];unfold Cf;have e1:HT.cR x.cps.toList.length x.cps.toList.length (some n)=min n.toNat x.cps.toList.length:=by
  show(if n<0 then _ else min n.toNat _)=_
  rw[AN (by lia)]
 rw[e1,HT.pH,MC,ET,Fb];lia
theorem tO(h:(x.cps.toList.all λc=>decide (97≤c)&&decide (c≤122))=true):Lets x:=λc hc=>by
 have q:=Yw.mp h c hc;simpa using q
abbrev JB:Str := "abcdefghijklmnopqrstuvwxyz"
theorem Nz{α:Type}{xs:List α}{r:Int}(h0:0≤r)(h1:r<xs.length):∃x,Cz xs r=some x∧x∈xs:=by
 have hk:r.toNat<xs.length:=by lia
 have e:r=((r.toNat:Nat):Int):=by lia
 have q:Cz xs ((r.toNat:Nat):Int)=some xs[r.toNat]:=Iv (by rw[D2 hk]<;>rfl)
 rw[←e]at q;exact⟨_,q,FH hk⟩
theorem sub_len{α:Type}[BEq α][LawfulBEq α]:∀{l m:List α},l.Nodup→(∀x∈l,x∈m)→l.length≤m.length
 |[],m,_,_=>Fm _
 |x::r,m,nd,h=>by
  have hx:=h x K9;have e:=List.length_erase_of_mem hx;have Ri:=Zw.mp nd;have ih:=sub_len (l:=r) (m:=m.erase x) Ri.2 λy hy=>by
   exact(List.mem_erase_of_ne ?_).mpr (h y (Dz _ hy));rintro rfl;exact Ri.1 hy
  have:0<m.length:=List.length_pos_of_mem hx;rw[D0];lia
theorem IW{x:Str}:∀{ss:List Str},DK (.str x) (ss.map V.str)=decide (x∈ss)
 |[]=>by simp[DK]
 |y::r=>by
  have ih:=IW (x:=x) (ss:=r);unfold DK at ih ⊢;rw[BQ,HZ,ih];show(y==x||decide (x∈r))=decide (x∈y::r)
  rw[Fx];simp only[Bool.or_eq_true,Zx,Nq,XO];constructor
  ·rintro(h|h)
   ·exact .inl h.symm
   ·exact .inr h
  ·rintro(h|h)
   ·exact .inl h.symm
   ·exact .inr h
end Tg
namespace Tg
open PySem L2 L3
variable {fs:ad}{k:Kd}{x:T}
mutual
def Kd.tr:Kd→T
 |.num w=>.tup [.str "num",.int w]
 |.text=>.tup [.str "text"]
 |.row k=>.tup [.str "row",k.tr]
 |.rec_ fs=>.tup [.str "rec",.tup (D7 fs)]
 |.pick fs=>.tup [.str "pick",.tup (D7 fs)]
def D7:List (Str×Kd)→List T
 |[]=>[]
 |(n,k)::r=>.tup [.str n,k.tr]::D7 r
end
theorem MP:∀fs:List (Str×Kd),D7 fs=fs.map λp=>.tup [.str p.1,p.2.tr]
 |[]=>rfl
 |(n,k)::r=>by rw[D7,MP r];rfl
theorem J8(fs:ad):(D7 fs).length=fs.length:=by rw[MP,AV]
theorem Z3{i:Nat}{n:Str}(h:fs[i]?=some (n,k)):(D7 fs)[i]?=some (.tup [.str n,k.tr]):=by rw[MP,Hi,h];rfl
def findF:List (Str×Kd)→Str→Option (Nat×Kd)
 |[],_=>none
 |(m,k)::r,n=>if m=n then some (0,k)else(findF r n).map λp=>(p.1+1,p.2)
def ES(fs:List (Str×Kd)):T→Option (Nat×Kd)
 |.str n=>findF fs n
 |_=>none
def stepK:Kd→T→Option Kd
 |.row k,.int i=>if 0≤i∧i<60 then some k else none
 |.rec_ fs,x=>(ES fs x).map (·.2)
 |.pick fs,x=>(ES fs x).map (·.2)
 |_,_=>none
def CC:Kd→List T→Option Kd
 |k,[]=>some k
 |k,p::r=>match stepK k p with|some k'=>CC k' r|none=>none
inductive Sx:T→Prop
 |int (i:Int):Sx (.int i)
 |str {z:Str} (l:z.length≤1000):Sx (.str z)
theorem Yj:∀{fs:List (Str×Kd)} {n:Str} {j:Nat} {k:Kd},findF fs n=some (j,k)→fs[j]?=some (n,k)
 |[],_,_,_,h=>by cases h
 |(m,q)::r,n,j,k,h=>by
  unfold findF at h;by_cases e:m=n
  ·rw[AR e]at h;cases h;rw[e];rfl
  ·rw[AN e]at h
   cases f:findF r n with
   |none=>rw[f]at h;cases h
   |some p=>
    rw[f]at h;cases h;exact Yj (j:=p.1) (k:=p.2) f
theorem Y4:∀{fs:List (Str×Kd)} {p:Str×Kd},FK fs→p∈fs→p.2.good
 |(nm,k)::r,p,g,h=>by
  unfold FK at g;rcases XO.mp h with rfl|h
  ·exact g.2.1
  ·exact Y4 g.2.2 h
theorem NS{j:Nat}(h:ES fs x=some (j,k)):∃n,x=.str n∧fs[j]?=some (n,k):=by
 cases x with
 |str n=>exact⟨n,rfl,Yj h⟩
 |_=>cases h
theorem tY{k':Kd}(g:k.good)(h:stepK k x=some k'):k'.good∧k'.depth<k.depth:=by
 cases k with
 |num w=>cases x<;>cases h
 |text=>cases x<;>cases h
 |row j=>
  unfold Kd.good at g;rw[Kd.depth];cases x with
  |int i=>
   have h:(if 0≤i∧i<60 then some j else none)=some k':=h;split at h
   ·cases h;exact⟨g,by lia⟩
   ·cases h
  |_=>cases h
 |rec_ fs=>
  unfold Kd.good at g;rw[Kd.depth];have h:(ES fs x).map (·.2)=some k':=h;cases e:ES fs x with
  |none=>rw[e]at h;cases h
  |some p=>
   rw[e]at h;cases h;let⟨n,_,m⟩:=NS (j:=p.1) (k:=p.2) e;have m:=Nt m;exact⟨Y4 g.1 m,Nat.lt_succ_of_le (Km m)⟩
 |pick fs=>
  unfold Kd.good at g;rw[Kd.depth];have h:(ES fs x).map (·.2)=some k':=h;cases e:ES fs x with
  |none=>rw[e]at h;cases h
  |some p=>
   rw[e]at h;cases h;let⟨n,_,m⟩:=NS (j:=p.1) (k:=p.2) e;have m:=Nt m;exact⟨Y4 g.1 m,Nat.lt_succ_of_le (Km m)⟩
def Bo:T→V
 |.int i=>.int i
 |.str z=>.str z
 |_=>.non
def enc:T→Bool
 |.tup _=>true
 |_=>false
mutual
def dT:T→Nat
 |.tup us=>1+(us.filter enc).length+cq us
 |_=>0
def cq:List T→Nat
 |[]=>0
 |t::r=>max (dT t) (cq r)
end
end Tg
namespace Tg
open PySem L2 L3
variable {lo r c i:Int}{n lv d m ep:Nat}{x z:Str}{ns:List Int}{Γ G Γ' Γ2:AJ}{p a f1 f2 pr pn b0 b1 b2 b3:Addr}{o:O}{ts:List T}{t b:T}{f C JC: Addr}{fs ks:ad}{s:Sm}{H:A4}{P: Program}{w: World}{k:Kd}{wH wG:FuncData}{ws:List Str}{Ps: List (Str×Pr)}{re: Option Kd}{body:List Sm}{ig:Bool}{es:List DictEntry}{mg: Str→Option Value}{am: Heap}{fd: FuncData}{v1 v2: Value}{other n0 n1 n2 n3 n4 n5 n7 way: Str}{p1 p2: Pr}
def Au(i:Nat):Stmt:=PySem.Challenge.pw_tonguegate_k37_lent_and_leased.main.body.getD i (.Pass ⟨0,0,0,0⟩)
def mem(i j:Nat):Stmt:=match Au i with
 |.ClassDef _ _ _ b _ _ _ _ _ _ _=>b.getD j (.Pass ⟨0,0,0,0⟩)
 |_=>.Pass ⟨0,0,0,0⟩
local macro_rules | `(tactic| left)=>`(tactic| repeat (first
 |(with_reducible first|refine tU ?_|refine vT ?_|refine xl ?_|refine jH ?_|refine zH ?_)|((with_reducible apply aad);exact rfl)|(with_reducible first|refine yM ?_|refine m4 ?_|refine NX ?_|refine qU ?_|refine mG ?_|refine QT ?_|refine qD ?_|refine iw ?_|refine yG ?_|refine wJ ?_|refine aav ?_|refine jt ?_|refine jS ?_|refine iV ?_|refine jz ?_|refine mB ?_|refine yB ?_|refine zO ?_|refine qB ?_|refine iM ?_|refine QS ?_|refine rk ?_|refine zI ?_|refine pF ?_|refine vd ?_|refine wM ?_|refine sF ?_|refine uq ?_|refine vW ?_|refine QU ?_|refine me ?_|refine xc ?_|refine t9 ?_|refine lE ?_)|((with_reducible refine vz ?_ ?_);exact rfl)|(with_reducible first|refine rp ?_|refine zE ?_|refine S9 ?_|refine sg ?_|refine aae ?_|refine uX ?_|refine jA ?_|refine xV ?_|refine tf ?_|refine up ?_|refine aab ?_|refine pe ?_|refine yo ?_|refine aaA ?_|refine kI ?_|refine vC ?_|refine zp ?_|refine v8 ?_|refine xt ?_|refine nO ?_|refine uk ?_|refine i6 ?_|refine Th ?_)|((with_reducible apply BN);(first|assumption|exact B1);(first|exact Zl|exact eA))|((with_reducible apply N7);(first|assumption|exact B1);exact rfl)
 |with_reducible refine And.intro (rfl:T.non=T.non) ?_|(with_reducible first|refine QQ ?_|refine S7 ?_|refine Tc ?_|refine jC ?_)|((with_reducible apply rZ);exact rfl;exact rfl;exact rfl)|(with_reducible first|refine zQ ?_|refine mM ?_|refine kF ?_|refine yA ?_|refine Oc ?_|refine N3 ?_|refine N4 ?_|refine ua ?_|refine mF ?_|refine sJ ?_)|((with_reducible apply mX);(first|assumption|exact B1);exact rfl)|with_reducible refine ve ?_|((with_reducible apply yh);(first|assumption|exact B1);exact rfl)|with_reducible refine QR ?_|((with_reducible apply NV);(first|assumption|exact B1);exact rfl)|((with_reducible apply NW);(first|assumption|exact B1);exact rfl)
 |with_reducible refine jD ?_|((with_reducible apply lW);(first|assumption|exact B1);exact rfl)|(with_reducible first|refine qJ ?_|refine Ta ?_|refine S8 ?_|refine Tb ?_)|((with_reducible refine rg ?_ ?_);exact rfl)
 |((with_reducible refine K2 ?_ ?_);(first|exact⟨by decide,by decide,by decide⟩|exact⟨by decide,by decide⟩|exact Or.inl ⟨by decide,by decide⟩|exact Or.inr ⟨by decide,by decide⟩|((show(0:Int)<_);decide)))
 |((with_reducible refine SV ?_ ?_);(first|exact rfl|decide +kernel))|((with_reducible refine Lh ?_ ?_);(first|exact rfl|decide +kernel))))
theorem Mn{x:T}{r:List T}(h:x::r=Eg lo n):∃m,n=m+1∧x=.int lo∧r=Eg (lo+1) m:=by
 cases n with
 |zero=>cases h
 |succ m=>cases h;exact⟨m,rfl,rfl,rfl⟩
theorem Yv(h:[]=Eg lo n):n=0:=by
 cases n with
 |zero=>rfl
 |succ m=>cases h
theorem menu(h0:0≤r)(h1:r<ns.length):∃n,n∈ns∧Cz (ns.map T.int) r=some (.int n):=by
 let⟨x,hx,hm⟩:=Nz (xs:=ns.map T.int) h0 (by simpa using h1);let⟨n,hn,rfl⟩:=X9.mp hm;exact⟨n,hn,hx⟩
theorem AZ(e:A9 Γ p o=G):G p=some o:=(congrFun e p).symm.trans B1
theorem Ab(e:A9 Γ p o=G)(hp:Γ p=none):Le Γ G:=e ▸ .new hp
theorem IT{j:Nat}(h:j<ns.length):∃n,n∈ns∧ns[j]?=some n∧Cz (ns.map T.int) (j:Int)=some (.int n):=⟨ns[j],FH h,by simp[h],Iv (by simp[h])⟩
def F0(c:Int):Nat→Int
 |0=>c-10^18
 |k+1=>if 0<F0 c k then F0 c k/1000003 else F0 c k
def Mx(c:Int)(k:Nat):Int:=(c%1000000007+1)*(2*k+3)%2147483647
def N6(c:Int)(k:Nat):Int:=(Mx c k^5+((k:Int)+1)^3)%2147483629
def Pd(c:Int)(k:Nat):Int:=(N6 c k+c%999983)^3%2147483587/16
def Gr(c:Int)(k:Nat):Int:=if 0<F0 c k then F0 c k%1000003 else Pd c k
theorem iz(c:Int)(k:Nat):0≤Mx c k∧Mx c k<2147483647:=⟨DM _ (by decide),E5 _ (by decide)⟩
theorem qI(c:Int)(k:Nat):0≤N6 c k∧N6 c k<2147483629:=⟨DM _ (by decide),E5 _ (by decide)⟩
theorem tC(c:Int)(k:Nat):0≤Gr c k:=by
 unfold Gr;split
 ·exact DM _ (by decide)
 ·unfold Pd
  exact Int.ediv_nonneg (DM _ (by decide)) (by decide)
def F9(c:Int)(n:Nat):List Int:=(List.range n).map (Gr c)
theorem Y6(c:Int)(n:Nat):(F9 c n).length=n:=by unfold F9;rw[AV,Oz]
theorem sm:∀x∈F9 c n,0≤x:=λx h=>by
 let⟨k,_,rfl⟩:=X9.mp h;exact tC c k
theorem v9(c:Int)(n:Nat):F9 c (n+1)=F9 c n++[Gr c n]:=by unfold F9;rw[List.range_succ,Ao];rfl
section
variable {K: W.Frag}
abbrev Qy:Stmt:=Au 71
theorem bI:Ak ["cell","count","row","rest","base","more","k","stir"] ["cell","count"] (AX Qy):=⟨rfl,rfl,rfl,by decide +kernel,rfl,by decide +kernel,by decide +kernel⟩
def eI:Am:=λts Γ Z _=>∃(c:Int) (n:Nat),ts=[.int c,.int n]∧n≤1000∧∀p,Γ p=none→Z (.ref p) (A9 Γ p (.lst ((F9 c n).map T.int)))
theorem qF(F:cP K "_law_draws" "_law_draws" Qy f fd)(eo:mg "range" = none):a8 P w K mg am Ag 1 f fd ["cell","count"] (Af eI):=by
 exact As F bI (λts Γ Z Y h=>?_) (λcn A outer s H E ts Γ Z Y hr h=>?_)
 ·let⟨c,n,rfl,_⟩:=h
  rfl
 let⟨c,n,rfl,n1,q⟩:=h;exact⟨_,(A5 (Ad (i:=2) bI.nd (CW A6))
  (A5 (Ad (i:=3) bI.nd (AQ ON (A0 0) (AQ Mz AA AA)))
  (A5 (Ad (i:=4) bI.nd (AQ FD (AQ CF (A0 0) AA) AA))
  (A5 (Ad (i:=5) bI.nd (AQ CF (A0 0) AA))
  (A5 (GJ HS rfl (M3 rfl eo (A3 (A0 1) A6)) (Aa (i:=6) bI.nd) (A5 (Ad (i:=7) bI.nd (AQ CF (AQ Mm (A0 4) (AQ FD (AQ Mm AA (A0 6)) AA)) AA))
  (A5 (Ad (i:=7) bI.nd (AQ CF (AQ FD (AQ Mz (A0 7) AA) (AQ Mz (AQ FD (A0 6) AA) AA)) AA))
  (A5 (Ad (i:=7) bI.nd (AQ GZ (AQ CF (AQ Mz (AQ FD (A0 7) (A0 5)) AA) AA) AA))
  (A5 (Aw (Ah (B0 YT (A0 3) AA) (A5 (Ad (i:=7) bI.nd (AQ CF (A0 3) AA))
  (A5 (Ad (i:=3) bI.nd (AQ GZ (A0 3) AA))
  A7)) A7))
  (A5 (Ig (FZ Hv J3 IS Ih (A0 2) (A3 (A0 7) A6)))
  A7))))))
  (A5 (AH (A0 2))
  A7)))))),?_⟩
 simp only[Ai];left;intro p hp;left;exact⟨n,rfl,by lia,by lia,?_⟩;exact⟨λv4 τ Γ'=>∃(i m:Nat) (o6 o7:Option T),v4=Eg i m∧i+m=n∧τ=[some (.int c),some (.int n),some (.ref p),some (.int (F0 c i)),some (.int (c%1000000007+1)),some (.int (c%999983)),o6,o7]∧Γ'=A9 Γ p (.lst ((F9 c i).map T.int)),Ψ4 0 n none none ⟨rfl,by lia,rfl,rfl⟩,?_,?_⟩
 ·intro τ Γ'⟨i,m,o6,o7,er,im,rfl,rfl⟩
  have hm:m=0:=by
   cases m with
   |zero=>rfl
   |succ m=>cases er
  subst hm;exact⟨trivial,?_⟩;left;have:i=n:=im;subst this;exact AB .refl (q p hp)
 ·intro x r τ Γ'⟨i,m,o6,o7,er,im,rfl,rfl⟩
  let⟨m',rfl,rfl,rfl⟩:=Mn er;have ab:=iz c i;have bb:=qI c i;have mb:0≤c%999983∧c%999983<999983:=⟨DM _ (by decide),E5 _ (by decide)⟩;left;exact K2 (.inr ⟨by lia,by lia⟩) ?_;left;exact K2 ⟨by decide,by decide,?_⟩ ?_
  ·show(Mx c i).natAbs<2^64
   lia
  left;exact K2 ⟨by decide,by decide,by lia⟩ ?_;left;exact K2 ⟨by decide,by decide,?_⟩ ?_
  ·show(N6 c i+c%999983).natAbs<2^64
   lia
  left;exact⟨λτ Γ'=>τ=[some (.int c),some (.int n),some (.ref p),some (.int (F0 c (i+1))),some (.int (c%1000000007+1)),some (.int (c%999983)),some (.int i),some (.int (Gr c i))]∧Γ'=A9 Γ p (.lst ((F9 c i).map T.int)),?_,?_⟩
  ·left
   exact AW (λcc=>?_) (λcc=>?_)
   ·have cc:=Ej cc
    left;have e1:F0 c (i+1)=F0 c i/1000003:=by rw[F0,AR cc]
    have e2:Gr c i=F0 c i%1000003:=by rw[Gr,AR cc]
    rw[e1,e2];exact⟨rfl,rfl⟩
   ·have cc:=FX cc
    left;have e1:F0 c (i+1)=F0 c i:=by rw[F0,AN cc]
    have e2:Gr c i=Pd c i:=by rw[Gr,AN cc]
    rw[e1,e2];exact⟨rfl,rfl⟩
  intro τ Γ'⟨rfl,rfl⟩;left;exact X5 B1 ?_;left;exact Ψ3 p ((F9 c i).map T.int) _ ⟨rfl,rfl,B1,CJ (by rw[AV,Y6];lia),?_⟩;left;exact Ψ4 (i+1) m' _ _ ⟨rfl,by lia,rfl,?_⟩;rw[ND,v9,Ao];rfl
end
inductive Pt(Γ:AJ):T→Prop
 |non:Pt Γ .non
 |bl (b:Bool):Pt Γ (.bl b)
 |int (i:Int):Pt Γ (.int i)
 |str {z:Str} (l:z.length≤100000):Pt Γ (.str z)
 |tup {ts:List T} (l:ts.length≤100000) (h:∀t∈ts,Pt Γ t):Pt Γ (.tup ts)
 |lst {a:Addr} {ts:List T} (g:Γ a=some (.lst ts)):Pt Γ (.ref a)
 |dct {a:Addr} {ay:List (AG×T)} (g:Γ a=some (.dK ay)):Pt Γ (.ref a)
theorem Pt.items(h:Pt Γ (.tup ts)):ts.length≤100000∧∀t∈ts,Pt Γ t:=by
 cases h with
 |tup l h=>exact⟨l,h⟩
theorem Pt.txt(h:Pt Γ (.str z)):z.length≤100000:=by
 cases h with
 |str l=>exact l
def isTup:T→Bool|.tup _=>true|_=>false
def isStr:T→Bool|.str _=>true|_=>false
def isInt:T→Bool|.int _=>true|.bl _=>true|_=>false
def nF:T→Bool|.bl _=>true|_=>false
def Y9:T→Bool|.int _=>true|_=>false
theorem HJ(h:isTup t=true):∃ts,t=.tup ts:=by
 cases t with
 |tup ts=>exact⟨ts,rfl⟩
 |_=>cases h
theorem Ki(h:isStr t=true):∃z,t=.str z:=by
 cases t with
 |str z=>exact⟨z,rfl⟩
 |_=>cases h
theorem YZ(h:Y9 t=true):∃i,t=.int i:=by
 cases t with
 |int i=>exact⟨i,rfl⟩
 |_=>cases h
section
variable {K: W.Frag}{Γ: AJ}{t: T}
theorem HM(g:Γ a=some (.lst ts)):Ef Γ (.ref a)=some "list" := by
 show(match Γ a with|some (.lst _)=>some "list" |some (.dK _)=>some "dict" |_=>none)=_
 rw[g]
theorem Hc{ts:List (AG×T)}(g:Γ a=some (.dK ts)):Ef Γ (.ref a)=some "dict" := by
 show(match Γ a with|some (.lst _)=>some "list" |some (.dK _)=>some "dict" |_=>none)=_
 rw[g]
theorem Gg(h:Pt Γ t):∃n,Ef Γ t=some n∧W.kitOne K (.type n) (.type "tuple")=some (isTup t):=by
 cases h with
 |lst g=>exact⟨_,HM g,rfl⟩
 |dct g=>exact⟨_,Hc g,rfl⟩
 |_=>exact⟨_,rfl,rfl⟩
theorem in_str(h:Pt Γ t):∃n,Ef Γ t=some n∧W.kitOne K (.type n) (.type "str")=some (isStr t):=by
 cases h with
 |lst g=>exact⟨_,HM g,rfl⟩
 |dct g=>exact⟨_,Hc g,rfl⟩
 |_=>exact⟨_,rfl,rfl⟩
theorem qc(h:Pt Γ t):∃n,Ef Γ t=some n∧W.kitOne K (.type n) (.type "int")=some (isInt t):=by
 cases h with
 |lst g=>exact⟨_,HM g,rfl⟩
 |dct g=>exact⟨_,Hc g,rfl⟩
 |_=>exact⟨_,rfl,rfl⟩
theorem gV(h:Pt Γ t):∃n,Ef Γ t=some n∧W.kitOne K (.type n) (.type "bool")=some (nF t):=by
 cases h with
 |lst g=>exact⟨_,HM g,rfl⟩
 |dct g=>exact⟨_,Hc g,rfl⟩
 |_=>exact⟨_,rfl,rfl⟩
theorem E2{Ty:String}{B:T→Bool}{Q:Bool→Prop}(h:∃n,Ef Γ t=some n∧W.kitOne K (.type n) (.type Ty)=some (B t))(q:Q (B t)):∃n b,Ef Γ t=some n∧W.kitOne K (.type n) (.type Ty)=some b∧Q b:=by
 let⟨n,a,b⟩:=h;exact Ψ2 n _ ⟨a,b,q⟩
end
def K7(c:Nat):Bool:=!(Builtin.Str.occurrences JB ⟨#[c]⟩ 0 JB.length 1).isEmpty
theorem oP:∀c:Nat,c<128→K7 c=(decide (97≤c)&&decide (c≤122)):=by decide +kernel
def Dl:T→Bool
 |.str z=>decide (1≤z.length)&&decide (z.length≤8)&&z.cps.toList.all K7
 |_=>false
theorem Lz(z:Str):Dl (.str z)=(decide (1≤z.length)&&decide (z.length≤8)&&z.cps.toList.all K7):=rfl
theorem eP(h:Dl t=true):∃z,t=.str z:=by
 cases t with
 |str z=>exact⟨z,rfl⟩
 |_=>cases h
def FJ(f:T→Bool):T→Bool
 |.tup [a,b]=>Dl a&&f b
 |_=>false
def GH:T→Str
 |.tup (.str z::_)=>z
 |_ => ""
def Kl(f:T→Bool):T→Bool
 |.tup ts=>decide (1≤ts.length)&&decide (ts.length≤6)&&ts.all (FJ f)&&decide (ts.map GH).Nodup
 |_=>false
def Qq:T→Bool
 |.int i=>decide (1≤i)&&decide (i≤4)
 |_=>false
def BK:Nat→T→Bool
 |d+1,.tup [.str h]=>decide (h = "text")
 |d+1,.tup [.str h,x]=>if h = "num" then Qq x else if h = "row" then BK d x else(decide (h = "rec")||decide (h = "pick"))&&Kl (BK d) x
 |_,_=>false
theorem jF{f:T→Bool}(h:FJ f t=true):∃z b,t=.tup [.str z,b]∧Dl (.str z)=true∧f b=true:=by
 unfold FJ at h;split at h
 ·rename_i a b
  rw[E9]at h;let⟨z,rfl⟩:=eP h.1;exact Ψ2 z b ⟨rfl,h.1,h.2⟩
 ·cases h
section
variable {K: W.Frag}
abbrev Sg:Stmt:=Au 10
theorem xj:Ak ["thing"] ["thing"] (AX Sg):=⟨rfl,rfl,rfl,by decide +kernel,rfl,by decide +kernel,by decide +kernel⟩
def Gw:Am:=λts Γ Z _=>∃t:T,ts=[t]∧Pt Γ t∧Z (.bl (Y9 t)) Γ
theorem sS(F:cP K "is_whole" "is_whole" Sg f fd)(ah:mg "isinstance" = none)(zw:mg "int" = none)(mS:mg "bool" = none):a8 P w K mg am Ag 1 f fd ["thing"] (Af Gw):=by
 exact As F xj (λts Γ Z Y h=>?_) (λcn A outer s H E ts Γ Z Y hr h=>?_)
 ·let⟨t,rfl,_⟩:=h
  rfl
 let⟨t,rfl,pt,q⟩:=h;exact⟨_,(A5 (AH (CK (CR rfl ah rfl zw nv (A0 0)) (CA (mm (CR rfl ah rfl mS eF (A0 0))))))
  A7),?_⟩
 simp only[Ai];left;exact E2 (qc pt) ?_;left;exact AW (λc=>?_) (λc=>?_)
 ·left
  exact E2 (gV pt) ?_;left;exact AB .refl ?_;cases t with
  |int i=>exact q
  |bl b=>exact q
  |_=>cases c
 ·exact AB .refl ?_
  cases t with
  |int i=>cases c
  |bl b=>cases c
  |_=>exact q
abbrev SX:Stmt:=Au 11
theorem yF:Ak ["thing"] ["thing"] (AX SX):=⟨rfl,rfl,rfl,by decide +kernel,rfl,by decide +kernel,by decide +kernel⟩
def He:Am:=λts Γ Z _=>∃t:T,ts=[t]∧Pt Γ t∧Z (.bl (Dl t)) Γ
theorem lY(F:cP K "is_name" "is_name" SX f fd)(gN:mg "LONGEST_NAME" = some v1)(qi:Ca v1 (.int 8))(ng:mg "LETTERS" = some v2)(yS:Ca v2 (.str JB))(ah:mg "isinstance" = none)(cE:mg "str" = none)(aG:mg "len" = none)(bc:mg "all" = none):a8 P w K mg am Ag 1 f fd ["thing"] (Af He):=by
 exact As F yF (λts Γ Z Y h=>?_) (λcn A outer s H E ts Γ Z Y hr h=>?_)
 ·let⟨t,rfl,_⟩:=h
  rfl
 let⟨t,rfl,pt,q⟩:=h;exact⟨_,(A5 (Ah (PW.pt (CQ (B5 (B7 (CR rfl ah rfl cE IV (A0 0)))) (DJ (B5 (XJ F4 F4 AA (Av Y7 rfl aG Bm (A3 (A0 0) A6)) (Ds rfl gN qi)))))) (A5 (AH B4)
  A7) A7)
  (A5 (AH (Av (F5 rfl) rfl bc F6 (A3 (EB (own:=["sign"]) (cap:=[]) Ez rfl (fz (A0 0)) (λ_ _ _ _=>Hr) (λ_ _ _ _=>EH) (λ_ _ _ _=>(GR oj (A0 0) (Ds rfl ng yS) (by with_unfolding_all rfl)))) A6)))
  A7)),?_⟩
 simp only[Ai];left;exact E2 (in_str pt) ?_;left;exact AW (λc=>?_) (λc=>?_)
 ·left
  exact AB .refl ?_;cases t with
  |str z=>cases c
  |_=>exact q
 let⟨z,rfl⟩:=Ki (t:=t) (by cases h:isStr t with|true=>rfl|false=>rw[h]at c;cases c);have zl:=pt.txt;left;exact⟨z,rfl,DA zl (by decide),?_⟩;left;have no:Dl (.str z)=false→Dx Z (.bl false) Γ:=λh=>by rw[h]at q;exact AB .refl q
 exact AW (λc1=>?_) (λc1=>?_);rotate_left
 ·have c1:=FX c1
  left;exact no ?_;rw[Lz,Du (show ¬1≤z.length by lia)];rfl
 have c1:=Ej c1;left;exact AW (λc2=>?_) (λc2=>?_)
 ·have c2:¬(z.length:Int)≤8:=by simpa using c2
  left;exact no ?_;rw[Lz,Du (show ¬z.length≤8 by lia),Bool.and_false];rfl
 have c2:(z.length:Int)≤8:=by simpa using c2
 left;exact⟨CG (CJ (by unfold Gy;rw[AV,Fb];lia)),?_⟩;exact⟨λv4 τ ys Γ'=>∃(cs ds:List Nat) (o:Option T),v4=cs.map (λc=>T.str ⟨#[c]⟩)∧z.cps.toList=ds++cs∧τ=[o]∧ys=(ds.map K7).map T.bl∧Γ'=Γ,Ψ3 z.cps.toList [] none ⟨rfl,rfl,rfl,rfl,rfl⟩,?_,?_⟩
 ·intro τ ys Γ'⟨cs,ds,o,er,ez,rfl,rfl,rfl⟩
  have hz:cs=[]:=by
   cases cs with
   |nil=>rfl
   |cons _ _=>cases er
  subst hz;rw[Bt]at ez;subst ez;exact⟨trivial,?_⟩;intro p1 cS;generalize e1:A9 _ p1 (O.lst _)=Γ1;have g1:=AZ e1;have l1:=Ab e1 cS
  left;exact Ψ2 p1 _ ⟨rfl,Bk g1,?_⟩;have:(z.cps.toList.map K7).all id=Dl (.str z):=by
   rw[Lz,CI (show 1≤z.length by lia),CI (show z.length≤8 by lia),FC];rfl
  rw[this];exact AB l1 q
 ·intro x r τ ys Γ'⟨cs,ds,o,er,ez,rfl,rfl,rfl⟩
  cases cs with
  |nil=>cases er
  |cons c cs=>
   cases er;exact⟨trivial,?_⟩;left;exact Ψ2 _ _ ⟨rfl,rfl,?_⟩;exact Ψ3 cs (ds++[c]) _ ⟨rfl,by rw[ez];simp,rfl,by rw[Ao,Ao];rfl,rfl⟩
abbrev Md:Stmt:=Au 15
theorem uu:Ak ["thing","depth"] ["thing","depth"] (AX Md):=⟨rfl,rfl,rfl,by decide +kernel,rfl,by decide +kernel,by decide +kernel⟩
def R3(n:Nat):Am:=λts Γ Z _=>∃(t:T) (d:Nat),ts=[t,.int d]∧d<n∧Pt Γ t∧Z (.bl (FJ (BK d) t)) Γ
def KG(n:Nat):Am:=λts Γ Z _=>∃(t:T) (d:Nat),ts=[t,.int d]∧d<n∧Pt Γ t∧Z (.bl (BK d t)) Γ
theorem kn{f:T→Bool}(h:ts.length≠2):FJ f (.tup ts)=false:=by
 unfold FJ;split
 ·rename_i e;cases e;exact absurd rfl h
 ·rfl
theorem qK(F:cP K "is_field" "is_field" Md f fd)(cf:AU P w K mg am "is_name" 1 ["thing"] He)(c0:AU P w K mg am "is_kind_within" (lv+1) ["thing","depth"] (KG n))(ah:mg "isinstance" = none)(aC:mg "tuple" = none)(aG:mg "len" = none):a8 P w K mg am Ag (lv+2) f fd ["thing","depth"] (Af (R3 n)):=by
 exact As F uu (λts Γ Z Y h=>?_) (λcn A outer s H E ts Γ Z Y hr h=>?_)
 ·let⟨t,d,rfl,_⟩:=h
  rfl
 let⟨t,d,rfl,dn,pt,q⟩:=h;exact⟨_,(A5 (Ah (PW.pt (CQ (B5 (B7 (CR rfl ah rfl aC Dm (A0 0)))) (DJ (B0 EI (Av DL rfl aG Bm (A3 (A0 0) A6)) AA)))) (A5 (AH B4)
  A7) A7)
  (A5 (AH (CK (Ae cf hr (A3 (AY (A0 0) AA) A6)) (CA (Ae c0 hr (A3 (AY (A0 0) AA) (A3 (A0 1) A6))))))
  A7)),?_⟩
 simp only[Ai];left;exact E2 (Gg pt) ?_;left;exact AW (λc=>?_) (λc=>?_)
 ·left
  exact AB .refl ?_;cases t with
  |tup ts=>cases c
  |_=>exact q
 let⟨ts,rfl⟩:=HJ (t:=t) (by cases h:isTup t with|true=>rfl|false=>rw[h]at c;cases c);let⟨tl,tm⟩:=pt.items;left;exact AW (λc1=>?_) (λc1=>?_)
 ·have c1:ts.length≠2:=λe=>by rw[e]at c1;revert c1;decide
  left;rw[kn c1]at q;exact AB .refl q
 have c1:ts.length=2:=by
  have:decide (V.int (ts.length:Int)=V.int 2)=true:=by simpa using c1
  have:=JY this;lia
 match ts,c1 with
 |[a,b],_=>
  left;exact⟨a,rfl,tm a (by simp),?_⟩;left;have q:Z (.bl (Dl a&&BK d b)) Γ:=q;exact AW (λc2=>?_) (λc2=>?_)
  ·rw[c2,BA]at q
   left;exact Ψ2 b d ⟨rfl,dn,tm b (by simp),AB .refl q⟩
  ·rw[c2,Dw]at q
   exact AB .refl q
abbrev MB:Stmt:=Au 14
theorem pv:Ak ["thing","depth"] ["thing","depth"] (AX MB):=⟨rfl,rfl,rfl,by decide +kernel,rfl,by decide +kernel,by decide +kernel⟩
def XI(n:Nat):Am:=λts Γ Z _=>∃(t:T) (d:Nat),ts=[t,.int d]∧d<n∧Pt Γ t∧Z (.bl (Kl (BK d) t)) Γ
theorem Ky(f:T→Bool)(ts:List T):Kl f (.tup ts)=(decide (1≤ts.length)&&decide (ts.length≤6)&&ts.all (FJ f)&&decide (ts.map GH).Nodup):=rfl
theorem pJ(F:cP K "are_fields" "are_fields" MB f fd)(dj:mg "MOST_FIELDS" = some v1)(fL:Ca v1 (.int 6))(wZ:AU P w K mg am "is_field" (lv+2) ["thing","depth"] (R3 n))(ah:mg "isinstance" = none)(aC:mg "tuple" = none)(aG:mg "len" = none)(bc:mg "all" = none):a8 P w K mg am Ag (lv+3) f fd ["thing","depth"] (Af (XI n)):=by
 exact As F pv (λts Γ Z Y h=>?_) (λcn A outer s H E ts Γ Z Y hr h=>?_)
 ·let⟨t,d,rfl,_⟩:=h
  rfl
 let⟨t,d,rfl,dn,pt,q⟩:=h;exact⟨_,(A5 (Ah (PW.pt (CQ (B5 (B7 (CR rfl ah rfl aC Dm (A0 0)))) (DJ (B5 (XJ F4 F4 AA (Av DL rfl aG Bm (A3 (A0 0) A6)) (Ds rfl dj fL)))))) (A5 (AH B4)
  A7) A7)
  (A5 (Ah (B5 (B7 (Av (F5 rfl) rfl bc F6 (A3 (EB (own:=["field"]) (cap:=[(1,"depth")]) (Gb rfl (by decide +kernel) (by decide +kernel) rfl (⟨rfl,trivial⟩) rfl (⟨⟨rfl,rfl,rfl⟩,trivial⟩)) rfl (Dc (A0 0)) (λ_ _ _ _=>(BM (i:=0) (show List.Nodup (["field","depth"]:List Str)from by decide +kernel) rfl (Or.inl rfl) (Or.inr rfl))) (λ_ _ _ _=>EH) (λ_ _ _ _=>(Ae wZ hr (A3 (A0 0) (A3 (A0 1) A6))))) A6)))) (A5 (AH B4)
  A7) A7)
  (A5 (AH (Dh CT (Av Yo rfl aG Bm (A3 (aD (own:=["name","inner"]) (cap:=[]) Ez rfl (Dc (A0 0)) (λ_ _ _ _=>(Be (n:=2) rfl (AL (BM (i:=0) (show List.Nodup (["name","inner"]:List Str)from by decide +kernel) rfl (Or.inl rfl) (Or.inr rfl)) (AL (BM (i:=1) (show List.Nodup (["name","inner"]:List Str)from by decide +kernel) rfl (Or.inl rfl) (Or.inr rfl)) Bd)))) (λ_ _ _ _=>(A0 0))) A6)) (Av DL rfl aG Bm (A3 (A0 0) A6))))
  A7))),?_⟩
 simp only[Ai];left;exact E2 (Gg pt) ?_;left;exact AW (λc=>?_) (λc=>?_)
 ·left
  exact AB .refl ?_;cases t with
  |tup ts=>cases c
  |_=>exact q
 let⟨ts,rfl⟩:=HJ (t:=t) (by cases h:isTup t with|true=>rfl|false=>rw[h]at c;cases c);let⟨tl,tm⟩:=pt.items;have no:Kl (BK d) (.tup ts)=false→Dx Z (.bl false) Γ:=λh=>by rw[h]at q;exact AB .refl q
 left;exact AW (λc1=>?_) (λc1=>?_);rotate_left
 ·have c1:=FX c1
  left;exact no ?_;rw[Ky,Du (show ¬1≤ts.length by lia)];rfl
 have c1:=Ej c1;left;exact AW (λc2=>?_) (λc2=>?_)
 ·have c2:¬(ts.length:Int)≤6:=by simpa using c2
  left;exact no ?_;rw[Ky,Du (show ¬ts.length≤6 by lia),Bool.and_false];rfl
 have c2:(ts.length:Int)≤6:=by simpa using c2
 rw[Ky,CI (show 1≤ts.length by lia),CI (show ts.length≤6 by lia),BA,BA]at q;clear no;left;exact⟨CG (CJ (by lia)),?_⟩;exact⟨λv4 τ ys Γ'=>∃(ds:List T) (o:Option T),ts=ds++v4∧τ=[o,some (.int d)]∧ys=(ds.map (FJ (BK d))).map T.bl∧Γ'=Γ,Ψ2 [] none ⟨rfl,rfl,rfl,rfl⟩,?_,?_⟩;rotate_left
 ·intro x r τ ys Γ'⟨ds,o,ez,rfl,rfl,rfl⟩
  exact⟨trivial,?_⟩;left;exact Ψ2 x d ⟨rfl,dn,tm x (by rw[ez];simp),?_⟩;exact Ψ2 (ds++[x]) _ ⟨by rw[ez];simp,rfl,by rw[Ao,Ao];rfl,rfl⟩
 intro τ ys Γ'⟨ds,o,ez,rfl,rfl,rfl⟩;rw[Bt]at ez;subst ez;exact⟨trivial,?_⟩;intro p1 cS;generalize e1:A9 _ p1 (O.lst _)=Γ1;have g1:=AZ e1;have l1:=Ab e1 cS
 left;exact Ψ2 p1 _ ⟨rfl,Bk g1,?_⟩;rw[show(ts.map (FJ (BK d))).all id=ts.all (FJ (BK d))by rw[FC];rfl];left;exact AW (λc3=>?_) (λc3=>?_)
 ·have c3:ts.all (FJ (BK d))=false:=by simpa using c3
  left;rw[c3,Dw]at q;exact AB l1 q
 have c3:ts.all (FJ (BK d))=true:=by simpa using c3
 rw[c3,BA]at q;have all:=Yw.mp c3;left;unfold MH;left;exact⟨by lia,?_⟩;exact⟨λv4 τ ys Γ'=>∃(ds:List T) (o0 o1:Option T),ts=ds++v4∧τ=[o0,o1]∧ys=ds.map GH∧Γ'=Γ1,Ψ3 [] none none ⟨rfl,rfl,rfl,rfl⟩,?_,?_⟩;rotate_left
 ·intro x r τ ys Γ'⟨ds,o0,o1,ez,rfl,rfl,rfl⟩
  let⟨z,b,rfl,_,_⟩:=jF (all x (by rw[ez];simp));exact⟨trivial,?_⟩;left;exact Ψ3 (ds++[.tup [.str z,b]]) _ _ ⟨by rw[ez];simp,rfl,by rw[Ao];rfl,rfl⟩
 intro τ ys Γ'⟨ds,o0,o1,ez,rfl,rfl,rfl⟩;rw[Bt]at ez;subst ez;exact⟨trivial,λD S n on hD=>?_⟩;left;exact Ψ3 D S n ⟨rfl,B1,?_⟩;left;have:decide (V.int (n:Int)=V.int (ts.length:Nat))=decide (ts.map GH).Nodup:=by
  have e:(V.int (n:Int)=V.int (ts.length:Nat)) ↔(ts.map GH).Nodup:=by
   rcases on.2 with⟨a,b⟩|⟨a,b⟩
   ·rw[AV]at b
    exact⟨λ_=>a,λ_=>by rw[b]⟩
   ·rw[AV]at b
    exact⟨λh=>by have:=V.int.inj h;lia,λh=>absurd h a⟩
  exact Zk.mpr e
 rw[this];exact AB (l1.trans (.new hD)) q
abbrev NB:Stmt:=Au 13
theorem eM:Ak ["thing","depth","head","inner"] ["thing","depth"] (AX NB):=⟨rfl,rfl,rfl,by decide +kernel,rfl,by decide +kernel,by decide +kernel⟩
theorem yK(n:Nat):DK (.int (n:Int)) [.int 1,.int 2]=(decide (n=1)||decide (n=2)):=by
 rw[Fx];simp[DK,E0];lia
theorem ja(z:Str):DK (.str z) [.str "rec",.str "pick"]=(decide (z = "rec")||decide (z = "pick")):=by
 rw[show [V.str "rec",V.str "pick"]=(["rec","pick"]:List Str).map V.str from rfl,IW,Fx];simp
theorem sj(h:ts.length≠1)(h':ts.length≠2):BK d (.tup ts)=false:=by
 unfold BK;split
 ·rename_i e;cases e;exact absurd rfl h
 ·rename_i e;cases e;exact absurd rfl h'
 ·rfl
theorem ox(h:isStr t=false):BK d (.tup (t::ts))=false:=by
 unfold BK;split
 ·rename_i e;cases e;cases h
 ·rename_i e;cases e;cases h
 ·rfl
theorem xP(h:isTup t=false):BK d t=false:=by
 unfold BK;split
 ·cases h
 ·cases h
 ·rfl
theorem ag(d:Nat)(h:Str):BK (d+1) (.tup [.str h])=decide (h = "text"):=by rw[BK]
theorem KU(d:Nat)(h:Str)(x:T):BK (d+1) (.tup [.str h,x])=if h = "num" then Qq x else if h = "row" then BK d x else(decide (h = "rec")||decide (h = "pick"))&&Kl (BK d) x:=by rw[BK]
theorem sN(F:cP K "is_kind_within" "is_kind_within" NB f fd)(dI:mg "WIDEST_NUM" = some v1)(gA:Ca v1 (.int 4))(bK:AU P w K mg am "is_whole" 1 ["thing"] Gw)(c0:AU P w K mg am "is_kind_within" (lv+1) ["thing","depth"] (KG n))(tD:AU P w K mg am "are_fields" (lv+3) ["thing","depth"] (XI n))(ah:mg "isinstance" = none)(aC:mg "tuple" = none)(cE:mg "str" = none)(aG:mg "len" = none):a8 P w K mg am Ag (lv+4) f fd ["thing","depth"] (Af (KG (n+1))):=by
 exact As F eM (λts Γ Z Y h=>?_) (λcn A outer s H E ts Γ Z Y hr h=>?_)
 ·let⟨t,d,rfl,_⟩:=h
  rfl
 let⟨t,d,rfl,dn,pt,q⟩:=h;exact⟨_,(A5 (Ah (PW.pt (CQ (B0 YF (A0 1) AA) (CQ (B5 (B7 (CR rfl ah rfl aC Dm (A0 0)))) (DJ (Kh Ol (Av DL rfl aG Bm (A3 (A0 0) A6)) (AP (A3 AA (A3 AA A6))) (by with_unfolding_all rfl)))))) (A5 (AH B4)
  A7) A7)
  (A5 (Ad (i:=2) eM.nd (AY (A0 0) AA))
  (A5 (Ah (B5 (B7 (CR rfl ah rfl cE IV (A0 2)))) (A5 (AH B4)
  A7) A7)
  (A5 (Ah (B0 CT (Av DL rfl aG Bm (A3 (A0 0) A6)) AA) (A5 (AH (Dh CT (A0 2) AM))
  A7) A7)
  (A5 (Ad (i:=3) eM.nd (AY (A0 0) AA))
  (A5 (Ah (B0 CT (A0 2) AM) (A5 (AH (CK (Ae bK hr (A3 (A0 3) A6)) (CA (NI F4 F4 AA (A0 3) (Ds rfl dI gA)))))
  A7) A7)
  (A5 (Ah (B0 CT (A0 2) AM) (A5 (AH (Ae c0 hr (A3 (A0 3) (A3 (AQ ON (A0 1) AA) A6))))
  A7) A7)
  (A5 (AH (CK (GR YM (A0 2) (AP (A3 AM (A3 AM A6))) (by with_unfolding_all rfl)) (CA (Ae tD hr (A3 (A0 3) (A3 (AQ ON (A0 1) AA) A6))))))
  A7)))))))),?_⟩
 simp only[Ai];have no:BK d t=false→Dx Z (.bl false) Γ:=λh=>by rw[h]at q;exact AB .refl q
 left;exact AW (λc=>?_) (λc=>?_)
 ·have c:=Ej c
  have:d=0:=by lia
  subst this;left;exact no (by unfold BK;rfl)
 have c:=FX c;obtain⟨d,rfl⟩:∃e,d=e+1:=⟨d-1,by lia⟩;left;exact E2 (Gg pt) ?_;left;exact AW (λc=>?_) (λc=>?_)
 ·left
  exact no (xP (by simpa using c))
 let⟨ts,rfl⟩:=HJ (t:=t) (by simpa using c);let⟨tl,tm⟩:=pt.items;left;show if(!DK (.int (ts.length:Int)) [.int 1,.int 2])=true then _ else _
 rw[yK];exact AW (λc1=>?_) (λc1=>?_)
 ·left
  have c1:ts.length≠1∧ts.length≠2:=by simpa using c1
  exact no (sj c1.1 c1.2)
 have c1:ts.length=1∨ts.length=2:=by
  have:¬ts.length=1→ts.length=2:=by simpa using c1
  lia
 obtain⟨h,ys,rfl⟩:∃h ys,ts=h::ys:=by
  cases ts with
  |nil=>exact absurd c1 (by simp)
  |cons h ys=>exact Ψ2 h ys rfl
 left;exact E2 (in_str (tm h (by simp))) ?_;left;exact AW (λc2=>?_) (λc2=>?_)
 ·left
  exact no (ox (by simpa using c2))
 let⟨z,rfl⟩:=Ki (t:=h) (by simpa using c2);clear no;left;match ys,c1 with
 |[],_=>
  left;rw[ag]at q;have e:decide (V.str z=V.str "text")=decide (z = "text"):=Zk.mpr ⟨V.str.inj,λe=>by rw[e]⟩;rw[e];exact AB .refl q
 |[x],_=>
  have px:=tm x (by simp);rw[KU]at q;left;exact AW (λc3=>?_) (λc3=>?_)
  ·rw[AR (K8 c3)]at q
   left;exact⟨x,rfl,px,?_⟩;left;exact AW (λc4=>?_) (λc4=>?_)
   ·let⟨i,rfl⟩:=YZ c4
    left;have q:Z (.bl (decide (1≤i)&&decide (i≤4))) Γ:=q;exact AW (λc5=>?_) (λc5=>?_)
    ·rw[c5,BA]at q
     left;exact AB .refl q
    ·rw[c5,Dw]at q
     exact AB .refl q
   ·have:Qq x=false:=by
     cases x with
     |int i=>cases c4
     |_=>rfl
    rw[this]at q;exact AB .refl q
  rw[AN (K3 c3)]at q;left;exact AW (λc4=>?_) (λc4=>?_)
  ·rw[AR (K8 c4)]at q
   left;exact Ψ2 x d ⟨by rw[show((d+1:Nat):Int)-1=(d:Int)by lia],by lia,px,AB .refl q⟩
  rw[AN (K3 c4)]at q;left;show if DK (.str z) [.str "rec",.str "pick"]=true then _ else _
  rw[ja];exact AW (λc5=>?_) (λc5=>?_)
  ·rw[c5,BA]at q
   left;exact Ψ2 x d ⟨by rw[show((d+1:Nat):Int)-1=(d:Int)by lia],by lia,px,AB .refl q⟩
  ·rw[c5,Dw]at q
   exact AB .refl q
abbrev XM:Stmt:=Au 12
theorem vK:Ak ["thing"] ["thing"] (AX XM):=⟨rfl,rfl,rfl,by decide +kernel,rfl,by decide +kernel,by decide +kernel⟩
def JW:Am:=λts Γ Z _=>∃t:T,ts=[t]∧Pt Γ t∧Z (.bl (BK 5 t)) Γ
theorem vL(F:cP K "is_kind" "is_kind" XM f fd)(gP:mg "DEEPEST_KIND" = some v1)(qj:Ca v1 (.int 5))(c0:AU P w K mg am "is_kind_within" 19 ["thing","depth"] (KG 6)):a8 P w K mg am Ag 20 f fd ["thing"] (Af JW):=by
 exact As F vK (λts Γ Z Y h=>?_) (λcn A outer s H E ts Γ Z Y hr h=>?_)
 ·let⟨t,rfl,_⟩:=h
  rfl
 let⟨t,rfl,pt,q⟩:=h;exact⟨_,(A5 (AH (Ae c0 hr (A3 (A0 0) (A3 (Ds rfl gP qj) A6))))
  A7),?_⟩
 simp only[Ai];left;exact Ψ2 t 5 ⟨rfl,by decide,pt,AB .refl q⟩
end
abbrev cL:List Str:=["copy","give","lend","lease"]
def HK:T→Bool
 |.int i=>decide (i=0)||decide (i=1)
 |_=>false
def Ox:T→Bool
 |.str z=>decide (z∈cL)
 |_=>false
def FW:T→Bool
 |.tup [a,b,c]=>Dl a&&(Ox b&&BK 5 c)
 |_=>false
def IU:T→Bool
 |.tup ts=>ts.all FW&&decide (ts.map GH).Nodup
 |_=>false
def JM:T→Bool
 |.non=>true
 |t=>BK 5 t
def Mu:T→Bool
 |.tup [a,b,c,d]=>Dl a&&(HK b&&(IU c&&JM d))
 |_=>false
theorem yu(h:ts.length≠3):FW (.tup ts)=false:=by
 unfold FW;split
 ·rename_i e;cases e;exact absurd rfl h
 ·rfl
theorem tE(h:ts.length≠4):Mu (.tup ts)=false:=by
 unfold Mu;split
 ·rename_i e;cases e;exact absurd rfl h
 ·rfl
theorem xB(h:FW t=true):∃z b c,t=.tup [.str z,b,c]:=by
 unfold FW at h;split at h
 ·rename_i a b c
  rw[E9]at h;let⟨z,rfl⟩:=eP h.1;exact Ψ3 z b c rfl
 ·cases h
theorem cV(ts:List T):IU (.tup ts)=(ts.all FW&&decide (ts.map GH).Nodup):=rfl
theorem jB(i:Int):DK (.int i) [.int 0,.int 1]=HK (.int i):=by
 show _=(decide (i=0)||decide (i=1))
 rw[Fx];simp[DK,E0];lia
section
variable {K: W.Frag}{aS aW: Addr}
abbrev Rq:Stmt:=Au 35
theorem Key:Ak ["thing"] ["thing"] (AX Rq):=⟨rfl,rfl,rfl,by decide +kernel,rfl,by decide +kernel,by decide +kernel⟩
def Pe:Am:=λts Γ Z _=>∃t:T,ts=[t]∧Pt Γ t∧Z (.bl (HK t)) Γ
theorem wB(F:cP K "is_side" "is_side" Rq f fd)(bK:AU P w K mg am "is_whole" 1 ["thing"] Gw)(sE:mg "SIDES" = some (.ref aS))(sG:dR K aS [.int 0,.int 1]):a8 P w K mg am Ag 2 f fd ["thing"] (Af Pe):=by
 have Ed:Ca (.ref aS) (.ref aS):=Kn;exact As F Key (λts Γ Z Y h=>?_) (λcn A outer s H E ts Γ Z Y hr h=>?_)
 ·let⟨t,rfl,_⟩:=h
  rfl
 let⟨t,rfl,pt,q⟩:=h;exact⟨_,(A5 (AH (CK (Ae bK hr (A3 (A0 0) A6)) (CA (GR (ft sG rfl) (A0 0) (Ds rfl sE Ed) (by with_unfolding_all rfl)))))
  A7),?_⟩
 simp only[Ai];left;exact⟨t,rfl,pt,?_⟩;left;exact AW (λc=>?_) (λc=>?_)
 ·let⟨i,rfl⟩:=YZ c
  left;exact⟨_,rfl,rfl,rfl,?_⟩;rw[jB];exact AB .refl q
 ·have:HK t=false:=by
   cases t with
   |int i=>cases c
   |_=>rfl
  rw[this]at q;exact AB .refl q
abbrev X2:Stmt:=Au 37
theorem hW:Ak ["thing","name","way","kind"] ["thing"] (AX X2):=⟨rfl,rfl,rfl,by decide +kernel,rfl,by decide +kernel,by decide +kernel⟩
def ZR:Am:=λts Γ Z _=>∃t:T,ts=[t]∧Pt Γ t∧Z (.bl (FW t)) Γ
theorem iF(F:cP K "is_place" "is_place" X2 f fd)(cf:AU P w K mg am "is_name" 1 ["thing"] He)(du:AU P w K mg am "is_kind" 20 ["thing"] JW)(wc:mg "WAYS" = some (.ref aW))(wj:dR K aW (cL.map V.str))(ah:mg "isinstance" = none)(aC:mg "tuple" = none)(cE:mg "str" = none)(aG:mg "len" = none):a8 P w K mg am Ag 21 f fd ["thing"] (Af ZR):=by
 have II:Ca (.ref aW) (.ref aW):=Kn;exact As F hW (λts Γ Z Y h=>?_) (λcn A outer s H E ts Γ Z Y hr h=>?_)
 ·let⟨t,rfl,_⟩:=h
  rfl
 let⟨t,rfl,pt,q⟩:=h;exact⟨_,(A5 (Ah (PW.pt (CQ (B5 (B7 (CR rfl ah rfl aC Dm (A0 0)))) (DJ (B0 EI (Av DL rfl aG Bm (A3 (A0 0) A6)) AA)))) (A5 (AH B4)
  A7) A7)
  (A5 (EJ (A0 0) (Be (n:=3) rfl (AL (Aa (i:=1) hW.nd) (AL (Aa (i:=2) hW.nd) (AL (Aa (i:=3) hW.nd) Bd)))))
  (A5 (AH (CK (Ae cf hr (A3 (A0 1) A6)) (CK (CR rfl ah rfl cE IV (A0 2)) (CK (GR (ft wj rfl) (A0 2) (Ds rfl wc II) (by with_unfolding_all rfl)) (CA (Ae du hr (A3 (A0 3) A6)))))))
  A7))),?_⟩
 simp only[Ai];left;exact E2 (Gg pt) ?_;left;exact AW (λc=>?_) (λc=>?_)
 ·left
  exact AB .refl ?_;cases t with
  |tup ts=>cases c
  |_=>exact q
 let⟨ts,rfl⟩:=HJ (t:=t) (by simpa using c);let⟨tl,tm⟩:=pt.items;left;exact AW (λc1=>?_) (λc1=>?_)
 ·have c1:ts.length≠3:=λe=>by rw[e]at c1;revert c1;decide
  left;rw[yu c1]at q;exact AB .refl q
 have c1:ts.length=3:=by
  have:decide (V.int (ts.length:Int)=V.int 3)=true:=by simpa using c1
  have:=JY this;lia
 match ts,c1 with
 |[a,b,c],_=>
  have q:Z (.bl (Dl a&&(Ox b&&BK 5 c))) Γ:=q;left;exact⟨a,rfl,tm a (by simp),?_⟩;left;exact AW (λc2=>?_) (λc2=>?_);rotate_left
  ·rw[c2,Dw]at q
   exact AB .refl q
  rw[c2,BA]at q;left;exact E2 (in_str (tm b (by simp))) ?_;left;exact AW (λc3=>?_) (λc3=>?_);rotate_left
  ·have:Ox b=false:=by
    cases b with
    |str z=>cases c3
    |_=>rfl
   rw[this,Dw]at q;exact AB .refl q
  let⟨z,rfl⟩:=Ki c3;left;exact⟨.str z,rfl,rfl,rfl,?_⟩;rw[IW];have q:Z (.bl (decide (z∈cL)&&BK 5 c)) Γ:=q;left;exact AW (λc4=>?_) (λc4=>?_);rotate_left
  ·rw[c4,Dw]at q
   exact AB .refl q
  rw[c4,BA]at q;left;exact⟨c,rfl,tm c (by simp),AB .refl q⟩
abbrev Pc:Stmt:=Au 36
theorem oi:Ak ["thing"] ["thing"] (AX Pc):=⟨rfl,rfl,rfl,by decide +kernel,rfl,by decide +kernel,by decide +kernel⟩
def ZH:Am:=λts Γ Z _=>∃t:T,ts=[t]∧Pt Γ t∧(∀us,t=.tup us→us.length≤999)∧Z (.bl (IU t)) Γ
theorem aar(F:cP K "are_places" "are_places" Pc f fd)(wW:AU P w K mg am "is_place" 21 ["thing"] ZR)(ah:mg "isinstance" = none)(aC:mg "tuple" = none)(aG:mg "len" = none)(bc:mg "all" = none):a8 P w K mg am Ag 22 f fd ["thing"] (Af ZH):=by
 exact As F oi (λts Γ Z Y h=>?_) (λcn A outer s H E ts Γ Z Y hr h=>?_)
 ·let⟨t,rfl,_⟩:=h
  rfl
 let⟨t,rfl,pt,hl,q⟩:=h;exact⟨_,(A5 (Ah (PW.pt (CQ (B5 (B7 (CR rfl ah rfl aC Dm (A0 0)))) (DJ (B5 (B7 (Av (F5 rfl) rfl bc F6 (A3 (EB (own:=["place"]) (cap:=[]) Ez rfl (Dc (A0 0)) (λ_ _ _ _=>Hr) (λ_ _ _ _=>EH) (λ_ _ _ _=>(Ae wW hr (A3 (A0 0) A6)))) A6))))))) (A5 (AH B4)
  A7) A7)
  (A5 (AH (Dh CT (Av Yo rfl aG Bm (A3 (aD (own:=["name","way","kind"]) (cap:=[]) Ez rfl (Dc (A0 0)) (λ_ _ _ _=>(Be (n:=3) rfl (AL (BM (i:=0) (show List.Nodup (["name","way","kind"]:List Str)from by decide +kernel) rfl (Or.inl rfl) (Or.inr rfl)) (AL (BM (i:=1) (show List.Nodup (["name","way","kind"]:List Str)from by decide +kernel) rfl (Or.inl rfl) (Or.inr rfl)) (AL (BM (i:=2) (show List.Nodup (["name","way","kind"]:List Str)from by decide +kernel) rfl (Or.inl rfl) (Or.inr rfl)) Bd))))) (λ_ _ _ _=>(A0 0))) A6)) (Av DL rfl aG Bm (A3 (A0 0) A6))))
  A7)),?_⟩
 simp only[Ai];left;exact E2 (Gg pt) ?_;left;exact AW (λc=>?_) (λc=>?_)
 ·left
  exact AB .refl ?_;cases t with
  |tup ts=>cases c
  |_=>exact q
 let⟨ts,rfl⟩:=HJ (t:=t) (by simpa using c);let⟨_,tm⟩:=pt.items;have tl:=hl ts rfl;rw[cV]at q;left;exact⟨CG (CJ (by lia)),?_⟩;exact⟨λv4 τ ys Γ'=>∃(ds:List T) (o:Option T),ts=ds++v4∧τ=[o]∧ys=(ds.map FW).map T.bl∧Γ'=Γ,Ψ2 [] none ⟨rfl,rfl,rfl,rfl⟩,?_,?_⟩;rotate_left
 ·intro x r τ ys Γ'⟨ds,o,ez,rfl,rfl,rfl⟩
  exact⟨trivial,?_⟩;left;exact⟨x,rfl,tm x (by rw[ez];simp),?_⟩;exact Ψ2 (ds++[x]) _ ⟨by rw[ez];simp,rfl,by rw[Ao,Ao];rfl,rfl⟩
 intro τ ys Γ'⟨ds,o,ez,rfl,rfl,rfl⟩;rw[Bt]at ez;subst ez;exact⟨trivial,?_⟩;intro p1 cS;generalize e1:A9 _ p1 (O.lst _)=Γ1;have g1:=AZ e1;have l1:=Ab e1 cS
 left;exact Ψ2 p1 _ ⟨rfl,Bk g1,?_⟩;rw[show(ts.map FW).all id=ts.all FW by rw[FC];rfl];left;exact AW (λc3=>?_) (λc3=>?_)
 ·have c3:ts.all FW=false:=by simpa using c3
  left;rw[c3,Dw]at q;exact AB l1 q
 have c3:ts.all FW=true:=by simpa using c3
 rw[c3,BA]at q;have all:=Yw.mp c3;left;unfold MH;left;exact⟨by lia,?_⟩;exact⟨λv4 τ ys Γ'=>∃(ds:List T) (o0 o1 o2:Option T),ts=ds++v4∧τ=[o0,o1,o2]∧ys=ds.map GH∧Γ'=Γ1,Ψ4 [] none none none ⟨rfl,rfl,rfl,rfl⟩,?_,?_⟩;rotate_left
 ·intro x r τ ys Γ'⟨ds,o0,o1,o2,ez,rfl,rfl,rfl⟩
  let⟨z,b,c,rfl⟩:=xB (all x (by rw[ez];simp));exact⟨trivial,?_⟩;left;exact Ψ4 (ds++[.tup [.str z,b,c]]) _ _ _ ⟨by rw[ez];simp,rfl,by rw[Ao];rfl,rfl⟩
 intro τ ys Γ'⟨ds,o0,o1,o2,ez,rfl,rfl,rfl⟩;rw[Bt]at ez;subst ez;exact⟨trivial,λD S n on hD=>?_⟩;left;exact Ψ3 D S n ⟨rfl,B1,?_⟩;left;have:decide (V.int (n:Int)=V.int (ts.length:Nat))=decide (ts.map GH).Nodup:=by
  have e:(V.int (n:Int)=V.int (ts.length:Nat)) ↔(ts.map GH).Nodup:=by
   rcases on.2 with⟨a,b⟩|⟨a,b⟩
   ·rw[AV]at b
    exact⟨λ_=>a,λ_=>by rw[b]⟩
   ·rw[AV]at b
    exact⟨λh=>by have:=V.int.inj h;lia,λh=>absurd h a⟩
  exact Zk.mpr e
 rw[this];exact AB (l1.trans (.new hD)) q
abbrev Yf:Stmt:=Au 34
theorem fQ:Ak ["thing","name","side","places","result"] ["thing"] (AX Yf):=⟨rfl,rfl,rfl,by decide +kernel,rfl,by decide +kernel,by decide +kernel⟩
def Ym:Am:=λts Γ Z _=>∃t:T,ts=[t]∧Pt Γ t∧(∀x y us d,t=.tup [x,y,.tup us,d]→us.length≤999)∧Z (.bl (Mu t)) Γ
theorem aai(F:cP K "is_paper" "is_paper" Yf f fd)(cf:AU P w K mg am "is_name" 1 ["thing"] He)(nB:AU P w K mg am "is_side" 2 ["thing"] Pe)(tx:AU P w K mg am "are_places" 22 ["thing"] ZH)(du:AU P w K mg am "is_kind" 20 ["thing"] JW)(ah:mg "isinstance" = none)(aC:mg "tuple" = none)(aG:mg "len" = none):a8 P w K mg am Ag 23 f fd ["thing"] (Af Ym):=by
 exact As F fQ (λts Γ Z Y h=>?_) (λcn A outer s H E ts Γ Z Y hr h=>?_)
 ·let⟨t,rfl,_⟩:=h
  rfl
 let⟨t,rfl,pt,hl,q⟩:=h;exact⟨_,(A5 (Ah (PW.pt (CQ (B5 (B7 (CR rfl ah rfl aC Dm (A0 0)))) (DJ (B0 EI (Av DL rfl aG Bm (A3 (A0 0) A6)) AA)))) (A5 (AH B4)
  A7) A7)
  (A5 (EJ (A0 0) (Be (n:=4) rfl (AL (Aa (i:=1) fQ.nd) (AL (Aa (i:=2) fQ.nd) (AL (Aa (i:=3) fQ.nd) (AL (Aa (i:=4) fQ.nd) Bd))))))
  (A5 (Ah (PW.pt (CQ (B5 (B7 (Ae cf hr (A3 (A0 1) A6)))) (CQ (B5 (B7 (Ae nB hr (A3 (A0 2) A6)))) (DJ (B5 (B7 (Ae tx hr (A3 (A0 3) A6)))))))) (A5 (AH B4)
  A7) A7)
  (A5 (AH (Kx (Dh N2 (A0 4) Gz) (CA (Ae du hr (A3 (A0 4) A6)))))
  A7)))),?_⟩
 simp only[Ai];left;exact E2 (Gg pt) ?_;left;exact AW (λc=>?_) (λc=>?_)
 ·left
  exact AB .refl ?_;cases t with
  |tup ts=>cases c
  |_=>exact q
 let⟨ts,rfl⟩:=HJ (t:=t) (by simpa using c);let⟨tl,tm⟩:=pt.items;left;exact AW (λc1=>?_) (λc1=>?_)
 ·have c1:ts.length≠4:=λe=>by rw[e]at c1;revert c1;decide
  left;rw[tE c1]at q;exact AB .refl q
 have c1:ts.length=4:=by
  have:decide (V.int (ts.length:Int)=V.int 4)=true:=by simpa using c1
  have:=JY this;lia
 match ts,c1 with
 |[a,b,c,d],_=>
  have q:Z (.bl (Dl a&&(HK b&&(IU c&&JM d)))) Γ:=q;left;exact⟨a,rfl,tm a (by simp),?_⟩;left;exact AW (λc2=>?_) (λc2=>?_)
  ·left
   rw[show Dl a=false by simpa using c2,Dw]at q;exact AB .refl q
  rw[show Dl a=true by simpa using c2,BA]at q;left;exact⟨b,rfl,tm b (by simp),?_⟩;left;exact AW (λc3=>?_) (λc3=>?_)
  ·left
   rw[show HK b=false by simpa using c3,Dw]at q;exact AB .refl q
  rw[show HK b=true by simpa using c3,BA]at q;left;exact⟨c,rfl,tm c (by simp),λus e=>hl a b us d (by rw[e]),?_⟩;left;exact AW (λc4=>?_) (λc4=>?_)
  ·left
   rw[show IU c=false by simpa using c4,Dw]at q;exact AB .refl q
  rw[show IU c=true by simpa using c4,BA]at q;left;exact AW (λc5=>?_) (λc5=>?_)
  ·have:d=.non:=by
    cases d with
    |non=>rfl
    |_=>cases c5
   rw[this]at q;exact AB .refl q
  ·have:JM d=BK 5 d:=by
    cases d with
    |non=>cases c5
    |_=>rfl
   rw[this]at q;left;exact⟨d,rfl,tm d (by simp),AB .refl q⟩
end
theorem OL(h:0≤i):HT.cR n d (some i)=min i.toNat n:=by
 show(if i<0 then _ else min i.toNat _)=_
 rw[AN (by lia)]
theorem TG{α:Type}{xs:List α}{j:Int}(h:0≤i)(h':0≤j):Cf xs (some i) (some j)=(xs.drop i.toNat).take (j.toNat-i.toNat):=by
 unfold Cf;rw[OL h,OL h'];by_cases c:i.toNat≤xs.length
 ·rw[MQ c]
  by_cases c2:j.toNat≤xs.length
  ·rw[MQ c2]
  ·rw[Lp (by lia),LI (by rw[Ff];lia),LI (by rw[Ff];lia)]
 ·rw[Lp (show xs.length≤i.toNat by lia),Hh,List.drop_of_length_le (by lia),Of,Of]
def FO(n:Int):Nat:=97+(n%26).toNat
def wd(ns:List Int):Str:=S (ns.map FO)
theorem qp(n:Int):97≤FO n∧FO n≤122:=by
 unfold FO;have:=DM n (by decide:(26:Int)≠0);have:=E5 n (by decide:(0:Int)<26);lia
theorem Mh(ns:List Int):Lets (wd ns):=λc h=>by
 have h:c∈ns.map FO:=by simpa[wd,S]using h
 let⟨n,_,rfl⟩:=X9.mp h;exact qp n
theorem KP(ns:List Int):(wd ns).length=ns.length:=by unfold wd;rw[iZ,AV]
theorem tT:∀j:Nat,j<26→JB.cps.toList[j]?=some (97+j):=by decide +kernel
theorem jI(h0:0≤r)(h1:r<26):Cz JB.cps.toList r=some (97+r.toNat):=by
 have e:r=((r.toNat:Nat):Int):=by lia
 rw[e];exact Iv (tT _ (by lia))
theorem qM(l:List Nat):Hb (l.map λc=>(⟨#[c]⟩:Str))=S l:=by
 unfold Hb S;congr 1
 rw[Dn];have:∀l:List Nat,(l.map ((λx:Str=>x.cps.toList) ∘ λc=>(⟨#[c]⟩:Str))).flatten=l:=λl=>by
  induction l with
  |nil=>rfl
  |cons c l ih=>rw[BQ,List.flatten_cons,ih];rfl
 rw[this]
section
variable {K: W.Frag}
abbrev PZ:Stmt:=Au 72
theorem rf:Ak ["numbers"] ["numbers"] (AX PZ):=⟨rfl,rfl,rfl,by decide +kernel,rfl,by decide +kernel,by decide +kernel⟩
def dU:Am:=λts Γ Z _=>∃(a:Addr) (ns:List Int),ts=[.ref a]∧Γ a=some (.lst (ns.map T.int))∧ns.length≤1000∧Z (.str (wd ns)) Γ
theorem sW(F:cP K "_law_word" "_law_word" PZ f fd):a8 P w K mg am Ag 1 f fd ["numbers"] (Af dU):=by
 exact As F rf (λts Γ Z Y h=>?_) (λcn A outer s H E ts Γ Z Y hr h=>?_)
 ·let⟨a,ns,rfl,_⟩:=h
  rfl
 let⟨a,ns,rfl,ga,n1,q⟩:=h;exact⟨_,(A5 (AH (FZ PySem.F.plainAttrs_str PySem.F.slot_str_join PySem.F.type_str_join iT AM (A3 (EB (own:=["one"]) (cap:=[]) Ez rfl (XN (A0 0)) (λ_ _ _ _=>Hr) (λ_ _ _ _=>EH) (λ_ _ _ _=>(aak AM (AQ CF (A0 0) AA)))) A6)))
  A7),?_⟩
 simp only[Ai];left;exact Ψ2 a _ ⟨rfl,Bk ga,CG (CJ (by rw[AV];exact n1)),?_⟩;exact⟨λv4 τ ys Γ'=>∃(ms ks:List Int) (o:Option T),v4=ks.map T.int∧ns=ms++ks∧τ=[o]∧ys=(ms.map FO).map (λc=>T.str ⟨#[c]⟩)∧Γ'=Γ,Ψ3 [] ns none ⟨rfl,rfl,rfl,rfl,rfl⟩,?_,?_⟩
 ·intro τ ys Γ'⟨ms,ks,o,er,en,rfl,rfl,rfl⟩
  have hk:ks=[]:=by
   cases ks with
   |nil=>rfl
   |cons _ _=>cases er
  subst hk;rw[Bt]at en;subst en;exact⟨Bk ga,λD hD=>?_⟩;left;exact Ψ2 D ((ns.map FO).map (λc=>(⟨#[c]⟩:Str))) ⟨rfl,rfl,?_,?_,?_,?_⟩
  ·rw[Bk B1,Dn,Dn,Dn];rfl
  ·rw[AV,AV];exact n1
  ·intro y hy
   let⟨c,_,rfl⟩:=X9.mp hy;show 1≤1000
   decide
  ·rw[qM]
   exact AB (.new hD) q
 ·intro x r τ ys Γ'⟨ms,ks,o,er,en,rfl,rfl,rfl⟩
  cases ks with
  |nil=>cases er
  |cons k ks=>
   cases er;exact⟨Bk ga,?_⟩;left;have k0:=DM k (by decide:(26:Int)≠0);have k1:=E5 k (by decide:(0:Int)<26);exact Ψ3 _ _ _ ⟨rfl,rfl,by decide,jI k0 k1,?_⟩;exact Ψ3 (ms++[k]) ks _ ⟨rfl,by rw[en];simp,rfl,?_,rfl⟩;rw[Ao,Ao];rfl
end
theorem FE{α β:Type}(f:α→β)(xs:List α)(lo hi:Option Int):Cf (xs.map f) lo hi=(Cf xs lo hi).map f:=by
 unfold Cf;rw[AV,List.map_take,List.map_drop]
theorem Ln{α:Type}{xs:List α}{n:Int}(h:0≤n):Cf xs none (some n)=xs.take n.toNat:=by
 unfold Cf;rw[HT.pH,MC,Nat.sub_zero,OL h];by_cases c:n.toNat≤xs.length
 ·rw[MQ c]
 ·rw[Lp (by lia),List.take_length,LI (by lia)]
theorem J5{α:Type}{xs:List α}(h:0≤i):Cf xs (some i) none=xs.drop i.toNat:=by
 unfold Cf;rw[OL h,HT.pH];by_cases c:i.toNat≤xs.length
 ·rw[MQ c,LI (by rw[Ff];lia)]
 ·rw[Lp (by lia),Hh,List.drop_of_length_le (by lia),Of]
theorem fJ{α:Type}{xs:List α}{lo hi:Option Int}{x:α}(h:x∈Cf xs lo hi):x∈xs:=List.mem_of_mem_drop (List.mem_of_mem_take h)
def Cd(z:Str):Prop:=Lets z∧z.length≤8
theorem Cd.nm(h:Cd z)(n:z ≠ ""):Nm z:=by
 exact⟨?_,h.2,h.1⟩;rcases Nat.eq_zero_or_pos z.length with e|e
 ·exfalso
  apply n
  have:z.cps.toList.length=0:=by rw[Fb];exact e
  have e2:z.cps=#[]:=by
   rw[←Array.toList_inj];exact c9 this
  obtain⟨c⟩:=z;show Str.mk c=_
  rw[show c=#[]from e2];rfl
 ·exact e
abbrev DF:List Str:=["num","text","row","rec","pick","none","door","copy","give","lend","lease","new","call"]
theorem eU:∀z∈DF,Lets z∧z.length≤5:=by
 intro z h;simp only[XO,CN,EP]at h;rcases h with rfl|rfl|rfl|rfl|rfl|rfl|rfl|rfl|rfl|rfl|rfl|rfl|rfl<;>exact⟨tO (by decide +kernel),by decide +kernel⟩
def EX(r:Int)(n:Nat):List Str:=(List.range n).map λk:Nat=>wd [r+7*(k:Int)]
theorem c7(r:Int)(n:Nat):(EX r n).length=n:=by unfold EX;rw[AV,Oz]
theorem aB(h:z∈EX r n):Cd z∧z ≠ "" := by
 let⟨k,_,rfl⟩:=X9.mp h;exact⟨⟨Mh _,by rw[KP];exact(by decide:1≤8)⟩,λe=>?_⟩;have:(wd [r+7*(k:Int)]).length=1:=KP _;rw[e]at this;revert this
 decide +kernel
theorem oy(r:Int):(EX r 26).Nodup:=by
 unfold EX;rw[List.nodup_iff_pairwise_ne,List.pairwise_map];exact List.Pairwise.imp_of_mem (λ{i j} hi hj hn e=>?_) List.nodup_range;rw[ZD]at hi hj;have e1:[FO (r+7*(i:Int))]=[FO (r+7*(j:Int))]:=by
  have:=Eh (λz:Str=>z.cps.toList) e;simpa[wd,S]using this
 have e2:FO (r+7*(i:Int))=FO (r+7*(j:Int)):=by simpa using e1
 unfold FO at e2;apply hn
 lia
theorem yV(r:Int)(n:Nat):EX r (n+1)=EX r n++[wd [r+7*(n:Int)]]:=by unfold EX;rw[List.range_succ,Ao];rfl
theorem t4(ss:List Str):(ss.map V.str).all Dt=true:=by
 rw[Yw];intro v hv;let⟨z,_,rfl⟩:=X9.mp hv;rfl
section
variable {K: W.Frag}
abbrev Ou:Stmt:=Au 73
theorem bH:Ak ["row","word","letter","at","own","some","k","names","one"] ["row"] (AX Ou):=⟨rfl,rfl,rfl,by decide +kernel,rfl,by decide +kernel,by decide +kernel⟩
def bG:Am:=λts Γ Z _=>∃(a:Addr) (ns:List Int),ts=[.ref a]∧Γ a=some (.lst (ns.map T.int))∧ns.length=20∧∀(ss:List Str) (p:Addr),ss.length=9→(∀z∈ss,Nm z)→ss.Nodup→Γ p=none→Z (.ref p) (A9 Γ p (.lst (ss.map T.str)))
theorem aax(F:cP K "_law_names" "_law_names" Ou f fd)(i3:AU P w K mg am "_law_word" 1 ["numbers"] dU)(aG:mg "len" = none)(eo:mg "range" = none):a8 P w K mg am Ag 2 f fd ["row"] (Af bG):=by
 exact As F bH (λts Γ Z Y h=>?_) (λcn A outer s H E ts Γ Z Y hr h=>?_)
 ·let⟨a,ns,rfl,_⟩:=h
  rfl
 let⟨a,ns,rfl,ga,nl,q⟩:=h;exact⟨_,(A5 (Ad (i:=1) bH.nd (Ae i3 hr (A3 (Dj FA (A0 0) EY (DC (AQ FD AA (AQ CF (AY (A0 0) AA) AA)))) A6)))
  (A5 (Ad (i:=2) bH.nd (Ae i3 hr (A3 (Dj FA (A0 0) (DC AA) (DC AA)) A6)))
  (A5 (Ad (i:=3) bH.nd (AQ CF (AY (A0 0) AA) (Av Y7 rfl aG Bm (A3 (A0 1) A6))))
  (A5 (Ad (i:=4) bH.nd (CW (A3 AM (A3 AM (A3 AM (A3 AM (A3 AM (A3 AM (A3 AM (A3 AM (A3 AM (A3 AM (A3 AM (A3 AM (A3 AM A6)))))))))))))))
  (A5 (Ad (i:=5) bH.nd (CW (A3 (A0 1) (A3 (AQ LF (A0 1) (A0 2)) (A3 (AQ LF (A0 2) (A0 1)) (A3 (AQ LF (AQ LF (Dj To (A0 1) EY (DC (A0 3))) (A0 2)) (Dj To (A0 1) (DC (AQ FD (A0 3) AA)) EY)) (A3 (Dj To (A0 1) EY (DC (A0 3))) (A3 (yP (A0 1) (gu AA)) A6))))))))
  (A5 (Ad (i:=5) bH.nd (AQ Eu (A0 5) (CW (A3 (AY (A0 4) (AQ CF (AY (A0 0) AA) AA)) (A3 (Ae i3 hr (A3 (Dj FA (A0 0) (DC AA) (DC (AQ FD AA (AQ CF (AY (A0 0) AA) AA)))) A6)) (A3 (AQ LF (AY (A0 4) (AQ CF (AQ GZ (AY (A0 0) AA) AA) AA)) (A0 2)) A6))))))
  (A5 (Ad (i:=5) bH.nd (AQ Eu (Dj FA (A0 5) (DC (AQ CF (AY (A0 0) AA) AA)) EY) (Dj FA (A0 5) EY (DC (AQ CF (AY (A0 0) AA) AA)))))
  (A5 (GJ HS rfl (M3 rfl eo (A3 AA A6)) (Aa (i:=6) bH.nd) (A5 (Ig (FZ Hv J3 IS Ih (A0 5) (A3 (Ae i3 hr (A3 (CW (A3 (AQ FD (AY (A0 0) AA) (AQ Mm AA (A0 6))) A6)) A6)) A6)))
  A7))
  (A5 (Ad (i:=7) bH.nd (CW A6))
  (A5 (GJ HS rfl (XN (A0 5)) (Aa (i:=8) bH.nd) (A5 (Aw (Ah (PW.pt (Wv (B0 EI (A0 8) AM) (Wv (Kh Ol (A0 8) (A0 7) (by with_unfolding_all rfl)) (Zd (B0 YF (Av DL rfl aG Bm (A3 (A0 7) A6)) AA))))) (A5 (Ig (FZ Hv J3 IS Ih (A0 7) (A3 (A0 8) A6)))
  A7) A7))
  A7))
  (A5 (AH (A0 7))
  A7))))))))))),?_⟩
 simp only[Ai];let⟨E7,Xm,_,SK⟩:=IT (ns:=ns) (j:=16) (by lia);let⟨r8,m8,_,x8⟩:=IT (ns:=ns) (j:=8) (by lia);let⟨r9,m9,_,x9⟩:=IT (ns:=ns) (j:=9) (by lia);let⟨Jo,Xl,_,SJ⟩:=IT (ns:=ns) (j:=17) (by lia);let⟨M4,Xk,_,QA⟩:=IT (ns:=ns) (j:=18) (by lia);let⟨Ci,Xj,_,SI⟩:=IT (ns:=ns) (j:=19) (by lia);have XF:0≤E7%7∧E7%7<7:=⟨DM _ (by decide),E5 _ (by decide)⟩;have XE:0≤Jo%5∧Jo%5<5:=⟨DM _ (by decide),E5 _ (by decide)⟩;left;exact BN ga SK ?_;left;exact Ψ2 a _ ⟨rfl,ga,λp1 cS=>?_⟩;rw[FE,Ln (by lia)];left;exact Ψ2 p1 _ ⟨rfl,B1,by rw[ET];lia,?_⟩;have ew:(wd (ns.take (1+E7%7).toNat)).length=(1+E7%7).toNat:=by rw[KP,ET];lia
 have lw:=Mh (ns.take (1+E7%7).toNat);generalize wd (ns.take (1+E7%7).toNat)=word at *
 have l1:Le Γ (A9 Γ p1 (.lst ((ns.take (1+E7%7).toNat).map T.int))):=.new cS;generalize A9 Γ p1 (.lst ((ns.take (1+E7%7).toNat).map T.int))=Γ1 at *
 left;exact Ψ2 a _ ⟨rfl,l1 _ _ ga,λp2 hU=>?_⟩;rw[FE,TG (by decide) (by decide)];left;exact Ψ2 p2 _ ⟨rfl,B1,by rw[ET];exact DA (Nat.min_le_left _ _) (by decide),?_⟩;have el:(wd ((ns.drop (Int.toNat 7)).take (Int.toNat 8-Int.toNat 7))).length=1:=by rw[KP,ET,Ff,nl];rfl
 have ll:=Mh ((ns.drop (Int.toNat 7)).take (Int.toNat 8-Int.toNat 7));generalize wd ((ns.drop (Int.toNat 7)).take (Int.toNat 8-Int.toNat 7))=we at *
 have l2:Le Γ (A9 Γ1 p2 (.lst (((ns.drop (Int.toNat 7)).take (Int.toNat 8-Int.toNat 7)).map T.int))):=l1.trans (.new hU);generalize A9 Γ1 p2 (.lst (((ns.drop (Int.toNat 7)).take (Int.toNat 8-Int.toNat 7)).map T.int))=Γ2 at *
 left;exact BN (l2 _ _ ga) x8 ?_;left;exact⟨word,rfl,CG (CJ (by lia)),?_⟩;exact K2 (by show(0:Int)<_;lia) ?_;have ba:0≤r8%(word.length:Int)∧r8%(word.length:Int)<(word.length:Int):=⟨DM _ (by lia),E5 _ (by lia)⟩;generalize r8%(word.length:Int)=at_ at *
 left;intro po UG;generalize R6:A9 _ po (O.lst _)=Γ3;have gO:=AZ R6;have l3:=Ab R6 UG
 have gO:Γ3 po=some (.lst (DF.map T.str)):=gO;left
 -- some,first part
 exact Kw ?_ ?_
 ·have:=CS;lia
 left;exact Kw ?_ ?_
 ·have:=CS;lia
 left;exact⟨CG (CJ (by lia)),λy1 Pk=>?_⟩;have c1:=TI Pk;have k1:=lw.cut Pk;have h1:=yZ ba.1 Pk;left;exact Kw ?_ ?_
 ·have:=CS;lia
 left;exact⟨CG (CJ (by lia)),λy2 Pj=>?_⟩;have c2:=TI Pj;have k2:=lw.cut Pj;have h2:y2.length≤word.length-(at_+1).toNat:=by
  rw[←Fb,Pj,J5 (by lia),Ff,Fb];exact Ar _
 left;exact Kw ?_ ?_
 ·have:=CS;rw[JX];lia
 left;exact⟨CG (CJ (by lia)),λy3 Rv=>?_⟩;have c3:=TI Rv;have k3:=lw.cut Rv;left;exact⟨rfl,word,rfl,CG (CJ (by lia)),λy4 c4 Ut=>?_⟩;have k4:Lets y4:=λc hc=>lw c (Ut c hc);left;intro p3 Ik;generalize Sd:A9 _ p3 (O.lst _)=Γ4;have gS:=AZ Sd;have l4:=Ab Sd Ik
 obtain⟨cs,gS,Jv,Rj⟩:∃cs:List Str,Γ4 p3=some (.lst (cs.map T.str))∧(∀z∈cs,Cd z)∧cs.length=6:=by
  exact⟨[_,_,_,_,_,_],gS,λz hz=>?_,rfl⟩;simp only[XO,CN,EP]at hz;rcases hz with rfl|rfl|rfl|rfl|rfl|rfl
  ·exact⟨lw,by lia⟩
  ·exact⟨lw.app ll,by rw[JX];lia⟩
  ·exact⟨ll.app lw,by rw[JX];lia⟩
  ·exact⟨(k1.app ll).app k2,by rw[JX,JX];lia⟩
  ·exact⟨k3,by lia⟩
  ·exact⟨k4,by lia⟩
 left;have Up:Le Γ2 Γ4:=l3.trans l4;have LG:Le Γ Γ4:=l2.trans Up;have RM:=l4 _ _ gO;exact BN (LG _ _ ga) x9 ?_;left;let⟨o1,UR,Um⟩:=Nz (xs:=DF.map T.str) (r:=r9%13) (DM _ (by decide)) (E5 _ (by decide));let⟨z1,Ug,rfl⟩:=X9.mp Um;exact BN RM UR ?_;left;exact BN (LG _ _ ga) SJ ?_;left;exact Ψ2 a _ ⟨rfl,LG _ _ ga,?_⟩;intro p5 UM;generalize Sb:A9 _ p5 (O.lst _)=Γ5;have g5:=AZ Sb;have l5:=Ab Sb UM
 rw[FE,TG (by decide) (by lia)]at g5;left;exact Ψ2 p5 _ ⟨rfl,g5,by rw[ET];have:=nl;lia,?_⟩;have e5:(wd ((ns.drop (Int.toNat 10)).take ((11+Jo%5).toNat-Int.toNat 10))).length≤5:=by rw[KP,ET];show min ((11+Jo%5).toNat-10) _≤5;lia
 have k5:=Mh ((ns.drop (Int.toNat 10)).take ((11+Jo%5).toNat-Int.toNat 10));generalize wd ((ns.drop (Int.toNat 10)).take ((11+Jo%5).toNat-Int.toNat 10))=y5 at *
 left;exact BN (l5 _ _ (LG _ _ ga)) x9 ?_;left;let⟨o2,Ni,Ul⟩:=Nz (xs:=DF.map T.str) (r:=r9/13%13) (DM _ (by decide)) (E5 _ (by decide));let⟨z2,Ue,rfl⟩:=X9.mp Ul;have Ws:=eU z1 Ug;have Wr:=eU z2 Ue;exact BN (l5 _ _ RM) Ni ?_;left;exact Kw ?_ ?_
 ·have:=CS;lia
 left;intro p6 UL;generalize Sa:A9 _ p6 (O.lst _)=Γ6;have g6:=AZ Sa;have l6:=Ab Sa UL
 have Rl:Le Γ4 Γ6:=l5.trans l6;obtain⟨ds,g6,IB,Rf⟩:∃ds:List Str,Γ6 p6=some (.lst (ds.map T.str))∧(∀z∈ds,Cd z)∧ds.length=3:=by
  exact⟨[_,_,_],g6,λz hz=>?_,rfl⟩;simp only[XO,CN,EP]at hz;rcases hz with rfl|rfl|rfl
  ·exact⟨Ws.1,by lia⟩
  ·exact⟨k5,by lia⟩
  ·exact⟨Wr.1.app ll,by rw[JX];lia⟩
 exact Ψ4 p3 p6 _ _ ⟨rfl,rfl,Rl _ _ gS,g6,CG (CJ (by rw[AV,AV,Rj,Rf];decide)),?_⟩;intro p7 UK;generalize R9:A9 _ p7 (O.lst _)=Γ7;have g7:=AZ R9;have l7:=Ab R9 UK
 rw[←Ao]at g7;have Nb:Le Γ Γ7:=LG.trans (Rl.trans l7);obtain⟨es,RC,Xg,g7⟩:∃es:List Str,(∀z∈es,Cd z)∧es.length=9∧Γ7 p7=some (.lst (es.map T.str)):=⟨cs++ds,λz hz=>(YE.mp hz).elim (Jv z) (IB z),by rw[Br,Rj,Rf],g7⟩;left;exact BN (Nb _ _ ga) QA ?_;left;have XD:0≤M4%9∧M4%9<9:=⟨DM _ (by decide),E5 _ (by decide)⟩;exact Ψ2 p7 _ ⟨rfl,g7,?_⟩;intro p8 UJ;generalize R8:A9 _ p8 (O.lst _)=Γ8;have g8:=AZ R8;have l8:=Ab R8 UJ
 rw[FE]at g8;left;exact BN (l8 _ _ (Nb _ _ ga)) QA ?_;left;exact Ψ2 p7 _ ⟨rfl,l8 _ _ g7,?_⟩;intro p9 UI;generalize R7:A9 _ p9 (O.lst _)=Γ9;have g9:=AZ R7;have l9:=Ab R7 UI
 rw[FE]at g9;have n8:=MU es (some (M4%9)) none;have n9:=MU es none (some (M4%9));exact Ψ4 p8 p9 _ _ ⟨rfl,rfl,l9 _ _ g8,g9,CG (CJ (by rw[AV,AV];lia)),?_⟩;intro rY LR;generalize Mf:A9 _ rY (O.lst _)=Γ10;have Jw:=AZ Mf;have Uq:=Ab Mf LR
 rw[←Ao]at Jw;have O5:Le Γ Γ10:=Nb.trans (l8.trans (l9.trans Uq));obtain⟨fs,UX,Xf,Jw⟩:∃fs:List Str,(∀z∈fs,Cd z)∧fs.length≤18∧Γ10 rY=some (.lst (fs.map T.str)):=⟨_,λz hz=>(YE.mp hz).elim (λh=>RC z (fJ h)) (λh=>RC z (fJ h)),by rw[Br];lia,Jw⟩;left;have bN:Γ rY=none:=by
  cases e:Γ rY with
  |none=>rfl
  |some o=>have:=(Nb.trans (l8.trans l9)) _ _ e;rw[LR]at this;cases this
 have na:a≠rY:=EZ ga bN;exact⟨26,rfl,by decide,by decide,?_⟩;exact⟨λv4 τ Γ'=>∃(i m:Nat) (o6:Option T),v4=Eg i m∧i+m=26∧τ=[some (.ref a),some (.str word),some (.str we),some (.int at_),some (.ref po),some (.ref rY),o6,none,none]∧Γ' rY=some (.lst ((fs++EX Ci i).map T.str))∧Kq [rY] Γ Γ',Ψ3 0 26 none ⟨rfl,rfl,rfl,by rw[show EX Ci 0=[]from rfl,Bt];exact Jw,O5.kq⟩,?_,?_⟩
 ·intro τ Γ'⟨i,m,o6,er,im,rfl,gL,kq⟩
  have hm:=Yv er;subst hm;have:i=26:=im;subst this;exact⟨trivial,?_⟩;left;intro pn Pq;generalize en:A9 _ pn (O.lst _)=Γn;have gn:=AZ en;have ln:=Ab en Pq
  have bn:Γ pn=none:=by
   by_cases e1:pn=rY
   ·rw[e1];exact bN
   ·cases e:Γ pn with
    |none=>rfl
    |some o=>have:=kq _ _ (by simpa using e1) e;rw[Pq]at this;cases this
  have ne:rY≠pn:=EZ gL Pq;left;exact Ψ2 rY _ ⟨rfl,Bk (ln _ _ gL),?_⟩;exact⟨λv4 τ Γ'=>∃(ds rs ss:List Str) (o8:Option T),v4=rs.map T.str∧fs++EX Ci 26=ds++rs∧τ=[some (.ref a),some (.str word),some (.str we),some (.int at_),some (.ref po),some (.ref rY),o6,some (.ref pn),o8]∧(∀z∈ss,Nm z)∧ss.Nodup∧ss.length≤9∧(ss.length=9∨∀z∈ds,z ≠ "" → z∈ss)∧Γ' pn=some (.lst (ss.map T.str))∧Γ' rY=some (.lst ((fs++EX Ci 26).map T.str))∧Kq [rY,pn] Γ Γ',Ψ4 [] _ [] none ⟨rfl,rfl,rfl,λ_ h=>(nomatch h),TO,by decide,.inr λ_ h=>(nomatch h),gn,ln _ _ gL,(kq.mono (by simp)).trans ln.kq⟩,?_,?_⟩
  ·intro τ Γ2⟨ds,rs,ss,o8,Ft,ed,rfl,nm,nd,s9,ux,gs,IJ,Jq⟩
   have UC:rs=[]:=by
    cases rs with
    |nil=>rfl
    |cons _ _=>cases Ft
   subst UC;rw[Bt]at ed;exact⟨Bk IJ,?_⟩;left;have e9:ss.length=9:=by
    rcases ux with h|h
    ·exact h
    ·exfalso
     have:=sub_len (l:=EX Ci 26) (m:=ss) (oy Ci) λz hz=>h z (by rw[←ed];exact CB _ hz) (aB hz).2;rw[c7]at this;lia
   exact⟨A9 Γ pn (.lst (ss.map T.str)),λb u g=>?_,q ss pn e9 nm nd bn⟩;by_cases e1:b=pn
   ·subst e1;rw[B1]at g;cases g;exact gs
   ·rw[Bz e1]at g
    by_cases e2:b=rY
    ·subst e2;rw[bN]at g;cases g
    ·exact Jq b u (by simp[e1,e2]) g
  ·intro x rr τ Γ2⟨ds,rs,ss,o8,Ft,ed,rfl,nm,nd,s9,ux,gs,IJ,Jq⟩
   cases rs with
   |nil=>cases Ft
   |cons z rs=>
    cases Ft;have cz:Cd z:=by
     have:z∈fs++EX Ci 26:=by rw[ed];simp
     rcases YE.mp this with h|h
     ·exact UX z h
     ·exact(aB h).1
    exact⟨Bk IJ,?_⟩;left;exact⟨λτ Γ'=>∃(ss:List Str),τ=[some (.ref a),some (.str word),some (.str we),some (.int at_),some (.ref po),some (.ref rY),o6,some (.ref pn),some (.str z)]∧(∀z∈ss,Nm z)∧ss.Nodup∧ss.length≤9∧(ss.length=9∨∀y∈ds++[z],y ≠ "" → y∈ss)∧Γ' pn=some (.lst (ss.map T.str))∧Γ' rY=some (.lst ((fs++EX Ci 26).map T.str))∧Kq [rY,pn] Γ Γ',?_,?_⟩
    ·left
     have same:(z = "" ∨ z∈ss∨ss.length=9)→ss.length=9∨∀y∈ds++[z],y ≠ "" → y∈ss:=λh=>by
      rcases ux with h9|ha
      ·exact .inl h9
      rcases h with h|h|h
      ·exact .inr λy hy ny=>?_
       rcases YE.mp hy with hy|hy
       ·exact ha y hy ny
       ·rw[Yu.mp hy]at ny;exact absurd h ny
      ·exact .inr λy hy ny=>?_
       rcases YE.mp hy with hy|hy
       ·exact ha y hy ny
       ·rw[Yu.mp hy];exact h
      ·exact .inl h
     exact AW (λc1=>?_) (λc1=>?_)
     ·have c1:z ≠ "" := λe=>by rw[e]at c1;simp at c1
      left;exact aI gs rfl (Om ss) rfl (t4 ss) ?_;show ∃k,T.bl (!DK (.str z) (ss.map V.str))=.bl k∧_
      rw[IW];left;exact AW (λc2=>?_) (λc2=>?_)
      ·have c2:z∉ss:=by simpa using c2
       left;exact Za gs ?_;rw[AV];left;exact AW (λc3=>?_) (λc3=>?_)
       ·have c3:=Ej c3
        left;exact X5 gs ?_;left;exact Ψ3 pn _ _ ⟨rfl,rfl,gs,CJ (by rw[AV];lia),?_⟩;left;exact⟨ss++[z],rfl,λy hy=>?_,?_,by rw[Br];show ss.length+1≤9;lia,?_,by rw[Ao];exact B1,by rw[Bz ne];exact IJ,Jq.trans (.set (by simp) _)⟩
        ·rcases YE.mp hy with hy|hy
         ·exact nm y hy
         ·rw[Yu.mp hy];exact cz.nm c1
        ·rw[YY]
         exact⟨nd,by simp,λx hx y hy e=>c2 ?_⟩;rw[Yu]at hy;rw[←hy,←e];exact hx
        ·rcases ux with h9|ha
         ·lia
         ·exact .inr λy hy ny=>?_
          rcases YE.mp hy with hy|hy
          ·exact KO _ (ha y hy ny)
          ·exact CB _ hy
       ·have c3:=FX c3
        left;exact⟨ss,rfl,nm,nd,s9,same (.inr (.inr (by lia))),gs,IJ,Jq⟩
      ·have c2:z∈ss:=by simpa using c2
       left;exact⟨ss,rfl,nm,nd,s9,same (.inr (.inl c2)),gs,IJ,Jq⟩
     ·have c1:z = "" := by simpa using c1
      left;exact⟨ss,rfl,nm,nd,s9,same (.inl c1),gs,IJ,Jq⟩
    intro τ Γ3⟨Tr,rfl,T8,Ub,Tx,L7,U7,Vd,Ur⟩;left;exact Ψ4 (ds++[z]) rs Tr _ ⟨rfl,by rw[ed];simp,rfl,T8,Ub,Tx,L7,U7,Vd,Ur⟩
 ·intro x rr τ Γ'⟨i,m,o6,er,im,rfl,gL,kq⟩
  let⟨m',rfl,rfl,rfl⟩:=Mn er;have RL:=kq _ _ (by simpa using na) ga;left;exact X5 gL ?_;left;exact BN RL SI ?_;left;intro Q5 Pu;generalize Sk:A9 _ Q5 (O.lst _)=Γa;have P4:=AZ Sk;have Rm:=Ab Sk Pu
  left;exact Ψ2 Q5 [Ci+7*(i:Int)] ⟨rfl,P4,by show 1≤1000;decide,?_⟩;left;exact Ψ3 rY _ _ ⟨rfl,rfl,Rm _ _ gL,CJ (by rw[AV,Br,c7];lia),?_⟩;left;exact Ψ3 (i+1) m' _ ⟨rfl,by lia,rfl,?_,(kq.trans Rm.kq).trans (.set (by simp) _)⟩;rw[B1,yV,←G3,Ao (l₁:=fs++EX Ci i)];rfl
end
def KN(c:Int):Bool:=decide (32≤c)&&decide (c≤126)&&!decide (c=37)
def ff(w:Int):T→Bool
 |.int i=>decide (-((65536:Int)^w.toNat)≤2*i)&&decide (2*i≤(65536:Int)^w.toNat-2)
 |_=>false
def eG:T→Bool
 |.str z=>decide (z.length≤60)&&z.cps.toList.all λc=>KN (c:Nat)
 |_=>false
mutual
def Bp:Kd→T→Bool
 |.num w,t=>ff w t
 |.text,t=>eG t
 |.row k,.tup ts=>decide (ts.length≤60)&&ts.all (Bp k)
 |.rec_ fs,.tup ts=>decide (ts.length=fs.length)&&IZ fs ts
 |.pick fs,.tup [.str n,x]=>Hd fs n x
 |_,_=>false
def IZ:List (Str×Kd)→List T→Bool
 |(_,k)::fs,t::ts=>Bp k t&&IZ fs ts
 |_,_=>true
def Hd:List (Str×Kd)→Str→T→Bool
 |(m,k)::fs,n,x=>(decide (m=n)&&Bp k x)||Hd fs n x
 |[],_,_=>false
end
section
variable {K: W.Frag}{v3: Value}
abbrev XU:Stmt:=Au 28
theorem qO:Ak ["number"] ["number"] (AX XU):=⟨rfl,rfl,rfl,by decide +kernel,rfl,by decide +kernel,by decide +kernel⟩
def aN:Am:=λts Γ Z _=>∃c:Int,ts=[.int c]∧Z (.bl (KN c)) Γ
theorem oX(F:cP K "is_sign" "is_sign" XU f fd)(iY:mg "FIRST_SIGN" = some v1)(sM:Ca v1 (.int 32))(jK:mg "LAST_SIGN" = some v2)(uz:Ca v2 (.int 126))(fC:mg "HUNDREDTH_SIGN" = some v3)(nt:Ca v3 (.int 37)):a8 P w K mg am Ag 1 f fd ["number"] (Af aN):=by
 exact As F qO (λts Γ Z Y h=>?_) (λcn A outer s H E ts Γ Z Y hr h=>?_)
 ·let⟨t,rfl,_⟩:=h
  rfl
 let⟨c,rfl,q⟩:=h;exact⟨_,(A5 (AH (CK (NI F4 F4 (Ds rfl iY sM) (A0 0) (Ds rfl jK uz)) (CA (Dh EI (A0 0) (Ds rfl fC nt)))))
  A7),?_⟩
 simp only[Ai];unfold KN at q;left;exact AW (λc1=>?_) (λc1=>?_);rotate_left
 ·rw[c1]at q
  left;exact AB .refl q
 rw[c1,BA]at q;left;exact AW (λc2=>?_) (λc2=>?_);rotate_left
 ·rw[c2]at q
  exact AB .refl q
 rw[c2,BA]at q;left;exact AB .refl ?_;rw[show decide (V.int c=V.int 37)=decide (c=37)from Zk.mpr ⟨V.int.inj,λe=>by rw[e]⟩];exact q
abbrev Ye:Stmt:=Au 26
theorem gh:Ak ["width","thing","numbers","word"] ["width","thing"] (AX Ye):=⟨rfl,rfl,rfl,by decide +kernel,rfl,by decide +kernel,by decide +kernel⟩
def YB:Am:=λts Γ Z _=>∃(wd:Int) (t:T),ts=[.int wd,t]∧0≤wd∧wd≤4∧Pt Γ t∧Z (.bl (ff wd t)) Γ
theorem zK(F:cP K "is_number" "is_number" Ye f fd)(bK:AU P w K mg am "is_whole" 1 ["thing"] Gw)(gM:mg "WORD_NUMBERS" = some v1)(qh:Ca v1 (.int 65536))(eo:mg "range" = none):a8 P w K mg am Ag 2 f fd ["width","thing"] (Af YB):=by
 exact As F gh (λts Γ Z Y h=>?_) (λcn A outer s H E ts Γ Z Y hr h=>?_)
 ·let⟨wd,t,rfl,_⟩:=h
  rfl
 let⟨wd,t,rfl,w0,w4,pt,q⟩:=h;exact⟨_,(A5 (Ah (B5 (B7 (Ae bK hr (A3 (A0 1) A6)))) (A5 (AH B4)
  A7) A7)
  (A5 (Ad (i:=2) gh.nd AA)
  (A5 (GJ HS rfl (M3 rfl eo (A3 (A0 0) A6)) (Aa (i:=3) gh.nd) (A5 (oQ (i:=2) gh.nd rfl (Or.inl rfl) (Ds rfl gM qh) vV)
  A7))
  (A5 (AH (NI F4 F4 (gu (A0 2)) (AQ Mm AA (A0 1)) (AQ ON (A0 2) AA)))
  A7)))),?_⟩
 simp only[Ai];left;exact⟨t,rfl,pt,?_⟩;left;exact AW (λc=>?_) (λc=>?_)
 ·left
  exact AB .refl ?_;cases t with
  |int i=>cases c
  |_=>exact q
 let⟨i,rfl⟩:=YZ (t:=t) (by simpa using c);left;exact⟨wd,rfl,by lia,by lia,?_⟩;exact⟨λv4 τ Γ'=>∃(j n:Nat) (o:Option T),v4=Eg j n∧j+n=wd.toNat∧τ=[some (.int wd),some (.int i),some (.int (65536^j)),o]∧Γ'=Γ,Ψ3 0 wd.toNat none ⟨by simp,by simp,rfl,rfl⟩,?_,?_⟩
 ·intro τ Γ'⟨j,n,o,er,e,rfl,rfl⟩
  have:=Yv er;subst this;exact⟨trivial,?_⟩;have ej:j=wd.toNat:=by lia
  subst ej;have q:Z (.bl (decide (-((65536:Int)^wd.toNat)≤2*i)&&decide (2*i≤(65536:Int)^wd.toNat-2))) Γ':=q;left;exact AW (λc1=>?_) (λc1=>?_)
  ·rw[c1,BA]at q
   left;exact AB .refl q
  ·rw[c1]at q
   exact AB .refl q
 ·intro x r τ Γ'⟨j,n,o,er,e,rfl,rfl⟩
  let⟨m,rfl,rfl,rfl⟩:=Mn er;left;exact⟨.int (65536^j),rfl,?_⟩;left;exact Ψ3 (j+1) m _ ⟨rfl,by lia,rfl,rfl⟩
abbrev YA:Stmt:=Au 27
theorem l0:Ak ["thing"] ["thing"] (AX YA):=⟨rfl,rfl,rfl,by decide +kernel,rfl,by decide +kernel,by decide +kernel⟩
def XK:Am:=λts Γ Z _=>∃t:T,ts=[t]∧Pt Γ t∧Z (.bl (eG t)) Γ
theorem ow(F:cP K "is_text" "is_text" YA f fd)(zd:AU P w K mg am "is_sign" 1 ["number"] aN)(iX:mg "MOST_SIGNS" = some v1)(sL:Ca v1 (.int 60))(ah:mg "isinstance" = none)(cE:mg "str" = none)(aG:mg "len" = none)(bc:mg "all" = none)(zu:mg "ord" = none):a8 P w K mg am Ag 2 f fd ["thing"] (Af XK):=by
 exact As F l0 (λts Γ Z Y h=>?_) (λcn A outer s H E ts Γ Z Y hr h=>?_)
 ·let⟨t,rfl,_⟩:=h
  rfl
 let⟨t,rfl,pt,q⟩:=h;exact⟨_,(A5 (Ah (PW.pt (CQ (B5 (B7 (CR rfl ah rfl cE IV (A0 0)))) (DJ (B0 YT (Av Y7 rfl aG Bm (A3 (A0 0) A6)) (Ds rfl iX sL))))) (A5 (AH B4)
  A7) A7)
  (A5 (AH (Av (F5 rfl) rfl bc F6 (A3 (EB (own:=["sign"]) (cap:=[]) Ez rfl (fz (A0 0)) (λ_ _ _ _=>Hr) (λ_ _ _ _=>EH) (λ_ _ _ _=>(Ae zd hr (A3 (Av (nA) rfl zu PyProof.Rows.boot_ord (A3 (A0 0) A6)) A6)))) A6)))
  A7)),?_⟩
 simp only[Ai];left;exact E2 (in_str pt) ?_;left;exact AW (λc=>?_) (λc=>?_)
 ·left
  exact AB .refl ?_;cases t with
  |str z=>cases c
  |_=>exact q
 let⟨z,rfl⟩:=Ki (t:=t) (by simpa using c);have zl:=pt.txt;have q:Z (.bl (decide (z.length≤60)&&z.cps.toList.all λc=>KN (c:Nat))) Γ:=q;left;exact⟨z,rfl,DA zl (by decide),?_⟩;left;exact AW (λc1=>?_) (λc1=>?_)
 ·have c1:=Ej c1
  left;rw[Du (show ¬z.length≤60 by lia),Dw]at q;exact AB .refl q
 have c1:=FX c1;rw[CI (show z.length≤60 by lia),BA]at q;left;exact⟨CG (CJ (by unfold Gy;rw[AV,Fb];lia)),?_⟩;exact⟨λv4 τ ys Γ'=>∃(cs ds:List Nat) (o:Option T),v4=cs.map (λc=>T.str ⟨#[c]⟩)∧z.cps.toList=ds++cs∧τ=[o]∧ys=(ds.map λc=>KN (c:Nat)).map T.bl∧Γ'=Γ,Ψ3 z.cps.toList [] none ⟨rfl,rfl,rfl,rfl,rfl⟩,?_,?_⟩
 ·intro τ ys Γ'⟨cs,ds,o,er,ez,rfl,rfl,rfl⟩
  have hz:cs=[]:=by
   cases cs with
   |nil=>rfl
   |cons _ _=>cases er
  subst hz;rw[Bt]at ez;subst ez;exact⟨trivial,?_⟩;intro p1 cS;generalize e1:A9 _ p1 (O.lst _)=Γ1;have g1:=AZ e1;have l1:=Ab e1 cS
  left;exact Ψ2 p1 _ ⟨rfl,Bk g1,?_⟩;rw[FC];exact AB l1 q
 ·intro x r τ ys Γ'⟨cs,ds,o,er,ez,rfl,rfl,rfl⟩
  cases cs with
  |nil=>cases er
  |cons c cs=>
   cases er;exact⟨trivial,?_⟩;left;exact⟨_,rfl,rfl,?_⟩;left;exact⟨_,rfl,?_⟩;exact Ψ3 cs (ds++[c]) _ ⟨rfl,by rw[ez];simp,rfl,by rw[Ao,Ao];rfl,rfl⟩
abbrev Mr:Stmt:=Au 25
theorem nI:Ak ["kind","thing","head"] ["kind","thing"] (AX Mr):=⟨rfl,rfl,rfl,by decide +kernel,rfl,by decide +kernel,by decide +kernel⟩
def HY(n:Nat):Am:=λts Γ Z _=>∃(k:Kd) (t:T),ts=[k.tr,t]∧k.good∧k.depth<n∧Pt Γ t∧Z (.bl (Bp k t)) Γ
abbrev OO:Stmt:=Au 29
theorem vG:Ak ["fields","parts"] ["fields","parts"] (AX OO):=⟨rfl,rfl,rfl,by decide +kernel,rfl,by decide +kernel,by decide +kernel⟩
def YQ(n:Nat):Am:=λts Γ Z _=>∃(fs:ad) (us:List T),ts=[.tup (D7 fs),.tup us]∧FK fs∧fs.length≤6∧G9 fs<n∧Pt Γ (.tup us)∧Z (.bl (decide (us.length=fs.length)&&IZ fs us)) Γ
theorem Rr:∀{fs:List (Str×Kd)} {p:Str×Kd},FK fs→p∈fs→p.2.good
 |(n,k)::r,p,h,hp=>by
  unfold FK at h;rcases XO.mp hp with rfl|hp
  ·exact h.2.1
  ·exact Rr h.2.2 hp
theorem Loc(F:cP K "is_record" "is_record" OO f fd)(cp:AU P w K mg am "is_worth" (lv+1) ["kind","thing"] (HY n))(aG:mg "len" = none)(bc:mg "all" = none)(fo:mg "zip" = none):a8 P w K mg am Ag (lv+2) f fd ["fields","parts"] (Af (YQ n)):=by
 exact As F vG (λts Γ Z Y h=>?_) (λcn A outer s H E ts Γ Z Y hr h=>?_)
 ·let⟨fs,us,rfl,_⟩:=h
  rfl
 let⟨fs,us,rfl,gf,f6,df,pt,q⟩:=h;exact⟨_,(A5 (Ah (B0 EI (Av DL rfl aG Bm (A3 (A0 1) A6)) (Av DL rfl aG Bm (A3 (A0 0) A6))) (A5 (AH B4)
  A7) A7)
  (A5 (AH (Av (F5 rfl) rfl bc F6 (A3 (EB (own:=["name","inner","part"]) (cap:=[]) Ez rfl (eR rfl fo (A3 (A0 0) (A3 (A0 1) A6))) (λ_ _ _ _=>(Be (n:=2) rfl (AL (Be (n:=2) rfl (AL (BM (i:=0) (show List.Nodup (["name","inner","part"]:List Str)from by decide +kernel) rfl (Or.inl rfl) (Or.inr rfl)) (AL (BM (i:=1) (show List.Nodup (["name","inner","part"]:List Str)from by decide +kernel) rfl (Or.inl rfl) (Or.inr rfl)) Bd))) (AL (BM (i:=2) (show List.Nodup (["name","inner","part"]:List Str)from by decide +kernel) rfl (Or.inl rfl) (Or.inr rfl)) Bd)))) (λ_ _ _ _=>EH) (λ_ _ _ _=>(Ae cp hr (A3 (A0 1) (A3 (A0 2) A6))))) A6)))
  A7)),?_⟩
 simp only[Ai];let⟨tl,tm⟩:=pt.items;left;rw[J8];exact AW (λc=>?_) (λc=>?_)
 ·have c:us.length≠fs.length:=λe=>by rw[e]at c;simp at c
  left;rw[Du c]at q;exact AB .refl q
 have c:us.length=fs.length:=by
  have:decide (V.int (us.length:Int)=V.int (fs.length:Nat))=true:=by simpa using c
  have:=JY this;lia
 rw[CI c,BA]at q;left;exact⟨CG (CJ (by rw[Iy,J8];lia)),?_⟩;exact⟨λv4 τ ys Γ'=>∃(gs:ad) (vs:List T) (bs:List Bool) (o1 o2 o3:Option T),v4=E6 (D7 gs) vs∧(∀p∈gs,p∈fs)∧(∀t∈vs,t∈us)∧gs.length=vs.length∧τ=[o1,o2,o3]∧ys=bs.map T.bl∧IZ fs us=(bs.all id&&IZ gs vs)∧Γ'=Γ,Ψ6 fs us [] none none none ⟨rfl,λ_ h=>h,λ_ h=>h,c.symm,rfl,rfl,by simp,rfl⟩,?_,?_⟩
 ·intro τ ys Γ'⟨gs,vs,bs,o1,o2,o3,er,_,_,el,rfl,rfl,e,rfl⟩
  have hz:gs=[]:=by
   cases gs with
   |nil=>rfl
   |cons p gs=>
    cases vs with
    |nil=>cases el
    |cons t vs=>cases er
  subst hz;exact⟨trivial,?_⟩;intro p1 cS;generalize e1:A9 _ p1 (O.lst _)=Γ1;have g1:=AZ e1;have l1:=Ab e1 cS
  left;exact Ψ2 p1 bs ⟨rfl,Bk g1,?_⟩;rw[e]at q;unfold IZ at q;rw[GQ]at q;exact AB l1 q
 ·intro x r τ ys Γ'⟨gs,vs,bs,o1,o2,o3,er,hg,hv,el,rfl,rfl,e,rfl⟩
  cases gs with
  |nil=>cases er
  |cons p gs=>
   cases vs with
   |nil=>cases el
   |cons t vs=>
    obtain⟨nm,k⟩:=p;cases er;exact⟨trivial,?_⟩;left;exact Ψ2 k t ⟨rfl,Rr (p:=(nm,k)) gf (hg (nm,k) (by simp)),C3 (Km (p:=(nm,k)) (hg (nm,k) (by simp))) df,tm t (hv t (by simp)),?_⟩;exact Ψ6 gs vs (bs++[Bp k t]) _ _ _ ⟨rfl,λp h=>hg p (Dz _ h),λp h=>hv p (Dz _ h),by simpa using el,rfl,by simp,?_,rfl⟩;rw[e,IZ,X0];simp[P2]
abbrev MM:Stmt:=Au 30
theorem uf:Ak ["fields","pair"] ["fields","pair"] (AX MM):=⟨rfl,rfl,rfl,by decide +kernel,rfl,by decide +kernel,by decide +kernel⟩
def S1(n:Nat):Am:=λts Γ Z _=>∃(fs:ad) (us:List T),ts=[.tup (D7 fs),.tup us]∧FK fs∧fs.length≤6∧G9 fs<n∧Pt Γ (.tup us)∧Z (.bl (Bp (.pick fs) (.tup us))) Γ
theorem sZ:∀{us:List T},us.length≠2→Bp (.pick fs) (.tup us)=false
 |[],_=>by unfold Bp;rfl
 |[a],_=>by cases a<;>(unfold Bp;rfl)
 |[a,b],h=>absurd rfl h
 |a::b::c::r,_=>by cases a<;>(unfold Bp;rfl)
theorem yk{a:T}(h:isStr a=false):Bp (.pick fs) (.tup [a,b])=false:=by
 cases a with
 |str z=>cases h
 |_=>unfold Bp;rfl
theorem iy:Bp (.pick fs) (.tup [.str z,b])=Hd fs z b:=by rw[Bp]
theorem wu(F:cP K "is_choice" "is_choice" MM f fd)(cp:AU P w K mg am "is_worth" (lv+1) ["kind","thing"] (HY n))(aG:mg "len" = none)(lI:mg "any" = none)(ah:mg "isinstance" = none)(cE:mg "str" = none):a8 P w K mg am Ag (lv+2) f fd ["fields","pair"] (Af (S1 n)):=by
 exact As F uf (λts Γ Z Y h=>?_) (λcn A outer s H E ts Γ Z Y hr h=>?_)
 ·let⟨fs,us,rfl,_⟩:=h
  rfl
 let⟨fs,us,rfl,gf,f6,df,pt,q⟩:=h;exact⟨_,(A5 (Ah (PW.pt (CQ (B0 EI (Av DL rfl aG Bm (A3 (A0 1) A6)) AA) (DJ (B5 (B7 (CR rfl ah rfl cE IV (AY (A0 1) AA))))))) (A5 (AH B4)
  A7) A7)
  (A5 (AH (Av (Yp rfl) rfl lI PyProof.Rows.boot_any (A3 (EB (own:=["name","inner"]) (cap:=[(1,"pair")]) (Gb rfl (by decide +kernel) (by decide +kernel) rfl (⟨rfl,trivial⟩) rfl (⟨⟨rfl,rfl,rfl⟩,trivial⟩)) rfl (Dc (A0 0)) (λ_ _ _ _=>(Be (n:=2) rfl (AL (BM (i:=0) (show List.Nodup (["name","inner","pair"]:List Str)from by decide +kernel) rfl (Or.inl rfl) (Or.inr rfl)) (AL (BM (i:=1) (show List.Nodup (["name","inner","pair"]:List Str)from by decide +kernel) rfl (Or.inl rfl) (Or.inr rfl)) Bd)))) (λ_ _ _ _=>EH) (λ_ _ _ _=>(CK (Dh CT (A0 0) (AY (A0 2) AA)) (CA (Ae cp hr (A3 (A0 1) (A3 (AY (A0 2) AA) A6))))))) A6)))
  A7)),?_⟩
 simp only[Ai];let⟨tl,tm⟩:=pt.items;left;exact AW (λc=>?_) (λc=>?_)
 ·have c:us.length≠2:=λe=>by rw[e]at c;revert c;decide
  left;rw[sZ c]at q;exact AB .refl q
 have c:us.length=2:=by
  have:decide (V.int (us.length:Int)=V.int 2)=true:=by simpa using c
  have:=JY this;lia
 match us,c with
 |[a,b],_=>
  left;exact E2 (in_str (tm a (by simp))) ?_;left;exact AW (λc1=>?_) (λc1=>?_)
  ·left
   rw[yk (by simpa using c1)]at q;exact AB .refl q
  let⟨z,rfl⟩:=Ki (t:=a) (by simpa using c1);rw[iy]at q;left;exact⟨CG (CJ (by rw[J8];lia)),?_⟩;exact⟨λv4 τ ys Γ'=>∃(gs:List (Str×Kd)) (bs:List Bool) (o1 o2:Option T),v4=D7 gs∧(∀p∈gs,p∈fs)∧τ=[o1,o2,some (.tup [.str z,b])]∧ys=bs.map T.bl∧Hd fs z b=(bs.any id||Hd gs z b)∧Γ'=Γ,Ψ4 fs [] none none ⟨rfl,λ_ h=>h,rfl,rfl,by simp,rfl⟩,?_,?_⟩
  ·intro τ ys Γ'⟨gs,bs,o1,o2,er,_,rfl,rfl,e,rfl⟩
   have hz:gs=[]:=by
    cases gs with
    |nil=>rfl
    |cons p gs=>cases er
   subst hz;exact⟨trivial,?_⟩;intro p1 cS;generalize e1:A9 _ p1 (O.lst _)=Γ1;have g1:=AZ e1;have l1:=Ab e1 cS
   left;exact Ψ2 p1 bs ⟨rfl,Bk g1,?_⟩;rw[e]at q;unfold Hd at q;rw[Bool.or_false]at q;exact AB l1 q
  ·intro x r τ ys Γ'⟨gs,bs,o1,o2,er,hg,rfl,rfl,e,rfl⟩
   cases gs with
   |nil=>cases er
   |cons p gs=>
    obtain⟨nm,k⟩:=p;cases er;exact⟨trivial,?_⟩;left;have Wn:decide (V.str nm=V.str z)=decide (nm=z):=Zk.mpr ⟨V.str.inj,λe=>by rw[e]⟩;rw[Wn];exact AW (λc2=>?_) (λc2=>?_)
    ·left
     exact Ψ2 k b ⟨rfl,Rr (p:=(nm,k)) gf (hg (nm,k) (by simp)),C3 (Km (p:=(nm,k)) (hg (nm,k) (by simp))) df,tm b (by simp),?_⟩;exact Ψ4 gs (bs++[Bp k b]) _ _ ⟨rfl,λp h=>hg p (Dz _ h),rfl,by simp,?_,rfl⟩;rw[e,Hd,List.any_append,c2];simp[Bool.or_assoc]
    ·exact Ψ4 gs (bs++[false]) _ _ ⟨rfl,λp h=>hg p (Dz _ h),rfl,by simp,?_,rfl⟩
     rw[e,Hd,List.any_append,c2];simp
theorem tL(F:cP K "is_worth" "is_worth" Mr f fd)(ik:AU P w K mg am "is_number" 2 ["width","thing"] YB)(ku:AU P w K mg am "is_text" 2 ["thing"] XK)(cp:AU P w K mg am "is_worth" (lv+1) ["kind","thing"] (HY n))(uP:AU P w K mg am "is_record" (lv+2) ["fields","parts"] (YQ n))(uQ:AU P w K mg am "is_choice" (lv+2) ["fields","pair"] (S1 n))(cv:mg "MOST_ITEMS" = some v1)(dM:Ca v1 (.int 60))(ah:mg "isinstance" = none)(aC:mg "tuple" = none)(aG:mg "len" = none)(bc:mg "all" = none):a8 P w K mg am Ag (lv+3) f fd ["kind","thing"] (Af (HY (n+1))):=by
 exact As F nI (λts Γ Z Y h=>?_) (λcn A outer s H E ts Γ Z Y hr h=>?_)
 ·let⟨k,t,rfl,_⟩:=h
  rfl
 let⟨k,t,rfl,kg,kd,pt,q⟩:=h;exact⟨_,(A5 (Ad (i:=2) nI.nd (AY (A0 0) AA))
  (A5 (Ah (B0 CT (A0 2) AM) (A5 (AH (Ae ik hr (A3 (AY (A0 0) AA) (A3 (A0 1) A6))))
  A7) A7)
  (A5 (Ah (B0 CT (A0 2) AM) (A5 (AH (Ae ku hr (A3 (A0 1) A6)))
  A7) A7)
  (A5 (Ah (B5 (B7 (CR rfl ah rfl aC Dm (A0 1)))) (A5 (AH B4)
  A7) A7)
  (A5 (Ah (B0 CT (A0 2) AM) (A5 (AH (CK (Dh F4 (Av DL rfl aG Bm (A3 (A0 1) A6)) (Ds rfl cv dM)) (CA (Av (F5 rfl) rfl bc F6 (A3 (EB (own:=["item"]) (cap:=[(0,"kind")]) (Gb rfl (by decide +kernel) (by decide +kernel) rfl (⟨rfl,trivial⟩) rfl (⟨⟨rfl,rfl,rfl⟩,trivial⟩)) rfl (Dc (A0 1)) (λ_ _ _ _=>(BM (i:=0) (show List.Nodup (["item","kind"]:List Str)from by decide +kernel) rfl (Or.inl rfl) (Or.inr rfl))) (λ_ _ _ _=>EH) (λ_ _ _ _=>(Ae cp hr (A3 (AY (A0 1) AA) (A3 (A0 0) A6))))) A6)))))
  A7) A7)
  (A5 (Ah (B0 CT (A0 2) AM) (A5 (AH (Ae uP hr (A3 (AY (A0 0) AA) (A3 (A0 1) A6))))
  A7) A7)
  (A5 (AH (Ae uQ hr (A3 (AY (A0 0) AA) (A3 (A0 1) A6))))
  A7))))))),?_⟩
 simp only[Ai];cases k with
 |num wd=>
  rw[Kd.tr];unfold Kd.good at kg;left;exact Ψ2 wd t ⟨rfl,by lia,by lia,pt,AB .refl (by unfold Bp at q;exact q)⟩
 |text=>
  rw[Kd.tr];left;exact⟨t,rfl,pt,AB .refl (by unfold Bp at q;exact q)⟩
 |row k=>
  rw[Kd.tr];unfold Kd.good at kg;unfold Kd.depth at kd;left;exact E2 (Gg pt) ?_;left;exact AW (λc=>?_) (λc=>?_)
  ·left
   exact AB .refl ?_;cases t with
   |tup ts=>cases c
   |_=>unfold Bp at q;exact q
  let⟨ts,rfl⟩:=HJ (t:=t) (by simpa using c);let⟨tl,tm⟩:=pt.items;rw[Bp]at q;left;exact AW (λc1=>?_) (λc1=>?_);rotate_left
  ·have c1:=FX c1
   rw[Du (show ¬ts.length≤60 by lia)]at q;exact AB .refl q
  have c1:=Ej c1;rw[CI (show ts.length≤60 by lia),BA]at q;left;exact⟨CG (CJ (by lia)),?_⟩;exact⟨λv4 τ ys Γ'=>∃(ds:List T) (o:Option T),ts=ds++v4∧τ=[o,some (.tup [.str "row",k.tr])]∧ys=(ds.map (Bp k)).map T.bl∧Γ'=Γ,Ψ2 [] none ⟨rfl,rfl,rfl,rfl⟩,?_,?_⟩;rotate_left
  ·intro x r τ ys Γ'⟨ds,o,ez,rfl,rfl,rfl⟩
   exact⟨trivial,?_⟩;left;exact Ψ2 k x ⟨rfl,kg,by lia,tm x (by rw[ez];simp),?_⟩;exact Ψ2 (ds++[x]) _ ⟨by rw[ez];simp,rfl,by rw[Ao,Ao];rfl,rfl⟩
  intro τ ys Γ'⟨ds,o,ez,rfl,rfl,rfl⟩;rw[Bt]at ez;subst ez;exact⟨trivial,?_⟩;intro p1 cS;generalize e1:A9 _ p1 (O.lst _)=Γ1;have g1:=AZ e1;have l1:=Ab e1 cS
  left;exact Ψ2 p1 _ ⟨rfl,Bk g1,?_⟩;rw[FC];exact AB l1 q
 |rec_ fs=>
  rw[Kd.tr];unfold Kd.good at kg;unfold Kd.depth at kd;left;exact E2 (Gg pt) ?_;left;exact AW (λc=>?_) (λc=>?_)
  ·left
   exact AB .refl ?_;cases t with
   |tup ts=>cases c
   |_=>unfold Bp at q;exact q
  let⟨ts,rfl⟩:=HJ (t:=t) (by simpa using c);rw[Bp]at q;left;exact Ψ2 fs ts ⟨rfl,kg.1,kg.2.2.1,by lia,pt,AB .refl q⟩
 |pick fs=>
  rw[Kd.tr];unfold Kd.good at kg;unfold Kd.depth at kd;left;exact E2 (Gg pt) ?_;left;exact AW (λc=>?_) (λc=>?_)
  ·left
   exact AB .refl ?_;cases t with
   |tup ts=>cases c
   |_=>unfold Bp at q;exact q
  let⟨ts,rfl⟩:=HJ (t:=t) (by simpa using c);left;exact Ψ2 fs ts ⟨rfl,kg.1,kg.2.2.1,by lia,pt,AB .refl q⟩
end
theorem rl{α:Type}(o:Option (Nat×α))(i:Nat):(o.map λp=>(p.1+1,p.2)).map (λp=>(p.1+i,p.2))=o.map λp=>(p.1+(i+1),p.2):=by
 cases o with
 |none=>rfl
 |some p=>show some (p.1+1+i,p.2)=some (p.1+(i+1),p.2);congr 2;lia
section
variable {K: W.Frag}{dN: Addr}
abbrev Sp:Stmt:=Au 18
theorem eO:Ak ["kind","name","place","other","inner"] ["kind","name"] (AX Sp):=⟨rfl,rfl,rfl,by decide +kernel,rfl,by decide +kernel,by decide +kernel⟩
def bg(D:Addr):Am:=λts Γ Z Y=>∃(hd:Str) (fs:ad) (x:T),ts=[.tup [.str hd,.tup (D7 fs)],x]∧Sx x∧(∀j k,ES fs x=some (j,k)→Z (.int j) Γ)∧(ES fs x=none→Y (.ref D) Γ)
theorem lu(F:cP K "field_place" "field_place" Sp f fd)(ee:mg "NoPart" = some (.ref dN))(lJ:W.excIn K dN [.type "ValueError",.type "Exception",.type "BaseException",.type "object"] "ValueError.__new__" = true)
  (js:mg "enumerate" = none):a8 P w K mg am (EL P w) 1 f fd ["kind","name"] (Af (bg dN)):=by
 exact Qn F eO (λts Γ Z Y h=>?_) (λcn A outer s H E ts Γ Z Y hr h=>?_)
 ·let⟨hd,fs,x,rfl,_⟩:=h
  rfl
 let⟨hd,fs,x,rfl,sx,q,qE⟩:=h;exact⟨_,(A5 (GJ bR rfl (uy rfl js (A3 (AY (A0 0) AA) A6)) (Be (n:=2) rfl (AL (Aa (i:=2) eO.nd) (AL (Be (n:=2) rfl (AL (Aa (i:=3) eO.nd) (AL (Aa (i:=4) eO.nd) Bd))) Bd))) (A5 (Ah (B0 CT (A0 3) (A0 1)) (A5 (AH (A0 2))
  A7) A7)
  A7))
  (A5 (Qm rfl rfl ee lJ Qs (A3 AM A6) Oj)
  A7)),?_⟩
 simp only[Ai];left;exact⟨λv4 τ Γ'=>∃(i:Nat) (gs:ad) (o2 o3 o4:Option T),v4=GX i (D7 gs)∧τ=[some (.tup [.str hd,.tup (D7 fs)]),some x,o2,o3,o4]∧Γ'=Γ∧ES fs x=(ES gs x).map λp=>(p.1+i,p.2),?_,?_,?_⟩
 ·exact Ψ5 0 fs none none none ⟨rfl,rfl,rfl,by cases ES fs x<;>rfl⟩
 ·intro τ Γ'⟨i,gs,o2,o3,o4,e,rfl,rfl,b⟩
  cases gs with
  |cons p r=>cases e
  |nil=>
   exact⟨trivial,?_⟩;left;exact⟨Γ',.refl,qE ?_⟩;rw[b];cases sx<;>rfl
 ·intro x0 r τ Γ'⟨i,gs,o2,o3,o4,e,rfl,rfl,b⟩
  cases gs with
  |nil=>cases e
  |cons p gs=>
   obtain⟨n,k⟩:=p;cases e;left;cases sx with
   |int j=>
    left;exact Ψ5 (i+1) gs _ _ _ ⟨rfl,rfl,rfl,b⟩
   |@str z l=>
    left;exact AW (λc=>?_) (λc=>?_)
    ·cases K8 c
     left;exact AB .refl (q i k ?_);rw[b];show(if n=n then some (0,k)else _).map _=_
     rw[AR rfl];show some (0+i,k)=_
     rw[Nat.zero_add]
    ·left
     exact Ψ5 (i+1) gs _ _ _ ⟨rfl,rfl,rfl,?_⟩;rw[b];show(if n=z then some (0,k)else(findF gs z).map λp=>(p.1+1,p.2)).map _=_
     rw[AN (K3 c)];exact rl _ _
theorem Sx.pt{x:T}(h:Sx x):Pt Γ x:=by
 cases h with
 |int i=>exact .int i
 |str l=>exact .str (by lia)
abbrev Tj:Stmt:=Au 17
theorem lQ:Ak ["kind","step","head"] ["kind","step"] (AX Tj):=⟨rfl,rfl,rfl,by decide +kernel,rfl,by decide +kernel,by decide +kernel⟩
def gW(D:Addr):Am:=λts Γ Z Y=>∃(k:Kd) (x:T),ts=[k.tr,x]∧Sx x∧(∀k',stepK k x=some k'→Z k'.tr Γ)∧(stepK k x=none→Y (.ref D) Γ)
theorem zy(F:cP K "step_kind" "step_kind" Tj f fd)(bK:AU P w K mg am "is_whole" 1 ["thing"] Gw)(qW:Lk P w K mg am "field_place" 1 ["kind","name"] (bg dN))(ee:mg "NoPart" = some (.ref dN))(lJ:W.excIn K dN [.type "ValueError",.type "Exception",.type "BaseException",.type "object"] "ValueError.__new__" = true)
  (cv:mg "MOST_ITEMS" = some v1) (dM:Ca v1 (.int 60)):a8 P w K mg am (EL P w) 2 f fd ["kind","step"] (Af (gW dN)):=by
 exact Qn F lQ (λts Γ Z Y h=>?_) (λcn A outer s H E ts Γ Z Y hr h=>?_)
 ·let⟨k,x,rfl,_⟩:=h
  rfl
 let⟨k,x,rfl,sx,q,qE⟩:=h;exact⟨_,(A5 (Ad (i:=2) lQ.nd (AY (A0 0) AA))
  (A5 (Ah (B0 CT (A0 2) AM) (A5 (Ah (PW.pt (Wv (B7 (Ae bK hr (A3 (A0 1) A6))) (Zd (XJ F4 YF AA (A0 1) (Ds rfl cv dM))))) (A5 (AH (AY (A0 0) AA))
  A7) A7)
  (A5 (Qm rfl rfl ee lJ Qs (A3 AM A6) Oj)
  A7)) A7)
  (A5 (Ah (Kh YM (A0 2) (AP (A3 AM (A3 AM A6))) (by with_unfolding_all rfl)) (A5 (AH (AY (AY (AY (A0 0) AA) (YI qW hr fH (A3 (A0 0) (A3 (A0 1) A6)))) AA))
  A7) A7)
  (A5 (Qm rfl rfl ee lJ Qs (A3 AM A6) Oj)
  A7)))),?_⟩
 simp only[Ai];have no:stepK k x=none→∃Γ2,Le Γ2 Γ∧Y (.ref dN) Γ2:=λe=>⟨Γ,.refl,qE e⟩;cases k with
 |num wd=>rw[Kd.tr];left;exact no rfl
 |text=>rw[Kd.tr];left;exact no rfl
 |row j=>
  rw[Kd.tr];left;exact⟨x,rfl,sx.pt,?_⟩;cases sx with
  |str l=>left;exact no rfl
  |int i=>
   left;exact AW (λc=>?_) (λc=>?_)
   ·left
    exact AW (λc2=>?_) (λc2=>?_)
    ·left
     exact AB .refl (q j ?_);exact AR ⟨Ej c,Ej c2⟩
    ·left
     exact no (AN λz=>FX c2 z.2)
   ·left
    exact no (AN λz=>FX c z.1)
 |rec_ fs=>
  rw[Kd.tr];left;exact Ψ3 ("rec") fs x ⟨rfl,sx,λj k e=>?_,λe=>no (by show(ES fs x).map _=_;rw[e];rfl)⟩;let⟨n,rfl,m⟩:=NS e;exact HI (Z3 m) ?_;left;exact AB .refl (q k (by show(ES fs _).map _=_;rw[e];rfl))
 |pick fs=>
  rw[Kd.tr];left;exact Ψ3 ("pick") fs x ⟨rfl,sx,λj k e=>?_,λe=>no (by show(ES fs x).map _=_;rw[e];rfl)⟩;let⟨n,rfl,m⟩:=NS e;exact HI (Z3 m) ?_;left;exact AB .refl (q k (by show(ES fs _).map _=_;rw[e];rfl))
abbrev T3:Stmt:=Au 16
theorem gg:Ak ["kind","path","found","step"] ["kind","path"] (AX T3):=⟨rfl,rfl,rfl,by decide +kernel,rfl,by decide +kernel,by decide +kernel⟩
def eS(D:Addr):Am:=λts Γ Z Y=>∃(k:Kd) (ps:List T),ts=[k.tr,.tup ps]∧(∀p∈ps,Sx p)∧(∀k',CC k ps=some k'→Z k'.tr Γ)∧(CC k ps=none→Y (.ref D) Γ)
theorem xS(F:cP K "part_kind" "part_kind" T3 f fd)(uK:Lk P w K mg am "step_kind" 2 ["kind","step"] (gW dN)):a8 P w K mg am (EL P w) 3 f fd ["kind","path"] (Af (eS dN)):=by
 exact Qn F gg (λts Γ Z Y h=>?_) (λcn A outer s H E ts Γ Z Y hr h=>?_)
 ·let⟨k,ps,rfl,_⟩:=h
  rfl
 let⟨k,ps,rfl,hp,q,qE⟩:=h;exact⟨_,(A5 (Ad (i:=2) gg.nd (A0 0))
  (A5 (GJ bR rfl (Dc (A0 1)) (Aa (i:=3) gg.nd) (A5 (Ad (i:=2) gg.nd (YI uK hr fH (A3 (A0 2) (A3 (A0 3) A6))))
  A7))
  (A5 (AH (A0 2))
  A7))),?_⟩
 simp only[Ai];left;exact⟨λv4 τ Γ'=>∃(k':Kd) (o3:Option T),τ=[some k.tr,some (.tup ps),some k'.tr,o3]∧Γ'=Γ∧(∀p∈v4,Sx p)∧CC k ps=CC k' v4,?_,?_,?_⟩
 ·exact Ψ2 k none ⟨rfl,rfl,hp,rfl⟩
 ·intro τ Γ'⟨k',o3,rfl,rfl,yN,e⟩
  exact⟨trivial,?_⟩;left;exact AB .refl (q k' e)
 ·intro x r τ Γ'⟨k',o3,rfl,rfl,yN,e⟩
  have e':CC k ps=match stepK k' x with|some k2=>CC k2 r|none=>none:=e
  left;exact Ψ2 k' x ⟨rfl,yN x (by simp),λk3 e3=>?_,λe3=>⟨Γ',.refl,qE (by rw[e',e3])⟩⟩;left;exact Ψ2 k3 _ ⟨rfl,rfl,λp hp=>yN p (by simp[hp]),by rw[e',e3]⟩
abbrev XZ:Stmt:=Au 58
theorem um:Ak ["kind","path"] ["kind","path"] (AX XZ):=⟨rfl,rfl,rfl,by decide +kernel,rfl,by decide +kernel,by decide +kernel⟩
def EV:Option Kd→T
 |some k=>k.tr
 |none=>.non
def KQ:Am:=λts Γ Z _=>∃(k:Kd) (ps:List T),ts=[k.tr,.tup ps]∧(∀p∈ps,Sx p)∧Z (EV (CC k ps)) Γ
theorem aaE(F:cP K "kind_at" "kind_at" XZ f fd)(uL:Lk P w K mg am "part_kind" 3 ["kind","path"] (eS dN))(ee:mg "NoPart" = some (.ref dN))(xm:W.exmOne K (.ref dN) (.ref dN)=some true):a8 P w K mg am Ag 4 f fd ["kind","path"] (Af KQ):=by
 exact As F um (λts Γ Z Y h=>?_) (λcn A outer s H E ts Γ Z Y hr h=>?_)
 ·let⟨k,ps,rfl,_⟩:=h
  rfl
 let⟨k,ps,rfl,hp,q⟩:=h;exact⟨_,(A5 (sC rfl rfl rfl ee (λ_ _ _ hx=>(A5 (AH (YI uL hr hx (A3 (A0 0) (A3 (A0 1) A6))))
  A7)) (λ_=>(A5 (AH Gz)
  A7)))
  A7),?_⟩
 simp only[Ai];left;unfold aq;left;exact Ψ2 k ps ⟨rfl,hp,λk' e=>AB .refl (by rw[e]at q;exact q),λe=>⟨xm,?_⟩⟩;rw[e]at q;left;exact AB .refl q
end
inductive Sm where
 |new (x:Str) (k:Kd) (w:T)
 |copy (x y:Str)
 |part (x y:Str) (p:List T)
 |put (y:Str) (p:List T) (x:Str)
 |add (y:Str) (p:List T) (x:Str)
 |drop (x:Str)
 |say (x:Str)
 |call (z:Option Str) (d:Str) (ns:List Str)
 |same (x y:Str) (a b:List Sm)
 |fail (n:Int)
 |tri (a b:List Sm)
 |back (x:Str)
def GK:Option Str→T
 |some z=>.str z
 |none=>.non
mutual
def Sm.tr:Sm→T
 |.new x k w=>.tup [.str "new",.str x,k.tr,w]
 |.copy x y=>.tup [.str "copy",.str x,.str y]
 |.part x y p=>.tup [.str "part",.str x,.str y,.tup p]
 |.put y p x=>.tup [.str "put",.str y,.tup p,.str x]
 |.add y p x=>.tup [.str "add",.str y,.tup p,.str x]
 |.drop x=>.tup [.str "drop",.str x]
 |.say x=>.tup [.str "say",.str x]
 |.call z d ns=>.tup [.str "call",GK z,.str d,.tup (ns.map T.str)]
 |.same x y a b=>.tup [.str "same",.str x,.str y,.tup (BI a),.tup (BI b)]
 |.fail n=>.tup [.str "fail",.int n]
 |.tri a b=>.tup [.str "try",.tup (BI a),.tup (BI b)]
 |.back x=>.tup [.str "back",.str x]
def BI:List Sm→List T
 |[]=>[]
 |s::r=>s.tr::BI r
end
theorem KL:∀ss:List Sm,BI ss=ss.map Sm.tr
 |[]=>by rw[BI];rfl
 |s::r=>by rw[BI,KL r];rfl
theorem z9(ss:List Sm):(BI ss).length=ss.length:=by rw[KL,AV]
mutual
def Sm.Ok:Sm→Prop
 |.new x k w=>x.length≤1000∧k.good∧k.depth≤5∧∀Γ,Pt Γ w
 |.copy x y=>x.length≤1000∧y.length≤1000
 |.part x y p=>x.length≤1000∧y.length≤1000∧p.length≤1000∧∀t∈p,Sx t
 |.put y p x=>y.length≤1000∧x.length≤1000∧p.length≤1000∧∀t∈p,Sx t
 |.add y p x=>y.length≤1000∧x.length≤1000∧p.length≤1000∧∀t∈p,Sx t
 |.drop x=>x.length≤1000
 |.say x=>x.length≤1000
 |.call z d ns=>(∀x,z=some x→x.length≤1000)∧d.length≤1000∧ns.length≤1000∧∀x∈ns,x.length≤1000
 |.same x y a b=>x.length≤1000∧y.length≤1000∧a.length≤1000∧b.length≤1000∧By a∧By b
 |.fail _=>True
 |.tri a b=>a.length≤1000∧b.length≤1000∧By a∧By b
 |.back x=>x.length≤1000
def By:List Sm→Prop
 |[]=>True
 |s::r=>s.Ok∧By r
end
theorem Z4:∀{ss:List Sm} {s:Sm},By ss→s∈ss→s.Ok
 |s::r,x,h,hx=>by
  unfold By at h;rcases XO.mp hx with rfl|hx
  ·exact h.1
  ·exact Z4 h.2 hx
def DI(x:Str):Bool:=Dl (.str x)
mutual
def Sm.fm:Sm→Nat→Bool
 |.new x k w,_=>DI x&&Bp k w
 |.copy x y,_=>DI x&&DI y
 |.part x y _,_=>DI x&&DI y
 |.put y _ x,_=>DI y&&DI x
 |.add y _ x,_=>DI y&&DI x
 |.drop x,_=>DI x
 |.say x,_=>DI x
 |.call z d ns,_=>z.all DI&&(DI d&&ns.all DI)
 |.same x y a b,d=>DI x&&(DI y&&((decide (d+1≤4)&&DV a (d+1))&&(decide (d+1≤4)&&DV b (d+1))))
 |.fail n,_=>decide (0≤n)&&decide (n≤999)
 |.tri a b,d=>(decide (d+1≤4)&&DV a (d+1))&&(decide (d+1≤4)&&DV b (d+1))
 |.back x,_=>DI x
def DV:List Sm→Nat→Bool
 |[],_=>true
 |s::r,d=>s.fm d&&DV r d
end
theorem Yc:∀(ss:List Sm) (d:Nat),DV ss d=ss.all λs=>s.fm d
 |[],d=>by rw[DV];rfl
 |s::r,d=>by rw[DV,Yc r d];rfl
def EO(ss:List Sm)(d:Nat):Bool:=decide (d≤4)&&DV ss d
inductive iJ where
 |name (x:Str)
 |nmn (z:Option Str)
 |nms (ns:List Str)
 |path (p:List T)
 |kind (k:Kd)
 |worth (w:T)
 |body (ss:List Sm)
 |fail (n:Int)
def iJ.sort:iJ→Str
 |.name _ => "name"
 |.nmn _ => "name\x20or\x20none"
 |.nms _ => "names"
 |.path _ => "path"
 |.kind _ => "kind"
 |.worth _ => "worth"
 |.body _ => "body"
 |.fail _ => "fail"
def iJ.tr:iJ→T
 |.name x=>.str x
 |.nmn z=>GK z
 |.nms ns=>.tup (ns.map T.str)
 |.path p=>.tup p
 |.kind k=>k.tr
 |.worth w=>w
 |.body ss=>.tup (BI ss)
 |.fail n=>.int n
def iJ.Ok:iJ→Prop
 |.name x=>x.length≤1000
 |.nmn z=>∀x,z=some x→x.length≤1000
 |.nms ns=>ns.length≤1000∧∀x∈ns,x.length≤1000
 |.path p=>p.length≤1000∧∀t∈p,Sx t
 |.kind k=>k.good∧k.depth≤5
 |.worth _=>True
 |.body ss=>ss.length≤1000∧By ss
 |.fail _=>True
def iJ.fm(d:Nat):iJ→Bool
 |.name x=>DI x
 |.nmn z=>z.all DI
 |.nms ns=>ns.all DI
 |.path _=>true
 |.kind _=>true
 |.worth _=>true
 |.body ss=>EO ss (d+1)
 |.fail n=>decide (0≤n)&&decide (n≤999)
def Sm.word:Sm→Str
 |.new .. => "new"
 |.copy .. => "copy"
 |.part .. => "part"
 |.put .. => "put"
 |.add .. => "add"
 |.drop .. => "drop"
 |.say .. => "say"
 |.call .. => "call"
 |.same .. => "same"
 |.fail .. => "fail"
 |.tri .. => "try"
 |.back .. => "back"
def Sm.ps:Sm→List iJ
 |.new x k w=>[.name x,.kind k,.worth w]
 |.copy x y=>[.name x,.name y]
 |.part x y p=>[.name x,.name y,.path p]
 |.put y p x=>[.name y,.path p,.name x]
 |.add y p x=>[.name y,.path p,.name x]
 |.drop x=>[.name x]
 |.say x=>[.name x]
 |.call z d ns=>[.nmn z,.name d,.nms ns]
 |.same x y a b=>[.name x,.name y,.body a,.body b]
 |.fail n=>[.fail n]
 |.tri a b=>[.body a,.body b]
 |.back x=>[.name x]
def Sm.QB:Sm→Bool
 |.new _ k w=>Bp k w
 |_=>true
theorem Sm.EG(s:Sm):s.tr=.tup (.str s.word::s.ps.map iJ.tr):=by cases s<;>(unfold Sm.tr;rfl)
theorem Sm.Lb(h:s.Ok):∀p∈s.ps,p.Ok:=by
 cases s<;>(unfold Sm.Ok at h;simp[Sm.ps,iJ.Ok];try (simp_all))
theorem Sm.Mc(s:Sm)(d:Nat):s.fm d=(s.ps.all (iJ.fm d)&&s.QB):=by
 cases s<;>(unfold Sm.fm;simp[Sm.ps,iJ.fm,Sm.QB,EO,P2])
theorem Sm.GY(s:Sm):s.ps.length≤4:=by cases s<;>(show _≤4;simp[Sm.ps])
def sorts:List (Str×List Str):=[("new",["name","kind","worth"]),("copy",["name","name"]),("part",["name","name","path"]),("put",["name","path","name"]),("add",["name","path","name"]),("drop",["name"]),("say",["name"]),("call",["name\x20or\x20none","name","names"]),("same",["name","name","body","body"]),("fail",["fail"]),("try",["body","body"]),("back",["name"])]
def JD(P:Program)(w:World)(K:W.Frag)(a:Addr):Prop:=∃bs:List Addr,bs.length=12∧yc P w K a ((sorts.map (·.1)).zip bs)∧∀(i:Nat) (z:Str) (ss:List Str) (b:Addr),sorts[i]?=some (z,ss)→bs[i]?=some b→dR K b (ss.map V.str)
theorem Sm.sorted(s:Sm):∃i:Nat,sorts[i]?=some (s.word,s.ps.map iJ.sort)∧∀bs:List Addr,bs.length=12→((sorts.map (·.1)).zip bs).lookup s.word=bs[i]? := by
 have key:∀i:Nat,i<12→∀z,(sorts.map (·.1))[i]?=some z→∀bs:List Addr,bs.length=12→((sorts.map (·.1)).zip bs).lookup z=bs[i]? := by
  intro i hi z hz bs hb;match bs,hb with
  |[b0,b1,b2,b3,b4,b5,b6,b7,b8,b9,Nw,Nv],_=>
   have:i=0∨i=1∨i=2∨i=3∨i=4∨i=5∨i=6∨i=7∨i=8∨i=9∨i=10∨i=11:=by lia
   rcases this with rfl|rfl|rfl|rfl|rfl|rfl|rfl|rfl|rfl|rfl|rfl|rfl<;>(cases hz;rfl)
 cases s with
 |new x k w=>exact⟨0,rfl,key 0 (by decide) _ rfl⟩
 |copy x y=>exact⟨1,rfl,key 1 (by decide) _ rfl⟩
 |part x y p=>exact⟨2,rfl,key 2 (by decide) _ rfl⟩
 |put y p x=>exact⟨3,rfl,key 3 (by decide) _ rfl⟩
 |add y p x=>exact⟨4,rfl,key 4 (by decide) _ rfl⟩
 |drop x=>exact⟨5,rfl,key 5 (by decide) _ rfl⟩
 |say x=>exact⟨6,rfl,key 6 (by decide) _ rfl⟩
 |call z d ns=>exact⟨7,rfl,key 7 (by decide) _ rfl⟩
 |same x y a b=>exact⟨8,rfl,key 8 (by decide) _ rfl⟩
 |fail n=>exact⟨9,rfl,key 9 (by decide) _ rfl⟩
 |tri a b=>exact⟨10,rfl,key 10 (by decide) _ rfl⟩
 |back x=>exact⟨11,rfl,key 11 (by decide) _ rfl⟩
theorem bU{H:A4}:∀ss:List Str,Rs H (ss.map V.str) (ss.map T.str)
 |[]=>FI
 |_::r=>Et Ga (bU r)
theorem kt_str{K:W.Frag}{b:Addr}{ss:List Str}(h:dR K b (ss.map V.str)):KT K b (ss.map T.str):=⟨_,h,λH=>bU ss⟩
theorem JD.get{P:Program}{w:World}{K:W.Frag}(h:JD P w K a)(s:Sm):∃ay b,yc P w K a ay∧ay.lookup s.word=some b∧KT K b ((s.ps.map iJ.sort).map T.str):=by
 let⟨bs,hl,kd,kt⟩:=h;let⟨i,e,lk⟩:=s.sorted;have hi:i<bs.length:=by
  have:=(YG.mp e).1;rw[hl];exact this
 exact Ψ2 _ (bs[i]) ⟨kd,?_,kt_str (kt i _ _ _ e (D2 hi))⟩;rw[lk bs hl,D2 hi]
theorem yw{c:Nat}(h:97≤c∧c≤122):K7 c=true:=by
 rw[oP c (by lia)];simp[h.1,h.2]
theorem LM(h:Nm z):Dl (.str z)=true:=by
 rw[Lz,CI h.1,CI h.2.1,BA,BA,Yw];exactλc hc=>yw (h.2.2 c hc)
theorem bY(fs:ad):(D7 fs).map GH=fs.map (·.1):=by
 rw[MP,Dn];rfl
mutual
theorem YN:∀{k:Kd} {d:Nat},k.good→k.depth≤d→BK d k.tr=true
 |.num w,d,g,h=>by
  rw[Kd.depth]at h;obtain⟨d,rfl⟩:∃e,d=e+1:=⟨d-1,by lia⟩;unfold Kd.good at g;rw[Kd.tr,KU,AR rfl];show(decide (1≤w)&&decide (w≤4))=true
  rw[CI g.1,CI g.2];rfl
 |.text,d,g,h=>by
  rw[Kd.depth]at h;obtain⟨d,rfl⟩:∃e,d=e+1:=⟨d-1,by lia⟩;rw[Kd.tr,ag];exact CI rfl
 |.row k,d,g,h=>by
  rw[Kd.depth]at h;obtain⟨d,rfl⟩:∃e,d=e+1:=⟨d-1,by lia⟩;unfold Kd.good at g;rw[Kd.tr,KU,AN (by decide +kernel),AR rfl];exact YN g (by lia)
 |.rec_ fs,d,g,h=>by
  rw[Kd.depth]at h;obtain⟨d,rfl⟩:∃e,d=e+1:=⟨d-1,by lia⟩;unfold Kd.good at g;rw[Kd.tr,KU,AN (by decide +kernel),AN (by decide +kernel),Ky,Oq g.1 (by lia),J8,CI g.2.1,CI g.2.2.1,bY,CI g.2.2.2];decide +kernel
 |.pick fs,d,g,h=>by
  rw[Kd.depth]at h;obtain⟨d,rfl⟩:∃e,d=e+1:=⟨d-1,by lia⟩;unfold Kd.good at g;rw[Kd.tr,KU,AN (by decide +kernel),AN (by decide +kernel),Ky,Oq g.1 (by lia),J8,CI g.2.1,CI g.2.2.1,bY,CI g.2.2.2];decide +kernel
theorem Oq:∀{fs:List (Str×Kd)} {d:Nat},FK fs→G9 fs≤d→(D7 fs).all (FJ (BK d))=true
 |[],d,g,h=>rfl
 |(n,k)::r,d,g,h=>by
  rw[G9]at h;unfold FK at g;rw[D7,Kf,Oq g.2.2 (by lia),GQ];show(Dl (.str n)&&BK d k.tr)=true
  rw[LM g.1,YN g.2.1 (by lia)];rfl
end
theorem MN(h:k.good)(d:k.depth≤5):BK 5 k.tr=true:=YN h d
theorem J0{a:T}(h:Pt Γ a)(h':Pt Γ b):Pt Γ (.tup [a,b]):=.tup (by simp) λt m=>by
 rcases XO.mp m with rfl|m
 ·exact h
 ·rcases XO.mp m with rfl|m
  ·exact h'
  ·cases m
mutual
theorem Jf{Γ:AJ}:∀{k:Kd},k.good→Pt Γ k.tr
 |.num w,g=>by rw[Kd.tr];exact J0 (.str (by decide +kernel)) (.int _)
 |.text,g=>by rw[Kd.tr];exact .tup (by simp) λt m=>by(rcases XO.mp m with rfl|m);exact .str (by decide +kernel);cases m
 |.row k,g=>by
  unfold Kd.good at g;rw[Kd.tr];exact J0 (.str (by decide +kernel)) (Jf g)
 |.rec_ fs,g=>by
  unfold Kd.good at g;rw[Kd.tr];exact J0 (.str (by decide +kernel)) (.tup (by rw[J8];lia) (YK g.1))
 |.pick fs,g=>by
  unfold Kd.good at g;rw[Kd.tr];exact J0 (.str (by decide +kernel)) (.tup (by rw[J8];lia) (YK g.1))
theorem YK{Γ:AJ}:∀{fs:List (Str×Kd)},FK fs→∀t∈D7 fs,Pt Γ t
 |[],g,t,h=>by rw[D7]at h;cases h
 |(n,k)::r,g,t,h=>by
  rw[D7]at h;unfold FK at g;rcases XO.mp h with rfl|h
  ·exact J0 (.str (by lia)) (Jf g.2.1)
  ·exact YK g.2.2 t h
end
section
variable {K: W.Frag}
abbrev TB:Stmt:=Au 48
theorem jb:Ak ["thing"] ["thing"] (AX TB):=⟨rfl,rfl,rfl,by decide +kernel,rfl,by decide +kernel,by decide +kernel⟩
def Pb:Am:=λts Γ Z _=>∃p:List T,ts=[.tup p]∧p.length≤1000∧(∀t∈p,Sx t)∧Z (.bl true) Γ
theorem xb(F:cP K "is_path" "is_path" TB f fd)(bK:AU P w K mg am "is_whole" 1 ["thing"] Gw)(ah:mg "isinstance" = none)(aC:mg "tuple" = none)(cE:mg "str" = none)(bc:mg "all" = none):a8 P w K mg am Ag 2 f fd ["thing"] (Af Pb):=by
 exact As F jb (λts Γ Z Y h=>?_) (λcn A outer s H E ts Γ Z Y hr h=>?_)
 ·let⟨p,rfl,_⟩:=h
  rfl
 let⟨p,rfl,pl,sx,q⟩:=h;exact⟨_,(A5 (Ah (B5 (B7 (CR rfl ah rfl aC Dm (A0 0)))) (A5 (AH B4)
  A7) A7)
  (A5 (AH (Av (F5 rfl) rfl bc F6 (A3 (EB (own:=["step"]) (cap:=[]) Ez rfl (Dc (A0 0)) (λ_ _ _ _=>Hr) (λ_ _ _ _=>EH) (λ_ _ _ _=>(Kx (xQ (K:=K) rfl rfl ah rfl cE IV (A0 0)) (CA (Ae bK hr (A3 (A0 0) A6)))))) A6)))
  A7)),?_⟩
 simp only[Ai];left;exact Ψ2 _ true ⟨rfl,rfl,?_⟩;left;exact⟨CG (CJ (by lia)),?_⟩;exact⟨λv4 τ ys Γ'=>∃(bs:List Bool) (o:Option T),(∀t∈v4,Sx t)∧(∀b∈bs,b=true)∧τ=[o]∧ys=bs.map T.bl∧Γ'=Γ,Ψ2 [] none ⟨sx,by simp,rfl,rfl,rfl⟩,?_,?_⟩
 ·intro τ ys Γ'⟨bs,o,_,hb,rfl,rfl,rfl⟩
  exact⟨trivial,?_⟩;intro p1 cS;generalize e1:A9 _ p1 (O.lst _)=Γ1;have g1:=AZ e1;have l1:=Ab e1 cS
  left;exact Ψ2 p1 bs ⟨rfl,Bk g1,?_⟩;rw[show bs.all id=true from Yw.mpr hb];exact AB l1 q
 ·intro x r τ ys Γ'⟨bs,o,hx,hb,rfl,rfl,rfl⟩
  exact⟨trivial,?_⟩;have QW:=hx x (by simp);left;exact E2 (in_str QW.pt) ?_;left;cases QW with
  |str l=>
   left;exact Ψ2 (bs++[true]) _ ⟨λt h=>hx t (Dz _ h),by simpa using hb,rfl,by simp,rfl⟩
  |int i=>
   left;exact⟨.int i,rfl,.int i,?_⟩;exact Ψ2 (bs++[true]) _ ⟨λt h=>hx t (Dz _ h),by simpa using hb,rfl,by simp[Y9],rfl⟩
def Lq(n:Nat):Am:=λts Γ Z _=>∃(ss:List Sm) (d:Nat),ts=[.tup (BI ss),.int d]∧By ss∧ss.length≤1000∧d≤5∧6≤d+n∧Z (.bl (EO ss d)) Γ
def Td(n:Nat):Am:=λts Γ Z _=>∃(s:Sm) (d:Nat),ts=[s.tr,.int d]∧s.Ok∧d≤4∧5≤d+n∧Z (.bl (s.fm d)) Γ
def TS(n:Nat):Am:=λts Γ Z _=>∃(p:iJ) (d:Nat),ts=[.str p.sort,p.tr,.int d]∧p.Ok∧d≤4∧5≤d+n∧Z (.bl (p.fm d)) Γ
abbrev N9:Stmt:=Au 47
theorem oT:Ak ["sort","thing","depth"] ["sort","thing","depth"] (AX N9):=⟨rfl,rfl,rfl,by decide +kernel,rfl,by decide +kernel,by decide +kernel⟩
theorem qV(F:cP K "is_of_sort" "is_of_sort" N9 f fd)(cf:AU P w K mg am "is_name" 1 ["thing"] He)(kz:AU P w K mg am "is_path" 2 ["thing"] Pb)(du:AU P w K mg am "is_kind" 20 ["thing"] JW)(bK:AU P w K mg am "is_whole" 1 ["thing"] Gw)(nC:AU P w K mg am "is_body" (lv+20) ["thing","depth"] (Lq n))(cJ:mg "GREATEST_FAIL" = some v1)(eD:Ca v1 (.int 999))(ah:mg "isinstance" = none)(aC:mg "tuple" = none)(bc:mg "all" = none):a8 P w K mg am Ag (lv+21) f fd ["sort","thing","depth"] (Af (TS n)):=by
 exact As F oT (λts Γ Z Y h=>?_) (λcn A outer s H E ts Γ Z Y hr h=>?_)
 ·let⟨p,d,rfl,_⟩:=h
  rfl
 let⟨p,d,rfl,po,d4,dn,q⟩:=h;exact⟨_,(A5 (Ah (B0 CT (A0 0) AM) (A5 (AH (Ae cf hr (A3 (A0 1) A6)))
  A7) A7)
  (A5 (Ah (B0 CT (A0 0) AM) (A5 (AH (Kx (Dh N2 (A0 1) Gz) (CA (Ae cf hr (A3 (A0 1) A6)))))
  A7) A7)
  (A5 (Ah (B0 CT (A0 0) AM) (A5 (AH (CK (CR rfl ah rfl aC Dm (A0 1)) (CA (Av (F5 rfl) rfl bc F6 (A3 (EB (own:=["name"]) (cap:=[]) Ez rfl (Dc (A0 1)) (λ_ _ _ _=>Hr) (λ_ _ _ _=>EH) (λ_ _ _ _=>(Ae cf hr (A3 (A0 0) A6)))) A6)))))
  A7) A7)
  (A5 (Ah (B0 CT (A0 0) AM) (A5 (AH (Ae kz hr (A3 (A0 1) A6)))
  A7) A7)
  (A5 (Ah (B0 CT (A0 0) AM) (A5 (AH (Ae du hr (A3 (A0 1) A6)))
  A7) A7)
  (A5 (Ah (B0 CT (A0 0) AM) (A5 (AH (Ae nC hr (A3 (A0 1) (A3 (AQ FD (A0 2) AA) A6))))
  A7) A7)
  (A5 (Ah (B0 CT (A0 0) AM) (A5 (AH (CK (Ae bK hr (A3 (A0 1) A6)) (CA (NI F4 F4 AA (A0 1) (Ds rfl cJ eD)))))
  A7) A7)
  (A5 (AH (Dh CT (A0 0) AM))
  A7)))))))),?_⟩
 simp only[Ai];cases p with
 |name x=>
  simp only[iJ.sort,iJ.tr];left;exact⟨.str x,rfl,.str (DA (show x.length≤1000 from po) (by decide)),AB .refl q⟩
 |nmn z=>
  simp only[iJ.sort,iJ.tr];left;cases z with
  |none=>
   show if Fv T.non=true then _ else _
   left;exact AB .refl q
  |some x=>
   show if Fv (T.str x)=true then _ else _
   left;exact⟨.str x,rfl,.str (DA (po x rfl) (by decide)),AB .refl q⟩
 |nms ns=>
  simp only[iJ.sort,iJ.tr];let⟨nl,nx⟩:=po;left;exact Ψ2 _ true ⟨rfl,rfl,?_⟩;left;exact⟨CG (CJ (by rw[AV];lia)),?_⟩;exact⟨λv4 τ ys Γ'=>∃(ms os:List Str) (o:Option T),v4=ms.map T.str∧ns=os++ms∧τ=[o]∧ys=(os.map DI).map T.bl∧Γ'=Γ,Ψ3 ns [] none ⟨rfl,rfl,rfl,rfl,rfl⟩,?_,?_⟩
  ·intro τ ys Γ'⟨ms,os,o,er,ez,rfl,rfl,rfl⟩
   have hz:ms=[]:=by
    cases ms with
    |nil=>rfl
    |cons _ _=>cases er
   subst hz;rw[Bt]at ez;subst ez;exact⟨trivial,?_⟩;intro p1 cS;generalize e1:A9 _ p1 (O.lst _)=Γ1;have g1:=AZ e1;have l1:=Ab e1 cS
   left;exact Ψ2 p1 _ ⟨rfl,Bk g1,?_⟩;rw[FC];exact AB l1 q
  ·intro x r τ ys Γ'⟨ms,os,o,er,ez,rfl,rfl,rfl⟩
   cases ms with
   |nil=>cases er
   |cons m ms=>
    cases er;exact⟨trivial,?_⟩;left;exact⟨.str m,rfl,.str (DA (nx m (by rw[ez];simp)) (by decide)),?_⟩;exact Ψ3 ms (os++[m]) _ ⟨rfl,by rw[ez];simp,rfl,by rw[Ao,Ao];rfl,rfl⟩
 |path p=>
  simp only[iJ.sort,iJ.tr];left;exact⟨p,rfl,po.1,po.2,AB .refl q⟩
 |kind k=>
  simp only[iJ.sort,iJ.tr];left;exact⟨k.tr,rfl,Jf po.1,AB .refl (by rw[MN po.1 po.2];exact q)⟩
 |worth x=>
  simp only[iJ.sort,iJ.tr];left;exact AB .refl q
 |body ss=>
  simp only[iJ.sort,iJ.tr];left;exact Ψ2 ss (d+1) ⟨rfl,po.2,po.1,by lia,by lia,AB .refl q⟩
 |fail i=>
  simp only[iJ.sort,iJ.tr];left;exact⟨.int i,rfl,.int i,?_⟩;left;have q:Z (.bl (decide (0≤i)&&decide (i≤999))) Γ:=q;exact AW (λc=>?_) (λc=>?_)
  ·rw[c,BA]at q
   left;exact AB .refl q
  ·rw[c]at q
   exact AB .refl q
end
theorem G8{y:Str}(h:z≠y):(!decide (V.str z=V.str y))=true:=by simp[h]
theorem ur{a:T}{us:List T}:E6 (a::ts) (b::us)=.tup [a,b]::E6 ts us:=rfl
section
variable {K: W.Frag}{MG: Addr}
abbrev OI:Stmt:=Au 46
theorem i7:Ak ["thing","depth","sorts"] ["thing","depth"] (AX OI):=⟨rfl,rfl,rfl,by decide +kernel,rfl,by decide +kernel,by decide +kernel⟩
theorem pP(F:cP K "is_statement" "is_statement" OI f fd)(dJ:mg "STATEMENTS" = some (.ref MG))(h_ST:JD P w K MG)(tu:AU P w K mg am "is_of_sort" (lv+21) ["sort","thing","depth"] (TS n))(cp:AU P w K mg am "is_worth" 13 ["kind","thing"] (HY 6))(ah:mg "isinstance" = none)(aC:mg "tuple" = none)(cE:mg "str" = none)(aG:mg "len" = none)(bc:mg "all" = none)(fo:mg "zip" = none):a8 P w K mg am Ag (lv+22) f fd ["thing","depth"] (Af (Td n)):=by
 exact As F i7 (λts Γ Z Y h=>?_) (λcn A outer s H E ts Γ Z Y hr h=>?_)
 ·let⟨s,d,rfl,_⟩:=h
  rfl
 let⟨s,d,rfl,so,d4,dn,q⟩:=h;exact⟨_,(A5 (Ah (PW.pt (CQ (B5 (B7 (CR rfl ah rfl aC Dm (A0 0)))) (CQ (B5 (lX (A0 0) (λ_=>rfl))) (DJ (B5 (B7 (CR rfl ah rfl cE IV (AY (A0 0) AA)))))))) (A5 (AH B4)
  A7) A7)
  (A5 (Ad (i:=2) i7.nd (oA (Ds rfl dJ Kn) (AY (A0 0) AA) ⟨rfl,rfl,rfl,rfl⟩))
  (A5 (Ah (PW.pt (CQ (B0 N2 (A0 2) Gz) (DJ (B0 EI (Av DL rfl aG Bm (A3 (A0 0) A6)) (AQ FD AA (Av nh rfl aG Bm (A3 (A0 2) A6))))))) (A5 (AH B4)
  A7) A7)
  (A5 (Ah (B5 (B7 (Av (F5 rfl) rfl bc F6 (A3 (EB (own:=["sort","part"]) (cap:=[(1,"depth")]) (Gb rfl (by decide +kernel) (by decide +kernel) rfl (⟨rfl,trivial⟩) rfl (⟨⟨rfl,rfl,rfl⟩,trivial⟩)) rfl (za rfl fo (A3 (A0 2) (A3 (Dj fS (A0 0) (DC AA) EY) A6))) (λ_ _ _ _=>(Be (n:=2) rfl (AL (BM (i:=0) (show List.Nodup (["sort","part","depth"]:List Str)from by decide +kernel) rfl (Or.inl rfl) (Or.inr rfl)) (AL (BM (i:=1) (show List.Nodup (["sort","part","depth"]:List Str)from by decide +kernel) rfl (Or.inl rfl) (Or.inr rfl)) Bd)))) (λ_ _ _ _=>EH) (λ_ _ _ _=>(Ae tu hr (A3 (A0 0) (A3 (A0 1) (A3 (A0 2) A6)))))) A6)))) (A5 (AH B4)
  A7) A7)
  (A5 (AH (Kx (Dh EI (AY (A0 0) AA) AM) (CA (Ae cp hr (A3 (AY (A0 0) AA) (A3 (AY (A0 0) AA) A6))))))
  A7))))),?_⟩
 simp only[Ai];let⟨ay,b0,kd,lk,kt⟩:=h_ST.get s;have po:=s.Lb so;have pl:=s.GY;have tp:=s.EG;rw[s.Mc]at q;rw[tp];left;exact Ψ2 _ true ⟨rfl,rfl,?_⟩;left;exact⟨true,rfl,?_⟩;left;exact Ψ2 _ true ⟨rfl,rfl,?_⟩;left;unfold bt;left;exact Ψ2 MG ay ⟨rfl,kd,?_⟩;left;exact⟨λb e=>?_,λe=>by rw[lk]at e;cases e⟩;rw[lk]at e;cases e;left;exact Ψ2 b0 _ ⟨rfl,kt,?_⟩;left;exact Lh (by simp;lia) ?_;left;unfold fI;left;rw[J5 (by decide)];exact Ψ3 _ b0 _ ⟨rfl,kt,?_⟩;show _∧_
 have hz:∀ps:List iJ,E6 ((ps.map iJ.sort).map T.str) (ps.map iJ.tr)=ps.map λp=>T.tup [.str p.sort,p.tr]:=λps=>by
  induction ps with
  |nil=>rfl
  |cons p r ih=>rw[BQ,BQ,BQ,BQ,ur,ih]
 rw[show(List.drop (Int.toNat 1) (T.str s.word::s.ps.map iJ.tr))=s.ps.map iJ.tr from rfl,hz];exact⟨CG (CJ (by rw[AV];lia)),?_⟩;exact⟨λv4 τ ys Γ'=>∃(ps qs:List iJ) (o1 o2:Option T),v4=ps.map (λp=>T.tup [.str p.sort,p.tr])∧s.ps=qs++ps∧τ=[o1,o2,some (.int d)]∧ys=(qs.map (iJ.fm d)).map T.bl∧Γ'=Γ,Ψ4 s.ps [] none none ⟨rfl,rfl,rfl,rfl,rfl⟩,?_,?_⟩;rotate_left
 ·intro x r τ ys Γ'⟨ps,qs,o1,o2,er,ez,rfl,rfl,rfl⟩
  cases ps with
  |nil=>cases er
  |cons p ps=>
   cases er;exact⟨trivial,?_⟩;left;exact Ψ2 p d ⟨rfl,po p (by rw[ez];simp),d4,dn,?_⟩;exact Ψ4 ps (qs++[p]) _ _ ⟨rfl,by rw[ez];simp,rfl,by rw[Ao,Ao];rfl,rfl⟩
 intro τ ys Γ'⟨ps,qs,o1,o2,er,ez,rfl,rfl,rfl⟩;have hp:ps=[]:=by
  cases ps with
  |nil=>rfl
  |cons _ _=>cases er
 subst hp;rw[Bt]at ez;rw[←ez];exact⟨trivial,?_⟩;intro p1 cS;generalize e1:A9 _ p1 (O.lst _)=Γ1;have g1:=AZ e1;have l1:=Ab e1 cS
 left;exact Ψ2 p1 _ ⟨rfl,Bk g1,?_⟩;rw[FC];left;exact AW (λc=>?_) (λc=>?_)
 ·have c:s.ps.all (iJ.fm d)=false:=by simpa using c
  left;rw[c,Dw]at q;exact AB l1 q
 have c:s.ps.all (iJ.fm d)=true:=by simpa using c
 rw[c,BA]at q;left;cases s with
 |new x k w=>
  unfold Sm.Ok at so;show if(!decide (V.str "new" = V.str "new"))=true then _ else _
  left;exact HI (i:=2) rfl ?_;left;exact HI (i:=3) rfl ?_;left;exact Ψ2 k w ⟨rfl,so.2.1,by lia,so.2.2.2 _,AB l1 q⟩
 |_=>
  exact SV (by first|exact G8 (show("copy" : Str) ≠ "new" by decide +kernel)|exact G8 (show("part" : Str) ≠ "new" by decide +kernel)|exact G8 (show("put" : Str) ≠ "new" by decide +kernel)|exact G8 (show("add" : Str) ≠ "new" by decide +kernel)|exact G8 (show("drop" : Str) ≠ "new" by decide +kernel)|exact G8 (show("say" : Str) ≠ "new" by decide +kernel)|exact G8 (show("call" : Str) ≠ "new" by decide +kernel)|exact G8 (show("same" : Str) ≠ "new" by decide +kernel)|exact G8 (show("fail" : Str) ≠ "new" by decide +kernel)|exact G8 (show("try" : Str) ≠ "new" by decide +kernel)|exact G8 (show("back" : Str) ≠ "new" by decide +kernel)) ?_;exact AB l1 q
abbrev Mi:Stmt:=Au 45
theorem jk:Ak ["thing","depth"] ["thing","depth"] (AX Mi):=⟨rfl,rfl,rfl,by decide +kernel,rfl,by decide +kernel,by decide +kernel⟩
theorem aaq(F:cP K "is_body" "is_body" Mi f fd)(cZ:mg "DEEPEST_BODY" = some v1)(fe:Ca v1 (.int 4))(qr:AU P w K mg am "is_statement" (lv+22) ["thing","depth"] (Td n))(ah:mg "isinstance" = none)(aC:mg "tuple" = none)(bc:mg "all" = none):a8 P w K mg am Ag (lv+23) f fd ["thing","depth"] (Af (Lq (n+1))):=by
 exact As F jk (λts Γ Z Y h=>?_) (λcn A outer s H E ts Γ Z Y hr h=>?_)
 ·let⟨s,d,rfl,_⟩:=h
  rfl
 let⟨ss,d,rfl,so,sl,d5,dn,q⟩:=h;exact⟨_,(A5 (Ah (PW.pt (CQ (B0 YT (A0 1) (Ds rfl cZ fe)) (DJ (B5 (B7 (CR rfl ah rfl aC Dm (A0 0))))))) (A5 (AH B4)
  A7) A7)
  (A5 (AH (Av (F5 rfl) rfl bc F6 (A3 (EB (own:=["statement"]) (cap:=[(1,"depth")]) (Gb rfl (by decide +kernel) (by decide +kernel) rfl (⟨rfl,trivial⟩) rfl (⟨⟨rfl,rfl,rfl⟩,trivial⟩)) rfl (Dc (A0 0)) (λ_ _ _ _=>(BM (i:=0) (show List.Nodup (["statement","depth"]:List Str)from by decide +kernel) rfl (Or.inl rfl) (Or.inr rfl))) (λ_ _ _ _=>EH) (λ_ _ _ _=>(Ae qr hr (A3 (A0 0) (A3 (A0 1) A6))))) A6)))
  A7)),?_⟩
 simp only[Ai];unfold EO at q;rw[Yc]at q;left;exact AW (λc=>?_) (λc=>?_)
 ·have c:=Ej c
  left;rw[Du (show ¬d≤4 by lia),Dw]at q;exact AB .refl q
 have c:=FX c;rw[CI (show d≤4 by lia),BA]at q;left;exact Ψ2 _ true ⟨rfl,rfl,?_⟩;left;rw[KL];exact⟨CG (CJ (by rw[AV];lia)),?_⟩;exact⟨λv4 τ ys Γ'=>∃(ps qs:List Sm) (o1:Option T),v4=ps.map Sm.tr∧ss=qs++ps∧τ=[o1,some (.int d)]∧ys=(qs.map λs=>s.fm d).map T.bl∧Γ'=Γ,Ψ3 ss [] none ⟨rfl,rfl,rfl,rfl,rfl⟩,?_,?_⟩;rotate_left
 ·intro x r τ ys Γ'⟨ps,qs,o1,er,ez,rfl,rfl,rfl⟩
  cases ps with
  |nil=>cases er
  |cons p ps=>
   cases er;exact⟨trivial,?_⟩;left;exact Ψ2 p d ⟨rfl,Z4 so (by rw[ez];simp),by lia,by lia,?_⟩;exact Ψ3 ps (qs++[p]) _ ⟨rfl,by rw[ez];simp,rfl,by rw[Ao,Ao];rfl,rfl⟩
 intro τ ys Γ'⟨ps,qs,o1,er,ez,rfl,rfl,rfl⟩;have hp:ps=[]:=by
  cases ps with
  |nil=>rfl
  |cons _ _=>cases er
 subst hp;rw[Bt]at ez;rw[←ez];exact⟨trivial,?_⟩;intro p1 cS;generalize e1:A9 _ p1 (O.lst _)=Γ1;have g1:=AZ e1;have l1:=Ab e1 cS
 left;exact Ψ2 p1 _ ⟨rfl,Bk g1,?_⟩;rw[FC];exact AB l1 q
theorem Ze{f1 f2:Addr}{wH wG:FuncData}(F:cP K "is_body" "is_body" Mi f fd)(m:mg "is_body" = some (.ref f))(kp:W.keepIn K (.ref f)=true)(b:Binds K fd ["thing","depth"] [])
  (j5:cP K "is_statement" "is_statement" OI f1 wH) (jJ:mg "is_statement" = some (.ref f1)) (jc:W.keepIn K (.ref f1)=true) (jT:Binds K wH ["thing","depth"] [])
  (mO:cP K "is_of_sort" "is_of_sort" N9 f2 wG) (mi:mg "is_of_sort" = some (.ref f2)) (kJ:W.keepIn K (.ref f2)=true) (mH:Binds K wG ["sort","thing","depth"] [])
  (cf:AU P w K mg am "is_name" 1 ["thing"] He) (kz:AU P w K mg am "is_path" 2 ["thing"] Pb) (du:AU P w K mg am "is_kind" 20 ["thing"] JW) (bK:AU P w K mg am "is_whole" 1 ["thing"] Gw) (cp:AU P w K mg am "is_worth" 13 ["kind","thing"] (HY 6)) (cJ:mg "GREATEST_FAIL" = some v1) (eD:Ca v1 (.int 999)) (cZ:mg "DEEPEST_BODY" = some v2) (fe:Ca v2 (.int 4)) (dJ:mg "STATEMENTS" = some (.ref MG)) (h_ST:JD P w K MG) (ah:mg "isinstance" = none) (aC:mg "tuple" = none) (cE:mg "str" = none) (aG:mg "len" = none) (bc:mg "all" = none) (fo:mg "zip" = none) :
  ∀n:Nat,AU P w K mg am "is_body" (3*n+20) ["thing","depth"] (Lq n)
 |0=>Ψ2 f fd ⟨Ms λts Γ Z Y h=>by let⟨_,d,_,_,_,h1,h2,_⟩:=h;lia,m,kp,b⟩
 |n+1=>by
  have c:=Ze F m kp b j5 jJ jc jT mO mi kJ mH cf kz du bK cp cJ eD cZ fe dJ h_ST ah aC cE aG bc fo n;have c1:AU P w K mg am "is_of_sort" (3*n+21) ["sort","thing","depth"] (TS n):=Ψ2 f2 wG ⟨qV mO cf kz du bK c cJ eD ah aC bc,mi,kJ,mH⟩;have c2:AU P w K mg am "is_statement" (3*n+22) ["thing","depth"] (Td n):=Ψ2 f1 wH ⟨pP j5 dJ h_ST c1 cp ah aC cE aG bc fo,jJ,jc,jT⟩;exact Ψ2 f fd ⟨by rw[show 3*(n+1)+20=3*n+23 by lia];exact aaq F cZ fe c2 ah aC bc,m,kp,b⟩
theorem gG{f1 f2:Addr}{wH wG:FuncData}(F:cP K "is_worth" "is_worth" Mr f fd)(m:mg "is_worth" = some (.ref f))(kp:W.keepIn K (.ref f)=true)(b:Binds K fd ["kind","thing"] [])
  (nV:cP K "is_record" "is_record" OO f1 wH) (nJ:mg "is_record" = some (.ref f1)) (mn:W.keepIn K (.ref f1)=true) (nQ:Binds K wH ["fields","parts"] [])
  (nW:cP K "is_choice" "is_choice" MM f2 wG) (nK:mg "is_choice" = some (.ref f2)) (mq:W.keepIn K (.ref f2)=true) (nR:Binds K wG ["fields","pair"] [])
  (ik:AU P w K mg am "is_number" 2 ["width","thing"] YB) (ku:AU P w K mg am "is_text" 2 ["thing"] XK) (cv:mg "MOST_ITEMS" = some v1) (dM:Ca v1 (.int 60)) (ah:mg "isinstance" = none) (aC:mg "tuple" = none) (aG:mg "len" = none) (bc:mg "all" = none) (lI:mg "any" = none) (fo:mg "zip" = none) (cE:mg "str" = none) :
  ∀n:Nat,AU P w K mg am "is_worth" (2*n+1) ["kind","thing"] (HY n)
 |0=>Ψ2 f fd ⟨Ms λts Γ Z Y h=>by obtain⟨_,_,_,_,h,_⟩:=h;lia,m,kp,b⟩
 |n+1=>by
  have c:=gG F m kp b nV nJ mn nQ nW nK mq nR ik ku cv dM ah aC aG bc lI fo cE n;have c1:AU P w K mg am "is_record" (2*n+2) ["fields","parts"] (YQ n):=Ψ2 f1 wH ⟨Loc nV c aG bc fo,nJ,mn,nQ⟩;have c2:AU P w K mg am "is_choice" (2*n+2) ["fields","pair"] (S1 n):=Ψ2 f2 wG ⟨wu nW c aG lI ah cE,nK,mq,nR⟩;exact Ψ2 f fd ⟨by rw[show 2*(n+1)+1=2*n+3 by lia];exact tL F ik ku c c1 c2 cv dM ah aC aG bc,m,kp,b⟩
end
structure Pr where
 nm:Str
 sd:Int
 ps:List (Str×Str×Kd)
 re:Option Kd
def BB(q:Str×Str×Kd):T:=.tup [.str q.1,.str q.2.1,q.2.2.tr]
def Pr.tr(p:Pr):T:=.tup [.str p.nm,.int p.sd,.tup (p.ps.map BB),EV p.re]
structure Pr.Ok(p:Pr):Prop where
 nm:Nm p.nm
 sd:p.sd=0∨p.sd=1
 pl:∀q∈p.ps,Nm q.1∧q.2.1∈cL∧q.2.2.good∧q.2.2.depth≤5
 nd:(p.ps.map (·.1)).Nodup
 ln:p.ps.length≤900
 re:∀k,p.re=some k→k.good∧k.depth≤5
theorem Nm.le(h:Nm z):z.length≤8:=h.2.1
theorem jr{q:Str×Str×Kd}(h:Nm q.1∧q.2.1∈cL∧q.2.2.good∧q.2.2.depth≤5):Pt Γ (BB q):=by
 have hw:q.2.1.length≤5:=(show ∀z∈cL,z.length≤5 by decide +kernel) _ h.2.1;exact .tup (by simp) λt m=>?_;rcases XO.mp m with rfl|m
 ·exact .str (by have:=h.1.le;lia)
 rcases XO.mp m with rfl|m
 ·exact .str (by lia)
 rcases XO.mp m with rfl|m
 ·exact Jf h.2.2.1
 cases m
theorem sA{o:Option Kd}(h:∀k,o=some k→k.good∧k.depth≤5):Pt Γ (EV o):=by
 cases o with
 |none=>exact .non
 |some k=>exact Jf (h k rfl).1
theorem Pr.pt{p:Pr}(h:p.Ok):Pt Γ p.tr:=by
 exact .tup (by simp) λt m=>?_;rcases XO.mp m with rfl|m
 ·exact .str (by have:=h.nm.le;lia)
 rcases XO.mp m with rfl|m
 ·exact .int _
 rcases XO.mp m with rfl|m
 ·exact .tup (by rw[AV];have:=h.ln;lia) λt m=>?_
  let⟨q,hq,rfl⟩:=X9.mp m;exact jr (h.pl q hq)
 rcases XO.mp m with rfl|m
 ·exact sA h.re
 cases m
theorem Pr.pa{p:Pr}(h:p.Ok):Mu p.tr=true:=by
 show(Dl (.str p.nm)&&(HK (.int p.sd)&&(IU (.tup (p.ps.map BB))&&JM (EV p.re))))=true
 rw[LM h.nm,BA,E9,E9];exact⟨?_,?_,?_⟩
 ·show(decide (p.sd=0)||decide (p.sd=1))=true
  rcases h.sd with e|e<;>simp[e]
 ·rw[cV,E9]
  exact⟨Yw.mpr λt m=>?_,CI ?_⟩
  ·let⟨q,hq,rfl⟩:=X9.mp m
   have o:=h.pl q hq;show(Dl (.str q.1)&&(decide (q.2.1∈cL)&&BK 5 q.2.2.tr))=true
   rw[LM o.1,CI o.2.1,MN o.2.2.1 o.2.2.2];rfl
  ·rw[Dn];exact h.nd
 ·cases e:p.re with
  |none=>rfl
  |some k=>
   have o:=h.re k e;have:JM (EV (some k))=BK 5 k.tr:=by show JM k.tr=_;cases k<;>rw[Kd.tr]<;>rfl
   rw[this,MN o.1 o.2]
structure Dr where
 p:Pr
 b:List Sm
def Dr.tr(d:Dr):T:=.tup [d.p.tr,.tup (BI d.b)]
structure Dr.Ok(d:Dr):Prop where
 p:d.p.Ok
 b:By d.b
 l:d.b.length≤1000
structure Sh where
 nm:Str
 sd:Int
 k:Kd
 w:T
def Sh.tr(s:Sh):T:=.tup [.str s.nm,.int s.sd,s.k.tr,s.w]
structure Sh.Ok(s:Sh):Prop where
 nm:Nm s.nm
 sd:s.sd=0∨s.sd=1
 k:s.k.good∧s.k.depth≤5
 w:∀Γ,Pt Γ s.w
section
variable {K: W.Frag}
abbrev TC:Stmt:=Au 43
theorem mE:Ak ["thing"] ["thing"] (AX TC):=⟨rfl,rfl,rfl,by decide +kernel,rfl,by decide +kernel,by decide +kernel⟩
def gH:Am:=λts Γ Z _=>∃d:Dr,ts=[d.tr]∧d.Ok∧Z (.bl (EO d.b 1)) Γ
theorem vE(F:cP K "is_door" "is_door" TC f fd)(wY:AU P w K mg am "is_paper" 23 ["thing"] Ym)(nC:AU P w K mg am "is_body" 38 ["thing","depth"] (Lq 6))(ah:mg "isinstance" = none)(aC:mg "tuple" = none)(aG:mg "len" = none):a8 P w K mg am Ag 39 f fd ["thing"] (Af gH):=by
 exact As F mE (λts Γ Z Y h=>?_) (λcn A outer s H E ts Γ Z Y hr h=>?_)
 ·let⟨d,rfl,_⟩:=h
  rfl
 let⟨d,rfl,o,q⟩:=h;exact⟨_,(A5 (Ah (PW.pt (CQ (B5 (B7 (CR rfl ah rfl aC Dm (A0 0)))) (DJ (B0 EI (Av DL rfl aG Bm (A3 (A0 0) A6)) AA)))) (A5 (AH B4)
  A7) A7)
  (A5 (AH (CK (Ae wY hr (A3 (AY (A0 0) AA) A6)) (CA (Ae nC hr (A3 (AY (A0 0) AA) (A3 AA A6))))))
  A7)),?_⟩
 simp only[Ai,Dr.tr];left;exact Ψ2 _ true ⟨rfl,rfl,?_⟩;left;exact⟨d.p.tr,rfl,Pr.pt o.p,λx y us r e=>?_,?_⟩
 ·unfold Pr.tr at e
  cases e;rw[AV];have:=o.p.ln;lia
 rw[Pr.pa o.p];left;exact Ψ2 d.b 1 ⟨rfl,o.b,o.l,by decide,by decide,AB .refl q⟩
abbrev Ss:Stmt:=Au 44
theorem fP:Ak ["thing","name","side","kind","worth"] ["thing"] (AX Ss):=⟨rfl,rfl,rfl,by decide +kernel,rfl,by decide +kernel,by decide +kernel⟩
def bJ:Am:=λts Γ Z _=>∃s:Sh,ts=[s.tr]∧s.Ok∧Z (.bl (Bp s.k s.w)) Γ
theorem xh(F:cP K "is_shelf" "is_shelf" Ss f fd)(cf:AU P w K mg am "is_name" 1 ["thing"] He)(nB:AU P w K mg am "is_side" 2 ["thing"] Pe)(du:AU P w K mg am "is_kind" 20 ["thing"] JW)(cp:AU P w K mg am "is_worth" 13 ["kind","thing"] (HY 6))(ah:mg "isinstance" = none)(aC:mg "tuple" = none)(aG:mg "len" = none):a8 P w K mg am Ag 21 f fd ["thing"] (Af bJ):=by
 exact As F fP (λts Γ Z Y h=>?_) (λcn A outer s H E ts Γ Z Y hr h=>?_)
 ·let⟨d,rfl,_⟩:=h
  rfl
 let⟨d,rfl,o,q⟩:=h;exact⟨_,(A5 (Ah (PW.pt (CQ (B5 (B7 (CR rfl ah rfl aC Dm (A0 0)))) (DJ (B0 EI (Av DL rfl aG Bm (A3 (A0 0) A6)) AA)))) (A5 (AH B4)
  A7) A7)
  (A5 (EJ (A0 0) (Be (n:=4) rfl (AL (Aa (i:=1) fP.nd) (AL (Aa (i:=2) fP.nd) (AL (Aa (i:=3) fP.nd) (AL (Aa (i:=4) fP.nd) Bd))))))
  (A5 (AH (CK (Ae cf hr (A3 (A0 1) A6)) (CK (Ae nB hr (A3 (A0 2) A6)) (CK (Ae du hr (A3 (A0 3) A6)) (CA (Ae cp hr (A3 (A0 3) (A3 (A0 4) A6))))))))
  A7))),?_⟩
 simp only[Ai,Sh.tr];left;exact Ψ2 _ true ⟨rfl,rfl,?_⟩;left;exact⟨.str d.nm,rfl,.str (by have:=o.nm.le;lia),?_⟩;rw[LM o.nm];left;exact⟨.int d.sd,rfl,.int _,?_⟩;rw[show HK (.int d.sd)=true by show(decide (d.sd=0)||decide (d.sd=1))=true;rcases o.sd with e|e<;>simp[e]]
 left;exact⟨d.k.tr,rfl,Jf o.k.1,?_⟩;rw[MN o.k.1 o.k.2];left;exact Ψ2 d.k d.w ⟨rfl,o.k.1,by have:=o.k.2;lia,o.w _,AB .refl q⟩
abbrev VK:Stmt:=Au 42
theorem dS:Ak ["thing","doors","shelves"] ["thing"] (AX VK):=⟨rfl,rfl,rfl,by decide +kernel,rfl,by decide +kernel,by decide +kernel⟩
def aQ:Am:=λts Γ Z _=>∃(ds:List Dr) (hs:List Sh),ts=[.tup [.tup (ds.map Dr.tr),.tup (hs.map Sh.tr)]]∧ds.length≤900∧hs.length≤900∧(∀d∈ds,d.Ok)∧(∀s∈hs,s.Ok)∧Z (.bl ((ds.all λd=>EO d.b 1)&&hs.all λs=>Bp s.k s.w)) Γ
theorem kG(F:cP K "has_program_form" "has_program_form" VK f fd)(ze:AU P w K mg am "is_door" 39 ["thing"] gH)(wV:AU P w K mg am "is_shelf" 21 ["thing"] bJ)(ah:mg "isinstance" = none)(aC:mg "tuple" = none)(aG:mg "len" = none)(bc:mg "all" = none):a8 P w K mg am Ag 40 f fd ["thing"] (Af aQ):=by
 exact As F dS (λts Γ Z Y h=>?_) (λcn A outer s H E ts Γ Z Y hr h=>?_)
 ·let⟨ds,hs,rfl,_⟩:=h
  rfl
 let⟨ds,hs,rfl,dl,sl,od,os,q⟩:=h;exact⟨_,(A5 (Ah (PW.pt (CQ (B5 (B7 (CR rfl ah rfl aC Dm (A0 0)))) (DJ (B0 EI (Av DL rfl aG Bm (A3 (A0 0) A6)) AA)))) (A5 (AH B4)
  A7) A7)
  (A5 (EJ (A0 0) (Be (n:=2) rfl (AL (Aa (i:=1) dS.nd) (AL (Aa (i:=2) dS.nd) Bd))))
  (A5 (Ah (PW.pt (CQ (B5 (B7 (CR rfl ah rfl aC Dm (A0 1)))) (DJ (B5 (B7 (CR rfl ah rfl aC Dm (A0 2))))))) (A5 (AH B4)
  A7) A7)
  (A5 (AH (CK (Av (F5 rfl) rfl bc F6 (A3 (EB (own:=["door"]) (cap:=[]) Ez rfl (Dc (A0 1)) (λ_ _ _ _=>Hr) (λ_ _ _ _=>EH) (λ_ _ _ _=>(Ae ze hr (A3 (A0 0) A6)))) A6)) (CA (Av (F5 rfl) rfl bc F6 (A3 (EB (own:=["shelf"]) (cap:=[]) Ez rfl (Dc (A0 2)) (λ_ _ _ _=>Hr) (λ_ _ _ _=>EH) (λ_ _ _ _=>(Ae wV hr (A3 (A0 0) A6)))) A6)))))
  A7)))),?_⟩
 simp only[Ai];left;exact Ψ2 _ true ⟨rfl,rfl,?_⟩;left;exact Ψ2 _ true ⟨rfl,rfl,?_⟩;left;exact Ψ2 _ true ⟨rfl,rfl,?_⟩;left;exact⟨CG (CJ (by rw[AV];lia)),?_⟩;exact⟨λv4 τ ys Γ'=>∃(ps qs:List Dr) (o1:Option T),v4=ps.map Dr.tr∧ds=qs++ps∧τ=[o1]∧ys=(qs.map λd=>EO d.b 1).map T.bl∧Γ'=Γ,Ψ3 ds [] none ⟨rfl,rfl,rfl,rfl,rfl⟩,?_,?_⟩;rotate_left
 ·intro x r τ ys Γ'⟨ps,qs,o1,er,ez,rfl,rfl,rfl⟩
  cases ps with
  |nil=>cases er
  |cons p ps=>
   cases er;exact⟨trivial,?_⟩;left;exact⟨p,rfl,od p (by rw[ez];simp),?_⟩;exact Ψ3 ps (qs++[p]) _ ⟨rfl,by rw[ez];simp,rfl,by rw[Ao,Ao];rfl,rfl⟩
 intro τ ys Γ'⟨ps,qs,o1,er,ez,rfl,rfl,rfl⟩;have hp:ps=[]:=by
  cases ps with
  |nil=>rfl
  |cons _ _=>cases er
 subst hp;rw[Bt]at ez;rw[←ez];exact⟨trivial,?_⟩;intro p1 cS;generalize e1:A9 _ p1 (O.lst _)=Γ1;have g1:=AZ e1;have l1:=Ab e1 cS
 left;exact Ψ2 p1 _ ⟨rfl,Bk g1,?_⟩;rw[FC];left;exact AW (λc=>?_) (λc=>?_);rotate_left
 ·have c:(ds.all λd=>EO d.b 1)=false:=c
  rw[c,Dw]at q;exact AB l1 q
 have c:(ds.all λd=>EO d.b 1)=true:=c;rw[c,BA]at q;left;exact⟨CG (CJ (by rw[AV];lia)),?_⟩;exact⟨λv4 τ ys Γ'=>∃(ps qs:List Sh) (o1:Option T),v4=ps.map Sh.tr∧hs=qs++ps∧τ=[o1]∧ys=(qs.map λs=>Bp s.k s.w).map T.bl∧Γ'=Γ1,Ψ3 hs [] none ⟨rfl,rfl,rfl,rfl,rfl⟩,?_,?_⟩;rotate_left
 ·intro x r τ ys Γ'⟨ps,qs,o1,er,ez,rfl,rfl,rfl⟩
  cases ps with
  |nil=>cases er
  |cons p ps=>
   cases er;exact⟨trivial,?_⟩;left;exact⟨p,rfl,os p (by rw[ez];simp),?_⟩;exact Ψ3 ps (qs++[p]) _ ⟨rfl,by rw[ez];simp,rfl,by rw[Ao,Ao];rfl,rfl⟩
 intro τ ys Γ'⟨ps,qs,o1,er,ez,rfl,rfl,rfl⟩;have hp:ps=[]:=by
  cases ps with
  |nil=>rfl
  |cons _ _=>cases er
 subst hp;rw[Bt]at ez;rw[←ez];exact⟨trivial,?_⟩;intro p2 hU;generalize e2:A9 _ p2 (O.lst _)=Γ2;have g2:=AZ e2;have l2:=Ab e2 hU
 left;exact Ψ2 p2 _ ⟨rfl,Bk g2,?_⟩;rw[FC];exact AB (l1.trans l2) q
end
abbrev GD{α:Type}(g:α→T)(l:List (Str×α)):List (AG×T):=l.map λp=>((Sum.inr p.1:AG),g p.2)
theorem DZ{α:Type}(g:α→T):∀(l:List (Str×α)) (x:Str),DQ (GD g l) (.inr x)=(l.lookup x).map g
 |[],x=>rfl
 |(y,b)::r,x=>by
  have ih:=DZ g r x;unfold DQ at ih ⊢;show Option.map _ (List.find? _ (((Sum.inr y:AG),g b)::GD g r))=_
  rw[G4,HA];by_cases h:y=x
  ·subst h;simp
  ·have h1:¬((Sum.inr y:AG)=Sum.inr x):=λe=>h (LB e)
   have h2:(x==y)=false:=by rw[YD];exactλe=>h e.symm
   rw[h2];simp only[h1,decide_false];exact ih
theorem eL{α:Type}:∀{l:List (Str×α)} {x:Str},l.lookup x=none↔x∉l.map (·.1)
 |[],x=>by simp
 |(y,b)::r,x=>by
  rw[HA];by_cases h:x=y
  ·subst h;simp
  ·rw[show(x==y)=false by rw[YD];exact h,BQ,XO]
   have:=eL (l:=r) (x:=x);simp[h,this]
theorem LK{α:Type}(g:α→T){l:List (Str×α)}{v:α}(h:l.lookup x=none):ED (GD g l) (.inr x) (g v)=GD g (l++[(x,v)]):=by
 unfold ED;rw[AN]
 ·unfold GD;rw[Ao];rfl
 ·unfold GD;rw[List.any_map]
  intro z;let⟨p,hp,e⟩:=ZL.mp z;have e:(Sum.inr p.1:AG)=Sum.inr x:=Ej e;exact eL.mp h (X9.mpr ⟨p,hp,LB e⟩)
theorem Gs{α:Type}{l m:List (Str×α)}:(l++m).lookup x=(l.lookup x).or (m.lookup x):=by
 induction l with
 |nil=>rfl
 |cons p r ih=>
  rw[Fd,HA,HA,ih];cases x==p.1<;>rfl
abbrev Jm(l:List (Str×Pr)):List (AG×T):=GD Pr.tr l
abbrev KC(l:List (Str×Str)):List (AG×T):=GD T.str l
abbrev CM(l:ad):List (AG×T):=GD Kd.tr l
abbrev Pf(C dx pp:Addr)(r:T)(pw pk:Addr):O:=.ins C dx [("papers",.ref pp),("result",r),("ways",.ref pw),("kinds",.ref pk)]
structure Sc(C:Addr)(Γ:AJ)(a:Addr)(Ps:List (Str×Pr))(re:Option Kd)(W:List (Str×Str))(ks:ad)(pk:Addr):Prop where
 ex:∃dx pp pw,Γ a=some (Pf C dx pp (EV re) pw pk)∧Γ pp=some (.dK (Jm Ps))∧Γ pw=some (.dK (KC W))∧pp≠pk∧pw≠pk
 kk:Γ pk=some (.dK (CM ks))
section
variable {Γ Γ': AJ}{a pk: Addr}{W: List (Str×Str)}{ks: ad}
theorem Sc.mono(l:Le Γ Γ')(h:Sc C Γ a Ps re W ks pk):Sc C Γ' a Ps re W ks pk:=by
 obtain⟨⟨dx,pp,pw,h1,h2,h3,n1,n2⟩,h4⟩:=h;exact⟨Ψ3 dx pp pw ⟨l _ _ h1,l _ _ h2,l _ _ h3,n1,n2⟩,l _ _ h4⟩
theorem Sc.kq(l:Kq [pk] Γ Γ')(h:Sc C Γ a Ps re W ks pk){LH:ad}(k:Γ' pk=some (.dK (CM LH))):Sc C Γ' a Ps re W LH pk:=by
 obtain⟨⟨dx,pp,pw,h1,h2,h3,n1,n2⟩,h4⟩:=h;have n0:a≠pk:=YO h1 h4 (by simp);exact⟨Ψ3 dx pp pw ⟨l _ _ (by simpa using n0) h1,l _ _ (by simpa using n1) h2,l _ _ (by simpa using n2) h3,n1,n2⟩,k⟩
theorem Sc.set(h:Sc C Γ a Ps re W ks pk)(LH:ad):Sc C (A9 Γ pk (.dK (CM LH))) a Ps re W LH pk:=h.kq (Kq.set (by simp) _) B1
end
noncomputable def kq(k k':Kd):Bool:=BR k.tr k'.tr
theorem GO(k:Kd):kq k k=true:=F2 (b:=true) (by simp)
def DG(W:List (Str×Str))(x:Str):Bool:=!(decide (W.lookup x=some "lend")||decide (W.lookup x=some "lease"))
noncomputable def D6(W:List (Str×Str))(ks:ad)(x:Str)(k:Kd):Bool×ad:=if DG W x=true then(match ks.lookup x with|some k'=>(kq k' k,ks)|none=>(true,ks++[(x,k)]))else(false,ks)
def Kv(z:Str):List Str:=if z = "lend" then ["give","lease"]else if z = "lease" then ["give"]else []
noncomputable def GL(W:List (Str×Str))(ks:ad)(x:Str)(q:Str×Str×Kd):Bool:=match ks.lookup x with|none=>false|some k=>kq k q.2.2&&!decide (q.2.1∈Kv ((W.lookup x).getD "copy"))
def Fp(ks:ad):Prop:=∀p∈ks,p.2.good∧p.2.depth≤5
def fG(W:List (Str×Str)):Prop:=∀p∈W,p.2∈cL
theorem E8{α:Type}:∀{l:List (Str×α)} {x:Str} {v:α},l.lookup x=some v→(x,v)∈l
 |(y,b)::r,x,v,h=>by
  rw[HA]at h;by_cases e:x=y
  ·subst e
   rw[show(x==x)=true by simp]at h;cases h;simp
  ·rw[show(x==y)=false by rw[YD];exact e]at h
   exact Dz _ (E8 h)
mutual
theorem M8:∀{k:Kd} {d:Nat},k.depth≤d→Dp (3*d) k.tr
 |.num w,d,h=>by
  rw[Kd.depth]at h;obtain⟨e,rfl⟩:∃e,d=e+1:=⟨d-1,by lia⟩;rw[Kd.tr];exact .tup (d:=3*e+2) λt m=>?_;rcases XO.mp m with rfl|m
  ·exact .str _
  rcases XO.mp m with rfl|m
  ·exact .int _
  cases m
 |.text,d,h=>by
  rw[Kd.depth]at h;obtain⟨e,rfl⟩:∃e,d=e+1:=⟨d-1,by lia⟩;rw[Kd.tr];exact .tup (d:=3*e+2) λt m=>?_;rcases XO.mp m with rfl|m
  ·exact .str _
  cases m
 |.row k,d,h=>by
  rw[Kd.depth]at h;obtain⟨e,rfl⟩:∃e,d=e+1:=⟨d-1,by lia⟩;rw[Kd.tr];exact .tup (d:=3*e+2) λt m=>?_;rcases XO.mp m with rfl|m
  ·exact .str _
  rcases XO.mp m with rfl|m
  ·exact(M8 (show k.depth≤e by lia)).mono (by lia)
  cases m
 |.rec_ fs,d,h=>by
  rw[Kd.depth]at h;obtain⟨e,rfl⟩:∃e,d=e+1:=⟨d-1,by lia⟩;rw[Kd.tr];exact .tup (d:=3*e+2) λt m=>?_;rcases XO.mp m with rfl|m
  ·exact .str _
  rcases XO.mp m with rfl|m
  ·exact .tup (d:=3*e+1) (XW (by lia))
  cases m
 |.pick fs,d,h=>by
  rw[Kd.depth]at h;obtain⟨e,rfl⟩:∃e,d=e+1:=⟨d-1,by lia⟩;rw[Kd.tr];exact .tup (d:=3*e+2) λt m=>?_;rcases XO.mp m with rfl|m
  ·exact .str _
  rcases XO.mp m with rfl|m
  ·exact .tup (d:=3*e+1) (XW (by lia))
  cases m
theorem XW:∀{fs:List (Str×Kd)} {e:Nat},G9 fs≤e→∀t∈D7 fs,Dp (3*e+1) t
 |[],e,h,t,m=>by rw[D7]at m;cases m
 |(n,k)::r,e,h,t,m=>by
  rw[G9]at h;rw[D7]at m;rcases XO.mp m with rfl|m
  ·exact .tup (d:=3*e) λt m=>?_
   rcases XO.mp m with rfl|m
   ·exact .str _
   rcases XO.mp m with rfl|m
   ·exact M8 (by lia)
   cases m
  ·exact XW (by lia) t m
end
theorem GA(k:Kd):∃ts,k.tr=.tup ts:=by cases k<;>(rw[Kd.tr];exact⟨_,rfl⟩)
theorem Dp.items(h:Dp (d+1) (.tup ts)):∀t∈ts,Dp d t:=by
 cases h with
 |tup q=>exact q
theorem IY{k':Kd}(h:k.depth≤6)(h':k'.depth≤6):It 17 k.tr k'.tr:=by
 have a:=M8 h;have b:=M8 h';let⟨ts,e⟩:=GA k;let⟨us,e'⟩:=GA k';rw[e]at a ⊢;rw[e']at b ⊢;exact .tup (Dp.items (d:=17) a) (Dp.items (d:=17) b)
def MO(P:Program)(w:World)(K:W.Frag)(a:Addr):Prop:=∃b1 b2 b3 b4,yc P w K a [("copy",b1),("give",b2),("lend",b3),("lease",b4)]∧dR K b1 []∧dR K b2 []∧dR K b3 [.str "give",.str "lease"]∧dR K b4 [.str "give"]
theorem MO.get{P:Program}{w:World}{K:W.Frag}(h:MO P w K a)(hz:z∈cL):∃ay b,yc P w K a ay∧ay.lookup z=some b∧dR K b ((Kv z).map V.str):=by
 let⟨b1,b2,b3,b4,kd,k1,k2,k3,k4⟩:=h;rcases XO.mp hz with rfl|hz
 ·exact Ψ2 _ b1 ⟨kd,rfl,k1⟩
 rcases XO.mp hz with rfl|hz
 ·exact Ψ2 _ b2 ⟨kd,rfl,k2⟩
 rcases XO.mp hz with rfl|hz
 ·exact Ψ2 _ b3 ⟨kd,rfl,k3⟩
 rcases XO.mp hz with rfl|hz
 ·exact Ψ2 _ b4 ⟨kd,rfl,k4⟩
 cases hz
section
variable {K: W.Frag}{Qp: Addr}
abbrev TM:Stmt:=mem 53 1
theorem lp:Ak ["self","name"] ["self","name"] (AX TM):=⟨rfl,rfl,rfl,by decide +kernel,rfl,by decide +kernel,by decide +kernel⟩
def GN(C:Addr):Am:=λts Γ Z _=>∃(a pk:Addr) (x:Str) (Ps:List (Str×Pr)) (re:Option Kd) (W:List (Str×Str)) (ks:ad),ts=[.ref a,.str x]∧Sc C Γ a Ps re W ks pk∧Z (.bl (ks.lookup x).isSome) Γ
theorem tR(F:cP K "knows" "Scope.knows" TM f fd)(aw:nD K C)(av:bw K C "kinds"):a8 P w K mg am Ag 1 f fd ["self","name"] (Af (GN C)):=by
 exact As F lp (λts Γ Z Y h=>?_) (λcn A outer s H E ts Γ Z Y hr h=>?_)
 ·let⟨a,pk,x,_,_,_,_,rfl,_⟩:=h
  rfl
 obtain⟨a,pk,x,Ps,re,W,ks,rfl,⟨⟨dx,pp,pw,h1,h2,h3,n1,n2⟩,h4⟩,q⟩:=h;exact⟨_,(A5 (AH (GR (dh (C3 (Cb (by decide:1≤64) _) hr.units)) (A0 1) (DX aw av (A0 0)) (by with_unfolding_all rfl)))
  A7),?_⟩
 simp only[Ai];left;exact Ψ3 pk _ (.inr x) ⟨rfl,rfl,h4,?_⟩;rw[DZ,K5];exact AB .refl q
abbrev Y2:Stmt:=mem 53 2
theorem vH:Ak ["self","name"] ["self","name"] (AX Y2):=⟨rfl,rfl,rfl,by decide +kernel,rfl,by decide +kernel,by decide +kernel⟩
def KD(C:Addr):Am:=λts Γ Z _=>∃(a pk:Addr) (x:Str) (Ps:List (Str×Pr)) (re:Option Kd) (W:List (Str×Str)) (ks:ad),ts=[.ref a,.str x]∧Sc C Γ a Ps re W ks pk∧Z (.bl (DG W x)) Γ
theorem wI(F:cP K "is_own" "Scope.is_own" Y2 f fd)(aw:nD K C)(bF:bw K C "ways"):a8 P w K mg am Ag 1 f fd ["self","name"] (Af (KD C)):=by
 exact As F vH (λts Γ Z Y h=>?_) (λcn A outer s H E ts Γ Z Y hr h=>?_)
 ·let⟨a,pk,x,_,_,_,_,rfl,_⟩:=h
  rfl
 obtain⟨a,pk,x,Ps,re,W,ks,rfl,⟨⟨dx,pp,pw,h1,h2,h3,n1,n2⟩,h4⟩,q⟩:=h;exact⟨_,(A5 (AH (GR Ol (FZ Kz HC Ml (ax (C3 (Cb (by decide:1≤64) _) hr.units)) (DX aw bF (A0 0)) (A3 (A0 1) A6)) (AP (A3 AM (A3 AM A6))) (by with_unfolding_all rfl)))
  A7),?_⟩
 simp only[Ai];left;exact⟨Hc h3,?_⟩;left;exact Ψ3 pw _ (.inr x) ⟨rfl,rfl,h3,?_⟩;rw[DZ];unfold DG at q;cases e:W.lookup x with
 |none=>
  rw[e]at q;left;exact AB .refl q
 |some z=>
  rw[e]at q;show So _ _ _ _ (λy Γ2=>K0 true (.str z) y Γ2 _)
  left;show Dx Z (.bl (!DK (.str z) [V.str "lend",V.str "lease"])) Γ
  rw[show [V.str "lend",V.str "lease"]=(["lend","lease"]:List Str).map V.str from rfl,IW];exact AB .refl ?_;have:decide (z∈(["lend","lease"]:List Str))=(decide (some z=some ("lend" : Str))||decide (some z=some ("lease" : Str))):=by
   rw[Fx];simp
  rw[this];exact q
abbrev X1:Stmt:=mem 53 3
theorem qo:Ak ["self","name","kind"] ["self","name","kind"] (AX X1):=⟨rfl,rfl,rfl,by decide +kernel,rfl,by decide +kernel,by decide +kernel⟩
def JE(C:Addr):Am:=λts Γ Z _=>∃(a pk:Addr) (x:Str) (k:Kd) (Ps:List (Str×Pr)) (re:Option Kd) (W:List (Str×Str)) (ks:ad),ts=[.ref a,.str x,k.tr]∧k.depth≤5∧Fp ks∧ks.length≤100000∧Sc C Γ a Ps re W ks pk∧Z (.bl (D6 W ks x k).1) (A9 Γ pk (.dK (CM (D6 W ks x k).2)))
theorem EN(h:Γ a=some o):A9 Γ a o=Γ:=by
 funext b
 by_cases e:b=a
 ·subst e;rw[B1,h]
 ·rw[Bz e]
theorem yq(F:cP K "may_make" "Scope.may_make" X1 f fd)(aw:nD K C)(av:bw K C "kinds")(bL:CZ P w K mg am C "is_own" 1 ["self","name"] (KD C)):a8 P w K mg am Ag 2 f fd ["self","name","kind"] (Af (JE C)):=by
 exact As F qo (λts Γ Z Y h=>?_) (λcn A outer s H E ts Γ Z Y hr h=>?_)
 ·let⟨a,pk,x,k,_,_,_,_,rfl,_⟩:=h
  rfl
 let⟨a,pk,x,k,Ps,re,W,ks,rfl,kd,gk,kl,hs,q⟩:=h;have hG:=hs;obtain⟨⟨dx,pp,pw,h1,h2,h3,n1,n2⟩,h4⟩:=hG;exact⟨_,(A5 (Ah (B5 (B7 (E4 bL hr (by lia) (A0 0) (A3 (A0 1) A6)))) (A5 (AH B4)
  A7) A7)
  (A5 (AH (Dh (Yn (d:=17) (C3 (Cb (by decide:1+17≤64) _) hr.units)) (FZ Kz fb PySem.F.type_dict_setdefault lj (DX aw av (A0 0)) (A3 (A0 1) (A3 (A0 2) A6))) (A0 2)))
  A7)),?_⟩
 simp only[Ai];unfold D6 at q;left;exact Ψ7 a pk x Ps re W ks ⟨rfl,hs,?_⟩;left;exact AW (λc=>?_) (λc=>?_)
 ·rw[AN (by simpa using c),EN h4]at q
  left;exact AB .refl q
 rw[AR (by simpa using c)]at q;left;exact⟨Hc h4,?_⟩;left;exact Ψ4 pk _ (.inr x) k.tr ⟨rfl,rfl,h4,by rw[AV,CS];lia,λt e=>?_,λe=>?_⟩
 ·rw[DZ]at e
  cases l:ks.lookup x with
  |none=>rw[l]at e;cases e
  |some k'=>
   rw[l]at e q;cases e;left;exact⟨IY (Eo (gk _ (E8 l)).2) (Eo kd),?_⟩;have q:Z (.bl (kq k' k)) (A9 Γ pk (.dK (CM ks))):=q;rw[EN h4]at q;exact AB .refl q
 ·rw[DZ]at e
  cases l:ks.lookup x with
  |some k'=>rw[l]at e;cases e
  |none=>
   rw[l]at q;rw[LK Kd.tr l];left;exact⟨IY (Eo kd) (Eo kd),?_⟩;have q:Z (.bl true) (A9 Γ pk (.dK (CM (ks++[(x,k)])))):=q;rw[show BR k.tr k.tr=true from GO k];exact AB .refl q
abbrev P1:Stmt:=mem 53 4
theorem xR:Ak ["self","name","place"] ["self","name","place"] (AX P1):=⟨rfl,rfl,rfl,by decide +kernel,rfl,by decide +kernel,by decide +kernel⟩
def QN(C:Addr):Am:=λts Γ Z _=>∃(a pk:Addr) (x:Str) (p:Str×Str×Kd) (Ps:List (Str×Pr)) (re:Option Kd) (W:List (Str×Str)) (ks:ad),ts=[.ref a,.str x,BB p]∧p.2.2.depth≤5∧Fp ks∧fG W∧Sc C Γ a Ps re W ks pk∧Z (.bl (GL W ks x p)) Γ
theorem mw(F:cP K "may_hand" "Scope.may_hand" P1 f fd)(aw:nD K C)(av:bw K C "kinds")(bF:bw K C "ways")(aE:CZ P w K mg am C "knows" 1 ["self","name"] (GN C))(iA:mg "BARRED_WAYS" = some (.ref Qp))(h_BW:MO P w K Qp):a8 P w K mg am Ag 2 f fd ["self","name","place"] (Af (QN C)):=by
 exact As F xR (λts Γ Z Y h=>?_) (λcn A outer s H E ts Γ Z Y hr h=>?_)
 ·let⟨a,pk,x,p,_,_,_,_,rfl,_⟩:=h
  rfl
 let⟨a,pk,x,p,Ps,re,W,ks,rfl,pd,gk,gw,hs,q⟩:=h;have hG:=hs;obtain⟨⟨dx,pp,pw,h1,h2,h3,n1,n2⟩,h4⟩:=hG;exact⟨_,(A5 (Ah (PW.pt (CQ (B5 (B7 (E4 aE hr (by lia) (A0 0) (A3 (A0 1) A6)))) (DJ (B0 (eT (d:=17) (C3 (Cb (by decide:1+17≤64) _) hr.units)) (GF (C3 (Cb (by decide:1≤64) _) hr.units) (DX aw av (A0 0)) (A0 1)) (AY (A0 2) AA))))) (A5 (AH B4)
  A7) A7)
  (A5 (AH (GR (rj (K:=K) rfl) (AY (A0 2) AA) (Yi (Ds rfl iA Kn) (FZ Kz HC Ml (vq (C3 (Cb (by decide:1≤64) _) hr.units)) (DX aw bF (A0 0)) (A3 (A0 1) (A3 AM A6)))) (by with_unfolding_all rfl)))
  A7)),?_⟩
 simp only[Ai,BB];unfold GL at q;left;exact Ψ7 a pk x Ps re W ks ⟨rfl,hs,?_⟩;cases l:ks.lookup x with
 |none=>
  rw[l]at q;left;exact AB .refl q
 |some k=>
  rw[l]at q;have q:Z (.bl (kq k p.2.2&&!decide (p.2.1∈Kv ((W.lookup x).getD "copy")))) Γ:=q;left;unfold Gd;left;exact Ψ4 pk _ (.inr x) k.tr ⟨rfl,rfl,h4,by rw[DZ,l];rfl,?_⟩;left;exact HI (i:=2) rfl ?_;have tw:=IY (Eo (gk _ (E8 l)).2) (Eo pd);let⟨ts,e⟩:=GA k;let⟨us,e'⟩:=GA p.2.2;unfold kq at q;rw[e,e']at tw q ⊢;cases tw with
  |tup t1 t2=>
   exact Ψ2 ts us ⟨rfl,rfl,t1,t2,?_⟩;left;exact AW (λc=>?_) (λc=>?_)
   ·rw[show BR (.tup ts) (.tup us)=false by simpa using c]at q
    left;exact AB .refl q
   rw[show BR (.tup ts) (.tup us)=true by simpa using c,BA]at q;left;unfold Sv;left;exact⟨Hc h3,?_⟩;left;exact Ψ4 pw _ (.inr x) (.str "copy") ⟨rfl,rfl,h3,?_⟩;have ev:((DQ (KC W) (.inr x)).getD (.str "copy"))=.str ((W.lookup x).getD "copy"):=by
    rw[DZ];cases W.lookup x<;>rfl
   rw[ev];have hz:(W.lookup x).getD "copy" ∈ cL:=by
    cases e2:W.lookup x with
    |none=>decide +kernel
    |some z=>exact gw _ (E8 e2)
   let⟨ay,b,kd,lk,kt⟩:=h_BW.get hz;exact Ψ4 Qp ay _ b ⟨rfl,kd,rfl,lk,?_⟩;exact Ψ3 (.str p.2.1) b _ ⟨rfl,rfl,rfl,kt,?_,?_⟩
   ·rw[FC];exact Yw.mpr λ_ _=>rfl
   rw[IW];exact AB .refl q
end
mutual
noncomputable def AE(Ps:List (Str×Pr))(re:Option Kd)(W:List (Str×Str)):Sm→List (Str×Kd)→Bool×List (Str×Kd)
 |.new x k _,ks=>D6 W ks x k
 |.copy x y,ks=>match ks.lookup y with|some k=>D6 W ks x k|none=>(false,ks)
 |.part x y p,ks=>match(ks.lookup y).bind λk=>CC k p with|some k=>D6 W ks x k|none=>(false,ks)
 |.put y p x,ks=>(match ks.lookup y,ks.lookup x with|some ky,some kx=>!decide (W.lookup y=some "lend")&&(match CC ky p with|some k=>kq k kx|none=>false)|_,_=>false,ks)
 |.add y p x,ks=>(match ks.lookup y,ks.lookup x with|some ky,some kx=>!decide (W.lookup y=some "lend")&&(match CC ky p with|some k=>kq k (.row kx)|none=>false)|_,_=>false,ks)
 |.drop x,ks=>((ks.lookup x).isSome&&DG W x,ks)
 |.say x,ks=>((ks.lookup x).isSome,ks)
 |.call z d ns,ks=>match Ps.lookup d with
  |none=>(false,ks)
  |some p=>if(decide (ns.length=p.ps.length)&&(ns.zip p.ps).all λq=>GL W ks q.1 q.2)=true then(match z,p.re with|none,_=>(true,ks)|some z,some k=>D6 W ks z k|some _,none=>(false,ks))else(false,ks)
 |.same x y a b,ks=>match ks.lookup x,ks.lookup y with
  |some kx,some ky=>if kq kx ky=true then(if(An Ps re W a ks).1=true then An Ps re W b (An Ps re W a ks).2 else(false,(An Ps re W a ks).2))else(false,ks)
  |_,_=>(false,ks)
 |.fail _,ks=>(true,ks)
 |.tri a b,ks=>if(An Ps re W a ks).1=true then An Ps re W b (An Ps re W a ks).2 else(false,(An Ps re W a ks).2)
 |.back x,ks=>(match ks.lookup x,re with|some k,some r=>DG W x&&kq k r|_,_=>false,ks)
noncomputable def An(Ps:List (Str×Pr))(re:Option Kd)(W:List (Str×Str)):List Sm→List (Str×Kd)→Bool×List (Str×Kd)
 |[],ks=>(true,ks)
 |s::r,ks=>if(AE Ps re W s ks).1=true then An Ps re W r (AE Ps re W s ks).2 else(false,(AE Ps re W s ks).2)
end
mutual
def Sm.sz:Sm→Nat
 |.same _ _ a b=>BU a+BU b+1
 |.tri a b=>BU a+BU b+1
 |_=>1
def BU:List Sm→Nat
 |[]=>0
 |s::r=>s.sz+BU r
end
mutual
def Sm.ht:Sm→Nat
 |.same _ _ a b=>max (Fi a) (Fi b)+1
 |.tri a b=>max (Fi a) (Fi b)+1
 |_=>0
def Fi:List Sm→Nat
 |[]=>0
 |s::r=>max s.ht (Fi r)
end
structure En(Ps:List (Str×Pr))(re:Option Kd)(W:List (Str×Str))(ks:ad)(n:Nat):Prop where
 gk:Fp ks
 gw:fG W
 ps:∀p∈Ps,p.2.Ok
 re:∀k,re=some k→k.good∧k.depth≤5
 ln:ks.length+n≤100000
theorem Kc:∀{p:List T} {k k':Kd},k.good→k.depth≤5→CC k p=some k'→k'.good∧k'.depth≤5
 |[],k,k',g,d,h=>by cases h;exact⟨g,d⟩
 |x::r,k,k',g,d,h=>by
  unfold CC at h;cases e:stepK k x with
  |none=>rw[e]at h;cases h
  |some k2=>
   rw[e]at h;let⟨a,b⟩:=tY g e;exact Kc a (by lia) h
theorem OT{W:List (Str×Str)}(g:Fp ks)(h:k.good∧k.depth≤5):Fp (D6 W ks x k).2∧(D6 W ks x k).2.length≤ks.length+1:=by
 unfold D6;split
 ·split
  ·exact⟨g,BO _⟩
  ·exact⟨λp m=>?_,by simp⟩
   rcases YE.mp m with m|m
   ·exact g p m
   ·rw[Yu]at m;subst m;exact h
 ·exact⟨g,BO _⟩
section
variable {W: List (Str×Str)}
mutual
theorem fU(hp:∀p∈Ps,p.2.Ok):∀{s:Sm} {ks:List (Str×Kd)},s.Ok→Fp ks→Fp (AE Ps re W s ks).2∧(AE Ps re W s ks).2.length≤ks.length+s.sz
 |.new x k _,ks,o,g=>by
  unfold Sm.Ok at o;unfold AE Sm.sz;exact OT g ⟨o.2.1,o.2.2.1⟩
 |.copy x y,ks,o,g=>by
  unfold AE Sm.sz;cases e:ks.lookup y with
  |some k=>exact OT g (g _ (E8 e))
  |none=>exact⟨g,BO _⟩
 |.part x y p,ks,o,g=>by
  unfold AE Sm.sz;cases e:ks.lookup y with
  |none=>exact⟨g,BO _⟩
  |some k=>
   show Fp (match CC k p with|some k=>D6 W ks x k|none=>(false,ks)).2∧_
   cases e2:CC k p with
   |none=>simp only[Yd,e2];exact⟨g,BO _⟩
   |some k'=>
    simp only[Yd,e2];have gk:=g _ (E8 e);exact OT g (Kc gk.1 gk.2 e2)
 |.put y p x,ks,o,g=>by unfold AE Sm.sz;exact⟨g,BO _⟩
 |.add y p x,ks,o,g=>by unfold AE Sm.sz;exact⟨g,BO _⟩
 |.drop x,ks,o,g=>by unfold AE Sm.sz;exact⟨g,BO _⟩
 |.say x,ks,o,g=>by unfold AE Sm.sz;exact⟨g,BO _⟩
 |.call z d ns,ks,o,g=>by
  unfold AE Sm.sz;cases e:Ps.lookup d with
  |none=>exact⟨g,BO _⟩
  |some p=>
   dsimp only;split
   ·split
    ·exact⟨g,BO _⟩
    ·rename_i e2
     exact OT g ((hp _ (E8 e)).re _ e2)
    ·exact⟨g,BO _⟩
   ·exact⟨g,BO _⟩
 |.same x y a b,ks,o,g=>by
  unfold Sm.Ok at o;unfold AE Sm.sz;split
  ·split
   ·have ia:=JS hp o.2.2.2.2.1 g
    split
    ·have ib:=JS hp o.2.2.2.2.2 ia.1
     exact⟨ib.1,by lia⟩
    ·exact⟨ia.1,by show(An Ps re W a ks).2.length≤_;lia⟩
   ·exact⟨g,by show ks.length≤_;lia⟩
  ·exact⟨g,by show ks.length≤_;lia⟩
 |.fail _,ks,o,g=>by unfold AE Sm.sz;exact⟨g,BO _⟩
 |.tri a b,ks,o,g=>by
  unfold Sm.Ok at o;unfold AE Sm.sz;have ia:=JS hp o.2.2.1 g;split
  ·have ib:=JS hp o.2.2.2 ia.1
   exact⟨ib.1,by lia⟩
  ·exact⟨ia.1,by show(An Ps re W a ks).2.length≤_;lia⟩
 |.back x,ks,o,g=>by unfold AE Sm.sz;exact⟨g,BO _⟩
theorem JS(hp:∀p∈Ps,p.2.Ok):∀{ss:List Sm} {ks:List (Str×Kd)},By ss→Fp ks→Fp (An Ps re W ss ks).2∧(An Ps re W ss ks).2.length≤ks.length+BU ss
 |[],ks,o,g=>by unfold An BU;exact⟨g,Ar _⟩
 |s::r,ks,o,g=>by
  unfold By at o;unfold An BU;have ia:=fU hp o.1 g;split
  ·have ib:=JS hp o.2 ia.1
   exact⟨ib.1,by lia⟩
  ·exact⟨ia.1,by show(AE Ps re W s ks).2.length≤_;lia⟩
end
theorem En.step(e:En Ps re W ks (s.sz+n))(o:s.Ok):En Ps re W (AE Ps re W s ks).2 n:=by
 have:=fU (re:=re) (W:=W) e.ps o e.gk;exact⟨this.1,e.gw,e.ps,e.re,by have:=e.ln;lia⟩
theorem En.EM{ss:List Sm}(e:En Ps re W ks (BU ss+n))(o:By ss):En Ps re W (An Ps re W ss ks).2 n:=by
 have:=JS (re:=re) (W:=W) e.ps o e.gk;exact⟨this.1,e.gw,e.ps,e.re,by have:=e.ln;lia⟩
theorem En.le(e:En Ps re W ks n)(h:m≤n):En Ps re W ks m:=⟨e.gk,e.gw,e.ps,e.re,by have:=e.ln;lia⟩
end
section
variable {K: W.Frag}
abbrev SQ:Stmt:=mem 53 0
theorem fE:Ak ["self","papers","paper","around","name","way","kind"] ["self","papers","paper","around"] (AX SQ):=⟨rfl,rfl,rfl,by decide +kernel,rfl,by decide +kernel,by decide +kernel⟩
def Zn(C:Addr):Am:=λts Γ Z _=>∃(a dx pp pa:Addr) (p:Pr) (Ps:List (Str×Pr)) (as:ad),ts=[.ref a,.ref pp,p.tr,.ref pa]∧Γ a=some (.ins C dx [])∧Γ pp=some (.dK (Jm Ps))∧Γ pa=some (.dK (CM as))∧p.Ok∧(∀q∈p.ps,as.lookup q.1=none)∧as.length≤1000∧
 ∀Γ' pk,Kq [a] Γ Γ'→Γ pk=none→Sc C Γ' a Ps p.re (p.ps.map λq=>(q.1,q.2.1)) (as++p.ps.map λq=>(q.1,q.2.2)) pk→Z .non Γ'
theorem uS(F:cP K "__init__" "Scope.__init__" SQ f fd)(aw:nD K C)(bD:bw K C "papers")(bC:bw K C "result")(bF:bw K C "ways")(av:bw K C "kinds")(vh:mg "dict" = none):a8 P w K mg am Ag 1 f fd ["self","papers","paper","around"] (Af (Zn C)):=by
 exact As F fE (λts Γ Z Y h=>?_) (λcn A outer s H E ts Γ Z Y hr h=>?_)
 ·let⟨_,_,_,_,_,_,_,rfl,_⟩:=h
  rfl
 let⟨a,dx,pp,pa,p,Ps,as,rfl,ga,gp,RK,o,no,al,q⟩:=h;exact⟨_,(A5 (OF aw bD (A0 0) (A0 1))
  (A5 (OF aw bC (A0 0) (AY (A0 2) AA))
  (A5 (OF aw bF (A0 0) (cY (own:=["name","way","kind"]) (cap:=[]) Ez rfl (Dc (AY (A0 2) AA)) (λ_ _ _ _=>(Be (n:=3) rfl (AL (BM (i:=0) (show List.Nodup (["name","way","kind"]:List Str)from by decide +kernel) rfl (Or.inl rfl) (Or.inr rfl)) (AL (BM (i:=1) (show List.Nodup (["name","way","kind"]:List Str)from by decide +kernel) rfl (Or.inl rfl) (Or.inr rfl)) (AL (BM (i:=2) (show List.Nodup (["name","way","kind"]:List Str)from by decide +kernel) rfl (Or.inl rfl) (Or.inr rfl)) Bd))))) (λ_ _ _ _=>(A0 0)) (λ_ _ _ _=>(A0 1))))
  (A5 (OF aw av (A0 0) (Nr zV rfl vh mW (A3 (A0 3) A6)))
  (A5 (GJ HS rfl (Dc (AY (A0 2) AA)) (Be (n:=3) rfl (AL (Aa (i:=4) fE.nd) (AL (Aa (i:=5) fE.nd) (AL (Aa (i:=6) fE.nd) Bd)))) (A5 (iI (C3 (Cb (by decide:1≤64) _) hr.units) (DX aw av (A0 0)) (A0 4) (A0 6))
  A7))
  A7))))),?_⟩
 simp only[Ai,Pr.tr];have Uc:pp≠a:=YO gp ga (by simp);have Ud:pa≠a:=YO RK ga (by simp);left;exact HI (i:=3) rfl ?_;left;unfold OK;left;exact HI (i:=2) rfl ?_;left;exact⟨by rw[AV,CS];have:=o.ln;lia,?_⟩;rw[ND];generalize e1:A9 Γ a _=Γ1;have g1:Γ1 a=some (.ins C dx [("papers",.ref pp),("result",EV p.re)]):=AZ e1;have k1:Kq [a] Γ Γ1:=e1 ▸ Kq.set (by simp) _;exact⟨λv4 τ ys Γ'=>∃(gs ds:List (Str×Str×Kd)) (o1 o2 o3:Option T),v4=gs.map BB∧p.ps=ds++gs∧τ=[o1,o2,o3]∧ys=KC (ds.map λq=>(q.1,q.2.1))∧Γ'=Γ1,Ψ5 p.ps [] none none none ⟨rfl,rfl,rfl,rfl,rfl⟩,?_,?_⟩;rotate_left
 ·intro x r τ ys Γ'⟨gs,ds,o1,o2,o3,er,ez,rfl,rfl,rfl⟩
  cases gs with
  |nil=>cases er
  |cons g gs=>
   cases er;exact⟨trivial,?_⟩;unfold BB;left;exact⟨.inr g.1,rfl,gs,ds++[g],_,_,_,rfl,by rw[ez];simp,rfl,?_,rfl⟩;rw[Ao];exact LK T.str (v:=g.2.1) (eL.mpr ?_);rw[Dn];have nd:=o.nd;rw[ez,Ao,YY]at nd;intro m;let⟨d,hd,e⟩:=X9.mp m;exact nd.2.2 d.1 (X9.mpr ⟨d,hd,rfl⟩) g.1 (by simp) e
 intro τ ys Γ'⟨gs,ds,o1,o2,o3,er,ez,rfl,rfl,rfl⟩;have hg:gs=[]:=by
  cases gs with
  |nil=>rfl
  |cons _ _=>cases er
 subst hg;rw[Bt]at ez;subst ez;exact⟨trivial,λpw Ry=>?_⟩;have OR:a≠pw:=EZ g1 Ry;left;exact Ψ3 a dx _ ⟨rfl,by rw[Bz OR];exact g1,by simp,?_⟩;generalize e2:A9 (A9 Γ' pw _) a _=Γ2;have g2:Γ2 a=some (.ins C dx [("papers",.ref pp),("result",EV p.re),("ways",.ref pw)]):=AZ e2;have k2:Kq [a] Γ Γ2:=by
  rw[←e2];exact(k1.trans (Kq.new Ry _)).trans (Kq.set (by simp) _)
 have w2:Γ2 pw=some (.dK (KC (p.ps.map λq=>(q.1,q.2.1)))):=by rw[←e2,Bz (CO OR)];exact B1
 left;exact Ψ2 pa _ ⟨rfl,k2 pa _ (by simpa using Ud) RK,λpk Ng=>?_⟩;have Ly:a≠pk:=EZ g2 Ng;have OY:pw≠pk:=EZ w2 Ng;left;exact Ψ3 a dx _ ⟨rfl,by rw[Bz Ly];exact g2,by simp,?_⟩;generalize e3:A9 (A9 Γ2 pk _) a _=Γ3;have g3:Γ3 a=some (Pf C dx pp (EV p.re) pw pk):=AZ e3;have k3:Kq [a] Γ Γ3:=by
  rw[←e3];exact(k2.trans (Kq.new Ng _)).trans (Kq.set (by simp) _)
 have w3:Γ3 pw=some (.dK (KC (p.ps.map λq=>(q.1,q.2.1)))):=by rw[←e3,Bz (CO OR),Bz OY];exact w2
 have h3:Γ3 pk=some (.dK (CM as)):=by rw[←e3,Bz (CO Ly)];exact B1
 have Lg:Γ pk=none:=by
  cases e:Γ pk with
  |none=>rfl
  |some u=>have:=k2 pk u (by simpa using CO Ly) e;rw[Ng]at this;cases this
 have Q8:pp≠pk:=EZ gp Lg;left;exact HI (i:=2) rfl ?_;left;exact⟨λv4 τ Γ'=>∃(gs ds:List (Str×Str×Kd)) (o4 o5 o6:Option T),v4=gs.map BB∧p.ps=ds++gs∧τ=[some (.ref a),some (.ref pp),some p.tr,some (.ref pa),o4,o5,o6]∧Kq [pk] Γ3 Γ'∧Γ' pk=some (.dK (CM (as++ds.map λq=>(q.1,q.2.2)))),Ψ5 p.ps [] none none none ⟨rfl,rfl,rfl,.refl,by rw[EK,Bt];exact h3⟩,?_,?_⟩
 ·intro τ Γ'⟨gs,ds,o4,o5,o6,er,ez,rfl,kq,hk⟩
  have hg:gs=[]:=by
   cases gs with
   |nil=>rfl
   |cons _ _=>cases er
  subst hg;rw[Bt]at ez;rw[←ez]at hk;exact⟨trivial,?_⟩;left;exact AB .refl (q Γ' pk ?_ Lg ⟨Ψ3 dx pp pw ⟨kq _ _ (by simpa using Ly) g3,kq _ _ (by simpa using Q8) (k3 _ _ (by simpa using Uc) gp),kq _ _ (by simpa using OY) w3,Q8,OY⟩,hk⟩);intro b u n h;have nb:b≠pk:=λe=>by subst e;rw[Lg]at h;cases h
  exact kq b u (by simpa using nb) (k3 b u n h)
 ·intro x r τ Γ'⟨gs,ds,o4,o5,o6,er,ez,rfl,kq,hk⟩
  cases gs with
  |nil=>cases er
  |cons g gs=>
   cases er;have RL:Γ' a=some (Pf C dx pp (EV p.re) pw pk):=kq _ _ (by simpa using Ly) g3;unfold BB;left;unfold eW;left;exact Ψ3 pk _ (.inr g.1) ⟨rfl,rfl,hk,by rw[AV,Br,AV,CS];have:=o.ln;rw[ez,Br]at this;lia,?_⟩;exact Ψ5 gs (ds++[g]) _ _ _ ⟨rfl,by rw[ez];simp,rfl,kq.trans (Kq.set (by simp) _),?_⟩;rw[B1];congr 2
   rw[Ao,←G3];exact LK Kd.tr (v:=g.2.2) ?_;rw[Gs,no g (by rw[ez];simp)];exact eL.mpr ?_;rw[Dn];have nd:=o.nd;rw[ez,Ao,YY]at nd;intro m;let⟨d,hd,e⟩:=X9.mp m;exact nd.2.2 d.1 (X9.mpr ⟨d,hd,rfl⟩) g.1 (by simp) e
end
def Sm.tag:Sm→Nat
 |.new ..=>0
 |.copy ..=>1
 |.part ..=>2
 |.put ..=>3
 |.add ..=>4
 |.drop ..=>5
 |.say ..=>6
 |.call ..=>7
 |.same ..=>8
 |.fail ..=>9
 |.tri ..=>10
 |.back ..=>11
theorem aal(h:s.tag=0):∃x k v,s=.new x k v:=by cases s<;>first|exact⟨_,_,_,rfl⟩|(simp[Sm.tag]at h)
theorem tI(h:s.tag=1):∃x y,s=.copy x y:=by cases s<;>first|exact⟨_,_,rfl⟩|(simp[Sm.tag]at h)
theorem rE(h:s.tag=2):∃x y p,s=.part x y p:=by cases s<;>first|exact⟨_,_,_,rfl⟩|(simp[Sm.tag]at h)
theorem uj(h:s.tag=3):∃y p x,s=.put y p x:=by cases s<;>first|exact⟨_,_,_,rfl⟩|(simp[Sm.tag]at h)
theorem nP(h:s.tag=4):∃y p x,s=.add y p x:=by cases s<;>first|exact⟨_,_,_,rfl⟩|(simp[Sm.tag]at h)
theorem mD(h:s.tag=5):∃x,s=.drop x:=by cases s<;>first|exact⟨_,rfl⟩|(simp[Sm.tag]at h)
theorem zJ(h:s.tag=6):∃x,s=.say x:=by cases s<;>first|exact⟨_,rfl⟩|(simp[Sm.tag]at h)
theorem oh(h:s.tag=7):∃z d ns,s=.call z d ns:=by cases s<;>first|exact⟨_,_,_,rfl⟩|(simp[Sm.tag]at h)
theorem kZ(h:s.tag=8):∃x y b1 b2,s=.same x y b1 b2:=by cases s<;>first|exact⟨_,_,_,_,rfl⟩|(simp[Sm.tag]at h)
theorem t6(h:s.tag=9):∃n0,s=.fail n0:=by cases s<;>first|exact⟨_,rfl⟩|(simp[Sm.tag]at h)
theorem sQ(h:s.tag=10):∃b1 b2,s=.tri b1 b2:=by cases s<;>first|exact⟨_,_,rfl⟩|(simp[Sm.tag]at h)
theorem jG(h:s.tag=11):∃x,s=.back x:=by cases s<;>first|exact⟨_,rfl⟩|(simp[Sm.tag]at h)
section
variable {K: W.Frag}
def Ew(C:Addr)(t:Nat)(m:Nat):Am:=λts Γ Z _=>∃(a pk:Addr) (s:Sm) (Ps:List (Str×Pr)) (re:Option Kd) (W:List (Str×Str)) (ks:ad),ts=[.ref a,s.tr]∧s.tag=t∧s.Ok∧s.ht<m∧En Ps re W ks s.sz∧Sc C Γ a Ps re W ks pk∧
 Z (.bl (AE Ps re W s ks).1) (A9 Γ pk (.dK (CM (AE Ps re W s ks).2)))
theorem Fc{C:Addr}{wd:Nat}{Z:Cw}{Y:Value→AJ→Prop}(h:Ew C wd m ts Γ Z Y):ts.length=2:=by
 let⟨_,_,_,_,_,_,_,rfl,_⟩:=h;rfl
abbrev Oi:Stmt:=Au 61
theorem wN:Ak ["scope","target","name"] ["scope","target","name"] (AX Oi):=⟨rfl,rfl,rfl,by decide +kernel,rfl,by decide +kernel,by decide +kernel⟩
def O0(W:List (Str×Str))(ks:ad)(y x:Str):Bool:=(ks.lookup y).isSome&&((ks.lookup x).isSome&&!decide (W.lookup y=some "lend"))
def MK(C:Addr):Am:=λts Γ Z _=>∃(a pk:Addr) (y x:Str) (Ps:List (Str×Pr)) (re:Option Kd) (W:List (Str×Str)) (ks:ad),ts=[.ref a,.str y,.str x]∧Sc C Γ a Ps re W ks pk∧Z (.bl (O0 W ks y x)) Γ
theorem yL(F:cP K "is_good_change" "is_good_change" Oi f fd)(aw:nD K C)(bF:bw K C "ways")(aE:CZ P w K mg am C "knows" 1 ["self","name"] (GN C)):a8 P w K mg am Ag 2 f fd ["scope","target","name"] (Af (MK C)):=by
 exact As F wN (λts Γ Z Y h=>?_) (λcn A outer s H E ts Γ Z Y hr h=>?_)
 ·let⟨_,_,_,_,_,_,_,_,rfl,_⟩:=h
  rfl
 let⟨a,pk,y,x,Ps,re,W,ks,rfl,hs,q⟩:=h;exact⟨_,(A5 (AH (CK (E4 aE hr (by lia) (A0 0) (A3 (A0 1) A6)) (CK (E4 aE hr (by lia) (A0 0) (A3 (A0 2) A6)) (CA (Dh EI (FZ Kz HC Ml (ax (C3 (Cb (by decide:1≤64) _) hr.units)) (DX aw bF (A0 0)) (A3 (A0 1) A6)) AM)))))
  A7),?_⟩
 simp only[Ai];have hG:=hs;obtain⟨⟨dx,pp,pw,h1,h2,h3,n1,n2⟩,h4⟩:=hG;unfold O0 at q;left;exact Ψ7 a pk y Ps re W ks ⟨rfl,hs,?_⟩;left;exact AW (λc=>?_) (λc=>?_);rotate_left
 ·rw[c]at q;exact AB .refl q
 rw[c,BA]at q;left;exact Ψ7 a pk x Ps re W ks ⟨rfl,hs,?_⟩;left;exact AW (λc=>?_) (λc=>?_);rotate_left
 ·rw[c]at q;exact AB .refl q
 rw[c,BA]at q;left;exact⟨Hc h3,?_⟩;left;exact Ψ3 pw _ (.inr y) ⟨rfl,rfl,h3,?_⟩;rw[DZ];cases e:W.lookup y with
 |none=>
  rw[e]at q;exact Ψ2 (.non) (.str "lend") ⟨rfl,rfl,rfl,AB .refl q⟩
 |some z=>
  rw[e]at q;exact Ψ2 (.str z) (.str "lend") ⟨rfl,rfl,rfl,AB .refl ?_⟩;rw[show decide (V.str z=V.str "lend")=decide (some z=some ("lend" : Str))from Zk.mpr ⟨λe=>by rw[V.str.inj e],λe=>by rw[Ek e]⟩];exact q
abbrev NT:Stmt:=Au 55
theorem dD:Ak ["scope","statement","word","name","kind","worth"] ["scope","statement"] (AX NT):=⟨rfl,rfl,rfl,by decide +kernel,rfl,by decide +kernel,by decide +kernel⟩
theorem qg(F:cP K "is_good_new" "is_good_new" NT f fd)(aP:CZ P w K mg am C "may_make" 2 ["self","name","kind"] (JE C)):a8 P w K mg am Ag 5 f fd ["scope","statement"] (Af (Ew C 0 m)):=by
 exact As F dD (λts Γ Z Y h=>Fc h) (λcn A outer s H E ts Γ Z Y hr h=>?_);let⟨a,pk,s,Ps,re,W,ks,rfl,ew,so,hm,en,hs,q⟩:=h;exact⟨_,(A5 (EJ (A0 1) (Be (n:=4) rfl (AL (Aa (i:=2) dD.nd) (AL (Aa (i:=3) dD.nd) (AL (Aa (i:=4) dD.nd) (AL (Aa (i:=5) dD.nd) Bd))))))
  (A5 (AH (E4 aP hr (by lia) (A0 0) (A3 (A0 3) (A3 (A0 4) A6))))
  A7)),?_⟩
 simp only[Ai];have hG:=hs;obtain⟨⟨dx,pp,pw,h1,h2,h3,n1,n2⟩,h4⟩:=hG;have ln:=en.ln;let⟨x,k,v,rfl⟩:=aal ew;unfold Sm.Ok at so;unfold AE at q;rw[Sm.tr];left;exact Ψ8 a pk x k Ps re W ks ⟨rfl,so.2.2.1,en.gk,by lia,hs,AB .refl q⟩
abbrev My:Stmt:=Au 56
theorem eB:Ak ["scope","statement","word","name","source"] ["scope","statement"] (AX My):=⟨rfl,rfl,rfl,by decide +kernel,rfl,by decide +kernel,by decide +kernel⟩
theorem mT(F:cP K "is_good_copy" "is_good_copy" My f fd)(aw:nD K C)(av:bw K C "kinds")(aE:CZ P w K mg am C "knows" 1 ["self","name"] (GN C))(aP:CZ P w K mg am C "may_make" 2 ["self","name","kind"] (JE C)):a8 P w K mg am Ag 5 f fd ["scope","statement"] (Af (Ew C 1 m)):=by
 exact As F eB (λts Γ Z Y h=>Fc h) (λcn A outer s H E ts Γ Z Y hr h=>?_);let⟨a,pk,s,Ps,re,W,ks,rfl,ew,so,hm,en,hs,q⟩:=h;exact⟨_,(A5 (EJ (A0 1) (Be (n:=3) rfl (AL (Aa (i:=2) eB.nd) (AL (Aa (i:=3) eB.nd) (AL (Aa (i:=4) eB.nd) Bd)))))
  (A5 (AH (CK (E4 aE hr (by lia) (A0 0) (A3 (A0 4) A6)) (CA (E4 aP hr (by lia) (A0 0) (A3 (A0 3) (A3 (GF (C3 (Cb (by decide:1≤64) _) hr.units) (DX aw av (A0 0)) (A0 4)) A6))))))
  A7)),?_⟩
 simp only[Ai];have hG:=hs;obtain⟨⟨dx,pp,pw,h1,h2,h3,n1,n2⟩,h4⟩:=hG;have ln:=en.ln;let⟨x,y,rfl⟩:=tI ew;unfold Sm.Ok at so;unfold AE at q;rw[Sm.tr];have no:Z (.bl false) (A9 Γ pk (.dK (CM ks)))→Dx Z (.bl false) Γ:=λq=>by rw[EN h4]at q;exact AB .refl q
 left;exact Ψ7 a pk y Ps re W ks ⟨rfl,hs,?_⟩;cases e:ks.lookup y with
 |none=>
  rw[e]at q;left;exact no q
 |some k=>
  rw[e]at q;left;unfold Gd;left;exact Ψ4 pk _ (.inr y) k.tr ⟨rfl,rfl,h4,by rw[DZ,e];rfl,?_⟩;left;exact Ψ8 a pk x k Ps re W ks ⟨rfl,(en.gk _ (E8 e)).2,en.gk,by lia,hs,AB .refl q⟩
abbrev OG:Stmt:=Au 57
theorem cI:Ak ["scope","statement","word","name","source","path","kind"] ["scope","statement"] (AX OG):=⟨rfl,rfl,rfl,by decide +kernel,rfl,by decide +kernel,by decide +kernel⟩
theorem aaa(F:cP K "is_good_part" "is_good_part" OG f fd)(aw:nD K C)(av:bw K C "kinds")(aE:CZ P w K mg am C "knows" 1 ["self","name"] (GN C))(aP:CZ P w K mg am C "may_make" 2 ["self","name","kind"] (JE C))(dq:AU P w K mg am "kind_at" 4 ["kind","path"] KQ):a8 P w K mg am Ag 5 f fd ["scope","statement"] (Af (Ew C 2 m)):=by
 exact As F cI (λts Γ Z Y h=>Fc h) (λcn A outer s H E ts Γ Z Y hr h=>?_);let⟨a,pk,s,Ps,re,W,ks,rfl,ew,so,hm,en,hs,q⟩:=h;exact⟨_,(A5 (EJ (A0 1) (Be (n:=4) rfl (AL (Aa (i:=2) cI.nd) (AL (Aa (i:=3) cI.nd) (AL (Aa (i:=4) cI.nd) (AL (Aa (i:=5) cI.nd) Bd))))))
  (A5 (Ah (B5 (B7 (E4 aE hr (by lia) (A0 0) (A3 (A0 4) A6)))) (A5 (AH B4)
  A7) A7)
  (A5 (Ad (i:=6) cI.nd (Ae dq hr (A3 (GF (C3 (Cb (by decide:1≤64) _) hr.units) (DX aw av (A0 0)) (A0 4)) (A3 (A0 5) A6))))
  (A5 (AH (CK (Dh Og (A0 6) Gz) (CA (E4 aP hr (by lia) (A0 0) (A3 (A0 3) (A3 (A0 6) A6))))))
  A7)))),?_⟩
 simp only[Ai];have hG:=hs;obtain⟨⟨dx,pp,pw,h1,h2,h3,n1,n2⟩,h4⟩:=hG;have ln:=en.ln;let⟨x,y,p,rfl⟩:=rE ew;unfold Sm.Ok at so;unfold AE at q;rw[Sm.tr];have no:Z (.bl false) (A9 Γ pk (.dK (CM ks)))→Dx Z (.bl false) Γ:=λq=>by rw[EN h4]at q;exact AB .refl q
 left;exact Ψ7 a pk y Ps re W ks ⟨rfl,hs,?_⟩;cases e:ks.lookup y with
 |none=>
  rw[e]at q;left;exact no q
 |some k=>
  rw[e]at q;have q:Z (.bl (match CC k p with|some k=>D6 W ks x k|none=>(false,ks)).1) (A9 Γ pk (.dK (CM (match CC k p with|some k=>D6 W ks x k|none=>(false,ks)).2))):=q;left;unfold Gd;left;exact Ψ4 pk _ (.inr y) k.tr ⟨rfl,rfl,h4,by rw[DZ,e];rfl,?_⟩;left;exact Ψ2 k p ⟨rfl,so.2.2.2,?_⟩;cases e2:CC k p with
  |none=>
   rw[e2]at q;left;exact no q
  |some k'=>
   rw[e2]at q;have gk:=en.gk _ (E8 e);have ak:=Kc gk.1 gk.2 e2;left;rw[show Fv (EV (some k'))=false by let⟨ts,e⟩:=GA k';show Fv k'.tr=_;rw[e];rfl];left;exact Ψ8 a pk x k' Ps re W ks ⟨rfl,ak.2,en.gk,by lia,hs,AB .refl q⟩
abbrev OM:Stmt:=Au 59
theorem dC:Ak ["scope","statement","word","target","path","name"] ["scope","statement"] (AX OM):=⟨rfl,rfl,rfl,by decide +kernel,rfl,by decide +kernel,by decide +kernel⟩
theorem jw(F:cP K "is_good_put" "is_good_put" OM f fd)(aw:nD K C)(av:bw K C "kinds")(bV:AU P w K mg am "is_good_change" 2 ["scope","target","name"] (MK C))(dq:AU P w K mg am "kind_at" 4 ["kind","path"] KQ):a8 P w K mg am Ag 5 f fd ["scope","statement"] (Af (Ew C 3 m)):=by
 exact As F dC (λts Γ Z Y h=>Fc h) (λcn A outer s H E ts Γ Z Y hr h=>?_);let⟨a,pk,s,Ps,re,W,ks,rfl,ew,so,hm,en,hs,q⟩:=h;exact⟨_,(A5 (EJ (A0 1) (Be (n:=4) rfl (AL (Aa (i:=2) dC.nd) (AL (Aa (i:=3) dC.nd) (AL (Aa (i:=4) dC.nd) (AL (Aa (i:=5) dC.nd) Bd))))))
  (A5 (Ah (B5 (B7 (Ae bV hr (A3 (A0 0) (A3 (A0 3) (A3 (A0 5) A6)))))) (A5 (AH B4)
  A7) A7)
  (A5 (AH (Dh (af (d:=17) (C3 (Cb (by decide:1+17≤64) _) hr.units)) (Ae dq hr (A3 (GF (C3 (Cb (by decide:1≤64) _) hr.units) (DX aw av (A0 0)) (A0 3)) (A3 (A0 4) A6))) (GF (C3 (Cb (by decide:1≤64) _) hr.units) (DX aw av (A0 0)) (A0 5))))
  A7))),?_⟩
 simp only[Ai];have hG:=hs;obtain⟨⟨dx,pp,pw,h1,h2,h3,n1,n2⟩,h4⟩:=hG;have ln:=en.ln;let⟨y,p,x,rfl⟩:=uj ew;unfold Sm.Ok at so;unfold AE at q;rw[Sm.tr];have no:Z (.bl false) (A9 Γ pk (.dK (CM ks)))→Dx Z (.bl false) Γ:=λq=>by rw[EN h4]at q;exact AB .refl q
 left;exact Ψ8 a pk y x Ps re W ks ⟨rfl,hs,?_⟩;unfold O0;cases e:ks.lookup y with
 |none=>
  rw[e]at q;left;exact no q
 |some ky=>
  cases e1:ks.lookup x with
  |none=>
   rw[e,e1]at q;left;exact no q
  |some kx=>
   rw[e,e1]at q;have q:Z (.bl (!decide (W.lookup y=some "lend")&&(match CC ky p with|some k=>kq k kx|none=>false))) (A9 Γ pk (.dK (CM ks))):=q;rw[EN h4]at q;exact⟨_,rfl,?_⟩;rw[show((some ky).isSome&&((some kx).isSome&&!decide (W.lookup y=some "lend")))=!decide (W.lookup y=some "lend")from rfl];cases e2:decide (W.lookup y=some "lend")with
   |true=>
    rw[e2]at q;left;exact AB .refl q
   |false=>
    rw[e2]at q;have q:Z (.bl (match CC ky p with|some k=>kq k kx|none=>false)) Γ:=q;have gy:=en.gk _ (E8 e);have gx:=en.gk _ (E8 e1);left;unfold Gd;left;exact Ψ4 pk _ (.inr y) ky.tr ⟨rfl,rfl,h4,by rw[DZ,e];rfl,?_⟩;left;exact Ψ2 ky p ⟨rfl,so.2.2.2,?_⟩;left;exact Ψ4 pk _ (.inr x) kx.tr ⟨rfl,rfl,h4,by rw[DZ,e1];rfl,?_⟩;cases e3:CC ky p with
    |none=>
     rw[e3]at q;let⟨us,eu⟩:=GA kx;exact .inl ⟨rfl,⟨us,eu⟩,AB .refl q⟩
    |some k=>
     rw[e3]at q;have gk:=Kc gy.1 gy.2 e3;exact .inr ⟨IY (Eo gk.2) (Eo gx.2),AB .refl q⟩
abbrev ML:Stmt:=Au 60
theorem dE:Ak ["scope","statement","word","target","path","name"] ["scope","statement"] (AX ML):=⟨rfl,rfl,rfl,by decide +kernel,rfl,by decide +kernel,by decide +kernel⟩
theorem xZ(F:cP K "is_good_add" "is_good_add" ML f fd)(aw:nD K C)(av:bw K C "kinds")(bV:AU P w K mg am "is_good_change" 2 ["scope","target","name"] (MK C))(dq:AU P w K mg am "kind_at" 4 ["kind","path"] KQ):a8 P w K mg am Ag 5 f fd ["scope","statement"] (Af (Ew C 4 m)):=by
 exact As F dE (λts Γ Z Y h=>Fc h) (λcn A outer s H E ts Γ Z Y hr h=>?_);let⟨a,pk,s,Ps,re,W,ks,rfl,ew,so,hm,en,hs,q⟩:=h;exact⟨_,(A5 (EJ (A0 1) (Be (n:=4) rfl (AL (Aa (i:=2) dE.nd) (AL (Aa (i:=3) dE.nd) (AL (Aa (i:=4) dE.nd) (AL (Aa (i:=5) dE.nd) Bd))))))
  (A5 (Ah (B5 (B7 (Ae bV hr (A3 (A0 0) (A3 (A0 3) (A3 (A0 5) A6)))))) (A5 (AH B4)
  A7) A7)
  (A5 (AH (Dh (af (d:=17) (C3 (Cb (by decide:1+17≤64) _) hr.units)) (Ae dq hr (A3 (GF (C3 (Cb (by decide:1≤64) _) hr.units) (DX aw av (A0 0)) (A0 3)) (A3 (A0 4) A6))) (AP (A3 AM (A3 (GF (C3 (Cb (by decide:1≤64) _) hr.units) (DX aw av (A0 0)) (A0 5)) A6)))))
  A7))),?_⟩
 simp only[Ai];have hG:=hs;obtain⟨⟨dx,pp,pw,h1,h2,h3,n1,n2⟩,h4⟩:=hG;have ln:=en.ln;let⟨y,p,x,rfl⟩:=nP ew;unfold Sm.Ok at so;unfold AE at q;rw[Sm.tr];have no:Z (.bl false) (A9 Γ pk (.dK (CM ks)))→Dx Z (.bl false) Γ:=λq=>by rw[EN h4]at q;exact AB .refl q
 left;exact Ψ8 a pk y x Ps re W ks ⟨rfl,hs,?_⟩;unfold O0;cases e:ks.lookup y with
 |none=>
  rw[e]at q;left;exact no q
 |some ky=>
  cases e1:ks.lookup x with
  |none=>
   rw[e,e1]at q;left;exact no q
  |some kx=>
   rw[e,e1]at q;have q:Z (.bl (!decide (W.lookup y=some "lend")&&(match CC ky p with|some k=>kq k (.row kx)|none=>false))) (A9 Γ pk (.dK (CM ks))):=q;rw[EN h4]at q;exact⟨_,rfl,?_⟩;rw[show((some ky).isSome&&((some kx).isSome&&!decide (W.lookup y=some "lend")))=!decide (W.lookup y=some "lend")from rfl];cases e2:decide (W.lookup y=some "lend")with
   |true=>
    rw[e2]at q;left;exact AB .refl q
   |false=>
    rw[e2]at q;have q:Z (.bl (match CC ky p with|some k=>kq k (.row kx)|none=>false)) Γ:=q;have gy:=en.gk _ (E8 e);have gx:=en.gk _ (E8 e1);left;unfold Gd;left;exact Ψ4 pk _ (.inr y) ky.tr ⟨rfl,rfl,h4,by rw[DZ,e];rfl,?_⟩;left;exact Ψ2 ky p ⟨rfl,so.2.2.2,?_⟩;left;exact Ψ4 pk _ (.inr x) kx.tr ⟨rfl,rfl,h4,by rw[DZ,e1];rfl,?_⟩;left;rw[show T.tup [.str "row",kx.tr]=(Kd.row kx).tr by rw[Kd.tr]];cases e3:CC ky p with
    |none=>
     rw[e3]at q;let⟨us,eu⟩:=GA (.row kx);exact .inl ⟨rfl,⟨us,eu⟩,AB .refl q⟩
    |some k=>
     rw[e3]at q;have gk:=Kc gy.1 gy.2 e3;exact .inr ⟨IY (Eo gk.2) (by rw[Kd.depth];have:kx.depth≤5:=gx.2;lia),AB .refl q⟩
abbrev OJ:Stmt:=Au 62
theorem iS:Ak ["scope","statement"] ["scope","statement"] (AX OJ):=⟨rfl,rfl,rfl,by decide +kernel,rfl,by decide +kernel,by decide +kernel⟩
theorem om(F:cP K "is_good_drop" "is_good_drop" OJ f fd)(aE:CZ P w K mg am C "knows" 1 ["self","name"] (GN C))(bL:CZ P w K mg am C "is_own" 1 ["self","name"] (KD C)):a8 P w K mg am Ag 5 f fd ["scope","statement"] (Af (Ew C 5 m)):=by
 exact As F iS (λts Γ Z Y h=>Fc h) (λcn A outer s H E ts Γ Z Y hr h=>?_);let⟨a,pk,s,Ps,re,W,ks,rfl,ew,so,hm,en,hs,q⟩:=h;exact⟨_,(A5 (AH (CK (E4 aE hr (by lia) (A0 0) (A3 (AY (A0 1) AA) A6)) (CA (E4 bL hr (by lia) (A0 0) (A3 (AY (A0 1) AA) A6)))))
  A7),?_⟩
 simp only[Ai];have hG:=hs;obtain⟨⟨dx,pp,pw,h1,h2,h3,n1,n2⟩,h4⟩:=hG;have ln:=en.ln;let⟨x,rfl⟩:=mD ew;unfold Sm.Ok at so;unfold AE at q;rw[Sm.tr];rw[EN h4]at q;left;exact Ψ7 a pk x Ps re W ks ⟨rfl,hs,?_⟩;left;exact AW (λc=>?_) (λc=>?_)
 ·rw[c,BA]at q
  left;exact Ψ7 a pk x Ps re W ks ⟨rfl,hs,AB .refl q⟩
 ·rw[c]at q
  exact AB .refl q
abbrev Mb:Stmt:=Au 63
theorem vi:Ak ["scope","statement"] ["scope","statement"] (AX Mb):=⟨rfl,rfl,rfl,by decide +kernel,rfl,by decide +kernel,by decide +kernel⟩
theorem pU(F:cP K "is_good_say" "is_good_say" Mb f fd)(aE:CZ P w K mg am C "knows" 1 ["self","name"] (GN C)):a8 P w K mg am Ag 5 f fd ["scope","statement"] (Af (Ew C 6 m)):=by
 exact As F vi (λts Γ Z Y h=>Fc h) (λcn A outer s H E ts Γ Z Y hr h=>?_);let⟨a,pk,s,Ps,re,W,ks,rfl,ew,so,hm,en,hs,q⟩:=h;exact⟨_,(A5 (AH (E4 aE hr (by lia) (A0 0) (A3 (AY (A0 1) AA) A6)))
  A7),?_⟩
 simp only[Ai];have hG:=hs;obtain⟨⟨dx,pp,pw,h1,h2,h3,n1,n2⟩,h4⟩:=hG;have ln:=en.ln;let⟨x,rfl⟩:=zJ ew;unfold Sm.Ok at so;unfold AE at q;rw[Sm.tr];rw[EN h4]at q;left;exact Ψ7 a pk x Ps re W ks ⟨rfl,hs,AB .refl q⟩
abbrev NP:Stmt:=Au 64
theorem cg:Ak ["scope","statement","word","target","door","names","places","result"] ["scope","statement"] (AX NP):=⟨rfl,rfl,rfl,by decide +kernel,rfl,by decide +kernel,by decide +kernel⟩
theorem iR(F:cP K "is_good_call" "is_good_call" NP f fd)(aw:nD K C)(bD:bw K C "papers")(dQ:CZ P w K mg am C "may_hand" 2 ["self","name","place"] (QN C))(aP:CZ P w K mg am C "may_make" 2 ["self","name","kind"] (JE C))(aG:mg "len" = none)(bc:mg "all" = none)(fo:mg "zip" = none):a8 P w K mg am Ag 5 f fd ["scope","statement"] (Af (Ew C 7 m)):=by
 exact As F cg (λts Γ Z Y h=>Fc h) (λcn A outer s H E ts Γ Z Y hr h=>?_);let⟨a,pk,s,Ps,re,W,ks,rfl,ew,so,hm,en,hs,q⟩:=h;exact⟨_,(A5 (EJ (A0 1) (Be (n:=4) rfl (AL (Aa (i:=2) cg.nd) (AL (Aa (i:=3) cg.nd) (AL (Aa (i:=4) cg.nd) (AL (Aa (i:=5) cg.nd) Bd))))))
  (A5 (Ah (Kh (vS (C3 (Cb (by decide:1≤64) _) hr.units)) (A0 4) (DX aw bD (A0 0)) (by with_unfolding_all rfl)) (A5 (AH B4)
  A7) A7)
  (A5 (EJ (Dj fS (GF (C3 (Cb (by decide:1≤64) _) hr.units) (DX aw bD (A0 0)) (A0 4)) (DC AA) EY) (Be (n:=2) rfl (AL (Aa (i:=6) cg.nd) (AL (Aa (i:=7) cg.nd) Bd))))
  (A5 (Ah (B0 EI (Av DL rfl aG Bm (A3 (A0 5) A6)) (Av DL rfl aG Bm (A3 (A0 6) A6))) (A5 (AH B4)
  A7) A7)
  (A5 (Ah (B5 (B7 (Av (F5 rfl) rfl bc F6 (A3 (EB (own:=["handed","place"]) (cap:=[(0,"scope")]) (Gb rfl (by decide +kernel) (by decide +kernel) rfl (⟨rfl,trivial⟩) rfl (⟨⟨rfl,rfl,rfl⟩,trivial⟩)) rfl (eR rfl fo (A3 (A0 5) (A3 (A0 6) A6))) (λ_ _ _ _=>(Be (n:=2) rfl (AL (BM (i:=0) (show List.Nodup (["handed","place","scope"]:List Str)from by decide +kernel) rfl (Or.inl rfl) (Or.inr rfl)) (AL (BM (i:=1) (show List.Nodup (["handed","place","scope"]:List Str)from by decide +kernel) rfl (Or.inl rfl) (Or.inr rfl)) Bd)))) (λ_ _ _ _=>EH) (λ_ _ _ _=>(E4 dQ hr (by lia) (A0 2) (A3 (A0 0) (A3 (A0 1) A6))))) A6)))) (A5 (AH B4)
  A7) A7)
  (A5 (AH (Kx (Dh N2 (A0 3) Gz) (CA (CK (Dh Og (A0 7) Gz) (CA (E4 aP hr (by lia) (A0 0) (A3 (A0 3) (A3 (A0 7) A6))))))))
  A7)))))),?_⟩
 simp only[Ai];have hG:=hs;obtain⟨⟨dx,pp,pw,h1,h2,h3,n1,n2⟩,h4⟩:=hG;have ln:=en.ln;let⟨z,d,ns,rfl⟩:=oh ew;unfold Sm.Ok at so;unfold AE at q;rw[Sm.tr];have no:Z (.bl false) (A9 Γ pk (.dK (CM ks)))→Dx Z (.bl false) Γ:=λq=>by rw[EN h4]at q;exact AB .refl q
 left;exact Ψ3 pp _ (.inr d) ⟨rfl,rfl,h2,?_⟩;rw[DZ,K5];cases e:Ps.lookup d with
 |none=>
  rw[e]at q;left;exact no q
 |some pr=>
 rw[e]at q;have po:pr.Ok:=en.ps _ (E8 e);have pl:=po.ln;left;unfold Gd;left;exact Ψ4 pp _ (.inr d) pr.tr ⟨rfl,rfl,h2,by rw[DZ,e];rfl,?_⟩;unfold Pr.tr;left;rw[J5 (by decide),show List.drop (Int.toNat 2) [T.str pr.nm,T.int pr.sd,T.tup (pr.ps.map BB),EV pr.re]=[T.tup (pr.ps.map BB),EV pr.re]from rfl];left;rw[AV,AV];exact AW (λc=>?_) (λc=>?_)
 ·have c:ns.length≠pr.ps.length:=λe=>by rw[e]at c;simp at c
  dsimp only at q;rw[AN (by rw[Du c];exact BJ)]at q;left;exact no q
 have c:ns.length=pr.ps.length:=by
  have:decide (V.int (ns.length:Int)=V.int (pr.ps.length:Nat))=true:=by simpa using c
  have:=JY this;lia
 dsimp only at q;rw[CI c,BA]at q;left;exact⟨CG (CJ (by rw[Iy,AV,AV];lia)),?_⟩;exact⟨λv4 τ ys Γ'=>∃(ms:List Str) (qs:List (Str×Str×Kd)) (bs:List Bool) (o1 o2:Option T),v4=E6 (ms.map T.str) (qs.map BB)∧ms.length=qs.length∧(∀q∈qs,q∈pr.ps)∧τ=[o1,o2,some (.ref a)]∧ys=bs.map T.bl∧((ns.zip pr.ps).all λq=>GL W ks q.1 q.2)=(bs.all id&&(ms.zip qs).all λq=>GL W ks q.1 q.2)∧Γ'=Γ,Ψ5 ns pr.ps [] none none ⟨rfl,c,λ_ h=>h,rfl,rfl,by simp,rfl⟩,?_,?_⟩;rotate_left
 ·intro x r τ ys Γ'⟨ms,qs,bs,o1,o2,er,el,hq,rfl,rfl,eb,rfl⟩
  cases ms with
  |nil=>cases er
  |cons m0 ms=>
   cases qs with
   |nil=>cases el
   |cons q0 qs=>
    cases er;exact⟨trivial,?_⟩;left;exact Ψ8 a pk m0 q0 Ps re W ks ⟨rfl,(po.pl q0 (hq q0 (by simp))).2.2.2,en.gk,en.gw,hs,?_⟩;exact Ψ5 ms qs (bs++[GL W ks m0 q0]) _ _ ⟨rfl,by simpa using el,λq h=>hq q (Dz _ h),rfl,by simp,?_,rfl⟩;rw[eb,List.zip_cons_cons,Kf,X0];simp[P2]
 intro τ ys Γ'⟨ms,qs,bs,o1,o2,er,el,hq,rfl,rfl,eb,rfl⟩;have hz:ms=[]:=by
  cases ms with
  |nil=>rfl
  |cons m0 ms=>
   cases qs with
   |nil=>cases el
   |cons q0 qs=>cases er
 subst hz;rw[List.zip_nil_left,List.all_nil,GQ]at eb;rw[eb]at q;exact⟨trivial,?_⟩;intro p1 cS;generalize e1:A9 _ p1 (O.lst _)=Γ1;have g1:=AZ e1;have l1:=Ab e1 cS
 have Q9:Z (.bl false) (A9 Γ' pk (.dK (CM ks)))→Dx Z (.bl false) Γ1:=λq=>by rw[EN h4]at q;exact AB l1 q
 have Ij:=hs.mono l1;have Xt:=l1 _ _ h1;left;exact Ψ2 p1 bs ⟨rfl,Bk g1,?_⟩;left;exact AW (λc=>?_) (λc=>?_)
 ·rw[AN (by simpa using c)]at q
  left;exact Q9 q
 rw[AR (by simpa using c)]at q;have SN:∀O6:List (Str×Kd),Le (A9 Γ' pk (.dK (CM O6))) (A9 Γ1 pk (.dK (CM O6))):=λO6 b u h=>by
  by_cases eb:b=pk
  ·subst eb;rw[B1]at h ⊢;exact h
  ·rw[Bz eb]at h ⊢;exact l1 _ _ h
 cases z with
 |none=>
  left;rw[EN h4]at q;exact AB l1 q
 |some z0=>
  left;cases Ft:pr.re with
  |none=>
   rw[Ft]at q;left;exact Q9 q
  |some k=>
   rw[Ft]at q;left;rw[show Fv (EV (some k))=false by let⟨ts,e⟩:=GA k;show Fv k.tr=_;rw[e];rfl];left;exact Ψ8 a pk z0 k Ps re W ks ⟨rfl,(po.re k Ft).2,en.gk,by lia,Ij,AB (SN _) q⟩
def KH(C:Addr)(m:Nat):Am:=λts Γ Z _=>∃(a pk:Addr) (ss:List Sm) (Ps:List (Str×Pr)) (re:Option Kd) (W:List (Str×Str)) (ks:ad),ts=[.ref a,.tup (BI ss)]∧By ss∧Fi ss<m∧En Ps re W ks (BU ss)∧Sc C Γ a Ps re W ks pk∧
 Z (.bl (An Ps re W ss ks).1) (A9 Γ pk (.dK (CM (An Ps re W ss ks).2)))
abbrev OE:Stmt:=Au 65
theorem cH:Ak ["scope","statement","word","one","other","first","second"] ["scope","statement"] (AX OE):=⟨rfl,rfl,rfl,by decide +kernel,rfl,by decide +kernel,by decide +kernel⟩
theorem lq(F:cP K "is_good_same" "is_good_same" OE f fd)(aw:nD K C)(av:bw K C "kinds")(aE:CZ P w K mg am C "knows" 1 ["self","name"] (GN C))(cC:AU P w K mg am "is_good_body" (lv+4) ["scope","body"] (KH C m)):a8 P w K mg am Ag (lv+5) f fd ["scope","statement"] (Af (Ew C 8 (m+1))):=by
 exact As F cH (λts Γ Z Y h=>Fc h) (λcn A outer s H E ts Γ Z Y hr h=>?_);let⟨a,pk,s,Ps,re,W,ks,rfl,ew,so,hm,en,hs,q⟩:=h;exact⟨_,(A5 (EJ (A0 1) (Be (n:=5) rfl (AL (Aa (i:=2) cH.nd) (AL (Aa (i:=3) cH.nd) (AL (Aa (i:=4) cH.nd) (AL (Aa (i:=5) cH.nd) (AL (Aa (i:=6) cH.nd) Bd)))))))
  (A5 (Ah (PW.pt (CQ (B5 (B7 (E4 aE hr (by lia) (A0 0) (A3 (A0 3) A6)))) (CQ (B5 (B7 (E4 aE hr (by lia) (A0 0) (A3 (A0 4) A6)))) (DJ (B0 (eT (d:=17) (C3 (Cb (by decide:1+17≤64) _) hr.units)) (GF (C3 (Cb (by decide:1≤64) _) hr.units) (DX aw av (A0 0)) (A0 3)) (GF (C3 (Cb (by decide:1≤64) _) hr.units) (DX aw av (A0 0)) (A0 4))))))) (A5 (AH B4)
  A7) A7)
  (A5 (AH (CK (Ae cC hr (A3 (A0 0) (A3 (A0 5) A6))) (CA (Ae cC hr (A3 (A0 0) (A3 (A0 6) A6))))))
  A7))),?_⟩
 simp only[Ai];have hG:=hs;obtain⟨⟨dx,pp,pw,h1,h2,h3,n1,n2⟩,h4⟩:=hG;have ln:=en.ln;let⟨x,y,b1,b2,rfl⟩:=kZ ew;unfold Sm.Ok at so;unfold AE at q;rw[Sm.tr];have no:Z (.bl false) (A9 Γ pk (.dK (CM ks)))→Dx Z (.bl false) Γ:=λq=>by rw[EN h4]at q;exact AB .refl q
 unfold Sm.ht at hm;unfold Sm.sz at en ln;left;exact Ψ7 a pk x Ps re W ks ⟨rfl,hs,?_⟩;cases e:ks.lookup x with
 |none=>
  rw[e]at q;left;exact no q
 |some kx=>
  left;exact Ψ7 a pk y Ps re W ks ⟨rfl,hs,?_⟩;cases e1:ks.lookup y with
  |none=>
   rw[e,e1]at q;left;exact no q
  |some ky=>
  rw[e,e1]at q;have q:Z (.bl (if kq kx ky=true then(if(An Ps re W b1 ks).1=true then An Ps re W b2 (An Ps re W b1 ks).2 else(false,(An Ps re W b1 ks).2))else(false,ks)).1) (A9 Γ pk (.dK (CM (if kq kx ky=true then(if(An Ps re W b1 ks).1=true then An Ps re W b2 (An Ps re W b1 ks).2 else(false,(An Ps re W b1 ks).2))else(false,ks)).2))):=q;left;unfold Gd;left;exact Ψ4 pk _ (.inr x) kx.tr ⟨rfl,rfl,h4,by rw[DZ,e];rfl,?_⟩;left;exact Ψ4 pk _ (.inr y) ky.tr ⟨rfl,rfl,h4,by rw[DZ,e1];rfl,?_⟩;have tw:=IY (Eo (en.gk _ (E8 e)).2) (Eo (en.gk _ (E8 e1)).2);have neg:kq kx ky=BR kx.tr ky.tr:=rfl;let⟨ts,et⟩:=GA kx;let⟨us,eu⟩:=GA ky;rw[neg]at q;rw[et,eu]at tw q ⊢;cases tw with
  |tup t1 t2=>
  exact Ψ2 ts us ⟨rfl,rfl,t1,t2,?_⟩;left;exact AW (λc=>?_) (λc=>?_)
  ·rw[AN (by simpa using c)]at q
   left;exact no q
  rw[AR (by simpa using c)]at q;left;exact Ψ7 a pk b1 Ps re W ks ⟨rfl,so.2.2.2.2.1,by lia,en.le (by lia),hs,?_⟩;have Ij:=hs.set (An Ps re W b1 ks).2;left;exact AW (λc=>?_) (λc=>?_)
  ·rw[AR c]at q
   left;exact Ψ7 a pk b2 Ps re W _ ⟨rfl,so.2.2.2.2.2,by lia,(show En Ps re W ks (BU b1+BU b2)from en.le (by lia)).EM so.2.2.2.2.1,Ij,?_⟩;rw[ND];exact AB .refl q
  ·rw[AN (by rw[c];exact BJ)]at q
   exact AB .refl q
abbrev OA:Stmt:=Au 66
theorem qd:Ak ["scope","statement"] ["scope","statement"] (AX OA):=⟨rfl,rfl,rfl,by decide +kernel,rfl,by decide +kernel,by decide +kernel⟩
theorem uF(F:cP K "is_good_fail" "is_good_fail" OA f fd): a8 P w K mg am Ag 5 f fd ["scope","statement"] (Af (Ew C 9 m)):=by
 exact As F qd (λts Γ Z Y h=>Fc h) (λcn A outer s H E ts Γ Z Y hr h=>?_);let⟨a,pk,s,Ps,re,W,ks,rfl,ew,so,hm,en,hs,q⟩:=h;exact⟨_,(A5 (AH B4)
  A7),?_⟩
 simp only[Ai];have hG:=hs;obtain⟨⟨dx,pp,pw,h1,h2,h3,n1,n2⟩,h4⟩:=hG;have ln:=en.ln;let⟨n0,rfl⟩:=t6 ew;unfold Sm.Ok at so;unfold AE at q;rw[Sm.tr];rw[EN h4]at q;left;exact AB .refl q
abbrev NF:Stmt:=Au 67
theorem eN:Ak ["scope","statement","word","first","second"] ["scope","statement"] (AX NF):=⟨rfl,rfl,rfl,by decide +kernel,rfl,by decide +kernel,by decide +kernel⟩
theorem vB(F:cP K "is_good_try" "is_good_try" NF f fd)(cC:AU P w K mg am "is_good_body" (lv+4) ["scope","body"] (KH C m)):a8 P w K mg am Ag (lv+5) f fd ["scope","statement"] (Af (Ew C 10 (m+1))):=by
 exact As F eN (λts Γ Z Y h=>Fc h) (λcn A outer s H E ts Γ Z Y hr h=>?_);let⟨a,pk,s,Ps,re,W,ks,rfl,ew,so,hm,en,hs,q⟩:=h;exact⟨_,(A5 (EJ (A0 1) (Be (n:=3) rfl (AL (Aa (i:=2) eN.nd) (AL (Aa (i:=3) eN.nd) (AL (Aa (i:=4) eN.nd) Bd)))))
  (A5 (AH (CK (Ae cC hr (A3 (A0 0) (A3 (A0 3) A6))) (CA (Ae cC hr (A3 (A0 0) (A3 (A0 4) A6))))))
  A7)),?_⟩
 simp only[Ai];have hG:=hs;obtain⟨⟨dx,pp,pw,h1,h2,h3,n1,n2⟩,h4⟩:=hG;have ln:=en.ln;let⟨b1,b2,rfl⟩:=sQ ew;unfold Sm.Ok at so;unfold AE at q;rw[Sm.tr];unfold Sm.ht at hm;unfold Sm.sz at en ln;left;exact Ψ7 a pk b1 Ps re W ks ⟨rfl,so.2.2.1,by lia,en.le (by lia),hs,?_⟩;have Ij:=hs.set (An Ps re W b1 ks).2;left;exact AW (λc=>?_) (λc=>?_)
 ·rw[AR c]at q
  left;exact Ψ7 a pk b2 Ps re W _ ⟨rfl,so.2.2.2,by lia,(show En Ps re W ks (BU b1+BU b2)from en.le (by lia)).EM so.2.2.1,Ij,?_⟩;rw[ND];exact AB .refl q
 ·rw[AN (by rw[c];exact BJ)]at q
  exact AB .refl q
abbrev Mv:Stmt:=Au 68
theorem i9:Ak ["scope","statement","name"] ["scope","statement"] (AX Mv):=⟨rfl,rfl,rfl,by decide +kernel,rfl,by decide +kernel,by decide +kernel⟩
theorem rV(F:cP K "is_good_back" "is_good_back" Mv f fd)(aw:nD K C)(av:bw K C "kinds")(bC:bw K C "result")(aE:CZ P w K mg am C "knows" 1 ["self","name"] (GN C))(bL:CZ P w K mg am C "is_own" 1 ["self","name"] (KD C)):a8 P w K mg am Ag 5 f fd ["scope","statement"] (Af (Ew C 11 m)):=by
 exact As F i9 (λts Γ Z Y h=>Fc h) (λcn A outer s H E ts Γ Z Y hr h=>?_);let⟨a,pk,s,Ps,re,W,ks,rfl,ew,so,hm,en,hs,q⟩:=h;exact⟨_,(A5 (Ad (i:=2) i9.nd (AY (A0 1) AA))
  (A5 (Ah (PW.pt (CQ (B5 (B7 (E4 aE hr (by lia) (A0 0) (A3 (A0 2) A6)))) (DJ (B5 (B7 (E4 bL hr (by lia) (A0 0) (A3 (A0 2) A6))))))) (A5 (AH B4)
  A7) A7)
  (A5 (AH (CK (Dh Og (DX aw bC (A0 0)) Gz) (CA (Dh (Yn (d:=17) (C3 (Cb (by decide:1+17≤64) _) hr.units)) (GF (C3 (Cb (by decide:1≤64) _) hr.units) (DX aw av (A0 0)) (A0 2)) (DX aw bC (A0 0))))))
  A7))),?_⟩
 simp only[Ai];have hG:=hs;obtain⟨⟨dx,pp,pw,h1,h2,h3,n1,n2⟩,h4⟩:=hG;have ln:=en.ln;let⟨x,rfl⟩:=jG ew;unfold Sm.Ok at so;unfold AE at q;rw[Sm.tr];have no:Z (.bl false) (A9 Γ pk (.dK (CM ks)))→Dx Z (.bl false) Γ:=λq=>by rw[EN h4]at q;exact AB .refl q
 rw[EN h4]at q;left;exact Ψ7 a pk x Ps re W ks ⟨rfl,hs,?_⟩;cases e:ks.lookup x with
 |none=>
  rw[e]at q;left;exact AB .refl q
 |some k=>
  rw[e]at q;left;exact Ψ7 a pk x Ps re W ks ⟨rfl,hs,?_⟩;left;exact AW (λc=>?_) (λc=>?_)
  ·left
   cases re with
   |none=>exact AB .refl q
   |some r=>
    have q:Z (.bl (DG W x&&kq k r)) Γ:=q;rw[show DG W x=false by simpa using c]at q;exact AB .refl q
  have c:DG W x=true:=by simpa using c
  cases re with
  |none=>
   left;exact AB .refl q
  |some r=>
   have q:Z (.bl (DG W x&&kq k r)) Γ:=q;rw[c,BA]at q;left;rw[show Fv (EV (some r))=false by let⟨ts,e⟩:=GA r;show Fv r.tr=_;rw[e];rfl];left;unfold Gd;left;exact Ψ4 pk _ (.inr x) k.tr ⟨rfl,rfl,h4,by rw[DZ,e];rfl,?_⟩;left;exact⟨IY (Eo (en.gk _ (E8 e)).2) (Eo (en.re r rfl).2),AB .refl q⟩
end
section
variable {K: W.Frag}
abbrev MD:Stmt:=Au 54
theorem fT:Ak ["scope","body","statement","rule"] ["scope","body"] (AX MD):=⟨rfl,rfl,rfl,by decide +kernel,rfl,by decide +kernel,by decide +kernel⟩
theorem pV(F:cP K "is_good_body" "is_good_body" MD f fd)(km:mg "RULES" = some (.ref JC))(PR:∀s:Sm,∃ay b,yc P w K JC ay∧ay.lookup s.word=some b∧Zz P w K mg am b (lv+3) ["scope","statement"] (Ew C s.tag (m+1))):a8 P w K mg am Ag (lv+4) f fd ["scope","body"] (Af (KH C (m+1))):=by
 exact As F fT (λts Γ Z Y h=>?_) (λcn A outer s H E ts Γ Z Y hr h=>?_)
 ·let⟨_,_,_,_,_,_,_,rfl,_⟩:=h
  rfl
 let⟨a,pk,ss,Ps,re,W,ks,rfl,so,hm,en,hs,q⟩:=h;exact⟨_,(A5 (GJ HS rfl (Dc (A0 1)) (Aa (i:=2) fT.nd) (A5 (Ad (i:=3) fT.nd (Yi (Ds rfl km Kn) (AY (A0 2) AA)))
  (A5 (Ah (B5 (B7 (ue 3 (lv+3) ["scope","statement"] hr (by lia) (A3 (A0 0) (A3 (A0 2) A6))))) (A5 (AH B4)
  A7) A7)
  A7)))
  (A5 (AH B4)
  A7)),?_⟩
 simp only[Ai];left;exact⟨λv4 τ Γ'=>∃(rs:List Sm) (ls:ad) (o2 o3:Option T),v4=BI rs∧By rs∧Fi rs<m+1∧En Ps re W ls (BU rs)∧Sc C Γ' a Ps re W ls pk∧Kq [pk] Γ Γ'∧An Ps re W ss ks=An Ps re W rs ls∧τ=[some (.ref a),some (.tup (BI ss)),o2,o3],Ψ4 ss ks none none ⟨rfl,so,hm,en,hs,.refl,rfl,rfl⟩,?_,?_⟩
 ·intro τ Γ'⟨rs,ls,o2,o3,er,ro,rh,M0,MX,kq,eg,rfl⟩
  have hz:rs=[]:=by
   cases rs with
   |nil=>rfl
   |cons p r=>rw[BI]at er;cases er
  subst hz;rw[eg]at q;unfold An at q;exact⟨trivial,?_⟩;left;exact eC kq MX.kk q
 ·intro x r τ Γ'⟨rs,ls,o2,o3,er,ro,rh,M0,MX,kq,eg,rfl⟩
  cases rs with
  |nil=>rw[BI]at er;cases er
  |cons s0 rs=>
   rw[BI]at er;cases er;unfold By at ro;unfold Fi at rh;unfold BU at M0;let⟨ay,b,kd,lk,fc⟩:=PR s0;have tp:=s0.EG;left;unfold Sv;rw[tp];left;exact Ψ4 JC ay s0.word b ⟨rfl,kd,rfl,lk,?_⟩;left;unfold Z2;exact Ψ2 b (Ew C s0.tag (m+1)) ⟨rfl,fc,?_⟩;rw[←tp];left;exact Ψ7 a pk s0 Ps re W ls ⟨rfl,rfl,ro.1,by lia,M0.le (by lia),MX,?_⟩;have Tw:=MX.set (AE Ps re W s0 ls).2;have Rn:Kq [pk] Γ (A9 Γ' pk (.dK (CM (AE Ps re W s0 ls).2))):=kq.trans (Kq.set (by simp) _);left;exact AW (λc=>?_) (λc=>?_)
   ·have c:(AE Ps re W s0 ls).1=false:=by simpa using c
    rw[eg]at q;unfold An at q;rw[AN (by rw[c];exact BJ)]at q;left;exact eC Rn B1 q
   ·have c:(AE Ps re W s0 ls).1=true:=by simpa using c
    left;exact Ψ4 rs _ _ _ ⟨rfl,ro.2,by lia,M0.step ro.1,Tw,Rn,?_,rfl⟩;rw[eg,An,AR c]
end
section
variable {K: W.Frag}{f0 f1 f2 f3 f4 f5 f6 f7 f8 f9 Jy Jx: Addr}{Qd wH wG Qc Qb Qa P9 P8 P7 P6 IM IL: FuncData}
theorem fw(F:cP K "is_good_body" "is_good_body" MD f fd)(m:mg "is_good_body" = some (.ref f))(kp:W.keepIn K (.ref f)=true)(b:Binds K fd ["scope","body"] [])(kW:cP K "is_good_new" "is_good_new" NT f0 Qd)(jO:W.keepIn K (.ref f0)=true)(kP:Binds K Qd ["scope","statement"] [])(ka:cP K "is_good_copy" "is_good_copy" My f1 wH)(jh:W.keepIn K (.ref f1)=true)(jY:Binds K wH ["scope","statement"] [])(j7:cP K "is_good_part" "is_good_part" OG f2 wG)(je:W.keepIn K (.ref f2)=true)(jV:Binds K wG ["scope","statement"] [])(kU:cP K "is_good_put" "is_good_put" OM f3 Qc)(jN:W.keepIn K (.ref f3)=true)(kO:Binds K Qc ["scope","statement"] [])(kY:cP K "is_good_add" "is_good_add" ML f4 Qb)(jP:W.keepIn K (.ref f4)=true)(kQ:Binds K Qb ["scope","statement"] [])(j9:cP K "is_good_drop" "is_good_drop" OJ f5 Qa)(jg:W.keepIn K (.ref f5)=true)(jX:Binds K Qa ["scope","statement"] [])(kS:cP K "is_good_say" "is_good_say" Mb f6 P9)(jM:W.keepIn K (.ref f6)=true)(kN:Binds K P9 ["scope","statement"] [])(kb:cP K "is_good_call" "is_good_call" NP f7 P8)(ji:W.keepIn K (.ref f7)=true)(jZ:Binds K P8 ["scope","statement"] [])(j6:cP K "is_good_same" "is_good_same" OE f8 P7)(jd:W.keepIn K (.ref f8)=true)(jU:Binds K P7 ["scope","statement"] [])(j8:cP K "is_good_fail" "is_good_fail" OA f9 P6)(jf:W.keepIn K (.ref f9)=true)(jW:Binds K P6 ["scope","statement"] [])(kR:cP K "is_good_try" "is_good_try" NF Jy IM)(jL:W.keepIn K (.ref Jy)=true)(kM:Binds K IM ["scope","statement"] [])(kc:cP K "is_good_back" "is_good_back" Mv Jx IL)(jj:W.keepIn K (.ref Jx)=true)(j3:Binds K IL ["scope","statement"] [])(k_RULES:yc P w K JC [("new",f0),("copy",f1),("part",f2),("put",f3),("add",f4),("drop",f5),("say",f6),("call",f7),("same",f8),("fail",f9),("try",Jy),("back",Jx)])(km:mg "RULES" = some (.ref JC))(aw:nD K C)(av:bw K C "kinds")(bD:bw K C "papers")(bC:bw K C "result")(aE:CZ P w K mg am C "knows" 1 ["self","name"] (GN C))(bL:CZ P w K mg am C "is_own" 1 ["self","name"] (KD C))(aP:CZ P w K mg am C "may_make" 2 ["self","name","kind"] (JE C))(dQ:CZ P w K mg am C "may_hand" 2 ["self","name","place"] (QN C))(dq:AU P w K mg am "kind_at" 4 ["kind","path"] KQ)(bV:AU P w K mg am "is_good_change" 2 ["scope","target","name"] (MK C))(aG:mg "len" = none)(bc:mg "all" = none)(fo:mg "zip" = none):
  ∀n:Nat,AU P w K mg am "is_good_body" (2*n+4) ["scope","body"] (KH C n)
 |0=>Ψ2 f fd ⟨Ms λts Γ Z Y h=>by obtain⟨_,_,_,_,_,_,_,_,_,h,_⟩:=h;lia,m,kp,b⟩
 |n+1=>by
  have c:=fw F m kp b kW jO kP ka jh jY j7 je jV kU jN kO kY jP kQ j9 jg jX kS jM kN kb ji jZ j6 jd jU j8 jf jW kR jL kM kc jj j3 k_RULES km aw av bD bC aE bL aP dQ dq bV aG bc fo n;exact Ψ2 f fd ⟨?_,m,kp,b⟩;rw[show 2*(n+1)+4=(2*n+2)+4 by lia];exact pV F km λs=>?_;cases s with
  |new x k v=>exact Ψ2 _ f0 ⟨k_RULES,rfl,Qd,(qg kW aP).mono (by lia),jO,kP⟩
  |copy x y=>exact Ψ2 _ f1 ⟨k_RULES,rfl,wH,(mT ka aw av aE aP).mono (by lia),jh,jY⟩
  |part x y p=>exact Ψ2 _ f2 ⟨k_RULES,rfl,wG,(aaa j7 aw av aE aP dq).mono (by lia),je,jV⟩
  |put y p x=>exact Ψ2 _ f3 ⟨k_RULES,rfl,Qc,(jw kU aw av bV dq).mono (by lia),jN,kO⟩
  |add y p x=>exact Ψ2 _ f4 ⟨k_RULES,rfl,Qb,(xZ kY aw av bV dq).mono (by lia),jP,kQ⟩
  |drop x=>exact Ψ2 _ f5 ⟨k_RULES,rfl,Qa,(om j9 aE bL).mono (by lia),jg,jX⟩
  |say x=>exact Ψ2 _ f6 ⟨k_RULES,rfl,P9,(pU kS aE).mono (by lia),jM,kN⟩
  |call z d ns=>exact Ψ2 _ f7 ⟨k_RULES,rfl,P8,(iR kb aw bD dQ aP aG bc fo).mono (by lia),ji,jZ⟩
  |same x y b1 b2=>exact Ψ2 _ f8 ⟨k_RULES,rfl,P7,(lq j6 aw av aE c).mono (by lia),jd,jU⟩
  |fail n0=>exact Ψ2 _ f9 ⟨k_RULES,rfl,P6,(uF j8).mono (by lia),jf,jW⟩
  |tri b1 b2=>exact Ψ2 _ Jy ⟨k_RULES,rfl,IM,(vB kR c).mono (by lia),jL,kM⟩
  |back x=>exact Ψ2 _ Jx ⟨k_RULES,rfl,IL,(rV kc aw av bC aE bL).mono (by lia),jj,j3⟩
end
def CH(hs:List Sh)(sd:Int):ad:=(hs.filter λh=>decide (h.sd=sd)).map λh=>(h.nm,h.k)
noncomputable def FT(Ps:List (Str×Pr))(hs:List Sh)(p:Pr)(b:List Sm):Bool:=!(p.ps.any λq=>((CH hs p.sd).lookup q.1).isSome)&&(An Ps p.re (p.ps.map λq=>(q.1,q.2.1)) b (CH hs p.sd++p.ps.map λq=>(q.1,q.2.2))).1
theorem oa{hs:List Sh}{sd:Int}(h:∀s∈hs,s.Ok):Fp (CH hs sd):=λp m=>by
 let⟨s,hm,rfl⟩:=X9.mp m;exact(h s (ZN.mp hm).1).k
theorem rI(hs:List Sh)(sd:Int):(CH hs sd).length≤hs.length:=by
 unfold CH;rw[AV];exact List.length_filter_le _ _
section
variable {K: W.Frag}
abbrev YV:Stmt:=Au 52
theorem i8:Ak ["papers","shelves","paper","body","around"] ["papers","shelves","paper","body"] (AX YV):=⟨rfl,rfl,rfl,by decide +kernel,rfl,by decide +kernel,by decide +kernel⟩
def gc(C:Addr):Am:=λts Γ Z _=>∃(pp:Addr) (hs:List Sh) (p:Pr) (b:List Sm) (Ps:List (Str×Pr)),ts=[.ref pp,.tup (hs.map Sh.tr),p.tr,.tup (BI b)]∧Γ pp=some (.dK (Jm Ps))∧(∀s∈hs,s.Ok)∧(hs.map λs=>(s.nm,s.sd)).Nodup∧hs.length≤900∧p.Ok∧(∀p∈Ps,p.2.Ok)∧By b∧Fi b<5∧BU b≤90000∧Z (.bl (FT Ps hs p b)) Γ
theorem nj(F:cP K "is_good_door" "is_good_door" YV f fd)(sD:mg "Scope" = some (.ref C))(Es:Tf P w K mg am C 1 ["self","papers","paper","around"] (Zn C))(cC:AU P w K mg am "is_good_body" 14 ["scope","body"] (KH C 5))(lI:mg "any" = none):a8 P w K mg am Ag 15 f fd ["papers","shelves","paper","body"] (Af (gc C)):=by
 exact As F i8 (λts Γ Z Y h=>?_) (λcn A outer s H E ts Γ Z Y hr h=>?_)
 ·let⟨_,_,_,_,_,rfl,_⟩:=h
  rfl
 obtain⟨pp,hs,p,b,Ps,rfl,gp,ho,nd,hl,po,TJ,bo,bh,bz,q⟩:=h;exact⟨_,(A5 (Ad (i:=4) i8.nd (uZ (own:=["name","side","kind","worth"]) (cap:=[(2,"paper")]) (Gb rfl (by decide +kernel) (by decide +kernel) rfl (⟨rfl,trivial⟩) rfl (⟨⟨rfl,rfl,rfl⟩,trivial⟩)) rfl (Dc (A0 1)) (λ_ _ _ _=>(Be (n:=4) rfl (AL (BM (i:=0) (show List.Nodup (["name","side","kind","worth","paper"]:List Str)from by decide +kernel) rfl (Or.inl rfl) (Or.inr rfl)) (AL (BM (i:=1) (show List.Nodup (["name","side","kind","worth","paper"]:List Str)from by decide +kernel) rfl (Or.inl rfl) (Or.inr rfl)) (AL (BM (i:=2) (show List.Nodup (["name","side","kind","worth","paper"]:List Str)from by decide +kernel) rfl (Or.inl rfl) (Or.inr rfl)) (AL (BM (i:=3) (show List.Nodup (["name","side","kind","worth","paper"]:List Str)from by decide +kernel) rfl (Or.inl rfl) (Or.inr rfl)) Bd)))))) (λ_ _ _ _=>(i5 (B0 CT (A0 1) (AY (A0 4) AA)))) (λ_ _ _ _=>(A0 0)) (λ_ _ _ _=>(A0 2))))
  (A5 (Ah (B7 (Av (Yp rfl) rfl lI PyProof.Rows.boot_any (A3 (EB (own:=["name","way","kind"]) (cap:=[(4,"around")]) (Gb rfl (by decide +kernel) (by decide +kernel) rfl (⟨rfl,trivial⟩) rfl (⟨⟨rfl,rfl,rfl⟩,trivial⟩)) rfl (Dc (AY (A0 2) AA)) (λ_ _ _ _=>(Be (n:=3) rfl (AL (BM (i:=0) (show List.Nodup (["name","way","kind","around"]:List Str)from by decide +kernel) rfl (Or.inl rfl) (Or.inr rfl)) (AL (BM (i:=1) (show List.Nodup (["name","way","kind","around"]:List Str)from by decide +kernel) rfl (Or.inl rfl) (Or.inr rfl)) (AL (BM (i:=2) (show List.Nodup (["name","way","kind","around"]:List Str)from by decide +kernel) rfl (Or.inl rfl) (Or.inr rfl)) Bd))))) (λ_ _ _ _=>EH) (λ_ _ _ _=>(GR (dh (C3 (Cb (by decide:1≤64) _) hr.units)) (A0 0) (A0 3) (by with_unfolding_all rfl)))) A6))) (A5 (AH B4)
  A7) A7)
  (A5 (AH (Ae cC hr (A3 (wR Es hr (by lia) rfl sD (A3 (A0 0) (A3 (A0 2) (A3 (A0 4) A6)))) (A3 (A0 3) A6))))
  A7))),?_⟩
 simp only[Ai];have pl:=po.ln;have al:=rI hs p.sd;left;unfold Qw;left;exact⟨by rw[AV,CS];lia,?_⟩;exact⟨λv4 τ ys Γ'=>∃(gs ds:List Sh) (o1 o2 o3 o4:Option T),v4=gs.map Sh.tr∧hs=ds++gs∧τ=[o1,o2,o3,o4,some p.tr]∧ys=CM (CH ds p.sd)∧Γ'=Γ,Ψ6 hs [] none none none none ⟨rfl,rfl,rfl,rfl,rfl⟩,?_,?_⟩;rotate_left
 ·intro x r τ ys Γ'⟨gs,ds,o1,o2,o3,o4,er,ez,rfl,rfl,rfl⟩
  cases gs with
  |nil=>cases er
  |cons g gs=>
   cases er;exact⟨trivial,?_⟩;unfold Sh.tr Pr.tr;left;have ed:decide (V.int g.sd=V.int p.sd)=decide (g.sd=p.sd):=Zk.mpr ⟨V.int.inj,λe=>by rw[e]⟩;rw[ed];have ap:CH (ds++[g]) p.sd=CH ds p.sd++(if g.sd=p.sd then [(g.nm,g.k)]else []):=by
    unfold CH;rw[List.filter_append,Ao];congr 1
    by_cases c:g.sd=p.sd<;>simp[c]
   exact AW (λc=>?_) (λc=>?_)
   ·have c:=Ej c
    left;exact⟨.inr g.nm,rfl,gs,ds++[g],_,_,_,_,rfl,by rw[ez];simp,rfl,?_,rfl⟩;rw[ap,AR c];exact LK Kd.tr (v:=g.k) (eL.mpr λm=>?_);unfold CH at m;rw[Dn]at m;let⟨d,hd,e⟩:=X9.mp m;let⟨hd,hd2⟩:=ZN.mp hd;have hd2:=Ej hd2;rw[ez,Ao,YY]at nd;exact nd.2.2 (d.nm,d.sd) (X9.mpr ⟨d,hd,rfl⟩) (g.nm,g.sd) (by simp) (by rw[show d.nm=g.nm from e,hd2,c])
   ·have c:=FX c
    exact Ψ6 gs (ds++[g]) _ _ _ _ ⟨rfl,by rw[ez];simp,rfl,?_,rfl⟩;rw[ap,AN c,Bt]
 intro τ ys Γ'⟨gs,ds,o1,o2,o3,o4,er,ez,rfl,rfl,rfl⟩;have hg:gs=[]:=by
  cases gs with
  |nil=>rfl
  |cons _ _=>cases er
 subst hg;rw[Bt]at ez;subst ez;exact⟨trivial,λpa UH=>?_⟩;generalize e1:A9 _ pa (O.dK _)=Γ1;have g1:=AZ e1;have l1:=Ab e1 UH;unfold FT at q;left;unfold Pr.tr;left;exact HI (i:=2) rfl ?_;left;exact⟨CG (CJ (by rw[AV];lia)),?_⟩;exact⟨λv4 τ ys Γ'=>∃(gs ds:List (Str×Str×Kd)) (o1 o2 o3:Option T),v4=gs.map BB∧p.ps=ds++gs∧τ=[o1,o2,o3,some (.ref pa)]∧ys=(ds.map λq=>((CH hs p.sd).lookup q.1).isSome).map T.bl∧Γ'=Γ1,Ψ5 p.ps [] none none none ⟨rfl,rfl,rfl,rfl,rfl⟩,?_,?_⟩;rotate_left
 ·intro x r τ ys Γ'⟨gs,ds,o1,o2,o3,er,ez,rfl,rfl,rfl⟩
  cases gs with
  |nil=>cases er
  |cons g gs=>
   cases er;exact⟨trivial,?_⟩;unfold BB;left;exact Ψ3 pa _ (.inr g.1) ⟨rfl,rfl,g1,?_⟩;rw[DZ,K5];exact Ψ5 gs (ds++[g]) _ _ _ ⟨rfl,by rw[ez];simp,rfl,by rw[Ao,Ao];rfl,rfl⟩
 intro τ ys Γ'⟨gs,ds,o1,o2,o3,er,ez,rfl,rfl,rfl⟩;have hg:gs=[]:=by
  cases gs with
  |nil=>rfl
  |cons _ _=>cases er
 subst hg;rw[Bt]at ez;rw[←ez];exact⟨trivial,?_⟩;intro p2 hU;generalize e2:A9 _ p2 (O.lst _)=Γ2;have g2:=AZ e2;have l2:=Ab e2 hU
 left;exact Ψ2 p2 _ ⟨rfl,Bk g2,?_⟩;rw[List.any_map];left;exact AW (λc=>?_) (λc=>?_)
 ·have c:(p.ps.any λq=>((CH hs p.sd).lookup q.1).isSome)=true:=c
  rw[c]at q;left;exact AB (l1.trans l2) q
 have c:(p.ps.any λq=>((CH hs p.sd).lookup q.1).isSome)=false:=c;rw[c,Bool.not_false,BA]at q;have no:∀q∈p.ps,(CH hs p.sd).lookup q.1=none:=λq hq=>by
  cases e:(CH hs p.sd).lookup q.1 with
  |none=>rfl
  |some k=>
   have:(p.ps.any λq=>((CH hs p.sd).lookup q.1).isSome)=true:=ZL.mpr ⟨q,hq,by rw[e];rfl⟩;rw[c]at this;cases this
 left;intro a dx ga Xu nx;have l3:Le Γ2 (A9 Γ2 a (.ins C dx [])):=Le.new ga;exact Ψ7 a dx pp pa p Ps (CH hs p.sd) ⟨rfl,B1,l3 _ _ (l2 _ _ (l1 _ _ gp)),l3 _ _ (l2 _ _ g1),po,no,by lia,λΓ' pk kq Lg sc=>⟨rfl,?_⟩⟩;left;exact Ψ7 a pk b Ps p.re _ _ ⟨rfl,bo,bh,?_,sc,?_⟩
 ·exact⟨λx m=>?_,λx m=>?_,TJ,po.re,?_⟩
  ·rcases YE.mp m with m|m
   ·exact oa ho x m
   ·let⟨y,hy,rfl⟩:=X9.mp m
    exact(po.pl y hy).2.2
  ·let⟨y,hy,rfl⟩:=X9.mp m
   exact(po.pl y hy).2.1
  ·rw[Br,AV];lia
 ·exact AB (λx u h=>?_) q
  have h2:=l2 _ _ (l1 _ _ h);have T5:x≠a:=EZ h2 ga;have T4:x≠pk:=λe=>by
   subst e;have:=l3 _ _ h2;rw[Lg]at this;cases this
  rw[Bz T4];exact kq x u (by simpa using T5) (l3 _ _ h2)
theorem nq{b:Bool}(h:(!b)=true):b=false:=by cases b<;>first|rfl|cases h
theorem rO{b:Bool}(h:(!b)=false):b=true:=by cases b<;>first|rfl|cases h
mutual
theorem eqT:∀{s:Sm} {d:Nat},s.fm d=true→d≤4→s.ht+d≤4
 |.new x k v,d,h,l=>by unfold Sm.ht;lia
 |.copy x y,d,h,l=>by unfold Sm.ht;lia
 |.part x y p,d,h,l=>by unfold Sm.ht;lia
 |.put y p x,d,h,l=>by unfold Sm.ht;lia
 |.add y p x,d,h,l=>by unfold Sm.ht;lia
 |.drop x,d,h,l=>by unfold Sm.ht;lia
 |.say x,d,h,l=>by unfold Sm.ht;lia
 |.call z e ns,d,h,l=>by unfold Sm.ht;lia
 |.same x y a b,d,h,l=>by
  unfold Sm.fm at h;simp only[E9,Nq]at h;have i1:=JK h.2.2.1.2 h.2.2.1.1;have i2:=JK h.2.2.2.2 h.2.2.2.1;unfold Sm.ht;lia
 |.fail n,d,h,l=>by unfold Sm.ht;lia
 |.tri a b,d,h,l=>by
  unfold Sm.fm at h;simp only[E9,Nq]at h;have i1:=JK h.1.2 h.1.1;have i2:=JK h.2.2 h.2.1;unfold Sm.ht;lia
 |.back x,d,h,l=>by unfold Sm.ht;lia
theorem JK:∀{ss:List Sm} {d:Nat},DV ss d=true→d≤4→Fi ss+d≤4
 |[],d,h,l=>by unfold Fi;lia
 |s::r,d,h,l=>by
  unfold DV at h;rw[E9]at h;have i1:=eqT h.1 l;have i2:=JK h.2 l;unfold Fi;lia
end
theorem nT{ys:List (AG×T)}{k:AG}{v:T}(h:k∈ys.map (·.1)):(ED ys k v).length=ys.length:=by
 unfold ED;rw[AR,AV];let⟨p,hp,e⟩:=X9.mp h;exact ZL.mpr ⟨p,hp,CI e⟩
def EF(ds:List Dr):List (Str×Pr):=ds.map λd=>(d.p.nm,d.p)
noncomputable def NN(ds:List Dr)(hs:List Sh):Bool:=((ds.all λd=>EO d.b 1)&&hs.all λs=>Bp s.k s.w)&&(decide (ds.map λd=>d.p.nm).Nodup&&ds.all λd=>FT (EF ds) hs d.p d.b)
abbrev PV:Stmt:=Au 51
theorem fD:Ak ["thing","doors","shelves","papers"] ["thing"] (AX PV):=⟨rfl,rfl,rfl,by decide +kernel,rfl,by decide +kernel,by decide +kernel⟩
def ZY:Am:=λts Γ Z _=>∃(ds:List Dr) (hs:List Sh),ts=[.tup [.tup (ds.map Dr.tr),.tup (hs.map Sh.tr)]]∧ds.length≤900∧hs.length≤1∧(∀d∈ds,d.Ok)∧(∀s∈hs,s.Ok)∧(∀d∈ds,BU d.b≤90000)∧Z (.bl (NN ds hs)) Γ
theorem ly(F:cP K "is_program" "is_program" PV f fd)(lD:AU P w K mg am "has_program_form" 40 ["thing"] aQ)(qt:AU P w K mg am "is_good_door" 15 ["papers","shelves","paper","body"] (gc C))(aG:mg "len" = none)(bc:mg "all" = none):a8 P w K mg am Ag 41 f fd ["thing"] (Af ZY):=by
 exact As F fD (λts Γ Z Y h=>?_) (λcn A outer s H E ts Γ Z Y hr h=>?_)
 ·let⟨_,_,rfl,_⟩:=h
  rfl
 let⟨ds,hs,rfl,dl,hl,od,os,zs,q⟩:=h;exact⟨_,(A5 (Ah (B5 (B7 (Ae lD hr (A3 (A0 0) A6)))) (A5 (AH B4)
  A7) A7)
  (A5 (EJ (A0 0) (Be (n:=2) rfl (AL (Aa (i:=1) fD.nd) (AL (Aa (i:=2) fD.nd) Bd))))
  (A5 (Ad (i:=3) fD.nd (cY (own:=["paper","body"]) (cap:=[]) Ez rfl (Dc (A0 1)) (λ_ _ _ _=>(Be (n:=2) rfl (AL (BM (i:=0) (show List.Nodup (["paper","body"]:List Str)from by decide +kernel) rfl (Or.inl rfl) (Or.inr rfl)) (AL (BM (i:=1) (show List.Nodup (["paper","body"]:List Str)from by decide +kernel) rfl (Or.inl rfl) (Or.inr rfl)) Bd)))) (λ_ _ _ _=>(AY (A0 0) AA)) (λ_ _ _ _=>(A0 0))))
  (A5 (Ah (PW.pt (CQ (B0 EI (Av zC rfl aG Bm (A3 (A0 3) A6)) (Av DL rfl aG Bm (A3 (A0 1) A6))) (DJ (B0 EI (Av xG rfl aG Bm (A3 (pW (C3 (Cb (by decide:1≤64) _) hr.units) (own:=["name","side","kind","worth"]) (cap:=[]) Ez rfl (Dc (A0 2)) (λ_ _ _ _=>(Be (n:=4) rfl (AL (BM (i:=0) (show List.Nodup (["name","side","kind","worth"]:List Str)from by decide +kernel) rfl (Or.inl rfl) (Or.inr rfl)) (AL (BM (i:=1) (show List.Nodup (["name","side","kind","worth"]:List Str)from by decide +kernel) rfl (Or.inl rfl) (Or.inr rfl)) (AL (BM (i:=2) (show List.Nodup (["name","side","kind","worth"]:List Str)from by decide +kernel) rfl (Or.inl rfl) (Or.inr rfl)) (AL (BM (i:=3) (show List.Nodup (["name","side","kind","worth"]:List Str)from by decide +kernel) rfl (Or.inl rfl) (Or.inr rfl)) Bd)))))) (λ_ _ _ _=>(AP (A3 (A0 0) (A3 (A0 1) A6))))) A6)) (Av DL rfl aG Bm (A3 (A0 2) A6)))))) (A5 (AH B4)
  A7) A7)
  (A5 (AH (Av (F5 rfl) rfl bc F6 (A3 (EB (own:=["paper","body"]) (cap:=[(3,"papers"),(2,"shelves")]) (Gb rfl (by decide +kernel) (by decide +kernel) rfl (⟨rfl,⟨rfl,trivial⟩⟩) rfl (⟨⟨rfl,rfl,rfl⟩,⟨⟨rfl,rfl,rfl⟩,trivial⟩⟩)) rfl (Dc (A0 1)) (λ_ _ _ _=>(Be (n:=2) rfl (AL (BM (i:=0) (show List.Nodup (["paper","body","papers","shelves"]:List Str)from by decide +kernel) rfl (Or.inl rfl) (Or.inr rfl)) (AL (BM (i:=1) (show List.Nodup (["paper","body","papers","shelves"]:List Str)from by decide +kernel) rfl (Or.inl rfl) (Or.inr rfl)) Bd)))) (λ_ _ _ _=>EH) (λ_ _ _ _=>(Ae qt hr (A3 (A0 2) (A3 (A0 3) (A3 (A0 0) (A3 (A0 1) A6))))))) A6)))
  A7))))),?_⟩
 simp only[Ai];unfold NN at q;left;exact Ψ2 ds hs ⟨rfl,dl,by lia,od,os,?_⟩;left;exact AW (λc=>?_) (λc=>?_)
 ·rw[nq c]at q
  left;exact AB .refl q
 have c:=rO c;rw[c,BA]at q;rw[E9]at c;have cd:=Yw.mp c.1;left;unfold OK;left;exact⟨by rw[AV,CS];lia,?_⟩;exact⟨λv4 τ ys Γ'=>∃(gs es:List Dr) (o1 o2:Option T),v4=gs.map Dr.tr∧ds=es++gs∧τ=[o1,o2]∧(((es.map λd=>d.p.nm).Nodup∧ys=Jm (EF es))∨(¬(es.map λd=>d.p.nm).Nodup∧ys.length<es.length))∧Γ'=Γ,Ψ4 ds [] none none ⟨rfl,rfl,rfl,.inl ⟨by simp,rfl⟩,rfl⟩,?_,?_⟩;rotate_left
 ·intro x r τ ys Γ'⟨gs,es,o1,o2,er,ez,rfl,hy,rfl⟩
  cases gs with
  |nil=>cases er
  |cons g gs=>
   cases er;exact⟨trivial,?_⟩;unfold Dr.tr Pr.tr;left;exact⟨.inr g.p.nm,rfl,gs,es++[g],_,_,rfl,by rw[ez];simp,rfl,?_,rfl⟩;rw[Ao,Br];rcases hy with⟨nd,rfl⟩|⟨nn,ln⟩
   ·by_cases m:g.p.nm∈es.map λd=>d.p.nm
    ·exact .inr ⟨λz=>?_,?_⟩
     ·rw[YY]at z
      exact z.2.2 _ m g.p.nm (by simp) rfl
     ·rw[nT,AV]
      ·unfold EF;rw[AV];simp
      ·let⟨d,hd,e⟩:=X9.mp m
       unfold EF Jm GD;rw[Dn,Dn];exact X9.mpr ⟨d,hd,by show(Sum.inr d.p.nm:AG)=_;rw[e]⟩
    ·exact .inl ⟨?_,?_⟩
     ·rw[YY]
      exact⟨nd,by simp,λx hx y hy e=>?_⟩;rw[BQ,EK,Yu]at hy;subst hy;subst e;exact m hx
     ·unfold EF
      rw[Ao];exact LK Pr.tr (v:=g.p) (eL.mpr ?_);rw[Dn];exact m
   ·exact .inr ⟨λz=>nn (YY.mp z).1,?_⟩
    have:=YH ys (.inr g.p.nm) g.p.tr;have:(ED ys (.inr g.p.nm) (.tup [.str g.p.nm,.int g.p.sd,.tup (g.p.ps.map BB),EV g.p.re])).length≤ys.length+1:=this;simp only[Ny];lia
 intro τ ys Γ'⟨gs,es,o1,o2,er,ez,rfl,hy,rfl⟩;have hg:gs=[]:=by
  cases gs with
  |nil=>rfl
  |cons _ _=>cases er
 subst hg;rw[Bt]at ez;subst ez;exact⟨trivial,λpp UE=>?_⟩;generalize e1:A9 _ pp (O.dK _)=Γ1;have g1:=AZ e1;have l1:=Ab e1 UE;left;exact Ψ2 pp ys ⟨rfl,g1,?_⟩;left;rw[AV];rcases hy with⟨nd,rfl⟩|⟨nn,ln⟩
 rotate_left
 ·exact SV ?_ ?_
  ·have:¬((ys.length:Int)=(ds.length:Nat)):=by lia
   simp[this]
  rw[Du nn,Dw]at q;left;exact AB l1 q
 rw[CI nd,BA]at q;exact Lh ?_ ?_
 ·unfold Jm GD EF
  simp
 left;unfold TF;left;exact⟨by rw[AV];lia,?_⟩;exact⟨λv4 τ Γ'=>∃(gs es:List Sh) (o1 o2 o3 o4:Option T),v4=gs.map Sh.tr∧hs=es++gs∧τ=[o1,o2,o3,o4]∧Γ'=Γ1,Ψ6 hs [] none none none none ⟨rfl,rfl,rfl,rfl⟩,?_,?_⟩;rotate_left
 ·intro x r τ Γ'⟨gs,es,o1,o2,o3,o4,er,ez,rfl,rfl⟩
  cases gs with
  |nil=>cases er
  |cons g gs=>
   cases er;exact⟨trivial,?_⟩;unfold Sh.tr;left;exact⟨[.inr g.nm,.inl g.sd],rfl,gs,es++[g],_,_,_,_,rfl,by rw[ez];simp,rfl,rfl⟩
 intro τ Γ'⟨gs,es,o1,o2,o3,o4,er,ez,rfl,rfl⟩;exact⟨trivial,λD hD=>?_⟩;have l2:Le Γ' (A9 Γ' D (.ext (De D (hs.map Sh.tr).length))):=Le.new hD;left;exact Ψ2 D _ ⟨rfl,by rw[AV];lia,B1,?_⟩;left;exact Lh (by simp) ?_;left;generalize e3:A9 Γ' D _=Γ3 at l2 ⊢;exact⟨CG (CJ (by rw[AV];lia)),?_⟩;exact⟨λv4 τ ys Γ'=>∃(gs es:List Dr) (o1 o2:Option T),v4=gs.map Dr.tr∧ds=es++gs∧τ=[o1,o2,some (.ref pp),some (.tup (hs.map Sh.tr))]∧ys=(es.map λd=>FT (EF ds) hs d.p d.b).map T.bl∧Γ'=Γ3,Ψ4 ds [] none none ⟨rfl,rfl,rfl,rfl,rfl⟩,?_,?_⟩;rotate_left
 ·intro x r τ ys Γ'⟨gs,es,o1,o2,er,ez,rfl,rfl,rfl⟩
  cases gs with
  |nil=>cases er
  |cons g gs=>
   cases er;have gm:g∈ds:=by rw[ez];simp
   have og:=od g gm;have fg:(decide (1≤4)&&DV g.b 1)=true:=cd g gm;have hg:=JK (show DV g.b 1=true from fg) (by decide);exact⟨trivial,?_⟩;unfold Dr.tr;left;exact Ψ5 pp hs g.p g.b (EF ds) ⟨rfl,l2 _ _ g1,os,?_,by lia,og.p,λx m=>?_,og.b,by lia,zs g gm,?_⟩
   ·match hs,hl with
    |[],_=>simp
    |[h],_=>simp
   ·let⟨d,hd,rfl⟩:=X9.mp m
    exact(od d hd).p
   exact Ψ4 gs (es++[g]) _ _ ⟨rfl,by rw[ez];simp,rfl,by rw[Ao,Ao];rfl,rfl⟩
 intro τ ys Γ'⟨gs,es,o1,o2,er,ez,rfl,rfl,rfl⟩;have hg:gs=[]:=by
  cases gs with
  |nil=>rfl
  |cons _ _=>cases er
 subst hg;rw[Bt]at ez;rw[←ez];exact⟨trivial,?_⟩;intro p4 UN;generalize e4:A9 _ p4 (O.lst _)=Γ4;have g4:=AZ e4;have l4:=Ab e4 UN
 left;exact Ψ2 p4 _ ⟨rfl,Bk g4,?_⟩;rw[FC];exact AB ((l1.trans l2).trans l4) q
end
abbrev cB:List Str:=["copy","give","shelf"]
abbrev ef:List Str:=["copy","give","shelf","lease"]
abbrev dc:List Str:=["copy","give","shelf","lease","lend"]
def EU(other:Str):List Str:=if other = "lease" then ef else if other = "give" then cB else dc
abbrev aF:Kd:=.row .text
inductive CU(a b c d e f other:Str):Sm→List Str→Prop
 |s0:CU a b c d e f other (.new a aF (.tup [.str "x",.str ""])) cB
 |s1:CU a b c d e f other (.copy a b) cB
 |s2:CU a b c d e f other (.part a b []) cB
 |s3:CU a b c d e f other (.call (some a) e []) cB
 |s4:CU a b c d e f other (.drop a) cB
 |s5:CU a b c d e f other (.back a) cB
 |s6:CU a b c d e f other (.put a [] b) ef
 |s7 (j:Int) (h0:0≤j) (h1:j<60):CU a b c d e f other (.put a [.int j] c) ef
 |s8:CU a b c d e f other (.add a [] c) ef
 |s9:CU a b c d e f other (.copy b a) dc
 |s10:CU a b c d e f other (.copy f a) dc
 |s11:CU a b c d e f other (.part c a [.int 59]) dc
 |s12:CU a b c d e f other (.say a) dc
 |s13:CU a b c d e f other (.put b [] a) dc
 |s14:CU a b c d e f other (.same a b [.drop b] [.back b]) dc
 |s15:CU a b c d e f other (.call none d [a]) (EU other)
 |s16:CU a b c d e f other (.call (some b) d [a]) (EU other)
 |s17:CU a b c d e f other (.call (some f) d [a]) (EU other)
def Bi(l:List (Sm×Addr)):List T:=l.map λq=>.tup [q.1.tr,.ref q.2]
structure gY(a b c d e f other:Str)(Γ:AJ)(l:List (Sm×Addr)):Prop where
 all:∀q∈l,∃ws,Γ q.2=some (.lst (ws.map T.str))∧CU a b c d e f other q.1 ws
section
variable {a b c d e f: Str}{Γ Γ': AJ}{l: List (Sm×Addr)}
theorem gY.mono(h:gY a b c d e f other Γ l)(le:Le Γ Γ'):gY a b c d e f other Γ' l:=⟨λq m=>by let⟨ws,g,r⟩:=h.all q m;exact⟨ws,le _ _ g,r⟩⟩
theorem gY.nil:gY a b c d e f other Γ []:=⟨λq m=>by cases m⟩
theorem gY.snoc(h:gY a b c d e f other Γ l)(g:Γ p=some (.lst (ws.map T.str)))(r:CU a b c d e f other s ws):gY a b c d e f other Γ (l++[(s,p)]):=⟨λq m=>by
 rcases YE.mp m with m|m
 ·exact h.all q m
 ·rw[Yu]at m;subst m;exact⟨ws,g,r⟩⟩
end
section
variable {K: W.Frag}
abbrev TA:Stmt:=Au 74
theorem aA:Ak ["names","other","draw","a","b","c","d","e","f","row","free","some","kept","held","due"] ["names","other","draw"] (AX TA):=⟨rfl,rfl,rfl,by decide +kernel,rfl,by decide +kernel,by decide +kernel⟩
def aa:Am:=λts Γ Z _=>∃(p:Addr) (a b c d e f other:Str) (dr:Int),ts=[.ref p,.str other,.int dr]∧Γ p=some (.lst ([a,b,c,d,e,f].map T.str))∧0≤dr∧∀Γ' p' s ws,Le Γ Γ'→Γ' p'=some (.lst (ws.map T.str))→CU a b c d e f other s ws→Z (.tup [s.tr,.ref p']) Γ'
theorem sf(F:cP K "_law_statement" "_law_statement" TA f fd):a8 P w K mg am Ag 1 f fd ["names","other","draw"] (Af aa):=by
 exact As F aA (λts Γ Z Y h=>?_) (λcn A outer s H E ts Γ Z Y hr h=>?_)
 ·let⟨_,_,_,_,_,_,_,_,_,rfl,_⟩:=h
  rfl
 let⟨p,a,b,c,d,e,f0,other,dr,rfl,gp,d0,q⟩:=h;exact⟨_,(A5 (Aw (EJ (A0 0) (zX (n:=6) rfl (AL (Aa (i:=3) aA.nd) (AL (Aa (i:=4) aA.nd) (AL (Aa (i:=5) aA.nd) (AL (Aa (i:=6) aA.nd) (AL (Aa (i:=7) aA.nd) (AL (Aa (i:=8) aA.nd) Bd)))))))))
  (A5 (Aw (Ad (i:=9) aA.nd (AP (A3 AM (A3 (AP (A3 AM A6)) A6)))))
  (A5 (Aw (Ad (i:=10) aA.nd (CW (A3 AM (A3 AM (A3 AM A6))))))
  (A5 (Aw (Ad (i:=11) aA.nd (CW (A3 (AP (A3 (AP (A3 AM (A3 (A0 3) (A3 (A0 9) (A3 (AP (A3 AM (A3 AM A6))) A6))))) (A3 (A0 10) A6))) (A3 (AP (A3 (AP (A3 AM (A3 (A0 3) (A3 (A0 4) A6)))) (A3 (A0 10) A6))) (A3 (AP (A3 (AP (A3 AM (A3 (A0 3) (A3 (A0 4) (A3 (AP A6) A6))))) (A3 (A0 10) A6))) A6))))))
  (A5 (Aw (Ad (i:=11) aA.nd (AQ Eu (A0 11) (CW (A3 (AP (A3 (AP (A3 AM (A3 (A0 3) (A3 (A0 7) (A3 (AP A6) A6))))) (A3 (A0 10) A6))) (A3 (AP (A3 (AP (A3 AM (A3 (A0 3) A6))) (A3 (A0 10) A6))) (A3 (AP (A3 (AP (A3 AM (A3 (A0 3) A6))) (A3 (A0 10) A6))) A6)))))))
  (A5 (Aw (Ad (i:=12) aA.nd (AQ Eu (A0 10) (CW (A3 AM A6)))))
  (A5 (Aw (Ad (i:=11) aA.nd (AQ Eu (A0 11) (CW (A3 (AP (A3 (AP (A3 AM (A3 (A0 3) (A3 (AP A6) (A3 (A0 4) A6))))) (A3 (A0 12) A6))) (A3 (AP (A3 (AP (A3 AM (A3 (A0 3) (A3 (AP (A3 (AQ CF (AQ GZ (A0 2) AA) AA) A6)) (A3 (A0 5) A6))))) (A3 (A0 12) A6))) A6))))))
  (A5 (Aw (Ad (i:=11) aA.nd (AQ Eu (A0 11) (CW (A3 (AP (A3 (AP (A3 AM (A3 (A0 3) (A3 (AP A6) (A3 (A0 5) A6))))) (A3 (A0 12) A6))) A6)))))
  (A5 (Aw (Ad (i:=13) aA.nd (AQ Eu (A0 12) (CW (A3 AM A6)))))
  (A5 (Aw (Ad (i:=11) aA.nd (AQ Eu (A0 11) (CW (A3 (AP (A3 (AP (A3 AM (A3 (A0 4) (A3 (A0 3) A6)))) (A3 (A0 13) A6))) (A3 (AP (A3 (AP (A3 AM (A3 (A0 8) (A3 (A0 3) A6)))) (A3 (A0 13) A6))) (A3 (AP (A3 (AP (A3 AM (A3 (A0 5) (A3 (A0 3) (A3 (AP (A3 AA A6)) A6))))) (A3 (A0 13) A6))) A6)))))))
  (A5 (Aw (Ad (i:=11) aA.nd (AQ Eu (A0 11) (CW (A3 (AP (A3 (AP (A3 AM (A3 (A0 3) A6))) (A3 (A0 13) A6))) A6)))))
  (A5 (Aw (Ad (i:=11) aA.nd (AQ Eu (A0 11) (CW (A3 (AP (A3 (AP (A3 AM (A3 (A0 4) (A3 (AP A6) (A3 (A0 3) A6))))) (A3 (A0 13) A6))) (A3 (AP (A3 (AP (A3 AM (A3 (A0 3) (A3 (A0 4) (A3 (AP (A3 (AP (A3 AM (A3 (A0 4) A6))) A6)) (A3 (AP (A3 (AP (A3 AM (A3 (A0 4) A6))) A6)) A6)))))) (A3 (A0 13) A6))) A6))))))
  (A5 (Aw (Ad (i:=14) aA.nd (A0 13)))
  (A5 (Aw (Ah (B0 CT (A0 1) AM) (A5 (Aw (Ad (i:=14) aA.nd (A0 10)))
  A7) A7))
  (A5 (Aw (Ah (B0 CT (A0 1) AM) (A5 (Aw (Ad (i:=14) aA.nd (A0 12)))
  A7) A7))
  (A5 (Aw (Ad (i:=11) aA.nd (AQ Eu (A0 11) (CW (A3 (AP (A3 (AP (A3 AM (A3 Gz (A3 (A0 6) (A3 (AP (A3 (A0 3) A6)) A6))))) (A3 (A0 14) A6))) (A3 (AP (A3 (AP (A3 AM (A3 (A0 4) (A3 (A0 6) (A3 (AP (A3 (A0 3) A6)) A6))))) (A3 (A0 14) A6))) A6))))))
  (A5 (Aw (Ad (i:=11) aA.nd (AQ Eu (A0 11) (CW (A3 (AP (A3 (AP (A3 AM (A3 (A0 8) (A3 (A0 6) (A3 (AP (A3 (A0 3) A6)) A6))))) (A3 (A0 14) A6))) A6)))))
  (A5 (AH (AY (A0 11) (AQ CF (A0 2) AA)))
  A7)))))))))))))))))),?_⟩
 simp only[Ai];left;exact⟨λτ Γ'=>τ=[some (.ref p),some (.str other),some (.int dr),some (.str a),some (.str b),some (.str c),some (.str d),some (.str e),some (.str f0),none,none,none,none,none,none]∧Le Γ Γ',?_,?_⟩
 ·left
  exact Ψ2 p _ ⟨rfl,gp,rfl,?_⟩;simp only[BQ,EK];left;exact⟨rfl,.refl⟩
 intro τ Γ'⟨rfl,le⟩;left;exact⟨λτ Γ'=>τ=[some (.ref p),some (.str other),some (.int dr),some (.str a),some (.str b),some (.str c),some (.str d),some (.str e),some (.str f0),some (.tup [.str "row",.tup [.str "text"]]),none,none,none,none,none]∧Le Γ Γ',?_,?_⟩
 ·left
  exact⟨rfl,le⟩
 intro τ Γ'⟨rfl,le⟩;left;exact⟨λτ Γ'=>∃(pf:Addr),τ=[some (.ref p),some (.str other),some (.int dr),some (.str a),some (.str b),some (.str c),some (.str d),some (.str e),some (.str f0),some (.tup [.str "row",.tup [.str "text"]]),some (.ref pf),none,none,none,none]∧Le Γ Γ'∧Γ' pf=some (.lst (cB.map T.str)),?_,?_⟩
 ·left
  intro p1 cS;generalize e1:A9 _ p1 (O.lst _)=G1;have g1:=AZ e1;have l1:=Ab e1 cS
  exact⟨p1,rfl,le.trans l1,g1⟩
 intro τ Γ'⟨pf,rfl,le,jl⟩;left;exact⟨λτ Γ'=>∃(pf ps:Addr) (l:List (Sm×Addr)),τ=[some (.ref p),some (.str other),some (.int dr),some (.str a),some (.str b),some (.str c),some (.str d),some (.str e),some (.str f0),some (.tup [.str "row",.tup [.str "text"]]),some (.ref pf),some (.ref ps),none,none,none]∧Le Γ Γ'∧Γ' pf=some (.lst (cB.map T.str))∧l.length=3∧gY a b c d e f0 other Γ' l∧Γ' ps=some (.lst (Bi l)),?_,?_⟩
 ·left
  intro p1 cS;generalize e1:A9 _ p1 (O.lst _)=G1;have g1:=AZ e1;have l1:=Ab e1 cS
  exact Ψ3 pf p1 ([(Sm.new a aF (.tup [.str "x",.str ""]),pf),(Sm.copy a b,pf),(Sm.part a b [],pf)]) ⟨rfl,le.trans l1,(l1 _ _ jl),rfl,?_,?_⟩
  ·exact(((gY.nil).snoc (ws:=cB) (l1 _ _ jl) .s0).snoc (ws:=cB) (l1 _ _ jl) .s1).snoc (ws:=cB) (l1 _ _ jl) .s2
  ·rw[g1];unfold Bi;simp only[BQ,EK,Sm.tr];rfl
 intro τ Γ'⟨pf,ps,l,rfl,le,jl,ll,lr,gs⟩;left;exact⟨λτ Γ'=>∃(pf ps:Addr) (l:List (Sm×Addr)),τ=[some (.ref p),some (.str other),some (.int dr),some (.str a),some (.str b),some (.str c),some (.str d),some (.str e),some (.str f0),some (.tup [.str "row",.tup [.str "text"]]),some (.ref pf),some (.ref ps),none,none,none]∧Le Γ Γ'∧Γ' pf=some (.lst (cB.map T.str))∧l.length=6∧gY a b c d e f0 other Γ' l∧Γ' ps=some (.lst (Bi l)),?_,?_⟩
 ·left
  intro p1 cS;generalize e1:A9 _ p1 (O.lst _)=G1;have g1:=AZ e1;have l1:=Ab e1 cS
  exact Ψ4 ps p1 _ _ ⟨rfl,rfl,(l1 _ _ gs),g1,by unfold Bi;rw[AV,ll,CS];show _+3≤_;decide,?_⟩;intro p2 hU;generalize e2:A9 _ p2 (O.lst _)=G2;have g2:=AZ e2;have l2:=Ab e2 hU
  have dG:=l1.trans l2;exact Ψ3 pf p2 (l++[(Sm.call (some a) e [],pf),(Sm.drop a,pf),(Sm.back a,pf)]) ⟨rfl,le.trans dG,(dG _ _ jl),by rw[Br,ll];rfl,?_,?_⟩
  ·have:=((((lr.mono dG)).snoc (ws:=cB) (dG _ _ jl) .s3).snoc (ws:=cB) (dG _ _ jl) .s4).snoc (ws:=cB) (dG _ _ jl) .s5
   simpa only[G3,Fd,GI]using this
  ·rw[g2];unfold Bi;rw[Ao];simp only[BQ,EK,Sm.tr,BI,GK]
 intro τ Γ'⟨pf,ps,l,rfl,le,jl,ll,lr,gs⟩;left;exact⟨λτ Γ'=>∃(pf ps pk:Addr) (l:List (Sm×Addr)),τ=[some (.ref p),some (.str other),some (.int dr),some (.str a),some (.str b),some (.str c),some (.str d),some (.str e),some (.str f0),some (.tup [.str "row",.tup [.str "text"]]),some (.ref pf),some (.ref ps),some (.ref pk),none,none]∧Le Γ Γ'∧Γ' pf=some (.lst (cB.map T.str))∧Γ' pk=some (.lst (ef.map T.str))∧l.length=6∧gY a b c d e f0 other Γ' l∧Γ' ps=some (.lst (Bi l)),?_,?_⟩
 ·left
  intro p1 cS;generalize e1:A9 _ p1 (O.lst _)=G1;have g1:=AZ e1;have l1:=Ab e1 cS
  exact Ψ4 pf p1 _ _ ⟨rfl,rfl,(l1 _ _ jl),g1,by decide,?_⟩;intro p2 hU;generalize e2:A9 _ p2 (O.lst _)=G2;have g2:=AZ e2;have l2:=Ab e2 hU
  have dG:=l1.trans l2;exact Ψ4 pf ps p2 l ⟨rfl,le.trans dG,(dG _ _ jl),g2,ll,lr.mono dG,dG _ _ gs⟩
 intro τ Γ'⟨pf,ps,pk,l,rfl,le,jl,my,ll,lr,gs⟩;left;exact⟨λτ Γ'=>∃(pf ps pk:Addr) (l:List (Sm×Addr)),τ=[some (.ref p),some (.str other),some (.int dr),some (.str a),some (.str b),some (.str c),some (.str d),some (.str e),some (.str f0),some (.tup [.str "row",.tup [.str "text"]]),some (.ref pf),some (.ref ps),some (.ref pk),none,none]∧Le Γ Γ'∧Γ' pf=some (.lst (cB.map T.str))∧Γ' pk=some (.lst (ef.map T.str))∧l.length=8∧gY a b c d e f0 other Γ' l∧Γ' ps=some (.lst (Bi l)),?_,?_⟩
 ·left
  intro p1 cS;generalize e1:A9 _ p1 (O.lst _)=G1;have g1:=AZ e1;have l1:=Ab e1 cS
  exact Ψ4 ps p1 _ _ ⟨rfl,rfl,(l1 _ _ gs),g1,by unfold Bi;rw[AV,ll,CS];show _+2≤_;decide,?_⟩;intro p2 hU;generalize e2:A9 _ p2 (O.lst _)=G2;have g2:=AZ e2;have l2:=Ab e2 hU
  have dG:=l1.trans l2;exact Ψ4 pf p2 pk (l++[(Sm.put a [] b,pk),(Sm.put a [.int (dr/18%60)] c,pk)]) ⟨rfl,le.trans dG,(dG _ _ jl),(dG _ _ my),by rw[Br,ll];rfl,?_,?_⟩
  ·have:=(((lr.mono dG)).snoc (ws:=ef) (dG _ _ my) .s6).snoc (ws:=ef) (dG _ _ my) (.s7 (dr/18%60) (DM _ (by decide)) (E5 _ (by decide)))
   simpa only[G3,Fd,GI]using this
  ·rw[g2];unfold Bi;rw[Ao];simp only[BQ,EK,Sm.tr,BI,GK]
 intro τ Γ'⟨pf,ps,pk,l,rfl,le,jl,my,ll,lr,gs⟩;left;exact⟨λτ Γ'=>∃(pf ps pk:Addr) (l:List (Sm×Addr)),τ=[some (.ref p),some (.str other),some (.int dr),some (.str a),some (.str b),some (.str c),some (.str d),some (.str e),some (.str f0),some (.tup [.str "row",.tup [.str "text"]]),some (.ref pf),some (.ref ps),some (.ref pk),none,none]∧Le Γ Γ'∧Γ' pf=some (.lst (cB.map T.str))∧Γ' pk=some (.lst (ef.map T.str))∧l.length=9∧gY a b c d e f0 other Γ' l∧Γ' ps=some (.lst (Bi l)),?_,?_⟩
 ·left
  intro p1 cS;generalize e1:A9 _ p1 (O.lst _)=G1;have g1:=AZ e1;have l1:=Ab e1 cS
  exact Ψ4 ps p1 _ _ ⟨rfl,rfl,(l1 _ _ gs),g1,by unfold Bi;rw[AV,ll,CS];show _+1≤_;decide,?_⟩;intro p2 hU;generalize e2:A9 _ p2 (O.lst _)=G2;have g2:=AZ e2;have l2:=Ab e2 hU
  have dG:=l1.trans l2;exact Ψ4 pf p2 pk (l++[(Sm.add a [] c,pk)]) ⟨rfl,le.trans dG,(dG _ _ jl),(dG _ _ my),by rw[Br,ll];rfl,?_,?_⟩
  ·have:=((lr.mono dG)).snoc (ws:=ef) (dG _ _ my) .s8
   simpa only[G3,Fd,GI]using this
  ·rw[g2];unfold Bi;rw[Ao];simp only[BQ,EK,Sm.tr,BI,GK]
 intro τ Γ'⟨pf,ps,pk,l,rfl,le,jl,my,ll,lr,gs⟩;left;exact⟨λτ Γ'=>∃(pf ps pk ph:Addr) (l:List (Sm×Addr)),τ=[some (.ref p),some (.str other),some (.int dr),some (.str a),some (.str b),some (.str c),some (.str d),some (.str e),some (.str f0),some (.tup [.str "row",.tup [.str "text"]]),some (.ref pf),some (.ref ps),some (.ref pk),some (.ref ph),none]∧Le Γ Γ'∧Γ' pf=some (.lst (cB.map T.str))∧Γ' pk=some (.lst (ef.map T.str))∧Γ' ph=some (.lst (dc.map T.str))∧l.length=9∧gY a b c d e f0 other Γ' l∧Γ' ps=some (.lst (Bi l)),?_,?_⟩
 ·left
  intro p1 cS;generalize e1:A9 _ p1 (O.lst _)=G1;have g1:=AZ e1;have l1:=Ab e1 cS
  exact Ψ4 pk p1 _ _ ⟨rfl,rfl,(l1 _ _ my),g1,by decide,?_⟩;intro p2 hU;generalize e2:A9 _ p2 (O.lst _)=G2;have g2:=AZ e2;have l2:=Ab e2 hU
  have dG:=l1.trans l2;exact Ψ5 pf ps pk p2 l ⟨rfl,le.trans dG,(dG _ _ jl),(dG _ _ my),g2,ll,lr.mono dG,dG _ _ gs⟩
 intro τ Γ'⟨pf,ps,pk,ph,l,rfl,le,jl,my,oE,ll,lr,gs⟩;left;exact⟨λτ Γ'=>∃(pf ps pk ph:Addr) (l:List (Sm×Addr)),τ=[some (.ref p),some (.str other),some (.int dr),some (.str a),some (.str b),some (.str c),some (.str d),some (.str e),some (.str f0),some (.tup [.str "row",.tup [.str "text"]]),some (.ref pf),some (.ref ps),some (.ref pk),some (.ref ph),none]∧Le Γ Γ'∧Γ' pf=some (.lst (cB.map T.str))∧Γ' pk=some (.lst (ef.map T.str))∧Γ' ph=some (.lst (dc.map T.str))∧l.length=12∧gY a b c d e f0 other Γ' l∧Γ' ps=some (.lst (Bi l)),?_,?_⟩
 ·left
  intro p1 cS;generalize e1:A9 _ p1 (O.lst _)=G1;have g1:=AZ e1;have l1:=Ab e1 cS
  exact Ψ4 ps p1 _ _ ⟨rfl,rfl,(l1 _ _ gs),g1,by unfold Bi;rw[AV,ll,CS];show _+3≤_;decide,?_⟩;intro p2 hU;generalize e2:A9 _ p2 (O.lst _)=G2;have g2:=AZ e2;have l2:=Ab e2 hU
  have dG:=l1.trans l2;exact Ψ5 pf p2 pk ph (l++[(Sm.copy b a,ph),(Sm.copy f0 a,ph),(Sm.part c a [.int 59],ph)]) ⟨rfl,le.trans dG,(dG _ _ jl),(dG _ _ my),(dG _ _ oE),by rw[Br,ll];rfl,?_,?_⟩
  ·have:=((((lr.mono dG)).snoc (ws:=dc) (dG _ _ oE) .s9).snoc (ws:=dc) (dG _ _ oE) .s10).snoc (ws:=dc) (dG _ _ oE) .s11
   simpa only[G3,Fd,GI]using this
  ·rw[g2];unfold Bi;rw[Ao];simp only[BQ,EK,Sm.tr,BI,GK]
 intro τ Γ'⟨pf,ps,pk,ph,l,rfl,le,jl,my,oE,ll,lr,gs⟩;left;exact⟨λτ Γ'=>∃(pf ps pk ph:Addr) (l:List (Sm×Addr)),τ=[some (.ref p),some (.str other),some (.int dr),some (.str a),some (.str b),some (.str c),some (.str d),some (.str e),some (.str f0),some (.tup [.str "row",.tup [.str "text"]]),some (.ref pf),some (.ref ps),some (.ref pk),some (.ref ph),none]∧Le Γ Γ'∧Γ' pf=some (.lst (cB.map T.str))∧Γ' pk=some (.lst (ef.map T.str))∧Γ' ph=some (.lst (dc.map T.str))∧l.length=13∧gY a b c d e f0 other Γ' l∧Γ' ps=some (.lst (Bi l)),?_,?_⟩
 ·left
  intro p1 cS;generalize e1:A9 _ p1 (O.lst _)=G1;have g1:=AZ e1;have l1:=Ab e1 cS
  exact Ψ4 ps p1 _ _ ⟨rfl,rfl,(l1 _ _ gs),g1,by unfold Bi;rw[AV,ll,CS];show _+1≤_;decide,?_⟩;intro p2 hU;generalize e2:A9 _ p2 (O.lst _)=G2;have g2:=AZ e2;have l2:=Ab e2 hU
  have dG:=l1.trans l2;exact Ψ5 pf p2 pk ph (l++[(Sm.say a,ph)]) ⟨rfl,le.trans dG,(dG _ _ jl),(dG _ _ my),(dG _ _ oE),by rw[Br,ll];rfl,?_,?_⟩
  ·have:=((lr.mono dG)).snoc (ws:=dc) (dG _ _ oE) .s12
   simpa only[G3,Fd,GI]using this
  ·rw[g2];unfold Bi;rw[Ao];simp only[BQ,EK,Sm.tr,BI,GK]
 intro τ Γ'⟨pf,ps,pk,ph,l,rfl,le,jl,my,oE,ll,lr,gs⟩;left;exact⟨λτ Γ'=>∃(pf ps pk ph:Addr) (l:List (Sm×Addr)),τ=[some (.ref p),some (.str other),some (.int dr),some (.str a),some (.str b),some (.str c),some (.str d),some (.str e),some (.str f0),some (.tup [.str "row",.tup [.str "text"]]),some (.ref pf),some (.ref ps),some (.ref pk),some (.ref ph),none]∧Le Γ Γ'∧Γ' pf=some (.lst (cB.map T.str))∧Γ' pk=some (.lst (ef.map T.str))∧Γ' ph=some (.lst (dc.map T.str))∧l.length=15∧gY a b c d e f0 other Γ' l∧Γ' ps=some (.lst (Bi l)),?_,?_⟩
 ·left
  intro p1 cS;generalize e1:A9 _ p1 (O.lst _)=G1;have g1:=AZ e1;have l1:=Ab e1 cS
  exact Ψ4 ps p1 _ _ ⟨rfl,rfl,(l1 _ _ gs),g1,by unfold Bi;rw[AV,ll,CS];show _+2≤_;decide,?_⟩;intro p2 hU;generalize e2:A9 _ p2 (O.lst _)=G2;have g2:=AZ e2;have l2:=Ab e2 hU
  have dG:=l1.trans l2;exact Ψ5 pf p2 pk ph (l++[(Sm.put b [] a,ph),(Sm.same a b [.drop b] [.back b],ph)]) ⟨rfl,le.trans dG,(dG _ _ jl),(dG _ _ my),(dG _ _ oE),by rw[Br,ll];rfl,?_,?_⟩
  ·have:=(((lr.mono dG)).snoc (ws:=dc) (dG _ _ oE) .s13).snoc (ws:=dc) (dG _ _ oE) .s14
   simpa only[G3,Fd,GI]using this
  ·rw[g2];unfold Bi;rw[Ao];simp only[BQ,EK,Sm.tr,BI,GK]
 intro τ Γ'⟨pf,ps,pk,ph,l,rfl,le,jl,my,oE,ll,lr,gs⟩;left;exact⟨λτ Γ'=>∃(pf ps pk ph pd:Addr) (l:List (Sm×Addr)),τ=[some (.ref p),some (.str other),some (.int dr),some (.str a),some (.str b),some (.str c),some (.str d),some (.str e),some (.str f0),some (.tup [.str "row",.tup [.str "text"]]),some (.ref pf),some (.ref ps),some (.ref pk),some (.ref ph),some (.ref pd)]∧Le Γ Γ'∧Γ' pf=some (.lst (cB.map T.str))∧Γ' pk=some (.lst (ef.map T.str))∧Γ' ph=some (.lst (dc.map T.str))∧Γ' pd=some (.lst (dc.map T.str))∧l.length=15∧gY a b c d e f0 other Γ' l∧Γ' ps=some (.lst (Bi l)),?_,?_⟩
 ·left
  exact Ψ6 pf ps pk ph ph l ⟨rfl,le,jl,my,oE,oE,ll,lr,gs⟩
 intro τ Γ'⟨pf,ps,pk,ph,pd,l,rfl,le,jl,my,oE,yQ,ll,lr,gs⟩;left;exact⟨λτ Γ'=>∃(pf ps pk ph pd:Addr) (l:List (Sm×Addr)),τ=[some (.ref p),some (.str other),some (.int dr),some (.str a),some (.str b),some (.str c),some (.str d),some (.str e),some (.str f0),some (.tup [.str "row",.tup [.str "text"]]),some (.ref pf),some (.ref ps),some (.ref pk),some (.ref ph),some (.ref pd)]∧Le Γ Γ'∧Γ' pf=some (.lst (cB.map T.str))∧Γ' pk=some (.lst (ef.map T.str))∧Γ' ph=some (.lst (dc.map T.str))∧Γ' pd=some (.lst ((if other = "give" then cB else dc).map T.str))∧l.length=15∧gY a b c d e f0 other Γ' l∧Γ' ps=some (.lst (Bi l)),?_,?_⟩
 ·left
  exact AW (λc=>?_) (λc=>?_)
  ·have c:=K8 c
   left;exact Lc ?_;left;exact Ψ6 pf ps pk ph pf l ⟨rfl,le,jl,my,oE,by rw[AR c];exact jl,ll,lr,gs⟩
  ·have c:=K3 c
   left;exact Ψ6 pf ps pk ph pd l ⟨rfl,le,jl,my,oE,by rw[AN c];exact yQ,ll,lr,gs⟩
 intro τ Γ'⟨pf,ps,pk,ph,pd,l,rfl,le,jl,my,oE,yQ,ll,lr,gs⟩;left;exact⟨λτ Γ'=>∃(pf ps pk ph pd:Addr) (l:List (Sm×Addr)),τ=[some (.ref p),some (.str other),some (.int dr),some (.str a),some (.str b),some (.str c),some (.str d),some (.str e),some (.str f0),some (.tup [.str "row",.tup [.str "text"]]),some (.ref pf),some (.ref ps),some (.ref pk),some (.ref ph),some (.ref pd)]∧Le Γ Γ'∧Γ' pf=some (.lst (cB.map T.str))∧Γ' pk=some (.lst (ef.map T.str))∧Γ' ph=some (.lst (dc.map T.str))∧Γ' pd=some (.lst ((if other = "lease" then ef else(if other = "give" then cB else dc)).map T.str))∧l.length=15∧gY a b c d e f0 other Γ' l∧Γ' ps=some (.lst (Bi l)),?_,?_⟩
 ·left
  exact AW (λc=>?_) (λc=>?_)
  ·have c:=K8 c
   left;exact Lc ?_;left;exact Ψ6 pf ps pk ph pk l ⟨rfl,le,jl,my,oE,by rw[AR c];exact my,ll,lr,gs⟩
  ·have c:=K3 c
   left;exact Ψ6 pf ps pk ph pd l ⟨rfl,le,jl,my,oE,by rw[AN c];exact yQ,ll,lr,gs⟩
 intro τ Γ'⟨pf,ps,pk,ph,pd,l,rfl,le,jl,my,oE,yQ,ll,lr,gs⟩;left;have yQ:Γ' pd=some (.lst ((EU other).map T.str)):=yQ;exact⟨λτ Γ'=>∃(pf ps pk ph pd:Addr) (l:List (Sm×Addr)),τ=[some (.ref p),some (.str other),some (.int dr),some (.str a),some (.str b),some (.str c),some (.str d),some (.str e),some (.str f0),some (.tup [.str "row",.tup [.str "text"]]),some (.ref pf),some (.ref ps),some (.ref pk),some (.ref ph),some (.ref pd)]∧Le Γ Γ'∧Γ' pf=some (.lst (cB.map T.str))∧Γ' pk=some (.lst (ef.map T.str))∧Γ' ph=some (.lst (dc.map T.str))∧Γ' pd=some (.lst ((EU other).map T.str))∧l.length=17∧gY a b c d e f0 other Γ' l∧Γ' ps=some (.lst (Bi l)),?_,?_⟩
 ·left
  intro p1 cS;generalize e1:A9 _ p1 (O.lst _)=G1;have g1:=AZ e1;have l1:=Ab e1 cS
  exact Ψ4 ps p1 _ _ ⟨rfl,rfl,(l1 _ _ gs),g1,by unfold Bi;rw[AV,ll,CS];show _+2≤_;decide,?_⟩;intro p2 hU;generalize e2:A9 _ p2 (O.lst _)=G2;have g2:=AZ e2;have l2:=Ab e2 hU
  have dG:=l1.trans l2;exact Ψ6 pf p2 pk ph pd (l++[(Sm.call none d [a],pd),(Sm.call (some b) d [a],pd)]) ⟨rfl,le.trans dG,(dG _ _ jl),(dG _ _ my),(dG _ _ oE),(dG _ _ yQ),by rw[Br,ll];rfl,?_,?_⟩
  ·have:=(((lr.mono dG)).snoc (ws:=(EU other)) (dG _ _ yQ) .s15).snoc (ws:=(EU other)) (dG _ _ yQ) .s16
   simpa only[G3,Fd,GI]using this
  ·rw[g2];unfold Bi;rw[Ao];simp only[BQ,EK,Sm.tr,BI,GK]
 intro τ Γ'⟨pf,ps,pk,ph,pd,l,rfl,le,jl,my,oE,yQ,ll,lr,gs⟩;left;exact⟨λτ Γ'=>∃(pf ps pk ph pd:Addr) (l:List (Sm×Addr)),τ=[some (.ref p),some (.str other),some (.int dr),some (.str a),some (.str b),some (.str c),some (.str d),some (.str e),some (.str f0),some (.tup [.str "row",.tup [.str "text"]]),some (.ref pf),some (.ref ps),some (.ref pk),some (.ref ph),some (.ref pd)]∧Le Γ Γ'∧Γ' pf=some (.lst (cB.map T.str))∧Γ' pk=some (.lst (ef.map T.str))∧Γ' ph=some (.lst (dc.map T.str))∧Γ' pd=some (.lst ((EU other).map T.str))∧l.length=18∧gY a b c d e f0 other Γ' l∧Γ' ps=some (.lst (Bi l)),?_,?_⟩
 ·left
  intro p1 cS;generalize e1:A9 _ p1 (O.lst _)=G1;have g1:=AZ e1;have l1:=Ab e1 cS
  exact Ψ4 ps p1 _ _ ⟨rfl,rfl,(l1 _ _ gs),g1,by unfold Bi;rw[AV,ll,CS];show _+1≤_;decide,?_⟩;intro p2 hU;generalize e2:A9 _ p2 (O.lst _)=G2;have g2:=AZ e2;have l2:=Ab e2 hU
  have dG:=l1.trans l2;exact Ψ6 pf p2 pk ph pd (l++[(Sm.call (some f0) d [a],pd)]) ⟨rfl,le.trans dG,(dG _ _ jl),(dG _ _ my),(dG _ _ oE),(dG _ _ yQ),by rw[Br,ll];rfl,?_,?_⟩
  ·have:=((lr.mono dG)).snoc (ws:=(EU other)) (dG _ _ yQ) .s17
   simpa only[G3,Fd,GI]using this
  ·rw[g2];unfold Bi;rw[Ao];simp only[BQ,EK,Sm.tr,BI,GK]
 intro τ Γ'⟨pf,ps,pk,ph,pd,l,rfl,le,jl,my,oE,yQ,ll,lr,gs⟩;left;have b0:=DM dr (by decide:(18:Int)≠0);have b1:=E5 dr (by decide:(0:Int)<18);obtain⟨i,ei⟩:∃i:Nat,dr%18=i:=⟨_,(Int.toNat_of_nonneg b0).symm⟩;rw[ei];have hi:i<l.length:=by lia
 let⟨ws,g,r⟩:=lr.all l[i] (FH hi);exact BN (t:=.tup [l[i].1.tr,.ref l[i].2]) gs (Iv ?_) ?_
 ·unfold Bi
  rw[Hi,D2 hi];rfl
 ·exact AB .refl (q Γ' _ _ ws le g r)
end
def DN(way w1 n0 n1 n2:Str):List (Str×Str×Kd):=if way = "shelf" then [(n1,w1,aF),(n2,"copy",.text)]else [(n0,way,aF),(n1,w1,aF),(n2,"copy",.text)]
def B2(way n0:Str)(side:Int):List Sh:=if way = "shelf" then [⟨n0,side,aF,.tup [.str "a",.str "b\x20c"]⟩]else []
inductive Fq(a b c d e f other way:Str):List Sm→Bool→Prop
 |nil:Fq a b c d e f other way [] true
 |one {ss:List Sm} {ig:Bool} {s:Sm} {ws:List Str} (h:Fq a b c d e f other way ss ig) (r:CU a b c d e f other s ws):Fq a b c d e f other way (ss++[s]) (ig&&decide (way∈ws))
 |try_ {ss:List Sm} {ig:Bool} {s:Sm} {ws:List Str} (h:Fq a b c d e f other way ss ig) (r:CU a b c d e f other s ws):Fq a b c d e f other way (ss++[.tri [] [s]]) (ig&&decide (way∈ws))
structure a9(n0 n1 n2 n3 n4 n5 n6 n7 way w1 other:Str)(side s1 s2:Int)(gZ:List (Str×Str×Kd))(body:List Sm)(ig:Bool)(ds:List Dr):Prop where
 nd:[n0,n1,n2,n3,n4,n5,n6,n7].Nodup
 nm:∀z∈[n0,n1,n2,n3,n4,n5,n6,n7],Nm z
 wy:way∈cL∨way = "shelf"
 wo:w1 = "copy" ∨ w1 = "give"
 ot:other∈cL
 sd:side=0∨side=1
 Tv:s1=0∨s1=1
 Tu:s2=0∨s2=1
 pl:gZ.Perm (DN way w1 n0 n1 n2)
 bd:Fq n0 n1 n2 n3 n4 n5 other way body ig
 ln:body.length≤3
 ds:ds.Perm [⟨⟨n6,side,gZ,some aF⟩,body⟩,⟨⟨n3,s1,[(n7,other,aF)],some aF⟩,[]⟩,⟨⟨n4,s2,[],some aF⟩,[]⟩]
theorem HG{α:Type}:∀{l:List (Str×α)} {x:Str} {v:α},(l.map (·.1)).Nodup→(x,v)∈l→l.lookup x=some v
 |(y,b)::r,x,v,nd,h=>by
  rw[BQ,Zw]at nd;rw[HA];rcases XO.mp h with e|h
  ·cases e
   simp
  ·have:x≠y:=λe=>by rw[e]at h;exact nd.1 (X9.mpr ⟨_,h,rfl⟩)
   rw[show(x==y)=false by rw[YD];exact this];exact HG nd.2 h
def Qg(way:Str):Option Str:=if way = "shelf" then none else some way
structure Ht(n0 n1 n2 n5:Str)(ks:ad):Prop where
 k0:ks.lookup n0=some aF
 k1:ks.lookup n1=some aF
 k2:ks.lookup n2=some .text
 k5:ks.lookup n5=none∨ks.lookup n5=some aF
structure HW(n0 n1 n2 n5 way:Str)(W:List (Str×Str)):Prop where
 w0:W.lookup n0=Qg way
 w1:W.lookup n1=some "copy" ∨ W.lookup n1=some "give"
 w2:W.lookup n2=some "copy"
 w5:W.lookup n5=none
section
variable {W: List (Str×Str)}{ks: ad}
theorem hX(hw:way∈cL∨way = "shelf")(wv:HW n0 n1 n2 n5 way W):DG W n0=decide (way∈cB):=by
 unfold DG;rw[wv.w0];rcases hw with hw|rfl
 ·have:way = "copy" ∨ way = "give" ∨ way = "lend" ∨ way = "lease" := by simpa using hw
  rcases this with rfl|rfl|rfl|rfl<;>decide +kernel
 ·decide +kernel
theorem NZ(wv:HW n0 n1 n2 n5 way W):DG W n1=true:=by
 unfold DG;rcases wv.w1 with e|e<;>rw[e]<;>decide +kernel
theorem uh(wv:HW n0 n1 n2 n5 way W):DG W n2=true:=by
 unfold DG;rw[wv.w2];decide +kernel
theorem cF(wv:HW n0 n1 n2 n5 way W):DG W n5=true:=by
 unfold DG;rw[wv.w5];decide +kernel
theorem vJ(hw:way∈cL∨way = "shelf")(wv:HW n0 n1 n2 n5 way W):(!decide (W.lookup n0=some "lend"))=decide (way∈ef):=by
 rw[wv.w0];rcases hw with hw|rfl
 ·have:way = "copy" ∨ way = "give" ∨ way = "lend" ∨ way = "lease" := by simpa using hw
  rcases this with rfl|rfl|rfl|rfl<;>decide +kernel
 ·decide +kernel
theorem yH(hw:way∈cL∨way = "shelf"):decide (way∈dc)=true:=by
 rcases hw with hw|rfl
 ·have:way = "copy" ∨ way = "give" ∨ way = "lend" ∨ way = "lease" := by simpa using hw
  rcases this with rfl|rfl|rfl|rfl<;>decide +kernel
 ·decide +kernel
theorem kr(hw:way∈cL∨way = "shelf")(ho:other∈cL):(!decide (other∈Kv ((Qg way).getD "copy")))=decide (way∈EU other):=by
 have ho:other = "copy" ∨ other = "give" ∨ other = "lend" ∨ other = "lease" := by simpa using ho
 rcases hw with hw|rfl
 ·have:way = "copy" ∨ way = "give" ∨ way = "lend" ∨ way = "lease" := by simpa using hw
  rcases this with rfl|rfl|rfl|rfl<;>rcases ho with rfl|rfl|rfl|rfl<;>decide +kernel
 ·rcases ho with rfl|rfl|rfl|rfl<;>decide +kernel
theorem Kt(o:DG W x=true)(h:ks.lookup x=some k):D6 W ks x k=(true,ks):=by
 unfold D6;rw[AR o,h];show(kq k k,ks)=_
 rw[GO]
theorem xf(b:Bool)(o:DG W x=b)(h:ks.lookup x=some k):D6 W ks x k=(b,ks):=by
 cases b with
 |true=>exact Kt o h
 |false=>unfold D6;rw[AN (by rw[o];exact BJ)]
theorem bx(nd:[n0,n1,n2,n3,n4,n5].Nodup)(iv:Ht n0 n1 n2 n5 ks)(o:DG W n5=true):(D6 W ks n5 aF).1=true∧Ht n0 n1 n2 n5 (D6 W ks n5 aF).2:=by
 rcases iv.k5 with e|e
 ·have em:D6 W ks n5 aF=(true,ks++[(n5,aF)]):=by unfold D6;rw[AR o,e]
  rw[em];exact⟨rfl,?_,?_,?_,?_⟩
  ·rw[Gs,iv.k0];rfl
  ·rw[Gs,iv.k1];rfl
  ·rw[Gs,iv.k2];rfl
  ·right;rw[Gs,e];simp
 ·rw[Kt o e];exact⟨rfl,iv⟩
theorem fZ(nd:[n0,n1,n2,n3,n4,n5].Nodup)(hw:way∈cL∨way = "shelf")(ho:other∈cL)(iv:Ht n0 n1 n2 n5 ks)(wv:HW n0 n1 n2 n5 way W)
  (h3:Ps.lookup n3=some p1) (e3:p1.ps=[(n7,other,aF)]) (r3:p1.re=some aF) (h4:Ps.lookup n4=some p2) (e4:p2.ps=[]) (r4:p2.re=some aF) (r:CU n0 n1 n2 n3 n4 n5 other s ws) :
  (AE Ps (some aF) W s ks).1=decide (way∈ws)∧((AE Ps (some aF) W s ks).1=true→Ht n0 n1 n2 n5 (AE Ps (some aF) W s ks).2):=by
 have of:=hX hw wv;have kw:=vJ hw wv;have hl:=yH hw;have WC:CC aF [.int 59]=some .text:=by
  unfold CC;rw[show stepK aF (.int 59)=some .text by show(if(0:Int)≤59∧(59:Int)<60 then some Kd.text else none)=_;rw[AR ⟨by decide,by decide⟩]];rfl
 have Uo:GL W ks n0 (n7,other,aF)=decide (way∈EU other):=by
  unfold GL;rw[iv.k0];show(kq aF aF&&!decide (other∈Kv ((W.lookup n0).getD "copy")))=_
  rw[GO,BA,wv.w0];exact kr hw ho
 have Ql:(decide ([n0].length=[(n7,other,aF)].length)&&(([n0].zip [(n7,other,aF)]).all λq=>GL W ks q.1 q.2))=decide (way∈EU other):=by
  show(true&&(GL W ks n0 (n7,other,aF)&&true))=_
  rw[Uo,GQ,BA]
 have fin:∀{s:Sm} {ws:List Str},AE Ps (some aF) W s ks=(decide (way∈ws),ks)→(AE Ps (some aF) W s ks).1=decide (way∈ws)∧((AE Ps (some aF) W s ks).1=true→Ht n0 n1 n2 n5 (AE Ps (some aF) W s ks).2):=λe=>by rw[e];exact⟨rfl,λ_=>iv⟩
 have m0:=xf _ of iv.k0;cases r with
 |s0=>exact fin (by unfold AE;exact m0)
 |s1=>exact fin (by unfold AE;rw[iv.k1];exact m0)
 |s2=>exact fin (by unfold AE;rw[iv.k1];exact m0)
 |s3=>exact fin (by unfold AE;rw[h4];dsimp only;rw[e4,r4,AR (by rfl)];exact m0)
 |s4=>exact fin (by unfold AE;rw[iv.k0,of];rfl)
 |s5=>exact fin (by
   unfold AE;rw[iv.k0];show((DG W n0&&kq aF aF),ks)=_
   rw[of,GO,GQ])
 |s6=>exact fin (by
   unfold AE;rw[iv.k0,iv.k1];show((!decide (W.lookup n0=some "lend")&&kq aF aF),ks)=_
   rw[kw,GO,GQ])
 |s7 j j0 j1=>
  have aj:CC aF [.int j]=some .text:=by
   unfold CC;rw[show stepK aF (.int j)=some .text from AR ⟨j0,j1⟩];rfl
  exact fin (by
   unfold AE;rw[iv.k0,iv.k2];dsimp only;rw[aj];show((!decide (W.lookup n0=some "lend")&&kq .text .text),ks)=_
   rw[kw,GO,GQ])
 |s8=>exact fin (by
   unfold AE;rw[iv.k0,iv.k2];show((!decide (W.lookup n0=some "lend")&&kq aF aF),ks)=_
   rw[kw,GO,GQ])
 |s9=>exact fin (by unfold AE;rw[iv.k0,hl];exact Kt (NZ wv) iv.k1)
 |s10=>
  have m5:=bx nd iv (cF wv);have e:AE Ps (some aF) W (.copy n5 n0) ks=D6 W ks n5 aF:=by unfold AE;rw[iv.k0]
  rw[e,hl];exact⟨m5.1,λ_=>m5.2⟩
 |s11=>exact fin (by
   unfold AE;rw[iv.k0];simp only[Yd,WC];rw[hl];exact Kt (uh wv) iv.k2)
 |s12=>exact fin (by unfold AE;rw[iv.k0,hl];rfl)
 |s13=>exact fin (by
   unfold AE;rw[iv.k1,iv.k0];show((!decide (W.lookup n1=some "lend")&&kq aF aF),ks)=_
   rw[GO,GQ,hl,show decide (W.lookup n1=some "lend")=false by rcases wv.w1 with e|e<;>rw[e]<;>decide +kernel]
   rfl)
 |s14=>
  have g1:An Ps (some aF) W [.drop n1] ks=(true,ks):=by
   unfold An AE An;rw[iv.k1,NZ wv];rfl
  have g2:An Ps (some aF) W [.back n1] ks=(true,ks):=by
   unfold An AE An;rw[iv.k1];show(if(DG W n1&&kq aF aF)=true then _ else _)=_
   rw[NZ wv,GO];rfl
  exact fin (by
   unfold AE;rw[iv.k0,iv.k1];dsimp only;rw[AR (GO _),g1];dsimp only;rw[AR rfl,g2,hl])
 |s15=>exact fin (by
   unfold AE;rw[h3];dsimp only;rw[e3,Ql];cases decide (way∈EU other)<;>rfl)
 |s16=>exact fin (by
   unfold AE;rw[h3];dsimp only;rw[e3,Ql,r3];dsimp only;rw[Kt (NZ wv) iv.k1];cases decide (way∈EU other)<;>rfl)
 |s17=>
  have m5:=bx nd iv (cF wv);have e:AE Ps (some aF) W (.call (some n5) n3 [n0]) ks=if decide (way∈EU other)=true then D6 W ks n5 aF else(false,ks):=by
   unfold AE;rw[h3];dsimp only;rw[e3,Ql,r3]
  rw[e];cases hd:decide (way∈EU other)with
  |true=>rw[AR rfl];exact⟨m5.1,λ_=>m5.2⟩
  |false=>rw[AN BJ];exact⟨rfl,λh=>by cases h⟩
end
theorem Yb{Ps:List (Str×Pr)}{re:Option Kd}{W:List (Str×Str)}:∀{ss rs:List Sm} {ks:ad},An Ps re W (ss++rs) ks=if(An Ps re W ss ks).1=true then An Ps re W rs (An Ps re W ss ks).2 else(false,(An Ps re W ss ks).2)
  |[],rs,ks=>by rw[GI];(conv=>rhs;rw[An]);rfl
  |s::ss,rs,ks=>by
    rw[Fd,An,An];cases h:(AE Ps re W s ks).1 with
    |true=>rw[AR rfl,AR rfl];exact Yb
    |false=>rw[AN BJ,AN BJ,AN BJ]
section
variable {n6 w1: Str}{W: List (Str×Str)}{ks: ad}
theorem Qo:An Ps (some aF) W [s] ks=AE Ps (some aF) W s ks:=by
 rw[An];cases h:(AE Ps (some aF) W s ks).1 with
 |true=>rw[AR rfl,An,←h]
 |false=>rw[AN BJ,←h]
theorem xn(nd:[n0,n1,n2,n3,n4,n5].Nodup)(hw:way∈cL∨way = "shelf")(ho:other∈cL)(iv:Ht n0 n1 n2 n5 ks)(wv:HW n0 n1 n2 n5 way W)
  (h3:Ps.lookup n3=some p1) (e3:p1.ps=[(n7,other,aF)]) (r3:p1.re=some aF) (h4:Ps.lookup n4=some p2) (e4:p2.ps=[]) (r4:p2.re=some aF) (r:Fq n0 n1 n2 n3 n4 n5 other way body ig) :
  (An Ps (some aF) W body ks).1=ig∧(ig=true→Ht n0 n1 n2 n5 (An Ps (some aF) W body ks).2):=by
 induction r with
 |nil=>rw[An];exact⟨rfl,λ_=>iv⟩
 |@one ss d0 s ws h r ih=>
  rw[Yb,ih.1];cases d0 with
  |false=>rw[AN BJ];exact⟨rfl,λh=>by cases h⟩
  |true=>
   rw[AR rfl,Qo,BA];have st:=fZ nd hw ho (ih.2 rfl) wv h3 e3 r3 h4 e4 r4 r;exact⟨st.1,λh=>st.2 (st.1.trans h)⟩
 |@try_ ss d0 s ws h r ih=>
  rw[Yb,ih.1];cases d0 with
  |false=>rw[AN BJ];exact⟨rfl,λh=>by cases h⟩
  |true=>
   have st:=fZ nd hw ho (ih.2 rfl) wv h3 e3 r3 h4 e4 r4 r;have e:∀k2,AE Ps (some aF) W (.tri [] [s]) k2=AE Ps (some aF) W s k2:=λk2=>by
    rw[AE,show An Ps (some aF) W [] k2=(true,k2)by rw[An],Qo];rfl
   rw[AR rfl,Qo,BA,e];exact⟨st.1,λh=>st.2 (st.1.trans h)⟩
theorem aK(nm:∀z∈[n0,n1,n2,n3,n4,n5],Nm z)(d:Nat)(hd:d≤2)(r:CU n0 n1 n2 n3 n4 n5 other s ws):s.fm d=true∧s.Ok∧s.sz≤3:=by
 have g:∀z∈[n0,n1,n2,n3,n4,n5],DI z=true:=λz m=>LM (nm z m);have l:∀z∈[n0,n1,n2,n3,n4,n5],z.length≤1000:=λz m=>by have:=(nm z m).le;lia
 have a0:=g n0 (by simp);have a1:=g n1 (by simp);have a2:=g n2 (by simp);have a3:=g n3 (by simp);have a4:=g n4 (by simp);have a5:=g n5 (by simp)
 have b0:=l n0 (by simp);have b1:=l n1 (by simp);have b2:=l n2 (by simp);have b3:=l n3 (by simp);have b4:=l n4 (by simp);have b5:=l n5 (by simp)
 have d4:d+1≤4:=by lia
 have kg:aF.good:=by unfold Kd.good Kd.good;trivial
 have kd:aF.depth≤5:=by decide +kernel
 cases r<;>simp[Sm.fm,Sm.Ok,Sm.sz,DV,By,BU,a0,a1,a2,a3,a4,a5,b0,b1,b2,b3,b4,b5,d4]
 ·exact⟨by decide +kernel,kg,kd,λΓ=>J0 (.str (by decide +kernel)) (.str (by decide +kernel))⟩
 ·exact .int _
 ·exact .int _
theorem oG(nm:∀z∈[n0,n1,n2,n3,n4,n5],Nm z)(r:Fq n0 n1 n2 n3 n4 n5 other way body ig):DV body 1=true∧By body∧BU body≤4*body.length:=by
 have app:∀{ss:List Sm} {s:Sm},DV ss 1=true→s.fm 1=true→DV (ss++[s]) 1=true:=λh1 h2=>by
  rw[Yc]at h1 ⊢;rw[X0,h1];simp[h2]
 have MF:∀{ss:List Sm} {s:Sm},By ss→s.Ok→By (ss++[s]):=λ{ss s} h1 h2=>by
  induction ss with
  |nil=>unfold By By;exact⟨h2,trivial⟩
  |cons x r ih=>unfold By at h1;rw[Fd];unfold By;exact⟨h1.1,ih h1.2⟩
 have ME:∀{ss:List Sm} {s:Sm},BU (ss++[s])=BU ss+s.sz:=λ{ss s}=>by
  induction ss with
  |nil=>rw[GI,BU,BU,BU];lia
  |cons x r ih=>rw[Fd,BU,BU,ih];lia
 induction r with
 |nil=>unfold DV By BU;exact⟨rfl,trivial,by simp⟩
 |one h r ih=>
  have s1:=aK nm 1 (by decide) r;exact⟨app ih.1 s1.1,MF ih.2.1 s1.2.1,by rw[ME,Br];simp only[Ny];lia⟩
 |@try_ ss d0 s ws h r ih=>
  have s1:=aK nm 2 (by decide) r;have f:(Sm.tri [] [s]).fm 1=true:=by simp[Sm.fm,DV,s1.1]
  have o:(Sm.tri [] [s]).Ok:=by simp[Sm.Ok,By,s1.2.1]
  have z:(Sm.tri [] [s]).sz≤4:=by simp only[Sm.sz,BU];lia
  exact⟨app ih.1 f,MF ih.2.1 o,by rw[ME,Br];simp only[Ny];lia⟩
theorem HV:aF.good∧aF.depth≤5:=⟨by unfold Kd.good Kd.good;trivial,by decide +kernel⟩
theorem Zt:Kd.text.good∧Kd.text.depth≤5:=⟨by unfold Kd.good;trivial,by decide +kernel⟩
theorem pL{side s1 s2:Int}{gZ:List (Str×Str×Kd)}{ds:List Dr}(h:a9 n0 n1 n2 n3 n4 n5 n6 n7 way w1 other side s1 s2 gZ body ig ds):
  NN ds (B2 way n0 side)=ig∧ds.length≤900∧(B2 way n0 side).length≤1∧(∀d∈ds,d.Ok)∧(∀s∈B2 way n0 side,s.Ok)∧∀d∈ds,BU d.b≤90000:=by
 have nd:=h.nd;simp only[Zw,XO,CN,EP,not_or,not_false_eq_true,and_true,TO]at nd;let⟨⟨Qk,Qj,XC,XB,Qi,XA,Wq⟩,⟨d12,d13,d14,d15,d16,d17⟩,⟨d23,d24,d25,d26,d27⟩,⟨d34,d35,d36,d37⟩,⟨d45,d46,d47⟩,⟨Xz,Xy⟩,Xx⟩:=nd;have T7:∀z∈[n0,n1,n2,n3,n4,n5],Nm z:=λz m=>h.nm z (by simp only[XO,CN,EP]at m ⊢;rcases m with m|m|m|m|m|m<;>simp[m])
 have Ua:[n0,n1,n2,n3,n4,n5].Nodup:=by simp[*]
 have bf:=oG T7 h.bd;have ln:=h.ln;have QD:w1∈cL:=by rcases h.wo with e|e<;>rw[e]<;>decide +kernel
 have cm:("copy" : Str)∈cL:=by decide +kernel
 have TU:∀q∈gZ,Nm q.1∧q.2.1∈cL∧q.2.2.good∧q.2.2.depth≤5:=λq m=>by
  have m:=(h.pl.mem_iff).mp m;unfold DN at m;split at m
  ·rcases XO.mp m with rfl|m
   ·exact⟨h.nm n1 (by simp),QD,HV⟩
   rcases XO.mp m with rfl|m
   ·exact⟨h.nm n2 (by simp),cm,Zt⟩
   cases m
  ·rename_i c
   rcases XO.mp m with rfl|m
   ·exact⟨h.nm n0 (by simp),h.wy.resolve_right c,HV⟩
   rcases XO.mp m with rfl|m
   ·exact⟨h.nm n1 (by simp),QD,HV⟩
   rcases XO.mp m with rfl|m
   ·exact⟨h.nm n2 (by simp),cm,Zt⟩
   cases m
 have Jp:(gZ.map (·.1)).Nodup:=by
  exact((h.pl.map _).nodup_iff).mpr ?_;unfold DN;split<;>simp[*]
 have Xd:gZ.length≤3:=by
  rw[h.pl.length_eq];unfold DN;split<;>simp
 have o0:(⟨⟨n6,side,gZ,some aF⟩,body⟩:Dr).Ok:=⟨⟨h.nm n6 (by simp),h.sd,TU,Jp,by show gZ.length≤900;lia,λk e=>by cases e;exact HV⟩,bf.2.1,by show body.length≤1000;lia⟩;have o1:(⟨⟨n3,s1,[(n7,other,aF)],some aF⟩,[]⟩:Dr).Ok:=⟨⟨h.nm n3 (by simp),h.Tv,λq m=>by rw[Yu]at m;subst m;exact⟨h.nm n7 (by simp),h.ot,HV⟩,by simp,by simp,λk e=>by cases e;exact HV⟩,by unfold By;trivial,by simp⟩;have o2:(⟨⟨n4,s2,[],some aF⟩,[]⟩:Dr).Ok:=⟨⟨h.nm n4 (by simp),h.Tu,λq m=>(by cases m),by simp,by simp,λk e=>by cases e;exact HV⟩,by unfold By;trivial,by simp⟩;have dm:∀{Q:Dr→Prop},Q ⟨⟨n6,side,gZ,some aF⟩,body⟩→Q ⟨⟨n3,s1,[(n7,other,aF)],some aF⟩,[]⟩→Q ⟨⟨n4,s2,[],some aF⟩,[]⟩→∀d∈ds,Q d:=λq0 q1 q2 d m=>by
  have m:=(h.ds.mem_iff).mp m;rcases XO.mp m with rfl|m
  ·exact q0
  rcases XO.mp m with rfl|m
  ·exact q1
  rcases XO.mp m with rfl|m
  ·exact q2
  cases m
 have Po:(B2 way n0 side).length≤1:=by unfold B2;split<;>simp
 have Uz:∀s∈B2 way n0 side,s.Ok:=λs m=>by
  unfold B2 at m;split at m
  ·rw[Yu]at m;subst m
   exact⟨h.nm n0 (by simp),h.sd,HV,λΓ=>J0 (.str (by decide +kernel)) (.str (by decide +kernel))⟩
  ·cases m
 exact⟨?_,by rw[h.ds.length_eq];simp,Po,dm o0 o1 o2,Uz,dm (by show BU body≤_;have:=bf.2.2;lia) (by show BU []≤_;unfold BU;lia) (by show BU []≤_;unfold BU;lia)⟩;unfold NN;have f1:(ds.all λd=>EO d.b 1)=true:=Yw.mpr (dm (by show EO body 1=true;unfold EO;rw[bf.1];rfl) (by show EO [] 1=true;unfold EO DV;rfl) (by show EO [] 1=true;unfold EO DV;rfl));have f2:((B2 way n0 side).all λs=>Bp s.k s.w)=true:=Yw.mpr λs m=>by
  unfold B2 at m;split at m
  ·rw[Yu]at m;subst m;show Bp aF (.tup [.str "a",.str "b\x20c"])=true;decide +kernel
  ·cases m
 have f3:(ds.map λd=>d.p.nm).Nodup:=((h.ds.map _).nodup_iff).mpr (by simp[CO d36,CO d46,d34]);rw[f1,f2,CI f3,BA,BA,BA];have pk:((EF ds).map (·.1)).Nodup:=by unfold EF;rw[Dn];exact f3
 have h3:(EF ds).lookup n3=some ⟨n3,s1,[(n7,other,aF)],some aF⟩:=HG pk (X9.mpr ⟨⟨⟨n3,s1,[(n7,other,aF)],some aF⟩,[]⟩,h.ds.mem_iff.mpr (by simp),rfl⟩);have h4:(EF ds).lookup n4=some ⟨n4,s2,[],some aF⟩:=HG pk (X9.mpr ⟨⟨⟨n4,s2,[],some aF⟩,[]⟩,h.ds.mem_iff.mpr (by simp),rfl⟩);have JA:∀sd x,x≠n0→(CH (B2 way n0 side) sd).lookup x=none:=λsd x hx=>by
  exact eL.mpr λm=>?_;unfold CH at m;rw[Dn]at m;let⟨s,hs,e⟩:=X9.mp m;have hs:=(ZN.mp hs).1;unfold B2 at hs;split at hs
  ·rw[Yu]at hs;subst hs;exact hx e.symm
  ·cases hs
 have g1:FT (EF ds) (B2 way n0 side) ⟨n3,s1,[(n7,other,aF)],some aF⟩ []=true:=by
  unfold FT;rw[An];show(!(((CH (B2 way n0 side) s1).lookup n7).isSome||false)&&true)=true
  rw[JA s1 n7 (CO Wq)];rfl
 have g2:FT (EF ds) (B2 way n0 side) ⟨n4,s2,[],some aF⟩ []=true:=by
  unfold FT;rw[An];rfl
 -- vo first door
 have pin:∀q,q∈DN way w1 n0 n1 n2→q∈gZ:=λq m=>h.pl.mem_iff.mpr m;have NJ:((gZ.map λq=>(q.1,q.2.1)).map (·.1)).Nodup:=by rw[Dn];exact Jp
 have knd:((gZ.map λq=>(q.1,q.2.2)).map (·.1)).Nodup:=by rw[Dn];exact Jp
 have i1:(n1,w1,aF)∈gZ:=pin _ (by unfold DN;split<;>simp)
 have i2:(n2,("copy" : Str),Kd.text)∈gZ:=pin _ (by unfold DN;split<;>simp)
 have out:∀x,x≠n0→x≠n1→x≠n2→x∉gZ.map (·.1):=λx x0 x1 x2 m=>by
  let⟨q,hq,e⟩:=X9.mp m;have hq:=h.pl.mem_iff.mp hq;unfold DN at hq;split at hq
  ·rcases XO.mp hq with rfl|hq
   ·exact x1 e.symm
   rcases XO.mp hq with rfl|hq
   ·exact x2 e.symm
   cases hq
  ·rcases XO.mp hq with rfl|hq
   ·exact x0 e.symm
   rcases XO.mp hq with rfl|hq
   ·exact x1 e.symm
   rcases XO.mp hq with rfl|hq
   ·exact x2 e.symm
   cases hq
 have HN:∀{α:Type} (g:Str×Str×Kd→α) x,x∉gZ.map (·.1)→(gZ.map λq=>(q.1,g q)).lookup x=none:=λg x hx=>eL.mpr (by rw[Dn];exact hx);have wv:HW n0 n1 n2 n5 way (gZ.map λq=>(q.1,q.2.1)):=by
  exact⟨?_,?_,HG NJ (X9.mpr ⟨_,i2,rfl⟩),HN (λq=>q.2.1) n5 (out n5 (CO Qi) (CO d15) (CO d25))⟩
  ·unfold Qg
   by_cases c:way = "shelf"
   ·rw[AR c]
    exact HN (λq=>q.2.1) n0 λm=>?_;let⟨q,hq,e⟩:=X9.mp m;have hq:=h.pl.mem_iff.mp hq;unfold DN at hq;rw[AR c]at hq;rcases XO.mp hq with rfl|hq
    ·exact Qk e.symm
    rcases XO.mp hq with rfl|hq
    ·exact Qj e.symm
    cases hq
   ·rw[AN c]
    exact HG NJ (X9.mpr ⟨(n0,way,aF),pin _ (by unfold DN;rw[AN c];simp),rfl⟩)
  ·have:=HG NJ (X9.mpr ⟨_,i1,rfl⟩)
   rcases h.wo with e|e
   ·rw[e]at this;exact .inl this
   ·right;rw[e]at this;exact this
 have iv:Ht n0 n1 n2 n5 (CH (B2 way n0 side) side++gZ.map λq=>(q.1,q.2.2)):=by
  exact⟨?_,?_,?_,.inl ?_⟩
  ·rw[Gs]
   by_cases c:way = "shelf"
   ·have:CH (B2 way n0 side) side=[(n0,aF)]:=by unfold CH B2;rw[AR c];simp
    rw[this];simp
   ·have:CH (B2 way n0 side) side=[]:=by unfold CH B2;rw[AN c];rfl
    rw[this];exact HG knd (X9.mpr ⟨(n0,way,aF),pin _ (by unfold DN;rw[AN c];simp),rfl⟩)
  ·rw[Gs,JA side n1 (CO Qk)]
   exact HG knd (X9.mpr ⟨_,i1,rfl⟩)
  ·rw[Gs,JA side n2 (CO Qj)]
   exact HG knd (X9.mpr ⟨_,i2,rfl⟩)
  ·rw[Gs,JA side n5 (CO Qi)]
   exact HN (λq=>q.2.2) n5 (out n5 (CO Qi) (CO d15) (CO d25))
 have bo:=xn Ua h.wy h.ot iv wv h3 rfl rfl h4 rfl rfl h.bd;have g0:FT (EF ds) (B2 way n0 side) ⟨n6,side,gZ,some aF⟩ body=ig:=by
  unfold FT;dsimp only;rw[bo.1,show(gZ.any λq=>((CH (B2 way n0 side) side).lookup q.1).isSome)=false from ?_]
  ·cases ig<;>rfl
  ·rw[List.any_eq_false]
   intro q hq;have hq:=h.pl.mem_iff.mp hq;unfold DN at hq;by_cases c:way = "shelf"
   ·rw[AR c]at hq
    rcases XO.mp hq with rfl|hq
    ·rw[JA side n1 (CO Qk)];simp
    rcases XO.mp hq with rfl|hq
    ·rw[JA side n2 (CO Qj)];simp
    cases hq
   ·have:CH (B2 way n0 side) side=[]:=by unfold CH B2;rw[AN c];rfl
    rw[this];simp
 have ea:(ds.all λd=>FT (EF ds) (B2 way n0 side) d.p d.b)=([⟨⟨n6,side,gZ,some aF⟩,body⟩,⟨⟨n3,s1,[(n7,other,aF)],some aF⟩,[]⟩,⟨⟨n4,s2,[],some aF⟩,[]⟩].all λd:Dr=>FT (EF ds) (B2 way n0 side) d.p d.b):=h.ds.all_eq;rw[ea];simp only[Kf,List.all_nil,g0,g1,g2,GQ]
end
theorem YJ(h0:0≤i)(h1:i<ws.length):∃z,z∈ws∧Cz (ws.map T.str) i=some (.str z):=by
 let⟨x,hx,hm⟩:=Nz (xs:=ws.map T.str) h0 (by simpa using h1);let⟨z,hz,rfl⟩:=X9.mp hm;exact⟨z,hz,hx⟩
theorem Hp{i:Nat}(h:i<30):∃x:Int,0≤x∧Cz ((F9 c 30).map T.int) (i:Int)=some (.int x):=by
 let⟨x,hx,_,e⟩:=IT (ns:=F9 c 30) (j:=i) (by rw[Y6];exact h);exact⟨x,sm x hx,e⟩
theorem Q7{α:Type}(xs:List α)(n:Nat):(xs.drop n++xs.take n).Perm xs:=(List.perm_append_comm).trans (by rw[List.take_append_drop])
structure Bs(c:Int)(Γ Γ':AJ)(pr pn:Addr)(ns:List Str):Prop where
 le:Le Γ Γ'
 gr:Γ' pr=some (.lst ((F9 c 30).map T.int))
 gn:Γ' pn=some (.lst (ns.map T.str))
theorem Bs.mono{ns:List Str}(b:Bs c Γ Γ' pr pn ns)(l:Le Γ' Γ2):Bs c Γ Γ2 pr pn ns:=⟨b.le.trans l,l _ _ b.gr,l _ _ b.gn⟩
theorem Bs.kq{ns:List Str}(b:Bs c Γ Γ' pr pn ns)(k:Kq [p] Γ' Γ2)(h0:Γ p=none)(h1:pr≠p)(h2:pn≠p):Bs c Γ Γ2 pr pn ns:=
 ⟨λx o h=>k x o (by simpa using EZ h h0) (b.le x o h),k _ _ (by simpa using h1) b.gr,k _ _ (by simpa using h2) b.gn⟩
theorem le_none(l:Le Γ Γ')(h:Γ' p=none):Γ p=none:=by
 cases e:Γ p with
 |none=>rfl
 |some u=>have:=l _ _ e;rw[h]at this;cases this
section
variable {K: W.Frag}
abbrev XH:Stmt:=Au 75
theorem aJ:Ak ["cell","r","names","row","way","other","side","places","shelves","turn","body","due","k","one","ways","doors"] ["cell"] (AX XH):=⟨rfl,rfl,rfl,by decide +kernel,rfl,by decide +kernel,by decide +kernel⟩
def gv:Am:=λts Γ Z _=>∃c:Int,ts=[.int c]∧∀n0 n1 n2 n3 n4 n5 n6 n7 way w1 other side s1 s2 gZ body ig ds,a9 n0 n1 n2 n3 n4 n5 n6 n7 way w1 other side s1 s2 gZ body ig ds→Z (.tup [.tup [.tup (ds.map Dr.tr),.tup ((B2 way n0 side).map Sh.tr)],.bl ig]) Γ
theorem kE(F:cP K "_law_asked" "_law_asked" XH f fd)(uN:AU P w K mg am "_law_draws" 1 ["cell","count"] eI)(uM:AU P w K mg am "_law_names" 2 ["row"] bG)(oH:AU P w K mg am "_law_statement" 1 ["names","other","draw"] aa)(aG:mg "len" = none)(aC:mg "tuple" = none)(eo:mg "range" = none):a8 P w K mg am Ag 3 f fd ["cell"] (Af gv):=by
 exact As F aJ (λts Γ Z Y h=>?_) (λcn A outer s H E ts Γ Z Y hr h=>?_)
 ·let⟨c,rfl,_⟩:=h
  rfl
 let⟨c,rfl,q⟩:=h;exact⟨_,(A5 (Aw (Ad (i:=1) aJ.nd (Ae uN hr (A3 (A0 0) (A3 AA A6)))))
  (A5 (Aw (Ad (i:=2) aJ.nd (Ae uM hr (A3 (Dj FA (A0 1) (DC AA) (DC AA)) A6))))
  (A5 (Aw (Ad (i:=2) aJ.nd (AQ Eu (Dj FA (A0 2) (DC (AQ CF (AY (A0 1) AA) AA)) EY) (Dj FA (A0 2) EY (DC (AQ CF (AY (A0 1) AA) AA))))))
  (A5 (Aw (Ad (i:=3) aJ.nd (AP (A3 AM (A3 (AP (A3 AM A6)) A6)))))
  (A5 (Aw (Ad (i:=4) aJ.nd (AY (CW (A3 AM (A3 AM (A3 AM (A3 AM (A3 AM (A3 AM (A3 AM A6)))))))) (AQ CF (AY (A0 1) AA) AA))))
  (A5 (Aw (Ad (i:=5) aJ.nd (AY (CW (A3 AM (A3 AM (A3 AM (A3 AM A6))))) (AQ CF (AY (A0 1) AA) AA))))
  (A5 (Aw (Ad (i:=6) aJ.nd (AQ CF (AY (A0 1) AA) AA)))
  (A5 (Aw (Ad (i:=7) aJ.nd (CW (A3 (AP (A3 (AY (A0 2) AA) (A3 (A0 4) (A3 (A0 3) A6)))) (A3 (AP (A3 (AY (A0 2) AA) (A3 (AY (CW (A3 AM (A3 AM A6))) (AQ CF (AQ GZ (AY (A0 1) AA) AA) AA)) (A3 (A0 3) A6)))) A6)))))
  (A5 (Aw (Ig (FZ Hv J3 IS Ih (A0 7) (A3 (AP (A3 (AY (A0 2) AA) (A3 AM (A3 (AP (A3 AM A6)) A6)))) A6))))
  (A5 (Aw (Ad (i:=8) aJ.nd (AP A6)))
  (A5 (Aw (Ah (B0 CT (A0 4) AM) (A5 (Aw (Ad (i:=7) aJ.nd (Dj FA (A0 7) (DC AA) EY)))
  (A5 (Aw (Ad (i:=8) aJ.nd (AP (A3 (AP (A3 (AY (A0 2) AA) (A3 (A0 6) (A3 (A0 3) (A3 (AP (A3 AM (A3 AM A6))) A6))))) A6))))
  A7)) A7))
  (A5 (Aw (Ad (i:=9) aJ.nd (AQ CF (AY (A0 1) AA) (Av DL rfl aG Bm (A3 (A0 7) A6)))))
  (A5 (Aw (Ad (i:=7) aJ.nd (Nr Pg rfl aC Dm (A3 (AQ Eu (Dj FA (A0 7) (DC (A0 9)) EY) (Dj FA (A0 7) EY (DC (A0 9)))) A6))))
  (A5 (Aw (Ad (i:=10) aJ.nd (CW A6)))
  (A5 (Aw (Ad (i:=11) aJ.nd B4))
  (A5 (Aw (GJ HS rfl (M3 rfl eo (A3 (AQ FD AA (AQ CF (AY (A0 1) AA) AA)) A6)) (Aa (i:=12) aJ.nd) (A5 (Aw (EJ (Ae oH hr (A3 (Dj FA (A0 2) EY (DC AA)) (A3 (A0 5) (A3 (AY (A0 1) (AQ FD AA (A0 12))) A6)))) (Be (n:=2) rfl (AL (Aa (i:=13) aJ.nd) (AL (Aa (i:=14) aJ.nd) Bd)))))
  (A5 (Aw (Ad (i:=11) aJ.nd (CK (A0 11) (CA (GR YM (A0 4) (A0 14) (by with_unfolding_all rfl))))))
  (A5 (Aw (Ah (B0 CT (AQ CF (AQ GZ (AY (A0 1) AA) (AY (CW (A3 AA (A3 AA (A3 AA A6)))) (A0 12))) AA) AA) (A5 (Aw (Ad (i:=13) aJ.nd (AP (A3 AM (A3 (AP A6) (A3 (AP (A3 (A0 13) A6)) A6))))))
  A7) A7))
  (A5 (Aw (Ig (FZ Hv J3 IS Ih (A0 10) (A3 (A0 13) A6))))
  A7))))))
  (A5 (Aw (Ad (i:=15) aJ.nd (CW (A3 (AP (A3 (AP (A3 (AY (A0 2) AA) (A3 (A0 6) (A3 (A0 7) (A3 (A0 3) A6))))) (A3 (Nr Pg rfl aC Dm (A3 (A0 10) A6)) A6))) A6))))
  (A5 (Aw (Ig (FZ Hv J3 IS Ih (A0 15) (A3 (AP (A3 (AP (A3 (AY (A0 2) AA) (A3 (AQ CF (AQ GZ (AY (A0 1) AA) AA) AA) (A3 (AP (A3 (AP (A3 (AY (A0 2) AA) (A3 (A0 5) (A3 (A0 3) A6)))) A6)) (A3 (A0 3) A6))))) (A3 (AP A6) A6))) A6))))
  (A5 (Aw (Ig (FZ Hv J3 IS Ih (A0 15) (A3 (AP (A3 (AP (A3 (AY (A0 2) AA) (A3 (AQ CF (AQ GZ (AY (A0 1) AA) AA) AA) (A3 (AP A6) (A3 (A0 3) A6))))) (A3 (AP A6) A6))) A6))))
  (A5 (Aw (Ad (i:=9) aJ.nd (AQ CF (AQ GZ (AY (A0 1) AA) AA) AA)))
  (A5 (AH (AP (A3 (AP (A3 (Nr Pg rfl aC Dm (A3 (AQ Eu (Dj FA (A0 15) (DC (A0 9)) EY) (Dj FA (A0 15) EY (DC (A0 9)))) A6)) (A3 (A0 8) A6))) (A3 (A0 11) A6))))
  A7))))))))))))))))))))),?_⟩
 simp only[Ai];left;exact⟨λτ Γ'=>∃pr,τ=[some (.int c),some (.ref pr),none,none,none,none,none,none,none,none,none,none,none,none,none,none]∧Le Γ Γ'∧Γ' pr=some (.lst ((F9 c 30).map T.int)),?_,?_⟩
 ·left
  exact Ψ2 c 30 ⟨rfl,by decide,λp1 cS=>?_⟩;left;exact⟨p1,rfl,.new cS,B1⟩
 intro τ Γ'⟨pr,rfl,le,gr⟩;left;exact⟨λτ Γ'=>∃pr pn ss,τ=[some (.int c),some (.ref pr),some (.ref pn),none,none,none,none,none,none,none,none,none,none,none,none,none]∧Bs c Γ Γ' pr pn ss∧ss.length=9∧(∀z∈ss,Nm z)∧ss.Nodup,?_,?_⟩
 ·left
  exact Ψ2 pr _ ⟨rfl,gr,λp1 cS=>?_⟩;rw[FE];generalize e1:A9 _ p1 (O.lst _)=G1;have g1:=AZ e1;have l1:=Ab e1 cS
  left;exact Ψ2 p1 _ ⟨rfl,g1,?_,λss p2 ls nm nd hU=>?_⟩
  ·rw[TG (by decide) (by decide),ET,Ff,Y6];rfl
  left;have l2:=l1.trans (Le.new (o:=.lst (ss.map T.str)) hU);exact Ψ3 pr p2 ss ⟨rfl,⟨le.trans l2,l2 _ _ gr,B1⟩,ls,nm,nd⟩
 intro τ Γ'⟨pr,pn,ss,rfl,bs,sl,nm,nd⟩;left;exact⟨λτ Γ'=>∃pr pn n0 n1 n2 n3 n4 n5 n6 n7 n8,τ=[some (.int c),some (.ref pr),some (.ref pn),none,none,none,none,none,none,none,none,none,none,none,none,none]∧Bs c Γ Γ' pr pn [n0,n1,n2,n3,n4,n5,n6,n7,n8]∧(∀z∈[n0,n1,n2,n3,n4,n5,n6,n7],Nm z)∧[n0,n1,n2,n3,n4,n5,n6,n7].Nodup,?_,?_⟩
 ·let⟨x0,h0,e0⟩:=Hp (c:=c) (i:=0) (by decide)
  have b0:=DM x0 (by decide:(9:Int)≠0);left;exact BN bs.gr e0 ?_;left;exact Ψ2 pn _ ⟨rfl,bs.gn,λp1 cS=>?_⟩;rw[FE,J5 b0];generalize e1:A9 _ p1 (O.lst _)=G1;have g1:=AZ e1;have l1:=Ab e1 cS
  have qX:=bs.mono l1;left;exact BN qX.gr e0 ?_;left;exact Ψ2 pn _ ⟨rfl,qX.gn,λp2 hU=>?_⟩;rw[FE,Ln b0];generalize e2:A9 _ p2 (O.lst _)=G2;have g2:=AZ e2;have l2:=Ab e2 hU
  exact Ψ4 p1 p2 _ _ ⟨rfl,rfl,l2 _ _ g1,g2,by rw[AV,AV,Ff,ET,CS];lia,λp3 Ik=>?_⟩;have pm:=Q7 ss (x0%9).toNat;rw[←Ao];have l9:=pm.length_eq.trans sl;have Rh:=pm.nodup_iff.mpr nd;have Ra:∀z∈ss.drop (x0%9).toNat++ss.take (x0%9).toNat,Nm z:=λz m=>nm z (pm.mem_iff.mp m);generalize ss.drop (x0%9).toNat++ss.take (x0%9).toNat=tt at l9 Rh Ra ⊢;match tt,l9 with
  |[n0,n1,n2,n3,n4,n5,n6,n7,n8],_=>
  generalize e3:A9 _ p3 (O.lst _)=CD;have g3:=AZ e3;have l3:=Ab e3 Ik
  have Sn:=(qX.mono l2).mono l3;left;exact⟨pr,p3,n0,n1,n2,n3,n4,n5,n6,n7,n8,rfl,⟨Sn.le,Sn.gr,g3⟩,λz m=>Ra z (KO [n8] m),?_⟩;exact(YY.mp (show([n0,n1,n2,n3,n4,n5,n6,n7]++[n8]).Nodup from Rh)).1
 rintro τ Γ' ⟨pr,pn,n0,n1,n2,n3,n4,n5,n6,n7,n8,rfl,bs,T6,T9⟩;left;exact⟨λτ Γ'=>τ=[some (.int c),some (.ref pr),some (.ref pn),some aF.tr,none,none,none,none,none,none,none,none,none,none,none,none]∧Bs c Γ Γ' pr pn [n0,n1,n2,n3,n4,n5,n6,n7,n8],?_,?_⟩
 ·left
  exact⟨by rw[Kd.tr,Kd.tr];rfl,bs⟩
 intro τ Γ'⟨rfl,bs⟩;left;exact⟨λτ Γ'=>∃way,τ=[some (.int c),some (.ref pr),some (.ref pn),some aF.tr,some (.str way),none,none,none,none,none,none,none,none,none,none,none]∧(way∈cL∨way = "shelf")∧Bs c Γ Γ' pr pn [n0,n1,n2,n3,n4,n5,n6,n7,n8],?_,?_⟩
 ·let⟨x1,h1,e1⟩:=Hp (c:=c) (i:=1) (by decide)
  left;intro p1 cS;generalize ea:A9 _ p1 (O.lst _)=G1;have g1:=AZ ea;have l1:=Ab ea cS
  have qX:=bs.mono l1;left;exact BN qX.gr e1 ?_;left;let⟨z,hz,ez⟩:=YJ (ws:=["copy","give","lend","lease","shelf","lend","lease"]) (DM x1 (by decide:(7:Int)≠0)) (E5 x1 (by decide:(0:Int)<7));exact BN g1 ez ?_;left;exact⟨z,rfl,?_,qX⟩;have:z = "copy" ∨ z = "give" ∨ z = "lend" ∨ z = "lease" ∨ z = "shelf" ∨ z = "lend" ∨ z = "lease" := by simpa using hz
  rcases this with rfl|rfl|rfl|rfl|rfl|rfl|rfl<;>first|exact .inr rfl|(left;decide +kernel)
 intro τ Γ'⟨way,rfl,hw,bs⟩;left;exact⟨λτ Γ'=>∃other,τ=[some (.int c),some (.ref pr),some (.ref pn),some aF.tr,some (.str way),some (.str other),none,none,none,none,none,none,none,none,none,none]∧other∈cL∧Bs c Γ Γ' pr pn [n0,n1,n2,n3,n4,n5,n6,n7,n8],?_,?_⟩
 ·let⟨x1,h1,e1⟩:=Hp (c:=c) (i:=2) (by decide)
  left;intro p1 cS;generalize ea:A9 _ p1 (O.lst _)=G1;have g1:=AZ ea;have l1:=Ab ea cS
  have qX:=bs.mono l1;left;exact BN qX.gr e1 ?_;left;let⟨z,hz,ez⟩:=YJ (ws:=cL) (DM x1 (by decide:(4:Int)≠0)) (E5 x1 (by decide:(0:Int)<4));exact BN g1 ez ?_;left;exact⟨z,rfl,hz,qX⟩
 intro τ Γ'⟨other,rfl,ho,bs⟩;left;let⟨x3,h3,e3⟩:=Hp (c:=c) (i:=3) (by decide);exact⟨λτ Γ'=>∃side,τ=[some (.int c),some (.ref pr),some (.ref pn),some aF.tr,some (.str way),some (.str other),some (.int side),none,none,none,none,none,none,none,none,none]∧(side=0∨side=1)∧Bs c Γ Γ' pr pn [n0,n1,n2,n3,n4,n5,n6,n7,n8],?_,?_⟩
 ·left
  exact BN bs.gr e3 ?_;left;exact⟨x3%2,rfl,by lia,bs⟩
 intro τ Γ'⟨side,rfl,UB,bs⟩;left;exact⟨λτ Γ'=>∃(w1:Str) (pp:Addr),τ=[some (.int c),some (.ref pr),some (.ref pn),some aF.tr,some (.str way),some (.str other),some (.int side),some (.ref pp),none,none,none,none,none,none,none,none]∧(w1 = "copy" ∨ w1 = "give")∧Bs c Γ Γ' pr pn [n0,n1,n2,n3,n4,n5,n6,n7,n8]∧Γ pp=none∧pr≠pp∧pn≠pp∧Γ' pp=some (.lst [BB (n0,way,aF),BB (n1,w1,aF)]),?_,?_⟩
 ·left
  exact BN bs.gn (by rfl) ?_;left;exact BN bs.gn (by rfl) ?_;left;intro p1 cS;generalize ea:A9 _ p1 (O.lst _)=G1;have g1:=AZ ea;have l1:=Ab ea cS
  have qX:=bs.mono l1;left;exact BN qX.gr e3 ?_;left;let⟨z,hz,ez⟩:=YJ (ws:=["copy","give"]) (DM (x3/2) (by decide:(2:Int)≠0)) (E5 (x3/2) (by decide:(0:Int)<2));exact BN g1 ez ?_;left;intro p2 hU;generalize eb:A9 _ p2 (O.lst _)=G2;have g2:=AZ eb;have l2:=Ab eb hU
  have Wu:=qX.mono l2;left;exact Ψ2 z p2 ⟨rfl,by simpa using hz,Wu,le_none qX.le hU,EZ qX.gr hU,EZ qX.gn hU,g2⟩
 intro τ Γ'⟨w1,pp,rfl,Uv,bs,TN,TK,TQ,IH⟩;left;exact⟨λτ Γ'=>τ=[some (.int c),some (.ref pr),some (.ref pn),some aF.tr,some (.str way),some (.str other),some (.int side),some (.ref pp),none,none,none,none,none,none,none,none]∧Bs c Γ Γ' pr pn [n0,n1,n2,n3,n4,n5,n6,n7,n8]∧Γ' pp=some (.lst [BB (n0,way,aF),BB (n1,w1,aF),BB (n2,"copy",.text)]),?_,?_⟩
 ·left
  exact⟨HM IH,?_⟩;left;exact BN bs.gn (by rfl) ?_;left;exact Ψ3 pp _ _ ⟨rfl,rfl,IH,by show 2<sizeLine;decide,?_⟩;left;exact⟨rfl,bs.kq (Kq.set (by simp) _) TN TK TQ,?_⟩;rw[B1];show some (O.lst ([BB (n0,way,aF),BB (n1,w1,aF)]++[.tup [.str n2,.str "copy",.tup [.str "text"]]]))=_
  unfold BB;rw[Kd.tr,Kd.tr];rfl
 intro τ Γ'⟨rfl,bs,IH⟩;left;exact⟨λτ Γ'=>τ=[some (.int c),some (.ref pr),some (.ref pn),some aF.tr,some (.str way),some (.str other),some (.int side),some (.ref pp),some (.tup []),none,none,none,none,none,none,none]∧Bs c Γ Γ' pr pn [n0,n1,n2,n3,n4,n5,n6,n7,n8]∧Γ' pp=some (.lst [BB (n0,way,aF),BB (n1,w1,aF),BB (n2,"copy",.text)]),?_,?_⟩
 ·left
  exact⟨rfl,bs,IH⟩
 intro τ Γ'⟨rfl,bs,IH⟩;left;exact⟨λτ Γ'=>∃pq,τ=[some (.int c),some (.ref pr),some (.ref pn),some aF.tr,some (.str way),some (.str other),some (.int side),some (.ref pq),some (.tup ((B2 way n0 side).map Sh.tr)),none,none,none,none,none,none,none]∧Bs c Γ Γ' pr pn [n0,n1,n2,n3,n4,n5,n6,n7,n8]∧Γ' pq=some (.lst ((DN way w1 n0 n1 n2).map BB)),?_,?_⟩
 ·left
  exact AW (λcc=>?_) (λcc=>?_)
  ·have cc:=K8 cc
   left;exact⟨λτ Γ'=>∃pq,τ=[some (.int c),some (.ref pr),some (.ref pn),some aF.tr,some (.str way),some (.str other),some (.int side),some (.ref pq),some (.tup []),none,none,none,none,none,none,none]∧Bs c Γ Γ' pr pn [n0,n1,n2,n3,n4,n5,n6,n7,n8]∧Γ' pq=some (.lst ((DN way w1 n0 n1 n2).map BB)),?_,?_⟩
   ·left
    exact Ψ2 pp _ ⟨rfl,IH,λp1 cS=>?_⟩;rw[J5 (by decide)];left;exact⟨p1,rfl,bs.mono (Le.new cS),?_⟩;rw[B1];unfold DN;rw[AR cc];rfl
   intro τ Γ'⟨pq,rfl,bs,IG⟩;left;exact Lc ?_;left;exact BN bs.gn (by rfl) ?_;left;exact⟨pq,?_,bs,IG⟩;unfold B2;rw[AR cc];rfl
  ·have cc:=K3 cc
   left;exact⟨pp,?_,bs,?_⟩
   ·unfold B2;rw[AN cc];rfl
   ·rw[IH];unfold DN;rw[AN cc];rfl
 intro τ Γ'⟨pq,rfl,bs,IG⟩;have Xe:2≤(DN way w1 n0 n1 n2).length∧(DN way w1 n0 n1 n2).length≤3:=by unfold DN;split<;>simp
 let⟨x4,h4,e4⟩:=Hp (c:=c) (i:=4) (by decide);left;exact⟨λτ Γ'=>∃tn:Int,τ=[some (.int c),some (.ref pr),some (.ref pn),some aF.tr,some (.str way),some (.str other),some (.int side),some (.ref pq),some (.tup ((B2 way n0 side).map Sh.tr)),some (.int tn),none,none,none,none,none,none]∧0≤tn∧Bs c Γ Γ' pr pn [n0,n1,n2,n3,n4,n5,n6,n7,n8]∧Γ' pq=some (.lst ((DN way w1 n0 n1 n2).map BB)),?_,?_⟩
 ·left
  exact BN bs.gr e4 ?_;left;exact Za IG ?_;exact Ψ2 _ _ ⟨rfl,rfl,?_,?_⟩
  ·rw[AV];lia
  ·left
   exact⟨_,rfl,DM _ (by rw[AV];lia),bs,IG⟩
 intro τ Γ'⟨tn,rfl,QO,bs,IG⟩;left;exact⟨λτ Γ'=>∃gZ:List (Str×Str×Kd),τ=[some (.int c),some (.ref pr),some (.ref pn),some aF.tr,some (.str way),some (.str other),some (.int side),some (.tup (gZ.map BB)),some (.tup ((B2 way n0 side).map Sh.tr)),some (.int tn),none,none,none,none,none,none]∧gZ.Perm (DN way w1 n0 n1 n2)∧Bs c Γ Γ' pr pn [n0,n1,n2,n3,n4,n5,n6,n7,n8],?_,?_⟩
 ·left
  exact Ψ2 pq _ ⟨rfl,IG,λp1 cS=>?_⟩;rw[FE,J5 QO];generalize ea:A9 _ p1 (O.lst _)=G1;have g1:=AZ ea;have l1:=Ab ea cS
  left;exact Ψ2 pq _ ⟨rfl,l1 _ _ IG,λp2 hU=>?_⟩;rw[FE,Ln QO];generalize eb:A9 _ p2 (O.lst _)=G2;have g2:=AZ eb;have l2:=Ab eb hU
  exact Ψ4 p1 p2 _ _ ⟨rfl,rfl,l2 _ _ g1,g2,by rw[AV,AV,Ff,ET,CS];lia,λp3 Ik=>?_⟩;rw[←Ao];generalize ec:A9 _ p3 (O.lst _)=CD;have g3:=AZ ec;have l3:=Ab ec Ik
  left;exact Ψ2 (.ref p3) _ ⟨rfl,Bk g3,?_⟩;left;exact⟨_,rfl,Q7 _ _,((bs.mono l1).mono l2).mono l3⟩
 intro τ Γ'⟨gZ,rfl,hJ,bs⟩;left;exact⟨λτ Γ'=>∃pb,τ=[some (.int c),some (.ref pr),some (.ref pn),some aF.tr,some (.str way),some (.str other),some (.int side),some (.tup (gZ.map BB)),some (.tup ((B2 way n0 side).map Sh.tr)),some (.int tn),some (.ref pb),none,none,none,none,none]∧Bs c Γ Γ' pr pn [n0,n1,n2,n3,n4,n5,n6,n7,n8]∧Γ pb=none∧pr≠pb∧pn≠pb∧Γ' pb=some (.lst []),?_,?_⟩
 ·left
  intro p1 cS;left;exact⟨p1,rfl,bs.mono (Le.new cS),le_none bs.le cS,EZ bs.gr cS,EZ bs.gn cS,B1⟩
 intro τ Γ'⟨pb,rfl,bs,TY,TL,TR,gb⟩;left;exact⟨λτ Γ'=>τ=[some (.int c),some (.ref pr),some (.ref pn),some aF.tr,some (.str way),some (.str other),some (.int side),some (.tup (gZ.map BB)),some (.tup ((B2 way n0 side).map Sh.tr)),some (.int tn),some (.ref pb),some (.bl true),none,none,none,none]∧Bs c Γ Γ' pr pn [n0,n1,n2,n3,n4,n5,n6,n7,n8]∧Γ' pb=some (.lst []),?_,?_⟩
 ·left
  exact⟨rfl,bs,gb⟩
 intro τ Γ'⟨rfl,bs,gb⟩;let⟨x5,h5,e5⟩:=Hp (c:=c) (i:=5) (by decide);let⟨x9,h9,e9⟩:=Hp (c:=c) (i:=9) (by decide);have m5:=DM x5 (by decide:(3:Int)≠0);have Xi:=E5 x5 (by decide:(0:Int)<3);left;exact⟨λτ Γ'=>∃body ig Bc Bb Ba,τ=[some (.int c),some (.ref pr),some (.ref pn),some aF.tr,some (.str way),some (.str other),some (.int side),some (.tup (gZ.map BB)),some (.tup ((B2 way n0 side).map Sh.tr)),some (.int tn),some (.ref pb),some (.bl ig),Bc,Bb,Ba,none]∧Bs c Γ Γ' pr pn [n0,n1,n2,n3,n4,n5,n6,n7,n8]∧Γ' pb=some (.lst (BI body))∧Fq n0 n1 n2 n3 n4 n5 other way body ig∧body.length≤3,?_,?_⟩
 ·left
  exact BN bs.gr e5 ?_;left;exact⟨_,rfl,by lia,by lia,?_⟩;exact⟨λv4 τ Γ'=>∃(j n:Nat) (body:List Sm) (ig:Bool) (Bc Bb Ba:Option T),v4=Eg j n∧j+n≤3∧body.length=j∧τ=[some (.int c),some (.ref pr),some (.ref pn),some aF.tr,some (.str way),some (.str other),some (.int side),some (.tup (gZ.map BB)),some (.tup ((B2 way n0 side).map Sh.tr)),some (.int tn),some (.ref pb),some (.bl ig),Bc,Bb,Ba,none]∧Bs c Γ Γ' pr pn [n0,n1,n2,n3,n4,n5,n6,n7,n8]∧Γ' pb=some (.lst (BI body))∧Fq n0 n1 n2 n3 n4 n5 other way body ig,Ψ7 0 _ [] true none none none ⟨rfl,by lia,rfl,rfl,bs,by rw[gb,BI],.nil⟩,?_,?_⟩
  ·intro τ Γ'⟨j,n,body,ig,Bc,Bb,Ba,er,jn,bl,rfl,bs,gb,br⟩
   exact⟨trivial,?_⟩;exact Ψ5 body ig Bc Bb Ba ⟨rfl,bs,gb,br,by lia⟩
  intro x r τ Γ'⟨j,n,body,ig,Bc,Bb,Ba,er,jn,bl,rfl,bs,gb,br⟩;let⟨m,rfl,rfl,rfl⟩:=Mn er;let⟨x6,h6,e6⟩:=Hp (c:=c) (i:=6+j) (by lia);left;exact⟨λτ Γ'=>∃s ws pw,τ=[some (.int c),some (.ref pr),some (.ref pn),some aF.tr,some (.str way),some (.str other),some (.int side),some (.tup (gZ.map BB)),some (.tup ((B2 way n0 side).map Sh.tr)),some (.int tn),some (.ref pb),some (.bl ig),some (.int j),some s.tr,some (.ref pw),none]∧Bs c Γ Γ' pr pn [n0,n1,n2,n3,n4,n5,n6,n7,n8]∧Γ' pb=some (.lst (BI body))∧Γ' pw=some (.lst (ws.map T.str))∧CU n0 n1 n2 n3 n4 n5 other s ws,?_,?_⟩
  ·left
   exact Ψ2 pn _ ⟨rfl,bs.gn,λp1 cS=>?_⟩;rw[FE,Ln (by decide)];generalize ea:A9 _ p1 (O.lst _)=G1;have g1:=AZ ea;have l1:=Ab ea cS
   have qX:=bs.mono l1;left;exact BN (i:=6+(j:Int)) qX.gr (by rw[show(6:Int)+j=((6+j:Nat):Int)by lia];exact e6) ?_;left;exact Ψ9 p1 n0 n1 n2 n3 n4 n5 other x6 ⟨rfl,g1,h6,λΓ2 p' s ws l2 g r=>?_⟩;left;exact Ψ3 s ws p' ⟨rfl,qX.mono l2,l2 _ _ (l1 _ _ gb),g,r⟩
  intro τ Γ'⟨s,ws,pw,rfl,bs,gb,gw,sr⟩;left;exact⟨λτ Γ'=>τ=[some (.int c),some (.ref pr),some (.ref pn),some aF.tr,some (.str way),some (.str other),some (.int side),some (.tup (gZ.map BB)),some (.tup ((B2 way n0 side).map Sh.tr)),some (.int tn),some (.ref pb),some (.bl (ig&&decide (way∈ws))),some (.int j),some s.tr,some (.ref pw),none]∧Bs c Γ Γ' pr pn [n0,n1,n2,n3,n4,n5,n6,n7,n8]∧Γ' pb=some (.lst (BI body)),?_,?_⟩
  ·left
   cases ig with
   |false=>
    left;exact⟨rfl,bs,gb⟩
   |true=>
    left;exact aI gw rfl (Om ws) rfl (by rw[FC];exact Yw.mpr λ_ _=>rfl) ?_;rw[IW,BA];exact⟨rfl,bs,gb⟩
  intro τ Γ'⟨rfl,bs,gb⟩;left;exact⟨λτ Γ'=>∃s2,τ=[some (.int c),some (.ref pr),some (.ref pn),some aF.tr,some (.str way),some (.str other),some (.int side),some (.tup (gZ.map BB)),some (.tup ((B2 way n0 side).map Sh.tr)),some (.int tn),some (.ref pb),some (.bl (ig&&decide (way∈ws))),some (.int j),some s2.tr,some (.ref pw),none]∧Bs c Γ Γ' pr pn [n0,n1,n2,n3,n4,n5,n6,n7,n8]∧Γ' pb=some (.lst (BI body))∧Fq n0 n1 n2 n3 n4 n5 other way (body++[s2]) (ig&&decide (way∈ws)),?_,?_⟩
  ·left
   exact BN bs.gr e9 ?_;left;intro p1 cS;generalize ea:A9 _ p1 (O.lst _)=G1;have g1:=AZ ea;have l1:=Ab ea cS
   have qX:=bs.mono l1;left;let⟨y,hy,ey⟩:=menu (ns:=[1,3,9]) (r:=(j:Int)) (by lia) (by simp;lia);have y9:y=1∨y=3∨y=9:=by simpa using hy
   exact BN g1 ey ?_;exact Ψ2 _ _ ⟨rfl,rfl,?_,?_⟩
   ·exact⟨by lia,by lia⟩
   left;exact AW (λcc=>?_) (λcc=>?_)
   ·left
    exact Lc ?_;left;exact⟨.tri [] [s],by rw[Sm.tr,BI,BI,BI];rfl,qX,l1 _ _ gb,.try_ br sr⟩
   ·left
    exact⟨s,rfl,qX,l1 _ _ gb,.one br sr⟩
  intro τ Γ'⟨s2,rfl,bs,gb,Ww⟩;left;exact Lc ?_;left;exact⟨HM gb,?_⟩;left;exact Ψ3 pb _ _ ⟨rfl,rfl,gb,by rw[z9,CS];lia,?_⟩;left;exact Ψ7 (j+1) m (body++[s2]) _ _ _ _ ⟨rfl,by lia,by rw[Br,bl];rfl,rfl,bs.kq (Kq.set (by simp) _) TY TL TR,?_,Ww⟩;rw[B1,KL,KL,Ao];rfl
 intro τ Γ'⟨body,ig,Bc,Bb,Ba,rfl,bs,gb,br,bl⟩;left;exact⟨λτ Γ'=>∃(pd:Addr),τ=[some (.int c),some (.ref pr),some (.ref pn),some aF.tr,some (.str way),some (.str other),some (.int side),some (.tup (gZ.map BB)),some (.tup ((B2 way n0 side).map Sh.tr)),some (.int tn),some (.ref pb),some (.bl ig),Bc,Bb,Ba,some (.ref pd)]∧Bs c Γ Γ' pr pn [n0,n1,n2,n3,n4,n5,n6,n7,n8]∧Γ pd=none∧pr≠pd∧pn≠pd∧Γ' pd=some (.lst [Dr.tr ⟨⟨n6,side,gZ,some aF⟩,body⟩]),?_,?_⟩
 ·left
  exact BN bs.gn (by rfl) ?_;left;exact Ψ2 (.ref pb) _ ⟨rfl,Bk gb,?_⟩;left;intro p1 cS;generalize ea:A9 _ p1 (O.lst _)=G1;have g1:=AZ ea;have l1:=Ab ea cS
  left;exact⟨p1,rfl,bs.mono l1,le_none bs.le cS,EZ bs.gr cS,EZ bs.gn cS,g1⟩
 intro τ Γ'⟨pd,rfl,bs,Q4,Q3,Jp,AE⟩;left;exact⟨λτ Γ'=>∃s1:Int,(s1=0∨s1=1)∧τ=[some (.int c),some (.ref pr),some (.ref pn),some aF.tr,some (.str way),some (.str other),some (.int side),some (.tup (gZ.map BB)),some (.tup ((B2 way n0 side).map Sh.tr)),some (.int tn),some (.ref pb),some (.bl ig),Bc,Bb,Ba,some (.ref pd)]∧Bs c Γ Γ' pr pn [n0,n1,n2,n3,n4,n5,n6,n7,n8]∧Γ' pd=some (.lst [Dr.tr ⟨⟨n6,side,gZ,some aF⟩,body⟩,Dr.tr ⟨⟨n3,s1,[(n7,other,aF)],some aF⟩,[]⟩]),?_,?_⟩
 ·left
  exact⟨HM AE,?_⟩;left;exact BN bs.gn (by rfl) ?_;left;exact BN bs.gr e3 ?_;left;exact BN bs.gn (by rfl) ?_;left;exact Ψ3 pd _ _ ⟨rfl,rfl,AE,by show 1<sizeLine;decide,?_⟩;left;exact⟨x3/4%2,by lia,rfl,bs.kq (Kq.set (by simp) _) Q4 Q3 Jp,by rw[B1];unfold Dr.tr;rw[BI];rfl⟩
 intro τ Γ'⟨s1,Ij,rfl,bs,AE⟩;left;exact⟨λτ Γ'=>∃s2:Int,(s2=0∨s2=1)∧τ=[some (.int c),some (.ref pr),some (.ref pn),some aF.tr,some (.str way),some (.str other),some (.int side),some (.tup (gZ.map BB)),some (.tup ((B2 way n0 side).map Sh.tr)),some (.int tn),some (.ref pb),some (.bl ig),Bc,Bb,Ba,some (.ref pd)]∧Bs c Γ Γ' pr pn [n0,n1,n2,n3,n4,n5,n6,n7,n8]∧Γ' pd=some (.lst ([⟨⟨n6,side,gZ,some aF⟩,body⟩,⟨⟨n3,s1,[(n7,other,aF)],some aF⟩,[]⟩,⟨⟨n4,s2,[],some aF⟩,[]⟩].map Dr.tr)),?_,?_⟩
 ·left
  exact⟨HM AE,?_⟩;left;exact BN bs.gn (by rfl) ?_;left;exact BN bs.gr e3 ?_;left;exact Ψ3 pd _ _ ⟨rfl,rfl,AE,by show 2<sizeLine;decide,?_⟩;left;exact⟨x3/8%2,by lia,rfl,bs.kq (Kq.set (by simp) _) Q4 Q3 Jp,by rw[B1];simp only[BQ,EK];unfold Dr.tr;rw[BI];rfl⟩
 intro τ Γ'⟨s2,qS,rfl,bs,AE⟩;left;exact⟨λτ Γ'=>∃tm:Int,0≤tm∧τ=[some (.int c),some (.ref pr),some (.ref pn),some aF.tr,some (.str way),some (.str other),some (.int side),some (.tup (gZ.map BB)),some (.tup ((B2 way n0 side).map Sh.tr)),some (.int tm),some (.ref pb),some (.bl ig),Bc,Bb,Ba,some (.ref pd)]∧Bs c Γ Γ' pr pn [n0,n1,n2,n3,n4,n5,n6,n7,n8]∧Γ' pd=some (.lst ([⟨⟨n6,side,gZ,some aF⟩,body⟩,⟨⟨n3,s1,[(n7,other,aF)],some aF⟩,[]⟩,⟨⟨n4,s2,[],some aF⟩,[]⟩].map Dr.tr)),?_,?_⟩
 ·left
  exact BN bs.gr e4 ?_;left;exact⟨x4/3%3,by lia,rfl,bs,AE⟩
 intro τ Γ'⟨tm,QP,rfl,bs,AE⟩;left;exact Ψ2 pd _ ⟨rfl,AE,λp1 cS=>?_⟩;rw[FE,J5 QP];generalize ea:A9 _ p1 (O.lst _)=G1;have g1:=AZ ea;have l1:=Ab ea cS
 left;exact Ψ2 pd _ ⟨rfl,l1 _ _ AE,λp2 hU=>?_⟩;rw[FE,Ln QP];generalize eb:A9 _ p2 (O.lst _)=G2;have g2:=AZ eb;have l2:=Ab eb hU
 exact Ψ4 p1 p2 _ _ ⟨rfl,rfl,l2 _ _ g1,g2,by rw[AV,AV,Ff,ET,CS];simp only[D0,List.length_nil];lia,λp3 Ik=>?_⟩;rw[←Ao];generalize ec:A9 _ p3 (O.lst _)=CD;have g3:=AZ ec;have l3:=Ab ec Ik
 left;exact Ψ2 (.ref p3) _ ⟨rfl,Bk g3,?_⟩;left;exact AB (((bs.mono l1).mono l2).mono l3).le (q n0 n1 n2 n3 n4 n5 n6 n7 way w1 other side s1 s2 gZ body ig _ ⟨T9,T6,hw,Uv,ho,UB,Ij,qS,hJ,br,bl,Q7 _ _⟩)
end
section
variable {K: W.Frag}
abbrev Y0:Stmt:=Au 76
theorem pE:Ak ["script","cell","program","due","found"] ["script"] (AX Y0):=⟨rfl,rfl,rfl,by decide +kernel,rfl,by decide +kernel,by decide +kernel⟩
def fW(K:W.Frag):Am:=λts Γ Z _=>∃(a:Addr) (ns:List Int),ts=[.scr K a (ns.map T.int)]∧ns.length≤63∧∀Γ',Z (.bl true) Γ'
theorem ub(F:cP K "law" "law" Y0 f fd)(uO:AU P w K mg am "_law_asked" 3 ["cell"] gv)(tj:AU P w K mg am "is_program" 41 ["thing"] ZY)
  (aG:mg "len" = none) (ah:mg "isinstance" = none) (mS:mg "bool" = none):a8 P w K mg am Ag 42 f fd ["script"] (Af (fW K)):=by
 exact As F pE (λts Γ Z Y h=>?_) (λcn A outer s H E ts Γ Z Y hr h=>?_)
 ·let⟨a,ns,rfl,_⟩:=h
  rfl
 let⟨a,ns,rfl,RI,q⟩:=h;exact⟨_,(A5 (GJ HS rfl (XN (AQ qP (CW (A3 (Av nY rfl aG Bm (A3 (A0 0) A6)) A6)) (A0 0))) (Aa (i:=1) pE.nd) (A5 (EJ (Ae uO hr (A3 (A0 1) A6)) (Be (n:=2) rfl (AL (Aa (i:=2) pE.nd) (AL (Aa (i:=3) pE.nd) Bd))))
  (A5 (Ad (i:=4) pE.nd (Ae tj hr (A3 (A0 2) A6)))
  (A5 (Ah (PW.pt (CQ (B5 (B7 (CR rfl ah rfl mS eF (A0 4)))) (DJ (B0 EI (A0 4) (A0 3))))) (A5 (AH B4)
  A7) A7)
  A7))))
  (A5 (AH B4)
  A7)),?_⟩
 simp only[Ai];left;exact Ψ2 a _ ⟨rfl,?_⟩;rw[AV];left;intro p1 cS;generalize e1:A9 _ p1 (O.lst _)=Γ1;have g1:=AZ e1;have l1:=Ab e1 cS
 left;exact Ψ4 p1 a _ _ ⟨rfl,rfl,g1,CG (CJ (by rw[AV];show 1+_≤_;lia)),?_⟩;intro p2 hU;generalize e2:A9 _ p2 (O.lst _)=Γ2;have g2:=AZ e2;have l2:=Ab e2 hU
 have g2:Γ2 p2=some (.lst (((ns.length:Int)::ns).map T.int)):=g2;generalize ((ns.length:Int)::ns)=cs at *
 exact Ψ2 p2 _ ⟨rfl,Bk g2,?_⟩;exact⟨λv4 τ Γ'=>∃(rs:List Int) (o1 o2 o3 o4:Option T),v4=rs.map T.int∧τ=[some (.scr K a (ns.map T.int)),o1,o2,o3,o4]∧Γ' p2=some (.lst (cs.map T.int)),Ψ5 cs none none none none ⟨rfl,rfl,g2⟩,?_,?_⟩
 ·intro τ Γ'⟨rs,o1,o2,o3,o4,er,rfl,Nn⟩
  exact⟨Bk Nn,?_⟩;left;exact AB .refl (q _)
 ·intro x rr τ Γ'⟨rs,o1,o2,o3,o4,er,rfl,Nn⟩
  cases rs with
  |nil=>cases er
  |cons c rs=>
   cases er;exact⟨Bk Nn,?_⟩;left;exact⟨c,rfl,λn0 n1 n2 n3 n4 n5 n6 n7 way w1 other side s1 s2 gZ body ig ds as=>?_⟩;let⟨eb,k1,k2,k3,k4,k5⟩:=pL as;left;exact Ψ2 ds (B2 way n0 side) ⟨rfl,k1,k2,k3,k4,k5,?_⟩;rw[eb];left;exact E2 (gV (.bl _)) ?_;left;exact Ψ2 (.bl ig) (.bl ig) ⟨rfl,rfl,rfl,?_⟩;left;exact Lh (by rw[CI rfl];rfl) ?_;left;exact Ψ5 rs _ _ _ _ ⟨rfl,rfl,Nn⟩
theorem fV{f1 f2:Addr}{wH wG:FuncData}(F:cP K "is_kind_within" "is_kind_within" NB f fd)(m:mg "is_kind_within" = some (.ref f))(kp:W.keepIn K (.ref f)=true)(b:Binds K fd ["thing","depth"] [])
  (qy:cP K "is_field" "is_field" Md f1 wH) (pY:mg "is_field" = some (.ref f1)) (nN:W.keepIn K (.ref f1)=true) (qu:Binds K wH ["thing","depth"] [])
  (mP:cP K "are_fields" "are_fields" MB f2 wG) (mj:mg "are_fields" = some (.ref f2)) (kK:W.keepIn K (.ref f2)=true) (mI:Binds K wG ["thing","depth"] [])
  (C1:AU P w K mg am "is_whole" 1 ["thing"] Gw) (C2:AU P w K mg am "is_name" 1 ["thing"] He) (dI:mg "WIDEST_NUM" = some v1) (gA:Ca v1 (.int 4)) (dj:mg "MOST_FIELDS" = some v2) (fL:Ca v2 (.int 6)) (ah:mg "isinstance" = none) (aC:mg "tuple" = none) (cE:mg "str" = none) (aG:mg "len" = none) (bc:mg "all" = none) :
  ∀n:Nat,AU P w K mg am "is_kind_within" (3*n+1) ["thing","depth"] (KG n)
 |0=>Ψ2 f fd ⟨Ms λts Γ Z Y h=>by obtain⟨_,d,_,h,_⟩:=h;lia,m,kp,b⟩
 |n+1=>by
  have c:=fV F m kp b qy pY nN qu mP mj kK mI C1 C2 dI gA dj fL ah aC cE aG bc n;have c1:AU P w K mg am "is_field" (3*n+2) ["thing","depth"] (R3 n):=Ψ2 f1 wH ⟨qK qy C2 c ah aC aG,pY,nN,qu⟩;have c2:AU P w K mg am "are_fields" (3*n+3) ["thing","depth"] (XI n):=Ψ2 f2 wG ⟨pJ mP dj fL c1 ah aC aG bc,mj,kK,mI⟩;exact Ψ2 f fd ⟨by rw[show 3*(n+1)+1=3*n+4 by lia];exact sN F dI gA C1 c c2 ah aC cE aG,m,kp,b⟩
end
theorem cU{K:W.Frag}{b:Addr}{od:Option Addr}{it:Array Value}{sl:Array (Option Value)}{xs:List V}(l:K.lookup b=some ⟨.type "tuple",od,.seq it n,sl⟩)(z:it.size≤sizeLine)(v:Vals xs it.toList):dR K b xs:=Ψ3 _ _ _ ⟨l,rfl,rfl,z,v⟩
theorem Gk{P:Program}{w:World}{K:W.Frag}{b4 b5 b6 b7 b8 b9 Nw Nv:Addr}(l:K.lookup a=some ⟨.type "dict",none,.dict es.toArray ep,#[]⟩)(e:oI w es [("new",b0),("copy",b1),("part",b2),("put",b3),("add",b4),("drop",b5),("say",b6),("call",b7),("same",b8),("fail",b9),("try",Nw),("back",Nv)])(hs:(a==sysModules)=false)
  (k0:dR K b0 ([("name" : Str),("kind" : Str),("worth" : Str)].map V.str)) (k1:dR K b1 ([("name" : Str),("name" : Str)].map V.str)) (k2:dR K b2 ([("name" : Str),("name" : Str),("path" : Str)].map V.str)) (k3:dR K b3 ([("name" : Str),("path" : Str),("name" : Str)].map V.str)) (k4:dR K b4 ([("name" : Str),("path" : Str),("name" : Str)].map V.str)) (k5:dR K b5 ([("name" : Str)].map V.str)) (k6:dR K b6 ([("name" : Str)].map V.str)) (k7:dR K b7 ([("name\x20or\x20none" : Str),("name" : Str),("names" : Str)].map V.str)) (k8:dR K b8 ([("name" : Str),("name" : Str),("body" : Str),("body" : Str)].map V.str)) (k9:dR K b9 ([("fail" : Str)].map V.str)) (k10:dR K Nw ([("body" : Str),("body" : Str)].map V.str)) (k11:dR K Nv ([("name" : Str)].map V.str)):JD P w K a:=by
 exact⟨[b0,b1,b2,b3,b4,b5,b6,b7,b8,b9,Nw,Nv],rfl,wg l e (show(["new","copy","part","put","add","drop","say","call","same","fail","try","back"]:List Str).Nodup by decide +kernel) hs,λi z ss b h1 h2=>?_⟩;have hi:i<12:=(YG.mp h1).1;have:i=0∨i=1∨i=2∨i=3∨i=4∨i=5∨i=6∨i=7∨i=8∨i=9∨i=10∨i=11:=by lia
 rcases this with rfl|rfl|rfl|rfl|rfl|rfl|rfl|rfl|rfl|rfl|rfl|rfl<;>(cases h1;cases h2;assumption)
theorem Jb{P:Program}{w:World}{K:W.Frag}(l:K.lookup a=some ⟨.type "dict",none,.dict es.toArray ep,#[]⟩)(e:oI w es [("copy",b0),("give",b1),("lend",b2),("lease",b3)])(hs:(a==sysModules)=false)
  (k0:dR K b0 []) (k1:dR K b1 []) (k2:dR K b2 [.str "give",.str "lease"]) (k3:dR K b3 [.str "give"]):MO P w K a:=Ψ4 b0 b1 b2 b3 ⟨wg l e (show(["copy","give","lend","lease"]:List Str).Nodup by decide +kernel) hs,k0,k1,k2,k3⟩
def NQ(K:W.Frag):DU:=λvs H Q _=>∃(a:Addr) (ns:List Int),vs=[.ref a]∧OD H∧kB K H a (ns.map V.int)∧ns.length≤63∧∀H',Q (.bl true) H'
theorem bB{H:A4}:∀ns:List Int,Rs H (ns.map V.int) (ns.map T.int)
 |[]=>FI
 |n::r=>Et DO (bB r)
theorem yI{K:W.Frag}(vs:List V)(H:A4)(Q:Ac)(E:Ax)(h:NQ K vs H Q E):Af (fW K) vs H Q E:=by
 let⟨a,ns,rfl,hO,hS,RI,q⟩:=h;have sc:EA K H a (ns.map V.int):=by
  rcases hS with(h|⟨o,h⟩)|h
  ·rcases hO a with z|⟨o,xs,z⟩
   ·rw[h]at z;cases z
   ·rw[h]at z;cases z
  ·exact .inl ⟨o,h⟩
  ·exact .inr h
 exact Ψ4 [.scr K a (ns.map T.int)] (λ_=>none) (λx _=>x=.bl true) (λ_ _=>False) ⟨Et (aaD sc (bB ns)) FI,λ_ _ h=>(nomatch h),Ψ2 a ns ⟨rfl,RI,λ_=>rfl⟩,λv x H' Γ' _ _ r z=>?_,λ_ _ _ _ _ z=>z.elim⟩;subst z;rw[G7 r];exact q H'
theorem all_mk{l:W.OpenLaw}{w:World}{K:W.Frag}{h:Heap}{mg:KK}{fa f3 f4 f5 f6 f7 f8 f9 Jy Jx Wm Wl Wk Wj Wi Wh Wg Wf We Wd Wc Wb Wa V9 V8 V7 V6 V5 R5 R4 R1 V4 R0 RZ V3 RY RX RW RV RU RT RQ V2 V1 V0 VZ VY VX:Addr}{g1 g2 g3 g4 g5 g6 g7 g8 g9 Jw P4 VP VO VN VM VL VJ VI VH VG VF VE VD VC VB VA Vz Vy Vx Vw Vv Vu Vt Vs Vr Vq Vp Vo Vn Vm Vl Vk Vj Vi Vh Vg Vf Ve RN:FuncData}(X:K.In h)(G:h.Ns mainGlobals mg)(UY:mg "law" = some (.ref fa))
  (d1:Dg K "is_whole" Sg f1 g1) (d2:Dg K "is_name" SX f2 g2) (d3:Dg K "is_kind" XM f3 g3) (d4:Dg K "is_kind_within" NB f4 g4) (d5:Dg K "are_fields" MB f5 g5) (d6:Dg K "is_field" Md f6 g6) (d7:Dg K "part_kind" T3 f7 g7) (d8:Dg K "step_kind" Tj f8 g8) (d9:Dg K "field_place" Sp f9 g9) (d10:Dg K "is_worth" Mr Jy Jw) (d11:Dg K "is_number" Ye Jx P4) (d12:Dg K "is_text" YA Wm VP) (d13:Dg K "is_sign" XU Wl VO) (d14:Dg K "is_record" OO Wk VN) (d15:Dg K "is_choice" MM Wj VM) (d16:Dg K "is_paper" Yf Wi VL) (d17:Dg K "is_side" Rq Wh VJ) (d18:Dg K "are_places" Pc Wg VI) (d19:Dg K "is_place" X2 Wf VH) (d20:Dg K "has_program_form" VK We VG) (d21:Dg K "is_door" TC Wd VF) (d22:Dg K "is_shelf" Ss Wc VE) (d23:Dg K "is_body" Mi Wb VD) (d24:Dg K "is_statement" OI Wa VC) (d25:Dg K "is_of_sort" N9 V9 VB) (d26:Dg K "is_path" TB V8 VA) (d27:Dg K "is_program" PV V7 Vz) (d28:Dg K "is_good_door" YV V6 Vy) (d29:Dg K "is_good_body" MD V5 Vx) (d30:Dg K "is_good_new" NT R5 Vw) (d31:Dg K "is_good_copy" My R4 Vv) (d32:Dg K "is_good_part" OG R1 Vu) (d33:Dg K "kind_at" XZ V4 Vt) (d34:Dg K "is_good_put" OM R0 Vs) (d35:Dg K "is_good_add" ML RZ Vr) (d36:Dg K "is_good_change" Oi V3 Vq) (d37:Dg K "is_good_drop" OJ RY Vp) (d38:Dg K "is_good_say" Mb RX Vo) (d39:Dg K "is_good_call" NP RW Vn) (d40:Dg K "is_good_same" OE RV Vm) (d41:Dg K "is_good_fail" OA RU Vl) (d42:Dg K "is_good_try" NF RT Vk) (d43:Dg K "is_good_back" Mv RQ Vj) (d44:Dg K "_law_draws" Qy V2 Vi) (d45:Dg K "_law_word" PZ V1 Vh) (d46:Dg K "_law_names" Ou V0 Vg) (d47:Dg K "_law_statement" TA VZ Vf) (d48:Dg K "_law_asked" XH VY Ve) (d49:Dg K "law" Y0 VX RN)
  (zs:Zs K ["len","range","tuple","isinstance","int","bool","str","all","any","zip","enumerate","dict","ord"])
  {u1:Value} (gk1:W.nsIn K mainGlobals "LETTERS" = some (some u1)) (q1:RelV (.str JB) u1)
  {u2:Value} (gk2:W.nsIn K mainGlobals "LONGEST_NAME" = some (some u2)) (q2:RelV (.int 8) u2)
  {u3:Value} (gk3:W.nsIn K mainGlobals "WIDEST_NUM" = some (some u3)) (q3:RelV (.int 4) u3)
  {u4:Value} (gk4:W.nsIn K mainGlobals "MOST_FIELDS" = some (some u4)) (q4:RelV (.int 6) u4)
  {u5:Value} (gk5:W.nsIn K mainGlobals "DEEPEST_KIND" = some (some u5)) (q5:RelV (.int 5) u5)
  {u6:Value} (gk6:W.nsIn K mainGlobals "MOST_ITEMS" = some (some u6)) (q6:RelV (.int 60) u6)
  {u7:Value} (gk7:W.nsIn K mainGlobals "WORD_NUMBERS" = some (some u7)) (q7:RelV (.int 65536) u7)
  {u8:Value} (gk8:W.nsIn K mainGlobals "MOST_SIGNS" = some (some u8)) (q8:RelV (.int 60) u8)
  {u9:Value} (gk9:W.nsIn K mainGlobals "FIRST_SIGN" = some (some u9)) (q9:RelV (.int 32) u9)
  {QM:Value} (gk10:W.nsIn K mainGlobals "LAST_SIGN" = some (some QM)) (q10:RelV (.int 126) QM)
  {QL:Value} (gk11:W.nsIn K mainGlobals "HUNDREDTH_SIGN" = some (some QL)) (q11:RelV (.int 37) QL)
  {QK:Value} (gk12:W.nsIn K mainGlobals "DEEPEST_BODY" = some (some QK)) (q12:RelV (.int 4) QK)
  {QJ:Value} (gk13:W.nsIn K mainGlobals "GREATEST_FAIL" = some (some QJ)) (q13:RelV (.int 999) QJ)
  {oU:Addr} (gcNoPart:W.nsIn K mainGlobals "NoPart" = some (some (.ref oU)))
  {bW:Addr} (gcScope:W.nsIn K mainGlobals "Scope" = some (some (.ref bW)))
  (xNoPart:W.excIn K oU [.type "ValueError",.type "Exception",.type "BaseException",.type "object"] "ValueError.__new__" = true)
  (xm:W.exmOne K (.ref oU) (.ref oU)=some true)
  {w8:Addr} (gSIDES:W.nsIn K mainGlobals "SIDES" = some (some (.ref w8))) {DS:Option Addr} {sH:Array Value} {DT:Nat} {CL:Array (Option Value)} (klSIDES:K.lookup w8=some ⟨.type "tuple",DS,.seq sH DT,CL⟩) (kzSIDES:sH.size≤sizeLine) (kvSIDES:Vals [.int 0,.int 1] sH.toList)
  {B8:Addr} (gWAYS:W.nsIn K mainGlobals "WAYS" = some (some (.ref B8))) {HD:Option Addr} {wm:Array Value} {HF:Nat} {GB:Array (Option Value)} (klWAYS:K.lookup B8=some ⟨.type "tuple",HD,.seq wm HF,GB⟩) (kzWAYS:wm.size≤sizeLine) (kvWAYS:Vals (cL.map V.str) wm.toList)
  {nS:Addr} (gSTATEMENTS:W.nsIn K mainGlobals "STATEMENTS" = some (some (.ref nS))) (h_ST:JD l.prog w K nS)
  {mK:Addr} (gBARRED_WAYS:W.nsIn K mainGlobals "BARRED_WAYS" = some (some (.ref mK))) (h_BW:MO l.prog w K mK)
  {B9:Addr} (gRULES:W.nsIn K mainGlobals "RULES" = some (some (.ref B9))) (k_RULES:yc l.prog w K B9 [("new",R5),("copy",R4),("part",R1),("put",R0),("add",RZ),("drop",RY),("say",RX),("call",RW),("same",RV),("fail",RU),("try",RT),("back",RQ)])
  {RO:Addr} {Vc:FuncData} (dm1:JV K bW "__init__" "Scope.__init__" SQ RO Vc)
  {VU:Addr} {Vb:FuncData} (dm2:JV K bW "knows" "Scope.knows" TM VU Vb)
  {VT:Addr} {Va:FuncData} (dm3:JV K bW "is_own" "Scope.is_own" Y2 VT Va)
  {VS:Addr} {U9:FuncData} (dm4:JV K bW "may_make" "Scope.may_make" X1 VS U9)
  {VQ:Addr} {U8:FuncData} (dm5:JV K bW "may_hand" "Scope.may_hand" P1 VQ U8)
  (pgScope:W.plainGet K bW Str.empty=true) (hdScope:W.hasDictIn K bW=true) (poScope:W.plainOver K bW=true) (saScope:W.findIn K (.ref bW) "__setattr__" = some (some (.builtin "object.__setattr__"))) (mkScope:W.makesIn K bW=true) (keScope:W.keepIn K (.ref bW)=true)
  (naScope_papers:W.findIn K (.ref bW) "papers" = some none)
  (naScope_result:W.findIn K (.ref bW) "result" = some none)
  (naScope_ways:W.findIn K (.ref bW) "ways" = some none)
  (naScope_kinds:W.findIn K (.ref bW) "kinds" = some none)
  :
  ∃fd:FuncData,(∀(s:Shared) (v:Value),BindsTo s fd ⟨[v],[]⟩ [("script",v)])∧∀am:Heap,K.In am→am.Ns mainGlobals mg→a8 l.prog w K mg am Ag 42 fa fd ["script"] (NQ K):=by
 have d1:=d1.df (ps:=["thing"]) X G λ_ _ _ _ _ _=>L3.tH (λ_=>rfl);have d2:=d2.df (ps:=["thing"]) X G λ_ _ _ _ _ _=>L3.tH (λ_=>rfl);have d3:=d3.df (ps:=["thing"]) X G λ_ _ _ _ _ _=>L3.tH (λ_=>rfl);have d4:=d4.df (ps:=["thing","depth"]) X G λ_ _ _ _ _ _=>L3.lL (λ_ _=>rfl);have d5:=d5.df (ps:=["thing","depth"]) X G λ_ _ _ _ _ _=>L3.lL (λ_ _=>rfl);have d6:=d6.df (ps:=["thing","depth"]) X G λ_ _ _ _ _ _=>L3.lL (λ_ _=>rfl);have d7:=d7.df (ps:=["kind","path"]) X G λ_ _ _ _ _ _=>L3.lL (λ_ _=>rfl);have d8:=d8.df (ps:=["kind","step"]) X G λ_ _ _ _ _ _=>L3.lL (λ_ _=>rfl);have d9:=d9.df (ps:=["kind","name"]) X G λ_ _ _ _ _ _=>L3.lL (λ_ _=>rfl);have d10:=d10.df (ps:=["kind","thing"]) X G λ_ _ _ _ _ _=>L3.lL (λ_ _=>rfl);have d11:=d11.df (ps:=["width","thing"]) X G λ_ _ _ _ _ _=>L3.lL (λ_ _=>rfl);have d12:=d12.df (ps:=["thing"]) X G λ_ _ _ _ _ _=>L3.tH (λ_=>rfl);have d13:=d13.df (ps:=["number"]) X G λ_ _ _ _ _ _=>L3.tH (λ_=>rfl);have d14:=d14.df (ps:=["fields","parts"]) X G λ_ _ _ _ _ _=>L3.lL (λ_ _=>rfl);have d15:=d15.df (ps:=["fields","pair"]) X G λ_ _ _ _ _ _=>L3.lL (λ_ _=>rfl);have d16:=d16.df (ps:=["thing"]) X G λ_ _ _ _ _ _=>L3.tH (λ_=>rfl);have d17:=d17.df (ps:=["thing"]) X G λ_ _ _ _ _ _=>L3.tH (λ_=>rfl);have d18:=d18.df (ps:=["thing"]) X G λ_ _ _ _ _ _=>L3.tH (λ_=>rfl);have d19:=d19.df (ps:=["thing"]) X G λ_ _ _ _ _ _=>L3.tH (λ_=>rfl);have d20:=d20.df (ps:=["thing"]) X G λ_ _ _ _ _ _=>L3.tH (λ_=>rfl);have d21:=d21.df (ps:=["thing"]) X G λ_ _ _ _ _ _=>L3.tH (λ_=>rfl);have d22:=d22.df (ps:=["thing"]) X G λ_ _ _ _ _ _=>L3.tH (λ_=>rfl);have d23:=d23.df (ps:=["thing","depth"]) X G λ_ _ _ _ _ _=>L3.lL (λ_ _=>rfl);have d24:=d24.df (ps:=["thing","depth"]) X G λ_ _ _ _ _ _=>L3.lL (λ_ _=>rfl);have d25:=d25.df (ps:=["sort","thing","depth"]) X G λ_ _ _ _ _ _=>L3.JN (λ_ _ _=>rfl);have d26:=d26.df (ps:=["thing"]) X G λ_ _ _ _ _ _=>L3.tH (λ_=>rfl);have d27:=d27.df (ps:=["thing"]) X G λ_ _ _ _ _ _=>L3.tH (λ_=>rfl);have d28:=d28.df (ps:=["papers","shelves","paper","body"]) X G λ_ _ _ _ _ _=>L3.QE (λ_ _ _ _=>rfl);have d29:=d29.df (ps:=["scope","body"]) X G λ_ _ _ _ _ _=>L3.lL (λ_ _=>rfl);have d30:=d30.df (ps:=["scope","statement"]) X G λ_ _ _ _ _ _=>L3.lL (λ_ _=>rfl);have d31:=d31.df (ps:=["scope","statement"]) X G λ_ _ _ _ _ _=>L3.lL (λ_ _=>rfl);have d32:=d32.df (ps:=["scope","statement"]) X G λ_ _ _ _ _ _=>L3.lL (λ_ _=>rfl);have d33:=d33.df (ps:=["kind","path"]) X G λ_ _ _ _ _ _=>L3.lL (λ_ _=>rfl);have d34:=d34.df (ps:=["scope","statement"]) X G λ_ _ _ _ _ _=>L3.lL (λ_ _=>rfl);have d35:=d35.df (ps:=["scope","statement"]) X G λ_ _ _ _ _ _=>L3.lL (λ_ _=>rfl);have d36:=d36.df (ps:=["scope","target","name"]) X G λ_ _ _ _ _ _=>L3.JN (λ_ _ _=>rfl);have d37:=d37.df (ps:=["scope","statement"]) X G λ_ _ _ _ _ _=>L3.lL (λ_ _=>rfl);have d38:=d38.df (ps:=["scope","statement"]) X G λ_ _ _ _ _ _=>L3.lL (λ_ _=>rfl);have d39:=d39.df (ps:=["scope","statement"]) X G λ_ _ _ _ _ _=>L3.lL (λ_ _=>rfl);have d40:=d40.df (ps:=["scope","statement"]) X G λ_ _ _ _ _ _=>L3.lL (λ_ _=>rfl);have d41:=d41.df (ps:=["scope","statement"]) X G λ_ _ _ _ _ _=>L3.lL (λ_ _=>rfl);have d42:=d42.df (ps:=["scope","statement"]) X G λ_ _ _ _ _ _=>L3.lL (λ_ _=>rfl);have d43:=d43.df (ps:=["scope","statement"]) X G λ_ _ _ _ _ _=>L3.lL (λ_ _=>rfl);have d44:=d44.df (ps:=["cell","count"]) X G λ_ _ _ _ _ _=>L3.lL (λ_ _=>rfl);have d45:=d45.df (ps:=["numbers"]) X G λ_ _ _ _ _ _=>L3.tH (λ_=>rfl);have d46:=d46.df (ps:=["row"]) X G λ_ _ _ _ _ _=>L3.tH (λ_=>rfl);have d47:=d47.df (ps:=["names","other","draw"]) X G λ_ _ _ _ _ _=>L3.JN (λ_ _ _=>rfl);have d48:=d48.df (ps:=["cell"]) X G λ_ _ _ _ _ _=>L3.tH (λ_=>rfl);have d49:=d49.df (ps:=["script"]) X G λ_ _ _ _ _ _=>L3.tH (λ_=>rfl);have e:=UY.symm.trans d49.m;cases e;obtain⟨aG,eo,aC,ah,zw,mS,cE,bc,lI,fo,js,vh,zu,_⟩:=zs.m X G;exact⟨RN,λs v=>?_,λam _ _=>?_⟩
 ·let⟨_,_,_,_,_,_,_,_,_,rfl,_⟩:=d49.F.ex
  exact .of_eq rfl
 have ng:=DP X G gk1;have gN:=DP X G gk2;have dI:=DP X G gk3;have dj:=DP X G gk4;have gP:=DP X G gk5;have cv:=DP X G gk6;have gM:=DP X G gk7;have iX:=DP X G gk8;have iY:=DP X G gk9;have jK:=DP X G gk10;have fC:=DP X G gk11;have cZ:=DP X G gk12;have cJ:=DP X G gk13;have ee:=DP X G gcNoPart;have sD:=DP X G gcScope;have SD:=dm1.F;have WB:=SD.binds (ps:=["self","papers","paper","around"]) λ_ _ _ _ _ _=>L3.QE (λ_ _ _ _=>rfl);have Xh:=dm1.t;have SA:=dm2.F;have WA:=SA.binds (ps:=["self","name"]) λ_ _ _ _ _ _=>L3.lL (λ_ _=>rfl);have Uk:=dm2.t;have Sz:=dm3.F;have Wz:=Sz.binds (ps:=["self","name"]) λ_ _ _ _ _ _=>L3.lL (λ_ _=>rfl);have Uj:=dm3.t;have Sy:=dm4.F;have Wy:=Sy.binds (ps:=["self","name","kind"]) λ_ _ _ _ _ _=>L3.JN (λ_ _ _=>rfl);have Ui:=dm4.t;have Sw:=dm5.F;have Wx:=Sw.binds (ps:=["self","name","place"]) λ_ _ _ _ _ _=>L3.JN (λ_ _ _=>rfl);have Uh:=dm5.t;have aw:nD K bW:=⟨pgScope,hdScope,poScope,saScope⟩;have Bg:Mp K bW RO:=⟨mkScope,dm1.t.1,dm1.t.2,keScope⟩;have bD:bw K bW "papers" := naScope_papers;have bC:bw K bW "result" := naScope_result;have bF:bw K bW "ways" := naScope_ways;have av:bw K bW "kinds" := naScope_kinds;have sE:=DP X G gSIDES;have sG:dR K w8 [.int 0,.int 1]:=Ψ3 _ _ _ ⟨klSIDES,rfl,rfl,kzSIDES,kvSIDES⟩;have wc:=DP X G gWAYS;have wj:dR K B8 (cL.map V.str):=Ψ3 _ _ _ ⟨klWAYS,rfl,rfl,kzWAYS,kvWAYS⟩;have dJ:=DP X G gSTATEMENTS;have iA:=DP X G gBARRED_WAYS;have km:=DP X G gRULES;have WQ:=d44.cl (qF (P:=l.prog) (w:=w) (am:=am) d44.F eo);have C1:=d1.cl (sS (P:=l.prog) (w:=w) (am:=am) d1.F ah zw mS);have C2:=d2.cl (lY (P:=l.prog) (w:=w) (am:=am) d2.F gN (gl_int q2) ng (gl_str q1) ah cE aG bc);have SG:=d17.cl (wB (P:=l.prog) (w:=w) (am:=am) d17.F C1 sE sG);have WO:=d45.cl (sW (P:=l.prog) (w:=w) (am:=am) d45.F);have WN:=d46.cl (aax (P:=l.prog) (w:=w) (am:=am) d46.F WO aG eo);have W5:=d13.cl (oX (P:=l.prog) (w:=w) (am:=am) d13.F iY (gl_int q9) jK (gl_int q10) fC (gl_int q11));have W7:=d11.cl (zK (P:=l.prog) (w:=w) (am:=am) d11.F C1 gM (gl_int q7) eo);have W6:=d12.cl (ow (P:=l.prog) (w:=w) (am:=am) d12.F W5 iX (gl_int q8) ah cE aG bc zu);have C9:=d9.cx (lu (P:=l.prog) (w:=w) (am:=am) d9.F ee xNoPart js);have C8:=d8.cx (zy (P:=l.prog) (w:=w) (am:=am) d8.F C1 C9 ee xNoPart cv (gl_int q6));have C7:=d7.cx (xS (P:=l.prog) (w:=w) (am:=am) d7.F C8);have WS:=d33.cl (aaE (P:=l.prog) (w:=w) (am:=am) d33.F C7 ee xm);have WW:=d26.cl (xb (P:=l.prog) (w:=w) (am:=am) d26.F C1 ah aC cE bc);have SH:=gG (P:=l.prog) (w:=w) (am:=am) d10.F d10.m d10.k d10.b d14.F d14.m d14.k d14.b d15.F d15.m d15.k d15.b W7 W6 cv (gl_int q6) ah aC aG bc lI fo cE 6;have Qx:CZ l.prog w K mg am bW "knows" _ _ _:=Ψ2 _ _ ⟨tR SA aw av,aw,Uk,WA⟩;have SF:CZ l.prog w K mg am bW "is_own" _ _ _:=Ψ2 _ _ ⟨wI Sz aw bF,aw,Uj,Wz⟩;have WJ:CZ l.prog w K mg am bW "may_make" _ _ _:=Ψ2 _ _ ⟨yq Sy aw av SF,aw,Ui,Wy⟩;have WI:CZ l.prog w K mg am bW "may_hand" _ _ _:=Ψ2 _ _ ⟨mw Sw aw av bF Qx iA h_BW,aw,Uh,Wx⟩;have WK:Tf l.prog w K mg am bW _ _ _:=Ψ2 _ _ ⟨uS SD aw bD bC bF av vh,Bg,WB⟩;have WR:=d36.cl (yL (P:=l.prog) (w:=w) (am:=am) d36.F aw bF Qx);have WT:=fw (P:=l.prog) (w:=w) (am:=am) d29.F d29.m d29.k d29.b d30.F d30.k d30.b d31.F d31.k d31.b d32.F d32.k d32.b d34.F d34.k d34.b d35.F d35.k d35.b d37.F d37.k d37.b d38.F d38.k d38.b d39.F d39.k d39.b d40.F d40.k d40.b d41.F d41.k d41.b d42.F d42.k d42.b d43.F d43.k d43.b k_RULES km aw av bD bC Qx SF WJ WI WS WR aG bc fo 5;have WU:=d28.cl (nj (P:=l.prog) (w:=w) (am:=am) d28.F sD WK WT lI);have WM:=d47.cl (sf (P:=l.prog) (w:=w) (am:=am) d47.F);have WL:=d48.cl (kE (P:=l.prog) (w:=w) (am:=am) d48.F WQ WN WM aG aC eo);have C4:=fV (P:=l.prog) (w:=w) (am:=am) d4.F d4.m d4.k d4.b d6.F d6.m d6.k d6.b d5.F d5.m d5.k d5.b C1 C2 dI (gl_int q3) dj (gl_int q4) ah aC cE aG bc 6;have BV:=d3.cl (vL (P:=l.prog) (w:=w) (am:=am) d3.F gP (gl_int q5) C4);have W2:=d19.cl (iF (P:=l.prog) (w:=w) (am:=am) d19.F C2 BV wc wj ah aC cE aG);have W3:=d18.cl (aar (P:=l.prog) (w:=w) (am:=am) d18.F W2 ah aC aG bc);have W4:=d16.cl (aai (P:=l.prog) (w:=w) (am:=am) d16.F C2 SG W3 BV ah aC aG);have WX:=Ze (P:=l.prog) (w:=w) (am:=am) d23.F d23.m d23.k d23.b d24.F d24.m d24.k d24.b d25.F d25.m d25.k d25.b C2 WW BV C1 SH cJ (gl_int q13) cZ (gl_int q12) dJ h_ST ah aC cE aG bc fo 6;have WZ:=d21.cl (vE (P:=l.prog) (w:=w) (am:=am) d21.F W4 WX ah aC aG);have WY:=d22.cl (xh (P:=l.prog) (w:=w) (am:=am) d22.F C2 SG BV SH ah aC aG);have W0:=d20.cl (kG (P:=l.prog) (w:=w) (am:=am) d20.F WZ WY ah aC aG bc);have WV:=d27.cl (ly (P:=l.prog) (w:=w) (am:=am) d27.F W0 WU aG bc);exact(ub d49.F WL WV aG ah mS).imp yI
theorem walk{l:W.OpenLaw}{q:Program}{loose:List Str}{XP:(KK)→Heap→Prop}{YP:World→Heap→Prop}{d:DefRec}{K:Params→W.Frag}(hn:l.most=some 63)(L0:d.params.defaults=[])
  (hY:∀(w:World) (h:Heap),YP w h→(K w.params).In h)
  (F:∀(w:World) (mg:KK) (fa:Addr) (h:Heap),(K w.params).In h→h.Ns mainGlobals mg→mg d.name=some (.ref fa)→
   ∃fd:FuncData,(∀(s:Shared) (u:Value),BindsTo s fd ⟨[u],[]⟩ [("script",u)])∧∀am:Heap,(K w.params).In am→am.Ns mainGlobals mg→a8 l.prog w (K w.params) mg am Ag 42 fa fd ["script"] (NQ (K w.params))) :
  W.WalkO q loose XP YP l.row.toRowW d [] (λf vs=>PySem.call f vs):=
 L2.Cs (n:=63) (k:=42) (x := "script") (CX:=λ_=>Ag) (sp:=λw=>NQ (K w.params)) hn (by decide) L0 ⟨rfl,by decide,by decide⟩ hY F (λ_ _ a ns hl hO hS=>Ψ2 a ns ⟨rfl,hO,hS,hl,λ_=>rfl⟩) λ_ _ _ _ _ z=>z
end Tg
open PySem PySem.W PyProof.Rows
def PySem.W.Fast.tw6206987754807474712:Unit:=()
def PySem.W.Fast.tw4890113168535257908:Unit:=()
def PySem.W.Fast.tw7076811955300679821:Unit:=()
def PySem.W.Fast.tw1525511247903109388:Unit:=()
def PySem.W.Fast.tw7421196080437913090:Unit:=()
def PySem.W.Fast.tw8790956608891572977:Unit:=()
def PySem.W.Fast.tw12090212206260841372:Unit:=()
def PySem.W.Fast.tw9503533644691694102:Unit:=()
def PySem.W.Fast.tw2342788940407524042:Unit:=()
def PySem.W.Fast.tw16586676749559837906:Unit:=()
def PySem.W.Fast.tw13872372251229987484:Unit:=()
def PySem.W.Fast.tw11858191118488375474:Unit:=()
def PySem.W.Fast.tw14690736648616761631:Unit:=()
def PySem.W.Fast.tw10521255177561985639:Unit:=()
def PySem.W.Fast.tw17118834334089002259:Unit:=()
def PySem.W.Fast.tw10073379797737567230:Unit:=()
def PySem.W.Fast.tw9068819273970307321:Unit:=()
def PySem.W.Fast.tw14273192195961712035:Unit:=()
def PySem.W.Fast.tw5285375180369421109:Unit:=()
def PySem.W.Fast.tw1874143431277071105:Unit:=()
def PySem.W.Fast.tw3773636471165200537:Unit:=()
def PySem.W.Fast.tw2405874695349760443:Unit:=()
def PySem.W.Fast.tw1711884777783485726:Unit:=()
def PySem.W.Fast.tw13505072469693044222:Unit:=()
def PySem.W.Fast.tw16313973324532439589:Unit:=()
def PySem.W.Fast.tw9697612468707705811:Unit:=()
def PySem.W.Fast.tw8913662696646808875:Unit:=()
def PySem.W.Fast.tw1313914328925855259:Unit:=()
def PySem.W.Fast.tw16849579183060764653:Unit:=()
def PySem.W.Fast.tw8022965927415311582:Unit:=()
def PySem.W.Fast.tw4533287898947062859:Unit:=()
def PySem.W.Fast.tw12876262392781537650:Unit:=()
def PySem.W.Fast.tw5383833027776501671:Unit:=()
def PySem.W.Fast.tw17832275348183095287:Unit:=()
def PySem.W.Fast.tw4936846826383576290:Unit:=()
def PySem.W.Fast.tw8453167552933646540:Unit:=()
def PySem.W.Fast.tw14770057898642668595:Unit:=()
def PySem.W.Fast.tw8478942690768427681:Unit:=()
def PySem.W.Fast.tw11663304676197466132:Unit:=()
def PySem.W.Fast.tw16317128088162141169:Unit:=()
def PySem.W.Fast.tw873927264186002904:Unit:=()
def PySem.W.Fast.tw12759257371755381968:Unit:=()
def PySem.W.Fast.tw8009669302141234422:Unit:=()
def PySem.W.Fast.tw12994981562240897930:Unit:=()
def PySem.W.Fast.tw9740634360329652716:Unit:=()
def PySem.W.Fast.tw10817204624597102688:Unit:=()
def PySem.W.Fast.tw7787669907977067885:Unit:=()
def PySem.W.Fast.tw1302672022916729420:Unit:=()
def PySem.W.Fast.tw13692943090874343684:Unit:=()
def PySem.W.Fast.tw15851272864352025352:Unit:=()
def PySem.W.Fast.tw15524839823630807920:Unit:=()
def PySem.W.Fast.tw3310460999829302968:Unit:=()
def PySem.W.Fast.tw6660546670062038786:Unit:=()
def PySem.W.Fast.tw18322701061942359732:Unit:=()
def PySem.W.Fast.tw502637285627440380:Unit:=()
def PySem.W.Fast.tw12892290186984380001:Unit:=()
def PySem.W.Fast.tw16642025902910732588:Unit:=()
def PySem.W.Fast.tw7256172545314706790:Unit:=()
def PySem.W.Fast.tw16708437666653085559:Unit:=()
def PySem.W.Fast.tw6658551491688308429:Unit:=()
def PySem.W.Fast.tw6317841081883542101:Unit:=()
def PySem.W.Fast.tw16008876711808227971:Unit:=()
def PySem.W.Fast.tw2707240956215132702:Unit:=()
def PySem.W.Fast.tw16586338794258234780:Unit:=()
def PySem.W.Fast.tw810993461924891130:Unit:=()
def PySem.W.Fast.tw8202668684750575301:Unit:=()
def PySem.W.Fast.tw8710044704946052815:Unit:=()
def PySem.W.Fast.tw4106118458666272611:Unit:=()
def PySem.W.Fast.tw12631536644802068308:Unit:=()
def PySem.W.Fast.tw9676491178119050860:Unit:=()
def PySem.W.Fast.tw12447668871001105080:Unit:=()
def PySem.W.Fast.tw2395208553781335769:Unit:=()
def PySem.W.Fast.tw7688533932021020318:Unit:=()
def PySem.W.Fast.tw12499879397179586845:Unit:=()
def PySem.W.Fast.tw15966844743753300195:Unit:=()
def PySem.W.Fast.tw280032131987544997:Unit:=()
def PySem.W.Fast.tw5043240059097248601:Unit:=()
def PySem.W.Fast.tw2763419148642702179:Unit:=()
def PySem.W.Fast.tw11907725495988367709:Unit:=()
def PySem.W.Fast.tw6514874501181102785:Unit:=()
def PySem.W.Fast.tw1771244488600285116:Unit:=()
def PySem.W.Fast.tw1756218472884202967:Unit:=()
def PySem.W.Fast.tw17276257272717582974:Unit:=()
def PySem.W.Fast.tw16437644965545214079:Unit:=()
def PySem.W.Fast.tw275981929525730374:Unit:=()
def PySem.W.Fast.tw5770542943892884053:Unit:=()
def PySem.W.Fast.tw11872348105920969366:Unit:=()
def PySem.W.Fast.tw16858365326767720337:Unit:=()
def PySem.W.Fast.tw7852866310085376851:Unit:=()
def PySem.W.Fast.tw13435805838892112265:Unit:=()
def PySem.W.Fast.tw15176749497240789789:Unit:=()
def PySem.W.Fast.tw4030878658882019244:Unit:=()
def PySem.W.Fast.tw16891536498438686515:Unit:=()
def PySem.W.Fast.tw9036545723792184257:Unit:=()
def PySem.W.Fast.tw1565406861103610191:Unit:=()
def PySem.W.Fast.tw985493949639264833:Unit:=()
def PySem.W.Fast.tw7604310451093807397:Unit:=()
def PySem.W.Fast.tw8483595596724378439:Unit:=()
def PySem.W.Fast.tw2785798793264647305:Unit:=()
def PySem.W.Fast.tw14854019531453726985:Unit:=()
def PySem.W.Fast.tw15036977703922874249:Unit:=()
def PySem.W.Fast.tw11372629265309578634:Unit:=()
def PySem.W.Fast.tw7075948982457330058:Unit:=()
def PySem.W.Fast.tw6088436879805852683:Unit:=()
def PySem.W.Fast.tw7709917236504084235:Unit:=()
def PySem.W.Fast.tw7352632790243431373:Unit:=()
def PySem.W.Fast.tw7347688232794888462:Unit:=()
def PySem.W.Fast.tw9690907643673421198:Unit:=()
def PySem.W.Fast.tw14274978270533259088:Unit:=()
def PySem.W.Fast.tw12865107261677383569:Unit:=()
def PySem.W.Fast.tw7868721792652060019:Unit:=()
def PySem.W.Fast.tw7144922872044813845:Unit:=()
def PySem.W.Fast.tw12117301646849606678:Unit:=()
def PySem.W.Fast.tw12922659956843409079:Unit:=()
def PySem.W.Fast.tw5959963905534589784:Unit:=()
def PySem.W.Fast.tw5016654235281421244:Unit:=()
def PySem.W.Fast.tw2919911505978993759:Unit:=()
def PySem.W.Fast.tw4373427769209423359:Unit:=()
def PySem.W.Fast.tw3557499557695114685:Unit:=()
set_option maxRecDepth 100000 in
set_option maxHeartbeats 0 in
theorem PySem.Challenge.cw_tonguegate_k37_lent_and_leased_holds : PySem.Challenge.rw_tonguegate_k37_lent_and_leased.Holds := by
 w_on;o_law;k_head;(case hw=>w_witness2)
 k_fill
 exact Tg.walk (l:=PySem.Challenge.rw_tonguegate_k37_lent_and_leased) rfl rfl (λw h Y=>PySem.W.kIn_of Y) ?F
 case F=>
  intro w mg fa h KX G LU;refine' Tg.all_mk KX G LU ?d1 ?d2 ?d3 ?d4 ?d5 ?d6 ?d7 ?d8 ?d9 ?d10 ?d11 ?d12 ?d13 ?d14 ?d15 ?d16 ?d17 ?d18 ?d19 ?d20 ?d21 ?d22 ?d23 ?d24 ?d25 ?d26 ?d27 ?d28 ?d29 ?d30 ?d31 ?d32 ?d33 ?d34 ?d35 ?d36 ?d37 ?d38 ?d39 ?d40 ?d41 ?d42 ?d43 ?d44 ?d45 ?d46 ?d47 ?d48 ?d49 ?zs ?gk1 ?q1 ?gk2 ?q2 ?gk3 ?q3 ?gk4 ?q4 ?gk5 ?q5 ?gk6 ?q6 ?gk7 ?q7 ?gk8 ?q8 ?gk9 ?q9 ?gk10 ?q10 ?gk11 ?q11 ?gk12 ?q12 ?gk13 ?q13 ?gcNoPart ?gcScope ?xNoPart ?xm ?gSIDES ?klSIDES ?kzSIDES ?kvSIDES ?gWAYS ?klWAYS ?kzWAYS ?kvWAYS  ?gSTATEMENTS ?h_ST ?gBARRED_WAYS ?h_BW ?gRULES ?k_RULES ?dm1 ?dm2 ?dm3 ?dm4 ?dm5 ?pgScope ?hdScope ?poScope ?saScope ?mkScope ?keScope ?naScope_papers ?naScope_result ?naScope_ways ?naScope_kinds
  (case d1|d2|d3|d4|d5|d6|d7|d8|d9|d10|d11|d12|d13|d14|d15|d16|d17|d18|d19|d20|d21|d22|d23|d24|d25|d26|d27|d28|d29|d30|d31|d32|d33|d34|d35|d36|d37|d38|d39|d40|d41|d42|d43|d44|d45|d46|d47|d48|d49=>refine' L3.dg ?a ?l ?c ?k;(case a|l|c|k=>k_is))
  (case zs=>(iterate 13 (exact L3.zc ?_ ?_;k_is));exact trivial)
  (case gk1=>k_is);(case q1=>exact⟨_,rfl⟩)
  (case gk2=>k_is);(case q2=>exact⟨_,rfl⟩)
  (case gk3=>k_is);(case q3=>exact⟨_,rfl⟩)
  (case gk4=>k_is);(case q4=>exact⟨_,rfl⟩)
  (case gk5=>k_is);(case q5=>exact⟨_,rfl⟩)
  (case gk6=>k_is);(case q6=>exact⟨_,rfl⟩)
  (case gk7=>k_is);(case q7=>exact⟨_,rfl⟩)
  (case gk8=>k_is);(case q8=>exact⟨_,rfl⟩)
  (case gk9=>k_is);(case q9=>exact⟨_,rfl⟩)
  (case gk10=>k_is);(case q10=>exact⟨_,rfl⟩)
  (case gk11=>k_is);(case q11=>exact⟨_,rfl⟩)
  (case gk12=>k_is);(case q12=>exact⟨_,rfl⟩)
  (case gk13=>k_is);(case q13=>exact⟨_,rfl⟩)
  (case gcNoPart|gcScope=>k_is)
  (case xNoPart=>k_exc)
  (case xm=>kts_exm)
  (case gSIDES=>k_is);(case klSIDES=>k_is);(case kzSIDES=>decide);(case kvSIDES=>exact(.cons ⟨_,rfl⟩ (.cons ⟨_,rfl⟩ .nil)))
  (case gWAYS=>k_is);(case klWAYS=>k_is);(case kzWAYS=>decide);(case kvWAYS=>exact(.cons ⟨_,rfl⟩ (.cons ⟨_,rfl⟩ (.cons ⟨_,rfl⟩ (.cons ⟨_,rfl⟩ .nil)))))
  (case gSTATEMENTS=>k_is);(case h_ST=>(refine' Tg.Gk ?l ?e ?s ?k0 ?k1 ?k2 ?k3 ?k4 ?k5 ?k6 ?k7 ?k8 ?k9 ?k10 ?k11;(case l=>k_is);(case e=>exact(.cons rfl (.cons rfl (.cons rfl (.cons rfl (.cons rfl (.cons rfl (.cons rfl (.cons rfl (.cons rfl (.cons rfl (.cons rfl (.cons rfl .nil)))))))))))));(case s=>rfl);(case k0=>refine' Tg.cU ?l ?z ?v;(case l=>k_is);(case z=>decide);(case v=>exact(.cons ⟨_,rfl⟩ (.cons ⟨_,rfl⟩ (.cons ⟨_,rfl⟩ .nil)))));(case k1=>refine' Tg.cU ?l ?z ?v;(case l=>k_is);(case z=>decide);(case v=>exact(.cons ⟨_,rfl⟩ (.cons ⟨_,rfl⟩ .nil))));(case k2=>refine' Tg.cU ?l ?z ?v;(case l=>k_is);(case z=>decide);(case v=>exact(.cons ⟨_,rfl⟩ (.cons ⟨_,rfl⟩ (.cons ⟨_,rfl⟩ .nil)))));(case k3=>refine' Tg.cU ?l ?z ?v;(case l=>k_is);(case z=>decide);(case v=>exact(.cons ⟨_,rfl⟩ (.cons ⟨_,rfl⟩ (.cons ⟨_,rfl⟩ .nil)))));(case k4=>refine' Tg.cU ?l ?z ?v;(case l=>k_is);(case z=>decide);(case v=>exact(.cons ⟨_,rfl⟩ (.cons ⟨_,rfl⟩ (.cons ⟨_,rfl⟩ .nil)))));(case k5=>refine' Tg.cU ?l ?z ?v;(case l=>k_is);(case z=>decide);(case v=>exact(.cons ⟨_,rfl⟩ .nil)));(case k6=>refine' Tg.cU ?l ?z ?v;(case l=>k_is);(case z=>decide);(case v=>exact(.cons ⟨_,rfl⟩ .nil)));(case k7=>refine' Tg.cU ?l ?z ?v;(case l=>k_is);(case z=>decide);(case v=>exact(.cons ⟨_,rfl⟩ (.cons ⟨_,rfl⟩ (.cons ⟨_,rfl⟩ .nil)))));(case k8=>refine' Tg.cU ?l ?z ?v;(case l=>k_is);(case z=>decide);(case v=>exact(.cons ⟨_,rfl⟩ (.cons ⟨_,rfl⟩ (.cons ⟨_,rfl⟩ (.cons ⟨_,rfl⟩ .nil))))));(case k9=>refine' Tg.cU ?l ?z ?v;(case l=>k_is);(case z=>decide);(case v=>exact(.cons ⟨_,rfl⟩ .nil)));(case k10=>refine' Tg.cU ?l ?z ?v;(case l=>k_is);(case z=>decide);(case v=>exact(.cons ⟨_,rfl⟩ (.cons ⟨_,rfl⟩ .nil))));(case k11=>refine' Tg.cU ?l ?z ?v;(case l=>k_is);(case z=>decide);(case v=>exact(.cons ⟨_,rfl⟩ .nil)))))
  (case gBARRED_WAYS=>k_is);(case h_BW=>(refine' Tg.Jb ?l ?e ?s ?k0 ?k1 ?k2 ?k3;(case l=>k_is);(case e=>exact(.cons rfl (.cons rfl (.cons rfl (.cons rfl .nil)))));(case s=>rfl);(case k0=>refine' Tg.cU ?l ?z ?v;(case l=>k_is);(case z=>decide);(case v=>exact .nil));(case k1=>refine' Tg.cU ?l ?z ?v;(case l=>k_is);(case z=>decide);(case v=>exact .nil));(case k2=>refine' Tg.cU ?l ?z ?v;(case l=>k_is);(case z=>decide);(case v=>exact(.cons ⟨_,rfl⟩ (.cons ⟨_,rfl⟩ .nil))));(case k3=>refine' Tg.cU ?l ?z ?v;(case l=>k_is);(case z=>decide);(case v=>exact(.cons ⟨_,rfl⟩ .nil)))))
  (case gRULES=>k_is);(case k_RULES=>(refine' L2.wg ?l ?e ?n ?s;(case l=>k_is);(case e=>exact(.cons rfl (.cons rfl (.cons rfl (.cons rfl (.cons rfl (.cons rfl (.cons rfl (.cons rfl (.cons rfl (.cons rfl (.cons rfl (.cons rfl .nil)))))))))))));(case n=>decide +kernel);(case s=>rfl)))
  (case dm1|dm2|dm3|dm4|dm5=>refine' L3.dm ?a ?l ?c ?k ?i;(case a|l|c|k|i=>k_is))
  (case pgScope=>k_is);(case hdScope=>k_is);(case poScope=>k_is);(case saScope=>k_is);(case mkScope=>k_is);(case keScope=>k_is)
  (case naScope_papers=>k_is)
  (case naScope_result=>k_is)
  (case naScope_ways=>k_is)
  (case naScope_kinds=>k_is)

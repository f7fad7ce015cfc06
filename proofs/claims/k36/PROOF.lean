import PyProof.Rows.All
import Wide.All
import OpenK.AllK
import Wide.FinOn
import Lean
import PyProof.EqAt
import PyProof.EqKinds
import PyProof.TupleCall
import PySem.Challenge.RW_tonguegate_k36_names_made_ahead
section
variable{r:Prop}{α β γ δ ε η ι κ μ:Type}
section
variable{A B C D E F G H I J:Prop}
theorem Ξ02(h:A∧B)(k:A→B→r):r:=k h.1 h.2
theorem Ξ03(h:A∧B∧C)(k:A→B→C→r):r:=k h.1 h.2.1 h.2.2
theorem Ξ04(h:A∧B∧C∧D)(k:A→B→C→D→r):r:=k h.1 h.2.1 h.2.2.1 h.2.2.2
theorem Ξ05(h:A∧B∧C∧D∧E)(k:A→B→C→D→E→r):r:=k h.1 h.2.1 h.2.2.1 h.2.2.2.1 h.2.2.2.2
theorem Ξ06(h:A∧B∧C∧D∧E∧F)(k:A→B→C→D→E→F→r):r:=k h.1 h.2.1 h.2.2.1 h.2.2.2.1 h.2.2.2.2.1 h.2.2.2.2.2
theorem Ξ07(h:A∧B∧C∧D∧E∧F∧G)(k:A→B→C→D→E→F→G→r):r:=k h.1 h.2.1 h.2.2.1 h.2.2.2.1 h.2.2.2.2.1 h.2.2.2.2.2.1 h.2.2.2.2.2.2
theorem Ξ08(h:A∧B∧C∧D∧E∧F∧G∧H)(k:A→B→C→D→E→F→G→H→r):r:=k h.1 h.2.1 h.2.2.1 h.2.2.2.1 h.2.2.2.2.1 h.2.2.2.2.2.1 h.2.2.2.2.2.2.1 h.2.2.2.2.2.2.2
theorem Ξ010(h:A∧B∧C∧D∧E∧F∧G∧H∧I∧J)(k:A→B→C→D→E→F→G→H→I→J→r):r:=k h.1 h.2.1 h.2.2.1 h.2.2.2.1 h.2.2.2.2.1 h.2.2.2.2.2.1 h.2.2.2.2.2.2.1 h.2.2.2.2.2.2.2.1 h.2.2.2.2.2.2.2.2.1 h.2.2.2.2.2.2.2.2.2
end
section
variable{A B C D E:α→Prop}
theorem Ξ11(h:∃x,A x)(k:∀x,A x→r):r:=h.elim k
theorem Ξ12(h:∃x,A x∧B x)(k:∀x,A x→B x→r):r:=Ξ11 h λx h=>Ξ02 h (k x)
theorem Ξ13(h:∃x,A x∧B x∧C x)(k:∀x,A x→B x→C x→r):r:=Ξ11 h λx h=>Ξ03 h (k x)
theorem Ξ14(h:∃x,A x∧B x∧C x∧D x)(k:∀x,A x→B x→C x→D x→r):r:=Ξ11 h λx h=>Ξ04 h (k x)
theorem Ξ15(h:∃x,A x∧B x∧C x∧D x∧E x)(k:∀x,A x→B x→C x→D x→E x→r):r:=Ξ11 h λx h=>Ξ05 h (k x)
end
section
variable{A B C D E F:α→β→Prop}
theorem Ξ21(h:∃x y,A x y)(k:∀x y,A x y→r):r:=h.elim λx h=>Ξ11 h (k x)
theorem Ξ22(h:∃x y,A x y∧B x y)(k:∀x y,A x y→B x y→r):r:=Ξ21 h λx y h=>Ξ02 h (k x y)
theorem Ξ23(h:∃x y,A x y∧B x y∧C x y)(k:∀x y,A x y→B x y→C x y→r):r:=Ξ21 h λx y h=>Ξ03 h (k x y)
theorem Ξ24(h:∃x y,A x y∧B x y∧C x y∧D x y)(k:∀x y,A x y→B x y→C x y→D x y→r):r:=Ξ21 h λx y h=>Ξ04 h (k x y)
theorem Ξ25(h:∃x y,A x y∧B x y∧C x y∧D x y∧E x y)(k:∀x y,A x y→B x y→C x y→D x y→E x y→r):r:=Ξ21 h λx y h=>Ξ05 h (k x y)
theorem Ξ26(h:∃x y,A x y∧B x y∧C x y∧D x y∧E x y∧F x y)(k:∀x y,A x y→B x y→C x y→D x y→E x y→F x y→r):r:=Ξ21 h λx y h=>Ξ06 h (k x y)
end
section
variable{A B C D E F G H I J:α→β→γ→Prop}
theorem Ξ31(h:∃x y z,A x y z)(k:∀x y z,A x y z→r):r:=h.elim λx h=>Ξ21 h (k x)
theorem Ξ32(h:∃x y z,A x y z∧B x y z)(k:∀x y z,A x y z→B x y z→r):r:=Ξ31 h λx y z h=>Ξ02 h (k x y z)
theorem Ξ33(h:∃x y z,A x y z∧B x y z∧C x y z)(k:∀x y z,A x y z→B x y z→C x y z→r):r:=Ξ31 h λx y z h=>Ξ03 h (k x y z)
theorem Ξ34(h:∃x y z,A x y z∧B x y z∧C x y z∧D x y z)(k:∀x y z,A x y z→B x y z→C x y z→D x y z→r):r:=Ξ31 h λx y z h=>Ξ04 h (k x y z)
theorem Ξ35(h:∃x y z,A x y z∧B x y z∧C x y z∧D x y z∧E x y z)(k:∀x y z,A x y z→B x y z→C x y z→D x y z→E x y z→r):r:=Ξ31 h λx y z h=>Ξ05 h (k x y z)
theorem Ξ36(h:∃x y z,A x y z∧B x y z∧C x y z∧D x y z∧E x y z∧F x y z)(k:∀x y z,A x y z→B x y z→C x y z→D x y z→E x y z→F x y z→r):r:=Ξ31 h λx y z h=>Ξ06 h (k x y z)
theorem Ξ38(h:∃x y z,A x y z∧B x y z∧C x y z∧D x y z∧E x y z∧F x y z∧G x y z∧H x y z)(k:∀x y z,A x y z→B x y z→C x y z→D x y z→E x y z→F x y z→G x y z→H x y z→r):r:=Ξ31 h λx y z h=>Ξ08 h (k x y z)
theorem Ξ310(h:∃x y z,A x y z∧B x y z∧C x y z∧D x y z∧E x y z∧F x y z∧G x y z∧H x y z∧I x y z∧J x y z)(k:∀x y z,A x y z→B x y z→C x y z→D x y z→E x y z→F x y z→G x y z→H x y z→I x y z→J x y z→r):r:=Ξ31 h λx y z h=>Ξ010 h (k x y z)
end
section
variable{A B C D E F G H:α→β→γ→δ→Prop}
theorem Ξ41(h:∃x y z w,A x y z w)(k:∀x y z w,A x y z w→r):r:=h.elim λx h=>Ξ31 h (k x)
theorem Ξ42(h:∃x y z w,A x y z w∧B x y z w)(k:∀x y z w,A x y z w→B x y z w→r):r:=Ξ41 h λx y z w h=>Ξ02 h (k x y z w)
theorem Ξ44(h:∃x y z w,A x y z w∧B x y z w∧C x y z w∧D x y z w)(k:∀x y z w,A x y z w→B x y z w→C x y z w→D x y z w→r):r:=Ξ41 h λx y z w h=>Ξ04 h (k x y z w)
theorem Ξ45(h:∃x y z w,A x y z w∧B x y z w∧C x y z w∧D x y z w∧E x y z w)(k:∀x y z w,A x y z w→B x y z w→C x y z w→D x y z w→E x y z w→r):r:=Ξ41 h λx y z w h=>Ξ05 h (k x y z w)
theorem Ξ46(h:∃x y z w,A x y z w∧B x y z w∧C x y z w∧D x y z w∧E x y z w∧F x y z w)(k:∀x y z w,A x y z w→B x y z w→C x y z w→D x y z w→E x y z w→F x y z w→r):r:=Ξ41 h λx y z w h=>Ξ06 h (k x y z w)
theorem Ξ47(h:∃x y z w,A x y z w∧B x y z w∧C x y z w∧D x y z w∧E x y z w∧F x y z w∧G x y z w)(k:∀x y z w,A x y z w→B x y z w→C x y z w→D x y z w→E x y z w→F x y z w→G x y z w→r):r:=Ξ41 h λx y z w h=>Ξ07 h (k x y z w)
theorem Ξ48(h:∃x y z w,A x y z w∧B x y z w∧C x y z w∧D x y z w∧E x y z w∧F x y z w∧G x y z w∧H x y z w)(k:∀x y z w,A x y z w→B x y z w→C x y z w→D x y z w→E x y z w→F x y z w→G x y z w→H x y z w→r):r:=Ξ41 h λx y z w h=>Ξ08 h (k x y z w)
end
section
variable{A B C D E F G:α→β→γ→δ→ε→Prop}
theorem Ξ51(h:∃x y z w u,A x y z w u)(k:∀x y z w u,A x y z w u→r):r:=h.elim λx h=>Ξ41 h (k x)
theorem Ξ52(h:∃x y z w u,A x y z w u∧B x y z w u)(k:∀x y z w u,A x y z w u→B x y z w u→r):r:=Ξ51 h λx y z w u h=>Ξ02 h (k x y z w u)
theorem Ξ54(h:∃x y z w u,A x y z w u∧B x y z w u∧C x y z w u∧D x y z w u)(k:∀x y z w u,A x y z w u→B x y z w u→C x y z w u→D x y z w u→r):r:=Ξ51 h λx y z w u h=>Ξ04 h (k x y z w u)
theorem Ξ55(h:∃x y z w u,A x y z w u∧B x y z w u∧C x y z w u∧D x y z w u∧E x y z w u)(k:∀x y z w u,A x y z w u→B x y z w u→C x y z w u→D x y z w u→E x y z w u→r):r:=Ξ51 h λx y z w u h=>Ξ05 h (k x y z w u)
theorem Ξ56(h:∃x y z w u,A x y z w u∧B x y z w u∧C x y z w u∧D x y z w u∧E x y z w u∧F x y z w u)(k:∀x y z w u,A x y z w u→B x y z w u→C x y z w u→D x y z w u→E x y z w u→F x y z w u→r):r:=Ξ51 h λx y z w u h=>Ξ06 h (k x y z w u)
theorem Ξ57(h:∃x y z w u,A x y z w u∧B x y z w u∧C x y z w u∧D x y z w u∧E x y z w u∧F x y z w u∧G x y z w u)(k:∀x y z w u,A x y z w u→B x y z w u→C x y z w u→D x y z w u→E x y z w u→F x y z w u→G x y z w u→r):r:=Ξ51 h λx y z w u h=>Ξ07 h (k x y z w u)
end
section
variable{A B C D E:α→β→γ→δ→ε→η→Prop}
theorem Ξ61(h:∃x y z w u v,A x y z w u v)(k:∀x y z w u v,A x y z w u v→r):r:=h.elim λx h=>Ξ51 h (k x)
theorem Ξ65(h:∃x y z w u v,A x y z w u v∧B x y z w u v∧C x y z w u v∧D x y z w u v∧E x y z w u v)(k:∀x y z w u v,A x y z w u v→B x y z w u v→C x y z w u v→D x y z w u v→E x y z w u v→r):r:=Ξ61 h λx y z w u v h=>Ξ05 h (k x y z w u v)
end
section
variable{A B C D E F G:α→β→γ→δ→ε→η→ι→Prop}
theorem Ξ71(h:∃x y z w u v s,A x y z w u v s)(k:∀x y z w u v s,A x y z w u v s→r):r:=h.elim λx h=>Ξ61 h (k x)
theorem Ξ72(h:∃x y z w u v s,A x y z w u v s∧B x y z w u v s)(k:∀x y z w u v s,A x y z w u v s→B x y z w u v s→r):r:=Ξ71 h λx y z w u v s h=>Ξ02 h (k x y z w u v s)
theorem Ξ76(h:∃x y z w u v s,A x y z w u v s∧B x y z w u v s∧C x y z w u v s∧D x y z w u v s∧E x y z w u v s∧F x y z w u v s)(k:∀x y z w u v s,A x y z w u v s→B x y z w u v s→C x y z w u v s→D x y z w u v s→E x y z w u v s→F x y z w u v s→r):r:=Ξ71 h λx y z w u v s h=>Ξ06 h (k x y z w u v s)
theorem Ξ77(h:∃x y z w u v s,A x y z w u v s∧B x y z w u v s∧C x y z w u v s∧D x y z w u v s∧E x y z w u v s∧F x y z w u v s∧G x y z w u v s)(k:∀x y z w u v s,A x y z w u v s→B x y z w u v s→C x y z w u v s→D x y z w u v s→E x y z w u v s→F x y z w u v s→G x y z w u v s→r):r:=Ξ71 h λx y z w u v s h=>Ξ07 h (k x y z w u v s)
end
section
variable{A B C D E F G H I J:α→β→γ→δ→ε→η→ι→κ→Prop}
theorem Ξ81(h:∃x y z w u v s t,A x y z w u v s t)(k:∀x y z w u v s t,A x y z w u v s t→r):r:=h.elim λx h=>Ξ71 h (k x)
theorem Ξ82(h:∃x y z w u v s t,A x y z w u v s t∧B x y z w u v s t)(k:∀x y z w u v s t,A x y z w u v s t→B x y z w u v s t→r):r:=Ξ81 h λx y z w u v s t h=>Ξ02 h (k x y z w u v s t)
theorem Ξ810(h:∃x y z w u v s t,A x y z w u v s t∧B x y z w u v s t∧C x y z w u v s t∧D x y z w u v s t∧E x y z w u v s t∧F x y z w u v s t∧G x y z w u v s t∧H x y z w u v s t∧I x y z w u v s t∧J x y z w u v s t)(k:∀x y z w u v s t,A x y z w u v s t→B x y z w u v s t→C x y z w u v s t→D x y z w u v s t→E x y z w u v s t→F x y z w u v s t→G x y z w u v s t→H x y z w u v s t→I x y z w u v s t→J x y z w u v s t→r):r:=Ξ81 h λx y z w u v s t h=>Ξ010 h (k x y z w u v s t)
end
section
variable{A B C:α→β→γ→δ→ε→η→ι→κ→μ→Prop}
theorem Ξ91(h:∃x y z w u v s t p,A x y z w u v s t p)(k:∀x y z w u v s t p,A x y z w u v s t p→r):r:=h.elim λx h=>Ξ81 h (k x)
theorem Ξ93(h:∃x y z w u v s t p,A x y z w u v s t p∧B x y z w u v s t p∧C x y z w u v s t p)(k:∀x y z w u v s t p,A x y z w u v s t p→B x y z w u v s t p→C x y z w u v s t p→r):r:=Ξ91 h λx y z w u v s t p h=>Ξ03 h (k x y z w u v s t p)
end
theorem Ψ2{P:α→β→Prop}(x:α)(y:β)(h:P x y):∃x y,P x y:=⟨x,y,h⟩
theorem Ψ3{P:α→β→γ→Prop}(x:α)(y:β)(z:γ)(h:P x y z):∃x y z,P x y z:=⟨x,y,z,h⟩
theorem Ψ4{P:α→β→γ→δ→Prop}(x:α)(y:β)(z:γ)(w:δ)(h:P x y z w):∃x y z w,P x y z w:=⟨x,y,z,w,h⟩
theorem Ψ5{P:α→β→γ→δ→ε→Prop}(x:α)(y:β)(z:γ)(w:δ)(u:ε)(h:P x y z w u):∃x y z w u,P x y z w u:=⟨x,y,z,w,u,h⟩
theorem Ψ6{P:α→β→γ→δ→ε→η→Prop}(x:α)(y:β)(z:γ)(w:δ)(u:ε)(v:η)(h:P x y z w u v):∃x y z w u v,P x y z w u v:=⟨x,y,z,w,u,v,h⟩
theorem Ψ7{P:α→β→γ→δ→ε→η→ι→Prop}(x:α)(y:β)(z:γ)(w:δ)(u:ε)(v:η)(s:ι)(h:P x y z w u v s):∃x y z w u v s,P x y z w u v s:=⟨x,y,z,w,u,v,s,h⟩
theorem Ψ8{P:α→β→γ→δ→ε→η→ι→κ→Prop}(x:α)(y:β)(z:γ)(w:δ)(u:ε)(v:η)(s:ι)(t:κ)(h:P x y z w u v s t):∃x y z w u v s t,P x y z w u v s t:=⟨x,y,z,w,u,v,s,t,h⟩
theorem Ψ9{P:α→β→γ→δ→ε→η→ι→κ→μ→Prop}(x:α)(y:β)(z:γ)(w:δ)(u:ε)(v:η)(s:ι)(t:κ)(p:μ)(h:P x y z w u v s t p):∃x y z w u v s t p,P x y z w u v s t p:=⟨x,y,z,w,u,v,s,t,p,h⟩
end
open Lean in
local macro_rules
|`(tactic|let ⟨$ps,*⟩:=$h)=>do
 let mut b:Array Term:=#[];let mut t←`(tactic|skip)
 for p in ps.getElems do
  if p.raw.isOfKind ``Parser.Term.anonymousCtor||p.raw.getId==`rfl then
   let z←withFreshMacroScope `(z);b:=b.push z
   if p.raw.isIdent then t←`(tactic|($t;subst $z:term))else t←`(tactic|($t;let $p:term:=$z))
  else b:=b.push p
 unless b.any (·.raw.getId==h.raw.getId)||!h.raw.isIdent do t←`(tactic|((try clear $(⟨h⟩));$t))
 let mut a←`(tactic|fail)
 let g(n m:Nat):=mkIdent (.mkSimple s!"Ξ{n}{m}")
 for i in [0:b.size]do
  let m:=b.size-i
  if m*i==0||m==1||[(1,2),(1,3),(1,4),(1,5),(2,2),(2,3),(2,4),(2,5),(2,6),(3,2),(3,3),(3,4),(3,5),(3,6),(3,8),(3,10),(4,2),(4,4),(4,5),(4,6),(4,7),(4,8),(5,2),(5,4),(5,5),(5,6),(5,7),(6,5),(7,2),(7,6),(7,7),(8,2),(8,10),(9,3)].contains (i,m)then a←`(tactic|first|refine $(g i m) $h fun $b* =>?_|$a:tactic)
  else a←`(tactic|first|(refine $(g i 1) $h fun $(b[:i])* z=>$(g 0 m) z fun $(b[i:])* =>?_;clear z)|$a:tactic)
 `(tactic|($a;$t))
|`(tactic|intro $ps*)=>do
 unless ps.any fun p=>p.raw.isOfKind ``Parser.Term.anonymousCtor||p.raw.getId==`rfl do Macro.throwUnsupported
 let mut t←`(tactic|skip)
 for p in ps do
  if p.raw.isOfKind ``Parser.Term.anonymousCtor then t←`(tactic|($t;intro z;let $p:term:=z))
  else if p.raw.getId==`rfl then t←`(tactic|($t;intro z;subst z))
  else t←`(tactic|($t;intro $p:term))
 return t
|`(tactic|show $e)=>`(tactic|first|refine $e|change $e)
|`($m:declModifiers def $i $b* :$t $v:declVal)=>do if m.raw.getArgs.any (·.getNumArgs != 0)then Macro.throwUnsupported else`($m:declModifiers theorem $i $b* :$t $v:declVal)
|`($_:declModifiers abbrev $i $b* :$t $v:declVal)=>`(noncomputable def $i $b* :$t $v:declVal)
|`(tactic|let $d:letDecl)=>`(tactic|have $d:letDecl)
noncomputable section
open PySem in abbrev xz:=Value→Shared→Prop
open PySem in abbrev KK:=Str→Option Value
open PySem in abbrev ac:=List (Addr×Obj)
def A6:=@PySem.wpAny_bind
def AM:=@List.length_map
def Aw:=@PySem.Heap.get?_push_of_some
def Ad:=@List.map_append
def AL:=@PySem.wpAny_pure
def aaf:=@List.mem_cons
def Bh:=@List.getElem?_eq_getElem
def BA:=@Nat.lt_of_le_of_lt
def BP:=@Nat.add_le_add_left
def BO:=@List.length_append
def Ah:=@Nat.le_refl
def BW:=@List.size_toArray
def aam:=@List.mem_map
def BN:=@List.append_nil
def Bs:=@Bool.false_ne_true
def BC:=@PySem.boot_len
def CZ:=@List.mem_append_right
def B5:=@PySem.Heap.lt_size
def CW:=@PySem.Heap.get?_push_size
def CE:=@List.not_mem_nil
def BB:=@Nat.ne_of_lt
def BU:=@List.map_cons
def CF:=@List.length_cons
def Bi:=@decide_eq_true
def Bd:=@Bool.true_and
def Cc:=@of_decide_eq_true
def DT:=@List.mem_cons_of_mem
def aaB:=@List.mem_singleton
def BR:=@Nat.le_succ
def AP:=@if_neg
def aaE:=@List.getElem?_eq_some_iff
def DN:=@decide_eq_false
def aaG:=@List.mem_append
def BV:=@PySem.wpAny_mono
def EF:=@Nat.lt_of_lt_of_le
def F4:=@PySem.F.slot_dict_get
def aaK:=@List.nodup_append
def Ab:=@if_pos
def CN:=@PySem.sizeLine_eq
def FD:=@PyProof.Rows.boot_all
def Cu:=@Nat.le_trans
def Cn:=@Nat.le_of_lt
def D2:=@List.map_map
def EO:=@Bool.and_eq_true
def EJ:=@Option.some.inj
def Eu:=@of_decide_eq_false
def Dw:=@Bool.false_and
def Dk:=@PySem.W.mg_of
def GI:=@PySem.F.plainAttrs_dict
def Es:=@Nat.le_succ_of_le
def Em:=@List.length_take
def FN:=@Int.emod_lt_of_pos
def Hn:=@List.getD_eq_getElem?_getD
def FK:=@List.getElem?_map
def aa2:=@List.all_eq_true
def HI:=@PySem.F.plainAttrs_list
def Eh:=@Int.emod_nonneg
def aa5:=@beq_eq_false_iff_ne
def Hr:=@PySem.F.type_list_append
def Hv:=@PySem.F.slot_list_append
def Et:=@List.find?_cons
def HN:=@PySem.F.type_dict_get
def aba:=@decide_eq_decide
def Fc:=@Option.isSome_map
def Fy:=@PySem.wpAny_newObj_type
def abd:=@List.nodup_cons
def G3:=@List.getElem_mem
def abf:=@PyProof.Rows.slot_tuple_getitem
def GV:=@List.append_assoc
def FG:=@PySem.Heap.size_push
def He:=@List.mem_append_left
def HE:=@PySem.wpAny_truthy_bool
def Ep:=@PySem.wpAny_holding
def IW:=@PySem.wpAny_callSpecial?_slot
def C3:=@Ne.symm
def GZ:=@List.lookup_cons
def GL:=@List.length_drop
def abp:=@List.any_eq_true
def EY:=@Nat.zero_le
def Hy:=@Array.length_toList
def HJ:=@Nat.lt_succ_of_lt
def abu:=@PySem.F.slot_dict_keyiterator_next
def GA:=@PySem.W.kia_one
def abw:=@List.mem_filter
def GG:=@Bool.eq_iff_iff
def GJ:=@PySem.PassesOwn.never
def HP:=@PySem.wpAny_call_entry
def DV:=@congrArg
def FY:=@List.all_map
def F1:=@PySem.wpAny_field
def Di:=@or_false
def GY:=@PySem.wpAny_seqItems
def Hh:=@Nat.lt_succ_self
def JJ:=@PySem.Heap.get?_update_self
def GK:=@Nat.lt_irrefl
def Gp:=@Bool.and_true
def Jr:=@PySem.wpAny_comprehension_free
def J3:=@PySem.wpAny_Call_Name_kw
def Ij:=@PySem.tupleKind_room_in1
def abM:=@List.mem_range
def GD:=@PySem.wpAny_standAt
def LP:=@List.getElem?_append_right
def Ih:=@List.drop_length
def Ii:=@List.cons_append
def JZ:=@List.mem_cons_self
def Jw:=@List.length_singleton
def HG:=@List.any_cons
def Kv:=@PySem.Heap.get?_update_other
def Ln:=@List.getElem?_append_left
def LU:=@PySem.F.entry_dict_get
def abX:=@Option.map_eq_some_iff
def Ld:=@List.take_of_length_le
def abZ:=@List.mem_filterMap
def Ow:=@PySem.wpAny_typeNameOfWhole_keyiter
def Nh:=@PyProof.Rows.callWith_type1
def Hs:=@List.map_nil
def MC:=@List.length_replicate
def ab4:=@beq_iff_eq
def ab5:=@List.pairwise_map
def Jq:=@PySem.wpAny_pyIter_tuple
def MU:=@List.mem_of_getElem?
def JP:=@PySem.wpAny_passesOwn
def Lb:=@PySem.mem_of_lookup
def OD:=@PySem.F.slot_tuple_iterator_next
def MT:=@PySem.wpAny_newFunctionEnv
def LD:=@PySem.W.callWith_K
def M9:=@PySem.Heap.SameBut.update
def Oo:=@PySem.wpAny_typeNameOf_keyiter
def Mk:=@PySem.AutoSeq1.wpAny_loadPart'
def MD:=@decide_eq_true_eq
def Kh:=@Bool.and_assoc
def OM:=@List.getElem?_toArray
def Pl:=@Array.getElem?_toList
def LF:=@Nat.succ_le_succ
def MO:=@Nat.not_lt_zero
def LW:=@List.of_mem_zip
def T3:=@PySem.F.excBase_ValueError
def HV:=@if_false
def OF:=@List.filter_append
def acs:=@PySem.F.slot_dict_getitem
def Qm:=@PySem.F.args_tuple_add_2
def Qi:=@PyProof.Rows.boot_sorted
def QQ:=@List.Pairwise.imp_of_mem
def Mj:=@Int.toNat_natCast
def Kr:=@Sum.inr.inj
def S8:=@PySem.F.entry_tuple_add
def Qx:=@PySem.F.args_dict_get_2
def UQ:=@List.getElem?_cons_succ
def Ju:=@PySem.wpAny_typeOf
def Kl:=@PySem.call_meetsIn
def Mz:=@PySem.Obj.data_mapFields
def Oi:=@Nat.succ_ne_self
def Mw:=@Nat.min_eq_right
def acH:=@List.mem_flatMap
def Ux:=@PySem.F.slot_tuple_add
def S2:=@List.length_pos_of_mem
def OH:=@PySem.wpAny_setState_of
def JM:=@PySem.wpAny_rule
def Lh:=@Nat.ne_of_gt
def Mt:=@Nat.min_eq_left
def U8:=@List.length_filter_le
def OL:=@List.forIn_cons
def NJ:=@List.all_append
def Sz:=@List.mem_of_mem_take
def SA:=@List.mem_of_mem_drop
def aG:=@PySem.F.args_dict_keyiterator_next_1
def Nq:=@List.nodup_nil
def Mm:=@List.forIn_nil
def IH:=@if_true
def TT:=@PySem.W.plainGet_of
def gQ:=@PySem.F.entry_dict_keyiterator_next
def RF:=@List.filterMap_cons
def Uq:=@PySem.Calls.callWith_builtin
def PM:=@PySem.wpAny_execs_nil
def MA:=@PySem.codeAny_mono
def NO:=@List.all_cons
def Pk:=@PySem.F.slot_zip_next
def Sf:=@Bool.false_eq_true
def KA:=@PySem.wpAny_Name
def SW:=@PySem.wpAny_updateSeq_pair
def QU:=@PySem.wpAny_loadName_local
def SQ:=@List.length_range
def Qo:=@PySem.Calls.evalArgs_plain
def Ms:=@PySem.wpAny_setField
def Qd:=@PySem.wpAny_loadName_cell
def lY:=@List.eq_nil_of_length_eq_zero
def jE:=@PySem.F.slot_dict_setdefault
def L6:=@Prod.ext
def PQ:=@PySem.wpAny_onRaise
def Mv:=@PySem.wpAny_attempt
def PL:=@PySem.Paired.length
def Qe:=@List.range_succ
def Ri:=@List.nil_append
def Tu:=@List.length_zip
def QC:=@PySem.wpAny_pyIter_list
def RC:=@PySem.wpAny_dictEntries
def MQ:=@PySem.typeIs_str
def Ra:=@List.take_zero
def Ry:=@List.drop_zero
def fF:=@List.drop_eq_getElem_cons
def NG:=@PySem.concat_meets
def Ny:=@PySem.codeAny_loop
def ady:=@Option.isSome_iff_exists
def jk:=@List.length_erase_of_mem
def Qg:=@PySem.wpAny_isInstance
def Ug:=@PySem.wpAny_getItem_of
def S7:=@PySem.noFill_tuple_add
def Z8:=@PySem.F.args_dict_get_3
def SG:=@List.take_nil
def ZQ:=@List.getElem?_replicate
def Qa:=@Bool.or_false
set_option Elab.async false
set_option linter.all false
set_option maxRecDepth 100000
set_option maxHeartbeats 1000000
set_option maxHeartbeats 4000000
local macro_rules|`(tactic|done)=>`(tactic|decide +kernel)
local macro_rules|`(term|nofun)=>`(term|⟨rfl,rfl,rfl,by decide +kernel,rfl,by decide +kernel,by decide +kernel⟩)
namespace L2
open PySem PySem.Spec PyProof.Rows
variable {xs vs:List V}{us:List Value}{x qual:Str}{u:Value}{H:A4}{a b it C:Addr}{o:HO}{P:Program}{w:World}{h base:Heap}{g':Array GenState}{t' i j k n:Nat}{d':Drawn}{ch fp:List Addr}{e c tg l:Expr}{N ps:List Str}{M:Model}{A:Around}{E Q:xz}{v y:V}{s' s:Shared}{X: Cx}{t: CM}{pos p: Pos}{v0:ac}{σ:St}{K:W.Frag}{f:Value→Value→Sem Value}{tc:CR}{es: List Expr}{te tl:AQ}{g:Int→Int→Int}{pos':Pos}{body:List Stmt}{tb ta: AQ}{H': A4}{pl:Sem Bool}{r r':DY}{AG:CmpOp}{dx: Addr}{mA mg:KK}{kw:List (Str×Value)}{CX:Gl}{fd:FuncData}{sp:Dq}{outer:List Env}{kindOf:Str→Option NameKind}{scope:Scope}{h': Heap}
abbrev A7:=Sum Int Str
abbrev KG:A7→Value→Bool
 |.inl k,v=>Value.isInt k v
 |.inr x,v=>Value.isStrOf x v
abbrev qt(w:World):A7→Int
 |.inl k=>hashInt k
 |.inr x=>hashStr w x
def Gm:∀{k:A7} {v:Value},KG k v=true→(∃i t,k=Sum.inl i∧v=Value.int i t)∨(∃x t,k=Sum.inr x∧v=Value.str x t)
 |.inl i,v,h=>by
  let⟨t,e⟩:=Value.isInt_shape (k:=i) (v:=v) h;show .inl ⟨i,t,rfl,e⟩
 |.inr x,v,h=>by
  let⟨t,e⟩:=Value.isStrOf_shape (x:=x) (v:=v) h;show .inr ⟨x,t,rfl,e⟩
def xl(i:Int)(t:Tok):KG (.inl i) (.int i t)=true:=by simp[KG,Value.isInt]
def acG(x:Str)(t:Tok):KG (.inr x) (.str x t)=true:=by simp[KG,Value.isStrOf]
def aap(a b:Int):decide ((Sum.inl a:A7)=Sum.inl b)=(a==b):=by
 by_cases e:a=b
 ·subst e;simp
 ·let h:¬(Sum.inl a:A7)=Sum.inl b:=λq=>e (Sum.inl.inj q)
  rw[DN h];show(aa5.mpr e).symm
def abl(a b:Str):decide ((Sum.inr a:A7)=Sum.inr b)=decide (a=b):=by
 by_cases e:a=b
 ·subst e;simp
 ·let h:¬(Sum.inr a:A7)=Sum.inr b:=λq=>e (Kr q)
  rw[DN h,DN e]
def sZ(a:Int)(b:Str):decide ((Sum.inl a:A7)=Sum.inr b)=false:=DN (λq=>nomatch q)
def sM(a:Str)(b:Int):decide ((Sum.inr a:A7)=Sum.inl b)=false:=DN (λq=>nomatch q)
abbrev AR(prog:Program)(w:World):PySem.KeyKind prog w A7 where
 is:=KG
 hash:=qt w
 inj:=λv a b ha hb=>by
  rcases Gm ha with⟨i,t,rfl,rfl⟩|⟨x,t,rfl,rfl⟩
  ·rcases Gm hb with⟨j,u,rfl,e⟩|⟨y,u,rfl,e⟩
   ·injection e with e1 _;rw[e1]
   ·show nomatch e
  ·rcases Gm hb with⟨j,u,rfl,e⟩|⟨y,u,rfl,e⟩
   ·show nomatch e
   ·injection e with e1 _;rw[e1]
 byValue:=λk v h=>by
  rcases Gm h with⟨i,t,rfl,rfl⟩|⟨x,t,rfl,rfl⟩<;>rfl
 pyHash:=λhv h=>by
  rcases Gm hv with⟨i,t,rfl,rfl⟩|⟨x,t,rfl,rfl⟩
  ·show wpAny_pyHash_int h
  ·show wpAny_pyHash_str h
 eqBool:=λhu hv h=>by
  rcases Gm hu with⟨i,t,rfl,rfl⟩|⟨x,t,rfl,rfl⟩
  ·rcases Gm hv with⟨j,u,rfl,rfl⟩|⟨y,u,rfl,rfl⟩
   ·rw[aap]at h;show wpAny_eqBool_int h
   ·rw[sZ]at h;show SeqAt.EqAt.int_str i t y u _ _ _ _ h
  ·rcases Gm hv with⟨j,u,rfl,rfl⟩|⟨y,u,rfl,rfl⟩
   ·rw[sM]at h;show SeqAt.EqAt.str_int x t j u _ _ _ _ h
   ·rw[abl]at h;show wpAny_eqBool_str h
 «strs»:=λk x t v h=>by
  rcases Gm h with⟨i,u,rfl,e⟩|⟨y,u,rfl,e⟩
  ·show nomatch e
  ·injection e with e1 _
   subst e1;cases v<;>rfl
def abb(prog:Program)(w:World)(i:Int)(t:Tok):(AR prog w).is (.inl i) (.int i t)=true:=xl i t
def SY(prog:Program)(w:World)(x:Str)(t:Tok):(AR prog w).is (.inr x) (.str x t)=true:=acG x t
inductive V where
 |non|bl (b:Bool)|int (i:Int)|str (x:Str)|byt (b:Array UInt8)|flt (b:UInt64)|ref (a:Addr)|ty (n:String)
 deriving DecidableEq
abbrev RelV:V→Value→Prop
 |.non,u=>u=Value.none
 |.bl b,u=>u=Value.bool b
 |.int i,u=>∃t,u=Value.int i t
 |.str x,u=>∃t,u=Value.str x t
 |.byt b,u=>∃t,u=Value.bytes b t
 |.flt b,u=>∃t,u=Value.float b t
 |.ref a,u=>u=Value.ref a
 |.ty n,u=>u=Value.type n
@[reducible]def Vals:List V→List Value→Prop:=Paired RelV
def Vals.length(r:Vals xs us):xs.length=us.length:=PL r
def Vals.get:∀{xs:List V} {us:List Value} {i:Nat} {x:V},Vals xs us→xs[i]?=some x→∃u,us[i]?=some u∧RelV x u
 |_,_,_,_,.nil,e=>by simp at e
 |_,_,0,_,.cons r _,e=>by simp at e;subst e;show⟨_,rfl,r⟩
 |_,_,i+1,x,.cons _ t,e=>by
  let⟨u,h1,h2⟩:=Vals.get (i:=i) (x:=x) t (by simpa using e);show⟨u,by simpa using h1,h2⟩
def Vals.set{x:V}(r:RelV x u):∀{xs:List V} {us:List Value} (i:Nat),Vals xs us→Vals (xs.set i x) (us.set i u)
 |_,_,_,.nil=>.nil
 |_,_,0,.cons _ t=>.cons r t
 |_,_,i+1,.cons q t=>.cons q (Vals.set r i t)
def Vals.append:∀{xs ys:List V} {us ws:List Value},Vals xs us→Vals ys ws→Vals (xs++ys) (us++ws)
 |_,_,_,_,.nil,s=>s
 |_,_,_,_,.cons r t,s=>.cons r (Vals.append t s)
def Vals.take:∀{xs:List V} {us:List Value} (n:Nat),Vals xs us→Vals (xs.take n) (us.take n)
 |_,_,0,_=>.nil
 |_,_,_+1,.nil=>.nil
 |_,_,n+1,.cons r t=>.cons r (Vals.take n t)
def Vals.drop:∀{xs:List V} {us:List Value} (n:Nat),Vals xs us→Vals (xs.drop n) (us.drop n)
 |_,_,0,r=>r
 |_,_,_+1,.nil=>.nil
 |_,_,n+1,.cons _ t=>Vals.drop n t
abbrev jr:Option V→Option Value→Prop
 |some v,some u=>RelV v u
 |none,none=>True
 |_,_=>False
abbrev KV{κ:Type}:List (κ×V)→List (κ×Value)→Prop:=Paired λ(p:κ×V) (q:κ×Value)=>p.1=q.1∧RelV p.2 q.2
abbrev Au:A7→V
 |.inl i=>.int i
 |.inr x=>.str x
inductive HO where
 /-- a list -/
 |lst (xs:List V)
 /-- a tuple (never changes) -/
 |tup (xs:List V)
 /-- a dict Jy keys are ints and texts;one Jy keys are tuples of ints and texts (wq empty one is both) -/
 |dK (aq:List (A7×V))|dT (aq:List (List A7×V))
 /-- a set of ints: bf members,bf size -/
 |set (S:Int→Bool) (n:Nat)
 /-- an instance of wq class at C,bf dict at dx,bf attributes -/
 |ins (C dx:Addr) (fs:List (Str×V))
 /-- wq dict of wq instance at x -/
 |own (x:Addr)
 /-- wq dict of an exception -/
 |xd (fs:List (Str×V))
 /-- a bound method,f of x -/
 |met (f x:Addr)
 /-- a range object lo,lo+1,.. below hi -/
 |rng (lo hi:Int)
 /-- a Pq Pw is known to wq object (wq yw;a dict while a loop walks it): read,never written while it is so -/
 |frz (o:Obj) (u:HO)
 /-- a code Ro table -/
 |tbl (ps:Array Value)
 /-- any other Pq,by Uy is true of bf one object (a def of XG own: SetO a S n:=HO.ext λh=>..) -/
 |ext (φ:Heap→Prop)
abbrev A4:=Addr→Option HO
abbrev AI(H:A4)(a:Addr)(o:HO):A4:=λb=>if b=a then some o else H b
def B9:AI H a o a=some o:=by unfold AI;rw[Ab rfl]
def Ay(h:b≠a):AI H a o b=H b:=by unfold AI;rw[AP h]
def uQ{u:HO}(h:H a=some o)(h':H b=some u)(d:o≠u):a≠b:=by
 intro e;subst e;rw[h]at h';show d (EJ h')
def Fe(h:H a=some o)(h':H b=none):a≠b:=by
 intro e;subst e;rw[h]at h';cases h'
section
variable (P: Program)(w: World)
abbrev bj(H:A4)(h:Heap)(a:Addr):HO→Prop
 |.lst xs=>xs.length≤sizeLine∧∃(bf:List Value) (n:Nat),Vals xs bf∧h.get? a=some {cls:=.type "list",data:=.seq bf.toArray n}
 |.tup xs=>xs.length≤sizeLine∧∃bf:List Value,Vals xs bf∧IsTup h a bf.toArray
 |.dK aq=>aq.length≤sizeLine∧(a==sysModules)=false∧∃vs,KV aq vs∧h.DictOf (AR P w) a vs
 |.dT aq=>aq.length≤sizeLine∧(a==sysModules)=false∧∃xs:List (List A7×Addr×Value),
   Paired (λ(p:List A7×V) (q:List A7×Addr×Value)=>p.1=q.1∧H q.2.1=some (.tup (p.1.map Au))∧RelV p.2 q.2.2) aq xs∧
   ∃o es ep,h.get? a=some o∧o.ExactDict∧o.data=.dict es ep∧es.toList=xs.map (entryOfKey (tupleKind (AR P w)))∧(xs.map (·.1)).Nodup
 |.set S n=>h.SetOf (intKind P w) a S n
 |.ins C dx fs=>H dx=some (.own a)∧fs.length≤1000∧dx≠a∧h.get? a=some (W.instObj C dx)∧
   ∃mA,h.Ns1 dx mA∧(∀f,jr (fs.lookup f) (mA f))∧PySem.Within mA (fs.map (·.1))
 |.own _=>∃o,h.get? a=some o
 |.xd fs=>∃mA,h.Ns1 a mA∧∀f,jr (fs.lookup f) (mA f)
 |.rng lo hi=>∃t u v,h.get? a=some {cls:=.type "range",data:=.fields #[.int lo t,.int hi u,.int 1 v]}
 |.frz o u=>h.get? a=some o∧bj H h a u
 |.tbl ps=>h.get? a=some {cls:=.none,data:=.fields ps}
 |.met f x=>h.get? a=some (W.methodObj (.ref f) (.ref x))
 |.ext φ=>φ h∧(∃o,h.get? a=some o)∧∀h1 h2:Heap,φ h1→(∀o,h1.get? a=some o→h2.get? a=some o)→φ h2
abbrev mH(H:A4)(h:Heap):Prop:=∀a o,H a=some o→bj P w H h a o
end
section
variable {P: Program}{w: World}{H: A4}{h: Heap}{a: Addr}{o: HO}
def bj.lt(x:bj P w H h a o):a<h.objs.size:=by
 cases o with
 |lst xs=>let⟨_,⟨_,_,_,e⟩⟩:=x;show B5 e
 |tup xs=>let⟨_,⟨_,_,p⟩⟩:=x;show p.lt
 |dK aq=>let⟨_,_,⟨_,_,⟨o,_,_,e,_⟩⟩⟩:=x;show B5 e
 |dT aq=>let⟨_,_,⟨_,_,⟨o,_,_,e,_⟩⟩⟩:=x;show B5 e
 |set S n=>let⟨o,_,_,_,e,_⟩:=x;show B5 e
 |ins C dx fs=>let⟨_,_,_,e,_⟩:=x;show B5 e
 |own y=>let⟨_,e⟩:=x;show B5 e
 |xd fs=>let⟨_,⟨_,_,_,e,_⟩,_⟩:=x;show B5 e
 |rng lo hi=>let⟨_,_,_,e⟩:=x;show B5 e
 |frz ob u=>let⟨e,_⟩:=x;show B5 e
 |tbl ps=>show B5 (show h.get? a=some _ from x)
 |met f y=>show B5 (show h.get? a=some _ from x)
 |ext φ=>let⟨_,⟨_,e⟩,_⟩:=x;show B5 e
def Paired.Nj{α β:Type}{F G:α→β→Prop}:∀{l₁:List α} {l₂:List β},Paired F l₁ l₂→(∀a b,F a b→G a b)→Paired G l₁ l₂
 |_,_,.nil,_=>.nil
 |_,_,.cons r t,f=>.cons (f _ _ r) (Paired.Nj t f)
def bj.tE(x:bj P w H h a o)(k:∀b u,(b=a∨H b=some (.own a))→h.get? b=some u→h'.get? b=some u)
  (ho:∀b,H b=some (.own a)→H' b=some (.own a)) (ht:∀b xs,H b=some (.tup xs)→H' b=some (.tup xs)):bj P w H' h' a o:=by
 induction o with
 |lst xs=>let⟨z,⟨bf,n,r,e⟩⟩:=x;show⟨z,bf,n,r,k _ _ (.inl rfl) e⟩
 |tup xs=>let⟨z,⟨bf,r,⟨ob,e,c⟩⟩⟩:=x;show⟨z,bf,r,ob,k _ _ (.inl rfl) e,c⟩
 |dK aq=>let⟨z,y,⟨vs,r,⟨ob,es,ep,e,c⟩⟩⟩:=x;show⟨z,y,vs,r,ob,es,ep,k _ _ (.inl rfl) e,c⟩
 |dT aq=>
  let⟨z,y,⟨xs,r,⟨ob,es,ep,e,c⟩⟩⟩:=x;show⟨z,y,xs,Paired.Nj r λp q z=>⟨z.1,ht _ _ z.2.1,z.2.2⟩,ob,es,ep,k _ _ (.inl rfl) e,c⟩
 |set S n=>let⟨ob,es,ep,t,e,c⟩:=x;show Ψ4 ob es ep t ⟨k _ _ (.inl rfl) e,c⟩
 |ins C dx fs=>
  let⟨d,z,ne,e,⟨mA,⟨od,es,ep,e2,c⟩,r⟩⟩:=x;show⟨ho _ d,z,ne,k _ _ (.inl rfl) e,mA,Ψ3 od es ep ⟨k _ _ (.inr d) e2,c⟩,r⟩
 |own y=>let⟨ob,e⟩:=x;show⟨ob,k _ _ (.inl rfl) e⟩
 |xd fs=>let⟨mA,⟨od,es,ep,e,c⟩,r⟩:=x;show⟨mA,Ψ3 od es ep ⟨k _ _ (.inl rfl) e,c⟩,r⟩
 |rng lo hi=>let⟨t,u,v,e⟩:=x;show Ψ3 t u v (k _ _ (.inl rfl) e)
 |frz ob u ih=>let⟨e,q⟩:=x;show⟨k _ _ (.inl rfl) e,ih q⟩
 |tbl ps=>
  let e:h.get? a=some {cls:=.none,data:=.fields ps}:=x;show h'.get? a=some {cls:=.none,data:=.fields ps}
  show k a _ (.inl rfl) e
 |met f y=>
  let e:h.get? a=some (W.methodObj (.ref f) (.ref y)):=x;show h'.get? a=some (W.methodObj (.ref f) (.ref y))
  show k a _ (.inl rfl) e
 |ext φ=>let⟨p,⟨o,e⟩,st⟩:=x;show⟨st _ _ p λo q=>k _ _ (.inl rfl) q,⟨o,k _ _ (.inl rfl) e⟩,st⟩
def mH.lt(x:mH P w H h)(e:H a=some o):a<h.objs.size:=(x a o e).lt
def mH.fresh(x:mH P w H h)(e:h.objs.size≤a):H a=none:=by
 cases q:H a with
 |none=>rfl
 |some u=>show absurd (EF (x.lt q) e) (GK _)
def mH.kept(x:mH P w H h)(k:∀b u,h.get? b=some u→h'.get? b=some u):mH P w H h':=λa o e=>
 (x a o e).tE (λb u _ q=>k b u q) (λ_ q=>q) λ_ _ q=>q
def mH.laid(x:mH P w H h)(k:∀b u,h.get? b=some u→h'.get? b=some u)(hp:h.objs.size≤a)(new:bj P w (AI H a o) h' a o):mH P w (AI H a o) h':=λb u e=>by
 let hn:=x.fresh hp;by_cases hb:b=a
 ·subst hb;rw[B9]at e;cases e;show new
 ·rw[Ay hb]at e
  show(x b u e).tE (λc v _ q=>k c v q) (λc q=>by rw[Ay (Fe q hn)];show q) λc xs q=>by rw[Ay (Fe q hn)];show q
end
abbrev Rd(H:A4)(a:Addr)(u:HO):Prop:=H a=some u∨∃o,H a=some (.frz o u)
def Rd.ok{u:HO}(r:Rd H a u)(x:mH P w H h):bj P w H h a u:=by
 rcases r with r|⟨o,r⟩
 ·show x a u r
 ·let⟨_,q⟩:=x a _ r
  show q
abbrev JX:Option HO→Prop
 |some (.lst _)=>True
 |some (.dK _)=>True
 |some (.dT _)=>True
 |some (.set _ _)=>True
 |some (.ins _ _ _)=>True
 |some (.ext _)=>True
 |_=>False
section
variable {P: Program}{w: World}{H: A4}{h: Heap}{x e: Addr}{o': HO}
def mH.write(ok:mH P w H h)(mu:JX (H x))(he:e=x∨H e=some (.own x))(k:∀b u,b≠e→h.get? b=some u→h'.get? b=some u)(OY:∃u,h'.get? e=some u)
  (new:bj P w (AI H x o') h' x o'):mH P w (AI H x o') h':=λb u q=>by
 let Rr:∀c y,H c=some (.own y)→c≠x:=λc y r z=>by subst z;rw[r]at mu;show mu
 let Vi:∀c xs,H c=some (.tup xs)→c≠x:=λc xs r z=>by subst z;rw[r]at mu;show mu
 by_cases hb:b=x
 ·subst hb;rw[B9]at q;cases q;show new
 ·rw[Ay hb]at q
  by_cases NZ:b=e
  ·let q':H b=some (.own x):=by
    rcases he with z|z
    ·show absurd (NZ.trans z) hb
    ·rw[NZ];show z
   rw[q]at q';cases q';let⟨v,hv⟩:=OY;show⟨v,by rw[NZ];show hv⟩
  ·show(ok b u q).tE (λc v hc r=>k c v ?_ r) (λc r=>by rw[Ay (Rr c b r)];show r) λc xs r=>by rw[Ay (Vi c xs r)];show r
   rcases hc with rfl|hc
   ·show NZ
   ·rintro rfl
    rcases he with z|z
    ·show Rr c b hc z
    ·rw[hc]at z;cases z;show hb rfl
end
structure Un(fs ex:List Addr)(H H':A4)(h h':Heap):Prop where
 keep:∀b o,h.get? b=some o→H b=none→b∉fs→b∉ex→h'.get? b=some o
 slot:∀b o,h.get? b=some o→H b=none→b∈fs→b∉ex→∃sl,h'.get? b=some {o with slots:=sl}
 free:∀b o,h.get? b=some o→H b=none→b∉ex→H' b=none
 there:∀b o,h.get? b=some o→b∉ex→∃o',h'.get? b=some o'
 nq:∀b xs,H b=some (.tup xs)→H' b=some (.tup xs)
 m5:∀b o u,H b=some (.frz o u)→H' b=some (.frz o u)
 nt:∀b ps,H b=some (.tbl ps)→∃more,H' b=some (.tbl (ps++more))
section
variable {fs ex: List Addr}{H H1: A4}{h h1: Heap}{a x e: Addr}{o: HO}
def Un.any(u:Un fs ex H H1 h h1){ob:Obj}(q:h.get? b=some ob)(n:H b=none)(hx:b∉ex):∃sl,h1.get? b=some {ob with slots:=sl}:=by
 by_cases hb:b∈fs
 ·show u.slot b ob q n hb hx
 ·show⟨ob.slots,u.keep b ob q n hb hx⟩
def Un.kept(k:∀b u,h.get? b=some u→h'.get? b=some u):Un fs ex H H h h':=
 ⟨λb ob q _ _ _=>k b ob q,λb ob q _ _ _=>⟨ob.slots,k b ob q⟩,λ_ _ _ n _=>n,λb ob q _=>⟨ob,k b ob q⟩,λ_ _ q=>q,λ_ _ _ q=>q,λ_ ps q=>⟨#[],by rw[q];simp⟩⟩
def Un.refl:Un fs ex H H h h:=Un.kept λ_ _ q=>q
def Un.laid(k:∀b u,h.get? b=some u→h'.get? b=some u)(hp:h.objs.size≤a)(hn:H a=none):Un fs ex H (AI H a o) h h' where
 keep:=λb u q _ _ _=>k b u q
 slot:=λb u q _ _ _=>⟨u.slots,k b u q⟩
 free:=λb u q n _=>by rw[Ay (BB (EF (B5 q) hp))];show n
 there:=λb u q _=>⟨u,k b u q⟩
 nq:=λb xs q=>by rw[Ay (Fe q hn)];show q
 m5:=λb u xs q=>by rw[Ay (Fe q hn)];show q
 nt:=λb ps q=>⟨#[],by rw[Ay (Fe q hn),q];simp⟩
def Un.write(mu:JX (H x))(he:e=x∨H e=some (.own x))(k:∀b u,b≠e→h.get? b=some u→h'.get? b=some u)(OY:∃u,h'.get? e=some u):Un fs ex H (AI H x o) h h':=by
 let hx:∀b,H b=none→b≠x:=λb n z=>by subst z;rw[n]at mu;show mu
 let hb:∀b,H b=none→b≠e:=λb n z=>by
  subst z;rcases he with r|r
  ·show hx b n r
  ·rw[n]at r;cases r
 let hm:∀b u,H b=some u→¬JX (some u)→b≠x:=λb u q nm z=>by subst z;rw[q]at mu;show nm mu
 show⟨λb u q n _ _=>k b u (hb b n) q,λb u q n _ _=>⟨u.slots,k b u (hb b n) q⟩,λb u q n _=>by rw[Ay (hx b n)];show n,λb u q _=>?_,
  λb xs q=>by rw[Ay (hm b _ q λz=>z)];show q,λb u xs q=>by rw[Ay (hm b _ q λz=>z)];show q,λb ps q=>⟨#[],by rw[Ay (hm b _ q λz=>z),q];simp⟩⟩
 by_cases NZ:b=e
 ·subst NZ;show OY
 ·show⟨u,k b u NZ q⟩
end
abbrev Nz(h:Heap)(H:A4):List Addr:=(List.range h.objs.size).filter λa=>(H a).isSome
abbrev Hf(h:Heap)(H:A4):Heap:=W.hideAll h (Nz h H)
def ud(h:Heap)(H:A4):(Hf h H).objs.size=h.objs.size:=W.hideAll_size _ _
def tG{o:Obj}(e:h.get? b=some o)(n:H b=none):(Hf h H).get? b=some o:=
 W.hideAll_get _ e λhm=>by
  let q:(H b).isSome=true:=(abw.mp hm).2;rw[n]at q;simp at q
def xC{o:Obj}(e:(Hf h H).get? b=some o):h.get? b=some o∧H b=none:=by
 let e':h.get? b=some o:=W.of_hideAll (Nz h H) e;show⟨e',?_⟩;cases q:H b with
 |none=>rfl
 |some x=>
  let hm:b∈Nz h H:=abw.mpr ⟨abM.mpr (B5 e'),by simp[q]⟩;let z:(Hf h H).get? b=none:=W.hideAll_none (Nz h H) hm;rw[z]at e;cases e
abbrev aaH(g h:Heap)(L:Addr):ac:=(List.range h.objs.size).filterMap λa=>if a=L∨(g.get? a).isSome=true then none else(h.get? a).map λo=>(a,o)
abbrev v4(g h:Heap)(L d:Addr):ac:=(aaH g h L).filter λp=>decide (p.1≠d)
structure Mod(K:W.Frag)(mg:KK)(base:Heap):Prop where
 KH:K.In base
 glob:base.Ns mainGlobals mg
 blt:∃mb,base.Ns builtinsNs mb∧∀x:Str,x ≠ "__name__" → mb x=bootBuiltins x
 nolimit:base.NoLimit
structure Cx where
 prog:Program
 w:World
 K:W.Frag
 mg:KK
 base:Heap
 A:Around
 N:List Str
 s₀:Shared
 H₀:A4
 env:Env
 outer:List Env
 stack:List Env
 ex:List Addr
 fn:Str→Bool
 calm:Bool
 pn:ac
 xe:xz
abbrev Dj(l:List Env):List Addr:=l.filterMap (·.frame)
@[reducible]def Cx.fs(X:Cx):List Addr:=Dj X.outer
abbrev JY(sc:Scope)(x:Str):Prop:=sc.names.lookup x=some .local∨sc.names.lookup x=some .cell∨sc.names.lookup x=some .free
abbrev HD(sc:Scope)(x:Str):Prop:=sc.names.lookup x=some .local∨sc.names.lookup x=some .cell
@[reducible]def Fk(X:Cx)(x:Str):Prop:=X.fn x=true∨X.env.scope.names.lookup x=some .local
abbrev Look(env:Env)(h:Heap)(m:KK)(x:Str)(u:Value):Prop:=
 (env.kindOf x=some .local∧m x=some u)∨((env.kindOf x=some .cell∨env.kindOf x=some .free)∧∃c,env.cells.lookup x=some c∧h.IsCell c (some u))
structure Cx.Ok(X:Cx):Prop where
 mod:Mod X.K X.mg X.base
 kind:X.env.scope.kind=.function
 glob:X.env.globals=mainGlobals
 blt:X.env.builtins=builtinsNs
 above:X.s₀.heap.objs.size≤X.env.locals
 inj:∀x y c,X.env.cells.lookup x=some c→X.env.cells.lookup y=some c→x=y
 has:∀x,(X.env.kindOf x=some .cell∨X.env.kindOf x=some .free)→∃c,X.env.cells.lookup x=some c
 La:∀x c,X.fn x=true→X.env.cells.lookup x=some c→X.s₀.heap.objs.size≤c
 hd:X.calm=true→X.A.handled=none
 frames:X.A.frames=some X.stack
 LL:X.stack=X.outer∨(X.stack=X.env::X.outer∧X.env.frame=some X.env.locals)
 Gy:∀b∈X.ex,b≠X.env.locals∧∀x c,X.env.cells.lookup x=some c→c≠b
 bs:∀b o,X.base.get? b=some o→X.s₀.heap.get? b=some o∧X.H₀ b=none
 F9:X.base.objs.size≤X.s₀.heap.objs.size
 w6:∀b o,X.base.get? b=some o→b∉X.ex
 qD:∀b∈X.ex,b∉X.fs
 mr:X.s₀.heap.FunFrames X.base X.outer
 Gx:∀b∈X.fs,X.H₀ b=none
structure Inv(X:Cx)(v0:ac)(σ:List (Option V))(H:A4)(s:Shared):Prop where
 ok:X.Ok
 os:s.os=X.s₀.os
 bare:AllBare s.gens
 base:Un X.fs X.ex X.H₀ H X.s₀.heap s.heap
 loc:∃m,s.heap.Ns X.env.locals m∧∀(i:Nat) (x:Str) (v:V),X.N[i]?=some x→σ[i]?=some (some v)→JY X.env.scope x→∃u,RelV v u∧Look X.env s.heap m x u
 cell:∀x c,X.env.cells.lookup x=some c→∃v,s.heap.IsCell c v
 free:H X.env.locals=none
 iN:∀x c,X.env.cells.lookup x=some c→H c=none
 pin:∀p∈X.pn++v0,s.heap.get? p.1=some p.2∧H p.1=none∧p.1≠X.env.locals∧p.1∉X.fs∧∀v,p.2.data≠.cell v
 bC:mH X.prog X.w H s.heap
 len:σ.length=X.N.length
section
variable {v0: List (Addr×Obj)}{σ: List (Option V)}{H: A4}{s: Shared}
def Cx.Ok.Vl(ok:X.Ok){o:Obj}(e:X.base.get? b=some o):b∉X.fs:=λhb=>by
 have:=(ok.mr.mem hb).1;rw[e]at this;cases this
def Inv.bs(I:Inv X v0 σ H s):∀b o,X.base.get? b=some o→s.heap.get? b=some o∧H b=none:=λb o e=>
 ⟨I.base.keep b o (I.ok.bs b o e).1 (I.ok.bs b o e).2 (I.ok.Vl e) (I.ok.w6 b o e),I.base.free b o (I.ok.bs b o e).1 (I.ok.bs b o e).2 (I.ok.w6 b o e)⟩
def Inv.bk(I:Inv X v0 σ H s):∀b o,X.base.get? b=some o→s.heap.get? b=some o:=λb o e=>(I.bs b o e).1
def Inv.mod(I:Inv X v0 σ H s):Mod X.K X.mg X.base:=I.ok.mod
def Inv.nQ(I:Inv X v0 σ H s):X.K.In s.heap:=I.ok.mod.KH.keeps I.bk
def Inv.lt(I:Inv X v0 σ H s):X.env.locals<s.heap.objs.size:=let⟨_,hn,_⟩:=I.loc;hn.lt
def Inv.sz(I:Inv X v0 σ H s):X.s₀.heap.objs.size≤s.heap.objs.size:=Cu I.ok.above (Cn I.lt)
def Inv.Vk(I:Inv X v0 σ H s)(h:s.heap.objs.size≤a):a∉X.fs:=λhb=>by
 let⟨_,⟨o,ho,_⟩⟩:=I.ok.mr.mem hb;show absurd (EF (B5 ho) (Cu I.sz h)) (GK _)
def Inv.Ov(I:Inv X v0 σ H s):∀x c,X.env.cells.lookup x=some c→c≠X.env.locals:=λx c e z=>by
 let⟨v,o,ho,hd⟩:=I.cell x c e;let⟨m,⟨o',es,ep,pZ,NY,_⟩,_⟩:=I.loc;rw[z,pZ]at ho;cases ho;rw[NY]at hd;cases hd
def Inv.mr(I:Inv X v0 σ H s):s.heap.FunFrames X.base X.outer:=by
 let all:∀(l:List Env),(∀b∈Dj l,b∈X.fs)→X.s₀.heap.FunFrames X.base l→s.heap.FunFrames X.base l:=by
  intro l;induction l with
  |nil=>intro _ _;trivial
  |cons env r ih=>
   intro hs hl;let⟨hk,⟨L,o,hf,hn,ho,hd⟩,hr⟩:=hl;let hL:L∈X.fs:=hs L (by unfold Dj;rw[RF,hf];show JZ);let⟨sl,e⟩:=I.base.slot L o ho (I.ok.Gx L hL) hL λz=>I.ok.qD L z hL;show⟨hk,Ψ2 L _ ⟨hf,hn,e,hd⟩,ih (λb hb=>hs b (by unfold Dj;rw[RF,hf];show DT _ hb)) hr⟩
 show all X.outer (λ_ hb=>hb) I.ok.mr
def Inv.stack(I:Inv X v0 σ H s):s.heap.FunFrames X.base X.stack:=by
 rcases I.ok.LL with e|⟨e,hf⟩
 ·rw[e];show I.mr
 ·rw[e]
  let⟨m,hn,_⟩:=I.loc;show .cons (by rw[I.ok.kind];decide) hf hn ?_ I.mr;show Heap.get?_none_of_le (Cu I.ok.F9 I.ok.above)
def Inv.uG(I:Inv X v0 σ H s):∀b∈Dj X.stack,b∈X.env.locals::X.fs:=λb hb=>by
 rcases I.ok.LL with e|⟨e,hf⟩
 ·rw[e]at hb;show DT _ hb
 ·rw[e]at hb
  unfold Dj at hb;rw[RF,hf]at hb;show hb
def Inv.qL(I:Inv X v0 σ H s):∀b∈Dj X.stack,H b=none:=λb hb=>by
 rcases aaf.mp (I.uG b hb)with e|hb
 ·rw[e];show I.free
 ·let⟨_,⟨o,ho,_⟩⟩:=I.ok.mr.mem hb
  show I.base.free b o ho (I.ok.Gx b hb) λz=>I.ok.qD b z hb
def Inv.step(I:Inv X v0 σ H s)
  (Gs:∀b∈ch,(b∈X.ex∨X.s₀.heap.objs.size≤b)∧b≠X.env.locals∧(∀x c,X.env.cells.lookup x=some c→c≠b)∧∀p∈X.pn++v0,p.1≠b)
  (keep:∀b o,b≠X.env.locals→b∉X.fs→b∉ch→s.heap.get? b=some o→H b=none→h'.get? b=some o)
  (slot:∀b o,b≠X.env.locals→b∈X.fs→b∉ch→s.heap.get? b=some o→H b=none→∃sl,h'.get? b=some {o with slots:=sl}) (free:∀b o,b∉ch→s.heap.get? b=some o→H b=none→H' b=none)
  (there:∀b o,b∉ch→s.heap.get? b=some o→∃o',h'.get? b=some o')
  (nq:∀b xs,H b=some (.tup xs)→H' b=some (.tup xs)) (m5:∀b o u,H b=some (.frz o u)→H' b=some (.frz o u)) (nt:∀b ps,H b=some (.tbl ps)→∃more,H' b=some (.tbl (ps++more)))
  (ns:∀m,s.heap.Ns X.env.locals m→h'.Ns X.env.locals m) (bC:mH X.prog X.w H' h') (hg:AllBare g') :
  Inv X v0 σ H' {s with heap:=h',gens:=g',drawn:=d',toks:=t'}:=by
 let XS:∀b o,X.s₀.heap.get? b=some o→b≠X.env.locals:=λb o e=>BB (EF (B5 e) I.ok.above);let TL:∀b o,X.s₀.heap.get? b=some o→b∉X.ex→b∉ch:=λb o e hx hb=>by
  rcases(Gs b hb).1 with z|z
  ·show hx z
  ·show absurd (EF (B5 e) z) (GK _)
 let cellK:∀x c,X.env.cells.lookup x=some c→∀v,s.heap.IsCell c v→h'.IsCell c v:=λx c e v ξ=>Ξ12 ξ λo ho hd=>by
  let E5:c∉ch:=λz=>(Gs c z).2.2.1 x c e rfl;by_cases hc:c∈X.fs
  ·let⟨sl,q⟩:=slot c o (I.Ov x c e) hc E5 ho (I.iN x c e)
   show⟨_,q,hd⟩
  ·show⟨o,keep c o (I.Ov x c e) hc E5 ho (I.iN x c e),hd⟩
 show⟨I.ok,I.os,hg,⟨λb o e n hb hx=>?_,λb o e n hb hx=>?_,λb o e n hx=>?_,λb o e hx=>?_,λb xs e=>nq b xs (I.base.nq b xs e),λb o xs e=>m5 b o xs (I.base.m5 b o xs e),λb ps e=>?_⟩,?_,λx c e=>?_,?_,λx c e=>?_,λp hp=>?_,bC,I.len⟩
 ·show keep b o (XS b o e) hb (TL b o e hx) (I.base.keep b o e n hb hx) (I.base.free b o e n hx)
 ·let⟨sl,e1⟩:=I.base.slot b o e n hb hx
  let⟨Z4,e2⟩:=slot b _ (XS b o e) hb (TL b o e hx) e1 (I.base.free b o e n hx);show⟨Z4,e2⟩
 ·let⟨o',e1⟩:=I.base.there b o e hx
  show free b o' (TL b o e hx) e1 (I.base.free b o e n hx)
 ·let⟨o',e1⟩:=I.base.there b o e hx
  show there b o' (TL b o e hx) e1
 ·let⟨m1,e1⟩:=I.base.nt b ps e
  let⟨m2,e2⟩:=nt b _ e1;show⟨m1++m2,by rw[e2,Array.append_assoc]⟩
 ·let⟨m,hn,hl⟩:=I.loc
  show⟨m,ns m hn,λi x v e1 e2 e3=>?_⟩;let⟨u,r,l⟩:=hl i x v e1 e2 e3;show⟨u,r,?_⟩;rcases l with l|⟨k,c,e,z⟩
  ·show .inl l
  ·show .inr ⟨k,c,e,cellK x c e _ z⟩
 ·let⟨v,z⟩:=I.cell x c e
  show⟨v,cellK x c e v z⟩
 ·let⟨m,⟨o,_,_,ho,_⟩,_⟩:=I.loc
  show free _ o (λz=>(Gs _ z).2.1 rfl) ho I.free
 ·let⟨v,o,ho,hd⟩:=I.cell x c e
  show free c o (λz=>(Gs c z).2.2.1 x c e rfl) ho (I.iN x c e)
 ·let⟨e,n,ne,nf,d⟩:=I.pin p hp
  let E5:p.1∉ch:=λz=>(Gs p.1 z).2.2.2 p hp rfl;show⟨keep p.1 p.2 ne nf E5 e n,free p.1 p.2 E5 e n,ne,nf,d⟩
def Inv.un(I:Inv X v0 σ H s)(u:Un X.fs [] H H' s.heap h')(bC:mH X.prog X.w H' h'):Inv X v0 σ H' {s with heap:=h',toks:=t'}:=by
 let⟨m,⟨o,es,ep,ho,r⟩,_⟩:=id I.loc;let⟨sl,hL⟩:=u.any ho I.free (by simp);show I.step (g':=s.gens) (d':=s.drawn) (ch:=[]) (λ_ z=>nomatch z) (λb o _ hb _ e n=>u.keep b o e n hb (by simp)) (λb o _ hb _ e n=>u.slot b o e n hb (by simp)) (λb o _ e n=>u.free b o e n (by simp)) (λb o _ e=>u.there b o e (by simp)) u.nq u.m5 u.nt (λm' hm=>by
  let⟨o',IS,IT,pZ,r'⟩:=hm;rw[ho]at pZ;cases pZ;show Ψ3 _ IS IT ⟨hL,r'⟩) bC I.bare
def Inv.call(I:Inv X v0 σ H s)(u:Un (Dj X.stack) ch H H' s.heap h')(bC:mH X.prog X.w H' h')(hg:AllBare g')
  (Gs:∀b∈ch,(b∈X.ex∨X.s₀.heap.objs.size≤b)∧b≠X.env.locals∧(∀x c,X.env.cells.lookup x=some c→c≠b)∧∀p∈X.pn++v0,p.1≠b) :
  Inv X v0 σ H' {s with heap:=h',gens:=g',drawn:=d',toks:=t'}:=by
 let⟨m,⟨o,es,ep,ho,r⟩,_⟩:=id I.loc;let⟨sl,hL⟩:=u.any ho I.free λz=>(Gs _ z).2.1 rfl;show I.step (ch:=ch) Gs (λb o hL hb hc e n=>u.keep b o e n (λz=>(aaf.mp (I.uG b z)).elim hL hb) hc) (λb o _ _ hc e n=>u.any e n hc) (λb o hc e n=>u.free b o e n hc) (λb o hc e=>u.there b o e hc) u.nq u.m5 u.nt (λm' hm=>by
  let⟨o',IS,IT,pZ,r'⟩:=hm;rw[ho]at pZ;cases pZ;show Ψ3 _ IS IT ⟨hL,r'⟩) bC hg
def Inv.turned(I:Inv X v0 σ H s)(k:∀b o,b≠it→s.heap.get? b=some o→h'.get? b=some o)(hn:H it=none)(hL:it≠X.env.locals)
  (h1:it∈X.ex∨X.s₀.heap.objs.size≤it) (h2:∀x c,X.env.cells.lookup x=some c→c≠it) (h3:∀p∈X.pn++v0,p.1≠it):Inv X v0 σ H {s with heap:=h',toks:=t'}:=by
 let XO:∀b u,H b=some u→b≠it:=λb u e z=>by rw[z,hn]at e;cases e
 show I.step (g':=s.gens) (d':=s.drawn) (ch:=[it]) (λb hb=>?_) (λb o _ _ hc e _=>k b o (λz=>hc (by simp[z])) e) (λb o _ _ hc e _=>⟨o.slots,k b o (λz=>hc (by simp[z])) e⟩) (λ_ _ _ _ n=>n)
  (λb o hc e=>⟨o,k b o (λz=>hc (by simp[z])) e⟩) (λ_ _ e=>e) (λ_ _ _ e=>e) (λb ps e=>⟨#[],by rw[e];simp⟩) (λm hm=>?_) (λb u e=>?_) I.bare
 ·let e:b=it:=by simpa using hb
  subst e;show⟨h1,hL,h2,h3⟩
 ·let⟨o,es,ep,ho,r⟩:=hm
  show Ψ3 o es ep ⟨k _ o (C3 hL) ho,r⟩
 ·show(I.bC b u e).tE (λc v hc q=>k c v ?_ q) (λ_ q=>q) λ_ _ q=>q
  rcases hc with z|z
  ·rw[z];show XO b u e
  ·show XO c _ z
def Inv.tok(I:Inv X v0 σ H s)(t:Nat):Inv X v0 σ H {s with toks:=t}:=I.un (h':=s.heap) (t':=t) Un.refl I.bC
def Inv.kept(I:Inv X v0 σ H s)(k:∀b u,s.heap.get? b=some u→h'.get? b=some u):Inv X v0 σ H {s with heap:=h',toks:=t'}:=I.un (Un.kept k) (I.bC.kept k)
def Inv.laid(I:Inv X v0 σ H s)(k:∀b u,s.heap.get? b=some u→h'.get? b=some u)(hp:s.heap.objs.size≤a)(new:bj X.prog X.w (AI H a o) h' a o):
  Inv X v0 σ (AI H a o) {s with heap:=h',toks:=t'}:=I.un (Un.laid k hp (I.bC.fresh hp)) (I.bC.laid k hp new)
def Inv.write{x e:Addr}(I:Inv X v0 σ H s)(mu:JX (H x))(he:e=x∨H e=some (.own x))(k:∀b u,b≠e→s.heap.get? b=some u→h'.get? b=some u)(OY:∃u,h'.get? e=some u)
  (new:bj X.prog X.w (AI H x o) h' x o):Inv X v0 σ (AI H x o) {s with heap:=h',toks:=t'}:=I.un (Un.write mu he k OY) (I.bC.write mu he k OY new)
def Inv.Az{rM:ac}(I:Inv X v0 σ H s)(h:∀p∈rM,s.heap.get? p.1=some p.2∧H p.1=none∧p.1≠X.env.locals∧p.1∉X.fs∧∀v,p.2.data≠.cell v):Inv X rM σ H s:=
 ⟨I.ok,I.os,I.bare,I.base,I.loc,I.cell,I.free,I.iN,λp hp=>(aaG.mp hp).elim (λz=>I.pin p (He _ z)) (h p),I.bC,I.len⟩
def bA(hN:N.Nodup)(a:N[i]?=some x)(b:N[j]?=some x):i=j:=by
 obtain⟨h1,e1⟩:=aaE.mp a;obtain⟨h2,e2⟩:=aaE.mp b;show(List.getElem_inj hN).mp (e1.trans e2.symm)
def eU{Q:Unit→Shared→Prop}(I:Inv X v0 σ H s)(hN:X.N.Nodup)(hi:X.N[i]?=some x)(hx:HD X.env.scope x)(r:RelV v u)
  (h:∀s',Inv X v0 (σ.set i (some v)) H s'→(∃a,Heap.SameBut a s.heap s'.heap∧(a=X.env.locals∨X.env.cells.lookup x=some a))→Q () s') (hf:Fk X x:=by first|show .inl rfl|show .inr rfl|assumption):wpAny M A (storeName X.env x u) Q E s:=by
 let⟨m,hn,hl⟩:=id I.loc;have Wf:(X.env.scope.kind == .class||(X.env.scope.kind == .module&&X.env.locals != X.env.globals))=false:=by rw[I.ok.kind];rfl
 let Yo:i<σ.length:=by rw[I.len];show(aaE.mp hi).1
 let Ov:=I.Ov;let tracked:∀{a:Addr} {h':Heap},(∃o,s.heap.get? a=some o∧H a=none)→Heap.SameBut a s.heap h'→mH X.prog X.w H h':=λ{a h'} ha hs b ob e=>by
  let⟨_,_,KO⟩:=ha;show(I.bC b ob e).tE (λc w' hc q=>(hs.2 c ?_).trans q) (λ_ q=>q) λ_ _ q=>q;rintro rfl;rcases hc with rfl|hc
  ·rw[KO]at e;cases e
  ·rw[KO]at hc;cases hc
 rcases hx with hk|hk
 ·show wpAny_storeName_local hk hn (λh' V5 hs=>?_) Wf
  let⟨oL,_,_,hoL,_⟩:=id hn;show h _ ⟨I.ok,I.os,I.bare,⟨λb o e n hb hx=>?_,λb o e n hb hx=>?_,I.base.free,λb o e hx=>?_,I.base.nq,I.base.m5,I.base.nt⟩,⟨_,V5,λj y v' e1 e2 e3=>?_⟩,λy c e=>?_,I.free,I.iN,λp hp=>?_,tracked ⟨oL,hoL,I.free⟩ hs,by simpa using I.len⟩ ⟨_,hs,.inl rfl⟩
  ·show(hs.2 b (BB (EF (B5 e) I.ok.above))).trans (I.base.keep b o e n hb hx)
  ·let⟨sl,e1⟩:=I.base.slot b o e n hb hx
   show⟨sl,(hs.2 b (BB (EF (B5 e) I.ok.above))).trans e1⟩
  ·let⟨o',e1⟩:=I.base.there b o e hx
   show⟨o',(hs.2 b (BB (EF (B5 e) I.ok.above))).trans e1⟩
  ·by_cases hj:j=i
   ·subst hj
    rw[hi]at e1;cases e1;rw[List.getElem?_set_self Yo]at e2;cases e2;show⟨u,r,.inl ⟨hk,by simp⟩⟩
   ·rw[List.getElem?_set_ne (C3 hj)]at e2
    let⟨u',r',q⟩:=hl j y v' e1 e2 e3;show⟨u',r',?_⟩;rcases q with⟨k,e⟩|⟨k,c,e,z⟩
    ·show .inl ⟨k,?_⟩
     have:y≠x:=λe=>hj (bA hN e1 (e ▸ hi));simp[this,e]
    ·show .inr ⟨k,c,e,z.sameBut hs (Ov y c e)⟩
  ·let⟨w',z⟩:=I.cell y c e
   show⟨w',z.sameBut hs (Ov y c e)⟩
  ·let⟨e,n,ne,nf,d⟩:=I.pin p hp
   show⟨(hs.2 p.1 ne).trans e,n,ne,nf,d⟩
 ·let Wb:X.fn x=true:=by
   rcases hf with z|z
   ·show z
   ·rw[z]at hk;cases hk
  let⟨c,hc⟩:=I.ok.has x (.inl hk);let⟨w',z⟩:=I.cell x c hc;show wpAny_storeName_cell I.ok.kind hk hc z (λh' Gu hs=>?_);let⟨oc,T4,V4⟩:=id z;show h {s with heap:=h'} ⟨I.ok,I.os,I.bare,⟨λb o e n hb hx=>?_,λb o e n hb hx=>?_,I.base.free,λb o e hx=>?_,I.base.nq,I.base.m5,I.base.nt⟩,⟨m,hn.sameBut hs (C3 (Ov x c hc)),λj y v' e1 e2 e3=>?_⟩,λy c' e=>?_,I.free,I.iN,λp hp=>?_,tracked ⟨oc,T4,I.iN x c hc⟩ hs,by simpa using I.len⟩ ⟨c,hs,.inr hc⟩
  ·show(hs.2 b (BB (EF (B5 e) (I.ok.La x c Wb hc)))).trans (I.base.keep b o e n hb hx)
  ·let⟨sl,e1⟩:=I.base.slot b o e n hb hx
   show⟨sl,(hs.2 b (BB (EF (B5 e) (I.ok.La x c Wb hc)))).trans e1⟩
  ·let⟨o',e1⟩:=I.base.there b o e hx
   show⟨o',(hs.2 b (BB (EF (B5 e) (I.ok.La x c Wb hc)))).trans e1⟩
  ·by_cases hj:j=i
   ·subst hj
    rw[hi]at e1;cases e1;rw[List.getElem?_set_self Yo]at e2;cases e2;show⟨u,r,.inr ⟨.inl hk,c,hc,Gu⟩⟩
   ·rw[List.getElem?_set_ne (C3 hj)]at e2
    let⟨u',r',q⟩:=hl j y v' e1 e2 e3;show⟨u',r',?_⟩;rcases q with q|⟨k,c',e,z'⟩
    ·show .inl q
    ·show .inr ⟨k,c',e,z'.sameBut hs ?_⟩
     rintro rfl;show hj (bA hN e1 (I.ok.inj _ _ _ e hc ▸ hi))
  ·by_cases Yu:c'=c
   ·subst Yu;show⟨_,Gu⟩
   ·let⟨w2,z2⟩:=I.cell y c' e
    show⟨w2,z2.sameBut hs Yu⟩
  ·let⟨e,n,ne,nf,d⟩:=I.pin p hp
   show⟨(hs.2 p.1 ?_).trans e,n,ne,nf,d⟩;intro q;rw[q,T4]at e;let q':oc=p.2:=EJ e;show d w' (by rw[←q'];show V4)
def RH{Q:Unit→Shared→Prop}(I:Inv X v0 σ H s)(hN:X.N.Nodup)(hi:X.N[i]?=some x)(hx:HD X.env.scope x)(r:RelV v u)
  (h:∀s',Inv X v0 (σ.set i (some v)) H s'→Q () s') (hf:Fk X x:=by first|show .inl rfl|show .inr rfl|assumption):wpAny M A (storeName X.env x u) Q E s:=
 eU I hN hi hx r (λs' I' _=>h s' I') hf
def Inv.K9(I:Inv X v0 σ H s)(ho:s'.os=s.os)(u:Un (Dj X.stack) ch H H' s.heap s'.heap)(bC:mH X.prog X.w H' s'.heap)(hg:AllBare s'.gens)
  (Gs:∀b∈ch,(b∈X.ex∨X.s₀.heap.objs.size≤b)∧b≠X.env.locals∧(∀x c,X.env.cells.lookup x=some c→c≠b)∧∀p∈X.pn++v0,p.1≠b):Inv X v0 σ H' s':=by
 obtain⟨h',g',d',t',o'⟩:=s';let e:o'=s.os:=ho;subst e;show I.call (g':=g') (t':=t') (d':=d') u bC hg Gs
end
abbrev BD:=Value→Option Addr→A4→Prop
abbrev St:=List (Option V)
abbrev An:=V→A4→Prop
abbrev AQ:=St→A4→An→Prop
abbrev CR:=St→A4→(Bool→A4→Prop)→Prop
abbrev CM:=St→A4→(List V→A4→Prop)→Prop
structure Ends where
 nx:St→A4→Prop
 rt:An
 bk:St→A4→Prop:=λ_ _=>False
 ct:St→A4→Prop:=λ_ _=>False
abbrev Be:=Ends→St→A4→Prop
abbrev BX(X:Cx)(v0:ac)(σ:St)(Q:An)(u:Value)(s':Shared):Prop:=∃v H',Inv X v0 σ H' s'∧RelV v u∧Q v H'
abbrev Jk(X:Cx)(v0:ac)(σ:St)(Q:Bool→A4→Prop)(b:Bool)(s':Shared):Prop:=∃H',Inv X v0 σ H' s'∧Q b H'
abbrev PD(X:Cx)(v0:ac)(σ:St)(Q:List V→A4→Prop)(us:List Value)(s':Shared):Prop:=∃vs H',Inv X v0 σ H' s'∧Vals vs us∧Q vs H'
abbrev SP(X:Cx)(v0:ac)(D:Ends)(f:Flow)(s':Shared):Prop:=
 match f with
 |.next=>∃σ' H',Inv X v0 σ' H' s'∧D.nx σ' H'
 |.brk=>∃σ' H',Inv X v0 σ' H' s'∧D.bk σ' H'
 |.cont=>∃σ' H',Inv X v0 σ' H' s'∧D.ct σ' H'
 |.ret u=>∃v σ' H',Inv X v0 σ' H' s'∧RelV v u∧D.rt v H'
structure PE(X:Cx)(e:Expr)(t:AQ):Prop where
 run:∀v0 s σ H (Q:An),Inv X v0 σ H s→t σ H Q→wpAny (model X.prog X.w) X.A (eval e X.env) (BX X v0 σ Q) X.xe s
instance {X:Cx}{e:Expr}{t:AQ}:CoeFun (PE X e t) λ_=>∀v0 s σ H (Q:An),Inv X v0 σ H s→t σ H Q→wpAny (model X.prog X.w) X.A (eval e X.env) (BX X v0 σ Q) X.xe s:=⟨PE.run⟩
structure PT(X:Cx)(e:Expr)(t:CR):Prop where
 run:∀v0 s σ H (Q:Bool→A4→Prop),Inv X v0 σ H s→t σ H Q→wpAny (model X.prog X.w) X.A (isTrue e X.env (eval e X.env)) (Jk X v0 σ Q) X.xe s
instance {X:Cx}{e:Expr}{t:CR}:CoeFun (PT X e t) λ_=>∀v0 s σ H (Q:Bool→A4→Prop),Inv X v0 σ H s→t σ H Q→wpAny (model X.prog X.w) X.A (isTrue e X.env (eval e X.env)) (Jk X v0 σ Q) X.xe s:=⟨PT.run⟩
structure PW(X:Cx)(e:Expr)(t:CR):Prop where
 run:∀(whole:Sem Value) v0 s σ H (Q:Bool→A4→Prop),Inv X v0 σ H s→t σ H Q→wpAny (model X.prog X.w) X.A (isTrue e X.env whole) (Jk X v0 σ Q) X.xe s
instance {X:Cx}{e:Expr}{t:CR}:CoeFun (PW X e t) λ_=>∀(whole:Sem Value) v0 s σ H (Q:Bool→A4→Prop),Inv X v0 σ H s→t σ H Q→wpAny (model X.prog X.w) X.A (isTrue e X.env whole) (Jk X v0 σ Q) X.xe s:=⟨PW.run⟩
def PW.pt{X:Cx}{t:CR}(h:PW X e t):PT X e t:=⟨h.run _⟩
structure PA(X:Cx)(es:List Expr)(t:CM):Prop where
 run:∀(pos:Pos) v0 s σ H (Q:List V→A4→Prop),Inv X v0 σ H s→t σ H Q→wpAny (model X.prog X.w) X.A (spliced (backTo pos (starEach es X.env))) (PD X v0 σ Q) X.xe s
instance {X:Cx}{es:List Expr}{t:CM}:CoeFun (PA X es t) λ_=>∀(pos:Pos) v0 s σ H (Q:List V→A4→Prop),Inv X v0 σ H s→t σ H Q→wpAny (model X.prog X.w) X.A (spliced (backTo pos (starEach es X.env))) (PD X v0 σ Q) X.xe s:=⟨PA.run⟩
structure PS(X:Cx)(st:Stmt)(t:Be):Prop where
 run:∀v0 s σ H (D:Ends),Inv X v0 σ H s→t D σ H→wpAny (model X.prog X.w) X.A (exec st X.env) (SP X v0 D) X.xe s
instance {X:Cx}{st:Stmt}{t:Be}:CoeFun (PS X st t) λ_=>∀v0 s σ H (D:Ends),Inv X v0 σ H s→t D σ H→wpAny (model X.prog X.w) X.A (exec st X.env) (SP X v0 D) X.xe s:=⟨PS.run⟩
structure mv(X:Cx)(st:List Stmt)(t:Be):Prop where
 run:∀v0 s σ H (D:Ends),Inv X v0 σ H s→t D σ H→wpAny (model X.prog X.w) X.A (execs st X.env) (SP X v0 D) X.xe s
instance {X:Cx}{st:List Stmt}{t:Be}:CoeFun (mv X st t) λ_=>∀v0 s σ H (D:Ends),Inv X v0 σ H s→t D σ H→wpAny (model X.prog X.w) X.A (execs st X.env) (SP X v0 D) X.xe s:=⟨mv.run⟩
def AF{α:Type}{t:Sem α}{Q Q':α→Shared→Prop}(h:wpAny M A t Q E s)(hQ:∀a s,Q a s→Q' a s):wpAny M A t Q' E s:=BV h hQ λ_ _ x=>x
section
abbrev acp(i:Nat):AQ:=λσ H Q=>∃v,σ[i]?=some (some v)∧Q v H
abbrev Ir(v:V):AQ:=λ_ H Q=>Q v H
def oq{pos:Pos}(hN:X.N[i]?=some x)(hv:JY X.env.scope x)(hd:(x ==("__debug__" : Str))=false:=by decide)(xj:(x ==("__classdict__" : Str))=false:=by decide):PE X (.Name x pos) (acp i):=by
 show .mk ?_;intro v0 s σ H Q I h;obtain⟨v,e,h⟩:=h;let⟨m,hn,hl⟩:=I.loc;let⟨u,r,l⟩:=hl i x v hN e hv;let fin:BX X v0 σ Q u s:=Ψ2 v H ⟨I,r,h⟩;rcases l with⟨hk,hm⟩|⟨hk,c,hc,sk⟩
 ·show KA (QU I.ok.kind hk hn hm fin) hd
 ·rcases hk with hk|hk
  ·show KA (Qd I.ok.kind hk hc sk fin) hd
  ·show KA (wpAny_loadName_free I.ok.kind hk hc sk fin xj) hd
def rH{i j pos}:PE X (.Constant (.int i) j pos) (Ir (.int i)):=.mk λ_ _ _ H _ I h=>wpAny_Constant_int ⟨.int i,H,I.tok _,⟨_,rfl⟩,h⟩
def nF{b j pos}:PE X (.Constant (.bool b) j pos) (Ir (.bl b)):=.mk λ_ _ _ H _ I h=>Constant_bool ⟨.bl b,H,I,rfl,h⟩
def yP{j pos}:PE X (.Constant .none j pos) (Ir .non):=.mk λ_ _ _ H _ I h=>Constant_none ⟨.non,H,I,rfl,h⟩
def qQ{x j pos}:PE X (.Constant (.str x) j pos) (Ir (.str x)):=.mk λ_ _ _ H _ I h=>Calls.Constant_str ⟨.str x,H,I.tok _,⟨_,rfl⟩,h⟩
abbrev Bk(X:Cx)(x:Str):Prop:=X.env.kindOf x=some .globalImplicit
def Ka{pos:Pos}(I:Inv X v0 σ H s)(hg:Bk X x)(hm:X.mg x=some u)(h:Q u s)
  (hd:(x ==("__debug__" : Str))=false:=by decide):wpAny (model X.prog X.w) X.A (eval (.Name x pos) X.env) Q E s:=
 Calls.Name_function_global I.ok.kind hg (Calls.loadGlobal_global (by rw[I.ok.glob];show I.mod.glob.keeps I.bk) hm h) hd
def K3{pos:Pos}(I:Inv X v0 σ H s)(hg:Bk X x)(hm:X.mg x=none)(hv:bootBuiltins x=some u)(h:Q u s)
  (hn:x ≠ "__name__" := by decide) (hd:(x ==("__debug__" : Str))=false:=by decide):wpAny (model X.prog X.w) X.A (eval (.Name x pos) X.env) Q E s:=by
 let⟨mb,h1,h2⟩:=I.mod.blt;show Calls.Name_function_global I.ok.kind hg (Calls.loadGlobal_builtin (by rw[I.ok.glob];show I.mod.glob.keeps I.bk) hm (by rw[I.ok.blt];show h1.keeps I.bk) ((h2 x hn).trans hv) h) hd
def pM{pos:Pos}(hg:Bk X x)(hm:X.mg x=some u)(r:RelV v u)(hd:(x ==("__debug__" : Str))=false:=by decide):PE X (.Name x pos) (Ir v):=
 .mk λ_ _ _ H _ I h=>Ka I hg hm ⟨v,H,I,r,h⟩ hd
def aaX{pos:Pos}(hg:Bk X x)(hm:X.mg x=none)(hv:bootBuiltins x=some u)(r:RelV v u)(hn:x ≠ "__name__" := by decide)(hd:(x ==("__debug__" : Str))=false:=by decide):PE X (.Name x pos) (Ir v):=
 .mk λ_ _ _ H _ I h=>K3 I hg hm hv ⟨v,H,I,r,h⟩ hn hd
variable {a b: Expr}
structure PC(X:Cx)(op:CmpOp)(a b:Expr)(t:AQ):Prop where
 run:∀v0 s σ H (Q:An),Inv X v0 σ H s→t σ H Q→
  wpAny (model X.prog X.w) X.A (eval a X.env) (λv s₁=>wpAny (model X.prog X.w) X.A (eval b X.env) (λu s₂=>wpAny (model X.prog X.w) X.A (compareOp op v u) (BX X v0 σ Q) X.xe s₂) X.xe s₁) X.xe s
instance {X:Cx}{op:CmpOp}{a b:Expr}{t:AQ}:CoeFun (PC X op a b t) λ_=>∀v0 s σ H (Q:An),Inv X v0 σ H s→t σ H Q→wpAny (model X.prog X.w) X.A (eval a X.env) (λv s₁=>wpAny (model X.prog X.w) X.A (eval b X.env) (λu s₂=>wpAny (model X.prog X.w) X.A (compareOp op v u) (BX X v0 σ Q) X.xe s₂) X.xe s₁) X.xe s:=⟨PC.run⟩
abbrev K7(t:AQ):CR:=λσ H Q=>t σ H λx H1=>∃c,x=.bl c∧Q c H1
def PIp{t:AQ}(h:PE X e t)(he:∀whole,isTrue e X.env whole=(do let v ←whole;standAt e.pos;holding [v] (truthy v)):=by intro _;rfl):PT X e (K7 t):=by
 show .mk ?_;intro v0 s σ H Q I hw;show isTrue_plain (AF (h v0 s σ H _ I hw) λv s1 ξ=>Ξ23 ξ λx H1 I1 r1 q1=>?_) (he _);let⟨d,rfl,q⟩:=q1;cases r1;show HE ⟨H1,I1,q⟩
variable {tA Tt: CR}{v4: List Expr}
abbrev oR(t u:CR):CR:=λσ H Q=>t σ H λc H1=>if c=true then u σ H1 Q else Q false H1
abbrev yU(t u:CR):CR:=λσ H Q=>t σ H λc H1=>if c=true then Q true H1 else u σ H1 Q
abbrev vU(t:CR):CR:=λσ H Q=>t σ H λc H1=>Q (!c) H1
def abJ(ha:PT X a tA):PW X (.BoolOp .And [a] pos) tA:=by
 show .mk ?_;intro wh v0 s σ H Q I h;show isTrue_and (AF (ha v0 s σ H Q I h) λc s1 e=>?_);cases c with
 |true=>show isTrue_and_nil e
 |false=>show e
def oS(ha:PT X a tA):PW X (.BoolOp .Or [a] pos) tA:=by
 show .mk ?_;intro wh v0 s σ H Q I h;show isTrue_or (AF (ha v0 s σ H Q I h) λc s1 e=>?_);cases c with
 |false=>show isTrue_or_nil e
 |true=>show e
def vx(ha:PT X a tA)(hb:PW X (.BoolOp .And (b::v4) pos) Tt):PW X (.BoolOp .And (a::b::v4) pos) (oR tA Tt):=by
 show .mk ?_;intro wh v0 s σ H Q I h;show isTrue_and (AF (ha v0 s σ H _ I h) λc s1 ξ=>Ξ12 ξ λH1 I1 q1=>?_);cases c with
 |true=>show hb wh v0 s1 σ H1 Q I1 q1
 |false=>show⟨H1,I1,q1⟩
def zD(ha:PT X a tA)(hb:PW X (.BoolOp .Or (b::v4) pos) Tt):PW X (.BoolOp .Or (a::b::v4) pos) (yU tA Tt):=by
 show .mk ?_;intro wh v0 s σ H Q I h;show isTrue_or (AF (ha v0 s σ H _ I h) λc s1 ξ=>Ξ12 ξ λH1 I1 q1=>?_);cases c with
 |true=>show⟨H1,I1,q1⟩
 |false=>show hb wh v0 s1 σ H1 Q I1 q1
def qR(ha:PT X a tA):PT X (.UnaryOp .Not a pos) (vU tA):=by
 show .mk ?_;intro v0 s σ H Q I h;show isTrue_not (ha v0 s σ H (λc H1=>Q (!c) H1) I h)
abbrev sy(ta tb:AQ):AQ:=λσ H Q=>ta σ H λx H1=>∃c,x=.bl c∧if c=true then tb σ H1 Q else Q (.bl false) H1
abbrev wy(ta tb:AQ):AQ:=λσ H Q=>ta σ H λx H1=>∃c,x=.bl c∧if c=true then Q (.bl true) H1 else tb σ H1 Q
abbrev eDn(ta:AQ):AQ:=λσ H Q=>ta σ H λx H1=>∃c,x=.bl c∧Q (.bl (!c)) H1
def ac8{op}{t:AQ}(h:PE X a t):PE X (.BoolOp op [a] pos) t:=.mk λv0 s σ H Q I hw=>BoolOp_one (h v0 s σ H Q I hw)
def qz(ha:PE X a ta)(hb:PE X (.BoolOp .And (b::v4) pos) tb):PE X (.BoolOp .And (a::b::v4) pos) (sy ta tb):=by
 show .mk ?_;intro v0 s σ H Q I h;show BoolOp_and (AF (ha v0 s σ H _ I h) λv s1 ξ=>Ξ23 ξ λx H1 I1 r1 q1=>?_);obtain⟨c,rfl,q1⟩:=q1;cases r1;show HE ?_;cases c with
 |true=>show hb v0 s1 σ H1 Q I1 q1
 |false=>show Ψ2 (.bl false) H1 ⟨I1,rfl,q1⟩
def acM(ha:PE X a ta)(hb:PE X (.BoolOp .Or (b::v4) pos) tb):PE X (.BoolOp .Or (a::b::v4) pos) (wy ta tb):=by
 show .mk ?_;intro v0 s σ H Q I h;show BoolOp_or (AF (ha v0 s σ H _ I h) λv s1 ξ=>Ξ23 ξ λx H1 I1 r1 q1=>?_);obtain⟨c,rfl,q1⟩:=q1;cases r1;show HE ?_;cases c with
 |false=>show hb v0 s1 σ H1 Q I1 q1
 |true=>show Ψ2 (.bl true) H1 ⟨I1,rfl,q1⟩
def vI(ha:PE X a ta):PE X (.UnaryOp .Not a pos) (eDn ta):=by
 show .mk ?_;intro v0 s σ H Q I h;show UnaryOp_ (AF (ha v0 s σ H _ I h) λv s1 ξ=>Ξ23 ξ λx H1 I1 r1 q1=>?_);obtain⟨c,rfl,q1⟩:=q1;cases r1;show not_of (HE ⟨.bl (!c),H1,I1,rfl,q1⟩)
end
abbrev lI(K:W.Frag)(H:A4)(a:Addr)(xs:List V):Prop:=
 Rd H a (.lst xs) ∨
  ∃(o:Obj) (bf:Array Value) (n:Nat),K.lookup a=some o∧o.cls=.type "list" ∧ o.dict=none∧o.data=.seq bf n∧bf.size≤sizeLine∧Vals xs bf.toList
abbrev dG(K:W.Frag)(H:A4)(a:Addr)(xs:List V):Prop:=
 Rd H a (.tup xs) ∨
  ∃(o:Obj) (bf:Array Value) (n:Nat),K.lookup a=some o∧o.cls=.type "tuple" ∧ o.data=.seq bf n∧bf.size≤sizeLine∧Vals xs bf.toList
abbrev yW:Value→Option V
 |.none=>some .non
 |.bool b=>some (.bl b)
 |.int i _=>some (.int i)
 |.str x _=>some (.str x)
 |.bytes b _=>some (.byt b)
 |.float b _=>some (.flt b)
 |.ref a=>some (.ref a)
 |.type n=>some (.ty n)
 |_=>none
def RelV.abs{x:V}(r:RelV x u):yW u=some x:=by
 cases x with
 |non=>cases r;rfl
 |bl _=>cases r;rfl
 |int _=>let⟨t,rfl⟩:=r;rfl
 |str _=>let⟨t,rfl⟩:=r;rfl
 |byt _=>let⟨t,rfl⟩:=r;rfl
 |flt _=>let⟨t,rfl⟩:=r;rfl
 |ref _=>cases r;rfl
 |ty _=>cases r;rfl
def RelV.inj{x:V}(r:RelV x u)(q:RelV y u):x=y:=EJ (r.abs.symm.trans q.abs)
def Vals.inj:∀{xs ys:List V} {us:List Value},Vals xs us→Vals ys us→xs=ys
 |_,_,_,.nil,.nil=>rfl
 |_,_,_,.cons r t,.cons r' t'=>by rw[r.inj r',Vals.inj t t']
section
variable {v0: List (Addr×Obj)}{σ: St}{H: A4}{s: Shared}{a: Addr}{xs ys: List V}
def lI.of(h:H a=some (.lst xs)):lI K H a xs:=.inl (.inl h)
def dG.of(h:H a=some (.tup xs)):dG K H a xs:=.inl (.inl h)
def Inv.list(I:Inv X v0 σ H s)(h:lI X.K H a xs):∃bf:List Value,Vals xs bf∧PlainL s.heap a bf.toArray∧xs.length≤sizeLine:=by
 rcases h with h|⟨o,bf,n,hk,hc,hd,hs,hz,r⟩
 ·let⟨z,⟨bf,n,r,e⟩⟩:=h.ok I.bC
  show⟨bf,r,Ψ2 _ n ⟨e,rfl,rfl,rfl⟩,z⟩
 ·show⟨bf.toList,r,Ψ2 o n ⟨I.nQ a o hk,hc,hd,by simpa using hs⟩,?_⟩
  let e:=r.length;simp only[Hy]at e;lia
def Inv.tuple(I:Inv X v0 σ H s)(h:dG X.K H a xs):∃bf:List Value,Vals xs bf∧IsTup s.heap a bf.toArray∧xs.length≤sizeLine:=by
 rcases h with h|⟨o,bf,n,hk,hc,hs,hz,r⟩
 ·let⟨z,⟨bf,r,p⟩⟩:=h.ok I.bC
  show⟨bf,r,p,z⟩
 ·show⟨bf.toList,r,⟨o,I.nQ a o hk,hc,n,by simpa using hs⟩,?_⟩
  let e:=r.length;simp only[Hy]at e;lia
def Inv.E9(I:Inv X v0 σ H s)(h:lI X.K H a xs)(h':lI X.K H a ys):xs=ys:=by
 let⟨bf,r,⟨o,n,e,_,_,d⟩,_⟩:=I.list h;let⟨v6',r',⟨o',n',e',_,_,d'⟩,_⟩:=I.list h';rw[e]at e';cases e';rw[d]at d';injection d' with d1 _
 have:bf=v6':=by simpa using DV Array.toList d1
 subst this;show r.inj r'
def Inv.lS(I:Inv X v0 σ H s)(h:dG X.K H a xs)(h':dG X.K H a ys):xs=ys:=by
 let⟨bf,r,⟨o,e,_,⟨n,d⟩⟩,_⟩:=I.tuple h;let⟨v6',r',⟨o',e',_,⟨n',d'⟩⟩,_⟩:=I.tuple h';rw[e]at e';cases e';rw[d]at d';injection d' with d1 _
 have:bf=v6':=by simpa using DV Array.toList d1
 subst this;show r.inj r'
end
@[reducible]def Cx.tD(X:Cx)(E:xz):Cx:={X with xe:=E}
@[reducible]def Cx.i0(X:Cx):Cx:=X.tD λ_ _=>False
def Cx.Ok.tD{X:Cx}(ok:X.Ok)(E:xz):(X.tD E).Ok:=
 ⟨ok.mod,ok.kind,ok.glob,ok.blt,ok.above,ok.inj,ok.has,ok.La,ok.hd,ok.frames,ok.LL,ok.Gy,ok.bs,ok.F9,ok.w6,ok.qD,ok.mr,ok.Gx⟩
def Cx.Ok.kG{X:Cx}(ok:(X.tD E).Ok):X.Ok:=
 ⟨ok.mod,ok.kind,ok.glob,ok.blt,ok.above,ok.inj,ok.has,ok.La,ok.hd,ok.frames,ok.LL,ok.Gy,ok.bs,ok.F9,ok.w6,ok.qD,ok.mr,ok.Gx⟩
section
variable {v0: List (Addr×Obj)}{σ: St}{H: A4}{s: Shared}{E: Value→Shared→Prop}
def Inv.tD(I:Inv X v0 σ H s)(E:xz):Inv (X.tD E) v0 σ H s:=⟨I.ok.tD E,I.os,I.bare,I.base,I.loc,I.cell,I.free,I.iN,I.pin,I.bC,I.len⟩
def Inv.kG(I:Inv (X.tD E) v0 σ H s):Inv X v0 σ H s:=⟨I.ok.kG,I.os,I.bare,I.base,I.loc,I.cell,I.free,I.iN,I.pin,I.bC,I.len⟩
def SP.kG{D:Ends}{f:Flow}(h:SP (X.tD E) v0 D f s'):SP X v0 D f s':=by
 cases f with
 |next=>let⟨σ',H',I,q⟩:=h;show Ψ2 σ' H' ⟨I.kG,q⟩
 |brk=>let⟨σ',H',I,q⟩:=h;show Ψ2 σ' H' ⟨I.kG,q⟩
 |cont=>let⟨σ',H',I,q⟩:=h;show Ψ2 σ' H' ⟨I.kG,q⟩
 |ret u=>let⟨v,σ',H',I,r,q⟩:=h;show Ψ3 v σ' H' ⟨I.kG,r,q⟩
def mv.i0{st:List Stmt}{t:Be}(h:mv X.i0 st t):mv X st t:=.mk λv0 s σ H D I hw=>
 BV (h v0 s σ H D (I.tD _) hw) (λ_ _ q=>q.kG) λ_ _ z=>False.elim z
end
section
variable {st: Stmt}{v4: List Stmt}{t u: Be}{e: Expr}{te: AQ}
abbrev abn:Be:=λD σ H=>D.nx σ H
abbrev uJ(t u:Be):Be:=λD σ H=>t {D with nx:=u D} σ H
def zF:mv X [] abn:=.mk λ_ _ σ H _ I h=>PM ⟨σ,H,I,h⟩
def qJ(h1:PS X st t)(h2:mv X v4 u):mv X (st::v4) (uJ t u):=by
 show .mk ?_;intro v0 s σ H D I h;show wpAny_execs_cons (AF (h1 v0 s σ H {D with nx:=u D} I h) λf s1 q=>?_);cases f with
 |next=>
  obtain⟨σ',H',I',q⟩:=q;show h2 v0 s1 σ' H' D I' q
 |ret v=>show q
 |brk=>show q
 |cont=>show q
def Inv.quiet(I:Inv X v0 σ H s):interactive X.env=false:=by simp[interactive,I.ok.kind]
abbrev oW(te:AQ):Be:=λD σ H=>te σ H λ_ H1=>D.nx σ H1
def pO(he:PE X e te)(hs:swapsWith e none pos.line X.env=pure false:=by rfl):PS X (.Expr e pos) (oW te):=by
 show .mk ?_;intro v0 s σ H D I h;show wpAny_Expr_any (AF (he v0 s σ H _ I h) λv s1 ξ=>Ξ23 ξ λx H1 I1 r1 q1=>Ψ2 σ H1 ⟨I1,q1⟩) I.quiet hs
abbrev ye(te:AQ):Be:=λD σ H=>te σ H D.rt
def sv(he:PE X e te):PS X (.Return (some e) pos) (ye te):=by
 show .mk ?_;intro v0 s σ H D I h;show wpAny_Return_some (AF (he v0 s σ H _ I h) λv s1 ξ=>Ξ23 ξ λx H1 I1 r1 q1=>Ψ3 x σ H1 ⟨I1,r1,q1⟩)
abbrev ab6(c:CR)(t u:Be):Be:=λD σ H=>c σ H λb H1=>if b=true then t D σ H1 else u D σ H1
def abv{a b:List Stmt}(hc:PT X c tc)(ha:mv X a t)(hb:mv X b u):PS X (.If c a b pos) (ab6 tc t u):=by
 show .mk ?_;intro v0 s σ H D I h;show wpAny_If (AF (hc v0 s σ H _ I h) λd s1 ξ=>Ξ12 ξ λH1 I1 q1=>?_);cases d with
 |true=>show ha v0 s1 σ H1 D I1 q1
 |false=>show hb v0 s1 σ H1 D I1 q1
end
abbrev DL:=V→St→A4→(St→A4→Prop)→Prop
abbrev GS:=List V→St→A4→(St→A4→Prop)→Prop
structure PG(X:Cx)(target:Expr)(t:DL):Prop where
 run:∀v0 s σ H (v:V) (u:Value) (Q:St→A4→Prop),Inv X v0 σ H s→RelV v u→t v σ H Q→
  wpAny (model X.prog X.w) X.A (assign target X.env u) (λ_ s'=>∃σ' H',Inv X v0 σ' H' s'∧Q σ' H') X.xe s
instance {X:Cx}{target:Expr}{t:DL}:CoeFun (PG X target t) λ_=>∀v0 s σ H (v:V) (u:Value) (Q:St→A4→Prop),Inv X v0 σ H s→RelV v u→t v σ H Q→wpAny (model X.prog X.w) X.A (assign target X.env u) (λ_ s'=>∃σ' H',Inv X v0 σ' H' s'∧Q σ' H') X.xe s:=⟨PG.run⟩
structure Bp(X:Cx)(ts:List Expr)(t:GS):Prop where
 run:∀v0 s σ H (vs:List V) (us:List Value) (Q:St→A4→Prop),Inv X v0 σ H s→Vals vs us→t vs σ H Q→
  wpAny (model X.prog X.w) X.A (assignInOrder ((assignEach ts X.env).map (·.2)) us) (λ_ s'=>∃σ' H',Inv X v0 σ' H' s'∧Q σ' H') X.xe s
instance {X:Cx}{ts:List Expr}{t:GS}:CoeFun (Bp X ts t) λ_=>∀v0 s σ H (vs:List V) (us:List Value) (Q:St→A4→Prop),Inv X v0 σ H s→Vals vs us→t vs σ H Q→wpAny (model X.prog X.w) X.A (assignInOrder ((assignEach ts X.env).map (·.2)) us) (λ_ s'=>∃σ' H',Inv X v0 σ' H' s'∧Q σ' H') X.xe s:=⟨Bp.run⟩
abbrev U7:=V→V→V→A4→(A4→Prop)→Prop
abbrev eN(X:Cx)(t:U7):Prop:=
 ∀v0 s σ H (o i v:V) (ov iv u:Value) (Q:A4→Prop),Inv X v0 σ H s→RelV o ov→RelV i iv→RelV v u→t o i v H Q→
  wpAny (model X.prog X.w) X.A (setItem ov iv u) (λ_ s'=>∃H',Inv X v0 σ H' s'∧Q H') X.xe s
abbrev Up:=V→V→A4→An→Prop
abbrev tU(X:Cx)(op:Operator)(t:Up):Prop:=
 ∀v0 s σ H (x y:V) (v u:Value) (Q:An),Inv X v0 σ H s→RelV x v→RelV y u→t x y H Q→
  wpAny (model X.prog X.w) X.A (inplaceOp op v u) (BX X v0 σ Q) X.xe s
section
abbrev aU(i:Nat):DL:=λv σ H Q=>Q (σ.set i (some v)) H
def yA(hN:X.N.Nodup)(hi:X.N[i]?=some x)(hx:HD X.env.scope x)(hf:Fk X x:=by first|show .inl rfl|show .inr rfl|assumption):PG X (.Name x pos) (aU i):=by
 show .mk ?_;intro v0 s σ H v u Q I r h;show wpAny_assign_Name (RH I hN hi hx r (λs' I'=>Ψ2 _ H ⟨I',h⟩) hf)
abbrev qo:GS:=λvs σ H Q=>vs=[]∧Q σ H
abbrev xy(t:DL)(u:GS):GS:=λvs σ H Q=>∃v r,vs=v::r∧t v σ H λσ' H'=>u r σ' H' Q
def zJ:Bp X [] qo:=by
 show .mk ?_;intro v0 s σ H vs us Q I r h;obtain⟨e,h⟩:=h;subst e;cases r;show assignInOrder_nil ⟨σ,H,I,h⟩
def sJ{es:List Expr}{t:DL}{u:GS}(h1:PG X e t)(h2:Bp X es u)
  (hs:(assignEach (e::es) X.env).map (·.2)=assign e X.env::(assignEach es X.env).map (·.2):=by rfl):Bp X (e::es) (xy t u):=by
 show .mk ?_;intro v0 s σ H vs us Q I r h;obtain⟨v,vr,e1,h⟩:=h;subst e1;cases r with
 |cons r rr=>
  rw[hs];show assignInOrder_cons (AF (h1 v0 s σ H _ _ _ I r h) λ_ s1 ξ=>Ξ22 ξ λσ1 H1 I1 q1=>?_);show h2 v0 s1 σ1 H1 _ _ Q I1 rr q1
abbrev vP(K:W.Frag)(n:Nat)(t:GS):DL:=λv σ H Q=>∃a xs,v=.ref a∧dG K H a xs∧xs.length=n∧t xs σ H Q
def uy{es:List Expr}{t:GS}(hc:X.calm=true)(h:Bp X es t)
  (hn:(assignEach es X.env).length=n:=by rfl) (x6:(assignEach es X.env).findIdx? (·.1)=none:=by rfl):PG X (.Tuple es k pos) (vP X.K n t):=by
 show .mk ?_;intro v0 s σ H v u Q I r hw;obtain⟨a,xs,e1,hq,hl,hw⟩:=hw;subst e1;cases r;let⟨bf,rv,ht,hz⟩:=I.tuple hq;show assign_Tuple_tuple (I.ok.hd hc) ht (by simp[hn,←hl,rv.length]) x6 λh' hx=>?_;let I1:Inv X v0 σ H {s with heap:=h'}:=I.kept (t':=s.toks) λb o e=>hx b o (BB (B5 e)) e;show h v0 _ σ H xs _ Q I1 (by simpa using rv) hw
abbrev uW(to ti:AQ)(t:U7):DL:=λv σ H Q=>to σ H λo H1=>ti σ H1 λi H2=>t o i v H2 λH3=>Q σ H3
def aa9{o i:Expr}{to ti:AQ}{t:U7}(ho:PE X o to)(hi:PE X i ti)(hs:eN X t)
  (ha:∀v,assign (.Subscript o i pos) X.env v=(do
   let ov ←holding [v] (eval o X.env)
   let iv ←holding [v,ov] (eval i X.env)
   standAt pos
   holding [v,ov,iv] (setItem ov iv v)
   release [v,ov,iv] []):=by intro _;rfl):PG X (.Subscript o i pos) (uW to ti t):=by
 show .mk ?_;intro v0 s σ H v u Q I r h;rw[ha];show A6 (Ep (AF (ho v0 s σ H _ I h) λov s1 ξ=>Ξ23 ξ λx H1 I1 r1 q1=>?_));show A6 (Ep (AF (hi v0 s1 σ H1 _ I1 q1) λiv s2 ξ=>Ξ23 ξ λy H2 I2 r2 q2=>?_));show A6 (GD (A6 (Ep (AF (hs v0 s2 σ H2 x y v ov iv u _ I2 r1 r2 r q2) λ_ s3 ξ=>Ξ12 ξ λH3 I3 q3=>?_))));show wpAny_release ⟨σ,H3,I3,q3⟩
abbrev TF(te:AQ)(g:DL):Be:=λD σ H=>te σ H λx H1=>g x σ H1 D.nx
def nw{g:DL}(he:PE X e te)(hg:PG X tg g)(hs:swapsWithSole [tg] e pos.line X.env=pure false:=by rfl)(hw:swappedStores [tg] e X.env=pure none:=by rfl)
  (h1:(assignEach [tg] X.env).map (·.2)=[assign tg X.env]:=by rfl):PS X (.Assign [tg] e pos) (TF te g):=by
 show .mk ?_;intro v0 s σ H D I h;show wpAny_Assign_stores (AF (he v0 s σ H _ I h) λv s1 ξ=>Ξ23 ξ λx H1 I1 r1 q1=>?_) hs hw;rw[h1];show AF (hg v0 s1 σ H1 x v _ I1 r1 q1) λ_ s2 q=>q
def ab7(hN:X.N.Nodup)(hi:X.N[i]?=some x)(hx:HD X.env.scope x)(he:PE X e te)(hs:swapsWith e (some (.Name x pos')) pos.line X.env=pure false:=by rfl)(hf:Fk X x:=by first|show .inl rfl|show .inr rfl|assumption):
  PS X (.Assign [.Name x pos'] e pos) (TF te (aU i)):=by
 show .mk ?_;intro v0 s σ H D I h;show wpAny_Assign_Name (AF (he v0 s σ H _ I h) λv s1 ξ=>Ξ23 ξ λy H1 I1 r1 q1=>?_) hs;show RH I1 hN hi hx r1 (λs2 I2=>Ψ2 _ H1 ⟨I2,q1⟩) hf
abbrev nX(i:Nat)(te:AQ)(ti:Up):Be:=λD σ H=>∃x,σ[i]?=some (some x)∧te σ H λy H1=>ti x y H1 λz H2=>D.nx (σ.set i (some z)) H2
def oY{op:Operator}{ti:Up}(hN:X.N.Nodup)(hi:X.N[i]?=some x)(hx:HD X.env.scope x)(he:PE X e te)(ho:tU X op ti)(hf:Fk X x:=by first|show .inl rfl|show .inr rfl|assumption):
  PS X (.AugAssign (.Name x pos') op e pos) (nX i te ti):=by
 show .mk ?_;intro v0 s σ H D I h;obtain⟨v,e1,h⟩:=h;let⟨m,hn,hl⟩:=I.loc;have ZD:JY X.env.scope x:=by rcases hx with k|k;show .inl k;show .inr (.inl k)
 let⟨u,r,l⟩:=hl i x v hi e1 ZD;show wpAny_AugAssign_Name ?_;let go:wpAny (model X.prog X.w) X.A (eval e X.env) (λw s₂=>wpAny (model X.prog X.w) X.A (inplaceOp op u w) (λr s₃=>wpAny (model X.prog X.w) X.A (storeName X.env x r) (λ_=>SP X v0 D .next) X.xe s₃) X.xe s₂) X.xe s:=by
  show AF (he v0 s σ H _ I h) λw s1 ξ=>Ξ23 ξ λy H1 I1 r1 q1=>?_;show AF (ho v0 s1 σ H1 v y u w _ I1 r r1 q1) λz s2 ξ=>Ξ23 ξ λzv H2 I2 r2 q2=>?_;show RH I2 hN hi hx r2 (λs3 I3=>Ψ2 _ H2 ⟨I3,q2⟩) hf
 rcases l with⟨hk,hm⟩|⟨hk,c,hc,sk⟩
 ·show QU I.ok.kind hk hn hm go
 ·rcases hk with hk|hk
  ·show Qd I.ok.kind hk hc sk go
  ·rcases hx with k|k
   ·have:X.env.scope.names.lookup x=some .free:=hk
    rw[k]at this;cases this
   ·have:X.env.scope.names.lookup x=some .free:=hk
    rw[k]at this;cases this
abbrev vd(c:CR)(tb:Be):Be:=λD σ H=>∃W:Nat→St→A4→Prop,(∃m,W m σ H)∧∀m σ H,W m σ H→
 c σ H λb H1=>if b=true then ∃N:St→A4→Prop,(∀σ' H',N σ' H'→∃m',m' < m∧W m' σ' H')∧tb {D with nx:=N,ct:=N,bk:=D.nx} σ H1 else D.nx σ H1
def oH{tb:Be}(hp:PassesOwn (model X.prog X.w) X.A X.env X.xe)(hc:PT X c tc)(hb:mv X body tb):PS X (.While c body [] pos) (vd tc tb):=by
 show .mk ?_;intro v0 s σ H D I h;let⟨W,⟨m0,w0⟩,turn⟩:=h;show wpAny_While (codeAny_whileLoop (λn s'=>∃σ' H',Inv X v0 σ' H' s'∧W n σ' H') ?_ m0 ⟨σ,H,I,w0⟩);intro n s1⟨σ1,H1,I1,w1⟩;show JP hp (AF (hc v0 s1 σ1 H1 _ I1 (turn n σ1 H1 w1)) λb s2 ξ=>Ξ12 ξ λH2 I2 q2=>?_);cases b with
 |true=>
  obtain⟨N,hN,q2⟩:=q2;rw[Ab rfl];show JP hp (AF (hb v0 s2 σ1 H2 _ I2 q2) λf s3 q3=>?_);cases f with
  |next=>
   let⟨σ3,H3,I3,n3⟩:=q3;let⟨m',hm,w3⟩:=hN σ3 H3 n3;show⟨m',hm,σ3,H3,I3,w3⟩
  |cont=>
   let⟨σ3,H3,I3,n3⟩:=q3;let⟨m',hm,w3⟩:=hN σ3 H3 n3;show⟨m',hm,σ3,H3,I3,w3⟩
  |brk=>show q3
  |ret v=>show q3
 |false=>
  rw[AP Bs];show PM ⟨σ1,H2,I2,q2⟩
end
structure Ef where
 go:Nat→A4→Prop
 qI:Nat→A4→V→A4→Prop
 stop:Nat→A4→Prop
abbrev DO(X:Cx)(v0:ac)(H:A4)(b:Addr):Prop:=
 H b=none∧b≠X.env.locals∧b∉X.fs∧(b∈X.ex∨X.s₀.heap.objs.size≤b)∧(∀x c,X.env.cells.lookup x=some c→c≠b)∧∀p∈X.pn++v0,p.1≠b
def Inv.xt{X:Cx}{H':A4}(I:Inv X v0 σ H s)(hb:s.heap.objs.size≤b)(hn:H' b=none):DO X v0 H' b:=by
 show⟨hn,Lh (EF I.lt hb),I.Vk hb,.inr (Cu I.sz hb),λx c e z=>?_,λp hp z=>?_⟩
 ·let⟨v,q⟩:=I.cell x c e
  show absurd (EF q.lt (by rw[z];show hb)) (GK _)
 ·show absurd (EF (B5 (I.pin p hp).1) (by rw[z];show hb)) (GK _)
structure Turn(P:Program)(w:World)(K:W.Frag)(tg:Expr)(J:Ef)(fp:List Addr)(it:Addr)(tn:Nat→Heap→Prop):Prop where
 mem:it∈fp
 obj:∀i h,tn i h→∀b∈fp,∃o,h.get? b=some o∧∀v,o.data≠.cell v
 keep:∀i h h',tn i h→(∀b∈fp,∀o,h.get? b=some o→h'.get? b=some o)→tn i h'
 item:∀(X:Cx),X.prog=P→X.w=w→X.K=K→X.calm=true→∀(i:Nat) v0 s σ H (E:xz),Inv X v0 σ H s→(∀b∈fp,DO X v0 H b)→tn i s.heap→J.go i H→
  wpAny (model P w) X.A (pyNext (.ref it)) (λr s1=>∃u,r=some u∧
   wpAny (model P w) X.A (letOwnedTupleGo tg (.ref it) u) (λ_ s2=>∃x H',Inv X v0 σ H' s2∧RelV x u∧J.qI i H x H'∧tn (i+1) s2.heap∧∀b∈fp,H' b=none) E s1) E s
 done:∀(X:Cx),X.prog=P→X.w=w→X.K=K→X.calm=true→∀(i:Nat) v0 s σ H (E:xz),Inv X v0 σ H s→(∀b∈fp,DO X v0 H b)→tn i s.heap→J.stop i H→
  wpAny (model P w) X.A (pyNext (.ref it)) (λr s1=>r=none∧Inv X v0 σ H s1) E s
 self:∀(A:Around) (i:Nat) (s:Shared) (Q:xz) (E:xz),tn i s.heap→Q (.ref it) s→wpAny (model P w) A (pyIter (.ref it)) Q E s
abbrev DI:=St→A4→(Ef→A4→Prop)→Prop
abbrev OB(X:Cx)(v0:ac)(σ:St)(tg:Expr)(R:Ef→A4→Prop)(KL:Value)(s2:Shared):Prop:=
 ∃(it:Addr) (fp:List Addr) (tn:Nat→Heap→Prop) (J:Ef) (H':A4),KL=.ref it∧Inv X v0 σ H' s2∧Turn X.prog X.w X.K tg J fp it tn∧tn 0 s2.heap∧(∀b∈fp,DO X v0 H' b)∧R J H'
structure PI(X:Cx)(tg iter:Expr)(wi:DI):Prop where
 run:∀v0 s σ H (R:Ef→A4→Prop),Inv X v0 σ H s→wi σ H R→
  wpAny (model X.prog X.w) X.A (eval iter X.env) (λv s1=>wpAny (model X.prog X.w) X.A (pyIter v) (OB X v0 σ tg R) X.xe s1) X.xe s
instance {X:Cx}{tg iter:Expr}{wi:DI}:CoeFun (PI X tg iter wi) λ_=>∀v0 s σ H (R:Ef→A4→Prop),Inv X v0 σ H s→wi σ H R→wpAny (model X.prog X.w) X.A (eval iter X.env) (λv s1=>wpAny (model X.prog X.w) X.A (pyIter v) (OB X v0 σ tg R) X.xe s1) X.xe s:=⟨PI.run⟩
def Lr{o:Obj}{n:String}{vs:Array Value}{Q:Unit→Shared→Prop}(ho:s.heap.get? it=some o)(hc:o.cls=.type n)(hd:o.data=.fields vs)
    (hn:["enumerate","zip","dict_itemiterator","dict_reverseitemiterator","odict_iterator","itertools.zip_longest","itertools.pairwise"].contains n=false) (hQ:Q () s):wpAny M A (letOwnedTupleGo tg (.ref it) u) Q E s:=by
  unfold letOwnedTupleGo;cases tg<;>first
    |show AL hQ
    | (cases u<;>first
        |show AL hQ
        | (show A6 (wpAny_load ho ?_)
           rw[hc,hd];show wpAny M A (if(["enumerate","zip","dict_itemiterator","dict_reverseitemiterator","odict_iterator","itertools.zip_longest","itertools.pairwise"].contains n&&vs[0]? == some (rawInt _))=true then _ else _) Q E s
           rw[AP (by intro h;rw[hn,Dw]at h;cases h)];show AL hQ))
abbrev S1(K:W.Frag)(a:Addr):Ef:=
 ⟨λi H=>∃xs x,lI K H a xs∧xs[i]?=some x,λi H x H'=>H'=H∧∀xs,lI K H a xs→xs[i]?=some x,λi H=>∃xs,lI K H a xs∧xs.length≤i⟩
abbrev QG(K:W.Frag)(a:Addr):Ef:=
 ⟨λi H=>∃xs x,dG K H a xs∧xs[i]?=some x,λi H x H'=>H'=H∧∀xs,dG K H a xs→xs[i]?=some x,λi H=>∃xs,dG K H a xs∧xs.length≤i⟩
abbrev Nr(lo:Int)(n:Nat):Ef:=⟨λi _=>i<n,λi H x H'=>H'=H∧x=.int (lo+i),λi _=>n≤i⟩
def uX(a it:Addr):Turn P w K tg (S1 K a) [it] it (λi h=>h.IsListIter it a i) where
 mem:=by simp
 obj:=λi h st b hb=>by
  let e:b=it:=by simpa using hb
  subst e;let⟨o,e,c,d⟩:=st;show⟨o,e,λv z=>by rw[d]at z;cases z⟩
 keep:=λi h h' st k=>st.at λo e=>k it (by simp) o e
 item:=by
  intro X hP hw hK hc i v0 s σ H E I hf st hg;subst hP hw hK;let⟨xs,x,hq,hx⟩:=hg;let⟨bf,rv,p,hz⟩:=I.list hq;let⟨u,hu,ru⟩:=rv.get hx;let⟨f0,f1,f2,f3,f4,f5⟩:=hf it (by simp);show wpAny_pyNext_list_item st p.isList (x:=u) (by simpa using hu) λh' Ai sb=>?_;let I1:Inv X v0 σ H {s with heap:=h'}:=I.turned (t':=s.toks) (λb o hb e=>(sb.2 b hb).trans e) f0 f1 f3 f4 f5;let⟨o,e,c,d⟩:=id Ai;show⟨u,rfl,Lr (s:={s with heap:=h'}) e c d (by decide) ⟨x,H,I1,ru,⟨rfl,λys hy=>by rw[I.E9 hy hq];show hx⟩,Ai,λb hb=>(hf b hb).1⟩⟩
 done:=by
  intro X hP hw hK hc i v0 s σ H E I hf st hg;subst hP hw hK;let⟨xs,hq,hx⟩:=hg;let⟨bf,rv,p,hz⟩:=I.list hq;let⟨f0,f1,f2,f3,f4,f5⟩:=hf it (by simp);let hl:=rv.length;show wpAny_pyNext_list_end (I.ok.hd hc) st p.isList (by simp;lia) λh' eb=>⟨rfl,I.turned (t':=s.toks) (λb o hb e=>eb b o hb e) f0 f1 f3 f4 f5⟩
 self:=λ_ _ _ _ _ st h=>wpAny_pyIter_listiter st h
def zG(a it:Addr):Turn P w K tg (QG K a) [it] it (λi h=>h.IsTupleIter it a i) where
 mem:=by simp
 obj:=λi h st b hb=>by
  let e:b=it:=by simpa using hb
  subst e;let⟨o,e,c,d⟩:=st;show⟨o,e,λv z=>by rw[d]at z;cases z⟩
 keep:=λi h h' st k=>st.at λo e=>k it (by simp) o e
 item:=by
  intro X hP hw hK hc i v0 s σ H E I hf st hg;subst hP hw hK;let⟨xs,x,hq,hx⟩:=hg;let⟨bf,rv,p,hz⟩:=I.tuple hq;let⟨u,hu,ru⟩:=rv.get hx;let⟨f0,f1,f2,f3,f4,f5⟩:=hf it (by simp);show wpAny_pyNext_tuple_item st (show s.heap.IsTuple a bf.toArray from p) (x:=u) (by simpa using hu) λh' Ai sb=>?_;let I1:Inv X v0 σ H {s with heap:=h'}:=I.turned (t':=s.toks) (λb o hb e=>(sb.2 b hb).trans e) f0 f1 f3 f4 f5;let⟨o,e,c,d⟩:=id Ai;show⟨u,rfl,Lr (s:={s with heap:=h'}) e c d (by decide) ⟨x,H,I1,ru,⟨rfl,λys hy=>by rw[I.lS hy hq];show hx⟩,Ai,λb hb=>(hf b hb).1⟩⟩
 done:=by
  intro X hP hw hK hc i v0 s σ H E I hf st hg;subst hP hw hK;let⟨xs,hq,hx⟩:=hg;let⟨bf,rv,p,hz⟩:=I.tuple hq;let⟨f0,f1,f2,f3,f4,f5⟩:=hf it (by simp);let hl:=rv.length;show wpAny_pyNext_tuple_end (I.ok.hd hc) st (show s.heap.IsTuple a bf.toArray from p) (by simp;lia) λh' eb=>⟨rfl,I.turned (t':=s.toks) (λb o hb e=>eb b o hb e) f0 f1 f3 f4 f5⟩
 self:=λ_ _ _ _ _ st h=>wpAny_pyIter_tupleiter st h
def acz(it:Addr)(lo:Int)(n:Nat):Turn P w K tg (Nr lo n) [it] it (λi h=>IsRangeIter h it (lo+(i:Nat)*1) ((n:Int)-(i:Nat)) 1) where
 mem:=by simp
 obj:=λi h st b hb=>by
  let e:b=it:=by simpa using hb
  subst e;show⟨_,st,λv z=>by
   let z':Data.fields _=Data.cell v:=z;cases z'⟩
 keep:=λi h h' st k=>k it (by simp) _ st
 item:=by
  intro X hP hw hK hc i v0 s σ H E I hf st hg;subst hP hw hK;let⟨f0,f1,f2,f3,f4,f5⟩:=hf it (by simp);let W:=Walks.range (prog:=X.prog) (w:=X.w) (I.ok.hd hc) it lo 1 n;show W.item i s _ _ hg st λv h' tk hv Ai kk=>?_;let⟨t,rfl⟩:=hv;let I1:Inv X v0 σ H {s with heap:=h',toks:=tk}:=I.turned (λb o hb e=>kk b o (by simpa using hb) e) f0 f1 f3 f4 f5;show⟨_,rfl,Lr (s:={s with heap:=h',toks:=tk}) (n := "range_iterator") Ai rfl rfl (by decide) ⟨.int (lo+i),H,I1,⟨t,?_⟩,⟨rfl,rfl⟩,Ai,λb hb=>(hf b hb).1⟩⟩;rw[Int.mul_one]
 done:=by
  intro X hP hw hK hc i v0 s σ H E I hf st hg;subst hP hw hK;let⟨f0,f1,f2,f3,f4,f5⟩:=hf it (by simp);show wpAny_pyNext_range_end (I.ok.hd hc) st (by have:n≤i:=hg;lia) λh' eb=>⟨rfl,I.turned (t':=s.toks) (λb o hb e=>eb b o hb e) f0 f1 f3 f4 f5⟩
 self:=λ_ _ _ _ _ st h=>wpAny_pyIter_rangeiter st h
section
variable {tg: Expr}
abbrev yk(K:W.Frag)(tl:AQ):DI:=λσ H R=>tl σ H λx H1=>∃a,x=.ref a∧(∃xs,lI K H1 a xs)∧R (S1 K a) H1
abbrev pC(K:W.Frag)(tl:AQ):DI:=λσ H R=>tl σ H λx H1=>∃a,x=.ref a∧(∃xs,dG K H1 a xs)∧R (QG K a) H1
def xY(hl:PE X l tl):PI X tg l (yk X.K tl):=by
 show .mk ?_;intro v0 s σ H R I h;show AF (hl v0 s σ H _ I h) λv s1 ξ=>Ξ23 ξ λx H1 I1 r1 q1=>?_;let⟨a,e,⟨xs,hq⟩,q⟩:=q1;subst e;cases r1;let⟨bf,rv,p,hz⟩:=I1.list hq;show QC p.isList ?_;show Ψ5 s1.heap.objs.size [s1.heap.objs.size] _ _ H1 ⟨rfl,I1.kept (t':=s1.toks) λb o e=>Aw _ e,uX a _,⟨_,CW _ rfl,rfl,rfl⟩,λb hb=>?_,q⟩;let e:b=s1.heap.objs.size:=by simpa using hb
 subst e;show I1.xt (Ah _) (I1.bC.fresh (Ah _))
def abc(hl:PE X l tl):PI X tg l (pC X.K tl):=by
 show .mk ?_;intro v0 s σ H R I h;show AF (hl v0 s σ H _ I h) λv s1 ξ=>Ξ23 ξ λx H1 I1 r1 q1=>?_;let⟨a,e,⟨xs,hq⟩,q⟩:=q1;subst e;cases r1;let⟨bf,rv,p,hz⟩:=I1.tuple hq;show Jq (show s1.heap.IsTuple a bf.toArray from p) ?_;show Ψ5 s1.heap.objs.size [s1.heap.objs.size] _ _ H1 ⟨rfl,I1.kept (t':=s1.toks) λb o e=>Aw _ e,zG a _,⟨_,CW _ rfl,rfl,rfl⟩,λb hb=>?_,q⟩;let e:b=s1.heap.objs.size:=by simpa using hb
 subst e;show I1.xt (Ah _) (I1.bC.fresh (Ah _))
def aau{R:Ef→A4→Prop}{lo hi:Int}{t u v:Tok}{tk:Nat}(I:Inv X v0 σ H s)(h1:-(2^62)≤lo)(h2:lo<2^62)(h3:-(2^62)≤hi)(h4:hi<2^62)
  (q:R (Nr lo (hi-lo).toNat) H):wpAny (model X.prog X.w) X.A (pyIter (.ref s.heap.objs.size)) (OB X v0 σ tg R) E {s with heap:=s.heap.push {cls:=.type "range",data:=.fields #[.int lo t,.int hi u,.int 1 v]},toks:=tk}:=by
 show wpAny_pyIter_range (IsRange.new ..) (small_one h1 h2 h3 h4) ?_;let I1:Inv X v0 σ H {s with heap:=s.heap.push {cls:=.type "range",data:=.fields #[.int lo t,.int hi u,.int 1 v]},toks:=tk}:=I.kept λb o e=>Aw _ e;show Ψ5 ((s.heap.push {cls:=.type "range",data:=.fields #[.int lo t,.int hi u,.int 1 v]}).objs.size) ([(s.heap.push {cls:=.type "range",data:=.fields #[.int lo t,.int hi u,.int 1 v]}).objs.size]) _ _ H ⟨rfl,
  I1.kept (t':=tk) λb o e=>Aw _ e,acz _ lo (hi-lo).toNat,?_,λb hb=>?_,q⟩
 ·let e1:lo+((0:Nat):Int)*1=lo:=by simp
  let e2:(((hi-lo).toNat:Nat):Int)-((0:Nat):Int)=Builtin.Range.rangeSize lo hi 1:=by rw[rangeSize_one];split<;>lia
  show IsRangeIter _ _ (lo+((0:Nat):Int)*1) ((((hi-lo).toNat:Nat):Int)-((0:Nat):Int)) 1
  rw[e1,e2];show CW _ rfl
 ·let e:b=(s.heap.push {cls:=.type "range",data:=.fields #[.int lo t,.int hi u,.int 1 v]}).objs.size:=by simpa using hb
  subst e;show I1.xt (Ah _) (I1.bC.fresh (Ah _))
abbrev acy(ta:CM):DI:=λσ H R=>ta σ H λvs H1=>∃j:Int,vs=[.int j]∧-(2^62)≤j∧j<2^62∧R (Nr 0 j.toNat) H1
def yg{a:Expr}{ta:CM}{p pos:Pos}(hg:Bk X "range")(hm:X.mg "range" = none)(ha:PA X [a] ta)(hs:starEach [a] X.env=[(false,eval a X.env)]:=by rfl):PI X tg (.Call (.Name "range" p) [a] [] pos) (acy ta):=by
 show .mk ?_;intro v0 s σ H R I h;show Call_ (K3 I hg hm boot_range (Nh (AF (ha pos v0 s σ H _ I h) λus s1 ξ=>Ξ23 ξ λvs H1 I1 r1 q1=>?_) hs rfl));obtain⟨j,e,q1,q2,q⟩:=q1;subst e;cases r1 with
 |cons r rr=>
  cases rr;let⟨t,rfl⟩:=r;show call_range_1 (aau I1 (by lia) (by lia) q1 q2 (by simpa using q))
abbrev adq(wi:DI)(g:DL)(tb:Be):Be:=λD σ H=>wi σ H λJ H1=>∃W:Nat→Nat→St→A4→Prop,(∃m,W 0 m σ H1)∧∀i m σ H,W i m σ H→
 (J.stop i H∧D.nx σ H)∨(J.go i H∧∃N:St→A4→Prop,(∀σ' H',N σ' H'→∃m',m' < m∧W (i+1) m' σ' H')∧∀x H',J.qI i H x H'→g x σ H' λσ2 H2=>tb {D with nx:=N,ct:=N,bk:=D.nx} σ2 H2)
abbrev Ht(fp:List Addr)(h:Heap):ac:=fp.filterMap λb=>(h.get? b).map λo=>(b,o)
def G2{o:Obj}(hb:b∈fp)(e:h.get? b=some o):(b,o)∈Ht fp h:=abZ.mpr ⟨b,hb,by rw[e];rfl⟩
def sT{p:Addr×Obj}(hp:p∈Ht fp h):p.1∈fp∧h.get? p.1=some p.2:=by
 let⟨b,hb,e⟩:=abZ.mp hp;cases q:h.get? b with
 |none=>rw[q]at e;cases e
 |some o=>
  rw[q]at e;let e':(b,o)=p:=EJ e;subst e';show⟨hb,q⟩
def Inv.pinned(I:Inv X v0 σ H s)(hf:∀b∈fp,DO X v0 H b)(ho:∀b∈fp,∃o,s.heap.get? b=some o∧∀v,o.data≠.cell v):Inv X (v0++Ht fp s.heap) σ H s:=
 I.Az λp hp=>(aaG.mp hp).elim (λz=>I.pin p (CZ _ z)) λz=>by
  let⟨hb,e⟩:=sT z;let⟨f0,f1,f2,_⟩:=hf p.1 hb;let⟨o,e',d⟩:=ho p.1 hb;rw[e]at e';cases e';show⟨e,f0,f1,f2,d⟩
def Inv.gR{pl:ac}(I:Inv X (v0++pl) σ H s):Inv X v0 σ H s:=I.Az λp hp=>I.pin p (CZ _ (He _ hp))
def aaS{iter:Expr}{wi:DI}{g:DL}{tb:Be}{pos:Pos}(hp:PassesOwn (model X.prog X.w) X.A X.env X.xe)(hc:X.calm=true)(hi:PI X tg iter wi)(hg:PG X tg g)(hb:mv X body tb)
  (hs:∀x,foldedSetIterable iter X.env x=pure x:=by intro _;rfl):PS X (.For tg iter body [] pos) (adq wi g tb):=by
 show .mk ?_;intro v0 s σ H D I h;show wpAny_For (AF (hi v0 s σ H _ I h) λv s1 h1=>AF h1 λKL s2 h2=>?_) hs;let⟨it,fp,tn,J,H2,e,I2,T,oC,f2,⟨W,⟨m0,w0⟩,turn⟩⟩:=h2;subst e
 -- Uy stays true of wq ND objects through wq loop
 let LM:∀{H':A4},(∀b∈fp,H' b=none)→∀b∈fp,DO X v0 H' b:=λhn b hb=>⟨hn b hb,(f2 b hb).2⟩;show codeAny_forLoop_any (λn s'=>∃i σ' H',Inv X v0 σ' H' s'∧tn i s'.heap∧(∀b∈fp,H' b=none)∧W i n σ' H') ?_ m0 ⟨0,σ,H2,I2,oC,λb hb=>(f2 b hb).1,w0⟩;intro n s3⟨i,σ3,H3,I3,t7,xq,w3⟩;rcases turn i n σ3 H3 w3 with⟨stop,qn⟩|⟨go,N,hN,step⟩
 ·show JP hp (AF (T.done X rfl rfl rfl hc i v0 s3 σ3 H3 X.xe I3 (LM xq) t7 stop) λr s4 ξ=>Ξ02 ξ λhr I4=>?_)
  subst hr;show PM ⟨σ3,H3,I4,qn⟩
 ·show JP hp (AF (T.item X rfl rfl rfl hc i v0 s3 σ3 H3 X.xe I3 (LM xq) t7 go) λr s4 ξ=>Ξ12 ξ λu hr h4=>?_)
  subst hr;show JP hp (AF h4 λ_ s5 ξ=>Ξ25 ξ λx H5 I5 r5 y5 rq Fx=>?_);let Gi:=I5.pinned (LM Fx) (T.obj _ _ rq);show JP hp (AF (hg _ s5 σ3 H5 x u _ Gi r5 (step x H5 y5)) λ_ s6 ξ=>Ξ22 ξ λσ6 H6 I6 q6=>?_);show JP hp (AF (hb _ s6 σ6 H6 _ I6 q6) λf s7 q7=>?_);let again:∀{σ7:St} {H7:A4},Inv X (v0++Ht fp s5.heap) σ7 H7 s7→N σ7 H7→∃m,m<n∧∃i σ' H',Inv X v0 σ' H' s7∧tn i s7.heap∧(∀b∈fp,H' b=none)∧W i m σ' H':=λ{σ7 H7} I7 n7=>by
   let⟨m',hm,w7⟩:=hN σ7 H7 n7;show⟨m',hm,i+1,σ7,H7,I7.gR,T.keep _ _ _ rq λb hb o e=>(I7.pin (b,o) (CZ _ (CZ _ (G2 hb e)))).1,λb hb=>?_,w7⟩;let⟨o,e,d⟩:=T.obj _ _ rq b hb;show(I7.pin (b,o) (CZ _ (CZ _ (G2 hb e)))).2.1
  cases f with
  |next=>let⟨σ7,H7,I7,n7⟩:=q7;show again I7 n7
  |cont=>let⟨σ7,H7,I7,n7⟩:=q7;show again I7 n7
  |brk=>obtain⟨σ7,H7,I7,q7⟩:=q7;show Ψ2 σ7 H7 ⟨I7.gR,q7⟩
  |ret v=>obtain⟨x7,σ7,H7,I7,r7,q7⟩:=q7;show Ψ3 x7 σ7 H7 ⟨I7.gR,r7,q7⟩
end
abbrev DY:=V→V→A4→An→Prop
abbrev iS(X:Cx)(f:Value→Value→Sem Value)(r:DY):Prop:=
 ∀v0 s σ H (x y:V) (v u:Value) (Q:An),Inv X v0 σ H s→RelV x v→RelV y u→r x y H Q→
  wpAny (model X.prog X.w) X.A (f v u) (BX X v0 σ Q) X.xe s
abbrev S5(X:Cx)(f:Value→Sem Value)(r:V→A4→An→Prop):Prop:=
 ∀v0 s σ H (x:V) (v:Value) (Q:An),Inv X v0 σ H s→RelV x v→r x H Q→
  wpAny (model X.prog X.w) X.A (f v) (BX X v0 σ Q) X.xe s
abbrev Eg(X:Cx)(f:Value)(r:List V→A4→An→Prop):Prop:=
 ∀v0 s σ H (xs:List V) (us:List Value) (Q:An),Inv X v0 σ H s→Vals xs us→r xs H Q→
  wpAny (model X.prog X.w) X.A (call f us) (BX X v0 σ Q) X.xe s
abbrev tK(X:Cx)(r:V→A4→(Bool→A4→Prop)→Prop):Prop:=
 ∀v0 s σ H (x:V) (v:Value) (Q:Bool→A4→Prop),Inv X v0 σ H s→RelV x v→r x H Q→
  wpAny (model X.prog X.w) X.A (truthy v) (Jk X v0 σ Q) X.xe s
abbrev MK(r:DY)(ta tb:AQ):AQ:=λσ H Q=>ta σ H λx H1=>tb σ H1 λy H2=>r x y H2 Q
abbrev adl(r:V→A4→An→Prop)(ta:AQ):AQ:=λσ H Q=>ta σ H λx H1=>r x H1 Q
abbrev JS(C:Int→Int→Prop)(g:Int→Int→V):DY:=λx y H Q=>∃i j,x=.int i∧y=.int j∧C i j∧Q (g i j) H
abbrev IV(g:Int→Int→V):DY:=λx y H Q=>∃i j,x=.int i∧y=.int j∧Q (g i j) H
abbrev dz(g:Int→V):V→A4→An→Prop:=λx H Q=>∃i,x=.int i∧Q (g i) H
section
variable {a b: Expr}
def Qn(ha:PE X a ta)(hb:PE X b tb){R:V→V→A4→Prop}(I:Inv X v0 σ H s)
  (h:ta σ H λx H1=>tb σ H1 λy H2=>R x y H2)  
  (hf:∀v u s2 x y H2,Inv X v0 σ H2 s2→RelV x v→RelV y u→R x y H2→wpAny (model X.prog X.w) X.A (f v u) Q X.xe s2) :
  wpAny (model X.prog X.w) X.A (eval a X.env) (λv s₁=>wpAny (model X.prog X.w) X.A (eval b X.env) (λu s₂=>wpAny (model X.prog X.w) X.A (f v u) Q X.xe s₂) X.xe s₁) X.xe s:=by
 show AF (ha v0 s σ H _ I h) λv s1 ξ=>Ξ23 ξ λx H1 I1 r1 q1=>?_;show AF (hb v0 s1 σ H1 _ I1 q1) λu s2 ξ=>Ξ23 ξ λy H2 I2 r2 q2=>?_;show hf v u s2 x y H2 I2 r1 r2 q2
def uF{op:Operator}(ho:iS X (binaryOp op) r)(ha:PE X a ta)(hb:PE X b tb):PE X (.BinOp a op b pos) (MK r ta tb):=by
 show .mk ?_;intro v0 s σ H Q I h;show wpAny_BinOp (Qn ha hb I h λv u s2 x y H2 I2 rx ry q=>ho v0 s2 σ H2 x y v u Q I2 rx ry q)
def qw{op:UnaryOp}{r:V→A4→An→Prop}(ho:S5 X (unaryOp op) r)(ha:PE X a ta):PE X (.UnaryOp op a pos) (adl r ta):=by
 show .mk ?_;intro v0 s σ H Q I h;show UnaryOp_ (AF (ha v0 s σ H _ I h) λv s1 ξ=>Ξ23 ξ λx H1 I1 r1 q1=>ho v0 s1 σ H1 x v Q I1 r1 q1)
def MB{C:Int→Int→Prop}
  (rule:∀(i j:Int) (t u:Tok) (s:Shared) (Q:xz) (E:xz),C i j→Q (.int (g i j) s.toks) {s with toks:=s.toks+1}→wpAny (model X.prog X.w) X.A (f (.int i t) (.int j u)) Q E s) :
  iS X f (JS C λi j=>.int (g i j)):=by
 intro v0 s σ H x y v u Q I rx ry h;let⟨i,j,rfl,rfl,hc,q⟩:=h;let⟨t,rfl⟩:=rx;let⟨t',rfl⟩:=ry;show rule i j t t' s _ _ hc ⟨.int (g i j),H,I.tok _,⟨_,rfl⟩,q⟩
def jK
  (rule:∀(i j:Int) (t u:Tok) (s:Shared) (Q:xz) (E:xz),Q (.int (g i j) s.toks) {s with toks:=s.toks+1}→wpAny (model X.prog X.w) X.A (f (.int i t) (.int j u)) Q E s) :
  iS X f (IV λi j=>.int (g i j)):=by
 intro v0 s σ H x y v u Q I rx ry h;let⟨i,j,rfl,rfl,q⟩:=h;let⟨t,rfl⟩:=rx;let⟨t',rfl⟩:=ry;show rule i j t t' s _ _ ⟨.int (g i j),H,I.tok _,⟨_,rfl⟩,q⟩
def SH{g:Int→Int→Bool}
  (rule:∀(i j:Int) (t u:Tok) (s:Shared) (Q:xz) (E:xz),Q (.bool (g i j)) s→wpAny (model X.prog X.w) X.A (f (.int i t) (.int j u)) Q E s) :
  iS X f (IV λi j=>.bl (g i j)):=by
 intro v0 s σ H x y v u Q I rx ry h;let⟨i,j,rfl,rfl,q⟩:=h;let⟨t,rfl⟩:=rx;let⟨t',rfl⟩:=ry;show rule i j t t' s _ _ ⟨.bl (g i j),H,I,rfl,q⟩
abbrev W3(i j:Int):Prop:=0≤j∧j≤1000000∧i.natAbs<2^64
abbrev Co(i j:Int):Prop:=(-(2^64)<i∧i<2^64)∨(-(2^64)<j∧j<2^64)
def Co.ok{i j:Int}(h:Co i j):IntMulOk i j:=by
 rcases h with⟨h1,h2⟩|⟨h1,h2⟩
 ·show .of_left (intBits_le_64 h1 h2)
 ·show .of_right (intBits_le_64 h1 h2)
def acB:iS X (binaryOp .Add) (IV λi j=>.int (i+j)):=jK λ_ _ _ _ _ _ _ q=>add_int q
def ac1:iS X (binaryOp .Sub) (IV λi j=>.int (i-j)):=jK λ_ _ _ _ _ _ _ q=>sub_int q
def abz:iS X (binaryOp .Mult) (JS Co λi j=>.int (i*j)):=MB λ_ _ _ _ _ _ _ hc q=>mul_int q hc.ok
def atK:iS X (binaryOp .Mod) (JS (λ_ j=>0<j) λi j=>.int (i%j)):=MB λi j _ _ _ _ _ hc q=>by
 let h1:(0:Int)<j:=hc;show mod_int' (by lia) (by rw[Int.fmod_eq_emod_of_nonneg i (by lia)];show q)
def abo:iS X (binaryOp .Pow) (JS W3 λi j=>.int (i^j.toNat)):=MB λ_ _ _ _ _ _ _ hc q=>pow_int_small hc.1 hc.2.1 hc.2.2 q
def aax:iS X (inplaceOp .Mult) (JS Co λi j=>.int (i*j)):=MB λ_ _ _ _ _ _ _ hc q=>imul_int q hc.ok
def tJ{f:Value→Sem Value}{g:Int→Int}
  (rule:∀(i:Int) (t:Tok) (s:Shared) (Q:xz) (E:xz),Q (.int (g i) s.toks) {s with toks:=s.toks+1}→wpAny (model X.prog X.w) X.A (f (.int i t)) Q E s) :
  S5 X f (dz λi=>.int (g i)):=by
 intro v0 s σ H x v Q I rx h;let⟨i,rfl,q⟩:=h;let⟨t,rfl⟩:=rx;show rule i t s _ _ ⟨.int (g i),H,I.tok _,⟨_,rfl⟩,q⟩
def acO:S5 X (unaryOp .USub) (dz λi=>.int (-i)):=tJ λ_ _ _ _ _ q=>neg_int q
end
abbrev OK:V→V→Bool
 |.non,.non=>true|.non,.int _=>true|.int _,.non=>true|.non,.bl _=>true|.bl _,.non=>true|.non,.str _=>true|.str _,.non=>true
 |.int _,.int _=>true|.bl _,.bl _=>true|.str _,.str _=>true|.byt _,.byt _=>true
 |.int _,.str _=>true|.str _,.int _=>true|.bl _,.str _=>true|.str _,.bl _=>true
 |_,_=>false
abbrev vg:DY:=λx y H Q=>OK x y=true∧Q (.bl (decide (x=y))) H
abbrev v8:DY:=λx y H Q=>OK x y=true∧Q (.bl (!decide (x=y))) H
def kE{i j:Int}:decide (V.int i=V.int j)=(i==j):=by
 rw[GG];simp
def X8{i j:Bool}:decide (V.bl i=V.bl j)=(i==j):=by
 rw[GG];simp
def gI{i j:Str}:decide (V.str i=V.str j)=(i==j):=by
 rw[GG];simp
def bY{i j:Array UInt8}:decide (V.byt i=V.byt j)=(i.toList==j.toList):=by
 rw[GG];cases i;cases j;simp
section
variable {a b c: Expr}{tc: AQ}
def CB{Q:An}{k k':Bool}(I:Inv X v0 σ H s)(q:Q (.bl k) H)(e:k=k'):BX X v0 σ Q (.bool k') s:=by
 subst e;show Ψ2 (.bl k) H ⟨I,rfl,q⟩
def yH:iS X (compareOp .Eq) vg:=by
 intro v0 s σ H x y v u Q I rx ry h;let⟨hs,q⟩:=h;cases x with
 |non=>
  cases rx;cases y with
  |non=>cases ry;show PySem.EqNone.eq_none_none (CB I q (by simp))
  |bl j=>cases ry;show PySem.EqNone.eq_none_bool (CB I q (by simp))
  |int j=>let⟨t',rfl⟩:=ry;show PySem.EqNone.eq_none_int (CB I q (by simp))
  |str j=>let⟨t',rfl⟩:=ry;show PySem.EqNone.eq_none_str (CB I q (by simp))
  |_=>show absurd (show false=true from hs) Bs
 |bl i=>
  cases rx;cases y with
  |non=>cases ry;show PySem.EqNone.eq_bool_none (CB I q (by simp))
  |bl j=>cases ry;show eq_bool (CB I q X8)
  |str j=>let⟨t',rfl⟩:=ry;show PySem.EqMixed.eq_bool_str (CB I q (by simp))
  |_=>show absurd (show false=true from hs) Bs
 |int i=>
  let⟨t,rfl⟩:=rx;cases y with
  |non=>cases ry;show PySem.EqNone.eq_int_none (CB I q (by simp))
  |int j=>let⟨t',rfl⟩:=ry;show eq_int (CB I q kE)
  |str j=>let⟨t',rfl⟩:=ry;show PySem.EqMixed.eq_int_str (CB I q (by simp))
  |_=>show absurd (show false=true from hs) Bs
 |str i=>
  let⟨t,rfl⟩:=rx;cases y with
  |non=>cases ry;show PySem.EqNone.eq_str_none (CB I q (by simp))
  |bl j=>cases ry;show PySem.EqMixed.eq_str_bool (CB I q (by simp))
  |int j=>let⟨t',rfl⟩:=ry;show PySem.EqMixed.eq_str_int (CB I q (by simp))
  |str j=>let⟨t',rfl⟩:=ry;show eq_str (CB I q gI)
  |_=>show absurd (show false=true from hs) Bs
 |byt i=>
  let⟨t,rfl⟩:=rx;cases y with
  |byt j=>let⟨t',rfl⟩:=ry;show W.eq_bytes (CB I q bY)
  |_=>show absurd (show false=true from hs) Bs
 |_=>cases y<;>show absurd (show false=true from hs) Bs
def aav:iS X (compareOp .NotEq) v8:=by
 intro v0 s σ H x y v u Q I rx ry h;let⟨hs,q⟩:=h;cases x with
 |non=>
  cases rx;cases y with
  |non=>cases ry;show PySem.EqNone.ne_none_none (CB I q (by simp))
  |bl j=>cases ry;show PySem.EqNone.ne_none_bool (CB I q (by simp))
  |int j=>let⟨t',rfl⟩:=ry;show PySem.EqNone.ne_none_int (CB I q (by simp))
  |str j=>let⟨t',rfl⟩:=ry;show PySem.EqNone.ne_none_str (CB I q (by simp))
  |_=>show absurd (show false=true from hs) Bs
 |bl i=>
  cases rx;cases y with
  |non=>cases ry;show PySem.EqNone.ne_bool_none (CB I q (by simp))
  |bl j=>cases ry;show ne_bool (CB I q (DV not X8))
  |str j=>let⟨t',rfl⟩:=ry;show PySem.EqMixed.ne_bool_str (CB I q (by simp))
  |_=>show absurd (show false=true from hs) Bs
 |int i=>
  let⟨t,rfl⟩:=rx;cases y with
  |non=>cases ry;show PySem.EqNone.ne_int_none (CB I q (by simp))
  |int j=>let⟨t',rfl⟩:=ry;show ne_int (CB I q (DV not kE))
  |str j=>let⟨t',rfl⟩:=ry;show PySem.EqMixed.ne_int_str (CB I q (by simp))
  |_=>show absurd (show false=true from hs) Bs
 |str i=>
  let⟨t,rfl⟩:=rx;cases y with
  |non=>cases ry;show PySem.EqNone.ne_str_none (CB I q (by simp))
  |bl j=>cases ry;show PySem.EqMixed.ne_str_bool (CB I q (by simp))
  |int j=>let⟨t',rfl⟩:=ry;show PySem.EqMixed.ne_str_int (CB I q (by simp))
  |str j=>let⟨t',rfl⟩:=ry;show ne_str (CB I q (DV not gI))
  |_=>show absurd (show false=true from hs) Bs
 |byt i=>
  let⟨t,rfl⟩:=rx;cases y with
  |byt j=>let⟨t',rfl⟩:=ry;show W.ne_bytes (CB I q (DV not bY))
  |_=>show absurd (show false=true from hs) Bs
 |_=>cases y<;>show absurd (show false=true from hs) Bs
def vO:iS X (compareOp .Lt) (IV λi j=>.bl (decide (i<j))):=SH λ_ _ _ _ _ _ _ q=>lt_int q
def pD:iS X (compareOp .LtE) (IV λi j=>.bl (decide (i≤j))):=SH λ_ _ _ _ _ _ _ q=>le_int q
def qA:iS X (compareOp .Gt) (IV λi j=>.bl (decide (j<i))):=SH λ_ _ _ _ _ _ _ q=>gt_int q
def aaq:iS X (compareOp .In) (λx y H Q=>∃i j,x=.str i∧y=.str j∧Q (.bl (!(Builtin.Str.occurrences j i 0 j.length 1).isEmpty)) H):=by
 intro v0 s σ H x y v u Q I rx ry h;let⟨i,j,rfl,rfl,q⟩:=h;let⟨t,rfl⟩:=rx;let⟨t',rfl⟩:=ry;show in_str (CB I q rfl)
def pH:iS X (compareOp .Is) (λx y H Q=>y=.non∧Q (.bl (decide (x=.non))) H):=by
 intro v0 s σ H x y v u Q I rx ry h;let⟨rfl,q⟩:=h;cases ry;show is_none_gen (CB I q ?_);cases x<;>first
  |(cases rx;rfl)
  |(let⟨t,rfl⟩:=rx;rfl)
def uj:iS X (compareOp .IsNot) (λx y H Q=>y=.non∧Q (.bl (!decide (x=.non))) H):=by
 intro v0 s σ H x y v u Q I rx ry h;let⟨rfl,q⟩:=h;cases ry;show isnot_none_gen (CB I q ?_);cases x<;>first
  |(cases rx;rfl)
  |(let⟨t,rfl⟩:=rx;rfl)
def iS.or(h:iS X f r)(h':iS X f r'):iS X f (λx y H Q=>r x y H Q∨r' x y H Q):=by
 intro v0 s σ H x y v u Q I rx ry q;rcases q with q|q
 ·show h v0 s σ H x y v u Q I rx ry q
 ·show h' v0 s σ H x y v u Q I rx ry q
def c7(b:Expr){op:CmpOp}(h:op≠.In:=by decide)(h2:op≠.NotIn:=by decide):behindInMarks op b=false:=by
 let e1:(op==CmpOp.In)=false:=by cases op<;>first|rfl|show absurd rfl h
 let e2:(op==CmpOp.NotIn)=false:=by cases op<;>first|rfl|show absurd rfl h2
 cases b<;>simp[behindInMarks,e1,e2]
def uq{op:CmpOp}(ho:iS X (compareOp op) r)(ha:PE X a ta)(hb:PE X b tb)(hm:behindInMarks op b=false):PE X (.Compare a [op] [b] pos) (MK r ta tb):=by
 show .mk ?_;intro v0 s σ H Q I h;show wpAny_Compare1 (Qn ha hb I h λv u s2 x y H2 I2 rx ry q=>ho v0 s2 σ H2 x y v u Q I2 rx ry q) hm
abbrev Qh(t:AQ):CR:=λσ H Q=>t σ H λx H'=>∃k,x=.bl k∧Q k H'
def wV{op:CmpOp}(ho:iS X (compareOp op) r)(ha:PE X a ta)(hb:PE X b tb)(hm:behindInMarks op b=false):PT X (.Compare a [op] [b] pos) (Qh (MK r ta tb)):=by
 show .mk ?_;intro v0 s σ H Q I h;show wpAny_isTrue_Compare1 (AF (ha v0 s σ H _ I h) λv s1 ξ=>Ξ23 ξ λx H1 I1 r1 q1=>AF (hb v0 s1 σ H1 _ I1 q1) λu s2 ξ=>Ξ23 ξ λy H2 I2 r2 q2=>
  AF (ho v0 s2 σ H2 x y v u _ I2 r1 r2 q2) λc s3⟨z,H3,I3,r3,k,e,q3⟩=>?_) hm
 subst e;cases r3;show HE ⟨H3,I3,q3⟩
abbrev Qz(r r':DY)(ta tb tc:AQ):AQ:=λσ H Q=>ta σ H λx H1=>tb σ H1 λy H2=>r x y H2 λz H3=>∃k,z=.bl k∧
 (if k=true then tc σ H3 λw' H4=>r' y w' H4 Q else Q (.bl false) H3)
def nL{op:CmpOp}(ho:iS X (compareOp op) r)(pZ:iS X (compareOp AG) r')(ha:PE X a ta)(hb:PE X b tb)(hc:PE X c tc)
  (hm:lastMarks [op,AG] [b,c]=false:=by with_unfolding_all rfl):PE X (.Compare a [op,AG] [b,c] pos) (Qz r r' ta tb tc):=by
 show .mk ?_;intro v0 s σ H Q I h;show Compare_chain (AF (ha v0 s σ H _ I h) λv s1 ξ=>Ξ23 ξ λx H1 I1 r1 q1=>chain_link (AF (hb v0 s1 σ H1 _ I1 q1) λu s2 ξ=>Ξ23 ξ λy H2 I2 r2 q2=>
  AF (ho v0 s2 σ H2 x y v u _ I2 r1 r2 q2) λd s3⟨z,H3,I3,r3,k,e,q3⟩=>?_)) hm
 subst e;cases r3;show HE ?_;cases k with
 |false=>show ite_ff ⟨.bl false,H3,I3,rfl,q3⟩
 |true=>show ite_tt (chain_last (AF (hc v0 s3 σ H3 _ I3 q3) λw' s4 ξ=>Ξ23 ξ λz' H4 I4 r4 q4=>pZ v0 s4 σ H4 y z' u w' Q I4 r2 r4 q4))
def rS{op:CmpOp}(ho:iS X (compareOp op) r)(pZ:iS X (compareOp AG) r')(ha:PE X a ta)(hb:PE X b tb)(hc:PE X c tc)
  (hm:lastMarks [op,AG] [b,c]=false:=by with_unfolding_all rfl):PT X (.Compare a [op,AG] [b,c] pos) (Qh (Qz r r' ta tb tc)):=by
 show .mk ?_;intro v0 s σ H Q I h;show isTrue_chain (AF (ha v0 s σ H _ I h) λv s1 ξ=>Ξ23 ξ λx H1 I1 r1 q1=>test_link (AF (hb v0 s1 σ H1 _ I1 q1) λu s2 ξ=>Ξ23 ξ λy H2 I2 r2 q2=>
  AF (ho v0 s2 σ H2 x y v u _ I2 r1 r2 q2) λd s3⟨z,H3,I3,r3,k,e,q3⟩=>?_)) hm
 subst e;cases r3;show HE ?_;cases k with
 |false=>
  let⟨k',e',q'⟩:=q3;cases e';show ite_ff ⟨H3,I3,q'⟩
 |true=>
  show ite_tt (test_last (AF (hc v0 s3 σ H3 _ I3 q3) λw' s4 ξ=>Ξ23 ξ λz' H4 I4 r4 q4=>AF (pZ v0 s4 σ H4 y z' u w' _ I4 r2 r4 q4) λd' s5⟨z2,H5,I5,r5,k2,e2,q5⟩=>?_));subst e2;cases r5;show HE ⟨H5,I5,q5⟩
abbrev QF(K:W.Frag)(x:V)(H:A4)(k:Bool):Prop:=
 match x with
 |.non=>k=false
 |.bl b=>k=b
 |.int i=>k=(i != 0)
 |.str y=>y.length≤sizeLine∧k=((y.length:Int) != 0)
 |.byt y=>y.size≤sizeLine∧k=((y.size:Int) != 0)
 |.ref p=>(∃xs,lI K H p xs∧k=!xs.isEmpty)∨(∃xs,dG K H p xs∧k=!xs.isEmpty)∨∃aq,H p=some (.dK aq)∧k=!aq.isEmpty
 |_=>False
def aa4{κ:Type}{aq:List (κ×V)}{vs:List (κ×Value)}(r:KV aq vs):(!vs.isEmpty)=!aq.isEmpty:=by
 cases r<;>rfl
def Wo{bf:List Value}(r:Vals xs bf):(!bf.toArray.isEmpty)=!xs.isEmpty:=by
 cases r<;>simp
def J7:(sizeLine:Nat)<2^63:=by rw[CN];decide
def tT:tK X (λx H Q=>∃k,QF X.K x H k∧Q k H):=by
 intro v0 s σ H x v Q I rx h;let⟨k,e,q⟩:=h;let hl:=J7;let hs:sizeLine=16777216:=CN;cases x with
 |non=>
  cases rx;let e':k=false:=e;subst e';show truthy_none ⟨H,I,q⟩
 |bl b=>
  cases rx;let e':k=b:=e;subst e';show HE ⟨H,I,q⟩
 |int i=>
  let⟨t,rfl⟩:=rx;let e':k=(i != 0):=e;subst e';show PySem.P.truthy_int ⟨H,I,q⟩
 |str y=>
  let⟨t,rfl⟩:=rx;obtain⟨hy,e'⟩:y.length≤sizeLine∧k=((y.length:Int) != 0):=e;subst e';show PySem.P.truthy_str (by lia) ⟨H,I.tok _,q⟩
 |byt y=>
  let⟨t,rfl⟩:=rx;obtain⟨hy,e'⟩:y.size≤sizeLine∧k=((y.size:Int) != 0):=e;subst e';show W.truthy_bytes (by lia) ⟨H,I.tok _,q⟩
 |ref p=>
  cases rx;let e':(∃xs,lI X.K H p xs∧k=!xs.isEmpty)∨(∃xs,dG X.K H p xs∧k=!xs.isEmpty)∨∃aq,H p=some (.dK aq)∧k=!aq.isEmpty:=e;rcases e' with⟨xs,hx,e'⟩|⟨xs,hx,e'⟩|⟨aq,hx,e'⟩
  ·subst e'
   let⟨bf,r,pl,hz⟩:=I.list hx;let hlen:=r.length;show wpAny_truthy_list pl.isList (by simp only[BW];lia) ⟨H,I.tok _,by rw[Wo r];show q⟩
  ·subst e'
   let⟨bf,r,pl,hz⟩:=I.tuple hx;let hlen:=r.length;show truthy_tuple pl (by simp only[BW];lia) ⟨H,I.tok _,by rw[Wo r];show q⟩
  ·subst e'
   obtain⟨hz,hS,vs,r,m⟩:aq.length≤sizeLine∧(p==sysModules)=false∧∃vs,KV aq vs∧s.heap.DictOf (AR X.prog X.w) p vs:=I.bC p _ hx;let hlen:aq.length=vs.length:=PL r;show wpAny_truthy_dict hS m (by lia) ⟨H,I.tok _,by rw[aa4 r];show q⟩
 |_=>show(show False from e).elim
def aco(ha:PE X a ta)(he:∀whole,isTrue a X.env whole=(do let v ←whole;standAt a.pos;holding [v] (truthy v))):
  PT X a (λσ H Q=>ta σ H λx H'=>∃k,QF X.K x H' k∧Q k H'):=by
 show .mk ?_;intro v0 s σ H Q I h;show isTrue_plain (AF (ha v0 s σ H _ I h) λv s1 ξ=>Ξ23 ξ λx H1 I1 r1 q1=>tT v0 s1 σ H1 x v Q I1 r1 q1) (he _)
def zH:iS X (binaryOp .Add) (λx y H Q=>∃i j,x=.str i∧y=.str j∧i.length+j.length≤sizeLine∧Q (.str (i++j)) H):=by
 intro v0 s σ H x y v u Q I rx ry h;let⟨i,j,rfl,rfl,hz,q⟩:=h;let⟨t,rfl⟩:=rx;let⟨t',rfl⟩:=ry;show add_str (λt' tk=>Ψ2 (.str (i++j)) H ⟨I.tok _,⟨_,rfl⟩,q⟩) hz
def vals1{x:V}(r:Vals [x] us):∃u,us=[u]∧RelV x u:=by
 cases r with
 |cons r1 r2=>cases r2;show⟨_,rfl,r1⟩
def vals2{x:V}(r:Vals [x,y] us):∃u w',us=[u,w']∧RelV x u∧RelV y w':=by
 cases r with
 |cons r1 r2=>
  cases r2 with
  |cons r3 r4=>cases r4;show Ψ2 _ _ ⟨rfl,r1,r3⟩
def yj:Eg X (.builtin "ord") (λxs H Q=>∃x,xs=[.str x]∧x.length=1∧Q (.int (x.cps.getD 0 0:Nat)) H):=by
 intro v0 s σ H xs us Q I r h;let⟨x,rfl,hz,q⟩:=h;let⟨u,rfl,⟨t,rfl⟩⟩:=vals1 r;show ord_of_one hz ⟨.int _,H,I.tok _,⟨_,rfl⟩,q⟩
end
structure zR(h:Heap)(x dx C:Addr)(mA:KK):Prop where
 obj:h.get? x=some (W.instObj C dx)
 ns:h.Ns1 dx mA
 ne:dx≠x
def wj{dx:Addr}(n:h.Ns1 dx mA):∃od,h.get? dx=some od∧∀name,W.lookIn name od=some (mA name):=by
 let⟨o,es,ep,ho,hd,hk,_,hm⟩:=n;show⟨o,ho,λname=>?_⟩;let e:=hm name;unfold nsFind findBy at e;rw[←Array.find?_toList]at e;unfold W.lookIn;rw[hd];dsimp only;split
 ·rename_i y q
  rw[q]at e;show DV some e
 ·rename_i q
  rw[q]at e;let a:es.toList.any (·.refKey)=false:=by
   rw[List.any_eq_false];intro y hy;let⟨z,t,V8⟩:=hk y (Array.mem_toList_iff.mp hy);simp[DictEntry.refKey,V8]
  let a':¬es.toList.any (·.refKey)=true:=by rw[a];show Bs
  rw[AP a'];show DV some e
def zR.look{x dx:Addr}(I:zR h x dx C mA):∃od,W.InstAt h x (W.instObj C dx) C (some od)∧∀name,W.lookIn name od=some (mA name):=
 let⟨od,ho,hl⟩:=wj I.ns
 ⟨od,⟨I.obj,rfl,rfl,ho⟩,hl⟩
section
variable {prog: Program}{w: World}{A: Around}{E: Value→Shared→Prop}{s: Shared}{K: W.Frag}{x C f: Addr}{mA: Str→Option Value}{name: Str}{v: Value}
def get_map{expr:Bool}(X:K.In s.heap)(I:zR s.heap x dx C mA)(hg:W.plainGet K C name=true)(hh:W.hasDictIn K C=true)
  (ha:W.findIn K (.ref C) name=some none) (hv:mA name=some v) (Cw:W.handedIn v=true) (h:Q v {s with toks:=s.toks+1}) :
  wpAny (model prog w) A (getAttr (.ref x) name expr) Q E s:=by
 let⟨od,J,hl⟩:=I.look;show W.get_value X J (TT hg).1 (W.findObj_own hh ha rfl (by rw[hl,hv])) Cw h
def aar{Q:Value×List Value→Shared→Prop}(X:K.In s.heap)(I:zR s.heap x dx C mA)(hg:W.plainGet K C name=true)
  (hf:W.findIn K (.ref C) name=some (some (.ref f))) (ht:W.isFn K (.ref f)=true) (hv:mA name=none) (h:Q (.ref f,[.ref x]) s) :
  wpAny (model prog w) A (getMethod (.ref x) name pl) Q E s:=by
 let⟨od,J,hl⟩:=I.look;show W.method_fn X J (TT hg).1 (TT hg).2 hf (ab4.mp ht) (by show(W.lookIn name od).map (·.isSome)=some false;rw[hl,hv];rfl) h
def acT{ns:List Str}{Q:Unit→Shared→Prop}(X:K.In s.heap)(I:zR s.heap x dx C mA)
  (hs:W.findIn K (.ref C) "__setattr__" = some (some (.builtin "object.__setattr__"))) (hp:W.plainOver K C=true) (ht:W.takerIn K C name=some none) (hh:W.hasDictIn K C=true)
  (hw:PySem.Within mA ns) (hsz:ns.length≤sizeLine)
  (h:∀h',zR h' x dx C (λy=>if y=name then some v else mA y)→Heap.SameBut dx s.heap h'→Q () {s with heap:=h',toks:=s.toks+2}) :
  wpAny (model prog w) A (setAttr (.ref x) name v) Q E s:=by
 let⟨od,J,hl⟩:=I.look;show W.set_plain X J hs (W.osa_open (s:={s with toks:=s.toks+1}) (r:=none) X J hp ht λb=>?_);let⟨cd,hc,NY⟩:=W.any_some hh;let hx:s.heap.get? x=some ⟨.ref C,some dx,.plain,#[]⟩:=I.obj;show A6 (AL (A6 (A6 (wpAny_loadPart hx (A6 (W.Looks.here (s:={s with toks:=s.toks+1}) (W.looks_clsIn X hc) ?_))))));rw[NY];show AL (a:=some dx) (A6 (AL (A6 ?_)));show wpAny_nsSet1 (s:={s with toks:=s.toks+1}) I.ns λh' RY vA=>?_;let⟨oD,esD,epD,hoD,hdD,hcD⟩:=RY.count (PySem.Within.cons name v hw);show A6 (wpAny_lookBehind hoD (by rw[hdD];show pastItsLine_dict (Cu hcD (by rw[CF];lia))) ?_);show AL (h _ ⟨(vA.2 _ (C3 I.ne)).trans I.obj,RY,I.ne⟩ vA)
def uk{R:Result→Shared→Prop}{vs:List Value}(X:K.In s.heap)(hm:W.makesIn K C=true)
  (hi:W.findIn K (.ref C) "__init__" = some (some (.ref f))) (hf:W.typeIn K (.ref f)=some (.type "function"))
  (h:codeAny (model prog w) (A.under (.builtin "type.__call__" ⟨.ref C::vs,kw⟩)) (.call (.ref f) ⟨.ref (s.heap.objs.size+1)::vs,kw⟩) (W.InitBack (s.heap.objs.size+1) R)
   {s with heap:=(s.heap.push W.emptyDict).push (W.instObj C s.heap.objs.size)}) :
  codeAny (model prog w) A (.call (.ref C) ⟨vs,kw⟩) R s:=by
 obtain⟨hh,g,d,t,os⟩:=s;show W.make_core (W.makes_of X hm) (W.looks_findIn X hi) (λself=>W.bind_fn X self hf) (.inl rfl) h
end
abbrev EE(f:Str)(v:V):List (Str×V)→List (Str×V)
 |[]=>[(f,v)]
 |(g,x)::r=>if g=f then(g,v)::r else(g,x)::EE f v r
def eQ(f g:Str)(v:V):∀fs:List (Str×V),(EE f v fs).lookup g=if g=f then some v else fs.lookup g
 |[]=>by
  show List.lookup g [(f,v)]=_
  by_cases h:g=f
  ·let hb:(g==f)=true:=ab4.mpr h
   simp only[List.lookup,hb,Ab h]
  ·let hb:(g==f)=false:=aa5.mpr h
   simp only[List.lookup,hb,AP h]
 |(k,x)::r=>by
  let ih:=eQ f g v r;rw[show EE f v ((k,x)::r)=(if k=f then(k,v)::r else(k,x)::EE f v r)from rfl];by_cases hk:k=f
  ·rw[Ab hk]
   by_cases h:g=k
   ·let hb:(g==k)=true:=ab4.mpr h
    simp only[List.lookup,hb,Ab (h.trans hk)]
   ·let hb:(g==k)=false:=aa5.mpr h
    simp only[List.lookup,hb,AP (λe:g=f=>h (e.trans hk.symm))]
  ·rw[AP hk]
   by_cases h:g=k
   ·let hb:(g==k)=true:=ab4.mpr h
    simp only[List.lookup,hb,AP (λe:g=f=>hk (h.symm.trans e))]
   ·let hb:(g==k)=false:=aa5.mpr h
    simp only[List.lookup,hb];show ih
def VK(f:Str)(v:V):∀fs:List (Str×V),f∈(EE f v fs).map (·.1)∧∀g,g∈fs.map (·.1)→g∈(EE f v fs).map (·.1)
 |[]=>⟨by simp[EE],λg h=>by simp at h⟩
 |(k,x)::r=>by
  let⟨i1,i2⟩:=VK f v r;rw[show EE f v ((k,x)::r)=(if k=f then(k,v)::r else(k,x)::EE f v r)from rfl];by_cases hk:k=f
  ·rw[Ab hk]
   subst hk;show⟨by simp,λg h=>by simpa using h⟩
  ·rw[AP hk]
   show⟨?_,λg h=>?_⟩
   ·rw[BU]
    show DT _ i1
   ·rw[BU]at h ⊢
    rcases aaf.mp h with e|e
    ·show aaf.mpr (.inl e)
    ·show DT _ (i2 g e)
def iq(f:Str)(v:V):∀fs:List (Str×V),(EE f v fs).length≤fs.length+1
 |[]=>by simp[EE]
 |(k,x)::r=>by
  let ih:=iq f v r;rw[show EE f v ((k,x)::r)=(if k=f then(k,v)::r else(k,x)::EE f v r)from rfl];by_cases hk:k=f
  ·rw[Ab hk,CF,CF];lia
  ·rw[AP hk,CF,CF];lia
def jr.some_of{o:Option Value}(r:jr (some v) o):∃u,o=some u∧RelV v u:=by
 cases o with
 |none=>show(show False from r).elim
 |some u=>show⟨u,rfl,r⟩
def jr.none_of{o:Option Value}(r:jr none o):o=none:=by
 cases o with
 |none=>rfl
 |some u=>show(show False from r).elim
def wF(r:RelV v u):W.handedIn u=true:=by
 cases v with
 |non=>cases(show u=Value.none from r);rfl
 |bl b=>cases(show u=Value.bool b from r);rfl
 |int i=>let⟨t,e⟩:=(show ∃t,u=Value.int i t from r);cases e;rfl
 |str x=>let⟨t,e⟩:=(show ∃t,u=Value.str x t from r);cases e;rfl
 |byt b=>let⟨t,e⟩:=(show ∃t,u=Value.bytes b t from r);cases e;rfl
 |flt b=>let⟨t,e⟩:=(show ∃t,u=Value.float b t from r);cases e;rfl
 |ref a=>cases(show u=Value.ref a from r);rfl
 |ty n=>cases(show u=Value.type n from r);rfl
section
variable {P: Program}{w: World}{H: A4}{h: Heap}{a C: Addr}{fs: List (Str×V)}
def Oa(bC:mH P w H h)(e:H a=some (.ins C dx fs)):∃mA,zR h a dx C mA∧(∀f,jr (fs.lookup f) (mA f))∧PySem.Within mA (fs.map (·.1))∧fs.length≤1000∧H dx=some (.own a):=by
 let⟨d,z,ne,ob,⟨mA,n,r,q⟩⟩:=(show bj P w H h a (.ins C dx fs)from bC a _ e);show⟨mA,⟨ob,n,ne⟩,r,q,z,d⟩
end
structure pK(K:W.Frag)(C:Addr):Prop where
 pg:W.plainGet K C Str.empty=true
 hd:W.hasDictIn K C=true
 po:W.plainOver K C=true
 sa:W.findIn K (.ref C) "__setattr__" = some (some (.builtin "object.__setattr__"))
def pK.get(c:pK K C)(f:Str):W.plainGet K C f=true:=c.pg
abbrev bF(K:W.Frag)(C:Addr)(f:Str):Prop:=W.findIn K (.ref C) f=some none
def bF.Px{f:Str}(n:bF K C f):W.takerIn K C f=some none:=by
 unfold W.takerIn;rw[show W.findIn K (.ref C) f=some none from n];rfl
structure Meth(K:W.Frag)(C:Addr)(m:Str)(f:Addr):Prop where
 at_:W.findIn K (.ref C) m=some (some (.ref f))
 fn:W.isFn K (.ref f)=true
 kp:W.keepIn K (.ref f)=true
section
variable {v0: List (Addr×Obj)}{σ: St}{H: A4}{s: Shared}{a C: Addr}{fs: List (Str×V)}{f: Str}{v: V}{A: Around}{E: Value→Shared→Prop}
def aaT{b:Bool}(I:Inv X v0 σ H s)(e:H a=some (.ins C dx fs))(c:pK X.K C)(n:bF X.K C f)(l:fs.lookup f=some v)
  (h:∀u s',Inv X v0 σ H s'→RelV v u→Q u s'):wpAny (model X.prog X.w) A (getAttr (.ref a) f b) Q E s:=by
 let⟨mA,O,r,_,_,_⟩:=Oa I.bC e;let⟨u,hu,ru⟩:=jr.some_of (v:=v) (o:=mA f) (by rw[←l];show r f);show get_map I.nQ O (c.get f) c.hd n hu (wF ru) (h u _ (I.tok _) ru)
def tu{m:Str}{g:Addr}{Q:Value×List Value→Shared→Prop}(I:Inv X v0 σ H s)(e:H a=some (.ins C dx fs))(c:pK X.K C)(k:Meth X.K C m g)(l:fs.lookup m=none)
  (h:Q (.ref g,[.ref a]) s):wpAny (model X.prog X.w) A (getMethod (.ref a) m pl) Q E s:=by
 let⟨mA,O,r,_,_,_⟩:=Oa I.bC e;let hn:mA m=none:=jr.none_of (by rw[←l];show r m);show aar I.nQ O (c.get m) k.at_ k.fn hn h
def wM{Q:Unit→Shared→Prop}(I:Inv X v0 σ H s)(e:H a=some (.ins C dx fs))(c:pK X.K C)(n:bF X.K C f)(hl:fs.length<1000)(ry:RelV y u)
  (h:∀s',Inv X v0 σ (AI H a (.ins C dx (EE f y fs))) s'→Q () s'):wpAny (model X.prog X.w) A (setAttr (.ref a) f u) Q E s:=by
 let⟨mA,O,r,wi,_,ho⟩:=Oa I.bC e;let hz:(fs.map (·.1)).length≤sizeLine:=by rw[AM,CN];lia
 show acT I.nQ O c.sa c.po n.Px c.hd wi hz λh' O' sb=>h _ ?_;let hd:∃o,h'.get? dx=some o:=let⟨o,_,_,e',_⟩:=O'.ns;⟨o,e'⟩
 show I.write (x:=a) (e:=dx) (by rw[e];show True.intro) (.inr ho) (λb q hb z=>(sb.2 b hb).trans z) hd ?_;show⟨by rw[Ay O.ne];show ho,?_,O.ne,O'.obj,_,O'.ns,λg=>?_,λg hg=>?_⟩
 ·have:=iq f y fs;lia
 ·show jr ((EE f y fs).lookup g) (if g=f then some u else mA g)
  rw[eQ];by_cases q:g=f
  ·rw[Ab q,Ab q];show ry
  ·rw[AP q,AP q];show r g
 ·by_cases q:g=f
  ·rw[q];show(VK f y fs).1
  ·show(VK f y fs).2 g (wi g λz=>hg ?_)
   show(if g=f then some u else mA g)=none
   rw[AP q];show z
def Inv.made(I:Inv X v0 σ H s):Inv X v0 σ (AI (AI H s.heap.objs.size (.own (s.heap.objs.size+1))) (s.heap.objs.size+1) (.ins C s.heap.objs.size []))
  {s with heap:=(s.heap.push W.emptyDict).push (W.instObj C s.heap.objs.size)}:=by
 let e1:(s.heap.push W.emptyDict).get? s.heap.objs.size=some W.emptyDict:=CW s.heap rfl;let e2:((s.heap.push W.emptyDict).push (W.instObj C s.heap.objs.size)).get? (s.heap.objs.size+1)=some (W.instObj C s.heap.objs.size):=by
  have:=CW (s.heap.push W.emptyDict) (o:=W.instObj C s.heap.objs.size) rfl;rwa[FG]at this
 let e3:(s.heap.push W.emptyDict).Ns s.heap.objs.size (λ_=>none):=Ψ3 W.emptyDict (#[]) _ ⟨e1,rfl,(λe he=>absurd he (by simp)),λ_=>rfl⟩;let I1:=I.laid (a:=s.heap.objs.size) (o:=.own (s.heap.objs.size+1)) (h':=s.heap.push W.emptyDict) (t':=s.toks) (λb u q=>Aw _ q) (Ah _) ⟨_,e1⟩;show I1.laid (a:=s.heap.objs.size+1) (o:=.ins C s.heap.objs.size []) (t':=s.toks) (λb u q=>Aw _ q) (Nat.le_of_eq (FG _ _)) ?_;let ne:s.heap.objs.size≠s.heap.objs.size+1:=BB (Hh _);show⟨by rw[Ay ne,B9],EY _,ne,e2,λ_=>none,(Heap.Ns1.of_empty e3).at λo q=>Aw _ q,λ_=>True.intro,λy hy=>absurd rfl hy⟩
def ade{prog:Program}{env:Env}{f:Str}{pos:Pos}{s:Shared}(hb:attributeBase e f env (eval e env)=eval e env)
  (h:wpAny (model prog w) A (eval e env) (λo s₁=>wpAny (model prog w) A (getAttr o f true) Q E s₁) E s):wpAny (model prog w) A (eval (.Attribute e f pos) env) Q E s:=
 Attribute_any_ h (by rw[arm_eval_Attribute,hb])
end
abbrev acP(K:W.Frag)(ta:AQ)(f:Str):AQ:=λσ H Q=>ta σ H λx H1=>∃a C dx fs v,x=.ref a∧H1 a=some (.ins C dx fs)∧pK K C∧bF K C f∧fs.lookup f=some v∧Q v H1
abbrev tV(K:W.Frag)(ta tv:AQ)(f:Str):Be:=λD σ H=>tv σ H λy H1=>ta σ H1 λx H2=>∃a C dx fs,x=.ref a∧H2 a=some (.ins C dx fs)∧pK K C∧bF K C f∧fs.length<1000∧
 D.nx σ (AI H2 a (.ins C dx (EE f y fs)))
section
variable {o e value: Expr}{f: Str}{pos': Pos}{tv: AQ}
def rV(he:PE X e ta)(hb:attributeBase e f X.env (eval e X.env)=eval e X.env):PE X (.Attribute e f pos) (acP X.K ta f):=by
 show .mk ?_;intro v0 s σ H Q I h;show ade hb (AF (he v0 s σ H _ I h) λu s1⟨x,H1,I1,rx,a,C,dx,fs,v,ex,ea,c,n,l,q⟩=>?_);subst ex;obtain rfl:u=Value.ref a:=rx;show aaT I1 ea c n l λu' s2 I2 ru=>Ψ2 v H1 ⟨I2,ru,q⟩
def rA(ha:PE X o ta)(hv:PE X value tv)(hs:swapsWith value (some (.Attribute o f pos')) pos.line X.env=pure false):PS X (.Assign [.Attribute o f pos'] value pos) (tV X.K ta tv f):=by
 show .mk ?_;intro v0 s σ H D I h;show plainObj_wpAny_Assign_Attribute (AF (hv v0 s σ H _ I h) λu s1 ξ=>Ξ23 ξ λy H1 I1 ry q=>AF (ha v0 s1 σ H1 _ I1 q) λov s2⟨x,H2,I2,rx,a,C,dx,fs,ex,ea,c,n,l,q2⟩=>?_) hs;subst ex;obtain rfl:ov=Value.ref a:=rx;show wM I2 ea c n l ry λs3 I3=>Ψ2 σ _ ⟨I3,q2⟩
end
section
variable {v0: List (Addr×Obj)}{σ: St}{H: A4}{s: Shared}{A: Around}{E: Value→Shared→Prop}{Q: Value→Shared→Prop}{c: Value}{b: Bool}
inductive Ex(K:W.Frag)(H:A4):V→Value→Prop where
 |non:Ex K H .non (.type "NoneType")
 |bl (x:Bool):Ex K H (.bl x) (.type "bool")
 |int (i:Int):Ex K H (.int i) (.type "int")
 |str (x:Str):Ex K H (.str x) (.type "str")
 |flt (x:UInt64):Ex K H (.flt x) (.type "float")
 |lst {a:Addr} {xs:List V} (e:H a=some (.lst xs)):Ex K H (.ref a) (.type "list")
 |frz {a:Addr} {o:Obj} {xs:List V} (e:H a=some (.frz o (.lst xs))):Ex K H (.ref a) (.type "list")
 |tup {a:Addr} {xs:List V} (e:H a=some (.tup xs)):Ex K H (.ref a) (.type "tuple")
 |dK {a:Addr} {aq:List (A7×V)} (e:H a=some (.dK aq)):Ex K H (.ref a) (.type "dict")
 |dT {a:Addr} {aq:List (List A7×V)} (e:H a=some (.dT aq)):Ex K H (.ref a) (.type "dict")
 |ins {a C dx:Addr} {fs:List (Str×V)} (e:H a=some (.ins C dx fs)) (cl:pK K C) (ha:W.findIn K (.ref C) "__class__" = some (some (.builtin "object.__class__")))
   (hn:W.specialIn K (.builtin "object.__class__") "__get__" = some (some (.builtin "getset_descriptor.__get__"))) (Yg:W.takesIn K (.builtin "object.__class__")=some true)
   (hm:W.mroIn K C (.type "object")=some true):Ex K H (.ref a) (.ref C)
def ack{x:V}{t:Value}(I:Inv X v0 σ H s)(rx:RelV x u)(ty:Ex X.K H x t)(e:W.kitOne X.K t c=some b)(h:∀tk,Q (.bool b) {s with toks:=tk}):
  wpAny (model X.prog X.w) A (call (.builtin "isinstance") [u,c]) Q E s:=by
 cases ty with
 |non=>cases(show u=Value.none from rx);show GA W.kitx_none I.nQ True.intro e (λz=>nomatch z) h
 |bl y=>cases(show u=Value.bool y from rx);show GA W.kitx_bool I.nQ True.intro e (λz=>nomatch z) h
 |int i=>let⟨t,q⟩:=(show ∃t,u=Value.int i t from rx);cases q;show GA W.kitx_int I.nQ True.intro e (λz=>nomatch z) h
 |str y=>let⟨t,q⟩:=(show ∃t,u=Value.str y t from rx);cases q;show GA W.kitx_str I.nQ True.intro e (λz=>nomatch z) h
 |flt y=>let⟨t,q⟩:=(show ∃t,u=Value.float y t from rx);cases q;show GA W.kitx_float I.nQ True.intro e (λz=>nomatch z) h
 |@lst a xs ea=>
  cases(show u=Value.ref a from rx);let⟨_,⟨_,n,_,h1⟩⟩:=(show bj X.prog X.w H s.heap a (.lst xs)from I.bC a _ ea);show GA W.kitx_list I.nQ ⟨_,h1,rfl⟩ e (λz=>nomatch z) h
 |@frz a ob xs ea=>
  cases(show u=Value.ref a from rx);let⟨_,_,⟨_,n,_,h1⟩⟩:=(show bj X.prog X.w H s.heap a (.frz ob (.lst xs))from I.bC a _ ea);show GA W.kitx_list I.nQ ⟨_,h1,rfl⟩ e (λz=>nomatch z) h
 |@tup a xs ea=>
  cases(show u=Value.ref a from rx);let⟨_,⟨_,_,p⟩⟩:=(show bj X.prog X.w H s.heap a (.tup xs)from I.bC a _ ea);let⟨o,h1,h2,_⟩:=p;show GA W.kitx_tuple I.nQ ⟨o,h1,h2⟩ e (λz=>nomatch z) h
 |@dK a aq ea=>
  cases(show u=Value.ref a from rx);let⟨_,_,⟨vs,_,p⟩⟩:=(show bj X.prog X.w H s.heap a (.dK aq)from I.bC a _ ea);let⟨o,es,ep,h1,h2,_⟩:=p;show GA W.kitx_dict I.nQ ⟨o,h1,h2.1⟩ e (λz=>nomatch z) h
 |@dT a aq ea=>
  cases(show u=Value.ref a from rx);let⟨_,_,⟨xs,_,⟨o,es,ep,h1,h2,_⟩⟩⟩:=(show bj X.prog X.w H s.heap a (.dT aq)from I.bC a _ ea);show GA W.kitx_dict I.nQ ⟨o,h1,h2.1⟩ e (λz=>nomatch z) h
 |@ins a C dx fs ea cl ha hn Yg hm=>
  cases(show u=Value.ref a from rx);let⟨mA,O,_⟩:=Oa I.bC ea;let⟨od,J,_⟩:=O.look;show GA (W.kitx_own (cl.get _) cl.hd ha hn Yg hm) I.nQ J e (λz=>nomatch z) h
end
structure dE(k:Nat)(A:Around):Prop where
 hd:A.handled=none
 dp:A.depth+3*k+5<recursionLimit
 un:A.units+16*k+200<cLine
def dE.mono(r:dE k A)(h:j≤k):dE j A:=⟨r.hd,by have:=r.dp;lia,by have:=r.un;lia⟩
def dE.deeper(r:dE (k+1) A)(env:Env):dE k (A.deeper env):=
 ⟨r.hd,by have:=r.dp;show A.depth+1+3*k+5<_;lia,by have:=r.un;show A.units+3+16*k+200<_;lia⟩
def nv:(A.under (.builtin "type.__call__" ⟨.ref C::us,kw⟩)).depth=A.depth+1:=by
 first|rfl|simp[Around.under,Code.weight,Code.isCreation,Code.isGuard,Code.isCaller,Code.frames,Code.isFrame,guardIds]
def vR:(A.under (.builtin "type.__call__" ⟨.ref C::us,kw⟩)).units=A.units+1:=by
 first|rfl|simp[Around.under,Code.cUnits,Code.frames,Code.isFrame]
def dE.make(r:dE (k+1) A)(C:Addr)(us:List Value)(kw:List (Str×Value)):dE k (A.under (.builtin "type.__call__" ⟨.ref C::us,kw⟩)):=
 ⟨r.hd,by have:=r.dp;rw[nv];lia,by have:=r.un;rw[vR];lia⟩
def dE.depth(r:dE k A):A.depth<recursionLimit:=by have:=r.dp;lia
def dE.units(r:dE k A):A.units+64<cLine:=by have:=r.un;lia
abbrev dF:CM:=λ_ H Q=>Q [] H
abbrev To(ta:AQ)(tr:CM):CM:=λσ H Q=>ta σ H λx H1=>tr σ H1 λxs H2=>Q (x::xs) H2
section
variable {e: Expr}{te: AQ}
def lx:PA X [] dF:=.mk λ_ _ _ _ H Q I h=>Calls.spliced_nil ⟨[],H,I,.nil,h⟩
def TO(ha:PE X e te)(hr:PA X es t)(hs:starEach (e::es) X.env=(false,eval e X.env)::starEach es X.env:=by rfl):PA X (e::es) (To te t):=by
 show .mk ?_;intro pos v0 s σ H Q I h;rw[hs];show wpAny _ _ (spliced ((false,eval e X.env)::backTo pos (starEach es X.env))) _ _ s
 show Calls.spliced_cons (AF (ha v0 s σ H _ I h) λu s1 ξ=>Ξ23 ξ λx H1 I1 r1 q1=>?_);show AF (hr pos v0 s1 σ H1 _ I1 q1) λus s2 ξ=>Ξ23 ξ λxs H2 I2 r2 q2=>Ψ2 (x::xs) H2 ⟨I2,.cons r1 r2,q2⟩
abbrev zy(t:CM):AQ:=λσ H Q=>t σ H λxs H1=>xs.length≤sizeLine∧∀p,H1 p=none→Q (.ref p) (AI H1 p (.tup xs))
abbrev tI(t:CM):AQ:=λσ H Q=>t σ H λxs H1=>xs.length≤sizeLine∧∀p,H1 p=none→Q (.ref p) (AI H1 p (.lst xs))
def vS{x1}(h:PA X es t):PE X (.Tuple es x1 pos) (zy t):=by
 show .mk ?_;intro v0 s σ H Q I hq;show wpAny_Tuple_spliced (AF (h pos v0 s σ H _ I hq) λus s1 ξ=>Ξ24 ξ λxs H1 I1 r z q=>⟨by rw[←r.length];show z,?_⟩);let hf:H1 s1.heap.objs.size=none:=I1.bC.fresh (Ah _);show Ψ2 (.ref s1.heap.objs.size) (AI H1 s1.heap.objs.size (.tup xs)) ⟨I1.laid (t':=s1.toks) (λb u e=>Aw _ e) (Ah _) ?_,rfl,q _ hf⟩;show⟨z,us,r,⟨_,CW _ rfl,rfl,_,rfl⟩⟩
def abV(h:PA X es t):PE X (.List es pos) (tI t):=by
 show .mk ?_;intro v0 s σ H Q I hq;show wpAny_List_spliced (AF (h pos v0 s σ H _ I hq) λus s1 ξ=>Ξ24 ξ λxs H1 I1 r z q=>⟨by rw[←r.length];show z,?_⟩);let hf:H1 s1.heap.objs.size=none:=I1.bC.fresh (Ah _);show Ψ2 (.ref s1.heap.objs.size) (AI H1 s1.heap.objs.size (.lst xs)) ⟨I1.laid (t':=s1.toks) (λb u e=>Aw _ e) (Ah _) ?_,rfl,q _ hf⟩;show⟨z,us,0,r,CW _ rfl⟩
end
abbrev Dq:=List V→A4→An→BD→Prop
abbrev Gl:=List Env→A4→Shared→BD→xz
structure zT(P:Program)(w:World)(K:W.Frag)(mg:KK)(base:Heap)(A:Around)(outer:List Env)(s:Shared)(H:A4):Prop where
 frames:A.frames=some outer
 mod:Mod K mg base
 bs:∀b o,base.get? b=some o→s.heap.get? b=some o∧H b=none
 F9:base.objs.size≤s.heap.objs.size
 mr:s.heap.FunFrames base outer
 Gx:∀b∈Dj outer,H b=none
 bC:mH P w H s.heap
 bare:AllBare s.gens
abbrev Ut(outer:List Env)(P:Program)(w:World)(H:A4)(s:Shared)(Q:An)(u:Value)(s':Shared):Prop:=
 ∃v H',s'.os=s.os∧AllBare s'.gens∧Un (Dj outer) [] H H' s.heap s'.heap∧mH P w H' s'.heap∧RelV v u∧Q v H'
abbrev wz(CX:Gl)(outer:List Env)(P:Program)(w:World)(H:A4)(s:Shared)(Q:An)(E:BD)(r:Result)(s':Shared):Prop:=
 match r with
 |.ok (.ret u)=>Ut outer P w H s Q u s'
 |.ok _=>False
 |.error e=>CX outer H s E e s'
structure bc(P:Program)(w:World)(K:W.Frag)(mg:KK)(base:Heap)(CX:Gl)(k:Nat)(f:Addr)(fd:FuncData)(ps:List Str)(sp:Dq):Prop where
 len:∀vs H Q E,sp vs H Q E→vs.length=ps.length
 run:∀(A:Around) (outer:List Env) (s:Shared) (H:A4) (args:Args) (us:List Value) (vs:List V) (Q:An) (E:BD),dE k A→zT P w K mg base A outer s H→BindsTo s fd args (ps.zip us)→Vals vs us→sp vs H Q E→
  codeAny (model P w) A (.call (.ref f) args) (wz CX outer P w H s Q E) s
def bc.mono{f:Addr}(F:bc P w K mg base CX j f fd ps sp)(h:j≤k):
  bc P w K mg base CX k f fd ps sp:=⟨F.len,λA outer s H args us vs Q E hr=>F.run A outer s H args us vs Q E (hr.mono h)⟩
def bc.imp{f:Addr}{Xy:Dq}(F:bc P w K mg base CX k f fd ps sp)
  (h:∀vs H Q E,Xy vs H Q E→sp vs H Q E):bc P w K mg base CX k f fd ps Xy:=
 ⟨λvs H Q E q=>F.len vs H Q E (h _ _ _ _ q),λA outer s H args us vs Q E hr he hb hv hs=>F.run A outer s H args us vs Q E hr he hb hv (h _ _ _ _ hs)⟩
def zT.make(e:zT P w K mg base A outer s H)(C:Addr)(us:List Value)(kw:List (Str×Value)):
  zT P w K mg base (A.under (.builtin "type.__call__" ⟨.ref C::us,kw⟩)) outer s H:=⟨by first|show e.frames|(simpa[Around.under,Code.envs,Code.isFrame,pushEnvs]using e.frames),e.mod,e.bs,e.F9,e.mr,e.Gx,e.bC,e.bare⟩
section
variable {v0: List (Addr×Obj)}{σ: St}{H: A4}{s s': Shared}
def Inv.Oh(I:Inv X v0 σ H s):zT X.prog X.w X.K X.mg X.base X.A X.stack s H:=
 ⟨I.ok.frames,I.ok.mod,I.bs,Cu I.ok.F9 I.sz,I.stack,I.qL,I.bC,I.bare⟩
def Inv.after{Q:An}(I:Inv X v0 σ H s)(h:Ut X.stack X.prog X.w H s Q u s'):BX X v0 σ Q u s':=by
 let⟨v,H',os,bare,un,bC,r,q⟩:=h;obtain⟨hh,g,d,t,Vf⟩:=s';obtain rfl:Vf=s.os:=os;show Ψ2 v H' ⟨I.call (h':=hh) (g':=g) (d':=d) (t':=t) (ch:=[]) un bC bare (λb z=>absurd z (by simp)),r,q⟩
end
abbrev aJ(sp:Dq)(vL:List V)(E:BD)(t:CM):AQ:=λσ H Q=>t σ H λvs H1=>sp (vs++vL) H1 Q E
abbrev acZ(C:Addr)(m:Str)(sp:Dq)(vL:List V)(E:BD)(ta:AQ)(t:CM):AQ:=λσ H Q=>ta σ H λx H1=>∃a dx fs,x=.ref a∧H1 a=some (.ins C dx fs)∧fs.lookup m=none∧
 t σ H1 λvs H2=>sp (x::(vs++vL)) H2 Q E
abbrev xk(C:Addr)(sp:Dq)(vL:List V)(E:BD)(t:CM):AQ:=λσ H Q=>t σ H λvs H1=>∀x dx,H1 x=none→H1 dx=none→dx≠x→
 sp (.ref x::(vs++vL)) (AI (AI H1 dx (.own x)) x (.ins C dx [])) (λv H2=>v=.non∧Q (.ref x) H2) E
abbrev Binds(K:W.Frag)(fd:FuncData)(ps:List Str)(ds:List Value):Prop:=
 ∀(s:Shared) (us:List Value),K.In s.heap→(us++ds).length=ps.length→BindsTo s fd ⟨us,[]⟩ (ps.zip (us++ds))
def Binds.all(h:∀us:List Value,us.length=ps.length→bindArgs fd ⟨us,[]⟩=pure (ps.zip us)):Binds K fd ps []:=λs us _ hl=>by
 rw[BN]at hl ⊢;show .of_eq (h us hl)
abbrev Passes(CX:Gl)(X:Cx)(E:BD):Prop:=∀(v0:ac) (σ:St) (H:A4) (s:Shared) (e:Value) (s':Shared),Inv X v0 σ H s→CX X.stack H s E e s'→X.xe e s'
section
variable {CX: Gl}{k: Nat}{f C: Addr}{fd: FuncData}{ps: List Str}{sp: Dq}{vL: List V}{ds: List Value}{E: BD}{x m: Str}{apos: Pos}{e o: Expr}
def Qs{Q:An}(F:bc X.prog X.w X.K X.mg X.base CX k f fd ps sp)(hr:dE k X.A)(hb:Binds X.K fd ps ds)(hd:Vals vL ds)(hx:Passes CX X E)
  (I:Inv X v0 σ H s) (r:Vals vs us) (h:sp (vs++vL) H Q E):wpAny (model X.prog X.w) X.A (call (.ref f) us) (BX X v0 σ Q) X.xe s:=by
 let r2:Vals (vs++vL) (us++ds):=r.append hd;let hl:(us++ds).length=ps.length:=by rw[←r2.length];show F.len _ _ _ _ h
 show wpAny_call (MA (F.run X.A X.stack s H ⟨us,[]⟩ (us++ds) (vs++vL) Q E hr I.Oh (hb s us I.nQ hl) r2 h) λr s' hq=>?_);cases r with
 |error e=>show hx v0 σ H s e s' I hq
 |ok fl=>
  cases fl with
  |ret u=>show I.after hq
  |next=>show False.elim hq
  |brk=>show False.elim hq
  |cont=>show False.elim hq
def zk(F:bc X.prog X.w X.K X.mg X.base CX k f fd ps sp)(hr:dE k X.A)(hg:Bk X x)(hm:X.mg x=some (.ref f))(hk:W.keepIn X.K (.ref f)=true)(hb:Binds X.K fd ps ds)(hd:Vals vL ds)(hx:Passes CX X E)
  (ha:PA X (e::es) t) (qC:(x ==("__debug__" : Str))=false:=by decide) (he:starEach (e::es) X.env=(false,eval e X.env)::starEach es X.env:=by rfl) (i7:(backTo pos (starEach es X.env)).any (·.1)=false:=by rfl) :
  PE X (.Call (.Name x p) (e::es) [] pos) (aJ sp vL E t):=by
 show .mk ?_;intro v0 s σ H Q I h;show J3 (Ka I hg hm ?_ qC);show LD (h₀:=X.base) I.ok.mod.KH hk (AF (ha pos v0 s σ H _ I h) λus s1 ξ=>Ξ23 ξ λvs H1 I1 r q=>⟨I1.nQ,?_⟩) he i7;show Qs F hr hb hd hx I1 r q
def acW(he:PE X o ta)(c:pK X.K C)(hm:Meth X.K C m f)(F:bc X.prog X.w X.K X.mg X.base CX k f fd ps sp)(hr:dE k X.A)(hb:Binds X.K fd ps ds)(hd:Vals vL ds)(hx:Passes CX X E)(ha:PA X (e::es) t)
  (x6:starEach (e::es) X.env=(false,eval e X.env)::starEach es X.env:=by rfl) (i7:(backTo pos (starEach es X.env)).any (·.1)=false:=by rfl)
  (ht:eval (.Call (.Attribute o m apos) (e::es) [] pos) X.env=(do
   let ov ←eval o X.env
   standAt apos.atName
   let(f,first) ←holding [ov] (getMethod ov m pl)
   callWith pos f first (backTo pos (starEach (e::es) X.env)) (backToKw pos (keywordEach [] X.env))):=by rfl) :
  PE X (.Call (.Attribute o m apos) (e::es) [] pos) (acZ C m sp vL E ta t):=by
 show .mk ?_;intro v0 s σ H Q I h;show W.methodCall_KW (pl:=pl) (AF (he v0 s σ H _ I h) λu s1⟨x,H1,I1,rx,a,dx,fs,ex,ea,l,q⟩=>?_) ht;subst ex;obtain rfl:u=Value.ref a:=rx;show tu I1 ea c hm l ?_;show LD (first:=[.ref a]) (h₀:=X.base) I.ok.mod.KH hm.kp (AF (ha pos v0 s1 σ H1 _ I1 q) λus s2 ξ=>Ξ23 ξ λvs H2 I2 r q2=>⟨I2.nQ,?_⟩) x6 i7;show Qs (us:=.ref a::us) (vs:=.ref a::vs) F hr hb hd hx I2 (.cons rfl r) q2
structure Ma(K:W.Frag)(C f:Addr):Prop where
 makes:W.makesIn K C=true
 init:W.findIn K (.ref C) "__init__" = some (some (.ref f))
 fn:W.isFn K (.ref f)=true
 kp:W.keepIn K (.ref C)=true
def wN{Q:An}(M:Ma X.K C f)(F:bc X.prog X.w X.K X.mg X.base CX k f fd ps sp)(hr:dE (k+1) X.A)(hb:Binds X.K fd ps ds)(hd:Vals vL ds)
  (hx:Passes CX X E) (I:Inv X v0 σ H s) (r:Vals vs us)
  (h:∀x dx,H x=none→H dx=none→dx≠x→sp (.ref x::(vs++vL)) (AI (AI H dx (.own x)) x (.ins C dx [])) (λv H2=>v=.non∧Q (.ref x) H2) E) :
  wpAny (model X.prog X.w) X.A (call (.ref C) us) (BX X v0 σ Q) X.xe s:=by
 let hq:=h (s.heap.objs.size+1) s.heap.objs.size (I.bC.fresh (BR _)) (I.bC.fresh (Ah _)) (BB (Hh _));let I2:=Inv.made (C:=C) I;let r2:Vals (V.ref (s.heap.objs.size+1)::(vs++vL)) (Value.ref (s.heap.objs.size+1)::(us++ds)):=.cons rfl (r.append hd);let hl:(Value.ref (s.heap.objs.size+1)::us++ds).length=ps.length:=by
  let e:=r2.length;rw[F.len _ _ _ _ hq]at e;show e.symm
 show wpAny_call (uk (f:=f) I.nQ M.makes M.init (ab4.mp M.fn) (MA (F.run _ X.stack _ _ ⟨Value.ref (s.heap.objs.size+1)::us,[]⟩ (Value.ref (s.heap.objs.size+1)::(us++ds)) _ _ E (hr.make C us [])
  (I2.Oh.make C us []) (hb _ (Value.ref (s.heap.objs.size+1)::us) I2.nQ hl) r2 hq) λr s' RQ=>?_))
 cases r with
 |error e=>show hx v0 σ _ _ e s' I2 RQ
 |ok fl=>
  cases fl with
  |ret u=>
   let⟨v,H',I3,rv,ev,q3⟩:=I2.after RQ;subst ev;show⟨rv,Ψ2 (V.ref (s.heap.objs.size+1)) H' ⟨I3,rfl,q3⟩⟩
  |next=>show False.elim RQ
  |brk=>show False.elim RQ
  |cont=>show False.elim RQ
def ub(M:Ma X.K C f)(F:bc X.prog X.w X.K X.mg X.base CX k f fd ps sp)(hr:dE (k+1) X.A)(hg:Bk X x)(hm:X.mg x=some (.ref C))(hb:Binds X.K fd ps ds)(hd:Vals vL ds)(hx:Passes CX X E)
  (ha:PA X (e::es) t) (qC:(x ==("__debug__" : Str))=false:=by decide) (he:starEach (e::es) X.env=(false,eval e X.env)::starEach es X.env:=by rfl) (i7:(backTo pos (starEach es X.env)).any (·.1)=false:=by rfl) :
  PE X (.Call (.Name x p) (e::es) [] pos) (xk C sp vL E t):=by
 show .mk ?_;intro v0 s σ H Q I h;show J3 (Ka I hg hm ?_ qC);show LD (h₀:=X.base) I.ok.mod.KH M.kp (AF (ha pos v0 s σ H _ I h) λus s1 ξ=>Ξ23 ξ λvs H1 I1 r q=>⟨I1.nQ,?_⟩) he i7;show wN M F hr hb hd hx I1 r q
end
structure PK(X:Cx)(TV:List Keyword)(t:CM):Prop where
 run:∀(pos:Pos) v0 s σ H (Q:List V→A4→Prop),Inv X v0 σ H s→t σ H Q→wpAny (model X.prog X.w) X.A (evalAll ((backToKw pos (keywordEach TV X.env)).map (·.2))) (PD X v0 σ Q) X.xe s
instance {X:Cx}{TV:List Keyword}{t:CM}:CoeFun (PK X TV t) λ_=>∀(pos:Pos) v0 s σ H (Q:List V→A4→Prop),Inv X v0 σ H s→t σ H Q→wpAny (model X.prog X.w) X.A (evalAll ((backToKw pos (keywordEach TV X.env)).map (·.2))) (PD X v0 σ Q) X.xe s:=⟨PK.run⟩
structure Aq(N P:List Str)(sc:Scope):Prop where
 kind:sc.kind=.function
 co:sc.isCoroutine=false
 gen:sc.isGenerator=false
 nd:N.Nodup
 pre:N.take P.length=P
 par:∀x∈P,sc.names.lookup x=some .local∨sc.names.lookup x=some .cell
 Nd:∀y∈sc.names,y.2≠.free
def fR{kindOf:Str→Option NameKind}{x:Str}:∀{binds:List (Str×Value)} {m:KK},(∀v,(x,v)∉binds)→bindL kindOf binds m x=m x
 |[],_,_=>rfl
 |(n,v)::r,m,h=>by
  unfold bindL;rw[fR λw hw=>h w (DT _ hw)];split
  ·have:x≠n:=by rintro rfl;show h v JZ
   simp[this]
  ·rfl
def X9{kindOf:Str→Option NameKind}{x:Str}:∀{binds:List (Str×Value)} {m:KK},(∀v,(x,v)∉binds)→bindC kindOf binds m x=m x
 |[],_,_=>rfl
 |(n,v)::r,m,h=>by
  unfold bindC;rw[X9 λw hw=>h w (DT _ hw)];split
  ·rfl
  ·have:x≠n:=by rintro rfl;show h v JZ
   simp[this]
def Wx{kindOf:Str→Option NameKind}{x:Str}{v:Value}:∀{P:List Str} {vs:List Value} {i:Nat} {m:KK},P.Nodup→P[i]?=some x→vs[i]?=some v→kindOf x=some .local→
  bindL kindOf (P.zip vs) m x=some v
 |[],_,_,_,_,h,_,_=>by simp at h
 |_::_,[],_,_,_,_,h,_=>by simp at h
 |p::P,w::vs,0,m,nd,h1,h2,hk=>by
  simp at h1 h2;subst h1;subst h2;show bindL kindOf ((p,w)::P.zip vs) m p=_
  unfold bindL;rw[fR λv hv=>(abd.mp nd).1 (LW hv).1,Ab hk];simp
 |p::P,w::vs,i+1,m,nd,h1,h2,hk=>by
  show bindL kindOf ((p,w)::P.zip vs) m x=_
  unfold bindL;show Wx (i:=i) (abd.mp nd).2 (by simpa using h1) (by simpa using h2) hk
def fu{kindOf:Str→Option NameKind}{x:Str}{v:Value}:∀{P:List Str} {vs:List Value} {i:Nat} {m:KK},P.Nodup→P[i]?=some x→vs[i]?=some v→kindOf x≠some .local→
  bindC kindOf (P.zip vs) m x=some v
 |[],_,_,_,_,h,_,_=>by simp at h
 |_::_,[],_,_,_,_,h,_=>by simp at h
 |p::P,w::vs,0,m,nd,h1,h2,hk=>by
  simp at h1 h2;subst h1;subst h2;show bindC kindOf ((p,w)::P.zip vs) m p=_
  unfold bindC;rw[X9 λv hv=>(abd.mp nd).1 (LW hv).1,AP hk];simp
 |p::P,w::vs,i+1,m,nd,h1,h2,hk=>by
  show bindC kindOf ((p,w)::P.zip vs) m x=_
  unfold bindC;show fu (i:=i) (abd.mp nd).2 (by simpa using h1) (by simpa using h2) hk
abbrev start(N:List Str)(vs:List V):St:=vs.map some++List.replicate (N.length-vs.length) none
abbrev Iu(CX:Gl)(P:Program)(w:World)(K:W.Frag)(mg:KK)(base:Heap)(N:List Str)(qual:Str)(scope:Scope)(f:Addr)(cd:Value)(A:Around)(outer:List Env)(s:Shared)(H:A4)(E:BD):Cx where
 prog:=P
 w:=w
 K:=K
 mg:=mg
 base:=base
 A:=A.deeper (envOfC qual scope s.heap.objs.size f cd)
 N:=N
 s₀:=s
 H₀:=H
 env:=envOfC qual scope s.heap.objs.size f cd
 outer:=outer
 stack:=envOfC qual scope s.heap.objs.size f cd::outer
 ex:=[]
 calm:=true
 fn:=λ_=>true
 pn:=[]
 xe:=λe s'=>wpAny (model P w) (A.deeper (envOfC qual scope s.heap.objs.size f cd)) (leaving (envOfC qual scope s.heap.objs.size f cd) e) (λ_ BH=>CX outer H s E e BH) (λe' BH=>CX outer H s E e' BH) s'
def gH{sc:Scope}(h:sc.names.lookup x=some .cell):∃c,(cellsFrom n sc.names []).lookup x=some c:=by
 let q:=W.cellsFrom_some sc.names n [] (.inl h);show ady.mp q
def nZ{f:Addr}{cd:Value}{s1:Shared}{E:BD}
  (S:Aq N ps scope) (hd:A.handled=none) (e0:zT P w K mg base A outer s H) (hl:vs.length=ps.length) (r:Vals vs us)
  (x:InCallC s s.heap.objs.size (bindL (envOfC qual scope s.heap.objs.size f cd).kindOf (ps.zip us) λ_=>none) (cellsFrom (s.heap.objs.size+1) scope.names []) (bindC (envOfC qual scope s.heap.objs.size f cd).kindOf (ps.zip us) λ_=>none) s1) :
  Inv (Iu CX P w K mg base N qual scope f cd A outer s H E) [] (start N vs) H s1:=by
 let i7:ps.length≤N.length:=by have:=DV List.length S.pre;rw[Em]at this;lia
 let⟨h1,tk,rfl,hk⟩:=x.done;let Rv:∀b:Addr,b∉(Iu CX P w K mg base N qual scope f cd A outer s H E).ex:=λb z=>absurd (show b∈([]:List Addr)from z) (by simp);show⟨⟨e0.mod,S.kind,rfl,rfl,Ah _,λy z c h1 h2=>?_,λy hy=>?_,λy c _ h=>?_,λ_=>hd,Around.frames_deeper e0.frames,.inr ⟨rfl,rfl⟩,λb z=>absurd z (Rv b),e0.bs,e0.F9,λb _ _=>Rv b,λb z=>absurd z (Rv b),e0.mr,e0.Gx⟩,
  rfl,e0.bare,Un.kept hk,⟨_,x.toInCall.ns,λi y v h1 h2 h3=>?_⟩,λy c h=>⟨_,x.cell y c h⟩,e0.bC.fresh (Ah _),λy c h=>?_,λp hp=>absurd (show p∈([]:ac)from hp) (by simp),e0.bC.kept hk,?_⟩
 ·show name_of_addr x.apart (Lb h1) (Lb h2)
 ·let hy:scope.names.lookup y=some .cell∨scope.names.lookup y=some .free:=hy
  rcases hy with hy|hy
  ·show gH hy
  ·show absurd rfl (S.Nd _ (Lb hy))
 ·show Cn (x.above y c (Lb h))
 ·let hi:i<vs.length:=by
   unfold start at h2;by_cases hi:i<vs.length
   ·show hi
   ·rw[LP (by simpa using hi)]at h2
    rw[ZQ]at h2;split at h2<;>cases h2
  let ha:vs[i]?=some v:=by
   unfold start at h2;rw[Ln (by simpa using hi),FK]at h2;cases e:vs[i]? with
   |none=>rw[e]at h2;cases h2
   |some a=>rw[e]at h2;cases h2;rfl
  let⟨u,hu,rv⟩:=r.get ha;let hp:ps[i]?=some y:=by
   rw[←S.pre,List.getElem?_take_of_lt (by lia)];show h1
  let XU:ps.Nodup:=by rw[←S.pre];show S.nd.sublist (List.take_sublist _ _)
  show⟨u,rv,?_⟩;rcases S.par y (MU hp)with k|k
  ·show .inl ⟨k,Wx XU hp hu k⟩
  ·let⟨c,e⟩:=gH (n:=s.heap.objs.size+1) k
   show .inr ⟨.inl k,c,e,?_⟩;let q:=x.cell y c e;rw[fu XU hp hu (by show scope.names.lookup y≠_;rw[k];decide)]at q;show q
 ·show e0.bC.fresh (Cn (x.above y c (Lb h)))
 ·unfold start
  show _=N.length
  rw[BO,AM,MC];lia
def iW{f:Addr}{name:Str}{params:Arguments}{dV Au doc pm cb ct oc:Value}{an od:Option Addr}
  {BS:Array (Option Value)}   (lk:K.lookup f=some ⟨oc,od,.func (W.fnOf name qual params body scope dV Au doc pm an cb ct),BS⟩) (xj:W.codeIn K cb qual=true) (S:Aq N ps scope)
  (len:∀vs H Q E,sp vs H Q E→vs.length=ps.length)
  (nW:∀(A:Around) (outer:List Env) (s:Shared) (H:A4) (vs:List V) (Q:An) (E:BD),dE k (A.deeper (envOfC qual scope s.heap.objs.size f cb))→sp vs H Q E→
   ∃t,mv (Iu CX P w K mg base N qual scope f cb A outer s H E) body t∧t {nx:=λ_ H'=>Q .non H',rt:=Q} (start N vs) H) :
  bc P w K mg base CX (k+1) f (W.fnOf name qual params body scope dV Au doc pm an cb ct) ps sp:=by
 show⟨len,λA outer s H args us vs Q E hr e0 hb r ya=>?_⟩;let hl:=len _ _ _ _ ya;let KX:K.In s.heap:=e0.mod.KH.keeps λb o e=>(e0.bs b o e).1;let lim:s.heap.NoLimit:=e0.mod.nolimit.keeps λb o e=>(e0.bs b o e).1;let R5:∀y∈ps.zip us,scope.names.lookup y.1=some .local∨(scope.names.lookup y.1=some .cell∧((cellsFrom (s.heap.objs.size+1) scope.names []).lookup y.1).isSome=true):=λ⟨n,v⟩ hy=>by
  rcases S.par n (LW hy).1 with q|q
  ·show .inl q
  ·show .inr ⟨q,W.cellsFrom_some _ _ _ (.inl q)⟩
 show codeAny_call_function hr.depth (KX _ _ lk) rfl S.co S.gen rfl (W.codeRec_of KX xj) (hb _ _ _ _ ?_);show wpAny_newFunctionEnv_cells S.kind R5 λenv he s1 x=>?_;subst he;show⟨lim.keeps x.toInCall.keep,codeAny_func ?_⟩;let⟨t,ht,hq⟩:=nW A outer s H vs Q E (hr.deeper _) ya;let I:Inv (Iu CX P w K mg base N qual scope f cb A outer s H E) [] (start N vs) H s1:=nZ S hr.hd e0 hl r x;show BV (ht [] s1 (start N vs) H _ I hq) (λfl s' hs=>?_) λe s' hs=>hs;let fin:∀{σ':St} {H':A4} {v:V} {u:Value},Inv (Iu CX P w K mg base N qual scope f cb A outer s H E) [] σ' H' s'→RelV v u→Q v H'→Ut outer P w H s Q u s':=
  λ{σ' H' v u} J rv q=>Ψ2 v H' ⟨J.os,J.bare,J.base,J.bC,rv,q⟩
 cases fl with
 |ret u=>
  let⟨v,σ',H',J,rv,q⟩:=hs;show fin J rv q
 |next=>
  let⟨σ',H',J,q⟩:=hs;show fin (v:=V.non) (u:=Value.none) J rfl q
 |brk=>
  let⟨_,_,_,q⟩:=hs;show False.elim q
 |cont=>
  let⟨_,_,_,q⟩:=hs;show False.elim q
section
variable {x: Str}{e: Expr}{id T: String}{r: List V→A4→An→Prop}
abbrev Qb(r:List V→A4→An→Prop)(t:CM):AQ:=λσ H Q=>t σ H λvs H1=>r vs H1 Q
def jC(hc:Eg X (.builtin id) r)(hg:Bk X x)(hm:X.mg x=none)(hv:bootBuiltins x=some (.builtin id))(ha:PA X (e::es) t)(hn:x ≠ "__name__" := by decide)(qC:(x ==("__debug__" : Str))=false:=by decide)
  (he:starEach (e::es) X.env=(false,eval e X.env)::starEach es X.env:=by rfl) (i7:(backTo pos (starEach es X.env)).any (·.1)=false:=by rfl):PE X (.Call (.Name x p) (e::es) [] pos) (Qb r t):=by
 show .mk ?_;intro v0 s σ H Q I h;show J3 (K3 I hg hm hv ?_ hn qC);show PyProof.Rows.callWith_builtin1 (AF (ha pos v0 s σ H _ I h) λus s1 ξ=>Ξ23 ξ λvs H1 I1 r1 q1=>hc v0 s1 σ H1 vs us Q I1 r1 q1) he i7
def nB(hc:Eg X (.type T) r)(hg:Bk X x)(hm:X.mg x=none)(hv:bootBuiltins x=some (.type T))(ha:PA X (e::es) t)(hn:x ≠ "__name__" := by decide)(qC:(x ==("__debug__" : Str))=false:=by decide)
  (he:starEach (e::es) X.env=(false,eval e X.env)::starEach es X.env:=by rfl) (i7:(backTo pos (starEach es X.env)).any (·.1)=false:=by rfl):PE X (.Call (.Name x p) (e::es) [] pos) (Qb r t):=by
 show .mk ?_;intro v0 s σ H Q I h;show J3 (K3 I hg hm hv ?_ hn qC);show Nh (AF (ha pos v0 s σ H _ I h) λus s1 ξ=>Ξ23 ξ λvs H1 I1 r1 q1=>hc v0 s1 σ H1 vs us Q I1 r1 q1) he i7
end
end L2
namespace HT
open PySem PyProof.Rows
variable {t sl:Addr}{Q:xz}{vl vu:Value}{lo hi:Option Int}
section
open PySem.SeqAt
open PySem.AutoSeq1 (wpAny_loadPart')
open PySem.MeetsSeq PySem.MeetsSeq2 PySem.MeetsSeq3
end
section
variable {prog: Program}{w: World}{A: Around}{E: Value→Shared→Prop}{s: Shared}
def Jb{b:Addr}{vs ws:List Value}(ht:IsTup s.heap t vs.toArray)(hb:IsTup s.heap b ws.toArray)(hv:vs≠[])
  (h1:ws=[]→Q (.ref t) s) (h2:ws≠[]→Q (.ref s.heap.objs.size) {s with heap:=s.heap.push {cls:=.type "tuple",data:=.seq (vs++ws).toArray}})
  (hsz:vs.length+ws.length≤sizeLine):wpAny (model prog w) A (binaryOp .Add (.ref t) (.ref b)) Q E s:=by
 obtain⟨⟨cls,dd,data,sl⟩,ho,hc,n,hd⟩:=id ht;obtain⟨⟨SU,Pb,data2,DU⟩,CA,KQ,n2,hd2⟩:=id hb;simp only at hc hd KQ hd2;subst hc hd KQ hd2;let e:vs.toArray++ws.toArray=(vs++ws).toArray:=by simp
 by_cases hw:ws=[]
 ·show NG ⟨_,ho,rfl⟩ ⟨_,CA,rfl⟩ S7 seq_tuple_add Ux S8 (Qm _ _)
   (tuple_addW1 t b vs.toArray ws.toArray n n2 dd Pb sl DU (by simpa using hv) (by simp[hw])) ⟨ho,CA,h1 hw⟩
 ·show NG ⟨_,ho,rfl⟩ ⟨_,CA,rfl⟩ S7 seq_tuple_add Ux S8 (Qm _ _)
   (tuple_addW2 t b vs.toArray ws.toArray n n2 dd Pb sl DU (by simpa using hv) (by simpa using hw) (by rw[BW,BW];show hsz)) ⟨ho,CA,?_⟩
  rw[e];show h2 hw
abbrev cV(n d:Nat):Option Int→Nat
 |none=>d
 |some v=>if v<0 then(v+(n:Int)).toNat else min v.toNat n
def rD(n d:Nat):cV n d none=d:=rfl
def uN(n d:Nat)(hd:d≤n)(o:Option Int):cV n d o≤n:=by
 cases o with
 |none=>show hd
 |some v=>
  show(if v<0 then(v+(n:Int)).toNat else min v.toNat n)≤n
  by_cases hv:v<0
  ·rw[Ab hv];lia
  ·rw[AP hv];show Nat.min_le_right _ _
def aA(v:Int)(n d:Nat):(if v<0 then max (v+(n:Int)) 0 else min v (n:Int))=((cV n d (some v):Nat):Int):=by
 show(if v<0 then max (v+(n:Int)) 0 else min v (n:Int))=(((if v<0 then(v+(n:Int)).toNat else min v.toNat n):Nat):Int)
 by_cases hv:v<0
 ·simp only[Ab hv];lia
 ·simp only[AP hv];lia
def yt(lo hi:Option Int)(n:Nat):Builtin.Slice.sliceAdjust lo hi 1 (n:Int)=(((cV n 0 lo:Nat):Int),((cV n n hi:Nat):Int)):=by
 let h1:¬((1:Int)<0):=by lia
 unfold Builtin.Slice.sliceAdjust;simp only[h1,HV];show L6 ?_ ?_
 ·cases lo with
  |none=>rfl
  |some v=>show aA v n 0
 ·cases hi with
  |none=>rfl
  |some v=>show aA v n n
def abm(i j:Nat):Builtin.Slice.slicePlaces (i:Int) (j:Int) 1=j-i:=by
 unfold Builtin.Slice.slicePlaces;let h1:(1:Int)>0:=by lia
 simp only[h1,IH,Int.ediv_one];split<;>lia
def dy{v:Value}{o:Option Int}{Q:Option Int→Shared→Prop}(p:IsPart v o)(h:Q o s):wpAny (model prog w) A (Builtin.Slice.slicePartIndex v) Q E s:=by
 cases p with
 |none=>show slicePart_none h
 |int i t=>show slicePart_int h
def jj{n:Nat}{Q:Int×Int×Nat→Shared→Prop}(hs:s.heap.IsSliceOf sl vl vu .none)(pl:IsPart vl lo)(pu:IsPart vu hi)
  (h:Q (((cV n 0 lo:Nat):Int),1,cV n n hi-cV n 0 lo) s):wpAny (model prog w) A (Builtin.Slice.sliceApplied (.ref sl) (pure (n:Int))) Q E s:=by
 let⟨os,NM,O0,NX⟩:=id hs;unfold Builtin.Slice.sliceApplied Builtin.Slice.sliceFields;show A6 (A6 (F1 NM NX (x:=vl) rfl (A6 (F1 NM NX (x:=vu) rfl (A6 (F1 NM NX (x:=.none) rfl (AL ?_)))))));show A6 (slicePart_none ?_);show wpAny _ _ (if((1:Int)==0)=true then _ else _) _ _ s
 rw[AP (by decide)];show A6 (dy pl (A6 (dy pu (A6 (AL ?_)))));show wpAny _ _ (match Builtin.Slice.sliceAdjust lo hi 1 (n:Int)with|(lo,hi)=>pure (lo,(1:Int),Builtin.Slice.slicePlaces lo hi 1)) _ _ s
 rw[yt lo hi n];show wpAny _ _ (pure (((cV n 0 lo:Nat):Int),(1:Int),Builtin.Slice.slicePlaces ((cV n 0 lo:Nat):Int) ((cV n n hi:Nat):Int) 1)) _ _ s
 rw[abm];show AL h
def aaI(xs:Array Value)(i k:Nat):((List.range k).filterMap λ(m:Nat)=>xs[((i:Int)+(m:Int)*1).toNat]?).toArray=((xs.toList.drop i).take k).toArray:=by
 let e:(λ(m:Nat)=>xs[((i:Int)+(m:Int)*1).toNat]?)=λm=>xs[i+m]? := by
  funext m
  have:((i:Int)+(m:Int)*1).toNat=i+m:=by lia
  rw[this]
 rw[e];have:=pick_run xs i k;rw[List.filterMap_map]at this;let e2:((λx=>xs[x]?) ∘ λx=>i+x)=λm=>xs[i+m]? := rfl;rw[e2]at this;rw[this]
def nY{items:Array Value}(ht:IsTup s.heap t items)(hs:s.heap.IsSliceOf sl vl vu .none)(pl:IsPart vl lo)(pu:IsPart vu hi)
  (hw:¬(cV items.size 0 lo=0∧cV items.size items.size hi=items.size))
  (h:Q (.ref s.heap.objs.size) {s with heap:=s.heap.push {cls:=.type "tuple",data:=.seq ((items.toList.drop (cV items.size 0 lo)).take (cV items.size items.size hi-cV items.size 0 lo)).toArray}})
  (hsz:items.size≤sizeLine):wpAny (model prog w) A (getItem (.ref t) (.ref sl)) Q E s:=by
 let AW:sizeOk (.seq ((items.toList.drop (cV items.size 0 lo)).take (cV items.size items.size hi-cV items.size 0 lo)).toArray):=by
  show((items.toList.drop (cV items.size 0 lo)).take (cV items.size items.size hi-cV items.size 0 lo)).toArray.size≤sizeLine
  rw[BW,Em,GL,Hy];lia
 let hj:cV items.size items.size hi≤items.size:=uN _ _ (Ah _) hi;let⟨os,NM,O0,NX⟩:=id hs;let Wl:s.TypeIs (.ref sl) "slice" :=⟨os,NM,O0⟩;unfold getItem
 try with_reducible refine Ep ?_
 first|refine A6 (AL ?_)|skip
 show A6 (wpAny_sequenceKey ht.typeIs (by decide) ?_);show A6 (IW (name:=Str.ofString "__getitem__") ht.typeIs abf
  (HP abf ht.typeIs entry_tuple_getitem ?_ (args_tuple_getitem _ _)))
 show wpAny _ _ (Builtin.Tuple.tupleItemsOf (.ref t) >>= _) _ _ s
 show A6 (tupleItemsOf_ ht ?_);show A6 (Ju Wl ?_);rw[Ab (by decide)];show A6 (jj hs pl pu ?_);let T5:¬((((cV items.size 0 lo:Nat):Int)==0&&(1:Int)==1&&(cV items.size items.size hi-cV items.size 0 lo)==items.size)=true):=by
  intro q;rw[EO,EO]at q;let q1:((cV items.size 0 lo:Nat):Int)=0:=eq_of_beq q.1.1;let q2:cV items.size items.size hi-cV items.size 0 lo=items.size:=eq_of_beq q.2;show hw ⟨by lia,by lia⟩
 show wpAny _ _ (if(((cV items.size 0 lo:Nat):Int)==0&&(1:Int)==1&&(cV items.size items.size hi-cV items.size 0 lo)==items.size)=true then _ else _) _ _ s
 rw[AP T5,aaI];first
  |show A6 (m:=Builtin.Tuple.tupleExact _) (Fy (AL ⟨_,rfl,AL h⟩) AW)
  |show A6 (m:=Builtin.Tuple.tupleExact _) (Fy (A6 (AL (AL ⟨_,rfl,AL h⟩))) AW)
  |show A6 (A6 (m:=Builtin.Tuple.tupleExact _) (Fy (AL (AL ⟨_,rfl,AL h⟩)) AW))
  |show A6 (A6 (m:=Builtin.Tuple.tupleExact _) (Fy (AL ⟨_,rfl,AL h⟩) AW))
end
end HT
namespace L2
open PySem PySem.Spec PyProof.Rows
variable {xs:List V}{us bf v6':List Value}{n j t':Nat}{i:Int}{v0:ac}{σ:St}{H:A4}{s:Shared}{p:Addr}{A:Around}{y x:V}{u v:Value}{X: Cx}{e: Expr}{pos: Pos}
abbrev Hz:=St→A4→(Option Int→A4→Prop)→Prop
structure PO(X:Cx)(e:Option Expr)(t:Hz):Prop where
 run:∀v0 s σ H (Q:Option Int→A4→Prop),Inv X v0 σ H s→t σ H Q→
  wpAny (model X.prog X.w) X.A (evalPart e X.env) (λu s'=>∃o H',Inv X v0 σ H' s'∧IsPart u o∧Q o H') X.xe s
instance {X:Cx}{e:Option Expr}{t:Hz}:CoeFun (PO X e t) λ_=>∀v0 s σ H (Q:Option Int→A4→Prop),Inv X v0 σ H s→t σ H Q→wpAny (model X.prog X.w) X.A (evalPart e X.env) (λu s'=>∃o H',Inv X v0 σ H' s'∧IsPart u o∧Q o H') X.xe s:=⟨PO.run⟩
abbrev wO:Hz:=λ_ H Q=>Q none H
abbrev wW(t:AQ):Hz:=λσ H Q=>t σ H λx H1=>∃i,x=.int i∧Q (some i) H1
section
variable {te: AQ}{lo hi: Option Expr}{tl th: Hz}{p2: Pos}
def tS:PO X none wO:=by
 show .mk ?_;intro v0 s σ H Q I h;rw[evalPart_none];show AL ⟨none,H,I,.none,h⟩
def zS(h:PE X e te):PO X (some e) (wW te):=by
 show .mk ?_;intro v0 s σ H Q I hw;rw[evalPart_some];show AF (h v0 s σ H _ I hw) λu s1 ξ=>Ξ23 ξ λx H1 I1 r1 q1=>?_;let⟨i,rfl,q⟩:=q1;let⟨t,rfl⟩:=r1;show Ψ2 (some i) H1 ⟨I1,.int i t,q⟩
abbrev Jj(X:Cx)(r:V→Option Int→Option Int→A4→An→Prop):Prop:=
 ∀v0 s σ H (x:V) (v vl vu:Value) (lo hi:Option Int) (sl:Addr) (Q:An),Inv X v0 σ H s→RelV x v→s.heap.IsSliceOf sl vl vu .none→IsPart vl lo→IsPart vu hi→r x lo hi H Q→
  ∃T id,typeLookup (.type T) "__getitem__" = pure (some (.builtin id))∧s.TypeIs v T∧wpAny (model X.prog X.w) X.A (getItem v (.ref sl)) (BX X v0 σ Q) X.xe s
abbrev xa(r:V→Option Int→Option Int→A4→An→Prop)(te:AQ)(tl th:Hz):AQ:=λσ H Q=>te σ H λx H1=>tl σ H1 λl H2=>th σ H2 λu H3=>r x l u H3 Q
def acS{r:V→Option Int→Option Int→A4→An→Prop}(hr:Jj X r)(he:PE X e te)(hl:PO X lo tl)(hu:PO X hi th):PE X (.Subscript e (.Slice lo hi none p2) pos) (xa r te tl th):=by
 show .mk ?_;intro v0 s σ H Q I h;show Subscript_ (AF (he v0 s σ H _ I h) λv s1 ξ=>Ξ23 ξ λx H1 I1 r1 q1=>?_);show wpAny_Slice (AF (hl v0 s1 σ H1 _ I1 q1) λvl s2 ξ=>Ξ23 ξ λl H2 I2 pl q2=>AF (hu v0 s2 σ H2 _ I2 q2) λvu s3 ξ=>Ξ23 ξ λu H3 I3 pu q3=>?_);rw[evalPart_none];show AL ?_;let I4:Inv X v0 σ H3 {s3 with heap:=s3.heap.push {cls:=.type "slice",data:=.fields #[vl,vu,.none]}}:=I3.kept (t':=s3.toks) λb ob q=>Aw _ q;let⟨T,id,hT,ht,hg⟩:=hr v0 {s3 with heap:=s3.heap.push {cls:=.type "slice",data:=.fields #[vl,vu,.none]}} σ H3 x v vl vu l u s3.heap.objs.size Q I4 r1 (Heap.IsSliceOf.new ..) pl pu q3;show wpAny (model X.prog X.w) X.A (subscriptTail e (.Slice lo hi none p2) v (.ref s3.heap.objs.size)) (BX X v0 σ Q) X.xe {s3 with heap:=s3.heap.push {cls:=.type "slice",data:=.fields #[vl,vu,.none]}}
 show tail_any (ops:=[.ref s3.heap.objs.size,v]) ht hT hg (by with_unfolding_all rfl)
abbrev FV(xs:List V)(lo hi:Option Int):List V:=(xs.drop (HT.cV xs.length 0 lo)).take (HT.cV xs.length xs.length hi-HT.cV xs.length 0 lo)
def mR(xs:List V)(lo hi:Option Int):(FV xs lo hi).length≤xs.length:=by
 unfold FV;rw[Em,GL];lia
abbrev aaw(K:W.Frag):V→Option Int→Option Int→A4→An→Prop:=λx lo hi H Q=>∃a xs,x=.ref a∧dG K H a xs∧
 ¬(HT.cV xs.length 0 lo=0∧HT.cV xs.length xs.length hi=xs.length)∧∀p,H p=none→Q (.ref p) (AI H p (.tup (FV xs lo hi)))
def Key:Jj X (aaw X.K):=by
 intro v0 s σ H x v vl vu lo hi sl Q I rx hs pl pu h;let⟨a,xs,rfl,hx,hw,q⟩:=h;cases rx;let⟨bf,r,ht,hz⟩:=I.tuple hx;let hlen:bf.toArray.size=xs.length:=by rw[BW];show r.length.symm
 show Ψ2 ("tuple") _ ⟨abf.lookup,ht.typeIs,?_⟩;show HT.nY ht hs pl pu (by rw[hlen];show hw) ?_ (by rw[hlen];show hz);rw[hlen];show Ψ2 (.ref s.heap.objs.size) _ ⟨I.laid (t':=s.toks) (o:=.tup (FV xs lo hi)) (λb ob q=>Aw _ q) (Ah _) ?_,rfl,q _ (I.bC.fresh (Ah _))⟩;show⟨Cu (mR xs lo hi) hz,_,(r.drop (HT.cV xs.length 0 lo)).take (HT.cV xs.length xs.length hi-HT.cV xs.length 0 lo),IsTup.new _ _⟩
abbrev abY(K:W.Frag):DY:=λx y H Q=>∃a b xs ys,x=.ref a∧y=.ref b∧dG K H a xs∧dG K H b ys∧xs≠[]∧xs.length+ys.length≤sizeLine∧
 (ys=[]→Q (.ref a) H)∧(ys≠[]→∀p,H p=none→Q (.ref p) (AI H p (.tup (xs++ys))))
def Vals.vo(r:Vals xs us):us=[]↔xs=[]:=by
 cases r with
 |nil=>simp
 |cons _ _=>simp
def yp:iS X (binaryOp .Add) (abY X.K):=by
 intro v0 s σ H x y v u Q I rx ry h;let⟨a,b,xs,ys,rfl,rfl,ha,hb,hx,hz,q1,q2⟩:=h;cases rx;cases ry;let⟨bf,r1,p1,_⟩:=I.tuple ha;let⟨ku,r2,p2,_⟩:=I.tuple hb;show HT.Jb p1 p2 (λz=>hx (r1.vo.mp z)) (λz=>Ψ2 (.ref a) H ⟨I,rfl,q1 (r2.vo.mp z)⟩) (λz=>?_) (by rw[←r1.length,←r2.length];show hz);show Ψ2 (.ref s.heap.objs.size) _ ⟨I.laid (t':=s.toks) (o:=.tup (xs++ys)) (λb ob q=>Aw _ q) (Ah _) ?_,rfl,q2 (λw=>z (r2.vo.mpr w)) _ (I.bC.fresh (Ah _))⟩;show⟨by rw[BO];show hz,_,r1.append r2,IsTup.new _ _⟩
end
abbrev G4(n:Nat)(i:Int):Option Nat:=if 0≤i then(if i<n then some i.toNat else none)else if -(n:Int)≤i then some (i+n).toNat else none
abbrev CG{α:Type}(xs:List α)(i:Int):Option α:=(G4 xs.length i).bind λj=>xs[j]?
def iC(h:G4 n i=some j):seqIndex? i n=some j∧j<n∧-(n:Int)≤i∧i<n:=by
 unfold G4 at h;by_cases h0:0≤i
 ·rw[Ab h0]at h
  by_cases h1:i<n
  ·rw[Ab h1]at h
   let e:i.toNat=j:=EJ h;show⟨by rw[seqIndex_of h0 h1,e],by lia,by lia,h1⟩
  ·rw[AP h1]at h;cases h
 ·rw[AP h0]at h
  by_cases h1:-(n:Int)≤i
  ·rw[Ab h1]at h
   let e:(i+n).toNat=j:=EJ h;show⟨by rw[seqIndex_neg (by lia) h1,e],by lia,h1,by lia⟩
  ·rw[AP h1]at h;cases h
def UK{α:Type}{xs:List α}{v:α}(h:CG xs i=some v):∃j,seqIndex? i xs.length=some j∧xs[j]?=some v∧j<xs.length∧-(xs.length:Int)≤i∧i<xs.length:=by
 unfold CG at h;cases e:G4 xs.length i with
 |none=>rw[e]at h;cases h
 |some j=>
  rw[e]at h;let⟨h1,h2,h3,h4⟩:=iC e;show⟨j,h1,h,h2,h3,h4⟩
def FA{α:Type}{xs:List α}{v:α}(h:xs[j]?=some v):CG xs (j:Int)=some v:=by
 let hj:j<xs.length:=(aaE.mp h).1;let e:G4 xs.length (j:Int)=some j:=by
  unfold G4;rw[Ab (by lia),Ab (by lia)];simp
 unfold CG;rw[e];show h
abbrev LY(b:Expr):Prop:=∀o i,subscripted b false o i=operate [o,i] (getItem o i)
abbrev Jv(X:Cx)(r:DY):Prop:=
 ∀(value slice:Expr) v0 s σ H (x y:V) (v u:Value) (Q:An),Inv X v0 σ H s→RelV x v→RelV y u→r x y H Q→
  subscripted slice false v u=operate [v,u] (getItem v u)→wpAny (model X.prog X.w) X.A (subscriptTail value slice v u) (BX X v0 σ Q) X.xe s
abbrev J8(X:Cx)(id:String)(r:V→List V→A4→An→Prop):Prop:=
 ∀v0 s σ H (x:V) (xs:List V) (v:Value) (us:List Value) (Q:An),Inv X v0 σ H s→RelV x v→Vals xs us→r x xs H Q→
  wpAny (model X.prog X.w) X.A (call (.builtin id) (v::us)) (BX X v0 σ Q) X.xe s
section
variable {a b: Expr}{ta tb: AQ}
def Jv.or{r r':DY}(h:Jv X r)(h':Jv X r'):Jv X (λx y H Q=>r x y H Q∨r' x y H Q):=by
 intro value slice v0 s σ H x y v u Q I rx ry q hs;rcases q with q|q
 ·show h value slice v0 s σ H x y v u Q I rx ry q hs
 ·show h' value slice v0 s σ H x y v u Q I rx ry q hs
def mS{r:DY}(hr:Jv X r)(ha:PE X a ta)(hb:PE X b tb)(hs:LY b):PE X (.Subscript a b pos) (MK r ta tb):=by
 show .mk ?_;intro v0 s σ H Q I h;show Subscript_ (Qn ha hb I h λv u s2 x y H2 I2 rx ry q=>hr a b v0 s2 σ H2 x y v u Q I2 rx ry q (hs _ _))
abbrev bU(K:W.Frag):DY:=λx y H Q=>∃p xs i v,x=.ref p∧y=.int i∧lI K H p xs∧CG xs i=some v∧Q v H
abbrev jw(K:W.Frag):DY:=λx y H Q=>∃p xs i v,x=.ref p∧y=.int i∧dG K H p xs∧CG xs i=some v∧Q v H
abbrev c6:DY:=λx y H Q=>∃z i c,x=.str z∧y=.int i∧z.length≤sizeLine∧CG z.cps.toList i=some c∧Q (.str ⟨#[c]⟩) H
def Iq:Jv X (bU X.K):=by
 intro value slice v0 s σ H x y v u Q I rx ry h hs;let⟨p,xs,i,z,rfl,rfl,hq,he,q⟩:=h;cases rx;let⟨t,rfl⟩:=ry;let⟨bf,r,pl,hz⟩:=I.list hq;let⟨j,h1,h2,h3,h4,h5⟩:=UK he;let⟨w,ew,oP⟩:=r.get h2;let hl:=r.length;let hn:=J7;let fin:BX X v0 σ Q w s:=Ψ2 z H ⟨I,oP,q⟩;by_cases h0:0≤i
 ·let hj:i.toNat=j:=by
   rw[seqIndex_of h0 h5]at h1;show EJ h1
  show item_listR pl.isList h0 (by lia) (by rw[hj];simpa using ew) fin hs
 ·let hj:(i+(bf.toArray.size:Int)).toNat=j:=by
   rw[seqIndex_neg (by lia) h4]at h1;rw[BW,←hl];show EJ h1
  show subscriptTail_builtinR (x:=w) pl.isList.typeIs slot_list_getitem.lookup
   (wpAny_getItem_list_neg (Q:=λr s'=>r=w∧BX X v0 σ Q r s') pl.isList (by lia) (by rw[BW]<;>lia) (by lia) (by rw[hj];simpa using ew) ⟨rfl,fin⟩) hs
def NB:Jv X (jw X.K):=by
 intro value slice v0 s σ H x y v u Q I rx ry h hs;let⟨p,xs,i,z,rfl,rfl,hq,he,q⟩:=h;cases rx;let⟨t,rfl⟩:=ry;let⟨bf,r,pl,hz⟩:=I.tuple hq;let⟨j,h1,h2,h3,h4,h5⟩:=UK he;let⟨w,ew,oP⟩:=r.get h2;let hl:=r.length;let hn:=J7;let fin:BX X v0 σ Q w s:=Ψ2 z H ⟨I,oP,q⟩;show subscriptTail_builtinR (x:=w) pl.typeIs slot_tuple_getitem.lookup
  (getItem_tuple (j:=j) (Q:=λr s'=>r=w∧BX X v0 σ Q r s') pl (by lia) (by lia) (by rw[BW,←hl];show h1) (by simpa using ew) ⟨rfl,fin⟩) hs
def VO:Jv X c6:=by
 intro value slice v0 s σ H x y v u Q I rx ry h hs;let⟨z,i,c,rfl,rfl,hz,he,q⟩:=h;let⟨t,rfl⟩:=rx;let⟨t',rfl⟩:=ry;let⟨j,h1,h2,h3,h4,h5⟩:=UK he;let hl:z.cps.toList.length=z.length:=by simp[Str.length]
 rw[hl]at h1 h4 h5;let hn:=J7;show tail_any (MQ s z t) slot_str_getitem.lookup (getItem_str (c:=c) (by
  let e1:decide (i < -(2^63:Int))=false:=DN (by lia);let e2:decide (i ≥ 2^63)=false:=DN (by lia);rw[e1,e2,Qa]) (by rw[h1];simpa using h2) ⟨.str ⟨#[c]⟩,H,I.tok _,⟨_,rfl⟩,q⟩) hs
abbrev yF(K:W.Frag):DY:=λx y H Q=>bU K x y H Q∨jw K x y H Q∨c6 x y H Q
def aah:Jv X (yF X.K):=Iq.or (NB.or VO)
def xo(bf:List Value)(n j:Nat)(u:Value):Obj.mapSeq (·.setIfInBounds j u) {cls:=.type "list",data:=.seq bf.toArray n}={cls:=.type "list",data:=.seq (bf.set j u).toArray n}:=by
 simp[Obj.mapSeq]
def Inv.lst(I:Inv X v0 σ H s)(h:H p=some (.lst xs)):
  ∃(bf:List Value) (n:Nat),Vals xs bf∧s.heap.get? p=some {cls:=.type "list",data:=.seq bf.toArray n}∧xs.length≤sizeLine:=by
 let⟨z,⟨bf,n,r,e⟩⟩:=I.bC p _ h;show Ψ2 bf n ⟨r,e,z⟩
def Inv.Nk{ys:List V}{n':Nat}{f:Obj→Obj}(I:Inv X v0 σ H s)(h:H p=some (.lst xs))
  (ho:s.heap.get? p=some {cls:=.type "list",data:=.seq bf.toArray n}) (hf:f {cls:=.type "list",data:=.seq bf.toArray n}={cls:=.type "list",data:=.seq v6'.toArray n'}) (r:Vals ys v6') (hz:ys.length≤sizeLine) (t:Nat) :
  Inv X v0 σ (AI H p (.lst ys)) {s with heap:=s.heap.update p f,toks:=t}:=by
 let e:(s.heap.update p f).get? p=some {cls:=.type "list",data:=.seq v6'.toArray n'}:=by
  rw[JJ f ho (by rw[hf]<;>rfl),hf]
 show I.write (x:=p) (e:=p) (by rw[h];trivial) (.inl rfl) (λb u hb q=>(Kv _ _ (C3 hb)).trans q) ⟨_,e⟩ ?_;show⟨hz,v6',n',r,e⟩
abbrev vi:V→V→V→A4→(A4→Prop)→Prop:=λo i v H Q=>∃p xs k j,o=.ref p∧i=.int k∧H p=some (.lst xs)∧G4 xs.length k=some j∧Q (AI H p (.lst (xs.set j v)))
def set_list:eN X vi:=by
 intro v0 s σ H o i v ov iv u Q I ro ri rv h;let⟨p,xs,k,j,rfl,rfl,hp,hj,q⟩:=h;cases ro;let⟨t,rfl⟩:=ri;let⟨bf,n,r,ho,hz⟩:=I.lst hp;let⟨h1,h2,h3,h4⟩:=iC hj;let hl:=r.length;let hn:=J7;let I':Inv X v0 σ (AI H p (.lst (xs.set j v))) {s with heap:=s.heap.update p (Obj.mapSeq (·.setIfInBounds j u))}:=
  I.Nk hp ho (xo bf n j u) (r.set rv j) (by rw[List.length_set];show hz) s.toks
 by_cases h0:0≤k
 ·let hk:k.toNat=j:=by
   rw[seqIndex_of h0 h4]at h1;show EJ h1
  show W.ki_setAt ho h0 (by lia) (by rw[BW,←hl];show h4) (by rw[hk];show⟨_,I',q⟩)
 ·let hk:(k+(bf.toArray.size:Int)).toNat=j:=by
   rw[seqIndex_neg (by lia) h3]at h1;rw[BW,←hl];show EJ h1
  show W.ki_setBack ho (by lia) (by rw[BW,←hl];show h3) (by lia) (by rw[hk];show⟨_,I',q⟩)
def adj(lo hi:Option Int)(n:Nat):(sliceBounds lo hi none n).1=((HT.cV n 0 lo:Nat):Int)∧(sliceBounds lo hi none n).2.1=((HT.cV n n hi:Nat):Int)∧(sliceBounds lo hi none n).2.2=1:=by
 show⟨?_,?_,rfl⟩
 ·cases lo with
  |none=>simp[sliceBounds,HT.cV]
  |some i=>
   simp only[sliceBounds,HT.cV,Option.getD_none,show(1:Int)>0 by decide,IH];by_cases h:i<0
   ·simp only[h,IH]<;>lia
   ·simp only[h,HV]<;>lia
 ·cases hi with
  |none=>simp[sliceBounds,HT.cV]
  |some i=>
   simp only[sliceBounds,HT.cV,Option.getD_none,show(1:Int)>0 by decide,IH];by_cases h:i<0
   ·simp only[h,IH]<;>lia
   ·simp only[h,HV]<;>lia
def oN(bf:List Value)(lo hi:Option Int):slicePick bf.toArray lo hi none=((bf.drop (HT.cV bf.length 0 lo)).take (HT.cV bf.length bf.length hi-HT.cV bf.length 0 lo)).toArray:=by
 let⟨h1,h2,h3⟩:=adj lo hi bf.toArray.size;unfold slicePick;rw[h1,h2,h3];simp only[sliceRange_one,pick_run,BW]<;>rfl
abbrev uc(K:W.Frag):V→Option Int→Option Int→A4→An→Prop:=λx lo hi H Q=>∃a xs,x=.ref a∧lI K H a xs∧∀p,H p=none→Q (.ref p) (AI H p (.lst (FV xs lo hi)))
def fW:Jj X (uc X.K):=by
 intro v0 s σ H x v vl vu lo hi sl Q I rx hs pl pu h;let⟨a,xs,rfl,hx,q⟩:=h;cases rx;let⟨bf,r,ht,hz⟩:=I.list hx;let hlen:=r.length;show Ψ2 ("list") _ ⟨slot_list_getitem.lookup,ht.isList.typeIs,?_⟩;show wpAny_getItem_list_slice ht.isList hs pl pu .none (by simp) ?_ (by rw[BW]<;>lia)
 rw[oN,←hlen];show Ψ2 (.ref s.heap.objs.size) _ ⟨I.laid (t':=s.toks) (o:=.lst (FV xs lo hi)) (λb ob q=>Aw _ q) (Ah _) ?_,rfl,q _ (I.bC.fresh (Ah _))⟩;show⟨Cu (mR xs lo hi) hz,_,0,(r.drop (HT.cV xs.length 0 lo)).take (HT.cV xs.length xs.length hi-HT.cV xs.length 0 lo),CW _ rfl⟩
abbrev EI:V→Bool
 |.non=>true
 |.bl _=>true
 |.int _=>true
 |.str _=>true
 |_=>false
abbrev ER:V→V→Bool
 |.non,.non=>true
 |.bl a,.bl b=>a==b
 |.bl a,.int b=>(if a then 1 else 0)==b
 |.int a,.bl b=>a ==(if b then 1 else 0)
 |.int a,.int b=>a==b
 |.str a,.str b=>a==b
 |_,_=>false
def Lj(ry:RelV y u)(rx:RelV x v)(fy:EI y=true)(fx:EI x=true):SeqAt.EqAt A s u v (ER y x):=by
 cases y with
 |non=>
  cases ry;cases x with
  |non=>cases rx;show SeqAt.EqAt.same _
  |bl b=>cases rx;show SeqAt.EqAt.none_bool b
  |int b=>let⟨t,rfl⟩:=rx;show SeqAt.EqAt.none_int b t
  |str b=>let⟨t,rfl⟩:=rx;show SeqAt.EqAt.none_str b t
  |_=>show absurd (show false=true from fx) Bs
 |bl a=>
  cases ry;cases x with
  |non=>cases rx;show SeqAt.EqAt.bool_none a
  |bl b=>cases rx;show SeqAt.EqAt.bool_bool a b
  |int b=>let⟨t,rfl⟩:=rx;show SeqAt.EqAt.bool_int a b t
  |str b=>let⟨t,rfl⟩:=rx;show SeqAt.EqAt.bool_str a b t
  |_=>show absurd (show false=true from fx) Bs
 |int a=>
  let⟨t',rfl⟩:=ry;cases x with
  |non=>cases rx;show SeqAt.EqAt.int_none a t'
  |bl b=>cases rx;show SeqAt.EqAt.int_bool a t' b
  |int b=>let⟨t,rfl⟩:=rx;show SeqAt.EqAt.int_int a t' b t
  |str b=>let⟨t,rfl⟩:=rx;show SeqAt.EqAt.int_str a t' b t
  |_=>show absurd (show false=true from fx) Bs
 |str a=>
  let⟨t',rfl⟩:=ry;cases x with
  |non=>cases rx;show SeqAt.EqAt.str_none a t'
  |bl b=>cases rx;show SeqAt.EqAt.str_bool a t' b
  |int b=>let⟨t,rfl⟩:=rx;show SeqAt.EqAt.str_int a t' b t
  |str b=>let⟨t,rfl⟩:=rx;show SeqAt.EqAt.str_str a t' b t
  |_=>show absurd (show false=true from fx) Bs
 |_=>show absurd (show false=true from fy) Bs
abbrev Eo(x:V)(u:Value):Bool:=match u with
 |.none=>ER .non x
 |.bool b=>ER (.bl b) x
 |.int i _=>ER (.int i) x
 |.str z _=>ER (.str z) x
 |_=>false
def ZY(r:RelV y u)(f:EI y=true):Eo x u=ER y x:=by
 cases y with
 |non=>cases r;rfl
 |bl b=>cases r;rfl
 |int i=>let⟨t,rfl⟩:=r;rfl
 |str z=>let⟨t,rfl⟩:=r;rfl
 |_=>show absurd (show false=true from f) Bs
def LI{x:V}:∀{xs:List V} {us:List Value},Vals xs us→xs.all EI=true→us.any (Eo x)=xs.any λy=>ER y x
 |_,_,.nil,_=>rfl
 |y::xs,u::us,.cons r t,f=>by
  rw[NO,EO]at f;rw[HG,HG,ZY r f.1,LI t f.2]
def LS{A:Around}{s:Shared}{x:V}{v:Value}(rx:RelV x v)(fx:EI x=true):∀{xs:List V} {us:List Value},Vals xs us→xs.all EI=true→∀u∈us,SeqAt.EqAt A s u v (Eo x u)
 |_,_,.nil,_=>λu hu=>by cases hu
 |y::xs,u::us,.cons r t,f=>λu' hu=>by
  rw[NO,EO]at f;rcases aaf.mp hu with rfl|hu
  ·rw[ZY r f.1];show Lj r rx f.1 fx
  ·show LS rx fx t f.2 u' hu
abbrev DX(x:V)(xs:List V):Bool:=xs.any λy=>ER y x
abbrev Sn(K:W.Frag)(neg:Bool):DY:=λx y H Q=>∃p xs,y=.ref p∧(lI K H p xs∨dG K H p xs)∧EI x=true∧xs.all EI=true∧Q (.bl (if neg then !DX x xs else DX x xs)) H
def ft:iS X (compareOp .In) (Sn X.K false):=by
 intro v0 s σ H x y v u Q I rx ry h;let⟨p,xs,rfl,hq,fx,fs,q⟩:=h;cases ry;rcases hq with hq|hq
 ·let⟨bf,r,pl,hz⟩:=I.list hq
  show SeqAt.in_listAt (Eo x) pl.isList (λw hw=>LS rx fx r fs w (by simpa using hw)) ⟨.bl _,H,I,rfl,?_⟩;rw[show bf.toArray.any (Eo x)=bf.any (Eo x)by simp,LI r fs];show q
 ·let⟨bf,r,pl,hz⟩:=I.tuple hq
  show SeqAt.in_tupleAt (Eo x) pl (λw hw=>LS rx fx r fs w (by simpa using hw)) ⟨.bl _,H,I,rfl,?_⟩;rw[show bf.toArray.any (Eo x)=bf.any (Eo x)by simp,LI r fs];show q
def dQ:iS X (compareOp .NotIn) (Sn X.K true):=by
 intro v0 s σ H x y v u Q I rx ry h;let⟨p,xs,rfl,hq,fx,fs,q⟩:=h;cases ry;rcases hq with hq|hq
 ·let⟨bf,r,pl,hz⟩:=I.list hq
  show SeqAt.notIn_listAt (Eo x) pl.isList (λw hw=>LS rx fx r fs w (by simpa using hw)) ⟨.bl _,H,I,rfl,?_⟩;rw[show bf.toArray.any (Eo x)=bf.any (Eo x)by simp,LI r fs];show q
 ·let⟨bf,r,pl,hz⟩:=I.tuple hq
  show SeqAt.notIn_tupleAt (Eo x) pl (λw hw=>LS rx fx r fs w (by simpa using hw)) ⟨.bl _,H,I,rfl,?_⟩;rw[show bf.toArray.any (Eo x)=bf.any (Eo x)by simp,LI r fs];show q
def ji:Eg X (.builtin "len") (λxs H Q=>∃p ys,xs=[.ref p]∧(lI X.K H p ys∨dG X.K H p ys)∧Q (.int ys.length) H):=by
 intro v0 s σ H xs us Q I r h;let⟨p,ys,rfl,hq,q⟩:=h;let⟨u,rfl,rx⟩:=vals1 r;cases rx;let hn:=J7;rcases hq with hq|hq
 ·let⟨bf,r',pl,hz⟩:=I.list hq
  let hlen:=r'.length;show Calls.call_len_list pl.isList (by simp only[BW]<;>lia) ⟨.int ys.length,H,I.tok _,⟨s.toks+1,by rw[BW,hlen]⟩,q⟩
 ·let⟨bf,r',pl,hz⟩:=I.tuple hq
  let hlen:=r'.length;show len_tuple pl (by simp only[BW]<;>lia) ⟨.int ys.length,H,I.tok _,⟨s.toks+1,by rw[BW,hlen]⟩,q⟩
def nT:Eg X (.builtin "len") (λxs H Q=>∃z,xs=[.str z]∧z.length≤sizeLine∧Q (.int z.length) H):=by
 intro v0 s σ H xs us Q I r h;let⟨z,rfl,hz,q⟩:=h;let⟨u,rfl,⟨t,rfl⟩⟩:=vals1 r;let hn:=J7;show len_str (by lia) ⟨.int z.length,H,I.tok _,⟨_,rfl⟩,q⟩
def wC:Eg X (.type "tuple") (λxs H Q=>∃p ys,xs=[.ref p]∧((lI X.K H p ys∧∀l,H l=none→Q (.ref l) (AI H l (.tup ys)))∨(dG X.K H p ys∧Q (.ref p) H))):=by
 intro v0 s σ H xs us Q I r h;obtain⟨p,ys,rfl,h⟩:=h;let⟨u,rfl,rx⟩:=vals1 r;cases rx;rcases h with⟨hq,q⟩|⟨hq,q⟩
 ·let⟨bf,r',pl,hz⟩:=I.list hq
  let hlen:=r'.length;show call_tuple_list pl.isList (λh' kp=>?_) (by simp only[BW]<;>lia)
  let I1:Inv X v0 σ H {s with heap:=h'}:=I.kept (t':=s.toks) kp;let I2:Inv X v0 σ (AI H h'.objs.size (.tup ys)) {s with heap:=h'.push {cls:=.type "tuple",data:=.seq bf.toArray}}:=
   I1.laid (t':=s.toks) (λb o e=>Aw _ e) (Ah _) (show bj X.prog X.w _ _ _ (.tup ys)from⟨hz,bf,r',IsTup.new _ _⟩)
  show Ψ2 (.ref h'.objs.size) _ ⟨I2,rfl,q _ (I1.bC.fresh (Ah _))⟩
 ·let⟨bf,r',pl,hz⟩:=I.tuple hq
  show call_tuple_same pl ⟨.ref p,H,I,rfl,q⟩
abbrev O2(K:W.Frag)(T:String)(x:V)(H:A4):Prop:=match x with
 |.str _=>T = "str"
 |.int _=>T = "int"
 |.ref p=>(T = "list" ∧ ∃xs,lI K H p xs)∨(T = "tuple" ∧ ∃o,K.lookup p=some o∧o.cls=.type "tuple" ∧ o.dict=none) ∨
   (T = "dict" ∧((∃aq,H p=some (.dK aq))∨∃aq,H p=some (.dT aq)))∨(T = "set" ∧ ∃S n,H p=some (.set S n))
 |_=>False
def kN{T:String}(I:Inv X v0 σ H s)(r:RelV x v)(ty:O2 X.K T x H):
  s.TypeIs v T∧∀a,v=.ref a→∃ob,s.heap.get? a=some ob∧ob.dict=none:=by
 cases x with
 |str z=>
  let⟨t,rfl⟩:=r;cases(show T = "str" from ty);show⟨MQ s z t,λ_ e=>nomatch e⟩
 |int i=>
  let⟨t,rfl⟩:=r;cases(show T = "int" from ty);show⟨typeIs_int s i t,λ_ e=>nomatch e⟩
 |ref p=>
  cases r;rcases ty with⟨rfl,xs,hq⟩|⟨rfl,o,hk,hc,hd⟩|⟨rfl,hk⟩|⟨rfl,S,n,hk⟩
  ·let⟨bf,_,pl,_⟩:=I.list hq
   show⟨pl.isList.typeIs,λa e=>?_⟩;cases e;let⟨o,n,e,c,hd,_⟩:=pl;show⟨o,e,hd⟩
  ·show⟨⟨o,I.nQ p o hk,hc⟩,λa e=>?_⟩
   cases e;show⟨o,I.nQ _ o hk,hd⟩
  ·let z:∃o,s.heap.get? p=some o∧o.ExactDict:=by
    rcases hk with⟨aq,hk⟩|⟨aq,hk⟩
    ·let⟨_,_,⟨_,_,⟨o,_,_,e,ex,_⟩⟩⟩:=I.bC p _ hk
     show⟨o,e,ex⟩
    ·let⟨_,_,⟨_,_,⟨o,_,_,e,ex,_⟩⟩⟩:=I.bC p _ hk
     show⟨o,e,ex⟩
   let⟨o,e,ex⟩:=z;show⟨⟨o,e,ex.1⟩,λa e2=>?_⟩;cases e2;show⟨o,e,ex.2.1⟩
  ·let⟨o,_,_,_,e,ex,_⟩:=I.bC p _ hk
   show⟨⟨o,e,ex.1⟩,λa e2=>?_⟩;cases e2;show⟨o,e,ex.2.1⟩
 |_=>show False.elim ty
abbrev qc(K:W.Frag)(T:String)(r:V→List V→A4→An→Prop)(to:AQ):AQ:=λσ H Q=>to σ H λx H1=>O2 K T x H1∧r x [] H1 Q
abbrev wJ(K:W.Frag)(T:String)(r:V→List V→A4→An→Prop)(to:AQ)(t:CM):AQ:=λσ H Q=>to σ H λx H1=>O2 K T x H1∧t σ H1 λxs H2=>r x xs H2 Q
variable {o: Expr}{es: List Expr}{to: AQ}{t: CM}{name: Str}{apos dD: Pos}{T id: String}{r: V→List V→A4→An→Prop}
def oO(pa:PlainAttrs T)(slot:Slot T name id)(AV:typeOf (.builtin id)=pure (.type "method_descriptor"))(hm:J8 X id r)(ho:PE X o to)
  (sr:attributeBase o name X.env (eval o X.env)=eval o X.env:=by rfl) (sj:(apos.endLine==dD.line)=true:=by rfl):PE X (.Call (.Attribute o name apos) [] [] dD) (qc X.K T r to):=by
 show .mk ?_;intro v0 s σ H Q I h;show wpAny_Call_method0_late sr sj (AF (ho v0 s σ H _ I h) λv s1 ξ=>Ξ24 ξ λx H1 I1 r1 ty q1=>?_);let⟨h1,h2⟩:=kN I1 r1 ty;show Ψ2 T id ⟨pa,slot,AV,h1,h2,Uq rfl (PySem.evalArgs_none (hm v0 s1 σ H1 x [] v [] Q I1 r1 .nil q1))⟩
def acI(pa:PlainAttrs T)(slot:Slot T name id)(AV:typeOf (.builtin id)=pure (.type "method_descriptor"))(hm:J8 X id r)(ho:PE X o to)(ha:PA X (e::es) t)
  (sr:attributeBase o name X.env (eval o X.env)=eval o X.env:=by rfl)
  (NT:((backTo dD (starEach (e::es) X.env)).all (λx=>!x.1)&&(backToKw dD (keywordEach [] X.env)).all (λx=>x.1.isSome)
   && decide ((e::es).length+([]:List Keyword).length+(if([]:List Keyword).isEmpty then 0 else 1)<30))=true:=by rfl)
  (sj:(apos.endLine==dD.line)=true:=by rfl) (hs:starEach (e::es) X.env=(false,eval e X.env)::starEach es X.env:=by rfl) (zp:(backTo dD (starEach es X.env)).any (·.1)=false:=by rfl) :
  PE X (.Call (.Attribute o name apos) (e::es) [] dD) (wJ X.K T r to t):=by
 show .mk ?_;intro v0 s σ H Q I h;show wpAny_Call_method_late sr NT sj rfl (AF (ho v0 s σ H _ I h) λv s1 ξ=>Ξ24 ξ λx H1 I1 r1 ty q1=>?_);let⟨h1,h2⟩:=kN I1 r1 ty;show Ψ2 T id ⟨pa,slot,AV,h1,h2,?_⟩;let hA:=ha dD v0 s1 σ H1 _ I1 q1;rw[hs]at hA ⊢;show Uq (by show(false||(backTo dD (starEach es X.env)).any (·.1))=false;rw[zp]<;>rfl) (Qo ?_)
 show AF hA λus s2 ξ=>Ξ23 ξ λvs H2 I2 r2 q2=>hm v0 s2 σ H2 x vs v us Q I2 r1 r2 q2
end
abbrev gT(X:Cx)(id:String)(r:V→List V→A4→An→Prop):Prop:=
 ∀v0 s σ H (x:V) (xs:List V) (v:Value) (us:List Value) (Q:An),Inv X v0 σ H s→RelV x v→Vals xs us→r x xs H Q→
  wpAny (model X.prog X.w) X.A (call (.builtin id) (v::us)) (BX X v0 σ Q) X.xe s
def Vals.one:∀{x:V} {us:List Value},Vals [x] us→∃u,us=[u]∧RelV x u
 |_,_,.cons r .nil=>⟨_,rfl,r⟩
def Vals.two:∀{x y:V} {us:List Value},Vals [x,y] us→∃u v,us=[u,v]∧RelV x u∧RelV y v
 |_,_,_,.cons r (.cons q .nil)=>Ψ2 _ _ ⟨rfl,r,q⟩
def Vals.zero:∀{us:List Value},Vals [] us→us=[]
 |_,.nil=>rfl
def Vals.dropLast(h:Vals xs us):Vals xs.dropLast us.dropLast:=by
 induction h with
 |nil=>show .nil
 |cons r t ih=>
  cases t with
  |nil=>show .nil
  |cons q t'=>show .cons r ih
def wo{α:Type}(l:List α):l.eraseIdx (l.length-1)=l.dropLast:=by
 induction l with
 |nil=>rfl
 |cons a r ih=>
  cases r with
  |nil=>rfl
  |cons b r=>
   let e:(a::b::r).length-1=((b::r).length-1)+1:=by
    let h1:(a::b::r).length=r.length+2:=rfl;let h2:(b::r).length=r.length+1:=rfl;lia
   rw[e,List.eraseIdx_cons_succ,ih]
   all_goals rfl
section
variable {v0: List (Addr×Obj)}{σ: St}{H: A4}{s: Shared}{l: Addr}{xs ys: List V}
def Inv.RD{f:Array Value→Array Value}(I:Inv X v0 σ H s)(hH:H l=some (.lst xs))
  (e:s.heap.get? l=some {cls:=.type "list",data:=.seq bf.toArray n}) (hf:f bf.toArray=v6'.toArray) (hv:Vals ys v6') (hz:ys.length≤sizeLine) :
  Inv X v0 σ (AI H l (.lst ys)) {s with heap:=s.heap.update l (Obj.mapSeq f),toks:=t'}:=by
 let q:=PySem.IsL.update e f;rw[hf]at q;show I.write (x:=l) (e:=l) (by rw[hH];show trivial) (.inl rfl) (λb' u hb hu=>(Kv s.heap (Obj.mapSeq f) (C3 hb)).trans hu) ⟨_,q⟩ ?_;show⟨hz,v6',_,hv,q⟩
def Inv.RE(I:Inv X v0 σ H s)(hv:Vals ys bf)(hz:ys.length≤sizeLine):
  Inv X v0 σ (AI H s.heap.objs.size (.lst ys)) {s with heap:=s.heap.push {cls:=.type "list",data:=.seq bf.toArray},toks:=t'}:=
 I.laid (λ_ _ q=>Aw _ q) (Ah _) ⟨hz,bf,0,hv,CW _ rfl⟩
def Inv.fresh(I:Inv X v0 σ H s):H s.heap.objs.size=none:=I.bC.fresh (Ah _)
def Inv.Il(I:Inv X v0 σ H s)(hH:H l=some (.lst xs)):xs.length≤sizeLine∧∃(bf:List Value) (n:Nat),Vals xs bf∧xs.length=bf.length∧s.heap.get? l=some {cls:=.type "list",data:=.seq bf.toArray n}:=by
 let⟨z,⟨bf,n,r,e⟩⟩:=I.bC l _ hH;show⟨z,bf,n,r,r.length,e⟩
end
section
abbrev y9:V→List V→A4→An→Prop:=λx vs H Q=>∃l xs y,x=.ref l∧vs=[y]∧H l=some (.lst xs)∧xs.length<sizeLine∧Q .non (AI H l (.lst (xs++[y])))
def fq:gT X "list.append" y9:=by
 intro v0 s σ H x vs v us Q I rx rv h;let⟨l,xs,y,rfl,rfl,hH,hz,q⟩:=h;cases rx;let⟨u,rfl,ru⟩:=rv.one;let⟨z,⟨bf,n,r,hl,e⟩⟩:=I.Il hH;show call_meets F.slot_list_append ⟨_,e,rfl⟩ F.entry_list_append (F.args_list_append_2 _ _) (PySem.list_append l bf.toArray n u (by rw[BW];lia)) ⟨e,?_⟩;show Ψ2 (.non) _ ⟨I.RD (v6':=bf++[u]) hH e (by simp) (r.append (.cons ru .nil)) ?_,rfl,q⟩;rw[BO,Jw];lia
abbrev n6:V→List V→A4→An→Prop:=λx vs H Q=>∃l xs y,x=.ref l∧vs=[]∧H l=some (.lst xs)∧xs[xs.length-1]?=some y∧Q y (AI H l (.lst xs.dropLast))
def tO:gT X "list.pop" n6:=by
 intro v0 s σ H x vs v us Q I rx rv h;let⟨l,xs,y,rfl,rfl,hH,hy,q⟩:=h;cases rx;let hus:=rv.zero;subst hus;let⟨z,⟨bf,n,r,hl,e⟩⟩:=I.Il hH;let⟨u,hu,ru⟩:=r.get hy;let hy':bf.toArray[bf.toArray.size-1]?=some u:=by
  show bf.toArray[bf.length-1]?=some u
  rw[←Pl,←hl];show hu
 show call_meets F.slot_list_pop ⟨_,e,rfl⟩ F.entry_list_pop (F.args_list_pop_1 _) (MeetsSeq.list_pop_last l bf.toArray n u hy' (by rw[BW];lia)) ⟨e,?_⟩;show Ψ2 y _ ⟨I.RD (v6':=bf.dropLast) hH e ?_ r.dropLast ?_,ru,q⟩
 ·show bf.toArray.eraseIdxIfInBounds (bf.toArray.size-1)=bf.dropLast.toArray
  rw[BW,List.eraseIdxIfInBounds_toArray,wo]
 ·rw[List.length_dropLast]
  lia
abbrev acg:DY:=λx y H Q=>∃l b xs zs,x=.ref l∧y=.ref b∧H l=some (.lst xs)∧H b=some (.lst zs)∧xs.length+zs.length≤sizeLine∧∀p,H p=none→Q (.ref p) (AI H p (.lst (xs++zs)))
def qp:iS X (binaryOp .Add) acg:=by
 intro v0 s σ H x y v u Q I rx ry h;let⟨l,b,xs,zs,rfl,rfl,hH,hB,hz,q⟩:=h;cases rx;cases ry;let⟨z,⟨bf,n,r,hl,e⟩⟩:=I.Il hH;let⟨z2,⟨ku,n2,r2,Ym,e2⟩⟩:=I.Il hB;show PySem.P.add_list e e2 ?_ (by rw[BW,BW];lia);let ea:bf.toArray++ku.toArray=(bf++ku).toArray:=by simp
 rw[ea];show Ψ2 (.ref _) _ ⟨I.RE (t':=s.toks) (r.append r2) (by rw[BO];lia),rfl,q _ I.fresh⟩
end
section
set_option maxRecDepth 100000 in
end
end L2
namespace Uv
open PySem PySem.W PySem.Calls PyProof.Rows
variable {P:Params}{h:Heap}{l:OpenLaw}{n:Nat}
def tL:∀(ns:List Int) (vs:List Value),WellAll P h vs (ns.map WData.int)→IntsAre vs ns:=by
 intro ns;induction ns with
 |nil=>
  intro vs w;rw[Hs]at w;cases w;show .nil
 |cons n ns ih=>
  intro vs w;rw[BU]at w;cases w with
  |cons a b=>
   cases a;show .cons _ _ (ih _ b)
def sN(hn:l.most=some n){args:List WData}{vals:List Value}
  (Iw:l.row.toRowW.claim.pre args=true) (VT:WellAll P h vals args) :
  ∃a vs ns,vals=[Value.ref a]∧args=[WData.list (ns.map WData.int)]∧h.get? a=some {cls:=.type "list",data:=.seq vs.toArray}∧IntsAre vs ns∧ns.length≤n:=by
 let hsh:WShape.hasAll [] args [.list .int]=true:=(pre_splitW Iw).1;let hc:l.pre.holds [] {args:=args}=true:=(pre_splitW Iw).2;let⟨d,r,rfl,h1,h2⟩:=hasAllW_cons hsh;obtain rfl:=hasAllW_nil h2;let⟨xs,rfl,h3⟩:=hasW_list h1;let⟨ns,rfl⟩:=items_int h3;let hlen:ns.length≤n:=by
  unfold OpenLaw.pre at hc;let h4:(WTm.not (.lt (.lit (.int (n:Int))) (.len (.arg 0)))).holds [] {args:=[.list (ns.map .int)]}=true:=by
   let h4:=(holds_andW hc).1;rw[hn]at h4;show h4
  let h5:=condW_of h4 (w_not (w_lt w_lit (w_len_list (w_arg rfl))));rw[AM]at h5;show Nat.le_of_not_lt λq=>?_;let q':(n:Int)<((ns.length:Nat):Int):=by lia
  first
   |(rw[Bi q']at h5;show absurd h5 (by decide))
   |(simp at h5;lia)
 cases VT with
 |cons w1 w2=>
  cases w2;cases w1 with
  |list ho vD=>show Ψ3 _ _ ns ⟨rfl,rfl,ho,tL ns _ vD,hlen⟩
def t9(l:OpenLaw)(args:List WData):l.row.toRowW.claim.post args (.bool true) args=true:=
 postW_of (r:=l.row.toRowW) (X:=(true==true))
  (show WShape.has [] (.bool true) .bool=true by first|rfl|decide|simp[WShape.has,WShape.arms,WShape.armsAll])
  (show(WTm.eq .res (.lit (.bool true))).value [] {args:=args,res:=some (.bool true),after:=args}=some (.bool (true==true))from w_eq_bool (w_res rfl) w_lit) rfl
def xT{q:Program}{loose:List Str}{XP:(KK)→Heap→Prop}{YP:World→Heap→Prop}{d:DefRec}
  (hn:l.most=some n) (OZ:d.params.defaults=[])
  (call:∀(w:World) (s₀ s₁:Shared) (mg mb:KK) (fa:Addr) (o:Obj) (pm cd doc:Value) (a:Addr) (vs:List Value) (ns:List Int),
   Ground q loose [] XP w s₀ mg mb s₁.heap→YP w s₁.heap→
   s₁.heap.get? fa=some o→o.data=.func (docDef d.name d.params d.body d.scope pm cd doc)→s₁.heap.CodeRec cd d.name→mg d.name=some (.ref fa)→
   s₁.heap.get? a=some {cls:=.type "list",data:=.seq vs.toArray}→IntsAre vs ns→ns.length≤n→s₁.gens=#[]→
   codeAny (model l.prog w) callerA (.call (.ref fa) ⟨[.ref a],[]⟩) (λr s'=>r=.ok (.ret (.bool true))∧OldK s₁.heap s'.heap∧s'.os=s₁.os∧AllBare s'.gens) s₁) :
  WalkO q loose XP YP l.row.toRowW d [] (λf vs=>PySem.call f vs):=by
 intro w s₀ s₁ mg mb G Y fa o pm cd doc dV Au ho hd xj hD R0 hg args vals as Iw hlay hrd VT hlo;obtain rfl:dV=.none:=Dflts.none hD OZ;obtain rfl:Au=.none:=Dflts.noKw hD;let⟨a,vs,ns,rfl,rfl,NN,hints,hlen⟩:=sN hn Iw VT;show enter_call (MA (call w s₀ s₁ mg mb fa o pm cd doc a vs ns G Y ho (fd_plain hd) xj R0 NN hints hlen hg) λr s' hq=>?_);let⟨rfl,h2,h3,h4⟩:=hq;show⟨.inl ⟨.bool true,.bool true,[],rfl,λ_=>rfl,.bool true,t9 l _,λ_=>⟨List.Pairwise.nil,λ_ hm=>(nomatch hm)⟩⟩,h2,h3,h4⟩
end Uv
namespace L2
open PySem PySem.Spec PyProof.Rows
variable {w:World}{k n i:Nat}{fd:FuncData}{x qual:Str}{sp:Dq}{l:List Addr}{X: Cx}{st:Stmt}{f C:Addr}{ps:List Str}{scope: Scope}{pos p: Pos}{env:Env}{own: List Str}{cap: List (Nat×Str)}{σ:St}{s2:Shared}{cl: List (Str×Addr)}{te: AQ}
def mq:∀{vs:List Value} {ns:List Int},IntsAre vs ns→Vals (ns.map V.int) vs
 |_,_,.nil=>.nil
 |_,_,.cons n t h=>.cons ⟨t,rfl⟩ (mq h)
abbrev Pz(H:A4):Prop:=∀b,H b=none∨∃o xs,H b=some (.frz o (.lst xs))
def qB{P:Program}{K:W.Frag}{mg mb:KK}{CX:Gl}{fa a:Addr}{s₁:Shared}{vs:List Value}{ns:List Int}
  (KX:K.In s₁.heap) (Yk:s₁.heap.Ns mainGlobals mg) (hb:s₁.heap.Ns builtinsNs mb) (hbb:∀x:Str,x ≠ "__name__" → mb x=bootBuiltins x) (V7:s₁.heap.NoLimit) (hg:s₁.gens=#[])
  (ha:s₁.heap.get? a=some {cls:=.type "list",data:=.seq vs.toArray}) (hi:IntsAre vs ns) (hl:ns.length≤sizeLine) (hr:dE k callerA)
  (F:∀base:Heap,K.In base→base.Ns mainGlobals mg→bc P w K mg base CX k fa fd [x] sp) (Sb:∀(s:Shared) (u:Value),BindsTo s fd ⟨[u],[]⟩ [(x,u)])
  (ya:∀H:A4,Pz H→lI K H a (ns.map V.int)→sp [.ref a] H (λv _=>v=.bl true) λ_ _ _=>False)
  (Wn:∀H e s',CX [] H s₁ (λ_ _ _=>False) e s'→False) :
  codeAny (model P w) callerA (.call (.ref fa) ⟨[.ref a],[]⟩) (λr s'=>r=.ok (.ret (.bool true))∧OldK s₁.heap s'.heap∧s'.os=s₁.os∧AllBare s'.gens) s₁:=by
 let rv:=mq hi;let Vu:=hi.length
 -- from an abstract heap in Xd nothing but wq yw may be tracked
 let core:∀H:A4,Pz H→lI K H a (ns.map V.int)→mH P w H s₁.heap→(∀b,H b≠none→b=a)→(H a≠none→K.lookup a=none)→
   codeAny (model P w) callerA (.call (.ref fa) ⟨[.ref a],[]⟩) (λr s'=>r=.ok (.ret (.bool true))∧OldK s₁.heap s'.heap∧s'.os=s₁.os∧AllBare s'.gens) s₁:=by
  intro H hO hS bC hA hK;let Bo:∀{b:Addr} {o:Obj},s₁.heap.get? b=some o→H b=none→(Hf s₁.heap H).get? b=some o:=λe n=>tG e n;let Rv:∀{b:Addr} {o:Obj} {es:Array DictEntry} {ep:Nat},s₁.heap.get? b=some o→o.data=.dict es ep→H b=none:=λ{b o es ep} e d=>by
   cases q:H b with
   |none=>rfl
   |some u=>
    let e':b=a:=hA b (by rw[q];simp);subst e';rw[ha]at e;cases e;let d':Data.seq vs.toArray _=Data.dict es ep:=d;cases d'
  let TJ:∀{b:Addr} {m:KK},s₁.heap.Ns b m→(Hf s₁.heap H).Ns b m:=λ{b m} ⟨o,es,ep,e,d,r⟩=>Ψ3 o es ep ⟨Bo e (Rv e d),d,r⟩;let YA:K.In (Hf s₁.heap H):=λb o e=>Bo (KX b o e) (by
   cases q:H b with
   |none=>rfl
   |some u=>
    let e':b=a:=hA b (by rw[q];simp);subst e';rw[hK (by rw[q];simp)]at e;cases e)
  let hM:Mod K mg (Hf s₁.heap H):=⟨YA,TJ Yk,⟨mb,TJ hb,hbb⟩,let⟨mc,h1,h2⟩:=V7;⟨mc,TJ h1,h2⟩⟩;let e0:zT P w K mg (Hf s₁.heap H) callerA [] s₁ H:=⟨rfl,hM,λb o e=>xC e,Nat.le_of_eq (ud _ _),trivial,λb hb=>absurd (show b∈([]:List Addr)from hb) (by simp),bC,.of_eq hg⟩;show MA ((F _ YA (TJ Yk)).run callerA [] s₁ H ⟨[.ref a],[]⟩ [.ref a] [.ref a] _ _ hr e0 (Sb s₁ (.ref a)) (.cons rfl .nil) (ya H hO hS)) λr s' h=>?_;cases r with
  |error e=>show(Wn H e s' h).elim
  |ok fl=>
   cases fl with
   |next=>show False.elim h
   |brk=>show False.elim h
   |cont=>show False.elim h
   |ret u=>
    let⟨v,H',os,bare,un,V3,r',q⟩:=h;let q':v=.bl true:=q;subst q';obtain rfl:u=Value.bool true:=r';show⟨rfl,OldK.of_keep λb o e=>?_,os,bare⟩;cases q:H b with
    |none=>show un.keep b o e q (by intro z;show absurd (show b∈([]:List Addr)from z) (by simp)) (by simp)
    |some u=>
     rcases hO b with z|⟨ob,xs,z⟩
     ·rw[q]at z;cases z
     ·let z2:=un.m5 b ob _ z
      let⟨e1,_⟩:=bC b _ z;let⟨e2,_⟩:=V3 b _ z2;rw[e]at e1;cases e1;show e2
 cases hk:K.lookup a with
 |some o=>
  -- wq yw is one of wq Rz own objects
  let e:=KX a o hk;rw[ha]at e;cases e;show core (λ_=>none) (λ_=>.inl rfl) (.inr ⟨_,vs.toArray,_,hk,rfl,rfl,rfl,by rw[BW,Vu];show hl,by simpa using rv⟩) (λb u z=>by have z':(none:Option HO)=some u:=z;cases z') (λb z=>absurd rfl z) λz=>absurd rfl z
 |none=>
  show core (λb=>if b=a then some (.frz {cls:=.type "list",data:=.seq vs.toArray} (.lst (ns.map V.int)))else none) (λb=>?_) (.inl (.inr ⟨{cls:=.type "list",data:=.seq vs.toArray},Ab rfl⟩)) (λb u z=>?_) (λb z=>?_) λ_=>hk
  ·by_cases hb:b=a
   ·show .inr ⟨_,_,Ab hb⟩
   ·show .inl (AP hb)
  ·by_cases hb:b=a
   ·let z':=(Ab hb).symm.trans z
    cases z';subst hb;show⟨ha,by rw[AM];show hl,vs,_,rv,ha⟩
   ·let z':=(AP hb).symm.trans z
    cases z'
  ·by_cases hb:b=a
   ·show hb
   ·show absurd (AP hb) z
def GB{l:W.OpenLaw}{q:Program}{loose:List Str}{XP:(KK)→Heap→Prop}{YP:World→Heap→Prop}{d:DefRec}{K:Params→W.Frag}{CX:World→Gl}{sp:World→Dq}
  (hn:l.most=some n) (RY:n≤sizeLine) (OZ:d.params.defaults=[]) (hr:dE k callerA)
  (hY:∀(w:World) (h:Heap),YP w h→(K w.params).In h)
  (F:∀(w:World) (mg:KK) (fa:Addr) (h:Heap),(K w.params).In h→h.Ns mainGlobals mg→mg d.name=some (.ref fa)→
   ∃fd:FuncData,(∀(s:Shared) (u:Value),BindsTo s fd ⟨[u],[]⟩ [(x,u)])∧
    ∀base:Heap,(K w.params).In base→base.Ns mainGlobals mg→bc l.prog w (K w.params) mg base (CX w) k fa fd [x] (sp w))
  (ya:∀(w:World) (H:A4) (a:Addr) (ns:List Int),ns.length≤n→Pz H→lI (K w.params) H a (ns.map V.int)→sp w [.ref a] H (λv _=>v=.bl true) λ_ _ _=>False)
  (Wn:∀(w:World) (H:A4) (s:Shared) (e:Value) (s':Shared),CX w [] H s (λ_ _ _=>False) e s'→False) :
  W.WalkO q loose XP YP l.row.toRowW d [] (λf vs=>PySem.call f vs):=by
 show Uv.xT hn OZ λw s₀ s₁ mg mb fa o pm cd doc a vs ns G Y ho hd xj R0 NN hints hlen hg=>?_;let KX:=hY w _ Y;let⟨fd,hb,hF⟩:=F w mg fa _ KX G.T.g R0;show qB KX G.T.g G.T.b G.T.builtins G.T.nolimit hg NN hints (Cu hlen RY) hr hF hb (λH hO hS=>ya w H a ns hlen hO hS) λH e s'=>Wn w H s₁ e s'
abbrev Hl(s:Stmt):Arguments:=match s with
 |.FunctionDef _ a _ _ _ _ _ _ _ _=>a
 |_=>{posonlyargs:=[],args:=[],vararg:=none,kwonlyargs:=[],kw_defaults:=[],kwarg:=none,defaults:=[]}
abbrev FU(s:Stmt):List Stmt:=match s with
 |.FunctionDef _ _ b _ _ _ _ _ _ _=>b
 |_=>[]
abbrev Ac(s:Stmt):Scope:=match s with
 |.FunctionDef _ _ _ _ _ _ sc _ _ _=>sc
 |_=>{kind:=.function,names:=[],isGenerator:=false,isCoroutine:=false}
@[reducible]def Am:Gl:=λ_ _ _ _ _ _=>False
@[reducible]def IU:BD:=λ_ _ _=>False
def cy{X:Cx}:Passes Am X IU:=λ_ _ _ _ _ _ _ h=>h.elim
structure cJ(K:W.Frag)(x qual:Str)(st:Stmt)(f:Addr)(fd:FuncData):Prop where
 ex:∃(oc:Value) (od:Option Addr) (Au doc pm:Value) (an:Option Addr) (cb ct:Value) (BS:Array (Option Value)),
  fd=W.fnOf x qual (Hl st) (FU st) (Ac st) .none Au doc pm an cb ct∧K.lookup f=some ⟨oc,od,.func fd,BS⟩∧W.codeIn K cb qual=true
 kp:W.keepIn K (.ref f)=true
section
variable {P: Program}{w: World}{K: W.Frag}{mg: Str→Option Value}{base: Heap}
def cJ.ok{N:List Str}(F:cJ K x qual st f fd)(S:Aq N ps (Ac st))(len:∀vs H Q E,sp vs H Q E→vs.length=ps.length)
  (nW:∀(cb:Value) (A:Around) (outer:List Env) (s:Shared) (H:A4) (vs:List V) (Q:An) (E:BD),dE k (A.deeper (envOfC qual (Ac st) s.heap.objs.size f cb))→sp vs H Q E→
   ∃t,mv (Iu Am P w K mg base N qual (Ac st) f cb A outer s H E).i0 (FU st) t∧t {nx:=λ_ H'=>Q .non H',rt:=Q} (start N vs) H):bc P w K mg base Am (k+1) f fd ps sp:=by
 let⟨oc,od,Au,doc,pm,an,cb,ct,BS,rfl,lk,xj⟩:=F.ex;show iW lk xj S len λA outer s H vs Q E hr ya=>?_;let⟨t,h,q⟩:=nW cb A outer s H vs Q E hr ya;show⟨t,h.i0,q⟩
def cJ.binds(F:cJ K x qual st f fd)
  (h:∀(Au doc pm:Value) (an:Option Addr) (cb ct:Value) (us:List Value),us.length=ps.length→bindArgs (W.fnOf x qual (Hl st) (FU st) (Ac st) .none Au doc pm an cb ct) ⟨us,[]⟩=pure (ps.zip us)):Binds K fd ps []:=by
 let⟨oc,od,Au,doc,pm,an,cb,ct,BS,rfl,lk,xj⟩:=F.ex;show .all (h Au doc pm an cb ct)
def lU{oc:Value}{od an:Option Addr}{BS:Array (Option Value)}{Au doc pm cb ct:Value}(l:K.lookup f=some ⟨oc,od,.func (W.fnOf x qual (Hl st) (FU st) (Ac st) .none Au doc pm an cb ct),BS⟩)
  (c:W.codeIn K cb qual=true) (k:W.keepIn K (.ref f)=true):cJ K x qual st f (W.fnOf x qual (Hl st) (FU st) (Ac st) .none Au doc pm an cb ct):=⟨Ψ9 oc od Au doc pm an cb ct BS ⟨rfl,l,c⟩,k⟩
end
def Cr(h:n≤1000):n<sizeLine:=BA h (by decide)
def yM{prog:Program}{A:Around}{R:Result→Shared→Prop}{s:Shared}{elt target iter:Expr}{ifs:List Expr}{scope:Scope}{pos:Pos}{it acc:Value}(I:Nat→Shared→Prop)
  (turn:∀n s,I n s→wpAny (model prog w) A (pyNext it) (λr s₁=>match r with
   |none=>R (.ok .next) s₁
   |some v=>wpAny (model prog w) A (letOwnedTupleGo target it v) (λ_ DJ=>wpAny (model prog w) A (assign target env v) (λ_ s₂=>
     wpAny (model prog w) A (forIn ifs true λc r=>if r=true then do let ok ←isTrue c env (eval c env);pure (ForInStep.yield ok)else pure (ForInStep.yield r)) (λok s₃=>
      if ok=true then wpAny (model prog w) A (eval elt env) (λx s₄=>
       wpAny (model prog w) A (call (.builtin "list.append") [acc,x]) (λ_ s₅=>∃m,m<n∧I m s₅) (notedBy (model prog w) A env λe s'=>R (.error e) s') s₄) (notedBy (model prog w) A env λe s'=>R (.error e) s') s₃
      else ∃m,m<n∧I m s₃) (notedBy (model prog w) A env λe s'=>R (.error e) s') s₂) (notedBy (model prog w) A env λe s'=>R (.error e) s') DJ) (notedBy (model prog w) A env λe s'=>R (.error e) s') s₁) (notedBy (model prog w) A env λe s'=>R (.error e) s') s)
  (n:Nat) (h:I n s) :
  codeAny (model prog w) A (.compLoop (.ListComp elt [⟨target,iter,ifs,0⟩] scope pos) 0 it acc env) R s:=by
 show Ny rfl I (λn s hI=>?_) n h;show wpAny _ A ((compTurn (.ListComp elt [⟨target,iter,ifs,0⟩] scope pos) 0 it acc env).onRaise (λx=>do noteFrame x env;theTreesLotGoes x)) _ _ s
 show wpAny_noted ?_;rw[compTurn_list];show A6 (GD (A6 (BV (turn n s hI) (λr s₁ h₁=>?_) λ_ _ h'=>h')));cases r with
 |none=>show AL h₁
 |some v=>
  show A6 (BV h₁ (λ_ DJ NK=>?_) λ_ _ h'=>h');show A6 (BV NK (λ_ s₂ h₂=>A6 (BV h₂ (λok s₃ h₃=>?_) λ_ _ h'=>h')) λ_ _ h'=>h');cases ok with
  |false=>show AL ⟨rfl,h₃⟩
  |true=>
   show A6 (A6 (BV h₃ (λx s₄ h₄=>A6 (BV h₄ (λ_ s₅ h₅=>AL (AL ⟨rfl,h₅⟩)) λ_ _ h'=>h')) λ_ _ h'=>h'))
structure wa(X:Cx)(ifs:List Expr)(t:CR):Prop where
 run:∀v0 s σ H (Q:Bool→A4→Prop),Inv X v0 σ H s→t σ H Q→
  wpAny (model X.prog X.w) X.A (forIn ifs true λc r=>if r=true then do let ok ←isTrue c X.env (eval c X.env);pure (ForInStep.yield ok)else pure (ForInStep.yield r)) (Jk X v0 σ Q) X.xe s
instance {X:Cx}{ifs:List Expr}{t:CR}:CoeFun (wa X ifs t) λ_=>∀v0 s σ H (Q:Bool→A4→Prop),Inv X v0 σ H s→t σ H Q→wpAny (model X.prog X.w) X.A (forIn ifs true λc r=>if r=true then do let ok ←isTrue c X.env (eval c X.env);pure (ForInStep.yield ok)else pure (ForInStep.yield r)) (Jk X v0 σ Q) X.xe s:=⟨wa.run⟩
abbrev ue:CR:=λ_ H Q=>Q true H
def nK{X:Cx}:wa X [] ue:=.mk λ_ _ _ H _ I h=>wpAny_tests_nil ⟨H,I,h⟩
def abS{X:Cx}{c:Expr}{t:CR}(h:PT X c t):wa X [c] t:=.mk λv0 s σ H Q I q=>wpAny_tests_one (h v0 s σ H Q I q)
abbrev BK(X:Cx)(Nc:List Str)(scope:Scope)(cl:List (Str×Addr))(C:Addr)(s:Shared)(H:A4)(fp:List Addr)(E:xz):Cx where
 prog:=X.prog
 w:=X.w
 K:=X.K
 mg:=X.mg
 base:=X.base
 A:=X.A
 N:=Nc
 s₀:=s
 H₀:=H
 env:=compEnvC scope cl C X.env
 outer:=X.stack
 stack:=X.stack
 ex:=fp
 calm:=X.calm
 fn:=λ_=>false
 pn:=[]
 xe:=E
abbrev xv(X:Cx)(scope:Scope)(cl:List (Str×Addr))(j:Nat)(x:Str):Prop:=
 X.N[j]?=some x∧JY X.env.scope x∧X.env.kindOf x≠some .local∧(relabel scope X.env).names.lookup x≠some .local∧((relabel scope X.env).names.lookup x=some .cell∨(relabel scope X.env).names.lookup x=some .free)
structure cT(X:Cx)(scope:Scope)(cl:List (Str×Addr))(own:List Str)(cap:List (Nat×Str)):Prop where
 xE:closureFor scope X.env=pure cl
 cell:∀y∈scope.names,y.2≠.cell
 kind:scope.kind=.function
 names:∀y∈scope.names,y.2=.local→scope.names.lookup y.1=some .local
 sub:∀x c,cl.lookup x=some c→X.env.cells.lookup x=some c
 has:∀p∈(relabel scope X.env).names,p.2=.cell∨p.2=.free→(cl.lookup p.1).isSome=true
 Jc:∀p∈cap,xv X scope cl p.1 p.2
abbrev F5(own:List Str)(cap:List (Nat×Str))(σ:St):St:=List.replicate own.length none++cap.map λp=>(σ[p.1]?).getD none
def lookup_mem{α:Type}:∀{l:List (Str×α)} {n:Str} {c:α},l.lookup n=some c→(n,c)∈l:=λh=>mem_of_lookup h
section
variable {v0: List (Addr×Obj)}{σ: St}{H: A4}{s: Shared}{fp: List Addr}{E: Value→Shared→Prop}
def cT.N0(c:cT X scope cl own cap)(x:Str)(h:(relabel scope X.env).names.lookup x=some .cell∨(relabel scope X.env).names.lookup x=some .free):∃a,cl.lookup x=some a:=by
 have:(cl.lookup x).isSome=true:=by
  rcases h with h|h
  ·show c.has (x,.cell) (lookup_mem h) (.inl rfl)
  ·show c.has (x,.free) (lookup_mem h) (.inr rfl)
 show ady.mp this
def Fg(c:cT X scope cl own cap)(I:Inv X v0 σ H s)(hf:∀b∈fp,DO X v0 H b)(dB:∀b∈fp,b<s.heap.objs.size)(hC:s.heap.objs.size≤C):
  (BK X (own++cap.map (·.2)) scope cl C s H fp E).Ok where
 mod:=I.ok.mod
 kind:=c.kind
 glob:=I.ok.glob
 blt:=I.ok.blt
 above:=hC
 inj:=λx y a h1 h2=>I.ok.inj x y a (c.sub x a h1) (c.sub y a h2)
 has:=λx h=>c.N0 x h
 La:=λx a h=>absurd h (by intro z;show Bool.noConfusion z)
 hd:=I.ok.hd
 frames:=I.ok.frames
 LL:=.inl rfl
 Gy:=λb hb=>⟨λz=>by
   have:=dB b hb;rw[z]at this;show absurd (EF this hC) (GK _),λx a h=>(hf b hb).2.2.2.2.1 x a (c.sub x a h)⟩
 bs:=I.bs
 F9:=Cu I.ok.F9 I.sz
 w6:=λb o e hb=>by
  rcases(hf b hb).2.2.2.1 with z|z
  ·show I.ok.w6 b o e z
  ·show absurd (EF (B5 (I.ok.bs b o e).1) z) (GK _)
 qD:=λb hb hs=>by
  rcases aaf.mp (I.uG b hs)with z|z
  ·show(hf b hb).2.1 z
  ·show(hf b hb).2.2.1 z
 mr:=I.stack
 Gx:=I.qL
def mT{own:List Str}{cap:List (Nat×Str)}{σ:St}{v:V}(h1:(own++cap.map (·.2))[i]?=some x)(h2:(F5 own cap σ)[i]?=some (some v)):∃p∈cap,p.2=x∧σ[p.1]?=some (some v):=by
 unfold F5 at h2;by_cases hi:i<own.length
 ·rw[Ln (by simpa using hi),ZQ]at h2
  split at h2<;>cases h2
 ·rw[LP (by simpa using hi)]at h2 h1
  rw[MC,FK]at h2;rw[FK]at h1;cases e:cap[i-own.length]? with
  |none=>rw[e]at h2;cases h2
  |some p=>
   rw[e]at h1 h2;show⟨p,MU e,EJ h1,?_⟩;let h3:(σ[p.1]?).getD none=some v:=EJ h2;cases q:σ[p.1]? with
   |none=>rw[q]at h3;cases h3
   |some z=>rw[q]at h3;show DV some h3
def wu(c:cT X scope cl own cap)(I:Inv X v0 σ H s)(hf:∀b∈fp,DO X v0 H b)(dB:∀b∈fp,b<s.heap.objs.size){h₁:Heap}{tk:Nat}{m:KK}
  (hk:∀b o,s.heap.get? b=some o→h₁.get? b=some o) (hD:h₁.get? s.heap.objs.size=some {cls:=.type "list",data:=.seq ([]:List Value).toArray}) (hn:h₁.Ns (s.heap.objs.size+1) m) :
  Inv (BK X (own++cap.map (·.2)) scope cl (s.heap.objs.size+1) s H fp E) [] (F5 own cap σ) (AI H s.heap.objs.size (.lst [])) {s with heap:=h₁,toks:=tk}:=by
 let IC:H s.heap.objs.size=none:=I.fresh;let NS:H (s.heap.objs.size+1)=none:=I.bC.fresh (BR _);let NP:bj X.prog X.w (AI H s.heap.objs.size (.lst [])) h₁ s.heap.objs.size (.lst []):=⟨EY _,[],0,.nil,hD⟩;show⟨Fg c I hf dB (BR _),rfl,I.bare,Un.laid hk (Ah _) IC,⟨m,hn,λi x v e1 e2 _=>?_⟩,λx a e=>?_,?_,λx a e=>?_,λp hp=>absurd (show p∈([]:ac)from hp) (by simp),I.bC.laid hk (Ah _) NP,?_⟩
 ·let⟨p,hp,ex,es⟩:=mT e1 e2
  let⟨q1,q2,q3,q4,q5⟩:=c.Jc p hp;rw[ex]at q1 q2 q3 q4 q5;let⟨m',V5,hl⟩:=I.loc;let⟨u,r,l⟩:=hl p.1 x v q1 es q2;show⟨u,r,?_⟩;rcases l with l|⟨k,a,e,z⟩
  ·show absurd l.1 q3
  ·let⟨a',e'⟩:=c.N0 x q5
   let ea:=c.sub x a' e';rw[e]at ea;cases ea;show .inr ⟨q5,a,e',z.keeps hk⟩
 ·let⟨v,z⟩:=I.cell x a (c.sub x a e)
  show⟨v,z.keeps hk⟩
 ·show AI H s.heap.objs.size (.lst []) (s.heap.objs.size+1)=none
  rw[Ay (Oi _)];show NS
 ·let⟨v,z⟩:=I.cell x a (c.sub x a e)
  show AI H s.heap.objs.size (.lst []) a=none
  rw[Ay (BB z.lt)];show I.iN x a (c.sub x a e)
 ·show(F5 own cap σ).length=(own++cap.map (·.2)).length
  simp[F5]
def ML{H':A4}{σ':St}{Nc:List Str}{rM:ac}(I:Inv X v0 σ H s)(hf:∀b∈fp,DO X v0 H b)(hC:s.heap.objs.size≤C)(J:Inv (BK X Nc scope cl C s H fp E) rM σ' H' s2):
  Inv X v0 σ H' s2∧DO X v0 H' C:=by
 let os:s2.os=s.os:=J.os;let un:Un (Dj X.stack) fp H H' s.heap s2.heap:=J.base;show⟨I.K9 os un J.bC J.bare λb hb=>⟨(hf b hb).2.2.2.1,(hf b hb).2.1,(hf b hb).2.2.2.2.1,(hf b hb).2.2.2.2.2⟩,I.xt hC J.free⟩
end
abbrev U3(wi:DI)(g:DL)(tc:CR)(te:AQ)(own:List Str)(cap:List (Nat×Str)):AQ:=λσ H Q=>wi σ H λJ H1=>∀D,H1 D=none→
 ∃W:Nat→Nat→St→List V→A4→Prop,(∃m,W 0 m (F5 own cap σ) [] (AI H1 D (.lst [])))∧∀i m σ' ys H',W i m σ' ys H'→H' D=some (.lst ys)∧
  ((J.stop i H'∧Q (.ref D) H')∨(J.go i H'∧ys.length<sizeLine∧∃N:St→List V→A4→Prop,(∀σ ys H,N σ ys H→∃m',m' < m∧W (i+1) m' σ ys H)∧∀x H2,J.qI i H' x H2→g x σ' H2 λσ3 H3=>tc σ3 H3 λb H4=>if b=true then te σ3 H4 λy H5=>H5 D=some (.lst ys)∧N σ3 (ys++[y]) (AI H5 D (.lst (ys++[y])))
   else N σ3 ys H4))
section
variable {tg iter elt: Expr}{ifs: List Expr}{wi: DI}{g: DL}{tc: CR}
def kU{v0:ac}{H2:A4}{it:Addr}{fp:List Addr}{tn:Nat→Heap→Prop}{J:Ef}{Q:An}{RR:Value→Addr→Result→Shared→Prop}{E':xz}
  (c:cT X scope cl own cap) (hc:X.calm=true)
  (hg:∀C s H fp,PG (BK X (own++cap.map (·.2)) scope cl C s H fp λ_ _=>False) tg g) (ht:∀C s H fp,wa (BK X (own++cap.map (·.2)) scope cl C s H fp λ_ _=>False) ifs tc)
  (he:∀C s H fp,PE (BK X (own++cap.map (·.2)) scope cl C s H fp λ_ _=>False) elt te)
  (I2:Inv X v0 σ H2 s2) (T:Turn X.prog X.w X.K tg J fp it tn) (oC:tn 0 s2.heap) (f2:∀b∈fp,DO X v0 H2 b)
  (hw:∀D,H2 D=none→∃W:Nat→Nat→St→List V→A4→Prop,(∃m,W 0 m (F5 own cap σ) [] (AI H2 D (.lst [])))∧∀i m σ' ys H',W i m σ' ys H'→H' D=some (.lst ys)∧
   ((J.stop i H'∧Q (.ref D) H')∨(J.go i H'∧ys.length<sizeLine∧∃N:St→List V→A4→Prop,(∀σ ys H,N σ ys H→∃m',m' < m∧W (i+1) m' σ ys H)∧∀x H2,J.qI i H' x H2→g x σ' H2 λσ3 H3=>tc σ3 H3 λb H4=>if b=true then te σ3 H4 λy H5=>H5 D=some (.lst ys)∧N σ3 (ys++[y]) (AI H5 D (.lst (ys++[y])))
    else N σ3 ys H4)))
  (ID:∀D C s' H' m,Inv X v0 σ H' s'→DO X v0 H' C→s'.heap.Ns C m→Q (.ref D) H'→RR (.ref D) C (.ok .next) s') :
  wpAny (model X.prog X.w) X.A (newList []) (λacc s₃=>wpAny (model X.prog X.w) X.A (newFunctionEnv scope X.env.globals cl [] X.env.qual none .none (some X.env)) (λSV s₄=>
   codeAny (model X.prog X.w) X.A (.compStart (.ListComp elt [⟨tg,iter,ifs,0⟩] scope pos) 0 (.ref it) acc {SV with scope:=relabel scope X.env}) (RR acc SV.locals) s₄) E' s₃) E' s2:=by
 show Fy (MT c.cell (by intro y hy;simp at hy) (λh₁ iM hJ=>?_) c.kind);dsimp only at iM hJ ⊢;let hsz:(s2.heap.push {cls:=.type "list",dict:=none,data:=.seq ([]:List Value).toArray}).objs.size=s2.heap.objs.size+1:=FG _ _;let kk:∀b o,s2.heap.get? b=some o→h₁.get? b=some o:=λb o e=>hJ.extBut b o (by rw[hsz];show BB (HJ (B5 e))) (Aw _ (Aw _ e));let hD:h₁.get? s2.heap.objs.size=some {cls:=.type "list",data:=.seq ([]:List Value).toArray}:=
  hJ.extBut _ _ (by rw[hsz];show BB (Hh _)) (Aw _ (CW _ rfl))
 rw[hsz]at iM ⊢;let dB:∀b∈fp,b<s2.heap.objs.size:=λb hb=>by
  let⟨o,e,_⟩:=T.obj _ _ oC b hb;show B5 e
 let⟨W,⟨m0,w0⟩,turn⟩:=hw s2.heap.objs.size I2.fresh;let J1:=wu (E:=λ_ _=>False) c I2 f2 dB (tk:=s2.toks+([]:List (Str×Value)).length) kk hD iM;generalize eW:BK X (own++cap.map (·.2)) scope cl (s2.heap.objs.size+1) s2 H2 fp (λ_ _=>False)=X' at J1;let IB:PG X' tg g:=eW ▸ hg _ _ _ _;let VU:wa X' ifs tc:=eW ▸ ht _ _ _ _;let R8:PE X' elt te:=eW ▸ he _ _ _ _;let pX:X'.prog=X.prog:=by rw[←eW];rfl
 let wX:X'.w=X.w:=by rw[←eW];rfl
 let kX:X'.K=X.K:=by rw[←eW];rfl
 let aX:X'.A=X.A:=by rw[←eW];rfl
 let cX:X'.calm=true:=by rw[←eW];show hc
 let E8:X'.env=compEnvC scope cl (s2.heap.objs.size+1) X.env:=by rw[←eW];rfl
 let xX:X'.xe=λ_ _=>False:=by rw[←eW];rfl
 let fX:∀b∈fp,∀{H':A4},H' b=none→DO X' [] H' b:=λb hb {H'} hn=>by
  let o1:=(Fg (E:=λ_ _=>False) c I2 f2 dB (C:=s2.heap.objs.size+1) (BR _)).Gy b hb;let o2:=(Fg (E:=λ_ _=>False) c I2 f2 dB (C:=s2.heap.objs.size+1) (BR _)).qD b hb;rw[←eW];show⟨hn,o1.1,o2,.inl hb,o1.2,λp hp=>absurd (show p∈([]:ac)from hp) (by simp)⟩
 let fin:∀{σ':St} {H':A4} {s':Shared},Inv X' [] σ' H' s'→Q (.ref s2.heap.objs.size) H'→RR (.ref s2.heap.objs.size) (s2.heap.objs.size+1) (.ok .next) s':=λ{σ' H' s'} J' q=>by
  rw[←eW]at J';let⟨A1,A2⟩:=ML I2 f2 (BR _) J';let⟨m,hm,_⟩:=J'.loc;show ID _ _ s' H' m A1 A2 hm q
 let loop:codeAny (model X.prog X.w) X.A (.compLoop (.ListComp elt [⟨tg,iter,ifs,0⟩] scope pos) 0 (.ref it) (.ref s2.heap.objs.size) (compEnvC scope cl (s2.heap.objs.size+1) X.env)) (RR (.ref s2.heap.objs.size) (s2.heap.objs.size+1))
   {s2 with heap:=h₁,toks:=s2.toks+([]:List (Str×Value)).length}:=by
  show yM (λn s'=>∃i σ' ys H',Inv X' [] σ' H' s'∧tn i s'.heap∧(∀b∈fp,H' b=none)∧W i n σ' ys H') ?_ m0
   ⟨0,_,[],_,J1,T.keep _ _ _ oC λb _ o e=>kk b o e,λb hb=>by rw[Ay (BB (dB b hb))];show(f2 b hb).1,w0⟩
  intro n s3⟨i,σ3,ys,H3,I3,t7,xq,w3⟩;let⟨O1,w4⟩:=turn i n σ3 ys H3 w3;rw[←E8,←aX,←pX,←wX];let i0:∀{α:Type} {t:Sem α} {Q1:α→Shared→Prop} {E1:xz} {s:Shared},wpAny (model X'.prog X'.w) X'.A t Q1 X'.xe s→wpAny (model X'.prog X'.w) X'.A t Q1 E1 s:=λ{α t Q1 E1 s} h=>by
   rw[xX]at h;show BV h (λ_ _ q=>q) λ_ _ f=>f.elim
  rcases w4 with⟨stop,qn⟩|⟨go,OX,N,hN,step⟩
  ·let d:=T.done X' pX wX kX cX i [] s3 σ3 H3 X'.xe I3 (λb hb=>fX b hb (xq b hb)) t7 stop
   rw[←pX,←wX]at d;show i0 (AF d λr s4 ξ=>Ξ02 ξ λhr I4=>?_);subst hr;show fin I4 qn
  ·let d:=T.item X' pX wX kX cX i [] s3 σ3 H3 X'.xe I3 (λb hb=>fX b hb (xq b hb)) t7 go
   rw[←pX,←wX]at d;show i0 (AF d λr s4 ξ=>Ξ12 ξ λu hr h4=>?_);subst hr;show i0 (AF h4 λ_ s5 ξ=>Ξ25 ξ λx H5 I5 r5 y5 rq Fx=>?_);let Gi:=I5.pinned (λb hb=>fX b hb (Fx b hb)) (T.obj _ _ rq);let again:∀{σ7:St} {H7:A4} {s7:Shared} {Uw:List V},Inv X' ([]++Ht fp s5.heap) σ7 H7 s7→N σ7 Uw H7→
     ∃m,m<n∧∃i σ' ys H',Inv X' [] σ' H' s7∧tn i s7.heap∧(∀b∈fp,H' b=none)∧W i m σ' ys H':=λ{σ7 H7 s7 Uw} I7 n7=>by
    let⟨m',hm,w7⟩:=hN _ _ _ n7;show⟨m',hm,i+1,σ7,Uw,H7,I7.gR,T.keep _ _ _ rq λb hb o e=>(I7.pin (b,o) (CZ _ (CZ _ (G2 hb e)))).1,λb hb=>?_,w7⟩;let⟨o,e,d⟩:=T.obj _ _ rq b hb;show(I7.pin (b,o) (CZ _ (CZ _ (G2 hb e)))).2.1
   show i0 (AF (IB _ s5 σ3 H5 x u _ Gi r5 (step x H5 y5)) λ_ s6 ξ=>Ξ22 ξ λσ6 H6 I6 q6=>?_);show i0 (AF (VU _ s6 σ6 H6 _ I6 q6) λb s7 ξ=>Ξ12 ξ λH7 I7 q7=>?_);cases b with
   |false=>
    rw[AP Bs]at q7 ⊢;show again I7 q7
   |true=>
    rw[Ab rfl]at q7 ⊢;show i0 (AF (R8 _ s7 σ6 H7 _ I7 q7) λu8 s8 ξ=>Ξ24 ξ λy8 H8 I8 r8 d8 q8=>?_);show i0 (AF (fq _ s8 σ6 H8 (.ref s2.heap.objs.size) [y8] (.ref s2.heap.objs.size) [u8] (λ_ H9=>N σ6 (ys++[y8]) H9) I8 rfl (.cons r8 .nil) ⟨_,ys,y8,rfl,rfl,d8,OX,q8⟩) λ_ s9 ξ=>Ξ23 ξ λ_ H9 I9 _ q9=>?_);show again I9 q9
 show codeAny_compStart_list loop (T.self X.A 0 _ _ _ (T.keep _ _ _ oC λb _ o e=>kk b o e) loop)
def acu(c:cT X scope cl own cap)(hc:X.calm=true)(hi:PI X tg iter wi)
  (hg:∀C s H fp,PG (BK X (own++cap.map (·.2)) scope cl C s H fp λ_ _=>False) tg g) (ht:∀C s H fp,wa (BK X (own++cap.map (·.2)) scope cl C s H fp λ_ _=>False) ifs tc)
  (he:∀C s H fp,PE (BK X (own++cap.map (·.2)) scope cl C s H fp λ_ _=>False) elt te) (hs:∀x,foldedSetIterable iter X.env x=pure x:=by intro _;rfl) :
  PE X (.ListComp elt [⟨tg,iter,ifs,0⟩] scope pos) (U3 wi g tc te own cap):=by
 show .mk ?_;intro v0 s σ H Q I h;rw[eval_ListComp];show Jr (use:=none) rfl hs c.xE c.kind c.names (AF (hi v0 s σ H _ I h) λv s1 h1=>AF h1 λKL s2 h2=>?_);let⟨it,fp,tn,J,H2,e,I2,T,oC,f2,hw⟩:=h2;subst e;show kU (Q:=Q) (RR:=λacc C=>compPost (model X.prog X.w) X.A X.xe none (BX X v0 σ Q) acc C) c hc hg ht he I2 T oC f2 hw ?_;intro D C s' H' m I' hC hm q;show⟨m,hm,λh' gM=>Ψ2 (.ref D) H' ⟨?_,rfl,q⟩⟩;show I'.turned (t':=s'.toks) (λb o hb e=>(gM.2 b hb).trans e) hC.1 hC.2.1 hC.2.2.2.1 hC.2.2.2.2.1 hC.2.2.2.2.2
abbrev aas(i:Nat)(t:AQ):Be:=λD σ H=>t σ H λx H1=>D.nx (σ.set i (some x)) H1
def aaP{y:Str}{py DM:Pos}(c:cT X scope cl own cap)(hc:X.calm=true)(hi:PI X tg iter wi)
  (hg:∀C s H fp,PG (BK X (own++cap.map (·.2)) scope cl C s H fp λ_ _=>False) tg g) (ht:∀C s H fp,wa (BK X (own++cap.map (·.2)) scope cl C s H fp λ_ _=>False) ifs tc)
  (he:∀C s H fp,PE (BK X (own++cap.map (·.2)) scope cl C s H fp λ_ _=>False) elt te)
  (hN:X.N.Nodup) (hy:X.N[i]?=some y) (hl:X.env.scope.names.lookup y=some .local)
  (VV:swapsWith (.ListComp elt [⟨tg,iter,ifs,0⟩] scope pos) (some (.Name y py)) DM.line X.env=pure true:=by rfl) (hs:∀x,foldedSetIterable iter X.env x=pure x:=by intro _;rfl) :
  PS X (.Assign [.Name y py] (.ListComp elt [⟨tg,iter,ifs,0⟩] scope pos) DM) (aas i (U3 wi g tc te own cap)):=by
 show .mk ?_;intro v0 s σ H D I h;rw[exec_Assign_Name_used _ _ _ _ VV];show A6 (GD (A6 ?_));show wpAny _ X.A (do let _ ←comprehension (.ListComp elt [⟨tg,iter,ifs,0⟩] scope pos) scope X.env _ (newList []) false (eval iter X.env) (some (assign (.Name y py) X.env))) _ _ s
 show A6 (BV (Jr (use:=some (assign (.Name y py) X.env)) (Q:=λ_ s'=>SP X v0 D .next s') rfl hs c.xE c.kind c.names (AF (hi v0 s σ H _ I h) λv s1 h1=>AF h1 λKL s2 h2=>?_)) (λ_ s' hq=>AL (AL hq)) λ_ _ e=>e);let⟨it,fp,tn,J,H2,e,I2,T,oC,f2,hw⟩:=h2;subst e;show kU (Q:=λx H1=>D.nx (σ.set i (some x)) H1) (RR:=λacc C=>compPost (model X.prog X.w) X.A X.xe (some (assign (.Name y py) X.env)) (λ_ s'=>SP X v0 D .next s') acc C) c hc hg ht he I2 T oC f2 hw ?_;intro D' C s' H' m I' hC hm q;show wpAny _ X.A (assign (.Name y py) X.env (.ref D')) _ _ _
 show wpAny_assign_Name (eU (v:=.ref D') I' hN hy (.inl hl) rfl (λBH I'' ch=>?_) (.inr hl));let⟨a,sb,ha⟩:=ch;let hCa:C≠a:=by
  rcases ha with ha|ha
  ·rw[ha];show hC.2.1
  ·exactλz=>hC.2.2.2.2.1 _ _ ha z.symm
 show⟨m,hm.sameBut sb hCa,λh' gM=>Ψ2 _ H' ⟨?_,q⟩⟩;show I''.turned (t':=BH.toks) (λb o hb e=>(gM.2 b hb).trans e) hC.1 hC.2.1 hC.2.2.2.1 hC.2.2.2.2.1 hC.2.2.2.2.2
end
abbrev dP:List Int→Int
 |[]=>0
 |[x]=>x
 |x::y::r=>max x (dP (y::r))
abbrev Ci{α:Type}(xs:List α)(lo hi:Option Int):List α:=(xs.drop (HT.cV xs.length 0 lo)).take (HT.cV xs.length xs.length hi-HT.cV xs.length 0 lo)
def PU{α:Type}(xs:List α)(lo hi:Option Int):(Ci xs lo hi).length≤xs.length:=by
 unfold Ci;rw[Em,GL];lia
def My(v:Int)(n d:Nat):max (0:Int) (min (if v<0 then v+(n:Int)else v) (n:Int))=((HT.cV n d (some v):Nat):Int):=by
 show _=(((if v<0 then(v+(n:Int)).toNat else min v.toNat n):Nat):Int)
 by_cases hv:v<0
 ·rw[Ab hv,Ab hv];lia
 ·rw[AP hv,AP hv];lia
def jI(lo hi:Option Int)(n:Nat):Builtin.Str.strSliceIndices lo hi 1 n=Builtin.Str.strSliceIndices (some ((HT.cV n 0 lo:Nat):Int)) (some ((HT.cV n n hi:Nat):Int)) 1 n:=by
 let a1:=HT.uN n 0 (EY _) lo;let a2:=HT.uN n n (Ah _) hi;let n1:¬(((HT.cV n 0 lo:Nat):Int)<0):=by lia
 let n2:¬(((HT.cV n n hi:Nat):Int)<0):=by lia
 let e1:max (0:Int) (min ((HT.cV n 0 lo:Nat):Int) (n:Int))=((HT.cV n 0 lo:Nat):Int):=by lia
 let e2:max (0:Int) (min ((HT.cV n n hi:Nat):Int) (n:Int))=((HT.cV n n hi:Nat):Int):=by lia
 let p1:((1:Int)>0)=True:=by simp
 simp only[Builtin.Str.strSliceIndices,n1,n2,HV,e1,e2,p1,IH];cases lo with
 |none=>
  cases hi with
  |none=>rfl
  |some v=>simp only[My v n n];rfl
 |some u=>
  cases hi with
  |none=>simp only[My u n 0];rfl
  |some v=>simp only[My u n 0,My v n n]
def uu{a b:Nat}(h:b≤a):Builtin.Str.strSliceIndices (some (a:Int)) (some (b:Int)) 1 n=[]:=by
 let n1:¬((a:Int)<0):=by lia
 let n2:¬((b:Int)<0):=by lia
 let p1:((1:Int)>0)=True:=by simp
 let p2:¬(max (0:Int) (min (a:Int) (n:Int))<max (0:Int) (min (b:Int) (n:Int))):=by lia
 simp only[Builtin.Str.strSliceIndices,PySem.sliceRange,n1,n2,HV,p1,IH,p2];rfl
def vQ(x:Str)(lo hi:Option Int):(StrLaws.sliceText x lo hi).cps.toList=Ci x.cps.toList lo hi:=by
 let hn:x.cps.toList.length=x.length:=by simp[Str.length]
 unfold Ci;rw[hn];let a2:=HT.uN x.length x.length (Ah _) hi;by_cases h:HT.cV x.length 0 lo≤HT.cV x.length x.length hi
 ·let q:=StrLaws.sliceText_nat x h a2
  let e:StrLaws.sliceText x lo hi=StrLaws.sliceText x (some ((HT.cV x.length 0 lo:Nat):Int)) (some ((HT.cV x.length x.length hi:Nat):Int)):=by
   unfold StrLaws.sliceText;rw[jI lo hi x.length]
  rw[e,q]
 ·let z:HT.cV x.length x.length hi-HT.cV x.length 0 lo=0:=by lia
  rw[z,Ra];unfold StrLaws.sliceText;rw[jI lo hi x.length,uu (by lia)];split
  ·rename_i c
   let c':(0:Nat)=x.length:=by simpa using c
   show lY (by rw[hn];show c'.symm)
  ·rfl
abbrev zx:V→Option Int→Option Int→A4→An→Prop:=λx lo hi H Q=>∃z:Str,x=.str z∧z.length≤sizeLine∧∀y:Str,y.cps.toList=Ci z.cps.toList lo hi→Q (.str y) H
def xc{X:Cx}:Jj X zx:=by
 intro v0 s σ H x v vl vu lo hi sl Q I rx hs pl pu h;let⟨z,rfl,hz,q⟩:=h;let⟨t,rfl⟩:=rx;show Ψ2 ("str") _ ⟨F.slot_str_getitem.lookup,MQ _ z t,?_⟩;let fin:∀(l u:Option (Int×Tok)),l.map (·.1)=lo→u.map (·.1)=hi→s.heap.IsSlice sl l u none→wpAny (model X.prog X.w) X.A (getItem (.str z t) (.ref sl)) (BX X v0 σ Q) X.xe s:=λl u el eu hq=>by
  show wpAny_getItem_str_slice hq rfl ?_;let hc:=vQ z lo hi;unfold StrLaws.sliceText at hc;unfold sliceMade slicePicked;rw[el,eu];show(if((1:Int)==1&&(Builtin.Str.strSliceIndices lo hi 1 z.length).length==z.length)=true then Made.val (.str z t)else .str ⟨((Builtin.Str.strSliceIndices lo hi 1 z.length).filterMap (z.cps[·]?)).toArray⟩).post (BX X v0 σ Q) s
  split
  ·rename_i c
   rw[Ab c]at hc;show Ψ2 (.str z) H ⟨I,⟨t,rfl⟩,q z hc⟩
  ·rename_i c
   rw[AP c]at hc;let hl:(Str.mk ((Builtin.Str.strSliceIndices lo hi 1 z.length).filterMap (z.cps[·]?)).toArray).length≤z.length:=by
    let e:=PU z.cps.toList lo hi;rw[←hc]at e;simpa[Str.length]using e
   show⟨Cu hl hz,.str ⟨((Builtin.Str.strSliceIndices lo hi 1 z.length).filterMap (z.cps[·]?)).toArray⟩,H,I.tok _,⟨_,rfl⟩,q _ hc⟩
 cases pl with
 |none=>
  cases pu with
  |none=>show fin none none rfl rfl hs
  |int j t'=>show fin none (some (j,t')) rfl rfl hs
 |int i Xs=>
  cases pu with
  |none=>show fin (some (i,Xs)) none rfl rfl hs
  |int j t'=>show fin (some (i,Xs)) (some (j,t')) rfl rfl hs
section
variable {x: Expr}{p2: Pos}{T: Str}{Ty: String}
abbrev pF(K:W.Frag)(Ty:String)(te:AQ):AQ:=λσ H Q=>te σ H λv H1=>∃v',[v,V.ty Ty]=[v',V.ty Ty]∧∃t b,Ex K H1 v' t∧W.kitOne K t (.type Ty)=some b∧Q (.bl b) H1
def rB(hg:Bk X "isinstance")(hm:X.mg "isinstance" = none)(R6:Bk X T)(R1:X.mg T=none)(RO:bootBuiltins T=some (.type Ty))(he:PE X x te)(hn:T ≠ "__name__" := by decide)(Sa:(T ==("__debug__" : Str))=false:=by decide)
  (hs:starEach [x,.Name T p2] X.env=(false,eval x X.env)::starEach [.Name T p2] X.env:=by rfl) (vA:starEach [.Name T p2] X.env=[(false,eval (.Name T p2) X.env)]:=by rfl)
  (i7:(backTo pos (starEach [.Name T p2] X.env)).any (·.1)=false:=by rfl) :
  PE X (.Call (.Name "isinstance" p) [x,.Name T p2] [] pos) (pF X.K Ty te):=by
 let c:Eg X (.builtin "isinstance") (λxs H Q=>∃v,xs=[v,.ty Ty]∧∃t b,Ex X.K H v t∧W.kitOne X.K t (.type Ty)=some b∧Q (.bl b) H):=by
  intro v0 s σ H xs us Q I r h;let⟨v,rfl,⟨t,b,ty,e,q⟩⟩:=h;let⟨u,w',rfl,ru,oP⟩:=vals2 r;cases(show w'=Value.type Ty from oP);show ack I ru ty e λtk=>Ψ2 (.bl b) H ⟨I.tok tk,rfl,q⟩
 let pa:PA X [x,.Name T p2] (To te (To (Ir (.ty Ty)) dF)):=TO he (TO (aaX R6 R1 RO rfl hn Sa) lx vA) hs;show jC (p:=p) (pos:=pos) c hg hm PyProof.Rows.boot_isinstance pa (by decide) (by decide) hs i7
end
abbrev Callee(P:Program)(w:World)(K:W.Frag)(mg:KK)(base:Heap)(x:Str)(k:Nat)(ps:List Str)(sp:Dq):Prop:=
 ∃f fd,bc P w K mg base Am k f fd ps sp∧mg x=some (.ref f)∧W.keepIn K (.ref f)=true∧Binds K fd ps []
section
variable {x: Str}{k j: Nat}{ps: List Str}{sp: Dq}{e: Expr}{es: List Expr}{t: CM}
def vm(c:Callee X.prog X.w X.K X.mg X.base x k ps sp)(hr:dE j X.A)(hk:k≤j)(hg:Bk X x)(ha:PA X (e::es) t)(qC:(x ==("__debug__" : Str))=false:=by decide)
  (he:starEach (e::es) X.env=(false,eval e X.env)::starEach es X.env:=by rfl) (i7:(backTo pos (starEach es X.env)).any (·.1)=false:=by rfl):PE X (.Call (.Name x p) (e::es) [] pos) (aJ sp [] IU t):=by
 let⟨f,fd,F,m,kp,b⟩:=c;show zk F (hr.mono hk) hg m kp b .nil cy ha qC he i7
end
section
def abK{p:Str×NameKind}(h:p∈(relabel scope env).names):∃q∈scope.names,q.1=p.1∧(p.2=q.2∨(q.2=.free∧p.2=.cell)):=by
 let⟨q,hq,e⟩:=aam.mp (show p∈scope.names.map _ from h);show⟨q,hq,?_⟩;obtain⟨n,k⟩:=q;dsimp only at e;split at e
 ·rename_i c
  subst e;show⟨rfl,.inr ⟨?_,rfl⟩⟩;simp only[EO,ab4]at c;show c.1.1
 ·subst e
  show⟨rfl,.inl rfl⟩
def ado(hk:scope.kind=.function)(hn:∀y∈scope.names,y.2≠.free∧y.2≠.cell)(hl:∀y∈scope.names,y.2=.local→scope.names.lookup y.1=some .local):cT X scope [] own [] where
 xE:=closureFor_none λy hy=>(hn y hy).1
 cell:=λy hy=>(hn y hy).2
 kind:=hk
 names:=hl
 sub:=λx c h=>nomatch h
 has:=λp hp h=>by
  let⟨q,hq,e1,e2⟩:=abK hp;let n:=hn q hq;rcases e2 with e2|⟨e2,_⟩
  ·rw[e2]at h
   rcases h with h|h
   ·show absurd h n.2
   ·show absurd h n.1
  ·show absurd e2 n.1
 Jc:=λp hp=>nomatch hp
abbrev xW(cells:List (Str×Addr)):List (Str×Addr)→Prop
 |[]=>True
 |p::r=>cells.lookup p.1=some p.2∧xW cells r
def xW.mem{cells:List (Str×Addr)}:∀{cl:List (Str×Addr)},xW cells cl→∀p∈cl,cells.lookup p.1=some p.2
 |[],_,p,h=>nomatch h
 |q::r,h,p,hp=>by
  rcases aaf.mp hp with rfl|hp
  ·show h.1
  ·show xW.mem h.2 p hp
abbrev sX(X:Cx)(scope:Scope):List (Nat×Str)→Prop
 |[]=>True
 |p::r=>(X.N[p.1]?=some p.2∧X.env.kindOf p.2=some .cell∧(relabel scope X.env).names.lookup p.2=some .cell)∧sX X scope r
def sX.mem:∀{cap:List (Nat×Str)},sX X scope cap→∀p∈cap,X.N[p.1]?=some p.2∧X.env.kindOf p.2=some .cell∧(relabel scope X.env).names.lookup p.2=some .cell
 |[],_,p,h=>nomatch h
 |q::r,h,p,hp=>by
  rcases aaf.mp hp with rfl|hp
  ·show h.1
  ·show sX.mem h.2 p hp
def Fj{cl:List (Str×Addr)}{cap:List (Nat×Str)}(hk:scope.kind=.function)(hn:∀y∈scope.names,y.2≠.cell)(hl:∀y∈scope.names,y.2=.local→scope.names.lookup y.1=some .local)
  (hc:closureFor scope X.env=pure cl) (ha:xW X.env.cells cl) (hh:((relabel scope X.env).names.all λp=>!(p.2 == .cell||p.2 == .free)||(cl.lookup p.1).isSome)=true) (Wg:sX X scope cap):cT X scope cl own cap where
 xE:=hc
 cell:=hn
 kind:=hk
 names:=hl
 sub:=λx c h=>ha.mem _ (mem_of_lookup h)
 has:=λp hp h=>by
  let q:=aa2.mp hh p hp;rcases h with h|h<;>· rw[h]at q;simpa using q
 Jc:=λp hp=>by
  let⟨h1,h2,h3⟩:=Wg.mem p hp;show⟨h1,.inr (.inl h2),by rw[h2];decide,by rw[h3];decide,.inl h3⟩
end
def mG:bootBuiltins "bool" = some (.type "bool"):=by done
def abR:bootBuiltins "int" = some (.type "int"):=by done
def JU:bootBuiltins "str" = some (.type "str"):=by done
def Dm:bootBuiltins "tuple" = some (.type "tuple"):=by done
def eG:bootBuiltins "list" = some (.type "list"):=by done
def tj:bootBuiltins "dict" = some (.type "dict"):=by done
abbrev Kp(l:List Addr)(H H':A4):Prop:=∀b o,b∉l→H b=some o→H' b=some o
def Kp.refl(H:A4):Kp l H H:=λ_ _ _ h=>h
def Kp.new{H:A4}{p:Addr}(h:H p=none)(o:HO):Kp l H (AI H p o):=λb u _ q=>by rw[Ay (Fe q h)];show q
end L2
namespace L2
open PySem PySem.Spec PyProof.Rows PySem.W
variable {h:Heap}{H: A4}{v0:ac}{σ:St}{H1:A4}{s1:Shared}{b:Addr}{o:Obj}{P:Program}{w:World}{x: Str}{X: Cx}{np pos: Pos}{t: CM}{E: BD}{s: Shared}
def Gap{K:Frag}{C:Addr}{Lf:List Value}{newId:String}(X:K.In h)(q:excIn K C Lf newId=true):
  ∃bm N nm q bs hdct sn sub ab col dd k0 k1 k2 k3 k5 mN,h.get? C=some (excClassObj nm q C N bs bm hdct sn sub ab col dd k0 k1 k2 k3 k5 newId)∧h.Ns N mN∧mN "__init__" = none∧OwnTail h Lf bm:=by
 unfold excIn at q;split at q
 ·rename_i dd cd sl ho
  split at q
  ·rename_i C' bm k0 k1 k2 k3 n k5 hm hs
   simp only[EO,ab4,Bool.not_eq_true']at q;let⟨⟨⟨⟨⟨rfl,rfl⟩,R9⟩,ht⟩,bC⟩,T6⟩:=q;obtain⟨nm,bs,mro,ns,qn,hd,sn,sub,ab,col,del⟩:=cd;dsimp only at hm R9 bC T6;subst hm R9;let hsl:sl=#[k0,k1,k2,k3,some (.builtin n),k5]:=by
    obtain⟨l⟩:=sl;simp only at hs;rw[hs]
   subst hsl;show⟨bm,ns,nm,qn,bs,hd,sn,sub,ab,col,dd,k0,k1,k2,k3,k5,_,X _ _ ho,.of_isNs (isNs_of_in X bC),nsMap_none_of_in X bC T6,tail_of_in X ht⟩
  ·cases q
 ·cases q
structure Um(fs:List Addr)(H H':A4)(h B h':Heap):Prop where
 keep:∀b o,h.get? b=some o→H b=none→b∉fs→B.get? b=some o
 slot:∀b o,h.get? b=some o→H b=none→b∈fs→∃sl,h'.get? b=some {o with slots:=sl}
 free:∀b o,h.get? b=some o→H b=none→H' b=none
 there:∀b o,h.get? b=some o→b∉fs→∃o',B.get? b=some o'
 nq:∀b xs,H b=some (.tup xs)→H' b=some (.tup xs)
 m5:∀b o u,H b=some (.frz o u)→H' b=some (.frz o u)
 nt:∀b ps,H b=some (.tbl ps)→∃more,H' b=some (.tbl (ps++more))
def Um.un{fs:List Addr}{H H':A4}{B h':Heap}(u:Um fs H H' h B h')(st:B.StaysIn h')(hf:∀b∈fs,H b=none):Un fs [] H H' h h':=
 ⟨λb o e n hb _=>st b o (u.keep b o e n hb),λb o e n hb _=>u.slot b o e n hb,λb o e n _=>u.free b o e n,λb o e _=>by
  by_cases hb:b∈fs
  ·let⟨sl,q⟩:=u.slot b o e (hf b hb) hb
   show⟨_,q⟩
  ·let⟨o',q⟩:=u.there b o e hb
   show⟨o',st b o' q⟩,u.nq,u.m5,u.nt⟩
abbrev EU(P:Program)(w:World):Gl:=λouter H s E e s'=>∃(x:Addr) (C a0:Value) (H':A4) (B:Heap),e=.ref x∧s'.os=s.os∧AllBare s'.gens∧
 Heap.FlyingW B outer x C a0 s'.heap∧mH P w H' B∧Um (Dj outer) H H' s.heap B s'.heap∧E C none H'
abbrev Raises(X:Cx)(E:BD):Prop:=∀(v0:ac) (σ:St) (H:A4) (s:Shared) (h':Heap) (x:Addr) (C:Value) (vs:List Value),Inv X v0 σ H s→Heap.MadeExcOf s.heap h' x C vs→E C none H→X.xe (.ref x) {s with heap:=h'}
section
variable {C: Addr}{Lf: List Value}{B newId zm: String}{dD: Pos}{e₀: Expr}{v4: List Expr}
abbrev rR(E:BD)(C:Addr)(t:CM):Be:=λ_ σ H=>t σ H λvs H1=>vs.length≤sizeLine∧E (.ref C) none H1
def aaV(hc:X.calm=true)(hg:Bk X x)(hm:X.mg x=some (.ref C))(hx:excIn X.K C Lf newId=true)(FB:ExcBaseFacts B newId zm Lf)(ha:PA X (e₀::v4) t)(hE:Raises X E)
  (hd:(x ==("__debug__" : Str))=false:=by decide) (he:starEach (e₀::v4) X.env=(false,eval e₀ X.env)::starEach v4 X.env:=by rfl) (i7:(backTo dD (starEach v4 X.env)).any (·.1)=false:=by rfl) :
  PS X (.Raise (some (.Call (.Name x np) (e₀::v4) [] dD)) none pos) (rR E C t):=by
 show .mk ?_;intro v0 s σ H D I h;obtain⟨bm,N,nm,q,bs,hdct,sn,sub,ab,col,dd,k0,k1,k2,k3,k5,mN,hC,hN,T6,T⟩:=Gap I.mod.KH hx;show wpAny_Raise_call_subT (C:=C) (nm:=nm) (q:=q) (N:=N) (bs:=bs) (bm:=bm) (hdct:=hdct) (sn:=sn) (sub:=sub) (ab:=ab) (col:=col) (dd:=dd) (k0:=k0) (k1:=k1) (k2:=k2) (k3:=k3) (k5:=k5)
  FB (mN:=mN) (T.hasType FB.hasBase) (I.ok.hd hc) (by rw[he];show(false||(backTo dD (starEach v4 X.env)).any (·.1))=false;rw[i7];rfl) T6 (Ka I hg hm ⟨rfl,?_⟩ hd)
 let hA:=ha dD v0 s σ H _ I h;rw[he]at hA ⊢;show Qo (AF hA λus s2 ξ=>Ξ24 ξ λvs H1 I1 r1 hz q1=>?_);show⟨rfl,by rw[←r1.length];show hz,I1.bk _ _ hC,hN.keeps I1.bk,T.keeps I1.bk,λh' e hM=>hE v0 σ H1 s2 h' e _ _ I1 hM q1⟩
end
section
variable {P: Program}{w: World}{K: W.Frag}{mg: Str→Option Value}{base: Heap}{N: List Str}{qual: Str}{scope: Scope}{f: Addr}{cd: Value}{A: Around}{outer: List Env}
@[reducible]def Hk(P:Program)(w:World)(K:W.Frag)(mg:KK)(base:Heap)(N:List Str)(qual:Str)(scope:Scope)(f:Addr)(cd:Value)(A:Around)(outer:List Env)(s:Shared)(H:A4)(E:BD):Cx:=
 Iu (EU P w) P w K mg base N qual scope f cd A outer s H E
def Mp(I:Inv (Hk P w K mg base N qual scope f cd A outer s H E) v0 σ H1 s1)(e:s.heap.get? b=some o)(hb:b∉Dj outer):
  b∉Dj (envOfC qual scope s.heap.objs.size f cd::outer):=λhm=>by
 rcases aaf.mp (I.uG b hm)with z|z
 ·show absurd (B5 e) (by rw[z];show GK _)
 ·show hb z
def bV(I:Inv (Hk P w K mg base N qual scope f cd A outer s H E) v0 σ H1 s1)(e:s.heap.get? b=some o)(hb:b∈Dj outer):∀vs,o.data≠.fields vs:=by
 let⟨_,⟨o',pZ,NY⟩⟩:=I.ok.mr.mem hb;let e':s.heap.get? b=some o':=pZ;rw[e]at e';cases e';show NY
def Sp:Raises (Hk P w K mg base N qual scope f cd A outer s H E) E:=by
 intro v0 σ H1 s1 h' x C vs I M hE;show wpAny (model P w) (A.deeper (envOfC qual scope s.heap.objs.size f cd)) (leaving (envOfC qual scope s.heap.objs.size f cd) (.ref x)) (λ_ BH=>EU P w outer H s E (.ref x) BH) (λe' BH=>EU P w outer H s E e' BH) {s1 with heap:=h'}
 let Yp:∀FE∈envOfC qual scope s.heap.objs.size f cd::outer,∀a,FE.frame=some a→a∈Dj (envOfC qual scope s.heap.objs.size f cd::outer):=λFE he a ha=>abZ.mpr ⟨FE,he,ha⟩;show wpAny_leaves_madeW (base:=hideAll s1.heap (Dj (envOfC qual scope s.heap.objs.size f cd::outer))) (h:=s1.heap) I.ok.frames rfl (λb o q=>of_hideAll _ q) (funFrames_hide I.stack Yp) M λh2 t x1 x2 x3 x4=>?_;let nf:∀b u,H1 b=some u→b∉Dj (envOfC qual scope s.heap.objs.size f cd::outer):=λb u q hm=>by
  let z:=I.qL b hm;rw[q]at z;cases z
 show Ψ5 x C (.ref t) H1 _ ⟨rfl,I.os,I.bare,x1,λa o q=>?_,⟨λb o q n hb=>?_,λb o q n hb=>?_,λb o q n=>?_,λb o q hb=>?_,I.base.nq,I.base.m5,I.base.nt⟩,hE⟩
 ·show(I.bC a o q).tE (λb u hb z=>hideAll_get _ z ?_) (λ_ z=>z) λ_ _ z=>z
  rcases hb with rfl|hb
  ·show nf _ _ q
  ·show nf _ _ hb
 ·show hideAll_get _ (I.base.keep b o q n hb (by show CE)) (Mp I q hb)
 ·let⟨sl,z⟩:=I.base.slot b o q n hb (by show CE)
  let⟨DU,z2⟩:=x4 b _ (M.keeps _ _ z) (have fd:=bV I q hb;λvs=>fd vs);show⟨DU,z2⟩
 ·show I.base.free b o q n (by show CE)
 ·let⟨o',z⟩:=I.base.there b o q (by show CE)
  show⟨o',hideAll_get _ z (Mp I q hb)⟩
def Va:Passes (EU P w) (Hk P w K mg base N qual scope f cd A outer s H E) E:=by
 intro v0 σ H1 s1 e s2 I h;let⟨x,C,a0,H',B,rfl,os,bare,fl,bC,u,hE⟩:=h;show wpAny (model P w) (A.deeper (envOfC qual scope s.heap.objs.size f cd)) (leaving (envOfC qual scope s.heap.objs.size f cd) (.ref x)) (λ_ BH=>EU P w outer H s E (.ref x) BH) (λe' BH=>EU P w outer H s E e' BH) s2
 show wpAny_leaves_onW I.ok.frames rfl fl λh2 f2 AA=>?_;show Ψ5 x C a0 H' B ⟨rfl,os.trans I.os,bare,f2,bC,⟨λb o q n hb=>?_,λb o q n hb=>?_,λb o q n=>?_,λb o q hb=>?_,λb xs q=>u.nq b xs (I.base.nq b xs q),λb o v q=>u.m5 b o v (I.base.m5 b o v q),λb ps q=>?_⟩,hE⟩
 ·show u.keep b o (I.base.keep b o q n hb (by show CE)) (I.base.free b o q n (by show CE)) (Mp I q hb)
 ·let⟨sl,z⟩:=I.base.slot b o q n hb (by show CE)
  let hm:b∈Dj (envOfC qual scope s.heap.objs.size f cd::outer):=by
   let⟨FE,he,ha⟩:=abZ.mp hb;show abZ.mpr ⟨FE,DT _ he,ha⟩
  let⟨DU,z2⟩:=u.slot b _ z (I.base.free b o q n (by show CE)) hm;let⟨Z3,z3⟩:=AA b _ z2 (have fd:=bV I q hb;λvs=>fd vs);show⟨Z3,z3⟩
 ·let⟨o',z⟩:=I.base.there b o q (by show CE)
  show u.free b o' z (I.base.free b o q n (by show CE))
 ·let⟨o',z⟩:=I.base.there b o q (by show CE)
  show u.there b o' z (Mp I q hb)
 ·let⟨m1,z1⟩:=I.base.nt b ps q
  let⟨m2,z2⟩:=u.nt b _ z1;show⟨m1++m2,by rw[z2,Array.append_assoc]⟩
def i5:PassesOwn (model P w) (Hk P w K mg base N qual scope f cd A outer s H E).A (Hk P w K mg base N qual scope f cd A outer s H E).env (Hk P w K mg base N qual scope f cd A outer s H E).xe:=PassesOwn.leaving
end
def cJ.okX{K:W.Frag}{mg:KK}{base:Heap}{x qual:Str}{st:Stmt}{f:Addr}{fd:FuncData}{N ps:List Str}{k:Nat}{sp:Dq}(F:cJ K x qual st f fd)(S:Aq N ps (Ac st))(len:∀vs H Q E,sp vs H Q E→vs.length=ps.length)
  (nW:∀(cb:Value) (A:Around) (outer:List Env) (s:Shared) (H:A4) (vs:List V) (Q:An) (E:BD),dE k (A.deeper (envOfC qual (Ac st) s.heap.objs.size f cb))→sp vs H Q E→
   ∃t,mv (Hk P w K mg base N qual (Ac st) f cb A outer s H E) (FU st) t∧t {nx:=λ_ H'=>Q .non H',rt:=Q} (start N vs) H):bc P w K mg base (EU P w) (k+1) f fd ps sp:=by
 let⟨oc,od,Au,doc,pm,an,cb,ct,BS,rfl,lk,xj⟩:=F.ex;show iW lk xj S len λA outer s H vs Q E hr ya=>nW cb A outer s H vs Q E hr ya
abbrev Sj(P:Program)(w:World)(K:W.Frag)(mg:KK)(base:Heap)(x:Str)(k:Nat)(ps:List Str)(sp:Dq):Prop:=
 ∃f fd,bc P w K mg base (EU P w) k f fd ps sp∧mg x=some (.ref f)∧W.keepIn K (.ref f)=true∧Binds K fd ps []
def bj.got{H:A4}{a:Addr}{o:HO}(x:bj P w H h a o):∃u,h.get? a=some u:=by
 cases o with
 |lst xs=>let⟨_,⟨_,_,_,e⟩⟩:=x;show⟨_,e⟩
 |tup xs=>let⟨_,⟨_,_,⟨o,e,_⟩⟩⟩:=x;show⟨_,e⟩
 |dK aq=>let⟨_,_,⟨_,_,⟨o,_,_,e,_⟩⟩⟩:=x;show⟨_,e⟩
 |dT aq=>let⟨_,_,⟨_,_,⟨o,_,_,e,_⟩⟩⟩:=x;show⟨_,e⟩
 |set S n=>let⟨o,_,_,_,e,_⟩:=x;show⟨_,e⟩
 |ins C dx fs=>let⟨_,_,_,e,_⟩:=x;show⟨_,e⟩
 |own y=>show x
 |xd fs=>let⟨_,⟨_,_,_,e,_⟩,_⟩:=x;show⟨_,e⟩
 |rng lo hi=>let⟨_,_,_,e⟩:=x;show⟨_,e⟩
 |frz ob u=>let⟨e,_⟩:=x;show⟨_,e⟩
 |tbl ps=>show⟨_,(show h.get? a=some _ from x)⟩
 |met f y=>show⟨_,(show h.get? a=some _ from x)⟩
 |ext φ=>let⟨_,e,_⟩:=x;show e
section
variable {v0: List (Addr×Obj)}{σ: St}
@[reducible]def Cx.tr(X:Cx)(E':xz)(pn:ac):Cx:={X with xe:=E',pn:=pn}
@[reducible]def Cx.su(X:Cx)(x:Addr):Cx:={X with A:=X.A.mark (some (.ref x)),calm:=false,xe:=λ_ _=>False}
def Cx.Ok.tr(ok:X.Ok)(E':xz)(pn:ac):(X.tr E' pn).Ok:=
 ⟨ok.mod,ok.kind,ok.glob,ok.blt,ok.above,ok.inj,ok.has,ok.La,ok.hd,ok.frames,ok.LL,ok.Gy,ok.bs,ok.F9,ok.w6,ok.qD,ok.mr,ok.Gx⟩
def Cx.Ok.su(ok:X.Ok)(x:Addr):(X.su x).Ok:=
 ⟨ok.mod,ok.kind,ok.glob,ok.blt,ok.above,ok.inj,ok.has,ok.La,(λz=>absurd (show false=true from z) (by decide)),ok.frames,ok.LL,ok.Gy,ok.bs,ok.F9,ok.w6,ok.qD,ok.mr,ok.Gx⟩
def Inv.tr(I:Inv X v0 σ H s)(E':xz):Inv (X.tr E' (X.pn++v0)) [] σ H s:=
 ⟨I.ok.tr E' _,I.os,I.bare,I.base,I.loc,I.cell,I.free,I.iN,λp hp=>I.pin p (by simpa using hp),I.bC,I.len⟩
def Inv.C5{E':xz}{rM:ac}(ok:X.Ok)(I:Inv (X.tr E' (X.pn++v0)) rM σ H s):Inv X v0 σ H s:=
 ⟨ok,I.os,I.bare,I.base,I.loc,I.cell,I.free,I.iN,λp hp=>I.pin p (He _ hp),I.bC,I.len⟩
def Inv.su(I:Inv X v0 σ H s)(x:Addr):Inv (X.su x) v0 σ H s:=⟨I.ok.su x,I.os,I.bare,I.base,I.loc,I.cell,I.free,I.iN,I.pin,I.bC,I.len⟩
def Inv.GF{x:Addr}(ok:X.Ok)(I:Inv (X.su x) v0 σ H s):Inv X v0 σ H s:=⟨ok,I.os,I.bare,I.base,I.loc,I.cell,I.free,I.iN,I.pin,I.bC,I.len⟩
end
section
abbrev jL(X:Cx)(v0:ac)(D:Ends)(hs:List ExceptHandler):xz:=λe s₁=>
 wpAny (model X.prog X.w) X.A (noteFrame e X.env) (λ_ s₂=>wpAny (model X.prog X.w) X.A (setFlight e none) (λ_ s₃=>wpAny (model X.prog X.w) X.A (handleBy e X.env hs) (SP X v0 D) X.xe s₃) X.xe s₂) X.xe s₁
end
section
variable {k j: Nat}{ps: List Str}{sp: Dq}{p: Pos}{e: Expr}{es: List Expr}{W: St→BD}
abbrev abD(sp:Dq)(W:St→BD)(t:CM):AQ:=λσ H Q=>t σ H λvs H1=>sp vs H1 Q (W σ)
abbrev TM(X:Cx)(W:St→BD):Prop:=∀(v0:ac) (σ:St) (H:A4) (s:Shared) (e:Value) (s':Shared),Inv X v0 σ H s→EU X.prog X.w X.stack H s (W σ) e s'→X.xe e s'
def rT(c:Sj X.prog X.w X.K X.mg X.base x k ps sp)(hr:dE j X.A)(hk:k≤j)(hg:Bk X x)(hx:TM X W)(ha:PA X (e::es) t)(qC:(x ==("__debug__" : Str))=false:=by decide)
  (he:starEach (e::es) X.env=(false,eval e X.env)::starEach es X.env:=by rfl) (i7:(backTo pos (starEach es X.env)).any (·.1)=false:=by rfl):PE X (.Call (.Name x p) (e::es) [] pos) (abD sp W t):=by
 show .mk ?_;let⟨f,fd,F,m,kp,b⟩:=c;intro v0 s σ H Q I h;show J3 (Ka I hg m ?_ qC);show LD (h₀:=X.base) I.ok.mod.KH kp (AF (ha pos v0 s σ H _ I h) λus s1 ξ=>Ξ23 ξ λvs H1 I1 r q=>⟨I1.nQ,?_⟩) he i7;let hl:us.length=ps.length:=by rw[←r.length];show F.len _ _ _ _ q
 let hb:=b s1 us I1.nQ (by rw[BN];show hl);rw[BN]at hb;show wpAny_call (MA (F.run X.A X.stack s1 H1 ⟨us,[]⟩ us vs Q (W σ) (hr.mono hk) I1.Oh hb r q) λr' s' hq=>?_);cases r' with
 |error e=>show hx v0 σ H1 s1 e s' I1 hq
 |ok fl=>
  cases fl with
  |ret u=>show I1.after hq
  |next=>show False.elim hq
  |brk=>show False.elim hq
  |cont=>show False.elim hq
end
section
variable {body pL: List Stmt}{b₀: Stmt}{y: Str}{zo: Pos}{Cy: Addr}{tb:(St→BD)→Be}{ts: Be}
abbrev Rx(K:W.Frag)(Cy:Addr)(ts:Be)(D:Ends):St→BD:=λσ C _ H'=>exmOne K C (.ref Cy)=some true∧ts D σ H'
abbrev abO(K:W.Frag)(Cy:Addr)(tb:(St→BD)→Be)(ts:Be):Be:=λD σ H=>tb (Rx K Cy ts D) D σ H
def aal{D:Ends}(ok:X.Ok)(x6:X.stack=X.env::X.outer)(IC:X.env.frame=some X.env.locals)(hy:Bk X y)(RZ:X.mg y=some (.ref Cy))
  (hs:∀x,mv (X.su x) (b₀::pL) ts) (hd:(y ==("__debug__" : Str))=false) {σ1:St}   {e:Value} {s2:Shared} (J1:Inv X v0 σ1 H1 s1) (We:EU X.prog X.w X.stack H1 s1 (Rx X.K Cy ts D σ1) e s2) :
  jL X v0 D [.ExceptHandler (some (.Name y np)) none (b₀::pL) zo] e s2:=by
 let⟨x,C,a0,H',B,rfl,os,bare,fl,bC,u,hm,hw⟩:=We;let Wa:X.A.frames=some (X.env::X.outer):=by rw[←x6];show ok.frames
 let YN:Heap.FlyingW B (X.env::X.outer) x C a0 s2.heap:=by rw[←x6];show fl
 let data:∀b∈Dj X.stack,∀o,s1.heap.get? b=some o→∀vs,o.data≠.fields vs:=λb hb o q=>by
  let⟨_,⟨o',pZ,NY⟩⟩:=J1.stack.mem hb;rw[q]at pZ;cases pZ;show NY
 let XY:∀h5:Heap,B.StaysIn h5→s2.heap.UpToSlots h5→Inv X v0 σ1 H' {s2 with heap:=h5}:=λh5 st AA=>by
  let u5:Um (Dj X.stack) H1 H' s1.heap B h5:=⟨u.keep,λb o q n' hb=>by
   let⟨sl,z⟩:=u.slot b o q n' hb;let⟨DU,z2⟩:=AA b _ z (have dd:=data b hb o q;λvs=>dd vs);show⟨DU,z2⟩,u.free,u.there,u.nq,u.m5,u.nt⟩
  show J1.K9 (s':={s2 with heap:=h5}) (ch:=[]) os (u5.un st J1.qL) (bC.kept st) bare (λb hb=>nomatch hb)
 let hxB:B.get? x=none:=YN.2.1;let Hx:H' x=none:=by
  cases q:H' x with
  |none=>rfl
  |some o=>
   let⟨z,hz⟩:=(bC x o q).got;rw[hxB]at hz;cases hz
 show wpAny_looks_onW Wa IC YN λh4 R7 Xf=>?_;show wpAny_landsW R7 λh5 Wz Xe=>?_;let I5:=XY h5 Wz.1 (Xf.trans Xe);let⟨ob,hob,T4⟩:=Wz.there;let LT:Looks (model X.prog X.w) h5 (typeOf (.ref x)) C:=by rw[←T4];show(Looks.ld hob).andThen .now
 show wpAny_handleBy_cons (codeAny_handlers_test (Ka (X:=X.su x) (I5.su x) hy RZ ?_ hd)) (by intro q;cases q);show(exm_one I5.nQ LT hm).here ?_;show codeAny_handlers_suite ?_;show lands_againW Wz λh6 fl6 ZG=>?_;let I6:=XY h6 fl6.1 ((Xf.trans Xe).trans ZG);show BV ((hs x).run v0 {s2 with heap:=h6} _ _ _ (I6.su x) hw) (λf s8 q=>?_) (λ_ _ z=>z.elim);cases f with
 |next=>obtain⟨σ2,H2,I8,q⟩:=q;show Ψ2 _ _ ⟨Inv.GF ok I8,q⟩
 |brk=>obtain⟨σ2,H2,I8,q⟩:=q;show Ψ2 _ _ ⟨Inv.GF ok I8,q⟩
 |cont=>obtain⟨σ2,H2,I8,q⟩:=q;show Ψ2 _ _ ⟨Inv.GF ok I8,q⟩
 |ret v=>obtain⟨v',σ2,H2,I8,r,q⟩:=q;show Ψ3 v' _ _ ⟨Inv.GF ok I8,r,q⟩
def eqT(x6:X.stack=X.env::X.outer)(IC:X.env.frame=some X.env.locals)(hy:Bk X y)(RZ:X.mg y=some (.ref Cy))
  (hb:∀(E':xz) (pn:ac) (W:St→BD),(∀v0 σ H s e s',Inv (X.tr E' pn) v0 σ H s→EU X.prog X.w X.stack H s (W σ) e s'→E' e s')→mv (X.tr E' pn) body (tb W))
  (hs:∀x,mv (X.su x) (b₀::pL) ts) (hd:(y ==("__debug__" : Str))=false:=by decide) :
  PS X (.Try body [.ExceptHandler (some (.Name y np)) none (b₀::pL) zo] [] [] pos) (abO X.K Cy tb ts):=by
 show .mk ?_;intro v0 s σ H D I h;let ok:=I.ok;show wpAny_Try_except ?_;let fin:=(hb (jL X v0 D [.ExceptHandler (some (.Name y np)) none (b₀::pL) zo]) (X.pn++v0) (Rx X.K Cy ts D) (λrM σ1 H1 s1 e s2 J We=>aal ok x6 IC hy RZ hs hd (Inv.C5 ok J) We)).run [] s σ H D (I.tr _) h;show BV fin (λf s1 q=>?_) λe s1 q=>q;cases f with
 |next=>
  obtain⟨σ',H',I',q⟩:=q;show PM ⟨σ',H',Inv.C5 ok I',q⟩
 |brk=>obtain⟨σ',H',I',q⟩:=q;show Ψ2 σ' H' ⟨Inv.C5 ok I',q⟩
 |cont=>obtain⟨σ',H',I',q⟩:=q;show Ψ2 σ' H' ⟨Inv.C5 ok I',q⟩
 |ret v=>obtain⟨v',σ',H',I',r,q⟩:=q;show Ψ3 v' σ' H' ⟨Inv.C5 ok I',r,q⟩
end
end L2
namespace L2
open PySem PySem.Spec PyProof.Rows
variable {i t':Nat}{j t a u z p j1 j2 u1 u2:Addr}{pos:Pos}{bs:List Bool}{s:Shared}{prog P:Program}{w:World}{A:Around}{E Q:xz}{ss:List Str}{ch:List Addr}{K:W.Frag}{vs ws:Array Value}{b:Value}{X: Cx}
section
abbrev uA(i j:Int):Prop:=0<j∧j<2^200
def uA.Vn{i j:Int}(h:uA i j):Builtin.divisionGoesByPylong i j=false:=by
 show PyProof.noPylong_of_log2 ?_;let h1:j.natAbs<2^200:=by have:=h.1;have:=h.2;lia
 let h2:j.natAbs≠0:=by have:=h.1;lia
 have:=(Nat.log2_lt h2).mpr h1;lia
def xn:iS X (binaryOp .FloorDiv) (JS uA λi j=>.int (i/j)):=MB λi j _ _ _ _ _ hc q=>by
 let h1:(0:Int)<j:=hc.1;show floordiv_int (by lia) (by rw[Int.fdiv_eq_ediv_of_nonneg i (by lia)];show q) (.inl hc.Vn)
abbrev cD(X:Cx)(r:V→A4→An→Prop):Prop:=
 ∀v0 s σ H (x:V) (v vs:Value) (sl:Addr) (Q:An),Inv X v0 σ H s→RelV x v→s.heap.IsSliceOf sl .none .none vs→IsPart vs (some (-1))→r x H Q→
  ∃T id,typeLookup (.type T) "__getitem__" = pure (some (.builtin id))∧s.TypeIs v T∧wpAny (model X.prog X.w) X.A (getItem v (.ref sl)) (BX X v0 σ Q) X.xe s
def abB{r:V→A4→An→Prop}{e st:Expr}{te ts:AQ}{p2:Pos}(hr:cD X r)(he:PE X e te)(hs:PE X st ts):
  PE X (.Subscript e (.Slice none none (some st) p2) pos) (λσ H Q=>te σ H λx H1=>ts σ H1 λy H2=>y=.int (-1)∧r x H2 Q):=by
 show .mk ?_;intro v0 s σ H Q I h;show Subscript_ (AF (he v0 s σ H _ I h) λv s1 ξ=>Ξ23 ξ λx H1 I1 r1 q1=>?_);show wpAny_Slice ?_;rw[evalPart_none];show AL ?_;show AL ?_;rw[evalPart_some];show AF (hs v0 s1 σ H1 _ I1 q1) λvs s2 ξ=>Ξ23 ξ λy H2 I2 r2 q2=>?_;let⟨rfl,q3⟩:=q2;let⟨t,rfl⟩:=r2;let I4:Inv X v0 σ H2 {s2 with heap:=s2.heap.push {cls:=.type "slice",data:=.fields #[.none,.none,.int (-1) t]}}:=I2.kept (t':=s2.toks) λb ob q=>Aw _ q;let⟨T,id,hT,ht,hg⟩:=hr v0 {s2 with heap:=s2.heap.push {cls:=.type "slice",data:=.fields #[.none,.none,.int (-1) t]}} σ H2 x v _ s2.heap.objs.size Q I4 r1 (Heap.IsSliceOf.new ..) (.int (-1) t) q3;show wpAny (model X.prog X.w) X.A (subscriptTail e (.Slice none none (some st) p2) v (.ref s2.heap.objs.size)) (BX X v0 σ Q) X.xe {s2 with heap:=s2.heap.push {cls:=.type "slice",data:=.fields #[.none,.none,.int (-1) t]}}
 show tail_any (ops:=[v,.ref s2.heap.objs.size]) ht hT hg (by with_unfolding_all rfl)
def Xm:∀{us:List Value},Vals (bs.map V.bl) us→us=bs.map Value.bool:=by
 induction bs with
 |nil=>intro us r;rw[Hs]at r;cases r;rfl
 |cons n ns ih=>
  intro us r;rw[BU]at r;cases r with
  |cons r1 r2=>
   rw[ih r2];cases r1;rfl
def range_all:(List.range bs.length).all (λi=>bs.getD i true)=bs.all id:=by
 rw[GG,aa2,aa2];constructor
 ·intro h b hb
  obtain⟨i,hi,rfl⟩:=List.getElem_of_mem hb;have:=h i (abM.mpr hi);simpa[List.getD,Bh hi]using this
 ·intro h i hi
  let IA:=abM.mp hi;have:=h bs[i] (G3 IA);simpa[List.getD,Bh IA]using this
def Zb{o₀:Obj}{h':Heap}(hk:∀b o,b∉[s.heap.objs.size]→(s.heap.push o₀).get? b=some o→h'.get? b=some o):∀b o,s.heap.get? b=some o→h'.get? b=some o:=λb o e=>by
 show hk b o (λhm=>?_) (Aw _ e);show absurd ((aaB.mp hm) ▸ B5 e) (GK _)
def qU(hc:X.calm=true):Eg X (.builtin "all") (λxs H Q=>∃(p:Addr) (bs:List Bool),xs=[.ref p]∧lI X.K H p (bs.map V.bl)∧Q (.bl (bs.all id)) H):=by
 intro v0 s σ H xs us Q I r h;let⟨p,bs,rfl,hq,q⟩:=h;let⟨u,rfl,ru⟩:=vals1 r;cases ru;let⟨bf,rv,pl,hz⟩:=I.list hq;let eb:=Xm rv;let hl:s.heap.IsList p bf.toArray:=pl.isList;let dB:p<s.heap.objs.size:=by let⟨_,e,_⟩:=hl;show B5 e
 show call_all_walk (QC hl ?_);show Ψ7 s.heap.objs.size _ _ _ _ _ (λi=>bs.getD i true) ⟨rfl,Walks.list (prog:=X.prog) (w:=X.w) (A:=X.A.in1) (I.ok.hd hc) s.heap.objs.size p (BB dB) bf.toArray,⟨⟨_,CW _ rfl,rfl,rfl⟩,hl.push _⟩,?_,?_⟩
 ·intro i v s' Q' E' hP hQ
  let e:v=.bool (bs.getD i true):=by
   rw[eb]at hP;simp only[OM,FK,abX]at hP;let⟨b,hb,rfl⟩:=hP;simp[List.getD,hb]
  rw[e];show HE hQ
 ·intro h' tk hk
  show Ψ2 (.bl (bs.all id)) H ⟨I.kept (Zb hk),?_,q⟩;let e2:bf.toArray.size=bs.length:=by rw[eb];simp
  rw[e2,range_all];rfl
def Vals.at{xs:List V}{us:List Value}(r:Vals xs us):∀{j:Nat} (h:j<us.length),RelV (xs.getD j .non) us[j]:=by
 induction r with
 |nil=>intro j h;show absurd h (MO _)
 |cons r1 r2 ih=>
  intro j h;cases j with
  |zero=>show r1
  |succ j=>show ih (Nat.lt_of_succ_lt_succ h)
def tX{sl:Addr}{items:Array Value}{vl vu:Value}{lo hi:Option Int}(ht:IsTup s.heap t items)(hs:s.heap.IsSliceOf sl vl vu .none)(pl:IsPart vl lo)(pu:IsPart vu hi)
  (h0:HT.cV items.size 0 lo=0) (h1:HT.cV items.size items.size hi=items.size) (h:Q (.ref t) s):wpAny (model prog w) A (getItem (.ref t) (.ref sl)) Q E s:=by
 let⟨os,NM,O0,NX⟩:=id hs;let Wl:s.TypeIs (.ref sl) "slice" :=⟨os,NM,O0⟩;unfold getItem
 try with_reducible refine Ep ?_
 first|refine A6 (AL ?_)|skip
 show A6 (wpAny_sequenceKey ht.typeIs (by decide) ?_);show A6 (IW (name:=Str.ofString "__getitem__") ht.typeIs abf
  (HP abf ht.typeIs entry_tuple_getitem ?_ (args_tuple_getitem _ _)))
 show wpAny _ _ (Builtin.Tuple.tupleItemsOf (.ref t) >>= _) _ _ s
 show A6 (tupleItemsOf_ ht ?_);show A6 (Ju Wl ?_);rw[Ab (by decide)];show A6 (HT.jj hs pl pu ?_);let VP:((((HT.cV items.size 0 lo:Nat):Int)==0&&(1:Int)==1&&(HT.cV items.size items.size hi-HT.cV items.size 0 lo)==items.size)=true):=by
  rw[h0,h1];simp
 show wpAny _ _ (if(((HT.cV items.size 0 lo:Nat):Int)==0&&(1:Int)==1&&(HT.cV items.size items.size hi-HT.cV items.size 0 lo)==items.size)=true then _ else _) _ _ s
 rw[Ab VP];unfold Builtin.Tuple.tupleIsExact;show A6 (A6 (Ju ht.typeIs ?_));show AL ?_;rw[Ab (by decide)];show A6 (JM ?_);show AL ⟨_,rfl,AL h⟩
abbrev uz(K:W.Frag):V→Option Int→Option Int→A4→An→Prop:=λx lo hi H Q=>∃a xs,x=.ref a∧dG K H a xs∧
 ((HT.cV xs.length 0 lo=0∧HT.cV xs.length xs.length hi=xs.length)→Q (.ref a) H)∧(¬(HT.cV xs.length 0 lo=0∧HT.cV xs.length xs.length hi=xs.length)→∀p,H p=none→Q (.ref p) (AI H p (.tup (FV xs lo hi))))
def acq:Jj X (uz X.K):=by
 intro v0 s σ H x v vl vu lo hi sl Q I rx hs pl pu h;let⟨a,xs,rfl,hx,q1,q2⟩:=h;by_cases hw:HT.cV xs.length 0 lo=0∧HT.cV xs.length xs.length hi=xs.length
 ·cases rx
  let⟨bf,r,ht,hz⟩:=I.tuple hx;let hlen:bf.toArray.size=xs.length:=by rw[BW];show r.length.symm
  show Ψ2 ("tuple") _ ⟨abf.lookup,ht.typeIs,?_⟩;show tX ht hs pl pu (by rw[hlen];show hw.1) (by rw[hlen];show hw.2) ⟨.ref a,H,I,rfl,q1 hw⟩
 ·show Key v0 s σ H _ v vl vu lo hi sl Q I rx hs pl pu ⟨a,xs,rfl,hx,hw,q2 hw⟩
end
section
def range_any:(List.range bs.length).any (λi=>bs.getD i true)=bs.any id:=by
 rw[GG,abp,abp];constructor
 ·intro⟨i,hi,h⟩
  let IA:=abM.mp hi;show⟨bs[i],G3 IA,?_⟩;simpa[List.getD,Bh IA]using h
 ·intro⟨b,hb,h⟩
  obtain⟨i,hi,rfl⟩:=List.getElem_of_mem hb;show⟨i,abM.mpr hi,?_⟩;simpa[List.getD,Bh hi]using h
def wL(hc:X.calm=true):Eg X (.builtin "any") (λxs H Q=>∃(p:Addr) (bs:List Bool),xs=[.ref p]∧lI X.K H p (bs.map V.bl)∧Q (.bl (bs.any id)) H):=by
 intro v0 s σ H xs us Q I r h;let⟨p,bs,rfl,hq,q⟩:=h;let⟨u,rfl,ru⟩:=vals1 r;cases ru;let⟨bf,rv,pl,hz⟩:=I.list hq;let eb:=Xm rv;let hl:s.heap.IsList p bf.toArray:=pl.isList;let dB:p<s.heap.objs.size:=by let⟨_,e,_⟩:=hl;show B5 e
 show call_any_walk (QC hl ?_);show Ψ7 s.heap.objs.size _ _ _ _ _ (λi=>bs.getD i true) ⟨rfl,Walks.list (prog:=X.prog) (w:=X.w) (A:=X.A.in1) (I.ok.hd hc) s.heap.objs.size p (BB dB) bf.toArray,⟨⟨_,CW _ rfl,rfl,rfl⟩,hl.push _⟩,?_,?_⟩
 ·intro i v s' Q' E' hP hQ
  let e:v=.bool (bs.getD i true):=by
   rw[eb]at hP;simp only[OM,FK,abX]at hP;let⟨b,hb,rfl⟩:=hP;simp[List.getD,hb]
  rw[e];show HE hQ
 ·intro h' tk hk
  show Ψ2 (.bl (bs.any id)) H ⟨I.kept (Zb hk),?_,q⟩;let e2:bf.toArray.size=bs.length:=by rw[eb];simp
  rw[e2,range_any];rfl
abbrev acN:DY:=λx y H Q=>∃a b xs ys,x=.ref a∧y=.ref b∧H a=some (.tup xs)∧H b=some (.tup ys)∧xs.length+ys.length≤sizeLine∧∀c H',Kp [] H H'→H' c=some (.tup (xs++ys))→Q (.ref c) H'
def yb:iS X (binaryOp .Add) acN:=by
 intro v0 s σ H x y v u Q I rx ry h;let⟨a,b,xs,ys,rfl,rfl,ha,hb,hz,q⟩:=h;by_cases e:xs=[]
 ·subst e
  cases rx;cases ry;let⟨bf,r1,p1,z1⟩:=I.tuple (dG.of (K:=X.K) ha);let⟨ku,r2,p2,z2⟩:=I.tuple (dG.of (K:=X.K) hb);cases r1;obtain⟨⟨cls,dd,data,sl⟩,ho,hc,n,hd⟩:=id p1;obtain⟨⟨SU,Pb,data2,DU⟩,CA,KQ,n2,hd2⟩:=id p2;simp only at hc hd KQ hd2;subst hc hd KQ hd2;show NG ⟨_,ho,rfl⟩ ⟨_,CA,rfl⟩ S7 seq_tuple_add Ux S8 (Qm _ _)
   (tuple_addW0 a b [].toArray ku.toArray n n2 dd Pb sl DU rfl) ⟨ho,CA,Ψ2 (.ref b) H ⟨I,rfl,q b H (Kp.refl _) hb⟩⟩
 ·show yp v0 s σ H _ _ v u Q I rx ry ⟨a,b,xs,ys,rfl,rfl,dG.of ha,dG.of hb,e,hz,λz=>by subst z;show q a H (Kp.refl _) (by rw[BN];show ha),λ_ p hp=>q p _ (Kp.new hp _) B9⟩
abbrev xD:V→Option Int→Option Int→A4→An→Prop:=λx lo hi H Q=>∃a xs,x=.ref a∧H a=some (.tup xs)∧∀c H',Kp [] H H'→H' c=some (.tup (FV xs lo hi))→Q (.ref c) H'
def uv:Jj X xD:=by
 intro v0 s σ H x v vl vu lo hi sl Q I rx hs pl pu h;let⟨a,xs,rfl,ha,q⟩:=h;show acq v0 s σ H _ v vl vu lo hi sl Q I rx hs pl pu ⟨a,xs,rfl,dG.of ha,λz=>q a H (Kp.refl _) ?_,λ_ p hp=>q p _ (Kp.new hp _) B9⟩;unfold FV;rw[z.1,z.2,Ry,Nat.sub_zero,List.take_length];show ha
abbrev uo:AQ:=λ_ H Q=>∀p,H p=none→Q (.ref p) (AI H p (.dK []))
def ach:PE X (.Dict [] [] pos) uo:=by
 show .mk ?_;intro v0 s σ H Q I h;show wpAny_Dict_empty ⟨.ref s.heap.objs.size,_,I.laid (a:=s.heap.objs.size) (o:=.dK []) (t':=s.toks) (λ_ _ q=>Aw _ q) (Ah _) ?_,rfl,h _ (I.bC.fresh (Ah _))⟩;let hb:sysModules<s.heap.objs.size:=Nat.lt_trans (by decide) (I.mod.glob.keeps I.bk).lt;show⟨EY _,aa5.mpr λz=>BB hb z.symm,[],.nil,Heap.DictOf.new s.heap⟩
def oU:∀{us:List Value},Vals (ss.map V.str) us→∃l:List (Str×Tok),us=strValues l∧l.map (·.1)=ss:=by
 induction ss with
 |nil=>intro us r;rw[Hs]at r;cases r;show⟨[],rfl,rfl⟩
 |cons x r ih=>
  intro us rv;rw[BU]at rv;cases rv with
  |cons r1 r2=>
   let⟨t,rfl⟩:=r1;let⟨l,rfl,e⟩:=ih r2;show⟨(x,t)::l,rfl,by rw[BU,e]⟩
abbrev Ie(ss:List Str):Str:=⟨(ss.map (·.cps.toList)).flatten.toArray⟩
def ja:∀(ss:List Str) (x:Array Nat),ss.foldl (λacc (p:Str)=>acc++(Str.empty).cps++p.cps) x=(x.toList++(ss.map (·.cps.toList)).flatten).toArray
 |[],x=>by simp
 |y::r,x=>by
  rw[List.foldl_cons,ja r];simp[Str.empty,Array.toList_append,GV]
def abP:∀ss:List Str,Builtin.Str.glued Str.empty ss=Ie ss
 |[]=>rfl
 |y::r=>by
  show(⟨r.foldl (λacc (p:Str)=>acc++(Str.empty).cps++p.cps) y.cps⟩:Str)=_
  rw[ja];rfl
def Zt(sep:Nat):∀(ss:List Str) (n B:Nat),(∀y∈ss,y.length≤B)→ss.foldl (λa (p:Str)=>a+p.length+sep) n≤n+ss.length*(B+sep)
 |[],n,B,_=>by simp
 |y::r,n,B,h=>by
  rw[List.foldl_cons];let h1:=Zt sep r (n+y.length+sep) B λz hz=>h z (DT _ hz);let h2:=h y JZ;rw[CF,Nat.succ_mul];lia
def WJ{α:Type}(B:Nat):∀ls:List (List α),(∀l∈ls,l.length≤B)→ls.flatten.length≤ls.length*B
 |[],_=>by simp
 |l::r,h=>by
  rw[List.flatten_cons,BO,CF,Nat.succ_mul];let h1:=WJ B r λz hz=>h z (DT _ hz);let h2:=h l JZ;lia
def nU{B:Nat}(h:∀y∈ss,y.length≤B):(Ie ss).length≤ss.length*B:=by
 show(ss.map (·.cps.toList)).flatten.toArray.size≤_
 rw[BW];have:=WJ B (ss.map (·.cps.toList)) λl hl=>by
  let⟨y,hy,rfl⟩:=aam.mp hl;rw[Hy];show h y hy
 rwa[AM]at this
def yR:J8 X "str.join" (λx vs H Q=>∃(p:Addr) (ss:List Str),x=.str Str.empty∧vs=[.ref p]∧lI X.K H p (ss.map V.str)∧ss.length≤1000∧(∀y∈ss,y.length≤1000)∧Q (.str (Ie ss)) H):=by
 intro v0 s σ H x vs v us Q I rx rv h;let⟨p,ss,rfl,rfl,hq,l1,l2,q⟩:=h;let⟨t,rfl⟩:=rx;let⟨u,rfl,ru⟩:=rv.one;cases ru;let⟨bf,r,pl,hz⟩:=I.list hq;let⟨l,rfl,rfl⟩:=oU r;let hs:(1000*1000:Nat)≤sizeLine:=by decide
 let hlen:(l.map (·.1)).foldl (λa (p:Str)=>a+p.length+(Str.empty).length) 0≤1000*1000:=by
  let h1:=Zt (Str.empty).length (l.map (·.1)) 0 1000 l2;let h2:(Str.empty).length=0:=rfl;rw[h2]at h1 ⊢;let h3:(l.map (·.1)).length*(1000+0)≤1000*1000:=Nat.mul_le_mul l1 (by lia);lia
 let hl:Builtin.Str.tooLong ((l.map (·.1)).toArray.foldl (· + ·.length+(Str.empty).length) 0)=false:=by
  unfold Builtin.Str.tooLong;rw[List.foldl_toArray];show DN (by lia)
 show call_meets F.slot_str_join (MQ s _ t) F.entry_str_join (F.args_str_join_2 _ _) (meets_str_join_list Str.empty t p l hl) ⟨pl.isList,?_⟩;let fin:∀z:Str,z=Ie (l.map (·.1))→Q (.str z) H:=λz e=>by rw[e];show q
 match l,abP (l.map (·.1)),fin,l1,l2 with
 |[],_,fin,_,_=>show⟨by decide,.str Str.empty,H,I.tok _,⟨_,rfl⟩,fin _ rfl⟩
 |[y],_,fin,_,_=>show Ψ2 (.str y.1) H ⟨I,⟨y.2,rfl⟩,fin _ (by simp[Ie])⟩
 |y::z::r,e,fin,l1,l2=>
  show⟨?_,.str (Builtin.Str.glued Str.empty ((y::z::r).map (·.1))),H,I.tok _,⟨_,rfl⟩,fin _ e⟩;show(Builtin.Str.glued Str.empty ((y::z::r).map (·.1))).length≤sizeLine
  rw[e];let h1:=nU (B:=1000) l2;let h2:((y::z::r).map (·.1)).length*1000≤1000*1000:=Nat.mul_le_mul l1 (Ah _);lia
end
section
variable {v0: List (Addr×Obj)}{σ: St}{H: A4}{s: Shared}{h': Heap}
def Inv.t5{o:HO}(I:Inv X v0 σ H s)(k:∀b u,b∉ch→s.heap.get? b=some u→h'.get? b=some u)(hf:∀b∈ch,DO X v0 H b)(ha:s.heap.objs.size≤a)
  (new:bj X.prog X.w (AI H a o) h' a o):Inv X v0 σ (AI H a o) {s with heap:=h',toks:=t'}:=by
 let hn:H a=none:=I.bC.fresh ha;let E5:∀b u,H b=some u→b∉ch:=λb u e z=>by rw[(hf b z).1]at e;cases e
 show I.step (g':=s.gens) (d':=s.drawn) (ch:=ch) (λb hb=>?_) (λb o _ _ hc e _=>k b o hc e) (λb o _ _ hc e _=>⟨o.slots,k b o hc e⟩) (λb o _ e n=>?_)
  (λb o hc e=>⟨o,k b o hc e⟩) (λb xs e=>by rw[Ay (Fe e hn)];show e) (λb u v e=>by rw[Ay (Fe e hn)];show e) (λb ps e=>⟨#[],by rw[Ay (Fe e hn),e];simp⟩) (λm hm=>?_) (λb u e=>?_) I.bare
 ·let⟨f0,f1,f2,f3,f4,f5⟩:=hf b hb
  show⟨f3,f1,f4,f5⟩
 ·rw[Ay (BB (EF (B5 e) ha))]
  show n
 ·let⟨o,es,ep,ho,r⟩:=hm
  show Ψ3 o es ep ⟨k _ o (λz=>(hf _ z).2.1 rfl) ho,r⟩
 ·by_cases hb:b=a
  ·subst hb;rw[B9]at e;cases e;show new
  ·rw[Ay hb]at e
   show(I.bC b u e).tE (λc v hc q=>k c v ?_ q) (λc q=>by rw[Ay (Fe q hn)];show q) λc xs q=>by rw[Ay (Fe q hn)];show q
   rcases hc with z|z
   ·rw[z];show E5 b u e
   ·show E5 c _ z
def Inv.Bz(I:Inv X v0 σ H s)(k:∀b u,b∉ch→s.heap.get? b=some u→h'.get? b=some u)(hf:∀b∈ch,DO X v0 H b):Inv X v0 σ H {s with heap:=h',toks:=t'}:=by
 let E5:∀b u,H b=some u→b∉ch:=λb u e z=>by rw[(hf b z).1]at e;cases e
 show I.step (g':=s.gens) (d':=s.drawn) (ch:=ch) (λb hb=>?_) (λb o _ _ hc e _=>k b o hc e) (λb o _ _ hc e _=>⟨o.slots,k b o hc e⟩) (λb o _ e n=>n)
  (λb o hc e=>⟨o,k b o hc e⟩) (λb xs e=>e) (λb u v e=>e) (λb ps e=>⟨#[],by rw[e];simp⟩) (λm hm=>?_) (λb u e=>?_) I.bare
 ·let⟨f0,f1,f2,f3,f4,f5⟩:=hf b hb
  show⟨f3,f1,f4,f5⟩
 ·let⟨o,es,ep,ho,r⟩:=hm
  show Ψ3 o es ep ⟨k _ o (λz=>(hf _ z).2.1 rfl) ho,r⟩
 ·show(I.bC b u e).tE (λc v hc q=>k c v ?_ q) (λ_ q=>q) λ_ _ q=>q
  rcases hc with z|z
  ·rw[z];show E5 b u e
  ·show E5 c _ z
end
abbrev eR(c:Nat):V:=.str ⟨#[c]⟩
abbrev NF(x:Str):Ef:=⟨λi _=>i<x.cps.size,λi H v H'=>H'=H∧∃c,x.cps[i]?=some c∧v=eR c,λi _=>x.cps.size≤i⟩
def vk{tg:Expr}(it:Addr)(x:Str)(t:Tok)(ty:String)(AV:ty = "str_ascii_iterator" ∨ ty = "str_iterator"):Turn P w K tg (NF x) [it] it (λi h=>h.IsStrIter it ty x t i) where
 mem:=by simp
 obj:=λi h st b hb=>by
  let e:b=it:=by simpa using hb
  subst e;let⟨o,e,c,d⟩:=st;show⟨o,e,λv z=>by rw[d]at z;cases z⟩
 keep:=λi h h' st k=>by
  let⟨o,e,r⟩:=st;show⟨o,k it (by simp) o e,r⟩
 item:=by
  intro X hP hw hK hc i v0 s σ H E I hf st hg;subst hP hw hK;let⟨f0,f1,f2,f3,f4,f5⟩:=hf it (by simp);let key:∀v h' tk,SignAt x i v→h'.IsStrIter it ty x t (i+1)→(∀b o,b∉[it]→s.heap.get? b=some o→h'.get? b=some o)→∃u,some v=some u∧
    wpAny (model X.prog X.w) X.A (letOwnedTupleGo tg (.ref it) u) (λ_ s2=>∃y H',Inv X v0 σ H' s2∧RelV y u∧(NF x).qI i H y H'∧s2.heap.IsStrIter it ty x t (i+1)∧∀b∈[it],H' b=none) E {s with heap:=h',toks:=tk}:=by
   intro v h' tk hv Ai kk;let⟨c,u,Gu,rfl⟩:=hv;let I1:Inv X v0 σ H {s with heap:=h',toks:=tk}:=I.turned (λb o hb e=>kk b o (by simpa using hb) e) f0 f1 f3 f4 f5;let⟨o,e,ec,ed⟩:=id Ai;show⟨_,rfl,Lr (s:={s with heap:=h',toks:=tk}) e ec ed (by rcases AV with rfl|rfl<;>decide) ⟨eR c,H,I1,⟨u,rfl⟩,⟨rfl,c,Gu,rfl⟩,Ai,λb hb=>(hf b hb).1⟩⟩
  rcases AV with rfl|rfl
  ·show(Walks.strAscii (prog:=X.prog) (w:=X.w) (I.ok.hd hc) it x t).item i s _ _ hg st key
  ·show(Walks.strWide (prog:=X.prog) (w:=X.w) (I.ok.hd hc) it x t).item i s _ _ hg st key
 done:=by
  intro X hP hw hK hc i v0 s σ H E I hf st hg;subst hP hw hK;let⟨f0,f1,f2,f3,f4,f5⟩:=hf it (by simp);let hx:x.cps[i]?=none:=Array.getElem?_eq_none hg;rcases AV with rfl|rfl
  ·show wpAny_pyNext_ascii_end (I.ok.hd hc) st hx λh' eb=>⟨rfl,I.turned (t':=s.toks) (λb o hb e=>eb b o hb e) f0 f1 f3 f4 f5⟩
  ·show wpAny_pyNext_wide_end (I.ok.hd hc) st hx λh' eb=>⟨rfl,I.turned (t':=s.toks) (λb o hb e=>eb b o hb e) f0 f1 f3 f4 f5⟩
 self:=λ_ _ _ _ _ st h=>by
  rcases AV with rfl|rfl
  ·show wpAny_pyIter_striter_ascii st h
  ·show wpAny_pyIter_striter_wide st h
section
variable {tg: Expr}
abbrev vK(tl:AQ):DI:=λσ H R=>tl σ H λx H1=>∃z,x=.str z∧R (NF z) H1
def aae{l:Expr}{tl:AQ}(hl:PE X l tl):PI X tg l (vK tl):=by
 show .mk ?_;intro v0 s σ H R I h;show AF (hl v0 s σ H _ I h) λv s1 ξ=>Ξ23 ξ λx H1 I1 r1 q1=>?_;let⟨z,e,q⟩:=q1;subst e;let⟨t,rfl⟩:=r1;let fin:∀ty:String,(ty = "str_ascii_iterator" ∨ ty = "str_iterator")→OB X v0 σ tg R (.ref s1.heap.objs.size) {s1 with heap:=s1.heap.push {cls:=.type ty,data:=.fields #[.str z t,.int 0 0]}}:=by
  intro ty AV;show Ψ5 s1.heap.objs.size [s1.heap.objs.size] _ _ H1 ⟨rfl,I1.kept (t':=s1.toks) λb o e=>Aw _ e,vk s1.heap.objs.size z t ty AV,⟨_,CW _ rfl,rfl,rfl⟩,λb hb=>?_,q⟩;let e:b=s1.heap.objs.size:=by simpa using hb
  subst e;show I1.xt (Ah _) (I1.bC.fresh (Ah _))
 cases ha:z.cps.all (· < 128)
 ·show wpAny_pyIter_wide ha (fin _ (.inr rfl))
 ·show wpAny_pyIter_ascii ha (fin _ (.inl rfl))
end
section
variable {prog: Program}{w: World}{A: Around}{E: Value→Shared→Prop}{s: Shared}
def OR{v:Value}(hj:s.heap.IsTupleIter j u i)(hu:s.heap.IsTuple u vs)(hv:vs[i]?=some v)
  (q:∀h',h'.IsTupleIter j u (i+1)→Heap.SameBut j s.heap h'→Q v {s with heap:=h'}):wpAny (model prog w) A (Builtin.SmallTypes.nextOf (.ref j)) Q E s:=by
 let⟨ob,b1,b2,b3⟩:=id hj;let⟨ou,c1,_,⟨nu,c3⟩⟩:=hu;unfold Builtin.SmallTypes.nextOf;show A6 (IW (name:=Str.ofString "__next__") hj.typeIs OD (HP OD hj.typeIs F.entry_tuple_iterator_next ?_ (F.args_tuple_iterator_next_1 _)));show wpAny _ _ (field (.ref j) 0 >>= _) _ _ s
 show A6 (F1 b1 b3 (x:=.ref u) rfl ?_);show wpAny _ _ (if(Value.ref u==Value.none)=true then _ else _) _ _ s
 rw[AP (show ¬((Value.ref u==Value.none)=true)from Bs)];show wpAny _ _ (field (.ref j) 1 >>= _) _ _ s
 show A6 (F1 b1 b3 (x:=.int i 0) rfl ?_);show wpAny _ _ (seqItems? (.ref u) >>= _) _ _ s
 show A6 (GY c1 c3 ?_);simp only[Mj,hv];show A6 (Ms b1 b3 (by simp) (AL ⟨v,rfl,AL (q _ ?_ (M9 ..))⟩));show⟨_,JJ _ b1 (Obj.isFreed_of_fields (Mz b3 _)),(Obj.cls_mapFields ..).trans b2,by rw[Mz b3];simp[rawInt]⟩
def SM(hh:A.handled=none)(hj:s.heap.IsTupleIter j u i)(hu:s.heap.IsTuple u vs)(hv:vs[i]?=none)
  (q:∀h' e,Heap.ExtBut j s.heap h'→(∃o,h'.get? e=some o∧o.cls=.type "StopIteration")→E (.ref e) {s with heap:=h'}):wpAny (model prog w) A (Builtin.SmallTypes.nextOf (.ref j)) Q E s:=by
 let⟨ob,b1,b2,b3⟩:=id hj;let⟨ou,c1,_,⟨nu,c3⟩⟩:=hu;unfold Builtin.SmallTypes.nextOf;show A6 (IW (name:=Str.ofString "__next__") hj.typeIs OD (HP OD hj.typeIs F.entry_tuple_iterator_next ?_ (F.args_tuple_iterator_next_1 _)));show wpAny _ _ (field (.ref j) 0 >>= _) _ _ s
 show A6 (F1 b1 b3 (x:=.ref u) rfl ?_);show wpAny _ _ (if(Value.ref u==Value.none)=true then _ else _) _ _ s
 rw[AP (show ¬((Value.ref u==Value.none)=true)from Bs)];show wpAny _ _ (field (.ref j) 1 >>= _) _ _ s
 show A6 (F1 b1 b3 (x:=.int i 0) rfl ?_);show wpAny _ _ (seqItems? (.ref u) >>= _) _ _ s
 show A6 (GY c1 c3 ?_);simp only[Mj,hv];show A6 (JM (A6 (Ms b1 b3 (by simp) ?_)));show wpAny _ _ (newExc (.type "StopIteration") [] >>= _) _ _ _
 show A6 ?_;simp only[newExc,newTuple];show A6 (Fy ?_ (by show 0≤sizeLine;show EY _));show A6 (m:=firstArgMember _ _) (wpAny_of_eq (a:=Value.none) (by first|rfl|(simp only[firstArgMember]<;>rfl)) ?_)
 show Fy ?_ (by size_fits);simp only[raiseNew];show A6 (wpAny_handled ?_);first|rw[show A.in1.handled=none from hh]|rw[hh]
 show A6 (AL (wpAny_throw ?_));show q _ _ (((M9 ..).extBut.push _).push _) ⟨_,CW _ rfl,rfl⟩
structure Apart(z p r j1 j2 u1 u2:Addr):Prop where
 pz:p≠z
 rz:r≠z
 KJ:j1≠z
 OW:j2≠z
 pr:p≠r
 pj1:p≠j1
 pj2:p≠j2
 Tz:r≠j1
 Tx:r≠j2
 VF:j1≠j2
 UA:u1≠z
 u1r:u1≠r
 ZK:u1≠j1
 ZJ:u1≠j2
 Xg:u2≠z
 Xh:u2≠r
 Pp:u2≠j1
 ZI:u2≠j2
def JW{h h':Heap}(x:h.IsTupleIter a t i)(e:∀o,h.get? a=some o→h'.get? a=some o):h'.IsTupleIter a t i:=let⟨o,ho,r⟩:=x;⟨o,e o ho,r⟩
def acf{r:Addr}{x y a:Value}(D:Apart z p r j1 j2 u1 u2)
  (hz:IsZip s.heap z p r .none) (hp:IsPair s.heap p (.ref j1) (.ref j2)) (hr:IsPair s.heap r a b)
  (h1:s.heap.IsTupleIter j1 u1 i) (h2:s.heap.IsTupleIter j2 u2 i) (l1:s.heap.IsTuple u1 vs) (l2:s.heap.IsTuple u2 ws) (hx:vs[i]?=some x) (hy:ws[i]?=some y)
  (q:∀h',IsZip h' z p r (rawInt s.heap.objs.size)→IsPair h' r x y→h'.IsTupleIter j1 u1 (i+1)→h'.IsTupleIter j2 u2 (i+1)→IsPair h' s.heap.objs.size x y→h'.objs.size=s.heap.objs.size+1→
   (∀c o,c≠z→c≠r→c≠j1→c≠j2→s.heap.get? c=some o→h'.get? c=some o)→Q (.ref s.heap.objs.size) {s with heap:=h'}) :
  wpAny (model prog w) A (Builtin.«zip.__next__» ⟨[.ref z],[]⟩) (λfin s'=>∃v,fin=.done (.ret v)∧Q v s') E s:=by
 show wpAny _ _ (field (.ref z) 2 >>= _) _ _ _
 show A6 (F1 hz rfl (x:=.bool false) rfl ?_);show wpAny _ _ (field (.ref z) 3 >>= _) _ _ _
 show A6 (F1 hz rfl (x:=.ref p) rfl ?_);show A6 (GY hp rfl ?_);show wpAny _ _ (Builtin.SmallTypes.ownedTupleIsFree (.ref z) >>= _) _ _ _
 show A6 ?_;unfold Builtin.SmallTypes.ownedTupleIsFree;show A6 (F1 hz rfl (x:=.none) rfl (AL ?_));simp only[IH];show A6 (JM ?_);show A6 (F1 hz rfl (x:=.ref r) rfl ?_);show A6 (wpAny_setField_rec hz (by simp) λg1 z1 e1=>?_)
 replace z1:IsZip g1 z p r .ellipsis:=z1
 show A6 ?_;simp only[List.zipIdx_cons,List.zipIdx_nil,OL,Mm];show A6 (A6 (PQ ?_));show wpAny _ _ (Builtin.SmallTypes.nextOf (.ref j1) >>= _) _ _ _
 show A6 (OR (h1.extBut e1.extBut D.KJ) (l1.extBut e1.extBut D.UA) hx λg2 a2 e2=>AL ?_);let r2:IsPair g2 r a b:=e2.extBut _ _ D.Tz (e1.extBut _ _ D.rz hr);show A6 (GY r2 rfl ?_);show A6 (SW r2 λg3 r3 e3=>?_)
 replace r3:IsPair g3 r x b:=r3
 show A6 (wpAny_letGo (AL ?_));show A6 (A6 (PQ ?_));show wpAny _ _ (Builtin.SmallTypes.nextOf (.ref j2) >>= _) _ _ _
 show A6 (OR (((h2.extBut e1.extBut D.OW).extBut e2.extBut D.VF.symm).extBut e3.extBut D.Tx.symm) (((l2.extBut e1.extBut D.Xg).extBut e2.extBut D.Pp).extBut e3.extBut D.Xh) hy λg4 a4 e4=>AL ?_);let r4:IsPair g4 r x b:=e4.extBut _ _ D.Tx r3;show A6 (GY r4 rfl ?_);show A6 (SW r4 λg5 r5 e5=>?_)
 replace r5:IsPair g5 r x y:=r5
 show A6 (wpAny_letGo (AL (AL ?_)));show A6 (GY r5 rfl ?_);show A6 (wpAny_newTuple ?_);let sz:g5.objs.size=s.heap.objs.size:=by rw[e5.1,e4.1,e3.1,e2.1,e1.1]
 let z5:IsZip g5 z p r .ellipsis:=e5.extBut _ _ D.rz.symm (e4.extBut _ _ D.OW.symm (e3.extBut _ _ D.rz.symm (e2.extBut _ _ D.KJ.symm z1)));let k5:∀c o,c≠z→c≠r→c≠j1→c≠j2→s.heap.get? c=some o→g5.get? c=some o:=λc o n1 n2 n3 n4 e=>
  e5.extBut _ _ n2 (e4.extBut _ _ n4 (e3.extBut _ _ n2 (e2.extBut _ _ n3 (e1.extBut _ _ n1 e))))
 let b1:g5.IsTupleIter j1 u1 (i+1):=((a2.extBut e3.extBut D.Tz.symm).extBut e4.extBut D.VF).extBut e5.extBut D.Tz.symm;let b2:g5.IsTupleIter j2 u2 (i+1):=a4.extBut e5.extBut D.Tx.symm;let zl:z<g5.objs.size:=B5 z5;show wpAny _ _ (Builtin.SmallTypes.ownedTupleHandOut (.ref z) (.ref g5.objs.size) >>= _) _ _ _
 show A6 ?_;unfold Builtin.SmallTypes.ownedTupleHandOut;let z6:IsZip (g5.push {cls:=.type "tuple",data:=.seq #[x,y]}) z p r .ellipsis:=Aw _ z5;show A6 (wpAny_setField_rec z6 (by simp) λg7 z7 e7=>?_)
 replace z7:IsZip g7 z p r (rawInt g5.objs.size):=z7
 show wpAny_setField_rec z7 (by simp) λg8 z8 e8=>?_
 replace z8:IsZip g8 z p r (rawInt g5.objs.size):=z8
 let AA:∀c o,c≠z→g5.get? c=some o→g8.get? c=some o:=λc o n1 e=>e8.extBut _ _ n1 (e7.extBut _ _ n1 (Aw _ e));let t8:IsPair g8 g5.objs.size x y:=e8.extBut _ _ (Lh zl) (e7.extBut _ _ (Lh zl) (CW _ rfl));let s8:g8.objs.size=g5.objs.size+1:=by rw[e8.1,e7.1,FG]
 rw[sz]at z8 t8 s8;show AL ⟨_,rfl,?_⟩;show Q (.ref g5.objs.size) _
 rw[sz];show q g8 z8 (AA _ _ D.rz r5) (JW b1 λo e=>AA _ o D.KJ e) (JW b2 λo e=>AA _ o D.OW e) t8 s8 λc o n1 n2 n3 n4 e=>AA c o n1 (k5 c o n1 n2 n3 n4 e)
def enc{r:Addr}{a:Value}{Q:Fin→Shared→Prop}(hh:A.handled=none)(D:Apart z p r j1 j2 u1 u2)
  (hz:IsZip s.heap z p r .none) (hp:IsPair s.heap p (.ref j1) (.ref j2)) (hr:IsPair s.heap r a b)
  (h1:s.heap.IsTupleIter j1 u1 i) (h2:s.heap.IsTupleIter j2 u2 i) (l1:s.heap.IsTuple u1 vs) (l2:s.heap.IsTuple u2 ws) (NU:vs[i]?=none∨ws[i]?=none)
  (q:∀h' e,(∀c o,c≠z→c≠r→c≠j1→c≠j2→s.heap.get? c=some o→h'.get? c=some o)→(∃o,h'.get? e=some o∧o.cls=.type "StopIteration")→E (.ref e) {s with heap:=h'}) :
  wpAny (model prog w) A (Builtin.«zip.__next__» ⟨[.ref z],[]⟩) Q E s:=by
 show wpAny _ _ (field (.ref z) 2 >>= _) _ _ _
 show A6 (F1 hz rfl (x:=.bool false) rfl ?_);show wpAny _ _ (field (.ref z) 3 >>= _) _ _ _
 show A6 (F1 hz rfl (x:=.ref p) rfl ?_);show A6 (GY hp rfl ?_);show wpAny _ _ (Builtin.SmallTypes.ownedTupleIsFree (.ref z) >>= _) _ _ _
 show A6 ?_;unfold Builtin.SmallTypes.ownedTupleIsFree;show A6 (F1 hz rfl (x:=.none) rfl (AL ?_));simp only[IH];show A6 (JM ?_);show A6 (F1 hz rfl (x:=.ref r) rfl ?_);show A6 (wpAny_setField_rec hz (by simp) λg1 z1 e1=>?_)
 replace z1:IsZip g1 z p r .ellipsis:=z1
 show A6 ?_;simp only[List.zipIdx_cons,List.zipIdx_nil,OL,Mm];show A6 (A6 (PQ ?_));show wpAny _ _ (Builtin.SmallTypes.nextOf (.ref j1) >>= _) _ _ _
 cases hx:vs[i]? with
 |none=>
  show A6 (SM hh (h1.extBut e1.extBut D.KJ) (l1.extBut e1.extBut D.UA) hx λg2 e e2 he=>?_);let⟨oe,NW,NV⟩:=he;let z2:IsZip g2 z p r .ellipsis:=e2 _ _ D.KJ.symm z1;let Vr:e≠z:=λx=>by subst x;rw[z2]at NW;cases NW;simp at NV
  show wpAny_setField_rec z2 (by simp) λg3 _ e3=>q g3 e (λc o n1 _ n3 _ x=>e3.extBut _ _ n1 (e2 _ _ n3 (e1.extBut _ _ n1 x))) ⟨oe,e3.extBut _ _ Vr NW,NV⟩
 |some x=>
  have hy:ws[i]?=none:=by rcases NU with h|h;rw[hx]at h;cases h;show h
  show A6 (OR (h1.extBut e1.extBut D.KJ) (l1.extBut e1.extBut D.UA) hx λg2 a2 e2=>AL ?_);let r2:IsPair g2 r a b:=e2.extBut _ _ D.Tz (e1.extBut _ _ D.rz hr);show A6 (GY r2 rfl ?_);show A6 (SW r2 λg3 r3 e3=>?_);show A6 (wpAny_letGo (AL ?_));show A6 (A6 (PQ ?_));show wpAny _ _ (Builtin.SmallTypes.nextOf (.ref j2) >>= _) _ _ _
  show A6 (SM hh (((h2.extBut e1.extBut D.OW).extBut e2.extBut D.VF.symm).extBut e3.extBut D.Tx.symm) (((l2.extBut e1.extBut D.Xg).extBut e2.extBut D.Pp).extBut e3.extBut D.Xh) hy λg4 e e4 he=>?_);let⟨oe,NW,NV⟩:=he;let z4:IsZip g4 z p r .ellipsis:=e4 _ _ D.OW.symm (e3.extBut _ _ D.rz.symm (e2.extBut _ _ D.KJ.symm z1));let Vr:e≠z:=λx=>by subst x;rw[z4]at NW;cases NW;simp at NV
  show wpAny_setField_rec z4 (by simp) λg5 _ e5=>q g5 e (λc o n1 n2 n3 n4 x=>e5.extBut _ _ n1 (e4 _ _ n4 (e3.extBut _ _ n2 (e2.extBut _ _ n3 (e1.extBut _ _ n1 x))))) ⟨oe,e5.extBut _ _ Vr NW,NV⟩
end
abbrev Np(K:W.Frag)(a b:Addr):Ef:=
  ⟨λi H=>∃xs ys x y,dG K H a xs∧dG K H b ys∧xs[i]?=some x∧ys[i]?=some y,
   λi H v H'=>∃p x y,H p=none∧v=.ref p∧H'=AI H p (.tup [x,y])∧(∀xs,dG K H a xs→xs[i]?=some x)∧(∀ys,dG K H b ys→ys[i]?=some y),
   λi H=>∃xs ys,dG K H a xs∧dG K H b ys∧(xs.length≤i∨ys.length≤i)⟩
def yK{elts:List Expr}{kk:Nat}(a b z p r j1 j2:Addr)(D:Apart z p r j1 j2 a b):
  Turn P w K (.Tuple elts kk pos) (Np K a b) [z,p,r,j1,j2] z (λi h=>IsZip h z p r .none∧IsPair h p (.ref j1) (.ref j2)∧(∃u v,IsPair h r u v)∧h.IsTupleIter j1 a i∧h.IsTupleIter j2 b i) where
 mem:=by simp
 obj:=λi h st c hc=>by
  let⟨hz,hp,⟨u,v,hr⟩,⟨o1,e1,_,d1⟩,⟨o2,e2,_,d2⟩⟩:=st;simp only[aaf,CE,Di]at hc;rcases hc with rfl|rfl|rfl|rfl|rfl
  ·show⟨_,hz,λv z=>by have z':Data.fields _=Data.cell v:=z;cases z'⟩
  ·show⟨_,hp,λv z=>by have z':Data.seq _ _=Data.cell v:=z;cases z'⟩
  ·show⟨_,hr,λv z=>by have z':Data.seq _ _=Data.cell v:=z;cases z'⟩
  ·show⟨o1,e1,λv z=>by rw[d1]at z;cases z⟩
  ·show⟨o2,e2,λv z=>by rw[d2]at z;cases z⟩
 keep:=λi h h' st k=>by
  let⟨hz,hp,⟨u,v,hr⟩,h1,h2⟩:=st;show⟨k z (by simp) _ hz,k p (by simp) _ hp,Ψ2 u v (k r (by simp) _ hr),JW h1 λo e=>k j1 (by simp) o e,JW h2 λo e=>k j2 (by simp) o e⟩
 item:=by
  intro X hP hw hK hc i v0 s σ H E I hf st hg;subst hP hw hK;let⟨hz,hp,⟨u,v,hr⟩,h1,h2⟩:=st;let⟨xs,ys,x,y,Iv,OX,hx,hy⟩:=hg;let⟨bf,rv,pl,_⟩:=I.tuple Iv;let⟨ku,yG,we,_⟩:=I.tuple OX;let⟨CK,ex,rx⟩:=rv.get hx;let⟨vy,ey,ry⟩:=yG.get hy;let hT:s.TypeIs (.ref z) "zip" :=⟨_,hz,rfl⟩;let n0:H s.heap.objs.size=none:=I.bC.fresh (Ah _);unfold pyNext;show A6 (Mv (IW (name:=Str.ofString "__next__") hT Pk (HP Pk hT F.entry_zip_next
   (acf D hz hp hr h1 h2 pl we (by simpa using ex) (by simpa using ey) λg a1 a2 a3 a4 a5 a6 a7=>AL ?_) (F.args_zip_next_1 _))))
  show⟨_,rfl,?_⟩;show wpAny_letOwnedTupleGo_zip a1 λg2 b1 b2=>?_;let zl:z<s.heap.objs.size:=B5 hz;let lt:∀c∈[z,p,r,j1,j2],c<s.heap.objs.size:=λc hc=>by
   simp only[aaf,CE,Di]at hc;let⟨_,q1,_⟩:=h1;let⟨_,q2,_⟩:=h2;rcases hc with rfl|rfl|rfl|rfl|rfl
   ·show zl
   ·show B5 hp
   ·show B5 hr
   ·show B5 q1
   ·show B5 q2
  show Ψ2 (.ref s.heap.objs.size) (AI H s.heap.objs.size (.tup [x,y])) ⟨?_,rfl,Ψ3 _ x y ⟨n0,rfl,rfl,λzs RN=>by rw[I.lS RN Iv];show hx,λzs RN=>by rw[I.lS RN OX];show hy⟩,⟨b1,?_,Ψ2 CK vy ?_,?_,?_⟩,λc hc=>?_⟩
  ·show I.t5 (t':=s.toks) (ch:=[z,r,j1,j2]) (λc o hc e=>?_) (λc hc=>hf c ?_) (Ah _) ⟨by show 2≤sizeLine;decide,[CK,vy],.cons rx (.cons ry .nil),?_⟩
   ·simp only[aaf,CE,Di,not_or]at hc
    show b2.extBut _ _ hc.1 (a7 c o hc.1 hc.2.1 hc.2.2.1 hc.2.2.2 e)
   ·simp only[aaf,CE,Di]at hc ⊢
    rcases hc with rfl|rfl|rfl|rfl<;>simp
   ·show⟨_,b2.extBut _ _ (Lh zl) a5,rfl,0,rfl⟩
  ·show b2.extBut _ _ D.pz (a7 _ _ D.pz D.pr D.pj1 D.pj2 hp)
  ·show b2.extBut _ _ D.rz a2
  ·show a3.extBut b2.extBut D.KJ
  ·show a4.extBut b2.extBut D.OW
  ·rw[Ay (BB (lt c hc))]
   show(hf c hc).1
 done:=by
  intro X hP hw hK hc i v0 s σ H E I hf st hg;subst hP hw hK;let⟨hz,hp,⟨u,v,hr⟩,h1,h2⟩:=st;let⟨xs,ys,Iv,OX,he⟩:=hg;let⟨bf,rv,pl,_⟩:=I.tuple Iv;let⟨ku,yG,we,_⟩:=I.tuple OX;let l1:=rv.length;let l2:=yG.length;let NU:bf.toArray[i]?=none∨ku.toArray[i]?=none:=he.imp (λe=>by simp;lia) (λe=>by simp;lia);let hT:s.TypeIs (.ref z) "zip" :=⟨_,hz,rfl⟩;unfold pyNext;show A6 (Mv (IW (name:=Str.ofString "__next__") hT Pk (HP Pk hT F.entry_zip_next
   (enc (I.ok.hd hc) D hz hp hr h1 h2 pl we NU λg e kk he=>?_) (F.args_zip_next_1 _))))
  let⟨o,ho,hcl⟩:=he;show A6 (Qg (T := "StopIteration") (b:=true) ⟨o,ho,hcl⟩ isSubtype_stop ?_);show AL ⟨rfl,I.Bz (t':=s.toks) (ch:=[z,r,j1,j2]) (λc o hc e=>?_) (λc hc=>hf c ?_)⟩
  ·simp only[aaf,CE,Di,not_or]at hc
   show kk c o hc.1 hc.2.1 hc.2.2.1 hc.2.2.2 e
  ·simp only[aaf,CE,Di]at hc ⊢
   rcases hc with rfl|rfl|rfl|rfl<;>simp
 self:=λ_ _ _ _ _ st h=>wpAny_pyIter_zip st.1 h
@[reducible]def Nn(h:Heap)(a:Addr):Heap:=h.push {cls:=.type "tuple_iterator",data:=.fields #[.ref a,.int 0 0]}
@[reducible]def P7(h:Heap)(a b:Addr):Heap:=(Nn h a).push {cls:=.type "tuple_iterator",data:=.fields #[.ref b,.int 0 0]}
@[reducible]def PZ(h:Heap)(a b:Addr):Heap:=(P7 h a b).push {cls:=.type "tuple",data:=.seq #[.ref h.objs.size,.ref (Nn h a).objs.size]}
@[reducible]def OE(h:Heap)(a b:Addr):Heap:=(PZ h a b).push {cls:=.type "tuple",data:=.seq #[.none,.none]}
@[reducible]def K6(h:Heap)(a b:Addr):Heap:=(OE h a b).push {cls:=.type "zip",data:=.fields #[.none,.bool false,.bool false,.ref (P7 h a b).objs.size,.ref (PZ h a b).objs.size]}
def xZ(a b:Addr)(vs ws:Array Value):
  Meets (Builtin.«zip.__new__» ⟨[.type "zip",.ref a,.ref b],[]⟩) (λ_ R s=>s.heap.IsTuple a vs∧s.heap.IsTuple b ws∧R (.ok (.ret (.ref (OE s.heap a b).objs.size))) {s with heap:=K6 s.heap a b}):=
 .of_wp λprog w A R s h=>by
  obtain⟨hp,g,d,tk,os⟩:=s;obtain⟨la,lb,h⟩:=h;let VW:=sub_zip;let L1:Heap.IsTuple (Shared.heap ⟨hp,g,d,tk,os⟩) a vs:=la;let L2:Heap.IsTuple (Shared.heap ⟨hp.push {cls:=.type "tuple_iterator",data:=.fields #[.ref a,.int 0 0]},g,d,tk,os⟩) b ws:=Heap.IsTuple.push lb _
  wp_walk using Jq L1,Jq L2
  show⟨_,rfl,h⟩
def abj{b:Addr}(la:s.heap.IsTuple a vs)(lb:s.heap.IsTuple b ws)
  (q:∀h',IsZip h' (s.heap.objs.size+4) (s.heap.objs.size+2) (s.heap.objs.size+3) .none→IsPair h' (s.heap.objs.size+2) (.ref s.heap.objs.size) (.ref (s.heap.objs.size+1))→
   IsPair h' (s.heap.objs.size+3) .none .none→h'.IsTupleIter s.heap.objs.size a 0→h'.IsTupleIter (s.heap.objs.size+1) b 0→(∀c o,s.heap.get? c=some o→h'.get? c=some o)→Q (.ref (s.heap.objs.size+4)) {s with heap:=h'}) :
  wpAny (model prog w) A (call (.type "zip") [.ref a,.ref b]) Q E s:=by
 show callType_new F.called_zip (by decide) (F.typeCall_zip_2 _ _) (F.newCall_zip_2 _ _) (λobj=>F.args_object_init_3 obj _ _) F.entry_zip_new (xZ a b vs ws) ⟨la,lb,?_⟩;let z1:(Nn s.heap a).objs.size=s.heap.objs.size+1:=FG ..;let z2:(P7 s.heap a b).objs.size=s.heap.objs.size+2:=by rw[FG,z1]
 let z3:(PZ s.heap a b).objs.size=s.heap.objs.size+3:=by rw[FG,z2]
 let z4:(OE s.heap a b).objs.size=s.heap.objs.size+4:=by rw[FG,z3]
 let g5:(K6 s.heap a b).get? (OE s.heap a b).objs.size=some _:=CW _ rfl;let g4:(K6 s.heap a b).get? (PZ s.heap a b).objs.size=some _:=Aw _ (CW _ rfl);let g3:(K6 s.heap a b).get? (P7 s.heap a b).objs.size=some _:=Aw _ (Aw _ (CW _ rfl));let g2:(K6 s.heap a b).get? (Nn s.heap a).objs.size=some _:=Aw _ (Aw _ (Aw _ (CW _ rfl)));let g1:(K6 s.heap a b).get? s.heap.objs.size=some _:=Aw _ (Aw _ (Aw _ (Aw _ (CW _ rfl))));show _∧_
 rw[z2,z3,z4]at g5;rw[z1,z2]at g3;rw[z3]at g4;rw[z1]at g2;rw[z4];show⟨⟨_,g5,rfl⟩,q _ g5 g3 g4 ⟨_,g1,rfl,rfl⟩ ⟨_,g2,rfl,rfl⟩ λc o x=>Aw _ (Aw _ (Aw _ (Aw _ (Aw _ x))))⟩
def apart_new{n b:Addr}(ha:a<n)(hb:b<n):Apart (n+4) (n+2) (n+3) n (n+1) a b:=by
 let ne:∀i j:Nat,i≠j→(Nat.add n i:Addr)≠Nat.add n j:=λi j h e=>h (Nat.add_left_cancel e);let lo:∀(c:Addr) (i:Nat),c<n→c≠Nat.add n i:=λc i h=>BB (EF h (Nat.le_add_right n i));show⟨ne 2 4 (by decide),ne 3 4 (by decide),ne 0 4 (by decide),ne 1 4 (by decide),ne 2 3 (by decide),ne 2 0 (by decide),ne 2 1 (by decide),ne 3 0 (by decide),ne 3 1 (by decide),ne 0 1 (by decide),
  lo a 4 ha,lo a 3 ha,lo a 0 ha,lo a 1 ha,lo b 4 hb,lo b 3 hb,lo b 0 hb,lo b 1 hb⟩
section
variable {elts: List Expr}{kk: Nat}{uD: Pos}
abbrev uK(K:W.Frag)(ta:CM):DI:=λσ H R=>ta σ H λvs H1=>∃a b xs ys,vs=[.ref a,.ref b]∧dG K H1 a xs∧dG K H1 b ys∧R (Np K a b) H1
def aQ{a b:Expr}{ta:CM}{p:Pos}(hg:Bk X "zip")(hm:X.mg "zip" = none)(ha:PA X [a,b] ta)(hs:starEach [a,b] X.env=[(false,eval a X.env),(false,eval b X.env)]:=by rfl)(vA:starEach [b] X.env=[(false,eval b X.env)]:=by rfl):
  PI X (.Tuple elts kk uD) (.Call (.Name "zip" p) [a,b] [] pos) (uK X.K ta):=by
 show .mk ?_;intro v0 s σ H R I h;show Call_ (K3 I hg hm boot_zip (Nh (AF (ha pos v0 s σ H _ I h) λus s1 ξ=>Ξ23 ξ λvs H1 I1 r1 q1=>?_) (by rw[hs,vA]) (by rw[vA];rfl)));let⟨u1,u2,xs,ys,e,hx,hy,q⟩:=q1;subst e;cases r1 with
 |cons r rr=>
  cases rr with
  |cons r' rr=>
   cases rr;cases r;cases r';let⟨bf,rv,pl,_⟩:=I1.tuple hx;let⟨ku,yG,we,_⟩:=I1.tuple hy;let⟨o1,e1,_⟩:=id pl;let⟨o2,e2,_⟩:=id we;show abj pl we λh' hz hp hr j1 j2 k=>?_;show wpAny_pyIter_zip hz ?_;show Ψ5 (s1.heap.objs.size+4) [s1.heap.objs.size+4,s1.heap.objs.size+2,s1.heap.objs.size+3,s1.heap.objs.size,s1.heap.objs.size+1] _ _ H1 ⟨rfl,I1.kept (t':=s1.toks) k,yK u1 u2 _ _ _ _ _ (apart_new (B5 e1) (B5 e2)),⟨hz,hp,Ψ2 _ _ hr,j1,j2⟩,λc hc=>?_,q⟩;let Gu:s1.heap.objs.size≤c:=by
    simp only[aaf,CE,Di]at hc;rcases hc with rfl|rfl|rfl|rfl|rfl<;>first|show Ah _|show Nat.le_add_right _ _
   show I1.xt Gu (I1.bC.fresh Gu)
end
end L2
namespace L2
open PySem PySem.Spec PyProof.Rows
variable {prog P:Program}{w:World}{A:Around}{s:Shared}{scope: Scope}{pos:Pos}{X: Cx}{cl: List (Str×Addr)}{own: List Str}{cap: List (Nat×Str)}
def abk(elt target iter:Expr)(ifs:List Expr)(scope:Scope)(pos:Pos)(it acc:Value)(env:Env):
  compTurn (.SetComp elt [⟨target,iter,ifs,0⟩] scope pos) 0 it acc env=(do
   standAt iter.pos
   match ←pyNext it with
   |none=>pure (.done .next)
   |some v=>
    letOwnedTupleGo target it v
    assign target env v
    let mut ok:=true
    for c in ifs do
     if ok then ok ←isTrue c env (eval c env)
    if ok then
     (do let v ←eval elt env;standAt elt.pos;let _ ←call (.builtin "set.add") [acc,v])
    again (.compLoop (.SetComp elt [⟨target,iter,ifs,0⟩] scope pos) 0 it acc env)):=by rfl
def cS{R:Result→Shared→Prop}{elt target iter ifs v4 scope pos it acc env}
  (h0:codeAny (model prog w) A (.compLoop (.SetComp elt (⟨target,iter,ifs,0⟩::v4) scope pos) 0 it acc env) R s)
  (h:wpAny (model prog w) A (pyIter it) (λVG s'=>codeAny (model prog w) A (.compLoop (.SetComp elt (⟨target,iter,ifs,0⟩::v4) scope pos) 0 VG acc env) R s')
   (notedBy (model prog w) A env λx s'=>R (.error x) s') s) :
  codeAny (model prog w) A (.compStart (.SetComp elt (⟨target,iter,ifs,0⟩::v4) scope pos) 0 it acc env) R s:=by
 show codeAny_of_tree ?_;show wpAny _ _ ((compStart (.SetComp elt (⟨target,iter,ifs,0⟩::v4) scope pos) 0 it acc env).onRaise (λx=>do noteFrame x env;standAt theWindowsPlace)) _ _ s
 show wpAny_notedAt ?_;unfold compStart;show wpAny _ _ (ask >>= _) _ _ s
 show A6 (wpAny_askSetting (wpAny_ite ?_));split
 ·first
   |show A6 (AL (AL (And.intro rfl h0)))
   |show AL (And.intro rfl h0)
 ·first
   |show A6 (JM (A6 (GD (A6 (BV h (λVG s' h'=>AL (And.intro rfl h')) λ_ _ x=>x)))))
   |(show A6 (JM ?_);show wpAny _ _ (standAt iter.pos >>= _) _ _ s;show A6 (GD (A6 (BV h (λVG s' h'=>AL (And.intro rfl h')) λ_ _ x=>x))))
def Z9{R:Result→Shared→Prop}{elt target iter:Expr}{scope:Scope}{it acc:Value}{env:Env}(I:Nat→Shared→Prop)
  (turn:∀n s,I n s→wpAny (model prog w) A (pyNext it) (λr s₁=>match r with
   |none=>R (.ok .next) s₁
   |some v=>wpAny (model prog w) A (letOwnedTupleGo target it v) (λ_ DJ=>wpAny (model prog w) A (assign target env v) (λ_ s₂=>
      wpAny (model prog w) A (eval elt env) (λx s₄=>
       wpAny (model prog w) A (call (.builtin "set.add") [acc,x]) (λ_ s₅=>∃m,m<n∧I m s₅) (notedBy (model prog w) A env λe s'=>R (.error e) s') s₄) (notedBy (model prog w) A env λe s'=>R (.error e) s') s₂) (notedBy (model prog w) A env λe s'=>R (.error e) s') DJ) (notedBy (model prog w) A env λe s'=>R (.error e) s') s₁) (notedBy (model prog w) A env λe s'=>R (.error e) s') s)
  (n:Nat) (h:I n s) :
  codeAny (model prog w) A (.compLoop (.SetComp elt [⟨target,iter,[],0⟩] scope pos) 0 it acc env) R s:=by
 show Ny rfl I (λn s hI=>?_) n h;show wpAny _ A ((compTurn (.SetComp elt [⟨target,iter,[],0⟩] scope pos) 0 it acc env).onRaise (λx=>do noteFrame x env;theTreesLotGoes x)) _ _ s
 show wpAny_noted ?_;rw[abk];show A6 (GD (A6 (BV (turn n s hI) (λr s₁ h₁=>?_) λ_ _ h'=>h')));cases r with
 |none=>show AL h₁
 |some v=>
  show A6 (BV h₁ (λ_ DJ NK=>?_) λ_ _ h'=>h');show A6 (BV NK (λ_ s₂ h₂=>A6 (wpAny_tests_nil ?_)) λ_ _ h'=>h');show A6 (A6 (BV h₂ (λx s₄ h₄=>A6 (GD (A6 (BV h₄ (λ_ s₅ h₅=>AL (AL ⟨rfl,h₅⟩)) λ_ _ h'=>h')))) λ_ _ h'=>h'))
abbrev setAt(P:Program)(w:World)(a:Addr)(S:Str→Bool)(n:Nat):Heap→Prop:=λh=>h.SetOf (strKind P w) a S n
def kr{H:A4}{h:Heap}{a:Addr}{S:Str→Bool}{n:Nat}(q:h.SetOf (strKind P w) a S n):bj P w H h a (.ext (setAt P w a S n)):=by
 show⟨q,?_,λh1 h2 q1 k=>?_⟩
 ·let⟨o,_,_,_,e,_⟩:=q
  show⟨o,e⟩
 ·let⟨o,es,ep,t,e,r⟩:=q1
  show Ψ4 o es ep t ⟨k o e,r⟩
section
variable {v0: List (Addr×Obj)}{σ: St}{H: A4}{s: Shared}{fp: List Addr}{E: Value→Shared→Prop}
def Ng{o:HO}(c:cT X scope cl own cap)(I:Inv X v0 σ H s)(hf:∀b∈fp,DO X v0 H b)(dB:∀b∈fp,b<s.heap.objs.size){h₁:Heap}{tk:Nat}{m:KK}
  (hk:∀b o,s.heap.get? b=some o→h₁.get? b=some o) (NP:bj X.prog X.w (AI H s.heap.objs.size o) h₁ s.heap.objs.size o) (hn:h₁.Ns (s.heap.objs.size+1) m) :
  Inv (BK X (own++cap.map (·.2)) scope cl (s.heap.objs.size+1) s H fp E) [] (F5 own cap σ) (AI H s.heap.objs.size o) {s with heap:=h₁,toks:=tk}:=by
 let IC:H s.heap.objs.size=none:=I.fresh;let NS:H (s.heap.objs.size+1)=none:=I.bC.fresh (BR _);show⟨Fg c I hf dB (BR _),rfl,I.bare,Un.laid hk (Ah _) IC,⟨m,hn,λi x v e1 e2 _=>?_⟩,λx a e=>?_,?_,λx a e=>?_,λp hp=>absurd (show p∈([]:ac)from hp) (by simp),I.bC.laid hk (Ah _) NP,?_⟩
 ·let⟨p,hp,ex,es⟩:=mT e1 e2
  let⟨q1,q2,q3,q4,q5⟩:=c.Jc p hp;rw[ex]at q1 q2 q3 q4 q5;let⟨m',V5,hl⟩:=I.loc;let⟨u,r,l⟩:=hl p.1 x v q1 es q2;show⟨u,r,?_⟩;rcases l with l|⟨k,a,e,z⟩
  ·show absurd l.1 q3
  ·let⟨a',e'⟩:=c.N0 x q5
   let ea:=c.sub x a' e';rw[e]at ea;cases ea;show .inr ⟨q5,a,e',z.keeps hk⟩
 ·let⟨v,z⟩:=I.cell x a (c.sub x a e)
  show⟨v,z.keeps hk⟩
 ·show AI H s.heap.objs.size o (s.heap.objs.size+1)=none
  rw[Ay (Oi _)];show NS
 ·let⟨v,z⟩:=I.cell x a (c.sub x a e)
  show AI H s.heap.objs.size o a=none
  rw[Ay (BB z.lt)];show I.iN x a (c.sub x a e)
 ·show(F5 own cap σ).length=(own++cap.map (·.2)).length
  simp[F5]
end
abbrev more(S:Str→Bool)(n:Nat)(k:Str):Nat:=if S k then n else n+1
abbrev X6(P:Program)(w:World)(wi:DI)(g:DL)(te:AQ)(own:List Str)(cap:List (Nat×Str)):AQ:=λσ H Q=>wi σ H λJ H1=>∀D,H1 D=none→
 ∃W:Nat→Nat→St→(Str→Bool)→Nat→A4→Prop,(∃m,W 0 m (F5 own cap σ) (λ_=>false) 0 (AI H1 D (.ext (setAt P w D (λ_=>false) 0))))∧∀i m σ' S n H',W i m σ' S n H'→H' D=some (.ext (setAt P w D S n))∧
  ((J.stop i H'∧Q (.ref D) H')∨(J.go i H'∧n<1000∧∃N:St→(Str→Bool)→Nat→A4→Prop,(∀σ S n H,N σ S n H→∃m',m' < m∧W (i+1) m' σ S n H)∧∀x H2,J.qI i H' x H2→g x σ' H2 λσ3 H3=>te σ3 H3 λy H5=>∃k,y=.str k∧H5 D=some (.ext (setAt P w D S n))∧
   N σ3 (λk'=>S k'||decide (k'=k)) (more S n k) (AI H5 D (.ext (setAt P w D (λk'=>S k'||decide (k'=k)) (more S n k))))))
section
variable {tg iter elt: Expr}{wi: DI}{g: DL}{te: AQ}{pos: Pos}
def w8(c:cT X scope cl own cap)(hc:X.calm=true)(hi:PI X tg iter wi)
  (hg:∀C s H fp,PG (BK X (own++cap.map (·.2)) scope cl C s H fp λ_ _=>False) tg g)
  (he:∀C s H fp,PE (BK X (own++cap.map (·.2)) scope cl C s H fp λ_ _=>False) elt te) (hs:∀x,foldedSetIterable iter X.env x=pure x:=by intro _;rfl) :
  PE X (.SetComp elt [⟨tg,iter,[],0⟩] scope pos) (X6 X.prog X.w wi g te own cap):=by
 show .mk ?_;intro v0 s σ H Q I h;show wpAny _ X.A (comprehension (.SetComp elt [⟨tg,iter,[],0⟩] scope pos) scope X.env _ (newSet (.type "set")) false (eval iter X.env)) _ _ s
 show Jr (use:=none) rfl hs c.xE c.kind c.names (AF (hi v0 s σ H _ I h) λv s1 h1=>AF h1 λKL s2 h2=>?_);let⟨it,fp,tn,J,H2,e,I2,T,oC,f2,hw⟩:=h2;subst e;show wpAny_newSet_of (knd:=strKind X.prog X.w) λled hS=>MT c.cell (by intro y hy;simp at hy) (λh₁ iM hJ=>?_) c.kind;dsimp only at iM hJ ⊢;generalize hO:({cls:=.type "set",dict:=none,data:=.set #[] 0 (.fresh 0 0 led)}:Obj)=O at hS iM hJ ⊢;let hsz:(s2.heap.push O).objs.size=s2.heap.objs.size+1:=FG _ _;let kk:∀b o,s2.heap.get? b=some o→h₁.get? b=some o:=λb o e=>hJ.extBut b o (by rw[hsz];show BB (HJ (B5 e))) (Aw _ (Aw _ e));let N1:h₁.SetOf (strKind X.prog X.w) s2.heap.objs.size (λ_=>false) 0:=by
  let⟨o,es,ep,t,e,r⟩:=hS;show Ψ4 o es ep t ⟨hJ.extBut _ _ (by rw[hsz];show BB (Hh _)) (Aw _ e),r⟩
 rw[hsz]at iM ⊢;let dB:∀b∈fp,b<s2.heap.objs.size:=λb hb=>by
  let⟨o,e,_⟩:=T.obj _ _ oC b hb;show B5 e
 let⟨W,⟨m0,w0⟩,turn⟩:=hw s2.heap.objs.size I2.fresh;let J1:=Ng (E:=λ_ _=>False) c I2 f2 dB (tk:=s2.toks+([]:List (Str×Value)).length) kk (kr N1) iM;generalize eW:BK X (own++cap.map (·.2)) scope cl (s2.heap.objs.size+1) s2 H2 fp (λ_ _=>False)=X' at J1;let IB:PG X' tg g:=eW ▸ hg _ _ _ _;let R8:PE X' elt te:=eW ▸ he _ _ _ _;let pX:X'.prog=X.prog:=by rw[←eW];rfl
 let wX:X'.w=X.w:=by rw[←eW];rfl
 let kX:X'.K=X.K:=by rw[←eW];rfl
 let aX:X'.A=X.A:=by rw[←eW];rfl
 let cX:X'.calm=true:=by rw[←eW];show hc
 let E8:X'.env=compEnvC scope cl (s2.heap.objs.size+1) X.env:=by rw[←eW];rfl
 let xX:X'.xe=λ_ _=>False:=by rw[←eW];rfl
 let fX:∀b∈fp,∀{H':A4},H' b=none→DO X' [] H' b:=λb hb {H'} hn=>by
  let o1:=(Fg (E:=λ_ _=>False) c I2 f2 dB (C:=s2.heap.objs.size+1) (BR _)).Gy b hb;let o2:=(Fg (E:=λ_ _=>False) c I2 f2 dB (C:=s2.heap.objs.size+1) (BR _)).qD b hb;rw[←eW];show⟨hn,o1.1,o2,.inl hb,o1.2,λp hp=>absurd (show p∈([]:ac)from hp) (by simp)⟩
 let ID:∀D C s' H' m,Inv X v0 σ H' s'→DO X v0 H' C→s'.heap.Ns C m→Q (.ref D) H'→compPost (model X.prog X.w) X.A X.xe none (BX X v0 σ Q) (.ref D) C (.ok .next) s':=by
  intro D C s' H' m I' hC hm q;show⟨m,hm,λh' gM=>Ψ2 (.ref D) H' ⟨?_,rfl,q⟩⟩;show I'.turned (t':=s'.toks) (λb o hb e=>(gM.2 b hb).trans e) hC.1 hC.2.1 hC.2.2.2.1 hC.2.2.2.2.1 hC.2.2.2.2.2
 let fin:∀{σ':St} {H':A4} {s':Shared},Inv X' [] σ' H' s'→Q (.ref s2.heap.objs.size) H'→compPost (model X.prog X.w) X.A X.xe none (BX X v0 σ Q) (.ref s2.heap.objs.size) (s2.heap.objs.size+1) (.ok .next) s':=λ{σ' H' s'} J' q=>by
  rw[←eW]at J';let⟨A1,A2⟩:=ML I2 f2 (BR _) J';let⟨m,hm,_⟩:=J'.loc;show ID _ _ s' H' m A1 A2 hm q
 let loop:codeAny (model X.prog X.w) X.A (.compLoop (.SetComp elt [⟨tg,iter,[],0⟩] scope pos) 0 (.ref it) (.ref s2.heap.objs.size) (compEnvC scope cl (s2.heap.objs.size+1) X.env)) (compPost (model X.prog X.w) X.A X.xe none (BX X v0 σ Q) (.ref s2.heap.objs.size) (s2.heap.objs.size+1))
   {s2 with heap:=h₁,toks:=s2.toks+([]:List (Str×Value)).length}:=by
  show Z9 (λn s'=>∃i σ' S z H',Inv X' [] σ' H' s'∧tn i s'.heap∧(∀b∈fp,H' b=none)∧W i n σ' S z H') ?_ m0
   ⟨0,_,_,0,_,J1,T.keep _ _ _ oC λb _ o e=>kk b o e,λb hb=>by rw[Ay (BB (dB b hb))];show(f2 b hb).1,w0⟩
  intro n s3⟨i,σ3,S,z,H3,I3,t7,xq,w3⟩;let⟨O1,w4⟩:=turn i n σ3 S z H3 w3;rw[←E8,←aX,←pX,←wX];let i0:∀{α:Type} {t:Sem α} {Q1:α→Shared→Prop} {E1:xz} {s:Shared},wpAny (model X'.prog X'.w) X'.A t Q1 X'.xe s→wpAny (model X'.prog X'.w) X'.A t Q1 E1 s:=λ{α t Q1 E1 s} h=>by
   rw[xX]at h;show BV h (λ_ _ q=>q) λ_ _ f=>f.elim
  rcases w4 with⟨stop,qn⟩|⟨go,hz,N,hN,step⟩
  ·let d:=T.done X' pX wX kX cX i [] s3 σ3 H3 X'.xe I3 (λb hb=>fX b hb (xq b hb)) t7 stop
   rw[←pX,←wX]at d;show i0 (AF d λr s4 ξ=>Ξ02 ξ λhr I4=>?_);subst hr;let f4:=fin I4 qn;rw[←pX,←wX,←aX]at f4;show f4
  ·let d:=T.item X' pX wX kX cX i [] s3 σ3 H3 X'.xe I3 (λb hb=>fX b hb (xq b hb)) t7 go
   rw[←pX,←wX]at d;show i0 (AF d λr s4 ξ=>Ξ12 ξ λu hr h4=>?_);subst hr;show i0 (AF h4 λ_ s5 ξ=>Ξ25 ξ λx H5 I5 r5 y5 rq Fx=>?_);let Gi:=I5.pinned (λb hb=>fX b hb (Fx b hb)) (T.obj _ _ rq);let again:∀{σ7:St} {H7:A4} {s7:Shared} {S':Str→Bool} {z':Nat},Inv X' ([]++Ht fp s5.heap) σ7 H7 s7→N σ7 S' z' H7→
     ∃m,m<n∧∃i σ' S z H',Inv X' [] σ' H' s7∧tn i s7.heap∧(∀b∈fp,H' b=none)∧W i m σ' S z H':=λ{σ7 H7 s7 S' z'} I7 n7=>by
    let⟨m',hm,w7⟩:=hN _ _ _ _ n7;show⟨m',hm,i+1,σ7,S',z',H7,I7.gR,T.keep _ _ _ rq λb hb o e=>(I7.pin (b,o) (CZ _ (CZ _ (G2 hb e)))).1,λb hb=>?_,w7⟩;let⟨o,e,d⟩:=T.obj _ _ rq b hb;show(I7.pin (b,o) (CZ _ (CZ _ (G2 hb e)))).2.1
   show i0 (AF (IB _ s5 σ3 H5 x u _ Gi r5 (step x H5 y5)) λ_ s6 ξ=>Ξ22 ξ λσ6 H6 I6 q6=>?_);show i0 (AF (R8 _ s6 σ6 H6 _ I6 q6) λu8 s8⟨y8,H8,I8,r8,k8,e8,d8,q8⟩=>?_);subst e8;let⟨t8,rfl⟩:=r8;let Vg:=(I8.bC _ _ d8).1;let ok9:s8.heap.SetOf (strKind X'.prog X'.w) s2.heap.objs.size S z:=by rw[pX,wX];show Vg
   show i0 (call_set_add (k:=k8) (knd:=strKind X'.prog X'.w) (by show Value.isStrOf k8 (.str k8 t8)=true;simp[Value.isStrOf]) rfl ok9 (BA (Nat.succ_le_of_lt hz) (by decide)) λh' VX KR=>?_);show again (I8.write (x:=s2.heap.objs.size) (e:=s2.heap.objs.size) (o:=.ext (setAt X.prog X.w s2.heap.objs.size (λk'=>S k'||decide (k'=k8)) (more S z k8))) (by rw[d8];show trivial) (.inl rfl) (λb' u hb hu=>(VX.2 b' hb).trans hu) ?_ ?_) q8
   ·let⟨o,_,_,_,e,_⟩:=KR
    show⟨o,e⟩
   ·rw[←pX,←wX]
    show kr KR
 show cS loop (T.self X.A 0 _ _ _ (T.keep _ _ _ oC λb _ o e=>kk b o e) loop)
def yZ:Eg X (.builtin "len") (λxs H Q=>∃(p:Addr) (S:Str→Bool) (n:Nat),xs=[.ref p]∧H p=some (.ext (setAt X.prog X.w p S n))∧Q (.int n) H):=by
 intro v0 s σ H vs us Q I rv h;let⟨p,S,n,rfl,hp,q⟩:=h;let⟨u,rfl,ru⟩:=rv.one;cases ru;let⟨o,es,ep,t,e,ex,d,hel,hm,hb,hf,hn⟩:=(I.bC p _ hp).1;let Sd:es.size<4096:=hb;show call_len_set e ex d hf (by lia) ⟨.int n,H,I.tok _,⟨s.toks+1,by rw[hn]⟩,q⟩
end
def W6(hh:A.handled=none)(it l:Addr)(hne:l≠it)(items:Array Value):
  Draws prog w A it [it,l] items.size (λi v=>items[i]?=some v) (λi h=>h.IsTupleIter it l i∧h.IsTuple l items) where
 live:=λ_ _ st=>let⟨o,ho,_⟩:=st.1;⟨o,ho⟩
 frame:=λ_ _ _ st hk=>⟨JW st.1 λo e=>hk it (by simp) o e,st.2.at λo e=>hk l (by simp) o e⟩
 item:=λi s Q E hi st hQ=>by
  show OR st.1 st.2 (v:=items[i]) (by simp[hi]) λh' Iz gM=>?_;show hQ _ h' s.toks (by simp[hi]) ⟨Iz,st.2.extBut gM.extBut hne⟩ gM
 done:=λs Q E st hE=>SM hh st.1 st.2 (by simp) hE
abbrev UC(K:W.Frag)(a:Addr):Ef:=
  ⟨λi H=>∃xs x,dG K H a xs∧xs[i]?=some x,
   λi H v H'=>∃p x,H p=none∧v=.ref p∧H'=AI H p (.tup [.int i,x])∧(∀xs,dG K H a xs→xs[i]?=some x),
   λi H=>∃xs,dG K H a xs∧xs.length=i⟩
def uT{K:W.Frag}{elts:List Expr}{kk:Nat}(a e it:Addr)(Wc:e≠it)(hae:a≠e)(Yx:a≠it):
  Turn P w K (.Tuple elts kk pos) (UC K a) [e,it] e (λi h=>(∃old,IsEnum h e it i old)∧h.IsTupleIter it a i) where
 mem:=by simp
 obj:=λi h st c hc=>by
  let⟨⟨old,he⟩,⟨o1,e1,_,d1⟩⟩:=st;simp only[aaf,CE,Di]at hc;rcases hc with rfl|rfl
  ·show⟨_,he,λv z=>by have z':Data.fields _=Data.cell v:=z;cases z'⟩
  ·show⟨o1,e1,λv z=>by rw[d1]at z;cases z⟩
 keep:=λi h h' st k=>by
  let⟨⟨old,he⟩,h1⟩:=st;show⟨⟨old,k e (by simp) _ he⟩,JW h1 λo q=>k it (by simp) o q⟩
 item:=by
  intro X hP hw hK hc i v0 s σ H E I hf st hg;subst hP hw hK;let⟨⟨old,he⟩,h1⟩:=st;let⟨xs,x,Iv,hx⟩:=hg;let⟨bf,rv,pl,_⟩:=I.tuple Iv;let⟨CK,ex,rx⟩:=rv.get hx;let n0:H s.heap.objs.size=none:=I.bC.fresh (Ah _);let hi:i<bf.toArray.size:=by
   have:=(aaE.mp ex).1;simpa using this
  show wpAny_pyNext_enum_itemD (W6 (prog:=X.prog) (w:=X.w) (A:=X.A.in1) (I.ok.hd hc) it a Yx bf.toArray) he ⟨h1,pl⟩ hi Wc (by simp[Wc,hae.symm]) λv h' tk hv ho gM ht hsz kk=>?_;let hvx:v=CK:=by
   let Cw:bf[i]?=some v:=by simpa using hv
   rw[ex]at Cw;show(EJ Cw).symm
  subst hvx;show⟨_,rfl,wpAny_letOwnedTupleGo_enum ho λg2 NV vA=>?_⟩;let el:e<s.heap.objs.size:=B5 he;let il:it<s.heap.objs.size:=by let⟨_,q,_⟩:=h1;show B5 q
  show Ψ2 (.ref s.heap.objs.size) (AI H s.heap.objs.size (.tup [.int i,x])) ⟨?_,rfl,Ψ2 _ x ⟨n0,rfl,rfl,λzs RN=>by rw[I.lS RN Iv];show hx⟩,⟨⟨v,?_⟩,?_⟩,λc hc=>?_⟩
  ·show I.t5 (t':=tk+1) (ch:=[e,it]) (λc o hc q=>?_) (λc hc=>hf c hc) (Ah _) ⟨by show 2≤sizeLine;decide,[.int i tk,v],.cons ⟨tk,rfl⟩ (.cons rx .nil),?_⟩
   ·simp only[aaf,CE,Di,not_or]at hc
    show(vA.2 c hc.1).trans (kk c o hc.1 hc.2 q)
   ·show⟨_,(vA.2 _ (Lh el)).trans ht,rfl,0,rfl⟩
  ·have:((i+1:Nat):Int)=(i:Int)+1:=by lia
   rw[this];show NV
  ·show JW gM.1 λo q=>(vA.2 it Wc.symm).trans q
  ·have:c<s.heap.objs.size:=by
    simp only[aaf,CE,Di]at hc;rcases hc with rfl|rfl
    ·show el
    ·show il
   rw[Ay (BB this)];show(hf c hc).1
 done:=by
  intro X hP hw hK hc i v0 s σ H E I hf st hg;subst hP hw hK;let⟨⟨old,he⟩,h1⟩:=st;let⟨xs,Iv,hl⟩:=hg;let⟨bf,rv,pl,_⟩:=I.tuple Iv;let l1:=rv.length;let ei:i=bf.toArray.size:=by simp;lia
  subst ei;show wpAny_pyNext_enum_endD (W6 (prog:=X.prog) (w:=X.w) (A:=X.A.in1) (I.ok.hd hc) it a Yx bf.toArray) he ⟨h1,pl⟩ λh' hx=>⟨rfl,?_⟩;let⟨f0,f1,f2,f3,f4,f5⟩:=hf it (by simp);show I.turned (t':=s.toks) (λb o hb q=>hx b o hb q) f0 f1 f3 f4 f5
 self:=λ_ _ _ _ _ st h=>by
  let⟨⟨old,he⟩,_⟩:=st;show wpAny_pyIter_enum he h
def abT(l:Addr)(items:Array Value)(n:Nat)(dct:Option Addr)(sl:Array (Option Value)):
  Meets (Builtin.«enumerate.__new__» ⟨[.type "enumerate",.ref l],[]⟩) (λ_ R s=>s.heap.get? l=some {cls:=.type "tuple",dict:=dct,data:=.seq items n,slots:=sl}∧
   R (.ok (.ret (.ref (s.heap.push {cls:=.type "tuple_iterator",data:=.fields #[.ref l,.int 0 0]}).objs.size)))
    {s with heap:=(s.heap.push {cls:=.type "tuple_iterator",data:=.fields #[.ref l,.int 0 0]}).push {cls:=.type "enumerate",data:=.fields #[.none,.bool false,.ref s.heap.objs.size,rawInt 0,.none,.none]}}):=
 .of_wp λprog w A R s h=>by
  obtain⟨hp,g,d,tk,os⟩:=s;obtain⟨hl,h⟩:=h;let VW:=sub_enumerate;let hL:Heap.IsTuple (Shared.heap ⟨hp,g,d,tk,os⟩) l items:=⟨_,hl,rfl,n,rfl⟩
  wp_walk using Mk hl
  show wpAny_stack_any λst=>AL ?_;split
  ·rename_i c _ _ _ _ _
   cases(c==Value.type "enumerate")
   ·wp_walk using Mk hl,Jq hL
    show⟨_,rfl,h⟩
   ·wp_walk using Mk hl,Jq hL
    show⟨_,rfl,h⟩
  ·wp_walk using Mk hl,Jq hL
   show⟨_,rfl,h⟩
def xF{E:xz}{l:Addr}{items:Array Value}{Q:xz}(hL:s.heap.IsTuple l items)
  (h:∀h',IsEnum h' (s.heap.objs.size+1) s.heap.objs.size 0 .none→h'.IsTupleIter s.heap.objs.size l 0→(∀b o,s.heap.get? b=some o→h'.get? b=some o)→Q (.ref (s.heap.objs.size+1)) {s with heap:=h'}) :
  wpAny (model prog w) A (call (.type "enumerate") [.ref l]) Q E s:=by
 obtain⟨⟨c,dct,dt,sl⟩,hl,hc,n,hd⟩:=hL
 replace hc:c=.type "tuple" := hc
 replace hd:dt=.seq items n:=hd
 subst hc hd;show callType_new F.called_enumerate (by decide) (F.typeCall_enumerate_1 _) (F.newCall_enumerate_1 _) (λobj=>F.args_object_init_2 obj _) F.entry_enumerate_new
  (abT l items n dct sl) ⟨hl,?_⟩
 let hz:(s.heap.push {cls:=.type "tuple_iterator",data:=.fields #[.ref l,.int 0 0]}).objs.size=s.heap.objs.size+1:=FG ..;show _∧_
 rw[hz];let he:IsEnum ((s.heap.push {cls:=.type "tuple_iterator",data:=.fields #[.ref l,.int 0 0]}).push
   {cls:=.type "enumerate",data:=.fields #[.none,.bool false,.ref s.heap.objs.size,rawInt 0,.none,.none]}) (s.heap.objs.size+1) s.heap.objs.size 0 .none:=by
  have:=CW (s.heap.push {cls:=.type "tuple_iterator",data:=.fields #[.ref l,.int 0 0]})
   (o:={cls:=.type "enumerate",data:=.fields #[.none,.bool false,.ref s.heap.objs.size,rawInt 0,.none,.none]}) rfl
  rw[hz]at this;show this
 show⟨⟨_,he,rfl⟩,h _ he ⟨_,Aw _ (CW _ rfl),rfl,rfl⟩ λb o y=>Aw _ (Aw _ y)⟩
section
variable {elts: List Expr}{kk: Nat}{uD: Pos}
abbrev abt(K:W.Frag)(ta:CM):DI:=λσ H R=>ta σ H λvs H1=>∃(a:Addr) (xs:List V),vs=[.ref a]∧dG K H1 a xs∧R (UC K a) H1
def aa7{a:Expr}{ta:CM}{p:Pos}(hg:Bk X "enumerate")(hm:X.mg "enumerate" = none)(ha:PA X [a] ta)(hs:starEach [a] X.env=[(false,eval a X.env)]:=by rfl):
  PI X (.Tuple elts kk uD) (.Call (.Name "enumerate" p) [a] [] pos) (abt X.K ta):=by
 show .mk ?_;intro v0 s σ H R I h;show Call_ (K3 I hg hm boot_enumerate (Nh (AF (ha pos v0 s σ H _ I h) λus s1 ξ=>Ξ23 ξ λvs H1 I1 r1 q1=>?_) hs rfl));let⟨u1,xs,e,hx,q⟩:=q1;subst e;cases r1 with
 |cons r rr=>
  cases rr;cases r;let⟨bf,rv,pl,_⟩:=I1.tuple hx;let⟨o1,e1,_⟩:=id pl;let l1:=B5 e1;show xF pl λh' he hi k=>?_;show wpAny_pyIter_enum he ?_;show Ψ5 (s1.heap.objs.size+1) [s1.heap.objs.size+1,s1.heap.objs.size] _ _ H1 ⟨rfl,I1.kept (t':=s1.toks) k,uT u1 _ _ (Oi _) (BB (HJ l1)) (BB l1),⟨⟨.none,he⟩,hi⟩,λc hc=>?_,q⟩;let Gu:s1.heap.objs.size≤c:=by
   simp only[aaf,CE,Di]at hc;rcases hc with rfl|rfl
   ·show BR _
   ·show Ah _
  show I1.xt Gu (I1.bC.fresh Gu)
end
abbrev oj(H:A4)(P:Addr)(q:Str)(pos:Pos):Prop:=H P=some (.tbl #[])∨∃(c':Addr) (oc:Obj) (vs:Array Value) (t:Tok) (u:HO),
 H P=some (.tbl #[rawInt pos.line,rawInt pos.col,.ref c'])∧H c'=some (.frz oc u)∧oc.data=.fields vs∧vs[1]?=some (.str q t)
end L2
namespace L2
open PySem PySem.Spec PyProof.Rows
abbrev ef(K:W.Frag)(a:Addr)(xs:List V):Prop:=∃(o:Obj) (bf:Array Value) (n:Nat),K.lookup a=some o∧o.cls=.type "tuple" ∧ o.data=.seq bf n∧bf.size≤sizeLine∧Vals xs bf.toList
def ef.sq{K:W.Frag}{H:A4}{a:Addr}{xs:List V}(h:ef K a xs):dG K H a xs:=.inr h
end L2
namespace L2
open PySem PySem.Spec PyProof.Rows
variable {ss:List Str}{n:Nat}{X: Cx}
abbrev qH(P:Program)(w:World)(K:W.Frag)(mg:KK)(base:Heap)(C:Addr)(m:Str)(k:Nat)(ps:List Str)(sp:Dq):Prop:=
 ∃f fd,bc P w K mg base Am k f fd ps sp∧pK K C∧Meth K C m f∧Binds K fd ps []
abbrev rk(P:Program)(w:World)(K:W.Frag)(mg:KK)(base:Heap)(C:Addr)(k:Nat)(ps:List Str)(sp:Dq):Prop:=
 ∃f fd,bc P w K mg base Am k f fd ps sp∧Ma K C f∧Binds K fd ps []
section
def tM:iS X (binaryOp .Add) (λx y H Q=>∃l b xs zs,x=.ref l∧y=.ref b∧lI X.K H l xs∧lI X.K H b zs∧xs.length+zs.length≤sizeLine∧∀p,H p=none→Q (.ref p) (AI H p (.lst (xs++zs)))):=by
 intro v0 s σ H x y v u Q I rx ry h;let⟨l,b,xs,zs,rfl,rfl,hH,hB,hz,q⟩:=h;cases rx;cases ry;let⟨bf,r,pl,z⟩:=I.list hH;let⟨ku,r2,we,z2⟩:=I.list hB;let l1:=r.length;let l2:=r2.length;obtain⟨⟨cls,dd,data,sl⟩,ho,hc,n,hd⟩:=pl.isList;obtain⟨⟨SU,Pb,data2,DU⟩,CA,KQ,n2,hd2⟩:=we.isList;simp only at hc hd KQ hd2;subst hc hd KQ hd2;let e:bf.toArray++ku.toArray=(bf++ku).toArray:=by simp
 show NG ⟨_,ho,rfl⟩ ⟨_,CA,rfl⟩ noFill_list_add seq_list_add PySem.F.slot_list_add PySem.F.entry_list_add (PySem.F.args_list_add_2 _ _) (list_addW l b bf.toArray ku.toArray n n2 dd Pb sl DU (by simp only[BW];lia)) ⟨ho,CA,?_⟩;rw[e];show Ψ2 (.ref _) _ ⟨I.RE (t':=s.toks) (r.append r2) (by rw[BO];lia),rfl,q _ I.fresh⟩
abbrev S(l:List Nat):Str:=⟨l.toArray⟩
def oi(l:List Nat):(S l).length=l.length:=by simp[S,Str.length]
abbrev lJ(ss:List Str)(S:Str→Bool)(n:Nat):Prop:=(∀k,S k=true↔k∈ss)∧((ss.Nodup∧n=ss.length)∨(¬ss.Nodup∧n<ss.length))
def lJ.nil:lJ [] (λ_=>false) 0:=⟨λk=>by simp,.inl ⟨Nq,rfl⟩⟩
def lJ.le{S:Str→Bool}(h:lJ ss S n):n≤ss.length:=by
 rcases h.2 with⟨_,h⟩|⟨_,h⟩<;>lia
def lJ.snoc{S:Str→Bool}{k:Str}(h:lJ ss S n):lJ (ss++[k]) (λk'=>S k'||decide (k'=k)) (more S n k):=by
 let⟨h1,h2⟩:=h;show⟨λk'=>by rw[Bool.or_eq_true,MD,h1 k',aaG,aaB],?_⟩;let e:(ss++[k]).Nodup↔ss.Nodup∧k∉ss:=by
  rw[aaK];constructor
  ·intro⟨a,_,b⟩
   show⟨a,λm=>b k m k (by simp) rfl⟩
  ·intro⟨a,b⟩
   show⟨a,by simp,λx hx y hy e=>b ?_⟩;rw[aaB]at hy;rw[←hy,←e];show hx
 rw[e,BO];show(_∧(if S k=true then n else n+1)=_)∨(_∧(if S k=true then n else n+1)<_)
 by_cases c:S k=true
 ·rw[Ab c]
  let m:=(h1 k).mp c;rcases h2 with⟨a,b⟩|⟨a,b⟩
  ·show .inr ⟨λz=>z.2 m,by rw[b];show Hh _⟩
  ·show .inr ⟨λz=>z.2 m,HJ b⟩
 ·rw[AP c]
  let m:k∉ss:=λz=>c ((h1 k).mpr z);rcases h2 with⟨a,b⟩|⟨a,b⟩
  ·show .inl ⟨⟨a,m⟩,by rw[b];rfl⟩
  ·show .inr ⟨λz=>a z.1,Nat.succ_lt_succ b⟩
end
section
def uh:cD X (λx H Q=>∃z:Str,x=.str z∧z.length≤sizeLine∧∀y:Str,y.length≤z.length→(∀c∈y.cps.toList,c∈z.cps.toList)→Q (.str y) H):=by
 intro v0 s σ H x v vs sl Q I rx hs ps h;let⟨z,rfl,hz,q⟩:=h;let⟨t,rfl⟩:=rx;show Ψ2 ("str") _ ⟨F.slot_str_getitem.lookup,MQ _ z t,?_⟩;let⟨o,h1,h2,h3⟩:=hs;cases ps with
 |int j t'=>
  show wpAny_getItem_str_slice (l:=none) (u:=none) (st:=some (-1,t')) ⟨o,h1,h2,h3⟩ rfl ?_;unfold sliceMade slicePicked;show(if((-1:Int)==1&&(Builtin.Str.strSliceIndices none none (-1) z.length).length==z.length)=true then Made.val (.str z t)else .str ⟨((Builtin.Str.strSliceIndices none none (-1) z.length).filterMap (z.cps[·]?)).toArray⟩).post _ _
  rw[AP (by rw[show((-1:Int)==1)=false from rfl,Dw];show Bs)];let hl:(Str.mk ((Builtin.Str.strSliceIndices none none (-1) z.length).filterMap (z.cps[·]?)).toArray).length≤z.length:=by
   show((Builtin.Str.strSliceIndices none none (-1) z.length).filterMap (z.cps[·]?)).toArray.size≤z.length
   rw[BW];show Cu (List.length_filterMap_le _ _) ?_;rw[picked_rev,AM,SQ];show Ah _
  show⟨Cu hl hz,.str _,H,I.tok _,⟨_,rfl⟩,q _ hl λc hc=>?_⟩;let hc:c∈(Builtin.Str.strSliceIndices none none (-1) z.length).filterMap (z.cps[·]?):=by simpa using hc
  let⟨i,_,e⟩:=abZ.mp hc;show Array.mem_toList_iff.mpr (Array.mem_of_getElem? e)
end
abbrev upd:=St→A4→(St→A4→Prop)→Prop
end L2
namespace L2
open PySem PySem.Spec PyProof.Rows
variable {o:Option V}{u:Value}{y v:V}{P:Program}{w:World}{H H':A4}{aq:List (List A7×V)}{xs:List (List A7×Addr×Value)}{b:Addr}{a: Addr}{Q:xz}{h':Heap}{A: Around}{E: Value→Shared→Prop}{s: Shared}{pos: Pos}{X: Cx}{v0: List (Addr×Obj)}{σ: St}{r: Value}
section
variable {κ: Type}[DecidableEq κ]
abbrev DW(aq:List (κ×V))(k:κ):Option V:=(aq.find? λkv=>decide (kv.1=k)).map (·.2)
abbrev putK(aq:List (κ×V))(k:κ)(v:V):List (κ×V):=
 if(aq.any λkv=>decide (kv.1=k))=true then aq.map (λkv=>if kv.1=k then(kv.1,v)else kv)else aq++[(k,v)]
def M1{p:κ×V}{r:List (κ×V)}{k:κ}(e:p.1=k):DW (p::r) k=some p.2:=by simp[DW,Et,e]
def Jp{p:κ×V}{r:List (κ×V)}{k:κ}(e:¬p.1=k):DW (p::r) k=DW r k:=by simp[DW,Et,e]
def gd(k:κ):∀aq:List (κ×V),(aq.any λkv=>decide (kv.1=k))=(DW aq k).isSome
 |[]=>rfl
 |p::r=>by
  rw[HG];by_cases e:p.1=k
  ·simp only[M1 e,Bi e,Bool.true_or,Option.isSome_some]
  ·rw[Jp e,DN e,Bool.false_or];show gd k r
def Q3(aq:List (κ×V))(k:κ)(v:V):(putK aq k v).length≤aq.length+1:=by
 unfold putK;split
 ·rw[AM];lia
 ·rw[BO,CF,List.length_nil];lia
def jr.jl{u:Option Value}(r:jr o u):o.isSome=u.isSome:=by
 cases o with
 |none=>cases u with
  |none=>rfl
  |some _=>show(show False from r).elim
 |some _=>cases u with
  |none=>show(show False from r).elim
  |some _=>rfl
def jr.getD{u:Option Value}{d:V}{d':Value}(r:jr o u)(rd:RelV d d'):RelV (o.getD d) (u.getD d'):=by
 cases o with
 |none=>cases u with
  |none=>show rd
  |some _=>show(show False from r).elim
 |some _=>cases u with
  |none=>show(show False from r).elim
  |some _=>show r
def KV.val{aq:List (κ×V)}{vs:List (κ×Value)}(r:KV aq vs)(k:κ):jr (DW aq k) (valueAt vs k):=by
 unfold KV at r;induction r with
 |nil=>show True.intro
 |@cons p q ps qs h t ih=>
  let⟨h1,h2⟩:=h;by_cases e:p.1=k
  ·let e':q.1=k:=h1.symm.trans e
   let b:valueAt (q::qs) k=some q.2:=by simp[valueAt,Et,e']
   rw[M1 e,b];show h2
  ·let e':¬q.1=k:=λz=>e (h1.trans z)
   let b:valueAt (q::qs) k=valueAt qs k:=by simp[valueAt,Et,e']
   rw[Jp e,b];show ih
def KV.any{aq:List (κ×V)}{vs:List (κ×Value)}(r:KV aq vs)(k:κ):(aq.any λkv=>decide (kv.1=k))=vs.any λkv=>decide (kv.1=k):=by
 unfold KV at r;induction r with
 |nil=>rfl
 |cons h t ih=>rw[HG,HG,ih,h.1]
def KV.Md{aq:List (κ×V)}{vs:List (κ×Value)}(r:KV aq vs)(k:κ)(ry:RelV y u):
  KV (aq.map λkv=>if kv.1=k then(kv.1,y)else kv) (vs.map λkv=>if kv.1=k then(kv.1,u)else kv):=by
 unfold KV at r ⊢;induction r with
 |nil=>show .nil
 |@cons p q ps qs h t ih=>
  rw[BU,BU];show .cons ?_ ih;let⟨h1,h2⟩:=h;by_cases e:p.1=k
  ·rw[Ab e,Ab (h1.symm.trans e)];show⟨h1,ry⟩
  ·rw[AP e,AP (λz=>e (h1.trans z))];show⟨h1,h2⟩
def KV.put{aq:List (κ×V)}{vs:List (κ×Value)}(r:KV aq vs)(k:κ)(ry:RelV y u):KV (putK aq k y) (stored vs k u):=by
 unfold putK stored;rw[r.any k];by_cases e:(vs.any λkv=>decide (kv.1=k))=true
 ·rw[Ab e,Ab e];show r.Md k ry
 ·rw[AP e,AP e];show Paired.snoc r ⟨rfl,ry⟩
def KV.length{aq:List (κ×V)}{vs:List (κ×Value)}(r:KV aq vs):aq.length=vs.length:=PL r
end
def FQ{k:A7}(r:RelV (Au k) u):(AR P w).is k u=true:=by
 cases k with
 |inl i=>let⟨t,e⟩:=(show ∃t,u=Value.int i t from r);subst e;show abb P w i t
 |inr x=>let⟨t,e⟩:=(show ∃t,u=Value.str x t from r);subst e;show SY P w x t
def bD{P:Program}{w:World}:∀{ks:List A7} {us:List Value},Vals (ks.map Au) us→ItemsAre (AR P w) ks us
 |[],_,r=>by rw[Hs]at r;cases r;show .nil
 |k::ks,_,r=>by
  rw[BU]at r;cases r with
  |cons h t=>show .cons (FQ h) (bD t)
@[reducible]def KT(H:A4):List (List A7×V)→List (List A7×Addr×Value)→Prop:=Paired λp q=>p.1=q.1∧H q.2.1=some (.tup (p.1.map Au))∧RelV p.2 q.2.2
def KT.val(r:KT H aq xs)(k:List A7):jr (DW aq k) ((atKey xs k).map (·.2)):=by
 induction r with
 |nil=>show True.intro
 |@cons p q ps qs h t ih=>
  let⟨h1,_,h2⟩:=h;by_cases e:p.1=k
  ·let e':q.1=k:=h1.symm.trans e
   let b:atKey (q::qs) k=some q.2:=by simp[atKey,Et,e']
   rw[M1 e,b];show h2
  ·let e':¬q.1=k:=λz=>e (h1.trans z)
   let b:atKey (q::qs) k=atKey qs k:=by simp[atKey,Et,e']
   rw[Jp e,b];show ih
def KT.Md(r:KT H aq xs)(k:List A7)(ry:RelV y u):
  KT H (aq.map λkv=>if kv.1=k then(kv.1,y)else kv) (xs.map (putAt k u)):=by
 induction r with
 |nil=>show .nil
 |@cons p q ps qs h t ih=>
  rw[BU,BU];show .cons ?_ ih;let⟨h1,h2,h3⟩:=h;unfold putAt;by_cases e:p.1=k
  ·rw[Ab e,Ab (h1.symm.trans e)];show⟨h1,h2,ry⟩
  ·rw[AP e,AP (λz=>e (h1.trans z))];show⟨h1,h2,h3⟩
def KT.put(r:KT H aq xs)(k:List A7)(hb:H b=some (.tup (k.map Au)))(ry:RelV y u):
  KT H (putK aq k y) (storedH xs k b u):=by
 let e:(aq.any λkv=>decide (kv.1=k))=(atKey xs k).isSome:=by
  rw[gd,(r.val k).jl,Fc]
 unfold putK storedH;rw[e];by_cases q:(atKey xs k).isSome=true
 ·rw[Ab q,Ab q];show r.Md k ry
 ·rw[AP q,AP q];show Paired.snoc r ⟨rfl,hb,ry⟩
def KT.keeps(r:KT H aq xs)(ht:∀b ys,H b=some (.tup ys)→H' b=some (.tup ys)):KT H' aq xs:=
 Paired.Nj r λ_ _ z=>⟨z.1,ht _ _ z.2.1,z.2.2⟩
section
variable {P: Program}{w: World}{H: A4}{h: Heap}
def c9{u:HO}(ok:mH P w H h)(e:Rd H a u):bj P w H h a u:=e.ok ok
def Hc{aq:List (A7×V)}(ok:mH P w H h)(e:Rd H a (.dK aq)):aq.length≤sizeLine∧(a==sysModules)=false∧∃vs,KV aq vs∧h.DictOf (AR P w) a vs:=
 show bj P w H h a (.dK aq)from c9 ok e
def Oz{aq:List (A7×V)}(ok:mH P w H h)(e:H a=some (.dK aq)):aq.length≤sizeLine∧(a==sysModules)=false∧∃vs,KV aq vs∧h.DictOf (AR P w) a vs:=Hc ok (.inl e)
def HA{ks:List A7}(ok:mH P w H h)(e:H a=some (.tup (ks.map Au))):(tupleKind (AR P w)).is h ks a:=by
 let⟨_,⟨bf,r,⟨o,h1,h2,⟨n,h3⟩⟩⟩⟩:=(show bj P w H h a (.tup (ks.map Au))from ok a _ e);show Ψ3 o bf.toArray n ⟨h1,h2,h3,by simpa using bD r⟩
def Ji(ok:mH P w H h)(e:Rd H a (.dT aq)):aq.length≤sizeLine∧(a==sysModules)=false∧
  ∃xs,KT H aq xs∧h.DictOfH (tupleKind (AR P w)) a xs:=by
 let⟨z,y,⟨xs,r,⟨o,es,ep,h1,h2,h3,h4,h5⟩⟩⟩:=(show bj P w H h a (.dT aq)from c9 ok e);show⟨z,y,xs,r,o,es,ep,h1,h2,h3,h4,λx hx=>?_,h5⟩;let all:∀{l:List (List A7×V)} {m:List (List A7×Addr×Value)},KT H l m→∀x∈m,(tupleKind (AR P w)).is h x.1 x.2.1:=by
  intro l m q;induction q with
  |nil=>intro x hx;show nomatch hx
  |@cons p q ps qs hq t ih=>
   intro x hx;rcases aaf.mp hx with e|hx
   ·subst e
    show HA ok (by rw[←hq.1];show hq.2.1)
   ·show ih x hx
 show all r x hx
def vn(ok:mH P w H h)(e:H a=some (.dT aq)):aq.length≤sizeLine∧(a==sysModules)=false∧
  ∃xs,KT H aq xs∧h.DictOfH (tupleKind (AR P w)) a xs:=Ji ok (.inl e)
end
abbrev kz(H:A4)(a:Addr)(y:V)(r:Option V):Prop:=
 (∃aq k,Rd H a (.dK aq)∧y=Au k∧r=DW aq k)∨∃aq k b,Rd H a (.dT aq)∧y=.ref b∧H b=some (.tup (k.map Au))∧r=DW aq k
abbrev xU(H:A4)(a:Addr)(y v:V)(H':A4):Prop:=
 (∃aq k,H a=some (.dK aq)∧y=Au k∧aq.length<sizeLine∧H'=AI H a (.dK (putK aq k v))) ∨
 ∃aq k b,H a=some (.dT aq)∧y=.ref b∧H b=some (.tup (k.map Au))∧aq.length<sizeLine∧H'=AI H a (.dT (putK aq k v))
def kz.k{H:A4}{a:Addr}{aq:List (A7×V)}{k:A7}(e:H a=some (.dK aq)):kz H a (Au k) (DW aq k):=.inl ⟨aq,k,.inl e,rfl,rfl⟩
def xU.k{H:A4}{a:Addr}{aq:List (A7×V)}{k:A7}{v:V}(e:H a=some (.dK aq))(hl:aq.length<sizeLine):xU H a (Au k) v (AI H a (.dK (putK aq k v))):=.inl ⟨aq,k,e,rfl,hl,rfl⟩
def xU.t{a:Addr}{k:List A7}(e:H a=some (.dT aq))(eb:H b=some (.tup (k.map Au)))(hl:aq.length<sizeLine):
  xU H a (.ref b) v (AI H a (.dT (putK aq k v))):=.inr ⟨aq,k,b,e,rfl,eb,hl,rfl⟩
section
variable {H: A4}{y v: V}{u: Value}{o: Option V}
def Inv.big(I:Inv X v0 σ H s):sysModules<s.heap.objs.size:=by
 let h:mainGlobals<s.heap.objs.size:=(I.mod.glob.keeps I.bk).lt;show Nat.lt_trans (by decide) h
def nR(hu:A.units+1<cLine)(I:Inv X v0 σ H s)(g:kz H a y (some v))(ry:RelV y u)(h:∀w' s',Inv X v0 σ H s'→RelV v w'→Q w' s'):
  wpAny (model X.prog X.w) A (getItem (.ref a) u) Q E s:=by
 rcases g with⟨aq,k,e,ey,l⟩|⟨aq,k,b,e,ey,eb,l⟩
 ·subst ey
  let⟨z,hd,⟨vs,rel,dd⟩⟩:=Hc I.bC e;let⟨w',hw,oP⟩:=jr.some_of (v:=v) (o:=valueAt vs k) (by rw[l];show rel.val k);show Ug (FQ ry) dd.mapOf hw (h w' _ (I.tok _) oP)
 ·subst ey
  cases(show u=Value.ref b from ry);let⟨z,hd,⟨xs,rel,dd⟩⟩:=Ji I.bC e;let⟨w',hw,oP⟩:=jr.some_of (v:=v) (o:=(atKey xs k).map (·.2)) (by rw[l];show rel.val k);let⟨p,hp,vB⟩:=abX.mp hw;show wpAny_getItem_heap (Ij hu) (HA I.bC eb) dd hp ?_;rw[vB];show h w' _ (I.tok _) oP
def adu(hu:A.units+1<cLine)(I:Inv X v0 σ H s)(g:kz H a y o)(ry:RelV y u)(h:∀s',Inv X v0 σ H s'→Q (.bool o.isSome) s'):
  wpAny (model X.prog X.w) A (compareOp .In u (.ref a)) Q E s:=by
 rcases g with⟨aq,k,e,ey,l⟩|⟨aq,k,b,e,ey,eb,l⟩
 ·subst ey
  let⟨z,hd,⟨vs,rel,dd⟩⟩:=Hc I.bC e;show wpAny_in_of (FQ ry) hd dd.mapOf ?_;rw[←(rel.val k).jl,←l];show h _ (I.tok _)
 ·subst ey
  cases(show u=Value.ref b from ry);let⟨z,hd,⟨xs,rel,dd⟩⟩:=Ji I.bC e;show wpAny_in_heap (Ij hu) (HA I.bC eb) hd dd ?_;let q:=(rel.val k).jl;rw[Fc]at q;rw[←q,←l];show h _ (I.tok _)
def nH(hu:A.units+1<cLine)(I:Inv X v0 σ H s)(g:kz H a y o)(ry:RelV y u)(h:∀s',Inv X v0 σ H s'→Q (.bool (!o.isSome)) s'):
  wpAny (model X.prog X.w) A (compareOp .NotIn u (.ref a)) Q E s:=by
 rcases g with⟨aq,k,e,ey,l⟩|⟨aq,k,b,e,ey,eb,l⟩
 ·subst ey
  let⟨z,hd,⟨vs,rel,dd⟩⟩:=Hc I.bC e;show wpAny_notIn_of (FQ ry) hd dd.mapOf ?_;rw[←(rel.val k).jl,←l];show h _ (I.tok _)
 ·subst ey
  cases(show u=Value.ref b from ry);let⟨z,hd,⟨xs,rel,dd⟩⟩:=Ji I.bC e;show wpAny_notIn_heap (Ij hu) (HA I.bC eb) hd dd ?_;let q:=(rel.val k).jl;rw[Fc]at q;rw[←q,←l];show h _ (I.tok _)
def P1{t':Nat}{ob:HO}(I:Inv X v0 σ H s)(mu:JX (H a))(hs:Heap.SameBut a s.heap h')(he:∃q,h'.get? a=some q)(new:bj X.prog X.w (AI H a ob) h' a ob):
  Inv X v0 σ (AI H a ob) {s with heap:=h',toks:=t'}:=
 I.write (x:=a) (e:=a) mu (.inl rfl) (λb q hb z=>(hs.2 b hb).trans z) he new
def P4{aq:List (A7×V)}{vs:List (A7×Value)}(z:aq.length≤sizeLine)(hd:(a==sysModules)=false)(rel:KV aq vs)(dd:h'.DictOf (AR P w) a vs):
  bj P w H' h' a (.dK aq):=⟨z,hd,vs,rel,dd⟩
def pA{Q:Unit→Shared→Prop}(hu:A.units+1<cLine)(I:Inv X v0 σ H s)(g:xU H a y v H')(ry:RelV y u)(rv:RelV v r)(h:∀s',Inv X v0 σ H' s'→Q () s'):
  wpAny (model X.prog X.w) A (setItem (.ref a) u r) Q E s:=by
 rcases g with⟨aq,k,e,ey,l,eH⟩|⟨aq,k,b,e,ey,eb,l,eH⟩
 ·subst ey eH
  let⟨z,hd,⟨vs,rel,dd⟩⟩:=Oz I.bC e;let hz:vs.length≤sizeLine:=by rw[←rel.length];show z
  let hl:(putK aq k v).length≤sizeLine:=by have:=Q3 aq k v;lia
  show wpAny_setItem_pairs (hsz:=hz) (FQ ry) dd λh' CC hs=>h _ ?_;let he:∃q,h'.get? a=some q:=let⟨q,_,_,hq,_⟩:=CC;⟨q,hq⟩
  show P1 I (by rw[e];show True.intro) hs he (P4 hl hd (rel.put k rv) CC)
 ·subst ey eH
  cases(show u=Value.ref b from ry);let⟨z,hd,⟨xs,rel,dd⟩⟩:=vn I.bC e;let hz:xs.length≤sizeLine:=by rw[←PL rel];show z
  let hl:(putK aq k v).length≤sizeLine:=by have:=Q3 aq k v;lia
  show wpAny_setItem_heap (hsz:=hz) (Ij hu) (HA I.bC eb) dd λh' CC hs=>h _ ?_;let⟨q,es,ep,hq,h2,h3,h4,_,h5⟩:=CC;show P1 I (by rw[e];show True.intro) hs ⟨q,hq⟩ ⟨hl,hd,_,(rel.put k eb rv).keeps λc ys ec=>?_,q,es,ep,hq,h2,h3,h4,h5⟩;rw[Ay (uQ ec e (λz=>nomatch z))];show ec
end
section
variable {H: A4}{aq: List (A7×V)}
def xf(I:Inv X v0 σ H s)(e:Rd H a (.dK aq))(h:∀t s',Inv X v0 σ H s'→Q (.int aq.length t) s'):wpAny (model X.prog X.w) A (call (.builtin "len") [.ref a]) Q E s:=by
 let⟨z,hd,⟨vs,rel,dd⟩⟩:=Hc I.bC e;show call_len_dict hd dd (by rw[←rel.length];rw[CN]at z;lia) ?_;rw[←rel.length];show h _ _ (I.tok _)
end
abbrev Jm(i:Expr):Prop:=∀ov iv,subscripted i false ov iv=operate [ov,iv] (getItem ov iv)
def RM{prog:Program}{A:Around}{E:xz}{s:Shared}{env:Env}{value slice:Expr}{pos:Pos}{T id:String}
  (hl:typeLookup (.type T) "__getitem__" = pure (some (.builtin id))) (hs:Jm slice)
  (h:wpAny (model prog w) A (eval value env) (λo s₁=>wpAny (model prog w) A (eval slice env) (λi s₂=>s₂.TypeIs o T∧wpAny (model prog w) A (getItem o i) Q E s₂) E s₁) E s) :
  wpAny (model prog w) A (eval (.Subscript value slice pos) env) Q E s:=by
 show Subscript_ (BV h (λo s₁ h₁=>BV h₁ (λi s₂ h₂=>?_) λ_ _ x=>x) λ_ _ x=>x);obtain⟨hT,h₂⟩:=h₂;unfold subscriptTail;show A6 ?_;rw[getitemInPython_of_ne hT.not_modules];show A6 (wpAny_specialOf hT hl ?_);let fin:wpAny (model prog w) A (subscripted slice false o i) (λr s₃=>wpAny (model prog w) A (letTemporaryGo value o r >>= λ_=>pure r) Q E s₃) E s₂:=by
  rw[hs o i];show wpAny_operating (BV h₂ (λr s₃ h₃=>A6 (wpAny_letTemporaryGo (AL h₃))) λ_ _ x=>x)
 first
  |show AL (A6 fin)
  |show A6 (AL (A6 fin))
  |show A6 fin
def acR{X:Cx}{v0:ac}{σ:St}{s:Shared}{a:Addr}(I:Inv X v0 σ H s)(g:kz H a y o):s.TypeIs (.ref a) "dict" := by
 rcases g with⟨aq,k,e,_,_⟩|⟨aq,k,b,e,_,_,_⟩
 ·let⟨_,_,⟨vs,_,dd⟩⟩:=Hc I.bC e
  show dd.typeIs
 ·let⟨_,_,⟨xs,_,dd⟩⟩:=Ji I.bC e
  show dd.typeIs
abbrev ab2(td ty:AQ):AQ:=λσ H Q=>td σ H λx H1=>ty σ H1 λy H2=>∃a v,x=.ref a∧kz H2 a y (some v)∧Q v H2
abbrev ym(td ty tv:AQ):Be:=λD σ H=>tv σ H λv H1=>td σ H1 λx H2=>ty σ H2 λy H3=>∃a H4,x=.ref a∧xU H3 a y v H4∧D.nx σ H4
section
variable {o i value: Expr}{pos': Pos}{td ty tv: AQ}
def yz(hu:X.A.units+1<cLine)(ho:PE X o td)(hi:PE X i ty)(hs:Jm i):PE X (.Subscript o i pos) (ab2 td ty):=by
 show .mk ?_;intro v0 s σ H Q I h;show RM acs.lookup hs (AF (ho v0 s σ H _ I h) λu s1 ξ=>Ξ23 ξ λx H1 I1 rx q1=>AF (hi v0 s1 σ H1 _ I1 q1) λiv s2⟨y,H2,I2,ry,a,v,ex,g,q2⟩=>?_);subst ex;obtain rfl:u=Value.ref a:=rx;show⟨acR I2 g,nR hu I2 g ry λw' s3 I3 oP=>Ψ2 v H2 ⟨I3,oP,q2⟩⟩
def Y0(hu:X.A.units+1<cLine)(ho:PE X o td)(hi:PE X i ty)(hv:PE X value tv)(hs:swapsWith value (some (.Subscript o i pos')) pos.line X.env=pure false):
  PS X (.Assign [.Subscript o i pos'] value pos) (ym td ty tv):=by
 show .mk ?_;intro v0 s σ H D I h;show wpAny_Assign_Subscript (AF (hv v0 s σ H _ I h) λr s1 ξ=>Ξ23 ξ λv H1 I1 rv q1=>AF (ho v0 s1 σ H1 _ I1 q1) λu s2 ξ=>Ξ23 ξ λx H2 I2 rx q2=>AF (hi v0 s2 σ H2 _ I2 q2) λiv s3⟨y,H3,I3,ry,a,H4,ex,g,q3⟩=>?_) hs;subst ex;obtain rfl:u=Value.ref a:=rx;show pA hu I3 g ry rv λs4 I4=>Ψ2 σ H4 ⟨I4,q3⟩
end
def fk(h:Heap)(hb:sysModules<h.objs.size):bj P w H (h.push {cls:=.type "dict",data:=.dict #[]}) h.objs.size (.dK []):=
 ⟨EY _,aa5.mpr (C3 (BB hb)),[],.nil,Heap.DictOf.new h⟩
def vH(h:Heap)(hb:sysModules<h.objs.size):bj P w H (h.push {cls:=.type "dict",data:=.dict #[]}) h.objs.size (.dT []):=
 ⟨EY _,aa5.mpr (C3 (BB hb)),[],.nil,_,#[],0,CW _ rfl,⟨rfl,rfl,rfl⟩,rfl,rfl,Nq⟩
abbrev uS:AQ:=λ_ H Q=>∀p,H p=none→Q (.ref p) (AI H p (.dT []))
section
def xA:PE X (.Dict [] [] pos) uS:=.mk λv0 s σ H Q I h=>
 wpAny_Dict_empty ⟨.ref s.heap.objs.size,_,I.laid (a:=s.heap.objs.size) (o:=.dT []) (t':=s.toks) (λ_ _ q=>Aw _ q) (Ah _) (vH s.heap I.big),rfl,h _ (I.bC.fresh (Ah _))⟩
end
structure cQ(X:Cx)(o:Expr)(m:Str)(apos:Pos)(e:Expr)(dD:Pos):Prop where
 base:attributeBase o m X.env (eval o X.env)=eval o X.env
 few:((backTo dD (starEach [e] X.env)).all (λx=>!x.1)&&(backToKw dD (keywordEach [] X.env)).all (λx=>x.1.isSome)
  && decide (([e]:List Expr).length+([]:List Keyword).length+(if([]:List Keyword).isEmpty then 0 else 1)<30))=true
 line:(apos.endLine==dD.line)=true
 trees:backTo dD (starEach [e] X.env)=[(false,eval e X.env)]
section
variable {H: A4}{y d: V}{u: Value}{o: Option V}
def qT(hu:A.units+1<cLine)(I:Inv X v0 σ H s)(g:kz H a y o)(ry:RelV y u)(h:∀w' s',Inv X v0 σ H s'→RelV (o.getD .non) w'→Q w' s'):
  wpAny (model X.prog X.w) A (call (.builtin "dict.get") [.ref a,u]) Q E s:=by
 rcases g with⟨aq,k,e,ey,l⟩|⟨aq,k,b,e,ey,eb,l⟩
 ·subst ey
  let⟨z,hd,⟨vs,rel,dd⟩⟩:=Hc I.bC e;show Kl F4 dd.typeIs LU (Qx _ _) (meets_dict_get (AR X.prog X.w) a (FQ ry) hd) ⟨_,dd.mapOf,h _ _ (I.tok _) ?_⟩;rw[l];show(rel.val k).getD rfl
 ·subst ey
  cases(show u=Value.ref b from ry);let⟨z,hd,⟨xs,rel,dd⟩⟩:=Ji I.bC e;show Kl F4 dd.typeIs LU (Qx _ _) (meetsH_dict_get (tupleKind (AR X.prog X.w)) a b hd) ⟨Ij hu,k,xs,HA I.bC eb,dd,h _ _ (I.tok _) ?_⟩;rw[l];show(rel.val k).getD rfl
def om(hu:A.units+1<cLine)(I:Inv X v0 σ H s)(g:kz H a y o)(ry:RelV y u)(rd:RelV d r)(h:∀w' s',Inv X v0 σ H s'→RelV (o.getD d) w'→Q w' s'):
  wpAny (model X.prog X.w) A (call (.builtin "dict.get") [.ref a,u,r]) Q E s:=by
 rcases g with⟨aq,k,e,ey,l⟩|⟨aq,k,b,e,ey,eb,l⟩
 ·subst ey
  let⟨z,hd,⟨vs,rel,dd⟩⟩:=Hc I.bC e;show Kl F4 dd.typeIs LU (Z8 _ _ _) (meets_dict_get_default (AR X.prog X.w) a (FQ ry) hd r) ⟨_,dd.mapOf,h _ _ (I.tok _) ?_⟩;rw[l];show(rel.val k).getD rd
 ·subst ey
  cases(show u=Value.ref b from ry);let⟨z,hd,⟨xs,rel,dd⟩⟩:=Ji I.bC e;show Kl F4 dd.typeIs LU (Z8 _ _ _) (meetsH_dict_get_default (tupleKind (AR X.prog X.w)) a b hd r) ⟨Ij hu,k,xs,HA I.bC eb,dd,h _ _ (I.tok _) ?_⟩;rw[l];show(rel.val k).getD rd
end
section
variable {H: A4}{aq: List (A7×V)}
def yT(I:Inv X v0 σ H s)(e:Rd H a (.dK aq))(h:∀p s',H p=none→Inv X v0 σ (AI H p (.dK aq)) s'→Q (.ref p) s'):wpAny (model X.prog X.w) A (call (.type "dict") [.ref a]) Q E s:=by
 let⟨z,hd,⟨vs,rel,dd⟩⟩:=Hc I.bC e;show kt_call_dict hd dd (by rw[←rel.length];show z) λh' CC hs=>?_;show h _ _ (I.bC.fresh (Ah _)) (I.laid (a:=s.heap.objs.size) (o:=.dK aq) (t':=s.toks) (λb q hq=>?_) (Ah _) (P4 z (aa5.mpr (C3 (BB I.big))) rel CC));show(hs.2 b (BB (B5 hq))).trans (Aw _ hq)
end
end L2
namespace L2
open PySem PySem.Spec PyProof.Rows
variable {X: Cx}
section
def aa3:Eg X (.builtin "len") (λxs H Q=>∃a aq,xs=[V.ref a]∧H a=some (.dK aq)∧Q (.int aq.length) H):=by
 intro v0 s σ H xs us Q I r h;let⟨a,aq,rfl,ha,q⟩:=h;let⟨u,rfl,ru⟩:=vals1 r;cases ru;show xf I (.inl ha) λt s' I'=>Ψ2 (.int aq.length) H ⟨I',⟨t,rfl⟩,q⟩
end
section
variable {κ: Type}[DecidableEq κ]
end
section
variable {o: Expr}
def aa8(hu:X.A.units+1<cLine):iS X (compareOp .In) (λy x H Q=>∃a o,x=.ref a∧kz H a y o∧Q (.bl o.isSome) H):=by
 intro v0 s σ H y x u v Q I ry rx h;let⟨a,o,rfl,g,q⟩:=h;cases rx;show adu hu I g ry λs3 I3=>Ψ2 (.bl o.isSome) H ⟨I3,rfl,q⟩
def ads(hu:X.A.units+1<cLine):iS X (compareOp .NotIn) (λy x H Q=>∃a o,x=.ref a∧kz H a y o∧Q (.bl (!o.isSome)) H):=by
 intro v0 s σ H y x u v Q I ry rx h;let⟨a,o,rfl,g,q⟩:=h;cases rx;show nH hu I g ry λs3 I3=>Ψ2 (.bl (!o.isSome)) H ⟨I3,rfl,q⟩
end
end L2
namespace Sr
open PySem PyProof.Rows
section
variable {Kk: Type}[DecidableEq Kk]
end
end Sr
namespace Sr
open PySem PyProof.Rows
section
variable {K: Type}[DecidableEq K]
end
end Sr
namespace Sr
open PySem PyProof.Rows
section
variable {Kk: Type}[DecidableEq Kk]
end
end Sr
namespace Sr
open PySem PyProof.Rows
def PJ{l:List Keyed}(h:1≤l.length):∃l' x,l=l'++[x]:=by
 rcases List.eq_nil_or_concat l with e|⟨l',x,e⟩
 ·rw[e]at h;show absurd h (by decide)
 ·show Ψ2 l' x (by rw[e,List.concat_eq_append])
@[reducible]def rv(out:Array Keyed):List Keyed:=out.toList.reverse
end Sr
namespace Sr
open PySem PyProof.Rows
section
variable {Kk: Type}[DecidableEq Kk]
end
end Sr
namespace L2
open PySem PySem.Spec PyProof.Rows
def rU{prog:Program}{w:World}{A:Around}{R:Result→Shared→Prop}{s:Shared}{kx CK target iter:Expr}{scope:Scope}{pos:Pos}{it:Value}{D:Addr}{env:Env}(I:Nat→Shared→Prop)
  (turn:∀n s,I n s→wpAny (model prog w) A (pyNext it) (λr s₁=>match r with
   |none=>R (.ok .next) s₁
   |some v=>wpAny (model prog w) A (letOwnedTupleGo target it v) (λ_ DJ=>wpAny (model prog w) A (assign target env v) (λ_ s₂=>
      wpAny (model prog w) A (eval kx env) (λkv s₃=>wpAny (model prog w) A (eval CK env) (λvv s₄=>
       wpAny (model prog w) A (dictSet D kv vv) (λ_ s₅=>∃m,m<n∧I m s₅) (notedBy (model prog w) A env λe s'=>R (.error e) s') s₄) (notedBy (model prog w) A env λe s'=>R (.error e) s') s₃) (notedBy (model prog w) A env λe s'=>R (.error e) s') s₂) (notedBy (model prog w) A env λe s'=>R (.error e) s') DJ) (notedBy (model prog w) A env λe s'=>R (.error e) s') s₁) (notedBy (model prog w) A env λe s'=>R (.error e) s') s)
  (n:Nat) (h:I n s) :
  codeAny (model prog w) A (.compLoop (.DictComp kx CK [⟨target,iter,[],0⟩] scope pos) 0 it (.ref D) env) R s:=by
 show Ny rfl I (λn s hI=>?_) n h;show wpAny _ A ((compTurn (.DictComp kx CK [⟨target,iter,[],0⟩] scope pos) 0 it (.ref D) env).onRaise (λx=>do noteFrame x env;theTreesLotGoes x)) _ _ s
 show wpAny_noted ?_;rw[compTurn_dict];show A6 (GD (A6 (BV (turn n s hI) (λr s₁ h₁=>?_) λ_ _ h'=>h')));cases r with
 |none=>show AL h₁
 |some v=>
  show A6 (BV h₁ (λ_ DJ NK=>?_) λ_ _ h'=>h');show A6 (BV NK (λ_ s₂ h₂=>A6 (wpAny_tests_nil ?_)) λ_ _ h'=>h');show A6 (A6 (BV h₂ (λkv s₃ h₃=>A6 (Ep (BV h₃ (λvv s₄ h₄=>A6 (GD (Ep (BV h₄ (λ_ s₅ h₅=>AL ⟨rfl,h₅⟩) λ_ _ h'=>h')))) λ_ _ h'=>h'))) λ_ _ h'=>h'))
section
variable {X: Cx}{v0: List (Addr×Obj)}{σ: St}{H: A4}{s: Shared}{A: Around}{E: Value→Shared→Prop}{a: Addr}{aq: List (A7×V)}{k: A7}{v: V}{u r: Value}
def kA{Q:Unit→Shared→Prop}(I:Inv X v0 σ H s)(e:H a=some (.dK aq))(l:aq.length<sizeLine)(ry:RelV (Au k) u)(rv:RelV v r)(h:∀s',Inv X v0 σ (AI H a (.dK (putK aq k v))) s'→Q () s'):
  wpAny (model X.prog X.w) A (dictSet a u r) Q E s:=by
 let⟨z,hd,⟨vs,rel,dd⟩⟩:=Oz I.bC e;let hz:vs.length≤sizeLine:=by rw[←rel.length];show z
 let hl:(putK aq k v).length≤sizeLine:=by have:=Q3 aq k v;lia
 unfold dictSet
 try with_reducible refine Ep ?_
 show A6 ((AR X.prog X.w).pyHash (FQ ry) ?_);let I1:=I.tok (s.toks+1);show wpAny_dictSetHashed_pairs (knd:=AR X.prog X.w) (s:={s with toks:=s.toks+1}) (FQ ry) dd (λh' CC hs=>h _ ?_) hz;let he:∃q,h'.get? a=some q:=let⟨q,_,_,hq,_⟩:=CC;⟨q,hq⟩
 show P1 I1 (by rw[e];show True.intro) hs he (P4 hl hd (rel.put k rv) CC)
end
abbrev ax(wi:DI)(g:DL)(tk tv:AQ)(own:List Str)(cap:List (Nat×Str)):AQ:=λσ H Q=>wi σ H λJ H1=>∀D,H1 D=none→
 ∃W:Nat→Nat→St→List (A7×V)→A4→Prop,(∃m,W 0 m (F5 own cap σ) [] (AI H1 D (.dK [])))∧∀i m σ' aq H',W i m σ' aq H'→H' D=some (.dK aq)∧
  ((J.stop i H'∧Q (.ref D) H')∨(J.go i H'∧aq.length<sizeLine∧∃N:St→List (A7×V)→A4→Prop,(∀σ aq H,N σ aq H→∃m',m' < m∧W (i+1) m' σ aq H)∧∀x H2,J.qI i H' x H2→g x σ' H2 λσ3 H3=>tk σ3 H3 λy H4=>tv σ3 H4 λz H5=>∃k,y=Au k∧H5 D=some (.dK aq)∧
   N σ3 (putK aq k z) (AI H5 D (.dK (putK aq k z)))))
section
variable {X: Cx}{scope: Scope}{cl: List (Str×Addr)}{own: List Str}{cap: List (Nat×Str)}{tg iter kx CK: Expr}{wi: DI}{g: DL}{tk tv: AQ}{pos: Pos}
def xx(c:cT X scope cl own cap)(hc:X.calm=true)(hi:PI X tg iter wi)
  (hg:∀C s H fp,PG (BK X (own++cap.map (·.2)) scope cl C s H fp λ_ _=>False) tg g)
  (hk:∀C s H fp,PE (BK X (own++cap.map (·.2)) scope cl C s H fp λ_ _=>False) kx tk)
  (hv:∀C s H fp,PE (BK X (own++cap.map (·.2)) scope cl C s H fp λ_ _=>False) CK tv) (hs:∀x,foldedSetIterable iter X.env x=pure x:=by intro _;rfl) :
  PE X (.DictComp kx CK [⟨tg,iter,[],0⟩] scope pos) (ax wi g tk tv own cap):=by
 show .mk ?_;intro v0 s σ H Q I h;show wpAny _ X.A (comprehension (.DictComp kx CK [⟨tg,iter,[],0⟩] scope pos) scope X.env _ newDict false (eval iter X.env)) _ _ s
 show Jr (use:=none) rfl hs c.xE c.kind c.names (AF (hi v0 s σ H _ I h) λv s1 h1=>AF h1 λKL s2 h2=>?_);let⟨it,fp,tn,J,H2,e,I2,T,oC,f2,hw⟩:=h2;subst e;show Fy (MT c.cell (by intro y hy;simp at hy) (λh₁ iM hJ=>?_) c.kind) (by size_fits);dsimp only at iM hJ ⊢;let hO:=fk (P:=X.prog) (w:=X.w) (H:=AI H2 s2.heap.objs.size (.dK [])) s2.heap I2.big;generalize hOO:({cls:=.type "dict",data:=.dict #[]}:Obj)=O at hO iM hJ ⊢;let hsz:(s2.heap.push O).objs.size=s2.heap.objs.size+1:=FG _ _;let kk:∀b o,s2.heap.get? b=some o→h₁.get? b=some o:=λb o e=>hJ.extBut b o (by rw[hsz];show BB (HJ (B5 e))) (Aw _ (Aw _ e));let N1:bj X.prog X.w (AI H2 s2.heap.objs.size (.dK [])) h₁ s2.heap.objs.size (.dK []):=by
  show hO.tE (λb u hb q=>?_) (λ_ q=>q) λ_ _ q=>q;rcases hb with rfl|hb
  ·show hJ.extBut _ _ (by rw[hsz];show BB (Hh _)) (Aw _ q)
  ·by_cases z:b=s2.heap.objs.size
   ·subst z;rw[B9]at hb;cases hb
   ·rw[Ay z]at hb
    let lt:b<s2.heap.objs.size:=I2.bC.lt hb;show hJ.extBut _ _ (by rw[hsz];show BB (HJ lt)) (Aw _ q)
 rw[hsz]at iM ⊢;let dB:∀b∈fp,b<s2.heap.objs.size:=λb hb=>by
  let⟨o,e,_⟩:=T.obj _ _ oC b hb;show B5 e
 let⟨W,⟨m0,w0⟩,turn⟩:=hw s2.heap.objs.size I2.fresh;let J1:=Ng (E:=λ_ _=>False) c I2 f2 dB (tk:=s2.toks+([]:List (Str×Value)).length) kk N1 iM;generalize eW:BK X (own++cap.map (·.2)) scope cl (s2.heap.objs.size+1) s2 H2 fp (λ_ _=>False)=X' at J1;let IB:PG X' tg g:=eW ▸ hg _ _ _ _;let hk':PE X' kx tk:=eW ▸ hk _ _ _ _;let Cw:PE X' CK tv:=eW ▸ hv _ _ _ _;let pX:X'.prog=X.prog:=by rw[←eW];rfl
 let wX:X'.w=X.w:=by rw[←eW];rfl
 let kX:X'.K=X.K:=by rw[←eW];rfl
 let aX:X'.A=X.A:=by rw[←eW];rfl
 let cX:X'.calm=true:=by rw[←eW];show hc
 let E8:X'.env=compEnvC scope cl (s2.heap.objs.size+1) X.env:=by rw[←eW];rfl
 let xX:X'.xe=λ_ _=>False:=by rw[←eW];rfl
 let fX:∀b∈fp,∀{H':A4},H' b=none→DO X' [] H' b:=λb hb {H'} hn=>by
  let o1:=(Fg (E:=λ_ _=>False) c I2 f2 dB (C:=s2.heap.objs.size+1) (BR _)).Gy b hb;let o2:=(Fg (E:=λ_ _=>False) c I2 f2 dB (C:=s2.heap.objs.size+1) (BR _)).qD b hb;rw[←eW];show⟨hn,o1.1,o2,.inl hb,o1.2,λp hp=>absurd (show p∈([]:ac)from hp) (by simp)⟩
 let ID:∀D C s' H' m,Inv X v0 σ H' s'→DO X v0 H' C→s'.heap.Ns C m→Q (.ref D) H'→compPost (model X.prog X.w) X.A X.xe none (BX X v0 σ Q) (.ref D) C (.ok .next) s':=by
  intro D C s' H' m I' hC hm q;show⟨m,hm,λh' gM=>Ψ2 (.ref D) H' ⟨?_,rfl,q⟩⟩;show I'.turned (t':=s'.toks) (λb o hb e=>(gM.2 b hb).trans e) hC.1 hC.2.1 hC.2.2.2.1 hC.2.2.2.2.1 hC.2.2.2.2.2
 let fin:∀{σ':St} {H':A4} {s':Shared},Inv X' [] σ' H' s'→Q (.ref s2.heap.objs.size) H'→compPost (model X.prog X.w) X.A X.xe none (BX X v0 σ Q) (.ref s2.heap.objs.size) (s2.heap.objs.size+1) (.ok .next) s':=λ{σ' H' s'} J' q=>by
  rw[←eW]at J';let⟨A1,A2⟩:=ML I2 f2 (BR _) J';let⟨m,hm,_⟩:=J'.loc;show ID _ _ s' H' m A1 A2 hm q
 let loop:codeAny (model X.prog X.w) X.A (.compLoop (.DictComp kx CK [⟨tg,iter,[],0⟩] scope pos) 0 (.ref it) (.ref s2.heap.objs.size) (compEnvC scope cl (s2.heap.objs.size+1) X.env)) (compPost (model X.prog X.w) X.A X.xe none (BX X v0 σ Q) (.ref s2.heap.objs.size) (s2.heap.objs.size+1))
   {s2 with heap:=h₁,toks:=s2.toks+([]:List (Str×Value)).length}:=by
  show rU (λn s'=>∃i σ' aq H',Inv X' [] σ' H' s'∧tn i s'.heap∧(∀b∈fp,H' b=none)∧W i n σ' aq H') ?_ m0
   ⟨0,_,_,_,J1,T.keep _ _ _ oC λb _ o e=>kk b o e,λb hb=>by rw[Ay (BB (dB b hb))];show(f2 b hb).1,w0⟩
  intro n s3⟨i,σ3,aq,H3,I3,t7,xq,w3⟩;let⟨O1,w4⟩:=turn i n σ3 aq H3 w3;rw[←E8,←aX,←pX,←wX];let i0:∀{α:Type} {t:Sem α} {Q1:α→Shared→Prop} {E1:xz} {s:Shared},wpAny (model X'.prog X'.w) X'.A t Q1 X'.xe s→wpAny (model X'.prog X'.w) X'.A t Q1 E1 s:=λ{α t Q1 E1 s} h=>by
   rw[xX]at h;show BV h (λ_ _ q=>q) λ_ _ f=>f.elim
  rcases w4 with⟨stop,qn⟩|⟨go,hz,N,hN,step⟩
  ·let d:=T.done X' pX wX kX cX i [] s3 σ3 H3 X'.xe I3 (λb hb=>fX b hb (xq b hb)) t7 stop
   rw[←pX,←wX]at d;show i0 (AF d λr s4 ξ=>Ξ02 ξ λhr I4=>?_);subst hr;let f4:=fin I4 qn;rw[←pX,←wX,←aX]at f4;show f4
  ·let d:=T.item X' pX wX kX cX i [] s3 σ3 H3 X'.xe I3 (λb hb=>fX b hb (xq b hb)) t7 go
   rw[←pX,←wX]at d;show i0 (AF d λr s4 ξ=>Ξ12 ξ λu hr h4=>?_);subst hr;show i0 (AF h4 λ_ s5 ξ=>Ξ25 ξ λx H5 I5 r5 y5 rq Fx=>?_);let Gi:=I5.pinned (λb hb=>fX b hb (Fx b hb)) (T.obj _ _ rq);let again:∀{σ7:St} {H7:A4} {s7:Shared} {mZ:List (A7×V)},Inv X' ([]++Ht fp s5.heap) σ7 H7 s7→N σ7 mZ H7→
     ∃m,m<n∧∃i σ' aq H',Inv X' [] σ' H' s7∧tn i s7.heap∧(∀b∈fp,H' b=none)∧W i m σ' aq H':=λ{σ7 H7 s7 mZ} I7 n7=>by
    let⟨m',hm,w7⟩:=hN _ _ _ n7;show⟨m',hm,i+1,σ7,mZ,H7,I7.gR,T.keep _ _ _ rq λb hb o e=>(I7.pin (b,o) (CZ _ (CZ _ (G2 hb e)))).1,λb hb=>?_,w7⟩;let⟨o,e,d⟩:=T.obj _ _ rq b hb;show(I7.pin (b,o) (CZ _ (CZ _ (G2 hb e)))).2.1
   show i0 (AF (IB _ s5 σ3 H5 x u _ Gi r5 (step x H5 y5)) λ_ s6 ξ=>Ξ22 ξ λσ6 H6 I6 q6=>?_);show i0 (AF (hk' _ s6 σ6 H6 _ I6 q6) λu7 s7 ξ=>Ξ23 ξ λy7 H7 I7 r7 q7=>?_);show i0 (AF (Cw _ s7 σ6 H7 _ I7 q7) λu8 s8⟨y8,H8,I8,r8,k8,e8,d8,q8⟩=>?_);subst e8;show i0 (kA I8 d8 hz r7 r8 λs9 I9=>again I9 q8)
 show codeAny_compStart_dict loop (T.self X.A 0 _ _ _ (T.keep _ _ _ oC λb _ o e=>kk b o e) loop)
end
end L2
namespace L2
open PySem PySem.Spec PyProof.Rows
variable {P:Program}{w:World}{s: Shared}{pos: Pos}{X: Cx}{e: Expr}
abbrev Br(P:Program)(w:World)(K:W.Frag)(a:Addr)(aq:List (Str×Addr)):Prop:=
 ∃(o:Obj) (es:Array DictEntry) (ep:Nat),K.lookup a=some o∧o.ExactDict∧o.data=.dict es ep∧KeysOf (AR P w) es∧Pairs (AR P w) es.toList (aq.map λp=>((Sum.inr p.1:A7),Value.ref p.2))∧(aq.map (·.1)).Nodup∧(a==sysModules)=false
inductive qG(w:World):List DictEntry→List (Str×Addr)→Prop
 |nil:qG w [] []
 |cons {z:Str} {t:Tok} {a:Addr} {es:List DictEntry} {aq:List (Str×Addr)} {hh:Int} (e:hh=hashStr w z) (r:qG w es aq):qG w (⟨hh,.str z t,.ref a⟩::es) ((z,a)::aq)
def qG.keys:∀{es:List DictEntry} {aq:List (Str×Addr)},qG w es aq→∀e∈es,∃k,(AR P w).is k e.key=true∧e.hash=(AR P w).hash k
 |_,_,.nil,e,h=>by simp at h
 |_,_,.cons e1 r,e,h=>by
  rcases aaf.mp h with rfl|h
  ·show⟨.inr _,SY _ _ _ _,e1⟩
  ·show qG.keys r e h
def qG.pairs:∀{es:List DictEntry} {aq:List (Str×Addr)},qG w es aq→Pairs (AR P w) es (aq.map λp=>((Sum.inr p.1:A7),Value.ref p.2))
 |_,_,.nil=>.nil
 |_,_,.cons e1 r=>.cons (SY _ _ _ _) rfl (qG.pairs r)
def zf{K:W.Frag}{a:Addr}{aq:List (Str×Addr)}{es:List DictEntry}{ep:Nat}(l:K.lookup a=some ⟨.type "dict",none,.dict es.toArray ep,#[]⟩)(h:qG w es aq)(nd:(aq.map (·.1)).Nodup)(hs:(a==sysModules)=false):Br P w K a aq:=
 ⟨_,_,_,l,⟨rfl,rfl,rfl⟩,rfl,λe he=>h.keys e (by simpa using he),h.pairs,nd,hs⟩
def Sl:∀(aq:List (Str×Addr)) (z:Str),valueAt (aq.map λp=>((Sum.inr p.1:A7),Value.ref p.2)) (.inr z)=(aq.lookup z).map Value.ref
 |[],z=>rfl
 |(y,b)::r,z=>by
  let ih:=Sl r z;unfold valueAt at ih ⊢;rw[BU,Et,GZ];by_cases h:y=z
  ·subst h;simp
  ·let h1:¬((Sum.inr y:A7)=Sum.inr z):=λe=>h (Kr e)
   let h2:(z==y)=false:=by rw[aa5];exactλe=>h e.symm
   rw[h2];simp only[h1,decide_false];show ih
section
variable {v0: List (Addr×Obj)}{σ: St}{H: A4}{a: Addr}{aq: List (Str×Addr)}
def uY:∀{l:List (Str×Addr)},(l.map (·.1)).Nodup→((l.map λp=>((Sum.inr p.1:A7),Value.ref p.2)).map (·.1)).Nodup:=λ{l} h=>by
 rw[D2];have:(l.map ((·.1) ∘ λp:Str×Addr=>((Sum.inr p.1:A7),Value.ref p.2)))=(l.map (·.1)).map (Sum.inr:Str→A7):=by rw[D2];rfl
 rw[this];show List.Pairwise.map _ (λa b h e=>h (Kr e)) h
def Br.at(k:Br X.prog X.w X.K a aq)(I:Inv X v0 σ H s):(a==sysModules)=false∧s.heap.DictOf (AR X.prog X.w) a (aq.map λp=>((Sum.inr p.1:A7),Value.ref p.2)):=by
 let⟨o,es,ep,l,ex,d,ko,pr,nd,hs⟩:=k;show⟨hs,o,es,ep,I.nQ _ _ l,ex,d,ko,pr,uY nd⟩
end
abbrev aaY(P:Program)(w:World)(K:W.Frag)(td ty:AQ):AQ:=λσ H Q=>td σ H λx H1=>ty σ H1 λy H2=>∃a aq z b,x=.ref a∧Br P w K a aq∧y=.str z∧aq.lookup z=some b∧Q (.ref b) H2
abbrev adx(P:Program)(w:World)(K:W.Frag)(td ty:AQ):AQ:=λσ H Q=>td σ H λx H1=>∃a aq,x=.ref a∧Br P w K a aq∧ty σ H1 λy H2=>∃z,y=.str z∧(∀b,aq.lookup z=some b→Q (.ref b) H2)∧(aq.lookup z=none→Q .non H2)
section
variable {o i: Expr}{apos dD: Pos}{td ty: AQ}
def zW(ho:PE X o td)(hi:PE X i ty)(hs:Jm i):PE X (.Subscript o i pos) (aaY X.prog X.w X.K td ty):=by
 show .mk ?_;intro v0 s σ H Q I h;show RM acs.lookup hs (AF (ho v0 s σ H _ I h) λu s1 ξ=>Ξ23 ξ λx H1 I1 rx q1=>AF (hi v0 s1 σ H1 _ I1 q1) λiv s2⟨y,H2,I2,ry,a,aq,z,b,ex,kd,ey,l,q2⟩=>?_);subst ex ey;obtain rfl:u=Value.ref a:=rx;let⟨hd,dd⟩:=kd.at I2;let hw:valueAt (aq.map λp=>((Sum.inr p.1:A7),Value.ref p.2)) (.inr z)=some (Value.ref b):=by rw[Sl,l];rfl
 show⟨dd.typeIs,Ug (FQ (k:=.inr z) ry) dd.mapOf hw ⟨.ref b,H2,I2.tok _,rfl,q2⟩⟩
def yv(ho:PE X o td)(he:PE X e ty)(m:cQ X o "get" apos e dD):PE X (.Call (.Attribute o "get" apos) [e] [] dD) (adx X.prog X.w X.K td ty):=by
 show .mk ?_;intro v0 s σ H Q I h;show wpAny_Call_method m.base m.few m.line GI F4 HN (AF (ho v0 s σ H _ I h) λu s1⟨x,H1,I1,rx,a,aq,ex,kd,q1⟩=>?_);subst ex;obtain rfl:u=Value.ref a:=rx;let⟨hd,dd⟩:=kd.at I1;show⟨dd.typeIs,dd.mapOf.noDict,?_⟩;rw[m.trees];show Uq rfl (Qo (Calls.spliced_cons (AF (he v0 s1 σ H1 _ I1 q1) λiv s2⟨y,H2,I2,ry,z,ey,q2,q3⟩=>Calls.spliced_nil ?_)));subst ey;let⟨hd,dd⟩:=kd.at I2;show Kl F4 dd.typeIs LU (Qx _ _) (meets_dict_get (AR X.prog X.w) a (FQ (k:=.inr z) ry) hd) ⟨_,dd.mapOf,?_⟩;rw[Sl];cases l:aq.lookup z with
 |none=>show Ψ2 (.non) H2 ⟨I2.tok _,rfl,q3 l⟩
 |some b=>show Ψ2 (.ref b) H2 ⟨I2.tok _,rfl,q2 b l⟩
end
section
def abC(hu:X.A.units+1<cLine):J8 X "dict.get" (λx vs H Q=>∃a y o,x=.ref a∧vs=[y]∧kz H a y o∧Q (o.getD .non) H):=by
 intro v0 s σ H x vs u us Q I rx rv h;let⟨a,y,o,rfl,rfl,g,q⟩:=h;cases rx;let⟨iv,rfl,ry⟩:=vals1 rv;show qT hu I g ry λw' s3 I3 oP=>Ψ2 _ H ⟨I3,oP,q⟩
def sL(hu:X.A.units+1<cLine):J8 X "dict.get" (λx vs H Q=>∃a y z o,x=.ref a∧vs=[y,z]∧kz H a y o∧Q (o.getD z) H):=by
 intro v0 s σ H x vs u us Q I rx rv h;let⟨a,y,z,o,rfl,rfl,g,q⟩:=h;cases rx;let⟨iv,zv,rfl,ry,rz⟩:=rv.two;show om hu I g ry rz λw' s3 I3 oP=>Ψ2 _ H ⟨I3,oP,q⟩
def abx:J8 X "dict.setdefault" (λx vs H Q=>∃a k z aq,x=.ref a∧vs=[Au k,z]∧H a=some (.dK aq)∧aq.length<sizeLine∧(∀v,DW aq k=some v→Q v H)∧(DW aq k=none→Q z (AI H a (.dK (putK aq k z))))):=by
 intro v0 s σ H x vs u us Q I rx rv h;let⟨a,k,z,aq,rfl,rfl,e,hl,q1,q2⟩:=h;cases rx;let⟨iv,zv,rfl,ry,rz⟩:=rv.two;let⟨hz,hd,⟨vs,rel,dd⟩⟩:=Oz I.bC e;let hz':vs.length≤sizeLine:=by rw[←rel.length];show hz
 show Kl jE dd.typeIs PySem.F.entry_dict_setdefault (PySem.F.args_dict_setdefault_3 _ _ _) (kt_meets_setdefault (AR X.prog X.w) a (FQ ry) hd zv) ⟨vs,dd,hz',λv hv=>?_,λhn h' CC gM=>?_⟩
 ·let rr:=rel.val k
  rw[hv]at rr;cases l:DW aq k with
  |none=>rw[l]at rr;show rr.elim
  |some v'=>rw[l]at rr;show Ψ2 v' H ⟨I.tok _,rr,q1 v' l⟩
 ·let rr:=rel.val k
  rw[hn]at rr;cases l:DW aq k with
  |some v'=>rw[l]at rr;show rr.elim
  |none=>
   let Yn:(putK aq k z).length≤sizeLine:=by have:=Q3 aq k z;lia
   let he:∃q,h'.get? a=some q:=let⟨q,_,_,hq,_⟩:=CC;⟨q,hq⟩
   show Ψ2 z _ ⟨P1 (t':=s.toks+1) I (by rw[e];show True.intro) gM he (P4 Yn hd (rel.put k rz) CC),rz,q2 l⟩
def uO:Eg X (.type "dict") (λxs H Q=>∃a aq,xs=[V.ref a]∧H a=some (.dK aq)∧∀p,H p=none→Q (.ref p) (AI H p (.dK aq))):=by
 intro v0 s σ H xs us Q I r h;let⟨a,aq,rfl,ha,q⟩:=h;let⟨u,rfl,ru⟩:=vals1 r;cases ru;show yT I (.inl ha) λp s' hp I'=>Ψ2 (.ref p) _ ⟨I',rfl,q p hp⟩
end
abbrev ly(P:Program)(w:World)(K:W.Frag)(mg:KK)(base:Heap)(f:Addr)(k:Nat)(ps:List Str)(sp:Dq):Prop:=
 ∃fd,bc P w K mg base Am k f fd ps sp∧W.keepIn K (.ref f)=true∧Binds K fd ps []
abbrev aaz(P:Program)(w:World)(K:W.Frag)(mg:KK)(base:Heap)(k:Nat)(ps:List Str)(i:Nat)(t:CM):AQ:=λσ H Q=>∃f sp,σ[i]?=some (some (.ref f))∧ly P w K mg base f k ps sp∧t σ H λvs H1=>sp vs H1 Q IU
section
variable {x: Str}{k j i: Nat}{ps: List Str}{p: Pos}{es: List Expr}{t: CM}
def abH(hr:dE j X.A)(hk:k≤j)(hN:X.N[i]?=some x)(hv:JY X.env.scope x)(ha:PA X (e::es) t)(hd:(x ==("__debug__" : Str))=false:=by decide)(xj:(x ==("__classdict__" : Str))=false:=by decide)
  (he:starEach (e::es) X.env=(false,eval e X.env)::starEach es X.env:=by rfl) (i7:(backTo pos (starEach es X.env)).any (·.1)=false:=by rfl):PE X (.Call (.Name x p) (e::es) [] pos) (aaz X.prog X.w X.K X.mg X.base k ps i t):=by
 show .mk ?_;intro v0 s σ H Q I h;obtain⟨f,sp,ex,⟨fd,F,kp,b⟩,h⟩:=h;let⟨m,hn,hl⟩:=I.loc;let⟨u,r,l⟩:=hl i x _ hN ex hv;cases r;let fin:wpAny (model X.prog X.w) X.A (callWith pos (.ref f) [] (backTo pos (starEach (e::es) X.env)) (backToKw pos (keywordEach [] X.env))) (BX X v0 σ Q) X.xe s:=by
  show LD (h₀:=X.base) I.ok.mod.KH kp (AF (ha pos v0 s σ H _ I h) λus s1 ξ=>Ξ23 ξ λvs H1 I1 r q=>⟨I1.nQ,?_⟩) he i7;show Qs F (hr.mono hk) b .nil cy I1 r (by rw[BN];show q)
 rcases l with⟨hk',hm⟩|⟨hk',c,hc,sk⟩
 ·show J3 (KA (QU I.ok.kind hk' hn hm fin) hd)
 ·rcases hk' with hk'|hk'
  ·show J3 (KA (Qd I.ok.kind hk' hc sk fin) hd)
  ·show J3 (KA (wpAny_loadName_free I.ok.kind hk' hc sk fin xj) hd)
end
def uP{prog:Program}{A:Around}{R:Result→Shared→Prop}{s:Shared}{kx CK target iter:Expr}{ifs:List Expr}{scope:Scope}{pos:Pos}{it:Value}{D:Addr}{env:Env}(I:Nat→Shared→Prop)
  (turn:∀n s,I n s→wpAny (model prog w) A (pyNext it) (λr s₁=>match r with
   |none=>R (.ok .next) s₁
   |some v=>wpAny (model prog w) A (letOwnedTupleGo target it v) (λ_ DJ=>wpAny (model prog w) A (assign target env v) (λ_ s₂=>
      wpAny (model prog w) A (forIn ifs true λc r=>if r=true then do let ok ←isTrue c env (eval c env);pure (ForInStep.yield ok)else pure (ForInStep.yield r)) (λok UZ=>if ok=true then wpAny (model prog w) A (eval kx env) (λkv s₃=>wpAny (model prog w) A (eval CK env) (λvv s₄=>
       wpAny (model prog w) A (dictSet D kv vv) (λ_ s₅=>∃m,m<n∧I m s₅) (notedBy (model prog w) A env λe s'=>R (.error e) s') s₄) (notedBy (model prog w) A env λe s'=>R (.error e) s') s₃) (notedBy (model prog w) A env λe s'=>R (.error e) s') UZ else ∃m,m<n∧I m UZ) (notedBy (model prog w) A env λe s'=>R (.error e) s') s₂) (notedBy (model prog w) A env λe s'=>R (.error e) s') DJ) (notedBy (model prog w) A env λe s'=>R (.error e) s') s₁) (notedBy (model prog w) A env λe s'=>R (.error e) s') s)
  (n:Nat) (h:I n s) :
  codeAny (model prog w) A (.compLoop (.DictComp kx CK [⟨target,iter,ifs,0⟩] scope pos) 0 it (.ref D) env) R s:=by
 show Ny rfl I (λn s hI=>?_) n h;show wpAny _ A ((compTurn (.DictComp kx CK [⟨target,iter,ifs,0⟩] scope pos) 0 it (.ref D) env).onRaise (λx=>do noteFrame x env;theTreesLotGoes x)) _ _ s
 show wpAny_noted ?_;rw[compTurn_dict];show A6 (GD (A6 (BV (turn n s hI) (λr s₁ h₁=>?_) λ_ _ h'=>h')));cases r with
 |none=>show AL h₁
 |some v=>
  show A6 (BV h₁ (λ_ DJ NK=>?_) λ_ _ h'=>h');show A6 (BV NK (λ_ s₂ h₂=>A6 (BV h₂ (λok UZ Ya=>?_) λ_ _ h'=>h')) λ_ _ h'=>h');cases ok with
  |false=>show AL ⟨rfl,Ya⟩
  |true=>
   show A6 (A6 (BV Ya (λkv s₃ h₃=>A6 (Ep (BV h₃ (λvv s₄ h₄=>A6 (GD (Ep (BV h₄ (λ_ s₅ h₅=>AL ⟨rfl,h₅⟩) λ_ _ h'=>h')))) λ_ _ h'=>h'))) λ_ _ h'=>h'))
abbrev iF(wi:DI)(g:DL)(tt:CR)(tk tv:AQ)(own:List Str)(cap:List (Nat×Str)):AQ:=λσ H Q=>wi σ H λJ H1=>∀D,H1 D=none→
 ∃W:Nat→Nat→St→List (A7×V)→A4→Prop,(∃m,W 0 m (F5 own cap σ) [] (AI H1 D (.dK [])))∧∀i m σ' aq H',W i m σ' aq H'→H' D=some (.dK aq)∧
  ((J.stop i H'∧Q (.ref D) H')∨(J.go i H'∧aq.length<sizeLine∧∃N:St→List (A7×V)→A4→Prop,(∀σ aq H,N σ aq H→∃m',m' < m∧W (i+1) m' σ aq H)∧∀x H2,J.qI i H' x H2→g x σ' H2 λσ3 H3=>tt σ3 H3 λok H3=>if ok=true then tk σ3 H3 λy H4=>tv σ3 H4 λz H5=>∃k,y=Au k∧H5 D=some (.dK aq)∧
   N σ3 (putK aq k z) (AI H5 D (.dK (putK aq k z)))else N σ3 aq H3))
section
variable {scope: Scope}{cl: List (Str×Addr)}{own: List Str}{cap: List (Nat×Str)}{tg iter kx CK: Expr}{ifs: List Expr}{tt: CR}{wi: DI}{g: DL}{tk tv: AQ}
def acV(c:cT X scope cl own cap)(hc:X.calm=true)(hi:PI X tg iter wi)
  (hg:∀C s H fp,PG (BK X (own++cap.map (·.2)) scope cl C s H fp λ_ _=>False) tg g)
  (ht:∀C s H fp,wa (BK X (own++cap.map (·.2)) scope cl C s H fp λ_ _=>False) ifs tt)
  (hk:∀C s H fp,PE (BK X (own++cap.map (·.2)) scope cl C s H fp λ_ _=>False) kx tk)
  (hv:∀C s H fp,PE (BK X (own++cap.map (·.2)) scope cl C s H fp λ_ _=>False) CK tv) (hs:∀x,foldedSetIterable iter X.env x=pure x:=by intro _;rfl) :
  PE X (.DictComp kx CK [⟨tg,iter,ifs,0⟩] scope pos) (iF wi g tt tk tv own cap):=by
 show .mk ?_;intro v0 s σ H Q I h;show wpAny _ X.A (comprehension (.DictComp kx CK [⟨tg,iter,ifs,0⟩] scope pos) scope X.env _ newDict false (eval iter X.env)) _ _ s
 show Jr (use:=none) rfl hs c.xE c.kind c.names (AF (hi v0 s σ H _ I h) λv s1 h1=>AF h1 λKL s2 h2=>?_);let⟨it,fp,tn,J,H2,e,I2,T,oC,f2,hw⟩:=h2;subst e;show Fy (MT c.cell (by intro y hy;simp at hy) (λh₁ iM hJ=>?_) c.kind) (by size_fits);dsimp only at iM hJ ⊢;let hO:=fk (P:=X.prog) (w:=X.w) (H:=AI H2 s2.heap.objs.size (.dK [])) s2.heap I2.big;generalize hOO:({cls:=.type "dict",data:=.dict #[]}:Obj)=O at hO iM hJ ⊢;let hsz:(s2.heap.push O).objs.size=s2.heap.objs.size+1:=FG _ _;let kk:∀b o,s2.heap.get? b=some o→h₁.get? b=some o:=λb o e=>hJ.extBut b o (by rw[hsz];show BB (HJ (B5 e))) (Aw _ (Aw _ e));let N1:bj X.prog X.w (AI H2 s2.heap.objs.size (.dK [])) h₁ s2.heap.objs.size (.dK []):=by
  show hO.tE (λb u hb q=>?_) (λ_ q=>q) λ_ _ q=>q;rcases hb with rfl|hb
  ·show hJ.extBut _ _ (by rw[hsz];show BB (Hh _)) (Aw _ q)
  ·by_cases z:b=s2.heap.objs.size
   ·subst z;rw[B9]at hb;cases hb
   ·rw[Ay z]at hb
    let lt:b<s2.heap.objs.size:=I2.bC.lt hb;show hJ.extBut _ _ (by rw[hsz];show BB (HJ lt)) (Aw _ q)
 rw[hsz]at iM ⊢;let dB:∀b∈fp,b<s2.heap.objs.size:=λb hb=>by
  let⟨o,e,_⟩:=T.obj _ _ oC b hb;show B5 e
 let⟨W,⟨m0,w0⟩,turn⟩:=hw s2.heap.objs.size I2.fresh;let J1:=Ng (E:=λ_ _=>False) c I2 f2 dB (tk:=s2.toks+([]:List (Str×Value)).length) kk N1 iM;generalize eW:BK X (own++cap.map (·.2)) scope cl (s2.heap.objs.size+1) s2 H2 fp (λ_ _=>False)=X' at J1;let IB:PG X' tg g:=eW ▸ hg _ _ _ _;let VU:wa X' ifs tt:=eW ▸ ht _ _ _ _;let hk':PE X' kx tk:=eW ▸ hk _ _ _ _;let Cw:PE X' CK tv:=eW ▸ hv _ _ _ _;let pX:X'.prog=X.prog:=by rw[←eW];rfl
 let wX:X'.w=X.w:=by rw[←eW];rfl
 let kX:X'.K=X.K:=by rw[←eW];rfl
 let aX:X'.A=X.A:=by rw[←eW];rfl
 let cX:X'.calm=true:=by rw[←eW];show hc
 let E8:X'.env=compEnvC scope cl (s2.heap.objs.size+1) X.env:=by rw[←eW];rfl
 let xX:X'.xe=λ_ _=>False:=by rw[←eW];rfl
 let fX:∀b∈fp,∀{H':A4},H' b=none→DO X' [] H' b:=λb hb {H'} hn=>by
  let o1:=(Fg (E:=λ_ _=>False) c I2 f2 dB (C:=s2.heap.objs.size+1) (BR _)).Gy b hb;let o2:=(Fg (E:=λ_ _=>False) c I2 f2 dB (C:=s2.heap.objs.size+1) (BR _)).qD b hb;rw[←eW];show⟨hn,o1.1,o2,.inl hb,o1.2,λp hp=>absurd (show p∈([]:ac)from hp) (by simp)⟩
 let ID:∀D C s' H' m,Inv X v0 σ H' s'→DO X v0 H' C→s'.heap.Ns C m→Q (.ref D) H'→compPost (model X.prog X.w) X.A X.xe none (BX X v0 σ Q) (.ref D) C (.ok .next) s':=by
  intro D C s' H' m I' hC hm q;show⟨m,hm,λh' gM=>Ψ2 (.ref D) H' ⟨?_,rfl,q⟩⟩;show I'.turned (t':=s'.toks) (λb o hb e=>(gM.2 b hb).trans e) hC.1 hC.2.1 hC.2.2.2.1 hC.2.2.2.2.1 hC.2.2.2.2.2
 let fin:∀{σ':St} {H':A4} {s':Shared},Inv X' [] σ' H' s'→Q (.ref s2.heap.objs.size) H'→compPost (model X.prog X.w) X.A X.xe none (BX X v0 σ Q) (.ref s2.heap.objs.size) (s2.heap.objs.size+1) (.ok .next) s':=λ{σ' H' s'} J' q=>by
  rw[←eW]at J';let⟨A1,A2⟩:=ML I2 f2 (BR _) J';let⟨m,hm,_⟩:=J'.loc;show ID _ _ s' H' m A1 A2 hm q
 let loop:codeAny (model X.prog X.w) X.A (.compLoop (.DictComp kx CK [⟨tg,iter,ifs,0⟩] scope pos) 0 (.ref it) (.ref s2.heap.objs.size) (compEnvC scope cl (s2.heap.objs.size+1) X.env)) (compPost (model X.prog X.w) X.A X.xe none (BX X v0 σ Q) (.ref s2.heap.objs.size) (s2.heap.objs.size+1))
   {s2 with heap:=h₁,toks:=s2.toks+([]:List (Str×Value)).length}:=by
  show uP (λn s'=>∃i σ' aq H',Inv X' [] σ' H' s'∧tn i s'.heap∧(∀b∈fp,H' b=none)∧W i n σ' aq H') ?_ m0
   ⟨0,_,_,_,J1,T.keep _ _ _ oC λb _ o e=>kk b o e,λb hb=>by rw[Ay (BB (dB b hb))];show(f2 b hb).1,w0⟩
  intro n s3⟨i,σ3,aq,H3,I3,t7,xq,w3⟩;let⟨O1,w4⟩:=turn i n σ3 aq H3 w3;rw[←E8,←aX,←pX,←wX];let i0:∀{α:Type} {t:Sem α} {Q1:α→Shared→Prop} {E1:xz} {s:Shared},wpAny (model X'.prog X'.w) X'.A t Q1 X'.xe s→wpAny (model X'.prog X'.w) X'.A t Q1 E1 s:=λ{α t Q1 E1 s} h=>by
   rw[xX]at h;show BV h (λ_ _ q=>q) λ_ _ f=>f.elim
  rcases w4 with⟨stop,qn⟩|⟨go,hz,N,hN,step⟩
  ·let d:=T.done X' pX wX kX cX i [] s3 σ3 H3 X'.xe I3 (λb hb=>fX b hb (xq b hb)) t7 stop
   rw[←pX,←wX]at d;show i0 (AF d λr s4 ξ=>Ξ02 ξ λhr I4=>?_);subst hr;let f4:=fin I4 qn;rw[←pX,←wX,←aX]at f4;show f4
  ·let d:=T.item X' pX wX kX cX i [] s3 σ3 H3 X'.xe I3 (λb hb=>fX b hb (xq b hb)) t7 go
   rw[←pX,←wX]at d;show i0 (AF d λr s4 ξ=>Ξ12 ξ λu hr h4=>?_);subst hr;show i0 (AF h4 λ_ s5 ξ=>Ξ25 ξ λx H5 I5 r5 y5 rq Fx=>?_);let Gi:=I5.pinned (λb hb=>fX b hb (Fx b hb)) (T.obj _ _ rq);let again:∀{σ7:St} {H7:A4} {s7:Shared} {mZ:List (A7×V)},Inv X' ([]++Ht fp s5.heap) σ7 H7 s7→N σ7 mZ H7→
     ∃m,m<n∧∃i σ' aq H',Inv X' [] σ' H' s7∧tn i s7.heap∧(∀b∈fp,H' b=none)∧W i m σ' aq H':=λ{σ7 H7 s7 mZ} I7 n7=>by
    let⟨m',hm,w7⟩:=hN _ _ _ n7;show⟨m',hm,i+1,σ7,mZ,H7,I7.gR,T.keep _ _ _ rq λb hb o e=>(I7.pin (b,o) (CZ _ (CZ _ (G2 hb e)))).1,λb hb=>?_,w7⟩;let⟨o,e,d⟩:=T.obj _ _ rq b hb;show(I7.pin (b,o) (CZ _ (CZ _ (G2 hb e)))).2.1
   show i0 (AF (IB _ s5 σ3 H5 x u _ Gi r5 (step x H5 y5)) λ_ s6 ξ=>Ξ22 ξ λσ6 H6 I6 q6=>?_);show i0 (AF (VU _ s6 σ6 H6 _ I6 q6) λok s6 ξ=>Ξ12 ξ λH6 I6 q6=>?_);cases ok with
   |false=>show again I6 q6
   |true=>
   show i0 (AF (hk' _ s6 σ6 H6 _ I6 q6) λu7 s7 ξ=>Ξ23 ξ λy7 H7 I7 r7 q7=>?_);show i0 (AF (Cw _ s7 σ6 H7 _ I7 q7) λu8 s8⟨y8,H8,I8,r8,k8,e8,d8,q8⟩=>?_);subst e8;show i0 (kA I8 d8 hz r7 r8 λs9 I9=>again I9 q8)
 show codeAny_compStart_dict loop (T.self X.A 0 _ _ _ (T.keep _ _ _ oC λb _ o e=>kk b o e) loop)
end
section
variable {P: Program}{w: World}{A: Around}{E: Value→Shared→Prop}
def aM{Q:Option Bool×Unit→Shared→Prop}:∀{l:List Value} {ks:List A7},ItemsAre (AR P w) ks l→(∀r,Q r s)→wpAny (model P w) A (forIn l ((none:Option Bool),()) λx __s=>do
      let __do_lift ←hashByValue 7 x
      if(!__do_lift)=true then pure (ForInStep.done (some false,()))else pure (ForInStep.yield (none,()))) Q E s
 |_,_,.nil,h=>by rw[Mm];show AL (h _)
 |_,_,.cons e r,h=>by
  rw[OL];rcases Gm e with⟨i,t,rfl,rfl⟩|⟨x,t,rfl,rfl⟩
  ·show A6 (A6 ?_)
   rw[show hashByValue 7 (.int i t)=pure true from by simp[hashByValue]];show AL ?_;rw[AP (by simp)];show AL (aM r h)
  ·show A6 (A6 ?_)
   rw[show hashByValue 7 (.str x t)=pure false from by simp[hashByValue]];show AL ?_;rw[Ab (by simp)];show AL (AL (h _))
def qk{b:Addr}{ks:List A7}{Q:Bool→Shared→Prop}(hk:(tupleKind (AR P w)).is s.heap ks b)(h:∀r,Q r s):wpAny (model P w) A (hashByValue 8 (.ref b)) Q E s:=by
 let⟨o,items,n,ho,hc,hd,hi⟩:=hk;unfold hashByValue;show A6 (wpAny_specialOf ⟨o,ho,hc⟩ PySem.F.slot_tuple_hash.lookup ?_);split
 ·show A6 (GY ho hd ?_)
  show A6 ?_;show wpAny _ _ (forIn items _ _) _ _ s
  rw[←Array.forIn_toList];show aM hi λr=>?_;dsimp only;split
  ·show AL (h _)
  ·show AL (h _)
 all_goals (rename_i e;first|(show absurd rfl e)|(exfalso;simp at e;done)|(exfalso;simp_all))
end
def tC{X:Cx}(hu:X.A.units<cLine):iS X (compareOp .Eq) (λx y H Q=>∃a vs,x=.non∧y=.ref a∧H a=some (.tup vs)∧Q (.bl false) H):=by
 intro v0 s σ H x y v u Q I rx ry h;let⟨a,vs,rfl,rfl,hp,q⟩:=h;cases rx;cases ry;let⟨bf,rv,pl,hz⟩:=I.tuple (dG.of (K:=X.K) hp);show SeqAt.RcAt.none_tuple pl hu _ _ _ _ ⟨.bl false,H,I,rfl,q⟩
end L2
namespace L2
open PySem
variable {m j:Nat}{t:SetTable}
abbrev BQ(m:Nat):List Nat:=(List.range 8).filter (m.testBit ·)
abbrev DF(m j:Nat):Nat:=((List.range j).filter (m.testBit ·)).length
def WV:∀m<256,∀j<8,SetTable.below (BQ m).toArray j=DF m j:=by done
def Vv:∀m<256,∀j<8,(BQ m)[DF m j]?=some j↔m.testBit j=true:=by done
def U5:∀m<256,∀j<8,m.testBit j=false→BQ (m+2^j)=(BQ m).take (DF m j)++j::(BQ m).drop (DF m j):=by done
def ZT:∀m<256,∀j<8,m.testBit j=false→m+2^j<256∧∀i<8,(m+2^j).testBit i=(m.testBit i||i==j):=by done
def oT:∀m<256,(BQ m).length≤4→∃j<8,m.testBit j=false:=by done
def vp:j∈BQ m↔j<8∧m.testBit j=true:=by unfold BQ;rw[abw,abM]
abbrev LG(x:Nat×Nat):Nat×Nat:=((x.1*5+1+x.2/32)%8,x.2/32)
abbrev E7(h:Int):Nat→Nat×Nat
 |0=>(SetTable.bits h%8,SetTable.bits h)
 |k+1=>LG (E7 h k)
abbrev Ax(h:Int)(k:Nat):Nat:=(E7 h k).1
def FI(h:Int):∀k,Ax h k<8
 |0=>Nat.mod_lt _ (by decide)
 |k+1=>Nat.mod_lt _ (by decide)
def YF(h:Int):∀k,(E7 h k).2=SetTable.bits h/32^k
 |0=>by show SetTable.bits h=_;rw[Nat.pow_zero,Nat.div_one]
 |k+1=>by show(E7 h k).2/32=_;rw[YF h k,Nat.div_div_eq_div_mul,Nat.pow_succ]
def zr(h:Int):SetTable.bits h<2^64:=by unfold SetTable.bits;lia
abbrev OP:Nat→Nat→Nat
 |0,i=>i
 |r+1,i=>(OP r i*5+1)%8
def oG:∀i<8,∀j<8,∃r<8,OP r i=j:=by done
def ZN(h:Int):∀r,E7 h (13+r)=(OP r (Ax h 13),0)
 |0=>L6 rfl (by show(E7 h 13).2=0;rw[YF,Nat.div_eq_of_lt (EF (zr h) (by decide))])
 |r+1=>by
  show LG (E7 h (13+r))=_
  rw[ZN h r];unfold LG;rw[OP];simp
def acD(h:Int)(hj:j<8):∃k<21,Ax h k=j:=by
 let⟨r,hr,e⟩:=oG (Ax h 13) (FI h 13) j hj;show⟨13+r,by lia,by unfold Ax;rw[ZN];show e⟩
def eS{p:Nat→Bool}:∀{n:Nat},p n=true→∃k,k≤n∧p k=true∧∀i<k,p i=false
 |0,h=>⟨0,Ah _,h,λi hi=>absurd hi (MO _)⟩
 |n+1,h=>by
  by_cases c:∃i,i≤n∧p i=true
  ·let⟨i,hi,pi⟩:=c
   let⟨k,hk,a,b⟩:=eS pi;show⟨k,by lia,a,b⟩
  ·show⟨n+1,Ah _,h,λi hi=>by cases e:p i with|false=>rfl|true=>show absurd ⟨i,by lia,e⟩ c⟩
def sC(hm:m<256)(hl:(BQ m).length≤4)(h:Int):∃k,k<21∧m.testBit (Ax h k)=false∧∀i<k,m.testBit (Ax h i)=true:=by
 let⟨j,hj,hf⟩:=oT m hm hl;let⟨k,hk,e⟩:=acD h hj;let⟨q,hq,a,b⟩:=eS (p:=λi=>!m.testBit (Ax h i)) (n:=k) (by rw[e,hf];rfl);show⟨q,by lia,by simpa using a,λi hi=>by simpa using b i hi⟩
abbrev Ec(x:Nat×Nat):SetTable.Probe:={j:=x.1,more:=0,i:=x.1,perturb:=x.2,dummy:=none}
abbrev T8(t:SetTable)(m:Nat):Prop:=t.mask=7∧t.place=(BQ m).toArray∧t.dummies=#[]
def T8.adv(h:T8 t m)(x:Nat×Nat):t.advance (Ec x)=Ec (LG x):=by
 unfold SetTable.advance;rw[AP (show ¬(Ec x).more>0 from GK 0),h.1];unfold SetTable.leap SetTable.runEnd;dsimp only;rw[AP (by lia)];unfold Ec LG;simp
def T8.start(ht:T8 t m)(h:Int):t.probeStart h=Ec (E7 h 0):=by
 unfold SetTable.probeStart;rw[ht.1];unfold SetTable.runEnd;dsimp only;rw[AP (by lia)];unfold Ec E7;simp
def T8.slot(ht:T8 t m)(hm:m<256)(hj:j<8):t.slot j=if m.testBit j=true then .live (DF m j)else .empty:=by
 unfold SetTable.slot;rw[ht.2.1,ht.2.2,WV m hm j hj];dsimp only;rw[OM];let g:=Vv m hm j hj;cases e:m.testBit j with
 |true=>rw[g.mpr e,Ab (by simp),Ab rfl]
 |false=>
  rw[AP (λz=>by have:=g.mp (by simpa using z);rw[e]at this;cases this),AP (show ¬SetTable.has #[] j=true from λz=>by simp[SetTable.has]at z),AP (by simp)]
def jM{t:SetTable}{m:Nat}(ht:T8 t m)(hm:m<256){h:Int}{f:Nat→Int}{K:Nat}(hK:m.testBit (Ax h K)=false)(hb:∀i<K,m.testBit (Ax h i)=true):
  ∀(d k fuel:Nat),k+d=K→d<fuel→
   (SetTable.probe.go t f h fuel (Ec (E7 h k))=some (.empty (Ax h K) none)∧∀i,k≤i→i<K→f (DF m (Ax h i))≠h) ∨
   ∃i,k≤i∧i<K∧f (DF m (Ax h i))=h∧(∀i',k≤i'→i' < i→f (DF m (Ax h i'))≠h)∧
    SetTable.probe.go t f h fuel (Ec (E7 h k))=some (.candidate (Ax h i) (DF m (Ax h i)) (Ec (E7 h (i+1))))
 |_,_,0,_,hf=>absurd hf (MO _)
 |0,k,fuel+1,e,_=>by
  obtain rfl:k=K:=by lia
  show .inl ⟨?_,λi a b=>absurd b (by lia)⟩;rw[SetTable.probe.go];show(match t.slot (Ax h k)with|.empty=>_|.dummy=>_|.live i=>_)=_
  rw[ht.slot hm (FI h k),hK];rfl
 |d+1,k,fuel+1,e,hf=>by
  let hk:k<K:=by lia
  let step:SetTable.probe.go t f h (fuel+1) (Ec (E7 h k))=if(f (DF m (Ax h k))==h)=true then some (.candidate (Ax h k) (DF m (Ax h k)) (Ec (E7 h (k+1))))else SetTable.probe.go t f h fuel (Ec (E7 h (k+1))):=by
   rw[SetTable.probe.go];show(match t.slot (Ax h k)with|.empty=>_|.dummy=>_|.live i=>_)=_
   rw[ht.slot hm (FI h k),hb k hk,Ab rfl];dsimp only;rw[ht.adv];rfl
  by_cases c:f (DF m (Ax h k))=h
  ·show .inr ⟨k,Ah _,hk,c,λi a b=>absurd b (by lia),by rw[step,Ab (by rw[c];show beq_self_eq_true _)]⟩
  ·rw[step,AP (by simpa using c)]
   rcases jM ht hm hK hb d (k+1) fuel (by lia) (by lia)with⟨a,b⟩|⟨i,a,b,c1,d1,e1⟩
   ·show .inl ⟨a,λi x y=>by by_cases z:i=k;(subst z;show c);show b i (by lia) y⟩
   ·show .inr ⟨i,by lia,b,c1,λi' x y=>by by_cases z:i'=k;(subst z;show c);show d1 i' (by lia) y,e1⟩
def T8.put(ht:T8 t m)(hm:m<256)(hj:j<8)(hf:m.testBit j=false):T8 (t.put j).1 (m+2^j)∧(t.put j).2=DF m j:=by
 unfold SetTable.put;rw[ht.2.1,ht.2.2,WV m hm j hj];show⟨⟨ht.1,?_,?_⟩,rfl⟩
 ·show SetTable.insertAt (BQ m).toArray (DF m j) j=_
  apply Array.ext'
  rw[SetTable.toList_insertAt,U5 m hm j hj hf]
 ·rfl
def T8.full(ht:T8 t m)(hl:(BQ m).length≤4):t.tooFull=false:=by
 unfold SetTable.tooFull SetTable.fill;rw[ht.2.1,ht.2.2,ht.1];simp;lia
def T8.fits(ht:T8 t m)(hl:(BQ m).length≤4):t.fits (BQ m).length=true:=by
 unfold SetTable.fits SetTable.fill;rw[ht.2.1,ht.2.2,ht.1];simp;lia
def adb(hm:m<256)(hj:j<8)(hf:m.testBit j=false):(BQ (m+2^j)).length=(BQ m).length+1:=by
 rw[U5 m hm j hj hf,BO,CF,Em,GL];lia
end L2
namespace L2
open PySem PySem.Spec PyProof.Rows
variable {Q:xz}{d b a it:Addr}{ks:List A7}{m j K k ep i:Nat}{t:SetTable}{g:Nat→Addr×List A7}{hf:List A7→Int}{h:Heap}{f:Nat→Int}{o:Obj}{P:Program}{w:World}{H:A4}{L:List (Addr×List A7)}{q:Addr×List A7}{es:Array DictEntry}{tg:Expr}{X:Cx}{td:AQ}{A: Around}{E: Value→Shared→Prop}{s: Shared}{prog: Program}{v0: List (Addr×Obj)}{σ: St}
section
variable {P: Program}{w: World}
def fY{Q:Option Bool×Unit→Shared→Prop}{d:Nat}:∀{l:List Value} {ks:List A7},ItemsAre (AR P w) ks l→Q (none,()) s→wpAny (model P w) A (forIn l ((none:Option Bool),()) λx __s=>do
      let __do_lift ←ofAClassStatement d x
      if __do_lift=true then pure (ForInStep.done (some true,()))else pure (ForInStep.yield (none,()))) Q E s
 |_,_,.nil,h=>by rw[Mm];show AL h
 |_,_,.cons e r,h=>by
  rw[OL];let ee:∀v:Value,carriedByValue v=true→ofAClassStatement d v=pure false:=λv hv=>by cases v<;>first|(cases hv;done)|(cases d<;>rfl)|(unfold ofAClassStatement;rfl)
  rw[ee _ ((AR P w).byValue _ _ e)];show A6 (A6 (AL ?_));rw[AP (by simp)];show AL (fY r h)
def Vs{Q:Bool→Shared→Prop}(hk:(tupleKind (AR P w)).is s.heap ks b)(h:Q false s):wpAny (model P w) A (ofAClassStatement 8 (.ref b)) Q E s:=by
 let hT:=IsTupleKey.typeIs hk;let⟨o,items,n,ho,hc,hd,hi⟩:=hk;unfold ofAClassStatement;show A6 (Ju hT ?_);dsimp only;rw[Ab (by decide)];show A6 (AL ?_);rw[AP (by simp)];show A6 (GY ho hd ?_);dsimp only;show A6 ?_;rw[←Array.forIn_toList];show fY hi ?_;dsimp only;show AL h
def aan{Q:Bool→Shared→Prop}(hk:(tupleKind (AR P w)).is s.heap ks b){l:List Value}(hl:∀y∈l,∃c Gq,y=.ref c∧(tupleKind (AR P w)).is s.heap Gq c)(h:Q false s):
  wpAny (model P w) A (searchCouldBeSeen (.ref b) l) Q E s:=by
 unfold searchCouldBeSeen;show A6 ?_;show wpAny_forIn_list _ (λv4 r s'=>r.1=none∧s'=s∧∀y∈v4,y∈l) _ ?_ ?_ _ _ ⟨rfl,rfl,λy hy=>hy⟩
 ·intro y v4 r s'⟨hr,rfl,vD⟩
  let⟨c,Gq,rfl,hc⟩:=hl y (vD y JZ);let hn:∀u∈v4,u∈l:=λu hu=>vD u (DT _ hu);dsimp only;split
  ·show AL ⟨rfl,rfl,hn⟩
  ·show A6 ((tupleKind (AR P w)).quiet hk ?_)
   rw[AP (by simp)];show A6 ((tupleKind (AR P w)).quiet hc ?_);rw[AP (by simp)];show A6 (Vs hk ?_);rw[AP (by simp)];show A6 (Vs hc ?_);rw[AP (by simp)];show AL ⟨rfl,rfl,hn⟩
 ·rintro⟨r1,r2⟩ s' ⟨hr,rfl,_⟩
  simp only at hr;subst hr;show AL h
abbrev Dc(hf:List A7→Int)(m:Nat)(g:Nat→Addr×List A7):Array (Int×Value):=((BQ m).map λj=>(hf (g j).2,Value.ref (g j).1)).toArray
def Ml(hf:List A7→Int)(g:Nat→Addr×List A7)(hm:m<256)(hj:j∈BQ m):(Dc hf m g)[DF m j]?=some (hf (g j).2,Value.ref (g j).1):=by
 unfold Dc;rw[OM,FK,(Vv m hm j (vp.mp hj).1).mpr (vp.mp hj).2];rfl
def LJ(hf:List A7→Int)(m:Nat)(g:Nat→Addr×List A7):(Dc hf m g).size=(BQ m).length:=by unfold Dc;simp
abbrev PF(hf:List A7→Int)(m:Nat)(g:Nat→Addr×List A7):Prop:=∀j∈BQ m,∃k,Ax (hf (g j).2) k=j∧∀i<k,m.testBit (Ax (hf (g j).2) i)=true
def cC{h:Int}{r:Option SetTable.Met}(ep:t.probe f h (Ec (E7 h k))=r)(ht:T8 t m)(hm:m<256)(hK:m.testBit (Ax h K)=false)(hb:∀i<K,m.testBit (Ax h i)=true)(hk:k≤K)(N2:K<21)
  (he:∀j∈BQ m,f (DF m j)=hf (g j).2):(r=some (.empty (Ax h K) none)∧∀i,k≤i→i<K→hf (g (Ax h i)).2≠h) ∨
   ∃i,k≤i∧i<K∧hf (g (Ax h i)).2=h∧(∀i',k≤i'→i' < i→hf (g (Ax h i')).2≠h)∧r=some (.candidate (Ax h i) (DF m (Ax h i)) (Ec (E7 h (i+1)))):=by
 let NQ:∀i<K,Ax h i∈BQ m:=λi hi=>vp.mpr ⟨FI h i,hb i hi⟩;subst ep;unfold SetTable.probe;rcases jM ht hm (f:=f) hK hb (K-k) k (10*SetTable.turns t.mask) (by lia) (by rw[ht.1];unfold SetTable.turns;lia)with⟨e,n⟩|⟨i,a,b,c,d,e⟩
 ·show .inl ⟨e,λi x y=>by rw[←he _ (NQ i y)];show n i x y⟩
 ·show .inr ⟨i,a,b,by rw[←he _ (NQ i b)];show c,λi' x y=>by rw[←he _ (NQ i' (by lia))];show d i' x y,e⟩
def adf{h:Int}(hn:∀q,t.probe f h (Ec (E7 h k))=some q→False)(ht:T8 t m)(hm:m<256)(hK:m.testBit (Ax h K)=false)(hb:∀i<K,m.testBit (Ax h i)=true)(hk:k≤K)(N2:K<21)
  (he:∀j∈BQ m,f (DF m j)=hf (g j).2):False:=by
 rcases cC (g:=g) (hf:=hf) (f:=f) (r:=_) rfl ht hm hK hb hk N2 he with⟨e,n⟩|⟨i,i1,i2,i3,i4,e⟩
 ·show hn _ e
 ·show hn _ e
def acm{Q:SetFound→Shared→Prop}(hu:A.units<cLine)
  (hg:s.heap.get? a=some o) (hd:o.data=.set (Dc (tupleKind (AR P w)).hash m g) ep t) (ht:T8 t m) (hm:m<256) (hl:(BQ m).length≤4) (hr:PF (tupleKind (AR P w)).hash m g)
  (AX:∀j∈BQ m,(tupleKind (AR P w)).is s.heap (g j).2 (g j).1) (hx:(tupleKind (AR P w)).is s.heap ks b)
  (hK:m.testBit (Ax ((tupleKind (AR P w)).hash ks) K)=false) (hb:∀i<K,m.testBit (Ax ((tupleKind (AR P w)).hash ks) i)=true) (N2:K<21)
  (hF:(∀j∈BQ m,(g j).2≠ks)→Q (.free (Ax ((tupleKind (AR P w)).hash ks) K) false) s) (hT:(∃j∈BQ m,(g j).2=ks)→Q (.there none) s) :
  ∀(d k fuel:Nat) (DK:Option SetTable.Probe),k+d=K→d<fuel→DK.getD (t.probeStart ((tupleKind (AR P w)).hash ks))=Ec (E7 ((tupleKind (AR P w)).hash ks) k)→
   (∀i<k,(g (Ax ((tupleKind (AR P w)).hash ks) i)).2≠ks)→wpAny (model P w) A (setSearchFrom a (.ref b) ((tupleKind (AR P w)).hash ks) true fuel DK) Q E s:=by
 let Fp:t.fits (Dc (tupleKind (AR P w)).hash m g).size=true:=by rw[LJ];show ht.fits hl
 intro d;induction d using Nat.strongRecOn with
 |ind d ih=>
  intro k fuel DK hkd OZ x6 T5;cases fuel with
  |zero=>lia
  |succ fuel=>
   unfold setSearchFrom;show A6 (OH hg hd Fp ?_);dsimp only;rw[AP (show ¬t.gaveWay=true from λe=>by unfold SetTable.gaveWay at e;rw[ht.1]at e;simp at e),x6];split
   ·rename_i hp
    rcases cC (g:=g) (hf:=(tupleKind (AR P w)).hash) hp ht hm hK hb (by lia) N2 (λj hj=>show(((Dc (tupleKind (AR P w)).hash m g)[DF m j]?).map (·.1)).getD 0=_ from by rw[Ml _ g hm hj];rfl)with⟨e,n⟩|⟨i,i1,i2,i3,i4,e⟩
    ·cases e
     dsimp only;show AL (hF λj hj e=>?_);let⟨k0,e0,b0⟩:=hr j hj;rw[e]at e0 b0;let h1:k0<K:=by
      show Nat.lt_of_not_le λz=>?_;have:m.testBit (Ax ((tupleKind (AR P w)).hash ks) K)=true:=by
       rcases Nat.lt_or_eq_of_le z with z|z
       ·show b0 K z
       ·rw[z,e0];show(vp.mp hj).2
      rw[hK]at this;cases this
     by_cases c:k0<k
     ·show T5 k0 c (by rw[e0];show e)
     ·show n k0 (by lia) h1 (by rw[e0,e])
    ·cases e
     dsimp only;let hj:Ax ((tupleKind (AR P w)).hash ks) i∈BQ m:=vp.mpr ⟨FI _ _,hb i i2⟩;let lst:∀y∈List.map (λx=>x.snd) (Array.filter (λx=>x.fst ==(tupleKind (AR P w)).hash ks) (Dc (tupleKind (AR P w)).hash m g)).toList,∃c Gq,y=.ref c∧(tupleKind (AR P w)).is s.heap Gq c:=λy hy=>by
      let⟨e,he,rfl⟩:=aam.mp hy;let he:=(abw.mp (by rwa[Array.toList_filter]at he)).1;unfold Dc at he;let⟨j,hj,rfl⟩:=aam.mp he;show Ψ2 _ _ ⟨rfl,AX j hj⟩
     by_cases R4:(!t.led)=true
     rw[Ab R4];show A6 (aan hx lst ?_);rw[AP (by simp)];rotate_left;rw[AP R4]
     all_goals
      rw[Ml _ g hm hj];dsimp only;show A6 (Ep ((tupleKind (AR P w)).eqBool hu (AX _ hj) hx ?_));show A6 (OH hg hd Fp ?_);dsimp only;by_cases c:(g (Ax ((tupleKind (AR P w)).hash ks) i)).2=ks
      ·rw[Bi c,Ab (by simp)];show AL (hT ⟨_,hj,c⟩)
      ·rw[DN c,AP (by simp)]
       let sm:t.sameMemory t.moves t.mask=some true:=by unfold SetTable.sameMemory;rw[Ab (beq_self_eq_true _)]
       rw[sm];dsimp only;rw[Ab rfl,ht.slot hm (FI _ _),hb i i2,Ab rfl];dsimp only;rw[Ml _ g hm hj];dsimp only;show A6 (wpAny_isSame_ref_self ?_);rw[Ab rfl];show A6 (AL ?_);dsimp only;rw[AP (by simp)];show ih (K-(i+1)) (by lia) (i+1) fuel _ (by lia) (by lia) rfl (λi' IA=>?_);by_cases c1:i' < k
       ·show T5 i' c1
       by_cases c2:i'=i
       ·rw[c2];show c
       ·exactλz=>i4 i' (by lia) (by lia) (by rw[z])
   ·rename_i hn
    show(adf (g:=g) (hf:=(tupleKind (AR P w)).hash) hn ht hm hK hb (by lia) N2 (λj hj=>show(((Dc (tupleKind (AR P w)).hash m g)[DF m j]?).map (·.1)).getD 0=_ from by rw[Ml _ g hm hj];rfl)).elim
end
abbrev setB(hf:List A7→Int)(a:Addr)(L:List (Addr×List A7))(h:Heap):Prop:=∃(o:Obj) (ep:Nat) (t:SetTable) (m:Nat) (g:Nat→Addr×List A7),
 h.get? a=some o∧o.ExactSet∧o.data=.set (Dc hf m g) ep t∧T8 t m∧m<256∧PF hf m g∧((BQ m).map g).Perm L
def fT(q:setB hf a L h):bj P w H h a (.ext (setB hf a L)):=by
 show⟨q,?_,λh1 h2 q1 k=>?_⟩
 ·let⟨o,_,_,_,_,e,_⟩:=q;show⟨o,e⟩
 ·let⟨o,ep,t,m,g,e,r⟩:=q1;show Ψ5 o ep t m g ⟨k o e,r⟩
abbrev Fv(a:Addr)(n:Nat)(h:Heap):Prop:=∃o es ep t,h.get? a=some o∧o.ExactSet∧o.data=.set es ep t∧t.fits es.size=true∧es.size=n
def adz{n:Nat}(q:Fv a n h):bj P w H h a (.ext (Fv a n)):=by
 show⟨q,?_,λh1 h2 q1 k=>?_⟩
 ·let⟨o,_,_,_,e,_⟩:=q;show⟨o,e⟩
 ·let⟨o,es,ep,t,e,r⟩:=q1;show Ψ4 o es ep t ⟨k o e,r⟩
def setB.Xo(q:setB hf a L h)(hL:L.length≤4):Fv a L.length h:=by
 let⟨o,ep,t,m,g,e,x,d,ht,hm,hr,hp⟩:=q;let hl:(BQ m).length=L.length:=by rw[←hp.length_eq,AM]
 show Ψ4 o _ ep t ⟨e,x,d,by rw[LJ];show ht.fits (by lia),by rw[LJ,hl]⟩
def xh{led:Bool}(e:h.get? a=some {cls:=.type "set",dict:=none,data:=.set #[] 0 (.fresh 0 0 led)}):setB hf a [] h:=
 ⟨_,0,_,0,λ_=>(0,[]),e,⟨rfl,rfl,rfl⟩,rfl,⟨rfl,rfl,rfl⟩,by decide,λj hj=>absurd (vp.mp hj).2 (by simp),.nil⟩
abbrev Ej(L:List (Addr×List A7))(q:Addr×List A7):List (Addr×List A7):=if L.any (λp=>decide (p.2=q.2))=true then L else q::L
abbrev Fl(g:Nat→Addr×List A7)(j:Nat)(q:Addr×List A7):Nat→Addr×List A7:=λi=>if i=j then q else g i
def lu{α:Type}(f:Nat→Addr×List A7→α){l:List Nat}(h:j∉l):l.map (λi=>f i (Fl g j q i))=l.map λi=>f i (g i):=
 List.map_congr_left λi hi=>by unfold Fl;rw[AP (show ¬i=j from λe=>h (by rw[←e];show hi))]
def j4{α:Type}(f:Nat→Addr×List A7→α)(hm:m<256)(hj:j<8)(hf:m.testBit j=false):
  (BQ (m+2^j)).map (λi=>f i (Fl g j q i))=((BQ m).map λi=>f i (g i)).take (DF m j)++f j q::((BQ m).map λi=>f i (g i)).drop (DF m j):=by
 let hn:j∉BQ m:=λe=>by have:=(vp.mp e).2;rw[hf]at this;cases this
 rw[U5 m hm j hj hf,Ad,BU,lu f (λe=>hn (Sz e)),lu f (λe=>hn (SA e)),List.map_take,List.map_drop];unfold Fl;rw[Ab rfl]
def abE(hm:m<256)(hj:j<8)(hb:m.testBit j=false):
  SetTable.insertAt (Dc hf m g) (DF m j) (hf q.2,.ref q.1)=Dc hf (m+2^j) (Fl g j q):=by
 apply Array.ext'
 rw[SetTable.toList_insertAt];unfold Dc;rw[j4 (λ_ p=>(hf p.2,Value.ref p.1)) hm hj hb]
def xR(hm:m<256)(hr:PF hf m g)(hK:m.testBit (Ax (hf q.2) K)=false)(hb:∀i<K,m.testBit (Ax (hf q.2) i)=true):
  PF hf (m+2^Ax (hf q.2) K) (Fl g (Ax (hf q.2) K) q):=by
 let pb:=(ZT m hm _ (FI (hf q.2) K) hK).2;let mo:∀i,i<8→m.testBit i=true→(m+2^Ax (hf q.2) K).testBit i=true:=λi hi e=>by rw[pb i hi,e];rfl
 intro j hj;let⟨j8,jb⟩:=vp.mp hj;unfold Fl;by_cases c:j=Ax (hf q.2) K
 ·rw[Ab c]
  show⟨K,c.symm,λi hi=>mo _ (FI _ _) (hb i hi)⟩
 ·rw[AP c]
  rw[pb j j8]at jb;let⟨k,e,r⟩:=hr j (vp.mpr ⟨j8,by simpa[c]using jb⟩);show⟨k,e,λi hi=>mo _ (FI _ _) (r i hi)⟩
def aa0(hm:m<256)(hj:j<8)(hb:m.testBit j=false)(hp:((BQ m).map g).Perm L):((BQ (m+2^j)).map (Fl g j q)).Perm (q::L):=by
 let e:=j4 (λ_ p=>p) (g:=g) (q:=q) hm hj hb;let e1:(BQ (m+2^j)).map (Fl g j q)=_:=e;rw[e1];show List.perm_middle.trans (.cons _ ?_);rw[List.take_append_drop];show hp
section
variable {P: Program}{w: World}
def rY{D:Addr}(hu:A.units+1<cLine)(hS:setB (tupleKind (AR P w)).hash D L s.heap)(hL:L.length≤3)
  (hk:(tupleKind (AR P w)).is s.heap ks b) (hks:∀q∈L,(tupleKind (AR P w)).is s.heap q.2 q.1)
  (h:∀h' t',Heap.SameBut D s.heap h'→setB (tupleKind (AR P w)).hash D (Ej L (b,ks)) h'→Q .none {s with heap:=h',toks:=t'}):wpAny (model P w) A (call (.builtin "set.add") [.ref D,.ref b]) Q E s:=by
 let hS0:=hS;let⟨o,ep,t,m,g,e,x,d,ht,hm,hr,hp⟩:=hS;let hl:(BQ m).length=L.length:=by rw[←hp.length_eq,AM]
 let Fp:t.fits (Dc (tupleKind (AR P w)).hash m g).size=true:=by rw[LJ];show ht.fits (by lia)
 let AX:∀j∈BQ m,(tupleKind (AR P w)).is s.heap (g j).2 (g j).1:=λj hj=>hks _ (hp.mem_iff.mp (aam.mpr ⟨j,hj,rfl⟩));let Yp:ks∈L.map Prod.snd↔∃j∈BQ m,(g j).2=ks:=by
  constructor
  ·intro z
   let⟨q,hq,e⟩:=aam.mp z;let⟨j,hj,rfl⟩:=aam.mp (hp.mem_iff.mpr hq);show⟨j,hj,e⟩
  ·intro⟨j,hj,e⟩
   show aam.mpr ⟨g j,hp.mem_iff.mp (aam.mpr ⟨j,hj,rfl⟩),e⟩
 let⟨K,N2,hK,hb⟩:=sC hm (by lia:(BQ m).length≤4) ((tupleKind (AR P w)).hash ks);show HP PySem.F.slot_set_add ⟨_,e,x.1⟩ PySem.F.entry_set_add ?_ (PySem.F.args_set_add_2 _ _);unfold Builtin.«set.add» Builtin.Frozenset.oneOther;simp only[List.isEmpty_nil,bind_assoc];unfold Builtin.Frozenset.addrOf setAdd;show A6 (AL ?_)
 try dsimp only
 show A6 (AL ?_)
 try dsimp only
 show A6 ?_;show Ep ?_;show A6 ((tupleKind (AR P w)).pyHash (Ij hu) hk ?_);unfold setAddHashed setAddHashedIn;show Ep (A6 (OH (s:={s with toks:=s.toks+_}) e d Fp ?_));dsimp only;rw[AP (show ¬byScan (Value.ref b) (Dc (tupleKind (AR P w)).hash m g)=true from Bs)];unfold setSearch;show A6 (acm (s:={s with toks:=s.toks+_}) (g:=g) (K:=K) (A:=A.in1) (show A.in1.units<cLine from hu) e d ht hm (by lia) hr AX hk hK hb N2 ?_ ?_ K 0 100000 none (by lia) (by lia) (ht.start _) (λi hi=>absurd hi (MO _)))
 ·intro hn
  dsimp only;show A6 (OH (s:={s with toks:=s.toks+_}) e d Fp ?_);dsimp only;let⟨Ub,zo⟩:=ht.put hm (FI ((tupleKind (AR P w)).hash ks) K) hK;let Yv:∀(r:Bool),T8 (if r=true then(t.put (Ax ((tupleKind (AR P w)).hash ks) K)).1 else {(t.put (Ax ((tupleKind (AR P w)).hash ks) K)).1 with plain:=false}) (m+2^Ax ((tupleKind (AR P w)).hash ks) K):=λr=>by
   cases r
   ·show⟨Ub.1,Ub.2.1,Ub.2.2⟩
   ·show Ub
  let Ym:(BQ (m+2^Ax ((tupleKind (AR P w)).hash ks) K)).length=L.length+1:=by rw[adb hm (FI _ _) hK,hl]
  let en:Ej L (b,ks)=(b,ks)::L:=by
   unfold Ej;rw[AP];intro z;let⟨q,hq,eq⟩:=abp.mp z;let⟨j,hj,rfl⟩:=aam.mp (hp.mem_iff.mpr hq);show hn j hj (Cc eq)
  rw[zo,show(SetTable.insertAt (Dc (tupleKind (AR P w)).hash m g) (DF m (Ax ((tupleKind (AR P w)).hash ks) K)) ((tupleKind (AR P w)).hash ks,Value.ref b))=_ from abE (q:=(b,ks)) hm (FI _ _) hK];let fin:∀t2:SetTable,T8 t2 (m+2^Ax ((tupleKind (AR P w)).hash ks) K)→∀tk,wpAny (model P w) A.in1 (do
    storeSet D (Dc (tupleKind (AR P w)).hash (m+2^Ax ((tupleKind (AR P w)).hash ks) K) (Fl g (Ax ((tupleKind (AR P w)).hash ks) K) (b,ks))) t2
    if(!false&&t2.tooFull)=true then do setRelay D (SetTable.grown ((Dc (tupleKind (AR P w)).hash m g).size+1));pure true else pure true) (λr s'=>∃h',Heap.SameBut D s.heap h'∧setB (tupleKind (AR P w)).hash D (Ej L (b,ks)) h'∧s'={s with heap:=h',toks:=tk}) E {s with toks:=tk}:=by
   intro t2 h2 tk;show A6 (wpAny_storeSet_of (s:={s with toks:=tk}) e d ?_ (by rw[LJ,Ym];show Cu (by lia:L.length+1≤4) (by decide)));rw[h2.full (by lia),AP (by simp)];show AL ⟨_,M9 s.heap D _,?_,rfl⟩;let Yr:=JJ (Obj.putSet (Dc (tupleKind (AR P w)).hash (m+2^Ax ((tupleKind (AR P w)).hash ks) K) (Fl g (Ax ((tupleKind (AR P w)).hash ks) K) (b,ks))) t2) e (by rw[putSet_of _ t2 d];rfl);rw[putSet_of _ t2 d]at Yr;rw[en];show Ψ5 _ _ t2 _ _ ⟨Yr,⟨x.1,x.2.1,x.2.2⟩,rfl,h2,(ZT m hm _ (FI _ _) hK).1,xR (q:=(b,ks)) hm hr hK hb,aa0 hm (FI _ _) hK hp⟩
  let fin2:∀t2:SetTable,T8 t2 (m+2^Ax ((tupleKind (AR P w)).hash ks) K)→∀tk,wpAny (model P w) A.in1 (do
    storeSet D (Dc (tupleKind (AR P w)).hash (m+2^Ax ((tupleKind (AR P w)).hash ks) K) (Fl g (Ax ((tupleKind (AR P w)).hash ks) K) (b,ks))) t2
    if(!false&&t2.tooFull)=true then do setRelay D (SetTable.grown ((Dc (tupleKind (AR P w)).hash m g).size+1));pure true else pure true)
    (λa s'=>wpAny (model P w) A.in1 (ret Value.none) (λfin s'=>∃v,fin=Fin.done (Flow.ret v)∧Q v s') E s') E {s with toks:=tk}:=
   λt2 h2 tk=>BV (fin t2 h2 tk) (λr s' ξ=>Ξ13 ξ λh' a b c=>by subst c;show AL ⟨_,rfl,h _ _ a b⟩) λ_ _ q=>q
  split
  ·show A6 (qk hk λr=>?_)
   show fin2 _ (Yv r) _
  ·show A6 (AL ?_)
   show fin2 _ (Yv true) _
 ·intro hy
  dsimp only;let en:Ej L (b,ks)=L:=by
   unfold Ej;let⟨j,hj,eq⟩:=hy;rw[Ab (abp.mpr ⟨g j,hp.mem_iff.mp (aam.mpr ⟨j,hj,rfl⟩),Bi eq⟩)]
  show AL (AL ⟨_,rfl,h s.heap _ ⟨rfl,λb _=>rfl⟩ (by rw[en];show hS0)⟩)
end
abbrev aN(hf:List A7→Int)(wi:DI)(g:DL)(te:AQ)(own:List Str)(cap:List (Nat×Str)):AQ:=λσ H Q=>wi σ H λJ H1=>∀D,H1 D=none→
 ∃W:Nat→Nat→St→List (Addr×List A7)→A4→Prop,(∃m,W 0 m (F5 own cap σ) [] (AI H1 D (.ext (setB hf D []))))∧∀i m σ' L H',W i m σ' L H'→H' D=some (.ext (setB hf D L))∧
  ((J.stop i H'∧L.length≤4∧Q (.ref D) (AI H' D (.ext (Fv D L.length))))∨(J.go i H'∧L.length≤3∧∃N:List (Addr×List A7)→St→A4→Prop,(∀L' σ H,N L' σ H→∃m',m' < m∧W (i+1) m' σ L' H)∧
   ∀x H2,J.qI i H' x H2→g x σ' H2 λσ3 H3=>te σ3 H3 λy H5=>∃(b:Addr) (ks:List A7),y=.ref b∧H5 b=some (.tup (ks.map Au))∧(∀q∈L,H5 q.1=some (.tup (q.2.map Au)))∧H5 D=some (.ext (setB hf D L))∧
   N (Ej L (b,ks)) σ3 (AI H5 D (.ext (setB hf D (Ej L (b,ks)))))))
section
variable {X: Cx}{scope: Scope}{cl: List (Str×Addr)}{own: List Str}{cap: List (Nat×Str)}{tg iter elt: Expr}{wi: DI}{g: DL}{te: AQ}{pos: Pos}
def yB(hu:X.A.units+1<cLine)(c:cT X scope cl own cap)(hc:X.calm=true)(hi:PI X tg iter wi)
  (hg:∀C s H fp,PG (BK X (own++cap.map (·.2)) scope cl C s H fp λ_ _=>False) tg g)
  (he:∀C s H fp,PE (BK X (own++cap.map (·.2)) scope cl C s H fp λ_ _=>False) elt te) (hs:∀x,foldedSetIterable iter X.env x=pure x:=by intro _;rfl) :
  PE X (.SetComp elt [⟨tg,iter,[],0⟩] scope pos) (aN (tupleKind (AR X.prog X.w)).hash wi g te own cap):=by
 show .mk ?_;intro v0 s σ H Q I h;show wpAny _ X.A (comprehension (.SetComp elt [⟨tg,iter,[],0⟩] scope pos) scope X.env _ (newSet (.type "set")) false (eval iter X.env)) _ _ s
 show Jr (use:=none) rfl hs c.xE c.kind c.names (AF (hi v0 s σ H _ I h) λv s1 h1=>AF h1 λKL s2 h2=>?_);let⟨it,fp,tn,J,H2,e,I2,T,oC,f2,hw⟩:=h2;subst e;show wpAny_newSet_of (knd:=strKind X.prog X.w) λled hS=>MT c.cell (by intro y hy;simp at hy) (λh₁ iM hJ=>?_) c.kind;dsimp only at iM hJ ⊢;generalize hO:({cls:=.type "set",dict:=none,data:=.set #[] 0 (.fresh 0 0 led)}:Obj)=O at hS iM hJ ⊢;let hsz:(s2.heap.push O).objs.size=s2.heap.objs.size+1:=FG _ _;let kk:∀b o,s2.heap.get? b=some o→h₁.get? b=some o:=λb o e=>hJ.extBut b o (by rw[hsz];show BB (HJ (B5 e))) (Aw _ (Aw _ e));let N1:setB (tupleKind (AR X.prog X.w)).hash s2.heap.objs.size [] h₁:=xh (led:=led) (by rw[hO];show hJ.extBut _ _ (by rw[hsz];show BB (Hh _)) (Aw _ (CW _ (by rw[←hO];rfl))));rw[hsz]at iM ⊢;let dB:∀b∈fp,b<s2.heap.objs.size:=λb hb=>by
  let⟨o,e,_⟩:=T.obj _ _ oC b hb;show B5 e
 let⟨W,⟨m0,w0⟩,turn⟩:=hw s2.heap.objs.size I2.fresh;let J1:=Ng (E:=λ_ _=>False) c I2 f2 dB (tk:=s2.toks+([]:List (Str×Value)).length) kk (fT N1) iM;generalize eW:BK X (own++cap.map (·.2)) scope cl (s2.heap.objs.size+1) s2 H2 fp (λ_ _=>False)=X' at J1;let IB:PG X' tg g:=eW ▸ hg _ _ _ _;let R8:PE X' elt te:=eW ▸ he _ _ _ _;let pX:X'.prog=X.prog:=by rw[←eW];rfl
 let wX:X'.w=X.w:=by rw[←eW];rfl
 let kX:X'.K=X.K:=by rw[←eW];rfl
 let aX:X'.A=X.A:=by rw[←eW];rfl
 let cX:X'.calm=true:=by rw[←eW];show hc
 let E8:X'.env=compEnvC scope cl (s2.heap.objs.size+1) X.env:=by rw[←eW];rfl
 let xX:X'.xe=λ_ _=>False:=by rw[←eW];rfl
 let fX:∀b∈fp,∀{H':A4},H' b=none→DO X' [] H' b:=λb hb {H'} hn=>by
  let o1:=(Fg (E:=λ_ _=>False) c I2 f2 dB (C:=s2.heap.objs.size+1) (BR _)).Gy b hb;let o2:=(Fg (E:=λ_ _=>False) c I2 f2 dB (C:=s2.heap.objs.size+1) (BR _)).qD b hb;rw[←eW];show⟨hn,o1.1,o2,.inl hb,o1.2,λp hp=>absurd (show p∈([]:ac)from hp) (by simp)⟩
 let ID:∀D C s' H' m,Inv X v0 σ H' s'→DO X v0 H' C→s'.heap.Ns C m→Q (.ref D) H'→compPost (model X.prog X.w) X.A X.xe none (BX X v0 σ Q) (.ref D) C (.ok .next) s':=by
  intro D C s' H' m I' hC hm q;show⟨m,hm,λh' gM=>Ψ2 (.ref D) H' ⟨?_,rfl,q⟩⟩;show I'.turned (t':=s'.toks) (λb o hb e=>(gM.2 b hb).trans e) hC.1 hC.2.1 hC.2.2.2.1 hC.2.2.2.2.1 hC.2.2.2.2.2
 let fin:∀{σ':St} {H':A4} {s':Shared},Inv X' [] σ' H' s'→Q (.ref s2.heap.objs.size) H'→compPost (model X.prog X.w) X.A X.xe none (BX X v0 σ Q) (.ref s2.heap.objs.size) (s2.heap.objs.size+1) (.ok .next) s':=λ{σ' H' s'} J' q=>by
  rw[←eW]at J';let⟨A1,A2⟩:=ML I2 f2 (BR _) J';let⟨m,hm,_⟩:=J'.loc;show ID _ _ s' H' m A1 A2 hm q
 let loop:codeAny (model X.prog X.w) X.A (.compLoop (.SetComp elt [⟨tg,iter,[],0⟩] scope pos) 0 (.ref it) (.ref s2.heap.objs.size) (compEnvC scope cl (s2.heap.objs.size+1) X.env)) (compPost (model X.prog X.w) X.A X.xe none (BX X v0 σ Q) (.ref s2.heap.objs.size) (s2.heap.objs.size+1))
   {s2 with heap:=h₁,toks:=s2.toks+([]:List (Str×Value)).length}:=by
  show Z9 (λn s'=>∃i σ' z H',Inv X' [] σ' H' s'∧tn i s'.heap∧(∀b∈fp,H' b=none)∧W i n σ' z H') ?_ m0
   ⟨0,_,[],_,J1,T.keep _ _ _ oC λb _ o e=>kk b o e,λb hb=>by rw[Ay (BB (dB b hb))];show(f2 b hb).1,w0⟩
  intro n s3⟨i,σ3,z,H3,I3,t7,xq,w3⟩;let⟨O1,w4⟩:=turn i n σ3 z H3 w3;rw[←E8,←aX,←pX,←wX];let i0:∀{α:Type} {t:Sem α} {Q1:α→Shared→Prop} {E1:xz} {s:Shared},wpAny (model X'.prog X'.w) X'.A t Q1 X'.xe s→wpAny (model X'.prog X'.w) X'.A t Q1 E1 s:=λ{α t Q1 E1 s} h=>by
   rw[xX]at h;show BV h (λ_ _ q=>q) λ_ _ f=>f.elim
  rcases w4 with⟨stop,hz,qn⟩|⟨go,hz,N,hN,step⟩
  ·let d:=T.done X' pX wX kX cX i [] s3 σ3 H3 X'.xe I3 (λb hb=>fX b hb (xq b hb)) t7 stop
   rw[←pX,←wX]at d;show i0 (AF d λr s4 ξ=>Ξ02 ξ λhr I4=>?_);subst hr;let XH:=(I4.bC _ _ O1).1;let I5:=I4.write (x:=s2.heap.objs.size) (e:=s2.heap.objs.size) (o:=.ext (Fv s2.heap.objs.size z.length)) (h':=s4.heap) (t':=s4.toks) (by rw[O1];show trivial) (.inl rfl) (λb' u hb hu=>hu) (by let⟨o,_,_,_,e,_⟩:=setB.Xo XH hz;show⟨o,e⟩) (adz (setB.Xo XH hz));let f4:=fin I5 qn;rw[←pX,←wX,←aX]at f4;show f4
  ·let d:=T.item X' pX wX kX cX i [] s3 σ3 H3 X'.xe I3 (λb hb=>fX b hb (xq b hb)) t7 go
   rw[←pX,←wX]at d;show i0 (AF d λr s4 ξ=>Ξ12 ξ λu hr h4=>?_);subst hr;show i0 (AF h4 λ_ s5 ξ=>Ξ25 ξ λx H5 I5 r5 y5 rq Fx=>?_);let Gi:=I5.pinned (λb hb=>fX b hb (Fx b hb)) (T.obj _ _ rq);let again:∀{σ7:St} {H7:A4} {s7:Shared},∀{L7:List (Addr×List A7)},Inv X' ([]++Ht fp s5.heap) σ7 H7 s7→N L7 σ7 H7→
     ∃m,m<n∧∃i σ' z H',Inv X' [] σ' H' s7∧tn i s7.heap∧(∀b∈fp,H' b=none)∧W i m σ' z H':=λ{σ7 H7 s7 L7} I7 n7=>by
    let⟨m',hm,w7⟩:=hN _ _ _ n7;show⟨m',hm,i+1,σ7,L7,H7,I7.gR,T.keep _ _ _ rq λb hb o e=>(I7.pin (b,o) (CZ _ (CZ _ (G2 hb e)))).1,λb hb=>?_,w7⟩;let⟨o,e,d⟩:=T.obj _ _ rq b hb;show(I7.pin (b,o) (CZ _ (CZ _ (G2 hb e)))).2.1
   show i0 (AF (IB _ s5 σ3 H5 x u _ Gi r5 (step x H5 y5)) λ_ s6 ξ=>Ξ22 ξ λσ6 H6 I6 q6=>?_);show i0 (AF (R8 _ s6 σ6 H6 _ I6 q6) λu8 s8⟨y8,H8,I8,r8,b8,ks8,e8,t8,a8,d8,q8⟩=>?_);subst e8;obtain rfl:u8=Value.ref b8:=r8;let Vg:setB (tupleKind (AR X'.prog X'.w)).hash s2.heap.objs.size z s8.heap:=by rw[pX,wX];show(I8.bC _ _ d8).1
   show i0 (rY (P:=X'.prog) (w:=X'.w) (by rw[aX];show hu) Vg hz (HA I8.bC t8) (λq hq=>HA I8.bC (a8 q hq)) λh' ZM VX KR=>?_);rw[pX,wX]at KR;show again (I8.write (x:=s2.heap.objs.size) (e:=s2.heap.objs.size) (o:=.ext (setB (tupleKind (AR X.prog X.w)).hash s2.heap.objs.size (Ej z (b8,ks8)))) (by rw[d8];show trivial) (.inl rfl) (λb' u hb hu=>(VX.2 b' hb).trans hu) ?_ (fT KR)) q8;let⟨o,_,_,_,_,e,_⟩:=KR;show⟨o,e⟩
 show cS loop (T.self X.A 0 _ _ _ (T.keep _ _ _ oC λb _ o e=>kk b o e) loop)
def qr:Eg X (.builtin "len") (λxs H Q=>∃(p:Addr) (n:Nat),xs=[.ref p]∧n≤4∧H p=some (.ext (Fv p n))∧Q (.int n) H):=by
 intro v0 s σ H vs us Q I rv h;let⟨p,n,rfl,hn1,hp,q⟩:=h;let⟨u,rfl,ru⟩:=rv.one;cases ru;let⟨o,es,ep,t,e,ex,d,hf,hn⟩:=(I.bC p _ hp).1;show call_len_set e ex d hf (by lia) ⟨.int n,H,I.tok _,⟨s.toks+1,by rw[hn]⟩,q⟩
end
section
variable {w: World}
def aaO(hd:(d==sysModules)=false)(ho:s.heap.get? d=some o)(hx:o.ExactDict)(nV:o.data=.dict es ep)
  (hQ:Q (.ref s.heap.objs.size) {s with heap:=s.heap.push {cls:=.type "dict_keyiterator",data:=.fields #[.ref d,.int 0 0,.int es.size 0,.int ep 0]}}):wpAny (model prog w) A (pyIter (.ref d)) Q E s:=by
 let hT:s.TypeIs (.ref d) "dict" :=⟨o,ho,hx.1⟩;show wpAny_pyIter_slot hT PySem.F.slot_dict_iter (HP PySem.F.slot_dict_iter hT PySem.F.entry_dict_iter ?_ (PySem.F.args_dict_iter_1 _));unfold Builtin.«dict.__iter__»;show A6 ?_;unfold Builtin.Dict.dictSlotNone;show A6 (wpAny_notOrdered_dict hT (AL ?_));show wpAny _ _ (Builtin.Dict.showsAll d >>= _) _ _ s
 unfold Builtin.Dict.showsAll;rw[AP (λz=>by rw[hd]at z;show Bs z)];show A6 (AL (A6 (RC ho nV (A6 (wpAny_dictEpoch ho nV ?_)))));show A6 (Fy (AL ⟨_,rfl,"dict_keyiterator",_,⟨_,CW _ rfl,rfl⟩,abu.lookup,?_⟩));simpa[rawInt]using hQ
def adF{Q:Option Value→Shared→Prop}(hit:s.heap.IsKeyIter it d i es.size ep)(RV:s.heap.get? d=some o)(KP:o.data=.dict es ep)(hi:i<es.size)
  (hQ:∀h',h'.IsKeyIter it d (i+1) es.size ep→Heap.SameBut it s.heap h'→Q (some es[i].key) {s with heap:=h'}):wpAny (model prog w) A (pyNext (.ref it)) Q E s:=by
 let⟨u,hu,hc,hv⟩:=id hit;unfold pyNext;show A6 (Mv (IW (name:=Str.ofString "__next__") hit.typeIs abu (HP abu hit.typeIs gQ ?_ (aG _))));show A6 (AL (A6 (A6 ?_)));first|refine A6 (Ow hit.typeIs (AL ?_))|refine A6 (Oo hit.typeIs (AL ?_))
 show A6 (wpAny_fieldsOf hu hv ?_);simp only[show Builtin.Dict_items.ownsTuple "dict_keyiterator" = false from by decide,Sf,HV];show wpAny _ _ (if(Value.ref d==Value.none)=true then _ else _) _ _ s
 rw[AP (show ¬((Value.ref d==Value.none)=true)from Bs)];show A6 (AL (A6 (RC RV KP ?_)));rw[AP (by simp)];show A6 (AL (A6 (wpAny_dictEpoch RV KP ?_)));rw[AP (by simp)];show AL ?_;simp only[show ¬((i:Int)<0)from by lia,HV,Mj,Array.getElem?_eq_getElem hi];show A6 ?_;first|refine A6 (Ow hit.typeIs (AL ?_))|refine A6 (Oo hit.typeIs (AL ?_))
 show A6 (wpAny_isOneOf_keyiter hit.typeIs ?_);show wpAny _ _ (setField (.ref it) 1 (rawInt ((i:Int)+1)) >>= _) _ _ s
 show A6 (Ms hu hv (by simp) ?_);let Iz:(s.heap.update it (Obj.mapFields (·.setIfInBounds 1 (rawInt ((i:Int)+1))))).IsKeyIter it d (i+1) es.size ep:=⟨_,JJ _ hu (Obj.isFreed_of_fields (Mz hv _)),(Obj.cls_mapFields ..).trans hc,by rw[Mz hv];simp[rawInt]⟩;show A6 (Ep (A6 (wpAny_isOneOf_keyiter (s:={s with heap:=s.heap.update it (Obj.mapFields (·.setIfInBounds 1 (rawInt ((i:Int)+1))))}) Iz.typeIs ?_)));show wpAny _ _ (pure es[i].key) _ _ _
 show AL (AL ⟨_,rfl,AL (hQ _ Iz (M9 ..))⟩)
def nj{Q:Option Value→Shared→Prop}(hh:A.handled=none)(hit:s.heap.IsKeyIter it d i es.size ep)(RV:s.heap.get? d=some o)(KP:o.data=.dict es ep)(hi:es.size≤i)
  (hQ:∀h',Heap.ExtBut it s.heap h'→Q none {s with heap:=h'}):wpAny (model prog w) A (pyNext (.ref it)) Q E s:=by
 let⟨u,hu,hc,hv⟩:=id hit;unfold pyNext;show A6 (Mv (IW (name:=Str.ofString "__next__") hit.typeIs abu (HP abu hit.typeIs gQ ?_ (aG _))));show A6 (AL (A6 (A6 ?_)));first|refine A6 (Ow hit.typeIs (AL ?_))|refine A6 (Oo hit.typeIs (AL ?_))
 show A6 (wpAny_fieldsOf hu hv ?_);simp only[show Builtin.Dict_items.ownsTuple "dict_keyiterator" = false from by decide,Sf,HV];show wpAny _ _ (if(Value.ref d==Value.none)=true then _ else _) _ _ s
 rw[AP (show ¬((Value.ref d==Value.none)=true)from Bs)];show A6 (AL (A6 (RC RV KP ?_)));rw[AP (by simp)];show A6 (AL (A6 (wpAny_dictEpoch RV KP ?_)));rw[AP (by simp)];show AL ?_;simp only[show ¬((i:Int)<0)from by lia,HV,Mj,Array.getElem?_eq_none hi];show A6 ?_;first|refine A6 (Ow hit.typeIs (AL ?_))|refine A6 (Oo hit.typeIs (AL ?_))
 show wpAny _ _ (setField (.ref it) 0 .none >>= _) _ _ s
 show A6 (Ms hu hv (by simp) ?_);show wpAny _ _ (newExc (.type "StopIteration") [] >>= _) _ _ _
 show A6 ?_;simp only[newExc,newTuple];show A6 (Fy ?_ (by size_fits));show A6 (m:=firstArgMember _ _) (wpAny_of_eq (a:=Value.none) (by first|rfl|(simp only[firstArgMember];rfl)) ?_);show Fy ?_ (by size_fits);simp only[raiseNew];show A6 (wpAny_handled ?_);rw[show A.in1.handled=none from hh];show A6 (AL (wpAny_throw ?_));show A6 (Qg (T := "StopIteration") (b:=true) ⟨_,CW _ rfl,rfl⟩ isSubtype_stop ?_);show AL (hQ _ (((M9 ..).extBut.push _).push _))
end
abbrev Fn(a:Addr)(o:Obj)(h:Heap):Prop:=h.get? a=some o
abbrev Q0(P:Program)(w:World)(H:A4)(a:Addr)(o:Obj)(us:List (List A7×V)):Prop:=H a=some (.ext (Fn a o))∧∀h:Heap,h.get? a=some o→bj P w H h a (.dT us)
abbrev PN(P:Program)(w:World)(H:A4)(a:Addr)(o:Obj)(us:List (A7×V)):Prop:=H a=some (.ext (Fn a o))∧∀h:Heap,h.get? a=some o→bj P w H h a (.dK us)
abbrev kB(a:Addr)(o:Obj)(es:Array DictEntry):Ef:=
 ⟨λi H=>H a=some (.ext (Fn a o))∧i<es.size,λi H x H'=>H'=H∧∃e,es[i]?=some e∧RelV x e.key,λi H=>H a=some (.ext (Fn a o))∧es.size≤i⟩
def nI{K:W.Frag}(KP:o.data=.dict es ep)(hk:∀e∈es,∃x,RelV x e.key):Turn P w K tg (kB a o es) [it] it (λi h=>h.IsKeyIter it a i es.size ep) where
 mem:=by simp
 obj:=λi h st b hb=>by
  let e:b=it:=by simpa using hb
  subst e;let⟨o,e,c,d⟩:=st;show⟨o,e,λv z=>by rw[d]at z;cases z⟩
 keep:=λi h h' st k=>by let⟨u,e,r⟩:=st;show⟨u,k it (by simp) u e,r⟩
 item:=by
  intro X hP hw hK hc i v0 s σ H E I hf st hg;subst hP hw hK;let⟨f0,f1,f2,f3,f4,f5⟩:=hf it (by simp);let ho:s.heap.get? a=some o:=(I.bC a _ hg.1).1;let hi:i<es.size:=hg.2;let⟨x,rx⟩:=hk es[i] (by simp);show adF st ho KP hg.2 λh' Ai sb=>?_;let I1:Inv X v0 σ H {s with heap:=h'}:=I.turned (t':=s.toks) (λb o hb e=>(sb.2 b hb).trans e) f0 f1 f3 f4 f5;let⟨u,e,c,d⟩:=id Ai;show⟨_,rfl,Lr (s:={s with heap:=h'}) e c d (by decide) ⟨x,H,I1,rx,⟨rfl,es[i],by simp[hg.2],rx⟩,Ai,λb hb=>(hf b hb).1⟩⟩
 done:=by
  intro X hP hw hK hc i v0 s σ H E I hf st hg;subst hP hw hK;let⟨f0,f1,f2,f3,f4,f5⟩:=hf it (by simp);let ho:s.heap.get? a=some o:=(I.bC a _ hg.1).1;show nj (I.ok.hd hc) st ho KP hg.2 λh' eb=>⟨rfl,I.turned (t':=s.toks) (λb o hb e=>eb b o hb e) f0 f1 f3 f4 f5⟩
 self:=λ_ _ _ _ _ st h=>wpAny_pyIter_keyiter st h
def abU(e:h.get? a=some o):bj P w H h a (.ext (Fn a o)):=⟨e,⟨o,e⟩,λ_ _ q k=>k _ q⟩
section
variable {X: Cx}{H: A4}{a: Addr}{o: Obj}{u: HO}
def Inv.known(I:Inv X v0 σ H s)(mu:JX (H a))(e:s.heap.get? a=some o):Inv X v0 σ (AI H a (.ext (Fn a o))) s:=
 I.write (h':=s.heap) (t':=s.toks) (x:=a) (e:=a) mu (.inl rfl) (λ_ _ _ z=>z) ⟨o,e⟩ (abU e)
def Inv.Pu(I:Inv X v0 σ H s)(g:H a=some (.ext (Fn a o)))(new:∀h:Heap,h.get? a=some o→bj X.prog X.w (AI H a u) h a u):Inv X v0 σ (AI H a u) s:=by
 let e:s.heap.get? a=some o:=(I.bC a _ g).1;show I.write (h':=s.heap) (t':=s.toks) (x:=a) (e:=a) (by rw[g];show trivial) (.inl rfl) (λ_ _ _ z=>z) ⟨o,e⟩ (new _ e)
end
abbrev nC(P:Program)(w:World)(td:AQ):DI:=λσ H R=>td σ H λx H1=>∃a u,x=.ref a∧H1 a=some u∧JX (some u)∧(∀h,bj P w H1 h a u→(a==sysModules)=false∧∃o es ep,h.get? a=some o∧o.ExactDict∧o.data=.dict es ep∧∀e∈es,∃x,RelV x e.key)∧
 ∀(h:Heap) o es ep,bj P w H1 h a u→h.get? a=some o→o.data=.dict es ep→R (kB a o es) (AI H1 a (.ext (Fn a o)))
def sF{d:Expr}(hd:PE X d td):PI X tg d (nC X.prog X.w td):=by
 show .mk ?_;intro v0 s σ H R I h;show AF (hd v0 s σ H _ I h) λv s1⟨x,H1,I1,r1,a,u,ex,ha,mu,hu,q⟩=>?_;subst ex;cases r1;let ok:=I1.bC a u ha;let⟨sm,⟨o,es,ep,ho,hx,nV,hk⟩⟩:=hu s1.heap ok;let I2:=I1.known (by rw[ha];show mu) ho;show aaO sm ho hx nV ?_;show Ψ5 s1.heap.objs.size [s1.heap.objs.size] _ _ _ ⟨rfl,I2.kept (t':=s1.toks) λb o e=>Aw _ e,nI nV hk,⟨_,CW _ rfl,rfl,rfl⟩,λb hb=>?_,q s1.heap o es ep ok ho nV⟩;let e:b=s1.heap.objs.size:=by simpa using hb
 subst e;show I2.xt (Ah _) (I2.bC.fresh (Ah _))
def Xr{aq:List (List A7×V)}(ok:mH P w H h)(e:bj P w H h a (.dT aq)):∃xs,KT H aq xs∧h.DictOfH (tupleKind (AR P w)) a xs:=by
 let⟨z,y,⟨xs,r,⟨o,es,ep,h1,h2,h3,h4,h5⟩⟩⟩:=e;show⟨xs,r,o,es,ep,h1,h2,h3,h4,λx hx=>?_,h5⟩;let all:∀{l:List (List A7×V)} {m:List (List A7×Addr×Value)},KT H l m→∀x∈m,(tupleKind (AR P w)).is h x.1 x.2.1:=by
  intro l m q;induction q with
  |nil=>intro x hx;show nomatch hx
  |@cons p q ps qs hq t ih=>
   intro x hx;rcases aaf.mp hx with e|hx
   ·subst e
    show HA ok (by rw[←hq.1];show hq.2.1)
   ·show ih x hx
 show all r x hx
abbrev Ti(P:Program)(w:World)(H:A4)(a:Addr)(y v:V):Prop:=
 (∃o us k,PN P w H a o us∧y=Au k∧DW us k=some v)∨∃o us k b,Q0 P w H a o us∧y=.ref b∧H b=some (.tup (k.map Au))∧DW us k=some v
section
variable {X: Cx}{H: A4}{a: Addr}{y v: V}{u: Value}
def abF(I:Inv X v0 σ H s)(g:Ti X.prog X.w H a y v):s.TypeIs (.ref a) "dict" := by
 rcases g with⟨o,us,k,fz,_⟩|⟨o,us,k,b,fz,_⟩
 ·let e:s.heap.get? a=some o:=(I.bC a _ fz.1).1
  let⟨_,_,⟨vs,_,dd⟩⟩:=fz.2 _ e;show dd.typeIs
 ·let e:s.heap.get? a=some o:=(I.bC a _ fz.1).1
  let⟨xs,_,dd⟩:=Xr I.bC (fz.2 _ e);show dd.typeIs
def rI(hu:A.units+1<cLine)(I:Inv X v0 σ H s)(g:Ti X.prog X.w H a y v)(ry:RelV y u)(h:∀w' s',Inv X v0 σ H s'→RelV v w'→Q w' s'):
  wpAny (model X.prog X.w) A (getItem (.ref a) u) Q E s:=by
 rcases g with⟨o,us,k,fz,ey,l⟩|⟨o,us,k,b,fz,ey,eb,l⟩
 ·subst ey
  let e:s.heap.get? a=some o:=(I.bC a _ fz.1).1;let⟨z,hd,⟨vs,rel,dd⟩⟩:=fz.2 _ e;let⟨w',hw,oP⟩:=jr.some_of (v:=v) (o:=valueAt vs k) (by rw[←l];show rel.val k);show Ug (FQ ry) dd.mapOf hw (h w' _ (I.tok _) oP)
 ·subst ey
  cases(show u=Value.ref b from ry);let e:s.heap.get? a=some o:=(I.bC a _ fz.1).1;let⟨xs,rel,dd⟩:=Xr I.bC (fz.2 _ e);let⟨w',hw,oP⟩:=jr.some_of (v:=v) (o:=(atKey xs k).map (·.2)) (by rw[←l];show rel.val k);let⟨p,hp,vB⟩:=abX.mp hw;show wpAny_getItem_heap (Ij hu) (HA I.bC eb) dd hp ?_;rw[vB];show h w' _ (I.tok _) oP
end
abbrev sh(P:Program)(w:World)(td ty:AQ):AQ:=λσ H Q=>td σ H λx H1=>ty σ H1 λy H2=>∃a v,x=.ref a∧Ti P w H2 a y v∧Q v H2
def nG{o i:Expr}{pos:Pos}{ty:AQ}(hu:X.A.units+1<cLine)(ho:PE X o td)(hi:PE X i ty)(hs:Jm i):PE X (.Subscript o i pos) (sh X.prog X.w td ty):=by
 show .mk ?_;intro v0 s σ H Q I h;show RM acs.lookup hs (AF (ho v0 s σ H _ I h) λu s1 ξ=>Ξ23 ξ λx H1 I1 rx q1=>AF (hi v0 s1 σ H1 _ I1 q1) λiv s2⟨y,H2,I2,ry,a,v,ex,g,q2⟩=>?_);subst ex;obtain rfl:u=Value.ref a:=rx;show⟨abF I2 g,rI hu I2 g ry λw' s3 I3 oP=>Ψ2 v H2 ⟨I3,oP,q2⟩⟩
abbrev QM(P:Program)(w:World)(H H':A4):Prop:=∃a o u,H a=some (.ext (Fn a o))∧(∀h:Heap,h.get? a=some o→bj P w (AI H a u) h a u)∧H'=AI H a u
abbrev yu(P:Program)(w:World)(t:Be):Be:=λD σ H=>t {D with nx:=λσ' H'=>∃H2,QM P w H' H2∧D.nx σ' H2} σ H
def wZ{st:Stmt}{t:Be}(h:PS X st t):PS X st (yu X.prog X.w t):=by
 show .mk ?_;intro v0 s σ H D I q;show AF (h v0 s σ H _ I q) λf s' z=>?_;cases f with
 |next=>
  let⟨σ',H',I',⟨H2,⟨a,o,u,g,n,rfl⟩,d⟩⟩:=z;show Ψ2 σ' _ ⟨I'.Pu g n,d⟩
 |brk=>show z
 |cont=>show z
 |ret u=>show z
abbrev wt(P:Program)(w:World)(t:AQ):AQ:=λσ H Q=>t σ H λx H'=>∃H2,QM P w H' H2∧Q x H2
def wD{e:Expr}{t:AQ}(h:PE X e t):PE X e (wt X.prog X.w t):=by
 show .mk ?_;intro v0 s σ H Q I q;show AF (h v0 s σ H _ I q) λv s' ⟨x,H',I',r,H2,⟨a,o,u,g,n,e⟩,d⟩=>?_;subst e;show Ψ2 x _ ⟨I'.Pu g n,r,d⟩
section
variable {w: World}{Kk: Type}[DecidableEq Kk]{knd: KeyKind prog w Kk}
def aaj{aq:List (Kk×Value)}(hh:A.handled=none)(hd:(d==sysModules)=false)(hm:s.heap.DictAt knd d aq ep)(hn:aq.length≤sizeLine)
  (hQ:∀h' tk acc c',(∀b o,s.heap.get? b=some o→h'.get? b=some o)→h'.get? s.heap.objs.size=some {cls:=.type "list",dict:=none,data:=.seq acc c',slots:=#[]}→ItemsOf (λi v=>∃k x,aq[i]?=some (k,x)∧knd.is k v=true) acc aq.length→Q (.ref s.heap.objs.size) {s with heap:=h',toks:=tk}) :
  wpAny (model prog w) A (call (.type "list") [.ref d]) Q E s:=by
 show callType_codes (Q₁:=λobj s₁=>obj=.ref s.heap.objs.size∧s₁={s with heap:=s.heap.push {cls:=.type "list",data:=.seq #[]}}) PySem.F.called_list (PySem.F.typeCall_list_1 _) PySem.F.entry_list_init (code_list_new _ ⟨rfl,rfl⟩) λobj s₁ h₁=>?_;let⟨rfl,rfl⟩:=h₁;let hS:(s.heap.push {cls:=.type "list",data:=.seq #[]}).get? s.heap.objs.size=some {cls:=.type "list",data:=.seq #[]}:=CW _ rfl;let dB:=hm.lt_size;let k0:∀b o,s.heap.get? b=some o→(s.heap.push {cls:=.type "list",data:=.seq #[]}).get? b=some o:=λb o e=>Aw _ e;let Yc:(s.heap.push {cls:=.type "list",data:=.seq #[]}).objs.size=s.heap.objs.size+1:=FG _ _;let hm0:=hm.push {cls:=.type "list",data:=.seq #[]};let RX:d≠s.heap.objs.size:=BB dB;show⟨⟨_,hS,rfl⟩,PySem.F.args_list_init_2 _ _,?_⟩;generalize Wm:s.heap.objs.size=S at hS Yc RX hQ ⊢;show wpAny _ A.in1.in1 (do let old ←Builtin.List.listItems (.ref S);Builtin.List.listUpdate (.ref S) (λ_=>#[]);letGo old.toList.reverse;Builtin.List.listExtendWith (.ref S) (.ref d) .none) _ _ _
 show A6 ?_;unfold Builtin.List.listItems;show A6 (GY hS rfl (AL ?_));show wpAny _ A.in1.in1 (updateSeq S (λ_=>#[]) >>= λ_=>letGo (#[]:Array Value).toList.reverse >>= λ_=>Builtin.List.listExtendWith (.ref S) (.ref d) .none) _ _ _
 show A6 (wpAny_updateSeq hS rfl ?_);let hS₂:=JJ (Obj.mapSeq (λ_=>(#[]:Array Value))) hS rfl;let V6:((s.heap.push {cls:=.type "list",data:=.seq #[]}).update S (Obj.mapSeq (λ_=>(#[]:Array Value)))).DictAt knd d aq ep:=hm0.at' λo e=>(Kv _ _ (C3 RX)).trans e;let Yb:((s.heap.push {cls:=.type "list",data:=.seq #[]}).update S (Obj.mapSeq (λ_=>(#[]:Array Value)))).objs.size=S+1:=by rw[Heap.size_update];show Yc
 let k1:∀b o,b≠S→s.heap.get? b=some o→((s.heap.push {cls:=.type "list",data:=.seq #[]}).update S (Obj.mapSeq (λ_=>(#[]:Array Value)))).get? b=some o:=λb o hb e=>(Kv _ _ (C3 hb)).trans (k0 b o e);generalize hh1:((s.heap.push {cls:=.type "list",data:=.seq #[]}).update S (Obj.mapSeq (λ_=>(#[]:Array Value))))=h1 at *
 show A6 (wpAny_letGo ?_);unfold Builtin.List.listExtendWith;show A6 (Ju (T := "dict") V6.dictOf.typeIs ?_);let g1:Builtin.List.listSameRef (.ref S) (.ref d)=false:=by simp[Builtin.List.listSameRef,C3 RX]
 let g2:(Value.type "dict" == Value.type "list")=false:=by decide
 let g3:(Value.type "dict" == Value.type "tuple")=false:=by decide
 simp only[g1,g2,g3,Qa,Sf,HV];show A6 (wpAny_pyIter_dict hd V6 ?_);dsimp only;rw[Yb];show A6 (Ep ?_);let T7:=V6.push {cls:=.type "dict_keyiterator",data:=.fields #[.ref d,.int 0 0,.int aq.length 0,.int ep 0]};unfold Builtin.List.listLengthHint;show A6 (wpAny_specialOf (name:=Str.ofString "__len__") T7.dictOf.typeIs PySem.F.slot_dict_len.lookup ?_)
 (generalize V9:("dict.__len__" : String)=X4;(fail_if_success (clear V9 X4));wp_delta;rw[show splitId X4=some ("dict","__len__")from by subst V9;done];subst V9)
 show A6 (Qg (b:=true) T7.dictOf.typeIs (by rw[isSubtype_type];kernel_rfl) ?_);show A6 (Ju (T := "dict") T7.dictOf.typeIs (AL ?_));show wpAny _ A.in1.in1 (rule "list.extend.makes-room" >>= λ_=>Builtin.List.listTouch (.ref S) >>= λ_=>again (.builtin "list.extend.loop" ⟨[.ref S,.ref (S+1),.none],[]⟩)) _ _ _
 show A6 (JM ?_);let Yz:=Aw {cls:=.type "dict_keyiterator",data:=.fields #[.ref d,.int 0 0,.int aq.length 0,.int ep 0]} hS₂;let hI2:(h1.push {cls:=.type "dict_keyiterator",data:=.fields #[.ref d,.int 0 0,.int aq.length 0,.int ep 0]}).get? (S+1)=some {cls:=.type "dict_keyiterator",data:=.fields #[.ref d,.int 0 0,.int aq.length 0,.int ep 0]}:=by rw[←Yb];show CW _ rfl
 let k2:∀b o,b≠S→s.heap.get? b=some o→(h1.push {cls:=.type "dict_keyiterator",data:=.fields #[.ref d,.int 0 0,.int aq.length 0,.int ep 0]}).get? b=some o:=λb o hb e=>Aw _ (k1 b o hb e);generalize (h1.push {cls:=.type "dict_keyiterator",data:=.fields #[.ref d,.int 0 0,.int aq.length 0,.int ep 0]})=h2 at *
 show A6 ?_;show wpAny _ A.in1.in1 (updateSeq S (·.push .none) >>= λ_=>updateSeq S (·.pop)) _ _ _
 show A6 (wpAny_updateSeq Yz rfl ?_);let Yy:=JJ (Obj.mapSeq (·.push Value.none)) Yz rfl;show wpAny_updateSeq (hz:=by seq_fits) Yy rfl ?_;let hS4:=JJ (Obj.mapSeq (·.pop)) Yy rfl;let Ve:∀b o,b≠S→h2.get? b=some o→((h2.update S (Obj.mapSeq (·.push Value.none))).update S (Obj.mapSeq (·.pop))).get? b=some o:=λb o hb e=>(Kv _ _ (C3 hb)).trans ((Kv _ _ (C3 hb)).trans e);let W:=(Walks.dictKeys (prog:=prog) (w:=w) (knd:=knd) (A:=A.in1.in1) hh (S+1) d (BB (by rw[Wm]at dB;show HJ dB)) aq ep).toS;let hSf:S∉[S+1,d]:=λm=>by
  rcases aaf.mp m with e|e
  ·show BB (Hh _) e
  ·show RX (aaB.mp e).symm
 show AL ⟨plainId_quiet PySem.F.plain_extend_loop _,codeAny_extend_loopS W hn _ hSf _ aq.length 0 _ _ _ rfl (EY _) ⟨⟨_,Ve _ _ (Oi _) hI2,rfl,rfl⟩,T7.at' λo e=>Ve _ _ RX e⟩ hS4 (ItemsOf.nil _) λs' WW c' T9 KR Wi=>?_⟩;let e:s'={s with heap:=s'.heap,toks:=s'.toks}:=by
  obtain⟨h',g',d',ZM,Vf⟩:=s';let e1:g'=s.gens:=T9.gens;let e2:d'=s.drawn:=T9.drawn;let e3:Vf=s.os:=T9.os;subst e1 e2 e3;rfl
 show⟨rfl,?_⟩;rw[e];show hQ _ _ WW c' (λb o hb=>?_) KR Wi;let Wh:b≠S:=by rw[←Wm];show BB (B5 hb)
 show T9.heap b o ?_ (Ve b o Wh (k2 b o Wh hb));intro m;rcases aaf.mp m with e|e
 ·show Wh e
 ·have:=B5 hb
  rw[aaB.mp e,Wm]at this;show absurd this (Nat.not_lt.mpr (BR _))
end
end L2
namespace Sto
abbrev rEq:=Int×Int
abbrev wtA:=Int×Int×Int
end Sto
namespace L3
open PySem PySem.Spec L2
open PyProof.Rows hiding St
variable {Γ Γ1 Γ':AJ}{a p:Addr}{o o3 o2:O}{b neg:Bool}{u:Value}{K:W.Frag}{vs:List V}{xs us ts:List T}{i k n kk:Nat}{v:V}{x:T}{H H':A4}{Y: F6}{E: St→BD}{Z: DH}{Q:Option Int→AJ→Prop}{e tg c:Expr}{t ta:Ca}{t' t0:CR}{z qual:Str}{pos np dD: Pos}{r:T→AJ→DH→Prop}{tb:BY}{v4 elts:List Expr}{tc:Cf}{es: List Expr}{g:D9}{gs:J6}{to ti te tl:AK}{pos' uD:Pos}{body:List Stmt}{wi:I3}{τ: BF}{own ps:List Str}{cap:List (Nat×Str)}{N: BF→AJ→Prop}{f:Value→Value→Sem Value}{C:Int→Int→Prop}{g3:Int→Int→T}{th:IZ}{Tn: String}{Ty:String}{l:List Addr}{st:Stmt}{fd:FuncData}{sp:Av}{A:List T→AJ→Prop}{j:Int}{I:List T→(AJ→Prop)→AJ→Prop}{X: Cx}
inductive T where
 |non|bl (b:Bool)|int (i:Int)|str (z:Str)|tup (ts:List T)|ref (a:Addr)|ty (n:String)
 /-- a list Pw Vm changes (wq yw) -/
 |scr (K:W.Frag) (a:Addr) (ts:List T)
abbrev Js(K:W.Frag)(H:A4)(a:Addr)(vs:List V):Prop:=(∃o,H a=some (.frz o (.lst vs))) ∨
 ∃(o:Obj) (bf:Array Value) (n:Nat),K.lookup a=some o∧o.cls=.type "list" ∧ o.dict=none∧o.data=.seq bf n∧bf.size≤sizeLine∧Vals vs bf.toList
inductive O where
 |lst (ts:List T)
 |ins (C dx:Addr) (fs:List (Str×T))
 |own (x:Addr)
 |dK (aq:List (A7×T))
 |ext (φ:Heap→Prop)
 /-- a dict Jy keys are tuples of ints and texts -/
 |dT (aq:List (List A7×T))
 /-- wq same,and wq dict of ints and texts,known to wq sign: walked,not changed -/
 |fzT (P:Program) (w:World) (o:Obj) (aq:List (List A7×T))
 |fzK (P:Program) (w:World) (o:Obj) (aq:List (A7×T))
 /-- wq table of a def Pw makes a Vy -/
 |lam (q:Str) (pos:Pos)
abbrev AJ:=Addr→Option O
abbrev AA(Γ:AJ)(a:Addr)(o:O):AJ:=λb=>if b=a then some o else Γ b
def Ae:AA Γ a o a=some o:=by unfold AA;rw[Ab rfl]
def AZ{b:Addr}(h:b≠a):AA Γ a o b=Γ b:=by unfold AA;rw[AP h]
def Mq{u:O}:AA (AA Γ a o) a u=AA Γ a u:=by
 funext b;unfold AA;split<;>rfl
def Lu{b:Addr}{u:O}(h:Γ a=some o)(h':Γ b=some u)(d:o≠u):a≠b:=by
 intro e;subst e;rw[h]at h';show d (EJ h')
def Bl{b:Addr}(h:Γ a=some o)(h':Γ b=none):a≠b:=by
 intro e;subst e;rw[h]at h';cases h'
mutual
def R(H:A4):V→T→Prop
 |v,.non=>v=.non
 |v,.bl b=>v=.bl b
 |v,.int i=>v=.int i
 |v,.str z=>v=.str z
 |v,.ref a=>v=.ref a
 |v,.ty n=>v=.ty n
 |v,.tup ts=>∃a vs,v=.ref a∧H a=some (.tup vs)∧Rs H vs ts
 |v,.scr K a ts=>v=.ref a∧∃vs,Js K H a vs∧Rs H vs ts
def Rs(H:A4):List V→List T→Prop
 |vs,[]=>vs=[]
 |vs,t::r=>∃v ws,vs=v::ws∧R H v t∧Rs H ws r
end
abbrev Tq(H H':A4):Prop:=(∀a vs,H a=some (.tup vs)→H' a=some (.tup vs))∧∀a o u,H a=some (.frz o u)→H' a=some (.frz o u)
section
variable {H H': A4}
def Tq.refl:Tq H H:=⟨λ_ _ h=>h,λ_ _ _ h=>h⟩
def Tq.trans{H1:A4}(a:Tq H H1)(b:Tq H1 H'):Tq H H':=⟨λx vs h=>b.1 x vs (a.1 x vs h),λx o u h=>b.2 x o u (a.2 x o u h)⟩
def Js.mono(t:Tq H H')(h:Js K H a vs):Js K H' a vs:=by
 rcases h with⟨o,h⟩|h
 ·show .inl ⟨o,t.2 _ _ _ h⟩
 ·show .inr h
mutual
theorem R.mono(t:Tq H H'):∀{x:T} {v:V},R H v x→R H' v x
 |.non,v,h=>by unfold R at h ⊢;show h
 |.bl _,v,h=>by unfold R at h ⊢;show h
 |.int _,v,h=>by unfold R at h ⊢;show h
 |.str _,v,h=>by unfold R at h ⊢;show h
 |.ref _,v,h=>by unfold R at h ⊢;show h
 |.ty _,v,h=>by unfold R at h ⊢;show h
 |.tup ts,v,h=>by
  unfold R at h ⊢;let⟨a,vs,e,s,q⟩:=h;show Ψ2 a vs ⟨e,t.1 a vs s,Rs.mono t q⟩
 |.scr K a ts,v,h=>by
  unfold R at h ⊢;let⟨e,⟨vs,s,q⟩⟩:=h;show⟨e,vs,s.mono t,Rs.mono t q⟩
theorem Rs.mono(t:Tq H H'):∀{xs:List T} {vs:List V},Rs H vs xs→Rs H' vs xs
 |[],vs,h=>by unfold Rs at h ⊢;show h
 |x::r,vs,h=>by
  unfold Rs at h ⊢;let⟨v,ws,e,p,q⟩:=h;show Ψ2 v ws ⟨e,R.mono t p,Rs.mono t q⟩
end
def Rs.length:∀{xs:List T} {vs:List V},Rs H vs xs→vs.length=xs.length
 |[],vs,h=>by unfold Rs at h;subst h;rfl
 |x::r,vs,h=>by
  unfold Rs at h;let⟨v,ws,e,_,q⟩:=h;rw[e,CF,CF,Rs.length q]
def Rs.get:∀{xs:List T} {vs:List V} {i:Nat} {x:T},Rs H vs xs→xs[i]?=some x→∃v,vs[i]?=some v∧R H v x
 |[],vs,i,x,h,e=>by simp at e
 |y::r,vs,i,x,h,e=>by
  unfold Rs at h;let⟨v,ws,e1,p,q⟩:=h;subst e1;cases i with
  |zero=>cases e;show⟨v,rfl,p⟩
  |succ i=>show Rs.get (i:=i) q e
def Rs.zt(h:Rs H vs xs)(e:vs[i]?=some v):∃x,xs[i]?=some x∧R H v x:=by
 let hl:=h.length;obtain⟨hi,_⟩:=aaE.mp e;let IA:i<xs.length:=by lia
 let⟨v',e',r⟩:=h.get (i:=i) (x:=xs[i]) (by simp[IA]);rw[e]at e';cases e';show⟨xs[i],by simp[IA],r⟩
def Rs.app:∀{xs ys:List T} {vs ws:List V},Rs H vs xs→Rs H ws ys→Rs H (vs++ws) (xs++ys)
 |[],ys,vs,ws,h,h'=>by unfold Rs at h;subst h;show h'
 |x::r,ys,vs,ws,h,h'=>by
  unfold Rs at h;let⟨v,us,e,p,q⟩:=h;subst e;show Rs H (v::(us++ws)) (x::(r++ys))
  unfold Rs;show Ψ2 v _ ⟨rfl,p,Rs.app q h'⟩
def EM:Rs H [] []:=by unfold Rs;rfl
def Dn(a:R H v x)(b:Rs H vs xs):Rs H (v::vs) (x::xs):=by
 unfold Rs;show Ψ2 v vs ⟨rfl,a,b⟩
def FZ(h:Rs H vs (x::xs)):∃v ws,vs=v::ws∧R H v x∧Rs H ws xs:=by unfold Rs at h;show h
def GR(h:Rs H vs []):vs=[]:=by unfold Rs at h;show h
def Rs.drop:∀{xs:List T} {vs:List V} (n:Nat),Rs H vs xs→Rs H (vs.drop n) (xs.drop n)
 |xs,vs,0,h=>h
 |[],vs,n+1,h=>by rw[GR h];show EM
 |x::r,vs,n+1,h=>by
  let⟨v,ws,e,_,q⟩:=FZ h;subst e;show Rs.drop n q
def Rs.take:∀{xs:List T} {vs:List V} (n:Nat),Rs H vs xs→Rs H (vs.take n) (xs.take n)
 |xs,vs,0,h=>by rw[Ra,Ra];show EM
 |[],vs,n+1,h=>by rw[GR h];show EM
 |x::r,vs,n+1,h=>by
  let⟨v,ws,e,p,q⟩:=FZ h;subst e;show Dn p (Rs.take n q)
def Rs.set:∀{xs:List T} {vs:List V} {v:V} {x:T} (n:Nat),Rs H vs xs→R H v x→Rs H (vs.set n v) (xs.set n x)
 |[],vs,v,x,n,h,p=>by rw[GR h];show EM
 |y::r,vs,v,x,0,h,p=>by
  let⟨u,ws,e,_,q⟩:=FZ h;subst e;show Dn p q
 |y::r,vs,v,x,n+1,h,p=>by
  let⟨u,ws,e,p',q⟩:=FZ h;subst e;show Dn p' (Rs.set n q p)
end
abbrev Fs(H:A4):List (Str×V)→List (Str×T)→Prop:=Paired λ(p:Str×V) (q:Str×T)=>p.1=q.1∧R H p.2 q.2
abbrev Ks(H:A4):List (A7×V)→List (A7×T)→Prop:=Paired λ(p:A7×V) (q:A7×T)=>p.1=q.1∧R H p.2 q.2
abbrev Kt(H:A4):List (List A7×V)→List (List A7×T)→Prop:=Paired λ(p:List A7×V) (q:List A7×T)=>p.1=q.1∧R H p.2 q.2
def Jz{α β:Type}{P Q:α→β→Prop}(h:∀a b,P a b→Q a b):∀{xs:List α} {ys:List β},Paired P xs ys→Paired Q xs ys
 |_,_,.nil=>.nil
 |_,_,.cons a b=>.cons (h _ _ a) (Jz h b)
def Fs.mono(t:Tq H H'){a:List (Str×V)}{b:List (Str×T)}(h:Fs H a b):Fs H' a b:=Jz (λ_ _ q=>⟨q.1,q.2.mono t⟩) h
def Ks.mono(t:Tq H H'){a:List (A7×V)}{b:List (A7×T)}(h:Ks H a b):Ks H' a b:=Jz (λ_ _ q=>⟨q.1,q.2.mono t⟩) h
def Kt.mono(t:Tq H H'){a:List (List A7×V)}{b:List (List A7×T)}(h:Kt H a b):Kt H' a b:=Jz (λ_ _ q=>⟨q.1,q.2.mono t⟩) h
def aj{P:Program}{w:World}{h:Heap}{us:List (List A7×V)}(t:∀b vs,H b=some (.tup vs)→H' b=some (.tup vs))(q:bj P w H h a (.dT us)):bj P w H' h a (.dT us):=by
 obtain⟨z,y,xs,r,q⟩:=q;show⟨z,y,xs,Jz (λ_ _ p=>⟨p.1,t _ _ p.2.1,p.2.2⟩) r,q⟩
abbrev Ho(H:A4)(a:Addr):O→Prop
 |.lst ts=>∃vs,H a=some (.lst vs)∧Rs H vs ts
 |.ins C dx fs=>∃gs,H a=some (.ins C dx gs)∧Fs H gs fs
 |.own x=>H a=some (.own x)
 |.dK aq=>∃us,H a=some (.dK us)∧Ks H us aq
 |.ext φ=>H a=some (.ext φ)
 |.dT aq=>∃us,H a=some (.dT us)∧Kt H us aq
 |.fzT P w o aq=>∃us,Q0 P w H a o us∧Kt H us aq
 |.fzK P w o aq=>∃us,PN P w H a o us∧Ks H us aq
 |.lam q pos=>oj H a q pos
abbrev HR(H:A4)(Γ:AJ):Prop:=∀a o,Γ a=some o→Ho H a o
structure eJ(H:A4)(Γ:AJ)(H':A4)(Γ':AJ):Prop where
 tq:Tq H H'
 vM:∀a,H a≠none→H' a≠none
 new:∀a,H a≠none→Γ a=none→Γ' a=none
 ui:∀a o,H a=some o→Γ a=none→H' a=some o
section
variable {H H' H1: A4}{Γ Γ' Γ1: AJ}
def eJ.refl:eJ H Γ H Γ:=⟨.refl,λ_ h=>h,λ_ _ h=>h,λ_ _ h _=>h⟩
def eJ.trans(a:eJ H Γ H1 Γ1)(b:eJ H1 Γ1 H' Γ'):eJ H Γ H' Γ':=
 ⟨a.tq.trans b.tq,λx h=>b.vM x (a.vM x h),λx h g=>b.new x (a.vM x h) (a.new x h g),λx o h g=>b.ui x o (a.ui x o h g) (a.new x (by rw[h];exactλz=>(nomatch z)) g)⟩
def Ho.mono(t:Tq H H')(e:∀u,H a=some u→H' a=some u)(h:Ho H a o):Ho H' a o:=by
 cases o with
 |lst ts=>obtain⟨vs,h,r⟩:=h;show⟨vs,e _ h,r.mono t⟩
 |ins C dx fs=>obtain⟨vs,h,r⟩:=h;show⟨vs,e _ h,r.mono t⟩
 |own x=>show e _ h
 |dK aq=>obtain⟨vs,h,r⟩:=h;show⟨vs,e _ h,r.mono t⟩
 |ext φ=>show e _ h
 |dT aq=>obtain⟨vs,h,r⟩:=h;show⟨vs,e _ h,r.mono t⟩
 |fzT P w o aq=>obtain⟨vs,h,r⟩:=h;show⟨vs,⟨e _ h.1,λh' g=>aj t.1 (h.2 h' g)⟩,r.mono t⟩
 |fzK P w o aq=>obtain⟨vs,h,r⟩:=h;show⟨vs,⟨e _ h.1,λh' g=>h.2 h' g⟩,r.mono t⟩
 |lam q pos=>
  rcases h with h|⟨c',oc,vs,t',u,h1,h2,h3⟩
  ·show .inl (e _ h)
  ·show .inr ⟨c',oc,vs,t',u,e _ h1,t.2 _ _ _ h2,h3⟩
def Ho.some(h:Ho H a o):∃u,H a=some u∧(∀vs:List V,u≠.tup vs)∧∀b w,u≠.frz b w:=by
 cases o with
 |lst ts=>obtain⟨vs,h,r⟩:=h;show⟨_,h,⟨λ_ z=>(nomatch z),λ_ _ z=>(nomatch z)⟩⟩
 |ins C dx fs=>obtain⟨vs,h,r⟩:=h;show⟨_,h,⟨λ_ z=>(nomatch z),λ_ _ z=>(nomatch z)⟩⟩
 |own x=>show⟨_,h,⟨λ_ z=>(nomatch z),λ_ _ z=>(nomatch z)⟩⟩
 |dK aq=>obtain⟨vs,h,r⟩:=h;show⟨_,h,⟨λ_ z=>(nomatch z),λ_ _ z=>(nomatch z)⟩⟩
 |ext φ=>show⟨_,h,⟨λ_ z=>(nomatch z),λ_ _ z=>(nomatch z)⟩⟩
 |dT aq=>obtain⟨vs,h,r⟩:=h;show⟨_,h,⟨λ_ z=>(nomatch z),λ_ _ z=>(nomatch z)⟩⟩
 |fzT P w o aq=>obtain⟨vs,h,r⟩:=h;show⟨_,h.1,⟨λ_ z=>(nomatch z),λ_ _ z=>(nomatch z)⟩⟩
 |fzK P w o aq=>obtain⟨vs,h,r⟩:=h;show⟨_,h.1,⟨λ_ z=>(nomatch z),λ_ _ z=>(nomatch z)⟩⟩
 |lam q pos=>
  rcases h with h|⟨c',oc,vs,t',u,h,_⟩
  ·show⟨_,h,⟨λ_ z=>(nomatch z),λ_ _ z=>(nomatch z)⟩⟩
  ·show⟨_,h,⟨λ_ z=>(nomatch z),λ_ _ z=>(nomatch z)⟩⟩
def HR.free(h:HR H Γ)(n:H a=none):Γ a=none:=by
 cases e:Γ a with
 |none=>rfl
 |some o=>
  let⟨u,hu,_⟩:=(h a o e).some;rw[n]at hu;cases hu
def Ce(k:∀b o,H b=some o→H' b=some o):Tq H H':=⟨λa vs h=>k _ _ h,λa o u h=>k _ _ h⟩
def eJ.keep(k:∀b o,H b=some o→H' b=some o):eJ H Γ H' Γ:=
 ⟨Ce k,λa h z=>by
  cases e:H a with
  |none=>show h e
  |some o=>show(by rw[k a o e]at z;cases z),λ_ _ h=>h,λa o h _=>k a o h⟩
def HR.keep(h:HR H Γ)(k:∀b o,H b=some o→H' b=some o):HR H' Γ:=λa o e=>(h a o e).mono (Ce k) (k a)
def CO{o:HO}(h:H p=none):∀b u,H b=some u→AI H p o b=some u:=λb u q=>by rw[Ay (Fe q h)];show q
def eJ.make{o:HO}(h:H p=none):eJ H Γ (AI H p o) (AA Γ p o3):=by
 show⟨Ce (CO h),λa q z=>?_,λa q g=>?_,λa u q _=>CO h a u q⟩
 ·by_cases e:a=p
  ·subst e;show q h
  ·rw[Ay e]at z;show q z
 ·let e:a≠p:=λe=>q (by rw[e];show h)
  rw[AZ e];show g
def HR.make(hr:HR H Γ){o:HO}(h:H p=none)(k:Ho (AI H p o) p o3):HR (AI H p o) (AA Γ p o3):=λa u e=>by
 by_cases z:a=p
 ·subst z;rw[Ae]at e;cases e;show k
 ·rw[AZ z]at e
  show(hr a u e).mono (Ce (CO h)) λ_ q=>by rw[Ay z];show q
def EX{o u:HO}(h:H a=some u)(n:(∀vs:List V,u≠.tup vs)∧∀b w,u≠.frz b w):Tq H (AI H a o):=⟨λx vs q=>by
 have:x≠a:=λe=>by subst e;rw[h]at q;show n.1 vs (EJ q)
 rw[Ay this];show q,λx b w q=>by
 have:x≠a:=λe=>by subst e;rw[h]at q;show n.2 b w (EJ q)
 rw[Ay this];show q⟩
def eJ.set{o:HO}(hr:HR H Γ)(g:Γ a=some o2):eJ H Γ (AI H a o) (AA Γ a o3):=by
 let⟨u,hu,n⟩:=(hr a o2 g).some;show⟨EX hu n,λx q z=>?_,λx q g'=>?_,λx w q g'=>?_⟩
 ·by_cases e:x=a
  ·subst e;rw[B9]at z;cases z
  ·rw[Ay e]at z;show q z
 ·let e:x≠a:=λe=>by subst e;rw[g]at g';cases g'
  rw[AZ e];show g'
 ·let e:x≠a:=λe=>by subst e;rw[g]at g';cases g'
  rw[Ay e];show q
def HR.set{o:HO}(hr:HR H Γ)(g:Γ a=some o2)(k:Ho (AI H a o) a o3):HR (AI H a o) (AA Γ a o3):=λx u e=>by
 let⟨w,hw,n⟩:=(hr a o2 g).some;by_cases z:x=a
 ·subst z;rw[Ae]at e;cases e;show k
 ·rw[AZ z]at e
  show(hr x u e).mono (EX hw n) λ_ q=>by rw[Ay z];show q
def HR.hide{o u:HO}(hr:HR H Γ)(g:Γ a=none)(h:H a=some u)(n:(∀vs:List V,u≠.tup vs)∧∀b w,u≠.frz b w):HR (AI H a o) Γ:=λx w e=>by
 let z:x≠a:=λz=>by subst z;rw[g]at e;cases e
 show(hr x w e).mono (EX h n) λ_ q=>by rw[Ay z];show q
end
abbrev BF:=List (Option T)
abbrev F6:=BF→Value→AJ→Prop
abbrev DH:=T→AJ→Prop
abbrev AK:=F6→BF→AJ→DH→Prop
abbrev Cf:=F6→BF→AJ→(Bool→AJ→Prop)→Prop
abbrev Ca:=F6→BF→AJ→(List T→AJ→Prop)→Prop
structure Km where
 nx:BF→AJ→Prop
 rt:DH
 bk:BF→AJ→Prop:=λ_ _=>False
 ct:BF→AJ→Prop:=λ_ _=>False
abbrev BY:=F6→Km→BF→AJ→Prop
abbrev Ta(H:A4):Option V→Option T→Prop
 |_,none=>True
 |some v,some x=>R H v x
 |none,some _=>False
abbrev RS(H:A4):St→BF→Prop
 |[],[]=>True
 |v::r,x::q=>Ta H v x∧RS H r q
 |_,_=>False
section
variable {H H': A4}{Γ Γ': AJ}
def Ta.mono(t:Tq H H'){v:Option V}{x:Option T}(h:Ta H v x):Ta H' v x:=by
 cases x with
 |none=>show trivial
 |some x=>cases v with
  |none=>show h.elim
  |some v=>show R.mono t h
def RS.mono(t:Tq H H'):∀{σ:St} {τ:BF},RS H σ τ→RS H' σ τ
 |[],[],_=>trivial
 |_::_,_::_,h=>⟨h.1.mono t,RS.mono t h.2⟩
 |[],_::_,h=>h.elim
 |_::_,[],h=>h.elim
def RS.get:∀{σ:St} {τ:BF} {i:Nat} {x:T},RS H σ τ→τ[i]?=some (some x)→∃v,σ[i]?=some (some v)∧R H v x
 |[],[],i,x,_,e=>by simp at e
 |v::r,y::q,i,x,h,e=>by
  cases i with
  |zero=>
   cases e;cases v with
   |none=>show h.1.elim
   |some v=>show⟨v,rfl,h.1⟩
  |succ i=>show RS.get (i:=i) h.2 e
 |[],_::_,_,_,h,_=>h.elim
 |_::_,[],_,_,h,_=>h.elim
def RS.set(r:R H v x):∀{σ:St} {τ:BF} (i:Nat),RS H σ τ→RS H (σ.set i (some v)) (τ.set i (some x))
 |[],[],_,_=>trivial
 |_::_,_::_,0,h=>⟨r,h.2⟩
 |_::_,_::_,i+1,h=>⟨h.1,RS.set r i h.2⟩
 |[],_::_,_,h=>h.elim
 |_::_,[],_,h=>h.elim
abbrev XR(H:A4)(Γ:AJ)(Y:F6)(E:St→BD):Prop:=∀σ τ C H' Γ',eJ H Γ H' Γ'→HR H' Γ'→RS H' σ τ→Y τ C Γ'→E σ C none H'
def XR.mono{Y:F6}{E:St→BD}(x:XR H Γ Y E)(s:eJ H Γ H' Γ'):XR H' Γ' Y E:=λσ τ C H2 Γ2 s2 h2 r y=>x σ τ C H2 Γ2 (s.trans s2) h2 r y
abbrev VR(H:A4)(Γ:AJ)(Z:DH)(Q:An):Prop:=∀v x H' Γ',eJ H Γ H' Γ'→HR H' Γ'→R H' v x→Z x Γ'→Q v H'
def VR.mono{Z:DH}{Q:An}(x:VR H Γ Z Q)(s:eJ H Γ H' Γ'):VR H' Γ' Z Q:=λv x' H2 Γ2 s2 h2 r y=>x v x' H2 Γ2 (s.trans s2) h2 r y
abbrev NR(H:A4)(Γ:AJ)(Z:BF→AJ→Prop)(Q:St→A4→Prop):Prop:=∀σ τ H' Γ',eJ H Γ H' Γ'→HR H' Γ'→RS H' σ τ→Z τ Γ'→Q σ H'
def NR.mono{Z:BF→AJ→Prop}{Q:St→A4→Prop}(x:NR H Γ Z Q)(s:eJ H Γ H' Γ'):NR H' Γ' Z Q:=λv x' H2 Γ2 s2 h2 r y=>x v x' H2 Γ2 (s.trans s2) h2 r y
structure DR(H:A4)(Γ:AJ)(Z:Km)(Q:Ends):Prop where
 nx:NR H Γ Z.nx Q.nx
 rt:VR H Γ Z.rt Q.rt
 bk:NR H Γ Z.bk Q.bk
 ct:NR H Γ Z.ct Q.ct
def DR.mono{Z:Km}{Q:Ends}(x:DR H Γ Z Q)(s:eJ H Γ H' Γ'):DR H' Γ' Z Q:=⟨x.nx.mono s,x.rt.mono s,x.bk.mono s,x.ct.mono s⟩
end
section
variable (E: St→BD)
abbrev AD(t:AK):AQ:=λσ H Q=>∃τ Γ Y Z,RS H σ τ∧HR H Γ∧t Y τ Γ Z∧VR H Γ Z Q∧XR H Γ Y E
abbrev CL(t:Cf):CR:=λσ H Q=>∃τ Γ Y Z,RS H σ τ∧HR H Γ∧t Y τ Γ Z∧(∀b H' Γ',eJ H Γ H' Γ'→HR H' Γ'→Z b Γ'→Q b H')∧XR H Γ Y E
abbrev De(t:Ca):CM:=λσ H Q=>∃τ Γ Y Z,RS H σ τ∧HR H Γ∧t Y τ Γ Z∧(∀vs xs H' Γ',eJ H Γ H' Γ'→HR H' Γ'→Rs H' vs xs→Z xs Γ'→Q vs H')∧XR H Γ Y E
abbrev C6(t:BY):Be:=λD σ H=>∃τ Γ Y Z,RS H σ τ∧HR H Γ∧t Y Z τ Γ∧DR H Γ Z D∧XR H Γ Y E
end
section
def FL{t t':AQ}(h:PE X e t)(w:∀σ H Q,t' σ H Q→t σ H Q):PE X e t':=⟨λv0 s σ H Q I q=>h.run v0 s σ H Q I (w _ _ _ q)⟩
def Me{t:CR}(h:PT X e t)(w:∀σ H Q,t' σ H Q→t σ H Q):PT X e t':=⟨λv0 s σ H Q I q=>h.run v0 s σ H Q I (w _ _ _ q)⟩
def pU{t:CR}(h:PW X e t)(w:∀σ H Q,t' σ H Q→t σ H Q):PW X e t':=⟨λwh v0 s σ H Q I q=>h.run wh v0 s σ H Q I (w _ _ _ q)⟩
def ur{e:List Expr}{t t':CM}(h:PA X e t)(w:∀σ H Q,t' σ H Q→t σ H Q):PA X e t':=⟨λpos v0 s σ H Q I q=>h.run pos v0 s σ H Q I (w _ _ _ q)⟩
def QB{e:Stmt}{t t':Be}(h:PS X e t)(w:∀D σ H,t' D σ H→t D σ H):PS X e t':=⟨λv0 s σ H D I q=>h.run v0 s σ H D I (w _ _ _ q)⟩
def aa1{e:List Stmt}{t t':Be}(h:mv X e t)(w:∀D σ H,t' D σ H→t D σ H):mv X e t':=⟨λv0 s σ H D I q=>h.run v0 s σ H D I (w _ _ _ q)⟩
def wH{t t':DL}(h:PG X e t)(w:∀v σ H Q,t' v σ H Q→t v σ H Q):PG X e t':=⟨λv0 s σ H v u Q I r q=>h.run v0 s σ H v u Q I r (w _ _ _ _ q)⟩
def z9{e:List Expr}{t t':GS}(h:Bp X e t)(w:∀v σ H Q,t' v σ H Q→t v σ H Q):Bp X e t':=⟨λv0 s σ H v u Q I r q=>h.run v0 s σ H v u Q I r (w _ _ _ _ q)⟩
def wx{t t':DI}(h:PI X tg e t)(w:∀σ H Q,t' σ H Q→t σ H Q):PI X tg e t':=⟨λv0 s σ H Q I q=>h.run v0 s σ H Q I (w _ _ _ q)⟩
def adg{e:List Expr}{t:CR}(h:wa X e t)(w:∀σ H Q,t' σ H Q→t σ H Q):wa X e t':=⟨λv0 s σ H Q I q=>h.run v0 s σ H Q I (w _ _ _ q)⟩
def D6{t0:AQ}{t:AK}(h:PE X e t0)(w:∀σ H Q τ Γ Y Z,RS H σ τ→HR H Γ→t Y τ Γ Z→VR H Γ Z Q→XR H Γ Y E→t0 σ H Q):PE X e (AD E t):=
 FL h (by intro σ H Q⟨τ,Γ,Y,Z,rs,hr,q,vr,xr⟩;show w σ H Q τ Γ Y Z rs hr q vr xr)
def X3{t:Cf}(h:PT X e t0)(w:∀σ H Q τ Γ Y Z,RS H σ τ→HR H Γ→t Y τ Γ Z→(∀b H' Γ',eJ H Γ H' Γ'→HR H' Γ'→Z b Γ'→Q b H')→XR H Γ Y E→t0 σ H Q):PT X e (CL E t):=
 Me h (by intro σ H Q⟨τ,Γ,Y,Z,rs,hr,q,vr,xr⟩;show w σ H Q τ Γ Y Z rs hr q vr xr)
def eV{t:Cf}(h:PW X e t0)(w:∀σ H Q τ Γ Y Z,RS H σ τ→HR H Γ→t Y τ Γ Z→(∀b H' Γ',eJ H Γ H' Γ'→HR H' Γ'→Z b Γ'→Q b H')→XR H Γ Y E→t0 σ H Q):PW X e (CL E t):=
 pU h (by intro σ H Q⟨τ,Γ,Y,Z,rs,hr,q,vr,xr⟩;show w σ H Q τ Γ Y Z rs hr q vr xr)
def ij{e:List Expr}{t0:CM}(h:PA X e t0)(w:∀σ H Q τ Γ Y Z,RS H σ τ→HR H Γ→t Y τ Γ Z→(∀vs xs H' Γ',eJ H Γ H' Γ'→HR H' Γ'→Rs H' vs xs→Z xs Γ'→Q vs H')→XR H Γ Y E→t0 σ H Q):PA X e (De E t):=
 ur h (by intro σ H Q⟨τ,Γ,Y,Z,rs,hr,q,vr,xr⟩;show w σ H Q τ Γ Y Z rs hr q vr xr)
def yy{e:List Expr}{t:Cf}(h:wa X e t0)(w:∀σ H Q τ Γ Y Z,RS H σ τ→HR H Γ→t Y τ Γ Z→(∀b H' Γ',eJ H Γ H' Γ'→HR H' Γ'→Z b Γ'→Q b H')→XR H Γ Y E→t0 σ H Q):wa X e (CL E t):=
 adg h (by intro σ H Q⟨τ,Γ,Y,Z,rs,hr,q,vr,xr⟩;show w σ H Q τ Γ Y Z rs hr q vr xr)
def FC{e:Stmt}{t0:Be}{t:BY}(h:PS X e t0)(w:∀D σ H τ Γ Y Z,RS H σ τ→HR H Γ→t Y Z τ Γ→DR H Γ Z D→XR H Γ Y E→t0 D σ H):PS X e (C6 E t):=
 QB h (by intro D σ H⟨τ,Γ,Y,Z,rs,hr,q,dr,xr⟩;show w D σ H τ Γ Y Z rs hr q dr xr)
def j3{e:List Stmt}{t0:Be}{t:BY}(h:mv X e t0)(w:∀D σ H τ Γ Y Z,RS H σ τ→HR H Γ→t Y Z τ Γ→DR H Γ Z D→XR H Γ Y E→t0 D σ H):mv X e (C6 E t):=
 aa1 h (by intro D σ H⟨τ,Γ,Y,Z,rs,hr,q,dr,xr⟩;show w D σ H τ Γ Y Z rs hr q dr xr)
section
variable {H: A4}
def L5:R H .non .non:=by unfold R;rfl
def D8:R H (.bl b) (.bl b):=by unfold R;rfl
def DZ{i:Int}:R H (.int i) (.int i):=by unfold R;rfl
def Fu:R H (.str z) (.str z):=by unfold R;rfl
def Dl:R H (.ref a) (.ref a):=by unfold R;rfl
def Ig(h:H a=some (.tup vs))(r:Rs H vs ts):R H (.ref a) (.tup ts):=by unfold R;show Ψ2 a vs ⟨rfl,h,r⟩
def IX(h:R H v .non):v=.non:=by unfold R at h;show h
def GW(h:R H v (.bl b)):v=.bl b:=by unfold R at h;show h
def Cj{b:Int}(h:R H v (.int b)):v=.int b:=by unfold R at h;show h
def CP{b:Str}(h:R H v (.str b)):v=.str b:=by unfold R at h;show h
def BJ{b:Addr}(h:R H v (.ref b)):v=.ref b:=by unfold R at h;show h
def zX{b:String}(h:R H v (.ty b)):v=.ty b:=by unfold R at h;show h
def Qt(h:R H v (.scr K a ts)):v=.ref a∧∃vs,Js K H a vs∧Rs H vs ts:=by unfold R at h;show h
def acx(h:Js K H a vs)(q:Rs H vs ts):R H (.ref a) (.scr K a ts):=by unfold R;show⟨rfl,vs,h,q⟩
def Js.sq(h:Js K H a vs):lI K H a vs:=by
 rcases h with⟨o,h⟩|h
 ·show .inl (.inr ⟨o,h⟩)
 ·show .inr h
def CT(h:R H v (.tup ts)):∃a vs,v=.ref a∧H a=some (.tup vs)∧Rs H vs ts:=by unfold R at h;show h
end
abbrev Vb(i:Nat):AK:=λ_ τ Γ Z=>∃x,τ[i]?=some (some x)∧Z x Γ
abbrev JI(x:T):AK:=λ_ _ Γ Z=>Z x Γ
def qv(i:Nat){x:Str}{pos:Pos}(hN:X.N[i]?=some x:=by rfl)(hv:JY X.env.scope x:=by first|show Or.inl rfl|show Or.inr (Or.inl rfl)|show Or.inr (Or.inr rfl))(hd:(x ==("__debug__" : Str))=false:=by decide)
  (xj:(x ==("__classdict__" : Str))=false:=by decide):PE X (.Name x pos) (AD E (Vb i)):=
 D6 (oq hN hv hd xj) λσ H Q τ Γ Y Z rs hr q0 vr xr=>by
  let⟨x,e,z⟩:=q0;let⟨v,hv,r⟩:=rs.get e;show⟨v,hv,vr v x H Γ .refl hr r z⟩
def MH(h:PE X e (Ir v))(r:∀H,R H v x):PE X e (AD E (JI x)):=
 D6 h λσ H Q τ Γ Y Z rs hr z vr xr=>vr v x H Γ .refl hr (r H) z
def A9{i j pos}:PE X (.Constant (.int i) j pos) (AD E (JI (.int i))):=MH rH λ_=>DZ
def BE{b j pos}:PE X (.Constant (.bool b) j pos) (AD E (JI (.bl b))):=MH nF λ_=>D8
def FP{j pos}:PE X (.Constant .none j pos) (AD E (JI .non)):=MH yP λ_=>L5
def Al{x j pos}:PE X (.Constant (.str x) j pos) (AD E (JI (.str x))):=MH qQ λ_=>Fu
abbrev D5(u:Value)(x:T):Prop:=∃v,RelV v u∧∀H,R H v x
def ED{x:Str}{t:T}{pos:Pos}(hg:Bk X x)(hm:X.mg x=some u)(r:D5 u t)(hd:(x ==("__debug__" : Str))=false:=by decide):PE X (.Name x pos) (AD E (JI t)):=by
 obtain⟨v,r,h⟩:=r;show MH (pM hg hm r hd) h
def gl_int{i:Int}(h:RelV (.int i) u):D5 u (.int i):=⟨_,h,λ_=>DZ⟩
def gl_str{i:Str}(h:RelV (.str i) u):D5 u (.str i):=⟨_,h,λ_=>Fu⟩
def M0{i:Addr}:D5 (.ref i) (.ref i):=⟨.ref i,rfl,λ_=>Dl⟩
abbrev EH:=T→T→AJ→DH→Prop
abbrev BZ(X:Cx)(f:Value→Value→Sem Value)(r3:EH):Prop:=∃r:DY,iS X f r∧∀x y a b H Γ Q Z,R H x a→R H y b→HR H Γ→r3 a b Γ Z→VR H Γ Z Q→r x y H Q
abbrev HC(r3:EH)(ta tb:AK):AK:=λY τ Γ Z=>ta Y τ Γ λx Γ1=>tb Y τ Γ1 λy Γ2=>r3 x y Γ2 Z
def LX{r:DY}{r3:EH}{ta tb:AK}(h:∀x y a b H Γ Q Z,R H x a→R H y b→HR H Γ→r3 a b Γ Z→VR H Γ Z Q→r x y H Q)(σ:St)(H:A4)(Q:An)(q:AD E (HC r3 ta tb) σ H Q):MK r (AD E ta) (AD E tb) σ H Q:=by
 let⟨τ,Γ,Y,Z,rs,hr,t,vr,xr⟩:=q;show Ψ4 τ Γ Y _ ⟨rs,hr,t,λv x H1 Γ1 s1 h1 r1 z1=>?_,xr⟩;show Ψ4 τ Γ1 Y _ ⟨rs.mono s1.tq,h1,z1,λu y H2 Γ2 s2 h2 r2 z2=>?_,xr.mono s1⟩;show h v u x y H2 Γ2 Q Z (r1.mono s2.tq) r2 h2 z2 (vr.mono (s1.trans s2))
section
variable {a b c: Expr}{ta tb tc: AK}{op AG: CmpOp}{r3 OS: EH}
def Aa{op:Operator}(ho:BZ X (binaryOp op) r3)(ha:PE X a (AD E ta))(hb:PE X b (AD E tb)):PE X (.BinOp a op b pos) (AD E (HC r3 ta tb)):=by
 obtain⟨r,ho,h⟩:=ho;show FL (uF ho ha hb) (LX h)
def HF(ho:BZ X (compareOp op) r3)(ha:PE X a (AD E ta))(hb:PE X b (AD E tb))(hm:behindInMarks op b=false):PE X (.Compare a [op] [b] pos) (AD E (HC r3 ta tb)):=by
 obtain⟨r,ho,h⟩:=ho;show FL (uq ho ha hb hm) (LX h)
abbrev Kn(t:AK):Cf:=λY τ Γ Z=>t Y τ Γ λx Γ1=>∃k,x=.bl k∧Z k Γ1
def QI{t2:AQ}{t:AK}(h:∀σ H Q,AD E t σ H Q→t2 σ H Q)(σ:St)(H:A4)(Q:Bool→A4→Prop)(q:CL E (Kn t) σ H Q):Qh t2 σ H Q:=by
 let⟨τ,Γ,Y,Z,rs,hr,t,vr,xr⟩:=q;show h σ H _ ⟨τ,Γ,Y,_,rs,hr,t,λv x H1 Γ1 s1 h1 r1 z1=>?_,xr⟩;let⟨k,rfl,z⟩:=z1;show⟨k,GW r1,vr k H1 Γ1 s1 h1 z⟩
def L0(ho:BZ X (compareOp op) r3)(ha:PE X a (AD E ta))(hb:PE X b (AD E tb))(hm:behindInMarks op b=false):PT X (.Compare a [op] [b] pos) (CL E (Kn (HC r3 ta tb))):=by
 obtain⟨r,ho,h⟩:=ho;show Me (wV ho ha hb hm) (QI (LX h))
abbrev Oj(r r':EH)(ta tb tc:AK):AK:=λY τ Γ Z=>ta Y τ Γ λx Γ1=>tb Y τ Γ1 λy Γ2=>r x y Γ2 λz Γ3=>∃k,z=.bl k∧(if k=true then tc Y τ Γ3 λw' Γ4=>r' y w' Γ4 Z else Z (.bl false) Γ3)
def Xp{r r':DY}(h:∀x y a b H Γ Q Z,R H x a→R H y b→HR H Γ→r3 a b Γ Z→VR H Γ Z Q→r x y H Q)(h':∀x y a b H Γ Q Z,R H x a→R H y b→HR H Γ→OS a b Γ Z→VR H Γ Z Q→r' x y H Q)
  (σ:St) (H:A4) (Q:An) (q:AD E (Oj r3 OS ta tb tc) σ H Q):Qz r r' (AD E ta) (AD E tb) (AD E tc) σ H Q:=by
 let⟨τ,Γ,Y,Z,rs,hr,t,vr,xr⟩:=q;show Ψ4 τ Γ Y _ ⟨rs,hr,t,λv x H1 Γ1 s1 h1 r1 z1=>?_,xr⟩;show Ψ4 τ Γ1 Y _ ⟨rs.mono s1.tq,h1,z1,λu y H2 Γ2 s2 h2 r2 z2=>?_,xr.mono s1⟩;show h v u x y H2 Γ2 _ _ (r1.mono s2.tq) r2 h2 z2 λd z H3 Γ3 s3 h3 r3 z3=>?_;obtain⟨k,rfl,z3⟩:=z3;show⟨k,GW r3,?_⟩;cases k with
 |false=>show vr _ _ H3 Γ3 ((s1.trans s2).trans s3) h3 D8 z3
 |true=>
  show Ψ4 τ Γ3 Y _ ⟨rs.mono ((s1.trans s2).trans s3).tq,h3,z3,λw' y' H4 Γ4 s4 h4 r4 z4=>?_,xr.mono ((s1.trans s2).trans s3)⟩;show h' u w' y y' H4 Γ4 Q Z (r2.mono (s3.trans s4).tq) r4 h4 z4 (vr.mono (((s1.trans s2).trans s3).trans s4))
def Q2(ho:BZ X (compareOp op) r3)(pZ:BZ X (compareOp AG) OS)(ha:PE X a (AD E ta))(hb:PE X b (AD E tb))(hc:PE X c (AD E tc))(hm:lastMarks [op,AG] [b,c]=false:=by with_unfolding_all rfl):
  PE X (.Compare a [op,AG] [b,c] pos) (AD E (Oj r3 OS ta tb tc)):=by
 obtain⟨r,ho,h⟩:=ho;obtain⟨r',pZ,h'⟩:=pZ;show FL (nL ho pZ ha hb hc hm) (Xp h h')
def S9(ho:BZ X (compareOp op) r3)(pZ:BZ X (compareOp AG) OS)(ha:PE X a (AD E ta))(hb:PE X b (AD E tb))(hc:PE X c (AD E tc))(hm:lastMarks [op,AG] [b,c]=false:=by with_unfolding_all rfl):
  PT X (.Compare a [op,AG] [b,c] pos) (CL E (Kn (Oj r3 OS ta tb tc))):=by
 obtain⟨r,ho,h⟩:=ho;obtain⟨r',pZ,h'⟩:=pZ;show Me (rS ho pZ ha hb hc hm) (QI (Xp h h'))
abbrev jm(ta tb:AK):AK:=λY τ Γ Z=>ta Y τ Γ λx Γ1=>∃c,x=.bl c∧if c=true then tb Y τ Γ1 Z else Z (.bl false) Γ1
abbrev mj(ta tb:AK):AK:=λY τ Γ Z=>ta Y τ Γ λx Γ1=>∃c,x=.bl c∧if c=true then Z (.bl true) Γ1 else tb Y τ Γ1 Z
abbrev Zi(ta:AK):AK:=λY τ Γ Z=>ta Y τ Γ λx Γ1=>∃c,x=.bl c∧Z (.bl (!c)) Γ1
def CU{op}(h:PE X a (AD E ta)):PE X (.BoolOp op [a] pos) (AD E ta):=ac8 h
def CV(ha:PE X a (AD E ta))(hb:PE X (.BoolOp .And (b::v4) pos) (AD E tb)):PE X (.BoolOp .And (a::b::v4) pos) (AD E (jm ta tb)):=
 D6 (qz ha hb) λσ H Q τ Γ Y Z rs hr t vr xr=>by
  show Ψ4 τ Γ Y _ ⟨rs,hr,t,λv x H1 Γ1 s1 h1 r1 z1=>?_,xr⟩;obtain⟨k,rfl,z1⟩:=z1;show⟨k,GW r1,?_⟩;cases k with
  |false=>show vr _ _ H1 Γ1 s1 h1 D8 z1
  |true=>show Ψ4 τ Γ1 Y Z ⟨rs.mono s1.tq,h1,z1,vr.mono s1,xr.mono s1⟩
def MP(ha:PE X a (AD E ta))(hb:PE X (.BoolOp .Or (b::v4) pos) (AD E tb)):PE X (.BoolOp .Or (a::b::v4) pos) (AD E (mj ta tb)):=
 D6 (acM ha hb) λσ H Q τ Γ Y Z rs hr t vr xr=>by
  show Ψ4 τ Γ Y _ ⟨rs,hr,t,λv x H1 Γ1 s1 h1 r1 z1=>?_,xr⟩;obtain⟨k,rfl,z1⟩:=z1;show⟨k,GW r1,?_⟩;cases k with
  |true=>show vr _ _ H1 Γ1 s1 h1 D8 z1
  |false=>show Ψ4 τ Γ1 Y Z ⟨rs.mono s1.tq,h1,z1,vr.mono s1,xr.mono s1⟩
def nJ(ha:PE X a (AD E ta)):PE X (.UnaryOp .Not a pos) (AD E (Zi ta)):=
 D6 (vI ha) λσ H Q τ Γ Y Z rs hr t vr xr=>by
  show Ψ4 τ Γ Y _ ⟨rs,hr,t,λv x H1 Γ1 s1 h1 r1 z1=>?_,xr⟩;obtain⟨k,rfl,z1⟩:=z1;show⟨k,GW r1,vr _ _ H1 Γ1 s1 h1 D8 z1⟩
variable {tA K7: Cf}
abbrev jx(t u:Cf):Cf:=λY τ Γ Z=>t Y τ Γ λc Γ1=>if c=true then u Y τ Γ1 Z else Z false Γ1
abbrev eT(t u:Cf):Cf:=λY τ Γ Z=>t Y τ Γ λc Γ1=>if c=true then Z true Γ1 else u Y τ Γ1 Z
abbrev fi(t:Cf):Cf:=λY τ Γ Z=>t Y τ Γ λc Γ1=>Z (!c) Γ1
def IM(ha:PT X a (CL E tA)):PW X (.BoolOp .And [a] pos) (CL E tA):=abJ ha
def D3(ha:PT X a (CL E tA)):PW X (.BoolOp .Or [a] pos) (CL E tA):=oS ha
def Hq(ha:PT X a (CL E tA))(hb:PW X (.BoolOp .And (b::v4) pos) (CL E K7)):PW X (.BoolOp .And (a::b::v4) pos) (CL E (jx tA K7)):=
 eV (vx ha hb) λσ H Q τ Γ Y Z rs hr t vr xr=>by
  show Ψ4 τ Γ Y _ ⟨rs,hr,t,λk H1 Γ1 s1 h1 z1=>?_,xr⟩;cases k with
  |false=>show vr _ H1 Γ1 s1 h1 z1
  |true=>show Ψ4 τ Γ1 Y Z ⟨rs.mono s1.tq,h1,z1,λb H2 Γ2 s2 h2 z2=>vr b H2 Γ2 (s1.trans s2) h2 z2,xr.mono s1⟩
def CQ(ha:PT X a (CL E tA))(hb:PW X (.BoolOp .Or (b::v4) pos) (CL E K7)):PW X (.BoolOp .Or (a::b::v4) pos) (CL E (eT tA K7)):=
 eV (zD ha hb) λσ H Q τ Γ Y Z rs hr t vr xr=>by
  show Ψ4 τ Γ Y _ ⟨rs,hr,t,λk H1 Γ1 s1 h1 z1=>?_,xr⟩;cases k with
  |true=>show vr _ H1 Γ1 s1 h1 z1
  |false=>show Ψ4 τ Γ1 Y Z ⟨rs.mono s1.tq,h1,z1,λb H2 Γ2 s2 h2 z2=>vr b H2 Γ2 (s1.trans s2) h2 z2,xr.mono s1⟩
def BL(ha:PT X a (CL E tA)):PT X (.UnaryOp .Not a pos) (CL E (fi tA)):=
 X3 (qR ha) λσ H Q τ Γ Y Z rs hr t vr xr=>Ψ4 τ Γ Y _ ⟨rs,hr,t,λk H1 Γ1 s1 h1 z1=>vr _ H1 Γ1 s1 h1 z1,xr⟩
def BI{t:AK}(h:PE X e (AD E t))(he:∀whole,isTrue e X.env whole=(do let v ←whole;standAt e.pos;holding [v] (truthy v)):=by intro _;rfl):PT X e (CL E (Kn t)):=
 Me (PIp h he) (QI (t2:=AD E t) λ_ _ _ q=>q)
end
section
variable {e: Expr}{te: AK}{t: Ca}
abbrev WR:Ca:=λ_ _ Γ Z=>Z [] Γ
abbrev mX(ta:AK)(tr:Ca):Ca:=λY τ Γ Z=>ta Y τ Γ λx Γ1=>tr Y τ Γ1 λxs Γ2=>Z (x::xs) Γ2
def A5:PA X [] (De E WR):=ij lx λσ H Q τ Γ Y Z rs hr t vr xr=>vr [] [] H Γ .refl hr EM t
def A0(ha:PE X e (AD E te))(hr:PA X es (De E t))(hs:starEach (e::es) X.env=(false,eval e X.env)::starEach es X.env:=by rfl):PA X (e::es) (De E (mX te t)):=
 ij (TO ha hr hs) λσ H Q τ Γ Y Z rs hr t vr xr=>by
  show Ψ4 τ Γ Y _ ⟨rs,hr,t,λv x H1 Γ1 s1 h1 r1 z1=>?_,xr⟩;show Ψ4 τ Γ1 Y _ ⟨rs.mono s1.tq,h1,z1,λvs xs H2 Γ2 s2 h2 r2 z2=>vr (v::vs) (x::xs) H2 Γ2 (s1.trans s2) h2 (Dn (r1.mono s2.tq) r2) z2,xr.mono s1⟩
abbrev QZ(t:Ca):AK:=λY τ Γ Z=>t Y τ Γ λxs Γ1=>xs.length≤sizeLine∧Z (.tup xs) Γ1
abbrev iB(t:Ca):AK:=λY τ Γ Z=>t Y τ Γ λxs Γ1=>xs.length≤sizeLine∧∀p,Γ1 p=none→Z (.ref p) (AA Γ1 p (.lst xs))
def BM{x1}(h:PA X es (De E t)):PE X (.Tuple es x1 pos) (AD E (QZ t)):=
 D6 (vS h) λσ H Q τ Γ Y Z rs hr t vr xr=>by
  show Ψ4 τ Γ Y _ ⟨rs,hr,t,λvs xs H1 Γ1 s1 h1 r1 z1=>?_,xr⟩;show⟨by rw[r1.length];show z1.1,λp hp=>?_⟩;let k:=CO (o:=.tup vs) hp;show vr _ _ _ Γ1 (s1.trans (.keep k)) (h1.keep k) (Ig B9 (r1.mono (Ce k))) z1.2
def DA(h:PA X es (De E t)):PE X (.List es pos) (AD E (iB t)):=
 D6 (abV h) λσ H Q τ Γ Y Z rs hr t vr xr=>by
  show Ψ4 τ Γ Y _ ⟨rs,hr,t,λvs xs H1 Γ1 s1 h1 r1 z1=>?_,xr⟩;show⟨by rw[r1.length];show z1.1,λp hp=>?_⟩;let k:=CO (o:=.lst vs) hp;show vr _ _ _ _ (s1.trans (.make hp)) (h1.make (o3:=.lst xs) hp ⟨vs,B9,r1.mono (Ce k)⟩) Dl (z1.2 p (h1.free hp))
end
abbrev Av:=List T→AJ→DH→(Value→AJ→Prop)→Prop
abbrev Ak(sp:Av):Dq:=λvs H Q E=>∃ts Γ Z Y,Rs H vs ts∧HR H Γ∧sp ts Γ Z Y∧VR H Γ Z Q∧∀C H' Γ',eJ H Γ H' Γ'→HR H' Γ'→Y C Γ'→E C none H'
@[reducible]def AY(P:Program)(w:World)(K:W.Frag)(mg:KK)(am:Heap)(x:Str)(k:Nat)(ps:List Str)(sp:Av):Prop:=Callee P w K mg am x k ps (Ak sp)
@[reducible]def Ll(P:Program)(w:World)(K:W.Frag)(mg:KK)(am:Heap)(x:Str)(k:Nat)(ps:List Str)(sp:Av):Prop:=Sj P w K mg am x k ps (Ak sp)
abbrev R2(sp:Av)(t:Ca):AK:=λY τ Γ Z=>t Y τ Γ λxs Γ1=>sp xs Γ1 Z λ_ _=>False
abbrev Uu(sp:Av)(t:Ca):AK:=λY τ Γ Z=>t Y τ Γ λxs Γ1=>sp xs Γ1 Z (Y τ)
section
variable {x: Str}{k j: Nat}{ps: List Str}{sp: Av}{p: Pos}{e: Expr}{t: Ca}
def rg(c:AY X.prog X.w X.K X.mg X.base x k ps sp)(hr:dE j X.A)(hk:k≤j)(hg:Bk X x)(ha:PA X (e::es) (De E t))(qC:(x ==("__debug__" : Str))=false:=by decide)
  (he:starEach (e::es) X.env=(false,eval e X.env)::starEach es X.env:=by rfl) (i7:(backTo pos (starEach es X.env)).any (·.1)=false:=by rfl):PE X (.Call (.Name x p) (e::es) [] pos) (AD E (R2 sp t)):=
 D6 (vm c hr hk hg ha qC he i7) λσ H Q τ Γ Y Z rs hr t vr xr=>by
  show Ψ4 τ Γ Y _ ⟨rs,hr,t,λvs xs H1 Γ1 s1 h1 r1 z1=>?_,xr⟩;show Ak sp (vs++[]) H1 Q IU
  rw[BN];show Ψ4 xs Γ1 Z _ ⟨r1,h1,z1,vr.mono s1,λ_ _ _ _ _ z=>z.elim⟩
def aaN(c:Ll X.prog X.w X.K X.mg X.base x k ps sp)(hr:dE j X.A)(hk:k≤j)(hg:Bk X x)(hx:TM X E)(ha:PA X (e::es) (De E t))(qC:(x ==("__debug__" : Str))=false:=by decide)
  (he:starEach (e::es) X.env=(false,eval e X.env)::starEach es X.env:=by rfl) (i7:(backTo pos (starEach es X.env)).any (·.1)=false:=by rfl):PE X (.Call (.Name x p) (e::es) [] pos) (AD E (Uu sp t)):=
 D6 (rT c hr hk hg hx ha qC he i7) λσ H Q τ Γ Y Z rs hr t vr xr=>by
  show Ψ4 τ Γ Y _ ⟨rs,hr,t,λvs xs H1 Γ1 s1 h1 r1 z1=>?_,xr⟩;show Ψ4 xs Γ1 Z (Y τ) ⟨r1,h1,z1,vr.mono s1,λC H' Γ' s' h' y=>xr σ τ C H' Γ' (s1.trans s') h' (rs.mono (s1.trans s').tq) y⟩
end
end
section
variable {st: Stmt}{Xu: List Stmt}{e: Expr}{te: AK}{t u: BY}
abbrev dL:BY:=λ_ D τ Γ=>D.nx τ Γ
abbrev mO(t u:BY):BY:=λY D τ Γ=>t Y {D with nx:=u Y D} τ Γ
abbrev dc(te:AK):BY:=λY D τ Γ=>te Y τ Γ λ_ Γ1=>D.nx τ Γ1
abbrev fN(te:AK):BY:=λY D τ Γ=>te Y τ Γ D.rt
abbrev ZH(c:Cf)(t u:BY):BY:=λY D τ Γ=>c Y τ Γ λb Γ1=>if b=true then t Y D τ Γ1 else u Y D τ Γ1
def A8:mv X [] (C6 E dL):=j3 zF λD σ H τ Γ Y Z rs hr t dr xr=>dr.nx σ τ H Γ .refl hr rs t
def A3(h1:PS X st (C6 E t))(h2:mv X Xu (C6 E u)):mv X (st::Xu) (C6 E (mO t u)):=
 j3 (qJ h1 h2) λD σ H τ Γ Y Z rs hr t dr xr=>
  ⟨τ,Γ,Y,_,rs,hr,t,⟨λσ' τ' H' Γ' s h r z=>Ψ4 τ' Γ' Y Z ⟨r,h,z,dr.mono s,xr.mono s⟩,dr.rt,dr.bk,dr.ct⟩,xr⟩
def Fq(he:PE X e (AD E te))(hs:swapsWith e none pos.line X.env=pure false:=by rfl):PS X (.Expr e pos) (C6 E (dc te)):=
 FC (pO he hs) λD σ H τ Γ Y Z rs hr t dr xr=>Ψ4 τ Γ Y _ ⟨rs,hr,t,λv x H' Γ' s h r z=>dr.nx σ τ H' Γ' s h (rs.mono s.tq) z,xr⟩
def AN(he:PE X e (AD E te)):PS X (.Return (some e) pos) (C6 E (fN te)):=
 FC (sv he) λD σ H τ Γ Y Z rs hr t dr xr=>Ψ4 τ Γ Y _ ⟨rs,hr,t,dr.rt,xr⟩
def Ag{a b:List Stmt}(hc:PT X c (CL E tc))(ha:mv X a (C6 E t))(hb:mv X b (C6 E u)):PS X (.If c a b pos) (C6 E (ZH tc t u)):=
 FC (abv hc ha hb) λD σ H τ Γ Y Z rs hr t dr xr=>by
  show Ψ4 τ Γ Y _ ⟨rs,hr,t,λk H1 Γ1 s1 h1 z1=>?_,xr⟩;cases k with
  |true=>show Ψ4 τ Γ1 Y Z ⟨rs.mono s1.tq,h1,z1,dr.mono s1,xr.mono s1⟩
  |false=>show Ψ4 τ Γ1 Y Z ⟨rs.mono s1.tq,h1,z1,dr.mono s1,xr.mono s1⟩
abbrev fC(t:BY):BY:=λY D τ Γ=>∃P:BF→AJ→Prop,t Y {D with nx:=P} τ Γ∧∀τ Γ,P τ Γ→D.nx τ Γ
def B1(h:PS X st (C6 E t)):PS X st (C6 E (fC t)):=
 FC h λD σ H τ Γ Y Z rs hr q0 dr xr=>by let⟨P,t,k⟩:=q0;show Ψ4 τ Γ Y _ ⟨rs,hr,t,⟨λσ' τ' H' Γ' s h r z=>dr.nx σ' τ' H' Γ' s h r (k _ _ z),dr.rt,dr.bk,dr.ct⟩,xr⟩
abbrev D9:=F6→T→BF→AJ→(BF→AJ→Prop)→Prop
abbrev J6:=F6→List T→BF→AJ→(BF→AJ→Prop)→Prop
abbrev Ds(E:St→BD)(g:D9):DL:=λv σ H Q=>∃x τ Γ Y Z,R H v x∧RS H σ τ∧HR H Γ∧g Y x τ Γ Z∧NR H Γ Z Q∧XR H Γ Y E
abbrev MI(E:St→BD)(g:J6):GS:=λv σ H Q=>∃x τ Γ Y Z,Rs H v x∧RS H σ τ∧HR H Γ∧g Y x τ Γ Z∧NR H Γ Z Q∧XR H Γ Y E
def Uh{e:Expr}{t0:DL}{t:D9}(h:PG X e t0)(w:∀v σ H Q x τ Γ Y Z,R H v x→RS H σ τ→HR H Γ→t Y x τ Γ Z→NR H Γ Z Q→XR H Γ Y E→t0 v σ H Q):PG X e (Ds E t):=
 wH h (by intro v σ H Q⟨x,τ,Γ,Y,Z,r,rs,hr,q,nr,xr⟩;show w v σ H Q x τ Γ Y Z r rs hr q nr xr)
def jf{e:List Expr}{t0:GS}{t:J6}(h:Bp X e t0)(w:∀v σ H Q x τ Γ Y Z,Rs H v x→RS H σ τ→HR H Γ→t Y x τ Γ Z→NR H Γ Z Q→XR H Γ Y E→t0 v σ H Q):Bp X e (MI E t):=
 z9 h (by intro v σ H Q⟨x,τ,Γ,Y,Z,r,rs,hr,q,nr,xr⟩;show w v σ H Q x τ Γ Y Z r rs hr q nr xr)
abbrev hName(i:Nat):D9:=λ_ x τ Γ Z=>Z (τ.set i (some x)) Γ
abbrev jn:J6:=λ_ xs τ Γ Z=>xs=[]∧Z τ Γ
abbrev cj(g:D9)(gs:J6):J6:=λY xs τ Γ Z=>∃x r,xs=x::r∧g Y x τ Γ λτ1 Γ1=>gs Y r τ1 Γ1 Z
abbrev fG(n:Nat)(gs:J6):D9:=λY x τ Γ Z=>∃ts,x=.tup ts∧ts.length=n∧gs Y ts τ Γ Z
def Bb{x:Str}(hN:X.N.Nodup)(hi:X.N[i]?=some x)(hx:HD X.env.scope x)(hf:Fk X x:=by first|show .inl rfl|show .inr rfl|assumption):PG X (.Name x pos) (Ds E (hName i)):=
 Uh (yA hN hi hx hf) λv σ H Q x τ Γ Y Z r rs hr t nr xr=>nr _ _ H Γ .refl hr (rs.set r i) t
def Bu:Bp X [] (MI E jn):=jf zJ λv σ H Q x τ Γ Y Z r rs hr q0 nr xr=>by
 let⟨e,t⟩:=q0;subst e;show⟨GR r,nr _ _ H Γ .refl hr rs t⟩
def AS{es:List Expr}(h1:PG X e (Ds E g))(h2:Bp X es (MI E gs))(hs:(assignEach (e::es) X.env).map (·.2)=assign e X.env::(assignEach es X.env).map (·.2):=by rfl):Bp X (e::es) (MI E (cj g gs)):=
 jf (sJ h1 h2 hs) λv σ H Q x τ Γ Y Z r rs hr q0 nr xr=>by
  let⟨y,ys,e,t⟩:=q0;subst e;let⟨w,ws,rfl,r1,r2⟩:=FZ r;show Ψ2 w ws ⟨rfl,y,τ,Γ,Y,_,r1,rs,hr,t,λσ' τ' H' Γ' s h r z=>?_,xr⟩;show Ψ5 ys τ' Γ' Y Z ⟨r2.mono s.tq,r,h,z,nr.mono s,xr.mono s⟩
def Bn{es:List Expr}(hc:X.calm=true)(h:Bp X es (MI E gs))
  (hn:(assignEach es X.env).length=n:=by rfl) (x6:(assignEach es X.env).findIdx? (·.1)=none:=by rfl):PG X (.Tuple es k pos) (Ds E (fG n gs)):=
 Uh (uy hc h hn x6) λv σ H Q x τ Γ Y Z r rs hr q0 nr xr=>by
  let⟨ts,e,l,t⟩:=q0;subst e;obtain⟨a,vs,rfl,ha,r⟩:=CT r;show Ψ2 a vs ⟨rfl,dG.of ha,by rw[r.length];show l,ts,τ,Γ,Y,Z,r,rs,hr,t,nr,xr⟩
abbrev hSub(to ti:AK):D9:=λY v τ Γ Z=>to Y τ Γ λo Γ1=>ti Y τ Γ1 λi Γ2=>∃a ts k j,o=.ref a∧i=.int k∧Γ2 a=some (.lst ts)∧G4 ts.length k=some j∧Z τ (AA Γ2 a (.lst (ts.set j v)))
def jH{o i:Expr}(ho:PE X o (AD E to))(hi:PE X i (AD E ti))
  (ha:∀v,assign (.Subscript o i pos) X.env v=(do
   let ov ←holding [v] (eval o X.env)
   let iv ←holding [v,ov] (eval i X.env)
   standAt pos
   holding [v,ov,iv] (setItem ov iv v)
   release [v,ov,iv] []):=by intro _;rfl):PG X (.Subscript o i pos) (Ds E (hSub to ti)):=
 Uh (aa9 ho hi set_list ha) λv σ H Q x τ Γ Y Z r rs hr t nr xr=>by
  show Ψ4 τ Γ Y _ ⟨rs,hr,t,λov o H1 Γ1 s1 h1 r1 z1=>?_,xr⟩;show Ψ4 τ Γ1 Y _ ⟨rs.mono s1.tq,h1,z1,λiv i H2 Γ2 s2 h2 r2 z2=>?_,xr.mono s1⟩;let⟨a,ts,k,j,rfl,rfl,ga,hj,z⟩:=z2;let⟨vs,hv,rv⟩:=h2 a _ ga;show Ψ4 a vs k j ⟨BJ r1,Cj r2,hv,by rw[rv.length];show hj,?_⟩;let s3:eJ H2 Γ2 (AI H2 a (.lst (vs.set j v))) (AA Γ2 a (.lst (ts.set j x))):=.set h2 ga;show nr σ τ _ _ ((s1.trans s2).trans s3) (h2.set ga ⟨_,B9,Rs.set j (rv.mono s3.tq) (r.mono ((s1.trans s2).trans s3).tq)⟩) (rs.mono ((s1.trans s2).trans s3).tq) z
abbrev QT(te:AK)(g:D9):BY:=λY D τ Γ=>te Y τ Γ λx Γ1=>g Y x τ Γ1 D.nx
def vG{te:AK}(D:Ends)(σ:St)(H:A4)(q:C6 E (QT te g) D σ H):TF (AD E te) (Ds E g) D σ H:=by
 let⟨τ,Γ,Y,Z,rs,hr,t,dr,xr⟩:=q;show Ψ4 τ Γ Y _ ⟨rs,hr,t,λv x H1 Γ1 s1 h1 r1 z1=>Ψ5 x τ Γ1 Y _ ⟨r1,rs.mono s1.tq,h1,z1,dr.nx.mono s1,xr.mono s1⟩,xr⟩
def EK{e:Expr}{te:AK}(he:PE X e (AD E te))(hg:PG X tg (Ds E g))(hs:swapsWithSole [tg] e pos.line X.env=pure false:=by rfl)(hw:swappedStores [tg] e X.env=pure none:=by rfl)
  (h1:(assignEach [tg] X.env).map (·.2)=[assign tg X.env]:=by rfl):PS X (.Assign [tg] e pos) (C6 E (QT te g)):=QB (nw he hg hs hw h1) vG
abbrev OO(i:Nat)(te:AK):BY:=λY D τ Γ=>te Y τ Γ λx Γ1=>D.nx (τ.set i (some x)) Γ1
def ac4{x:Str}{e:Expr}{te:AK}(hN:X.N.Nodup)(hi:X.N[i]?=some x)(hx:HD X.env.scope x)(he:PE X e (AD E te))(hs:swapsWith e (some (.Name x pos')) pos.line X.env=pure false:=by rfl)(hf:Fk X x:=by first|show .inl rfl|show .inr rfl|assumption):
  PS X (.Assign [.Name x pos'] e pos) (C6 E (OO i te)):=FC (ab7 hN hi hx he hs hf) λD σ H τ Γ Y Z rs hr t dr xr=>
   ⟨τ,Γ,Y,_,rs,hr,t,λv x H1 Γ1 s1 h1 r1 z1=>dr.nx _ _ H1 Γ1 s1 h1 ((rs.mono s1.tq).set r1 i) z1,xr⟩
abbrev acn(i:Nat)(te:AK)(r:EH):BY:=λY D τ Γ=>∃x,τ[i]?=some (some x)∧te Y τ Γ λy Γ1=>r x y Γ1 λz Γ2=>D.nx (τ.set i (some z)) Γ2
def oK{x:Str}{e:Expr}{te:AK}{op:Operator}{r3:EH}(hN:X.N.Nodup)(hi:X.N[i]?=some x)(hx:HD X.env.scope x)(he:PE X e (AD E te))(ho:BZ X (inplaceOp op) r3)(hf:Fk X x:=by first|show .inl rfl|show .inr rfl|assumption):
  PS X (.AugAssign (.Name x pos') op e pos) (C6 E (acn i te r3)):=by
 obtain⟨r,ho,h⟩:=ho;show QB (oY (ti:=r) hN hi hx he ho hf) λD σ H ⟨τ,Γ,Y,Z,rs,hr,⟨x,e,t⟩,dr,xr⟩=>?_;let⟨v,ev,rv⟩:=rs.get e;show⟨v,ev,τ,Γ,Y,_,rs,hr,t,λw y H1 Γ1 s1 h1 r1 z1=>?_,xr⟩;show h v w x y H1 Γ1 _ _ (rv.mono s1.tq) r1 h1 z1 λu z H2 Γ2 s2 h2 r2 z2=>?_;show dr.nx _ _ H2 Γ2 (s1.trans s2) h2 ((rs.mono (s1.trans s2).tq).set r2 i) z2
structure Walks(J:Ef)(ts:List T)(AE:AJ→Prop)(H0:A4):Prop where
 go:∀i H Γ,Tq H0 H→HR H Γ→AE Γ→i<ts.length→J.go i H
 qI:∀i H Γ x H',Tq H0 H→HR H Γ→AE Γ→i<ts.length→J.qI i H x H'→eJ H Γ H' Γ∧HR H' Γ∧∃t,ts[i]?=some t∧R H' x t
 stop:∀H Γ,Tq H0 H→HR H Γ→AE Γ→J.stop ts.length H
abbrev I3:=F6→BF→AJ→(List T→(AJ→Prop)→AJ→Prop)→Prop
abbrev Dt(E:St→BD)(wi:I3):DI:=λσ H Q=>∃τ Γ Y Z,RS H σ τ∧HR H Γ∧wi Y τ Γ Z∧(∀J ts AE H' Γ',eJ H Γ H' Γ'→HR H' Γ'→Walks J ts AE H'→Z ts AE Γ'→Q J H')∧XR H Γ Y E
def J2{e:Expr}{t0:DI}{t:I3}(h:PI X tg e t0)(w:∀σ H Q τ Γ Y Z,RS H σ τ→HR H Γ→t Y τ Γ Z→(∀J ts AE H' Γ',eJ H Γ H' Γ'→HR H' Γ'→Walks J ts AE H'→Z ts AE Γ'→Q J H')→XR H Γ Y E→t0 σ H Q):PI X tg e (Dt E t):=
 wx h (by intro σ H Q⟨τ,Γ,Y,Z,rs,hr,q,vr,xr⟩;show w σ H Q τ Γ Y Z rs hr q vr xr)
abbrev cW(AE:AJ→Prop)(g:D9)(tb:BY)(Y:F6)(D:Km)(ts:List T)(τ:BF)(Γ:AJ):Prop:=∃P:List T→BF→AJ→Prop,P ts τ Γ∧(∀τ Γ,P [] τ Γ→AE Γ∧D.nx τ Γ)∧
 ∀x r τ Γ,P (x::r) τ Γ→AE Γ∧g Y x τ Γ λτ2 Γ2=>tb Y {D with nx:=P r,ct:=P r,bk:=D.nx} τ2 Γ2
abbrev gu(wi:I3)(g:D9)(tb:BY):BY:=λY D τ Γ=>wi Y τ Γ λts AE Γ1=>cW AE g tb Y D ts τ Γ1
def drop_cons{α:Type}{xs:List α}(h:i<xs.length):xs.drop i=xs[i]::xs.drop (i+1):=fF h
def Fo{iter:Expr}(hp:PassesOwn (model X.prog X.w) X.A X.env X.xe)(hc:X.calm=true)(hi:PI X tg iter (Dt E wi))(hg:PG X tg (Ds E g))(hb:mv X body (C6 E tb))
  (hs:∀x,foldedSetIterable iter X.env x=pure x:=by intro _;rfl):PS X (.For tg iter body [] pos) (C6 E (gu wi g tb)):=
 FC (aaS hp hc hi hg hb hs) λD σ H τ Γ Y Z rs hr t dr xr=>by
  show Ψ4 τ Γ Y _ ⟨rs,hr,t,λJ ts AE H1 Γ1 s1 h1 wk ξ=>Ξ13 ξ λP z1 p0 pc=>?_,xr⟩;show⟨λi m σ' H'=>∃τ' Γ',i≤ts.length∧m=ts.length-i∧RS H' σ' τ'∧HR H' Γ'∧eJ H1 Γ1 H' Γ'∧P (ts.drop i) τ' Γ',Ψ3 ts.length τ Γ1 ⟨EY _,rfl,rs.mono s1.tq,h1,.refl,z1⟩,?_⟩;intro i m σ2 H2⟨τ2,Γ2,hi,rfl,wG,h2,s2,w2⟩;by_cases dB:i<ts.length
  ·rw[drop_cons dB]at w2
   let⟨g2,w2⟩:=pc _ _ _ _ w2;show .inr ⟨wk.go i H2 Γ2 s2.tq h2 g2 dB,λσ' H'=>∃τ' Γ',RS H' σ' τ'∧HR H' Γ'∧eJ H1 Γ1 H' Γ'∧P (ts.drop (i+1)) τ' Γ',λσ' H' ξ=>Ξ24 ξ λτ' Γ' a b c d=>⟨ts.length-(i+1),by lia,τ',Γ',dB,rfl,a,b,c,d⟩,λx H3 yl=>?_⟩;let⟨s3,h3,⟨x3,e3,r3⟩⟩:=wk.qI i H2 Γ2 x H3 s2.tq h2 g2 dB yl;rw[Bh dB]at e3;cases e3;show Ψ5 _ τ2 Γ2 Y _ ⟨r3,wG.mono s3.tq,h3,w2,λσ4 τ4 H4 Γ4 s4 h4 r4 z4=>?_,xr.mono ((s1.trans s2).trans s3)⟩;let s5:=(s2.trans s3).trans s4;show Ψ4 τ4 Γ4 Y _ ⟨r4,h4,z4,⟨λσ' τ' H' Γ' s h r z=>Ψ2 τ' Γ' ⟨r,h,s5.trans s,z⟩,dr.rt.mono (s1.trans s5),dr.nx.mono (s1.trans s5),λσ' τ' H' Γ' s h r z=>Ψ2 τ' Γ' ⟨r,h,s5.trans s,z⟩⟩,xr.mono (s1.trans s5)⟩
  ·let e:i=ts.length:=by lia
   subst e;rw[Ih]at w2;let w2:=p0 _ _ w2;show .inl ⟨wk.stop H2 Γ2 s2.tq h2 w2.1,dr.nx σ2 τ2 H2 Γ2 (s1.trans s2) h2 wG w2.2⟩
abbrev eE(c:Cf)(tb:BY):BY:=λY D τ Γ=>∃W:Nat→BF→AJ→Prop,(∃m,W m τ Γ)∧∀m τ Γ,W m τ Γ→
 c Y τ Γ λb Γ1=>if b=true then ∃N:BF→AJ→Prop,(∀τ' Γ',N τ' Γ'→∃m',m' < m∧W m' τ' Γ')∧tb Y {D with nx:=N,ct:=N,bk:=D.nx} τ Γ1 else D.nx τ Γ1
def adD(hp:PassesOwn (model X.prog X.w) X.A X.env X.xe)(hc:PT X c (CL E tc))(hb:mv X body (C6 E tb)):PS X (.While c body [] pos) (C6 E (eE tc tb)):=
 FC (oH hp hc hb) λD σ H τ Γ Y Z rs hr q0 dr xr=>by
  let⟨W,⟨m0,w0⟩,turn⟩:=q0;show⟨λm σ' H'=>∃τ' Γ',RS H' σ' τ'∧HR H' Γ'∧eJ H Γ H' Γ'∧W m τ' Γ',Ψ3 m0 τ Γ ⟨rs,hr,.refl,w0⟩,?_⟩;intro m σ1 H1⟨τ1,Γ1,rJ,h1,s1,w1⟩;show Ψ4 τ1 Γ1 Y _ ⟨rJ,h1,turn m τ1 Γ1 w1,λk H2 Γ2 s2 h2 z2=>?_,xr.mono s1⟩;cases k with
  |false=>show dr.nx σ1 τ1 H2 Γ2 (s1.trans s2) h2 (rJ.mono s2.tq) z2
  |true=>
   obtain⟨N,hN,z2⟩:=z2;show⟨λσ' H'=>∃τ' Γ',RS H' σ' τ'∧HR H' Γ'∧eJ H Γ H' Γ'∧N τ' Γ',λσ' H' ξ=>Ξ24 ξ λτ' Γ' a b c d=>?_,?_⟩
   ·let⟨m',hm,w'⟩:=hN τ' Γ' d
    show⟨m',hm,τ',Γ',a,b,c,w'⟩
   ·let s3:=s1.trans s2
    show Ψ4 τ1 Γ2 Y _ ⟨rJ.mono s2.tq,h2,z2,⟨λσ' τ' H' Γ' s h r z=>Ψ2 τ' Γ' ⟨r,h,s3.trans s,z⟩,dr.rt.mono s3,dr.nx.mono s3,λσ' τ' H' Γ' s h r z=>Ψ2 τ' Γ' ⟨r,h,s3.trans s,z⟩⟩,xr.mono s3⟩
abbrev G6(own:List Str)(cap:List (Nat×Str))(τ:BF):BF:=List.replicate own.length none++cap.map λp=>(τ[p.1]?).getD none
def au{H:A4}:∀{a:St} {b:BF} {c:St} {d:BF},RS H a b→RS H c d→RS H (a++c) (b++d)
 |[],[],_,_,_,h=>h
 |_::_,_::_,_,_,h,q=>⟨h.1,au h.2 q⟩
 |[],_::_,_,_,h,_=>h.elim
 |_::_,[],_,_,h,_=>h.elim
def kf{H:A4}:∀n:Nat,RS H (List.replicate n none) (List.replicate n none)
 |0=>trivial
 |n+1=>⟨trivial,kf n⟩
def LH{σ:St}{τ:BF}(own:List Str)(h:RS H σ τ):∀cap:List (Nat×Str),RS H (F5 own cap σ) (G6 own cap τ):=λcap=>by
 show au (kf _) ?_;induction cap with
 |nil=>show trivial
 |cons p r ih=>
  show⟨?_,ih⟩;show Ta H ((σ[p.1]?).getD none) ((τ[p.1]?).getD none)
  cases e:τ[p.1]? with
  |none=>show trivial
  |some o=>
   cases o with
   |none=>show trivial
   |some x=>
    let⟨v,ev,rv⟩:=h.get e;rw[ev];show rv
@[reducible]def CD:F6:=λ_ _ _=>False
abbrev jG(AE:AJ→Prop)(g:D9)(tc:Cf)(te:AK)(C:List T→AJ→Prop)(ts:List T)(τ:BF)(ys:List T)(Γ:AJ):Prop:=∃P:List T→BF→List T→AJ→Prop,P ts τ ys Γ∧(∀τ ys Γ,P [] τ ys Γ→AE Γ∧C ys Γ)∧
 ∀x r τ ys Γ,P (x::r) τ ys Γ→AE Γ∧g CD x τ Γ λτ3 Γ3=>tc CD τ3 Γ3 λb Γ4=>if b=true then te CD τ3 Γ4 λy Γ5=>P r τ3 (ys++[y]) Γ5 else P r τ3 ys Γ4
abbrev Pj(wi:I3)(g:D9)(tc:Cf)(te:AK)(own:List Str)(cap:List (Nat×Str)):AK:=λY τ Γ Z=>wi Y τ Γ λts AE Γ1=>ts.length≤sizeLine∧
 jG AE g tc te (λys Γ2=>∀D,Γ2 D=none→Z (.ref D) (AA Γ2 D (.lst ys))) ts (G6 own cap τ) [] Γ1
@[reducible]def Bv:St→BD:=λ_=>IU
def Eb:XR H Γ CD Bv:=λ_ _ _ _ _ _ _ _ z=>z.elim
def XK{te:AK}(σ:St)(H:A4)(Q:An)(q:AD E (Pj wi g tc te own cap) σ H Q):U3 (Dt E wi) (Ds Bv g) (CL Bv tc) (AD Bv te) own cap σ H Q:=by
 let⟨τ,Γ,Y,Z,rs,hr,t,vr,xr⟩:=q;show Ψ4 τ Γ Y _ ⟨rs,hr,t,λJ ts AE H1 Γ1 s1 h1 wk⟨hz,P,z1,p0,pc⟩=>?_,xr⟩;intro D hD;let nl:∀vs:List V,(∀us:List V,HO.lst vs≠.tup us)∧∀b w,HO.lst vs≠.frz b w:=λ_=>⟨λ_ z=>(nomatch z),λ_ _ z=>(nomatch z)⟩;show⟨λi m σ' vs H'=>∃τ' ys Γ',i≤ts.length∧m=ts.length-i∧vs.length≤i∧RS H' σ' τ'∧HR H' Γ'∧H' D=some (.lst vs)∧Γ' D=none∧Rs H' vs ys∧eJ H1 Γ1 H' Γ'∧P (ts.drop i) τ' ys Γ',
  ⟨ts.length,G6 own cap τ,[],Γ1,EY _,rfl,Ah _,(LH own (rs.mono s1.tq) cap).mono (Ce (CO hD)),h1.keep (CO hD),B9,h1.free hD,EM,.keep (CO hD),z1⟩,?_⟩
 intro i m σ2 vs H2⟨τ2,ys,Γ2,hi,rfl,hv,wG,h2,d2,gD,ry,s2,w2⟩;show⟨d2,?_⟩;by_cases dB:i<ts.length
 ·rw[drop_cons dB]at w2
  let⟨g2,w2⟩:=pc _ _ _ _ _ w2;show .inr ⟨wk.go i H2 Γ2 s2.tq h2 g2 dB,by lia,λσ' ws H'=>∃τ' ys Γ',ws.length≤i+1∧RS H' σ' τ'∧HR H' Γ'∧H' D=some (.lst ws)∧Γ' D=none∧Rs H' ws ys∧eJ H1 Γ1 H' Γ'∧P (ts.drop (i+1)) τ' ys Γ',
   λσ' ws H' ξ=>Ξ38 ξ λτ' ys Γ' a b c d e f k l=>⟨ts.length-(i+1),by lia,τ',ys,Γ',dB,rfl,a,b,c,d,e,f,k,l⟩,λx H3 yl=>?_⟩
  let⟨s3,h3,⟨x3,e3,r3⟩⟩:=wk.qI i H2 Γ2 x H3 s2.tq h2 g2 dB yl;rw[Bh dB]at e3;cases e3;show Ψ5 _ τ2 Γ2 CD _ ⟨r3,wG.mono s3.tq,h3,w2,λσ4 τ4 H4 Γ4 s4 h4 r4 z4=>?_,Eb⟩;show Ψ4 τ4 Γ4 CD _ ⟨r4,h4,z4,λk H5 Γ5 s5 h5 z5=>?_,Eb⟩;let QN:=(s3.trans s4).trans s5;let d5:H5 D=some (.lst vs):=QN.ui D _ d2 gD;let g5:Γ5 D=none:=QN.new D (by rw[d2];exactλz=>nomatch z) gD;cases k with
  |false=>show Ψ3 τ4 ys Γ5 ⟨Es hv,r4.mono s5.tq,h5,d5,g5,ry.mono QN.tq,s2.trans QN,z5⟩
  |true=>
   show Ψ4 τ4 Γ5 CD _ ⟨r4.mono s5.tq,h5,z5,λy y' H6 Γ6 s6 h6 r6 z6=>?_,Eb⟩;let rE:=QN.trans s6;let d6:H6 D=some (.lst vs):=rE.ui D _ d2 gD;let g6:Γ6 D=none:=rE.new D (by rw[d2];exactλz=>nomatch z) gD;let tq:Tq H6 (AI H6 D (.lst (vs++[y]))):=EX d6 (nl vs);show⟨d6,τ4,ys++[y'],Γ6,by rw[BO];show LF hv,(r4.mono (s5.trans s6).tq).mono tq,h6.hide g6 d6 (nl vs),B9,g6,Rs.app ((ry.mono rE.tq).mono tq) (Dn (r6.mono tq) EM),?_,z6⟩;let s7:=s2.trans rE;show⟨s7.tq.trans tq,λa h z=>?_,s7.new,λa o h g=>?_⟩
   ·by_cases e:a=D
    ·subst e;show h hD
    ·rw[Ay e]at z;show s7.vM a h z
   ·let e:a≠D:=λe=>by subst e;rw[hD]at h;cases h
    rw[Ay e];show s7.ui a o h g
 ·let e:i=ts.length:=by lia
  subst e;rw[Ih]at w2;let w2:=p0 _ _ _ w2;show .inl ⟨wk.stop H2 Γ2 s2.tq h2 w2.1,?_⟩;let qO:=s1.trans s2;show vr (.ref D) (.ref D) H2 (AA Γ2 D (.lst ys)) ⟨qO.tq,qO.vM,λa h g=>?_,qO.ui⟩ (λa o g=>?_) Dl (w2.2 D gD)
  ·let e:a≠D:=λe=>by subst e;show s1.vM _ h hD
   rw[AZ e];show qO.new a h g
  ·by_cases e:a=D
   ·subst e;rw[Ae]at g;cases g;show⟨vs,d2,ry⟩
   ·rw[AZ e]at g;show h2 a o g
section
variable {scope: Scope}{cl: List (Str×Addr)}{own: List Str}{cap: List (Nat×Str)}{tg iter elt: Expr}{ifs: List Expr}{wi: I3}{g: D9}{tc: Cf}{te: AK}
def EC(c:cT X scope cl own cap)(hc:X.calm=true)(hi:PI X tg iter (Dt E wi))
  (hg:∀C s H fp,PG (BK X (own++cap.map (·.2)) scope cl C s H fp λ_ _=>False) tg (Ds Bv g)) (ht:∀C s H fp,wa (BK X (own++cap.map (·.2)) scope cl C s H fp λ_ _=>False) ifs (CL Bv tc))
  (he:∀C s H fp,PE (BK X (own++cap.map (·.2)) scope cl C s H fp λ_ _=>False) elt (AD Bv te)) (hs:∀x,foldedSetIterable iter X.env x=pure x:=by intro _;rfl) :
  PE X (.ListComp elt [⟨tg,iter,ifs,0⟩] scope pos) (AD E (Pj wi g tc te own cap)):=FL (acu c hc hi hg ht he hs) XK
def dw{y:Str}{py DM:Pos}(c:cT X scope cl own cap)(hc:X.calm=true)(hi:PI X tg iter (Dt E wi))
  (hg:∀C s H fp,PG (BK X (own++cap.map (·.2)) scope cl C s H fp λ_ _=>False) tg (Ds Bv g)) (ht:∀C s H fp,wa (BK X (own++cap.map (·.2)) scope cl C s H fp λ_ _=>False) ifs (CL Bv tc))
  (he:∀C s H fp,PE (BK X (own++cap.map (·.2)) scope cl C s H fp λ_ _=>False) elt (AD Bv te))
  (hN:X.N.Nodup) (hy:X.N[i]?=some y) (hl:X.env.scope.names.lookup y=some .local)
  (VV:swapsWith (.ListComp elt [⟨tg,iter,ifs,0⟩] scope pos) (some (.Name y py)) DM.line X.env=pure true:=by rfl) (hs:∀x,foldedSetIterable iter X.env x=pure x:=by intro _;rfl) :
  PS X (.Assign [.Name y py] (.ListComp elt [⟨tg,iter,ifs,0⟩] scope pos) DM) (C6 E (OO i (Pj wi g tc te own cap))):=
 FC (aaP c hc hi hg ht he hN hy hl VV hs) λD σ H τ Γ Y Z rs hr t dr xr=>
  XK σ H _ ⟨τ,Γ,Y,_,rs,hr,t,λv x H1 Γ1 s1 h1 r1 z1=>dr.nx _ _ H1 Γ1 s1 h1 ((rs.mono s1.tq).set r1 i) z1,xr⟩
abbrev W0:Cf:=λ_ _ Γ Z=>Z true Γ
def Dv:wa X [] (CL E W0):=yy nK λσ H Q τ Γ Y Z rs hr t vr xr=>vr true H Γ .refl hr t
def jP{t:Cf}(h:PT X c (CL E t)):wa X [c] (CL E t):=abS h
end
end
abbrev Ap:List Str→List T→BF
 |[],_=>[]
 |_::N,[]=>none::Ap N []
 |_::N,t::ts=>some t::Ap N ts
def aV{H:A4}:∀N:List Str,RS H (List.replicate N.length none) (Ap N [])
 |[]=>trivial
 |_::N=>⟨trivial,aV N⟩
def TG{H:A4}:∀(N:List Str) {vs:List V} {ts:List T},Rs H vs ts→ts.length≤N.length→RS H (L2.start N vs) (Ap N ts)
 |N,vs,[],h,_=>by
  rw[GR h];show aV N
 |[],vs,t::ts,h,l=>absurd l (by simp)
 |n::N,vs,t::ts,h,l=>by
  let⟨v,ws,rfl,a,b⟩:=FZ h;have:=TG N b (by simpa using l);show⟨a,?_⟩;unfold L2.start at this;rw[CF,CF,Nat.add_sub_add_right];show this
def aF{N:List Str}{sc:Scope}(S:Aq N ps sc):ps.length≤N.length:=by
 have:=DV List.length S.pre;rw[Em]at this;lia
section
variable {x: Str}{C: Addr}{Lf: List Value}{B newId zm: String}{e₀: Expr}{v4: List Expr}{t: Ca}{E: BD}
abbrev WQ(C:Addr)(t:Ca):BY:=λY D τ Γ=>t Y τ Γ λxs Γ1=>xs.length≤sizeLine∧Y τ (.ref C) Γ1
def QD(hc:X.calm=true)(hg:Bk X x)(hm:X.mg x=some (.ref C))(hx:W.excIn X.K C Lf newId=true)(FB:ExcBaseFacts B newId zm Lf)(ha:PA X (e₀::v4) (De (λ_=>E) t))(hE:Raises X E)
  (hd:(x ==("__debug__" : Str))=false:=by decide) (he:starEach (e₀::v4) X.env=(false,eval e₀ X.env)::starEach v4 X.env:=by rfl) (i7:(backTo dD (starEach v4 X.env)).any (·.1)=false:=by rfl) :
  PS X (.Raise (some (.Call (.Name x np) (e₀::v4) [] dD)) none pos) (C6 (λ_=>E) (WQ C t)):=
 FC (aaV hc hg hm hx FB ha hE hd he i7) λD σ H τ Γ Y Z rs hr t dr xr=>
  ⟨τ,Γ,Y,_,rs,hr,t,λvs xs H1 Γ1 s1 h1 r1 z1=>⟨by rw[r1.length];show z1.1,xr σ τ _ H1 Γ1 s1 h1 (rs.mono s1.tq) z1.2⟩,xr⟩
end
section
variable {body pL: List Stmt}{b₀: Stmt}{y: Str}{zo: Pos}{Cy: Addr}{tb ts: BY}
abbrev iz(K:W.Frag)(Cy:Addr)(tb ts:BY):BY:=λ_ D τ Γ=>tb (λτ' C Γ'=>W.exmOne K C (.ref Cy)=some true∧ts CD D τ' Γ') D τ Γ
def uR(x6:X.stack=X.env::X.outer)(IC:X.env.frame=some X.env.locals)(hy:Bk X y)(RZ:X.mg y=some (.ref Cy))
  (hb:∀(E':xz) (pn:ac) (W:St→BD),(∀v0 σ H s e s',Inv (X.tr E' pn) v0 σ H s→EU X.prog X.w X.stack H s (W σ) e s'→E' e s')→mv (X.tr E' pn) body (C6 W tb))
  (hs:∀x,mv (X.su x) (b₀::pL) (C6 Bv ts)) (hd:(y ==("__debug__" : Str))=false:=by decide) :
  PS X (.Try body [.ExceptHandler (some (.Name y np)) none (b₀::pL) zo] [] [] pos) (C6 E (iz X.K Cy tb ts)):=
 FC (eqT x6 IC hy RZ hb hs hd) λD σ H τ Γ Y Z rs hr t dr xr=>
  ⟨τ,Γ,_,Z,rs,hr,t,dr,λσ1 τ1 C H1 Γ1 s1 h1 r1 y1=>⟨y1.1,_,_,CD,_,r1,h1,y1.2,dr.mono s1,Eb⟩⟩
end
abbrev sc:T→Option V
 |.non=>some .non|.bl b=>some (.bl b)|.int i=>some (.int i)|.str z=>some (.str z)|_=>none
def Ik{u:V}(r:R H v x)(h:sc x=some u):v=u:=by
 cases x with
 |non=>cases h;show IX r
 |bl b=>cases h;show GW r
 |int i=>cases h;show Cj r
 |str z=>cases h;show CP r
 |tup ts=>cases h
 |ref a=>cases h
 |ty n=>cases h
 |scr K a ts=>cases h
abbrev IQ:List T→Option (List V)
 |[]=>some []
 |x::r=>match sc x,IQ r with|some v,some vs=>some (v::vs)|_,_=>none
def mf{H:A4}:∀{ts:List T} {vs us:List V},Rs H vs ts→IQ ts=some us→vs=us
 |[],vs,us,r,h=>by cases h;show GR r
 |x::q,vs,us,r,h=>by
  let⟨v,ws,rfl,a,b⟩:=FZ r;unfold IQ at h;split at h
  ·rename_i v' By e1 e2
   cases h;rw[Ik a e1,mf b e2]
  ·cases h
abbrev ES(Γ:AJ):T→Option (List T)
 |.tup ts=>some ts
 |.ref a=>match Γ a with|some (.lst ts)=>some ts|_=>none
 |_=>none
def Bx(h:Γ a=some (.lst ts)):ES Γ (.ref a)=some ts:=by
 show(match Γ a with|some (.lst ts)=>some ts|_=>none)=_
 rw[h]
def Ha(hr:HR H Γ)(h:ES Γ (.ref a)=some ts):∃vs,lI K H a vs∧Rs H vs ts:=by
 have h:(match Γ a with|some (.lst ts)=>some ts|_=>none)=some ts:=h;split at h
 ·rename_i ts' g;cases h;let⟨vs,ha,q⟩:=hr a _ g;show⟨vs,lI.of ha,q⟩
 ·cases h
def RA(r:R H v x)(hr:HR H Γ)(h:ES Γ x=some ts):∃p vs,v=.ref p∧(lI K H p vs∨dG K H p vs)∧Rs H vs ts:=by
 cases x with
 |tup us=>cases h;let⟨a,vs,e,ha,q⟩:=CT r;show Ψ2 a vs ⟨e,.inr (dG.of ha),q⟩
 |ref a=>let⟨vs,s,q⟩:=Ha (K:=K) hr h;show Ψ2 a vs ⟨BJ r,.inl s,q⟩
 |_=>cases h
section
abbrev JQ(C:Int→Int→Prop)(g:Int→Int→T):EH:=λx y Γ Z=>∃i j,x=.int i∧y=.int j∧C i j∧Z (g i j) Γ
abbrev JT(g:Int→Int→T):EH:=λx y Γ Z=>∃i j,x=.int i∧y=.int j∧Z (g i j) Γ
def M5{g:Int→Int→V}(h:iS X f (JS C g))(e:∀i j H,R H (g i j) (g3 i j)):BZ X f (JQ C g3):=
 ⟨_,h,λx y a b H Γ Q Z ra rb hr q0 vr=>by let⟨i,j,ea,eb,c,z⟩:=q0;subst ea eb;show Ψ2 i j ⟨Cj ra,Cj rb,c,vr _ _ H Γ .refl hr (e i j H) z⟩⟩
def M4{g:Int→Int→V}(h:iS X f (IV g))(e:∀i j H,R H (g i j) (g3 i j)):BZ X f (JT g3):=
 ⟨_,h,λx y a b H Γ Q Z ra rb hr q0 vr=>by let⟨i,j,ea,eb,z⟩:=q0;subst ea eb;show Ψ2 i j ⟨Cj ra,Cj rb,vr _ _ H Γ .refl hr (e i j H) z⟩⟩
def Ez:BZ X (binaryOp .Add) (JT λi j=>.int (i+j)):=M4 acB λ_ _ _=>DZ
def Im:BZ X (binaryOp .Sub) (JT λi j=>.int (i-j)):=M4 ac1 λ_ _ _=>DZ
def M7:BZ X (binaryOp .Mult) (JQ Co λi j=>.int (i*j)):=M5 abz λ_ _ _=>DZ
def HQ:BZ X (binaryOp .FloorDiv) (JQ uA λi j=>.int (i/j)):=M5 xn λ_ _ _=>DZ
def C0:BZ X (binaryOp .Mod) (JQ (λ_ j=>0<j) λi j=>.int (i%j)):=M5 atK λ_ _ _=>DZ
def PV:BZ X (binaryOp .Pow) (JQ W3 λi j=>.int (i^j.toNat)):=M5 abo λ_ _ _=>DZ
def LK:BZ X (compareOp .Lt) (JT λi j=>.bl (decide (i<j))):=M4 vO λ_ _ _=>D8
def FF:BZ X (compareOp .LtE) (JT λi j=>.bl (decide (i≤j))):=M4 pD λ_ _ _=>D8
def JF:BZ X (compareOp .Gt) (JT λi j=>.bl (decide (j<i))):=M4 qA λ_ _ _=>D8
def sR:BZ X (inplaceOp .Mult) (JQ Co λi j=>.int (i*j)):=M5 aax λ_ _ _=>DZ
def LZ:BZ X (binaryOp .Add) (λx y Γ Z=>∃i j,x=.str i∧y=.str j∧i.length+j.length≤sizeLine∧Z (.str (i++j)) Γ):=
 ⟨_,zH,λx y a b H Γ Q Z ra rb hr q0 vr=>by let⟨i,j,ea,eb,c,z⟩:=q0;subst ea eb;show Ψ2 i j ⟨CP ra,CP rb,c,vr _ _ H Γ .refl hr Fu z⟩⟩
def abA:BZ X (compareOp .In) (λx y Γ Z=>∃i j,x=.str i∧y=.str j∧Z (.bl (!(Builtin.Str.occurrences j i 0 j.length 1).isEmpty)) Γ):=
 ⟨_,aaq,λx y a b H Γ Q Z ra rb hr q0 vr=>by let⟨i,j,ea,eb,z⟩:=q0;subst ea eb;show Ψ2 i j ⟨CP ra,CP rb,vr _ _ H Γ .refl hr D8 z⟩⟩
abbrev P2:EH:=λx y Γ Z=>∃u v,sc x=some u∧sc y=some v∧OK u v=true∧Z (.bl (decide (u=v))) Γ
abbrev Qw:EH:=λx y Γ Z=>∃u v,sc x=some u∧sc y=some v∧OK u v=true∧Z (.bl (!decide (u=v))) Γ
def Bm:BZ X (compareOp .Eq) P2:=
 ⟨_,yH,λx y a b H Γ Q Z ra rb hr q0 vr=>by let⟨u,v,ea,eb,c,z⟩:=q0;rw[Ik ra ea,Ik rb eb];show⟨c,vr _ _ H Γ .refl hr D8 z⟩⟩
def E3:BZ X (compareOp .NotEq) Qw:=
 ⟨_,aav,λx y a b H Γ Q Z ra rb hr q0 vr=>by let⟨u,v,ea,eb,c,z⟩:=q0;rw[Ik ra ea,Ik rb eb];show⟨c,vr _ _ H Γ .refl hr D8 z⟩⟩
abbrev G1:T→Bool|.non=>true|_=>false
def i9(r:R H v x):decide (v=.non)=G1 x:=by
 cases x with
 |non=>rw[IX r];rfl
 |bl b=>rw[GW r];rfl
 |int i=>rw[Cj r];rfl
 |str z=>rw[CP r];rfl
 |tup ts=>let⟨a,vs,e,_⟩:=CT r;rw[e];rfl
 |ref a=>rw[BJ r];rfl
 |ty n=>rw[zX r];rfl
 |scr K a ts=>rw[(Qt r).1];rfl
def M6:BZ X (compareOp .Is) (λx y Γ Z=>y=.non∧Z (.bl (G1 x)) Γ):=
 ⟨_,pH,λx y a b H Γ Q Z ra rb hr q0 vr=>by let⟨eb,z⟩:=q0;subst eb;show⟨IX rb,by rw[i9 ra];show vr _ _ H Γ .refl hr D8 z⟩⟩
def Us:BZ X (compareOp .IsNot) (λx y Γ Z=>y=.non∧Z (.bl (!G1 x)) Γ):=
 ⟨_,uj,λx y a b H Γ Q Z ra rb hr q0 vr=>by let⟨eb,z⟩:=q0;subst eb;show⟨IX rb,by rw[i9 ra];show vr _ _ H Γ .refl hr D8 z⟩⟩
abbrev K4(neg:Bool):EH:=λx y Γ Z=>∃u ts us,sc x=some u∧ES Γ y=some ts∧IQ ts=some us∧EI u=true∧us.all EI=true∧Z (.bl (if neg then !DX u us else DX u us)) Γ
def eX(x y:V)(a b:T)(H:A4)(Γ:AJ)(Q:An)(Z:DH)(ra:R H x a)(rb:R H y b)(hr:HR H Γ)(h:K4 neg a b Γ Z)(vr:VR H Γ Z Q):Sn X.K neg x y H Q:=by
 let⟨u,ts,us,ea,eb,es,f1,f2,z⟩:=h;let⟨p,vs,rfl,sq,q⟩:=RA (K:=X.K) rb hr eb;rw[Ik ra ea];cases mf q es;show Ψ2 p _ ⟨rfl,sq,f1,f2,vr _ _ H Γ .refl hr D8 z⟩
def dC:BZ X (compareOp .In) (K4 false):=⟨_,ft,eX⟩
def SX:BZ X (compareOp .NotIn) (K4 true):=⟨_,dQ,eX⟩
def iw(q:Rs H vs ts):vs.isEmpty=ts.isEmpty:=by
 have:=q.length;cases vs<;>cases ts<;>simp_all
abbrev acY:EH:=λx y Γ Z=>∃ts us,x=.tup ts∧y=.tup us∧ts.length+us.length≤sizeLine∧Z (.tup (ts++us)) Γ
def Jg(k:Kp [] H H'):∀b o,H b=some o→H' b=some o:=λb o h=>k b o (by simp) h
def uB:BZ X (binaryOp .Add) acY:=
 ⟨_,yb,λx y a b H Γ Q Z ra rb hr q0 vr=>by
  let⟨ts,us,ea,eb,l,z⟩:=q0;subst ea eb;let⟨p,vs,rfl,hp,q⟩:=CT ra;let⟨p',By,rfl,oZ,q'⟩:=CT rb;show Ψ4 p p' vs By ⟨rfl,rfl,hp,oZ,by rw[q.length,q'.length];show l,λc H' k hc=>?_⟩;show vr _ _ H' Γ (.keep (Jg k)) (hr.keep (Jg k)) (Ig hc (Rs.app (q.mono (Ce (Jg k))) (q'.mono (Ce (Jg k))))) z⟩
abbrev qY:EH:=λx y Γ Z=>∃a b ts us,x=.ref a∧y=.ref b∧Γ a=some (.lst ts)∧Γ b=some (.lst us)∧ts.length+us.length≤sizeLine∧∀p,Γ p=none→Z (.ref p) (AA Γ p (.lst (ts++us)))
def Sg:BZ X (binaryOp .Add) qY:=
 ⟨_,qp,λx y a b H Γ Q Z ra rb hr q0 vr=>by
  let⟨p,p',ts,us,ea,eb,g1,g2,l,z⟩:=q0;subst ea eb;let⟨vs,hv,q⟩:=hr p _ g1;let⟨By,Cw,q'⟩:=hr p' _ g2;show Ψ4 p p' vs By ⟨BJ ra,BJ rb,hv,Cw,by rw[q.length,q'.length];show l,λc hc=>?_⟩;let k:=CO (o:=.lst (vs++By)) hc;show vr _ _ _ _ (.make hc) (hr.make (o3:=.lst (ts++us)) hc ⟨_,B9,Rs.app (q.mono (Ce k)) (q'.mono (Ce k))⟩) Dl (z c (hr.free hc))⟩
def ua{i:Int}{t:T}(q:Rs H vs ts)(h:CG ts i=some t):∃v,CG vs i=some v∧R H v t:=by
 unfold CG at h ⊢;rw[q.length];cases e:G4 ts.length i with
 |none=>rw[e]at h;cases h
 |some j=>
  rw[e]at h;let h':ts[j]?=some t:=h;let⟨v,hv,r⟩:=q.get h';show⟨v,hv,r⟩
abbrev JB:EH:=λx y Γ Z=>∃ts i t,ES Γ x=some ts∧y=.int i∧CG ts i=some t∧Z t Γ
abbrev ig:EH:=λx y Γ Z=>∃z i c,x=.str z∧y=.int i∧z.length≤sizeLine∧CG z.cps.toList i=some c∧Z (.str ⟨#[c]⟩) Γ
variable {a b e: Expr}{ta tb te: AK}{p2: Pos}
def zB(ha:PE X a (AD E ta))(hb:PE X b (AD E tb))(hs:LY b):PE X (.Subscript a b pos) (AD E (HC JB ta tb)):=
 FL (mS aah ha hb hs) (LX λx y a b H Γ Q Z ra rb hr q0 vr=>by
  let⟨ts,i,t,ea,eb,h,z⟩:=q0;subst eb;let⟨p,vs,rfl,sq,q⟩:=RA (K:=X.K) ra hr ea;let⟨v,hv,r⟩:=ua q h;rcases sq with sq|sq
  ·show .inl ⟨p,vs,i,v,rfl,Cj rb,sq,hv,vr _ _ H Γ .refl hr r z⟩
  ·show .inr (.inl ⟨p,vs,i,v,rfl,Cj rb,sq,hv,vr _ _ H Γ .refl hr r z⟩))
def sV(ha:PE X a (AD E ta))(hb:PE X b (AD E tb))(hs:LY b):PE X (.Subscript a b pos) (AD E (HC ig ta tb)):=
 FL (mS VO ha hb hs) (LX λx y a b H Γ Q Z ra rb hr q0 vr=>by
  let⟨w,i,c,ea,eb,l,h,z⟩:=q0;subst ea eb;show Ψ3 w i c ⟨CP ra,Cj rb,l,h,vr _ _ H Γ .refl hr Fu z⟩)
abbrev IZ:=F6→BF→AJ→(Option Int→AJ→Prop)→Prop
abbrev Lm(E:St→BD)(t:IZ):Hz:=λσ H Q=>∃τ Γ Y Z,RS H σ τ∧HR H Γ∧t Y τ Γ Z∧(∀i H' Γ',eJ H Γ H' Γ'→HR H' Γ'→Z i Γ'→Q i H')∧XR H Γ Y E
def zV{e:Option Expr}{t t':Hz}(h:PO X e t)(w:∀σ H Q,t' σ H Q→t σ H Q):PO X e t':=⟨λv0 s σ H Q I q=>h.run v0 s σ H Q I (w _ _ _ q)⟩
def jB{e:Option Expr}{t0:Hz}{t:IZ}(h:PO X e t0)(w:∀σ H Q τ Γ Y Z,RS H σ τ→HR H Γ→t Y τ Γ Z→(∀i H' Γ',eJ H Γ H' Γ'→HR H' Γ'→Z i Γ'→Q i H')→XR H Γ Y E→t0 σ H Q):PO X e (Lm E t):=
 zV h (by intro σ H Q⟨τ,Γ,Y,Z,rs,hr,q,vr,xr⟩;show w σ H Q τ Γ Y Z rs hr q vr xr)
abbrev kL:IZ:=λ_ _ Γ Z=>Z none Γ
abbrev W4(t:AK):IZ:=λY τ Γ Z=>t Y τ Γ λx Γ1=>∃i,x=.int i∧Z (some i) Γ1
def HM:PO X none (Lm E kL):=jB tS λσ H Q τ Γ Y Z rs hr t vr xr=>vr none H Γ .refl hr t
def Ee(h:PE X e (AD E te)):PO X (some e) (Lm E (W4 te)):=jB (zS h) λσ H Q τ Γ Y Z rs hr t vr xr=>
 ⟨τ,Γ,Y,_,rs,hr,t,λv x H1 Γ1 s1 h1 r1 q0=>by let⟨i,ex,z⟩:=q0;subst ex;show⟨i,Cj r1,vr _ H1 Γ1 s1 h1 z⟩,xr⟩
abbrev Of:=T→Option Int→Option Int→AJ→DH→Prop
abbrev LV(X:Cx)(r3:Of):Prop:=∃r,Jj X r∧∀x a lo hi H Γ Q Z,R H x a→HR H Γ→r3 a lo hi Γ Z→VR H Γ Z Q→r x lo hi H Q
abbrev fh(r:Of)(te:AK)(tl th:IZ):AK:=λY τ Γ Z=>te Y τ Γ λx Γ1=>tl Y τ Γ1 λl Γ2=>th Y τ Γ2 λu Γ3=>r x l u Γ3 Z
def FT{r3:Of}{lo hi:Option Expr}{tl:IZ}(hs:LV X r3)(he:PE X e (AD E te))(hl:PO X lo (Lm E tl))(hu:PO X hi (Lm E th)):PE X (.Subscript e (.Slice lo hi none p2) pos) (AD E (fh r3 te tl th)):=by
 let⟨r,hr0,sim⟩:=hs;show D6 (acS hr0 he hl hu) λσ H Q τ Γ Y Z rs hr t vr xr=>?_;show Ψ4 τ Γ Y _ ⟨rs,hr,t,λv x H1 Γ1 s1 h1 r1 z1=>?_,xr⟩;show Ψ4 τ Γ1 Y _ ⟨rs.mono s1.tq,h1,z1,λl H2 Γ2 s2 h2 z2=>?_,xr.mono s1⟩;show Ψ4 τ Γ2 Y _ ⟨rs.mono (s1.trans s2).tq,h2,z2,λu H3 Γ3 s3 h3 z3=>?_,xr.mono (s1.trans s2)⟩;show sim v x l u H3 Γ3 Q Z (r1.mono (s2.trans s3).tq) h3 z3 (vr.mono ((s1.trans s2).trans s3))
def UU{lo hi:Option Int}(q:Rs H vs ts):Rs H (FV vs lo hi) (Ci ts lo hi):=by
 unfold FV Ci;rw[q.length];show Rs.take _ (Rs.drop _ q)
def Zh:LV X (λx lo hi Γ Z=>∃ts,x=.tup ts∧Z (.tup (Ci ts lo hi)) Γ):=
 ⟨_,uv,λx a lo hi H Γ Q Z ra hr q0 vr=>by
  let⟨ts,ea,z⟩:=q0;subst ea;let⟨p,vs,rfl,hp,q⟩:=CT ra;show Ψ2 p vs ⟨rfl,hp,λc H' k hc=>vr _ _ H' Γ (.keep (Jg k)) (hr.keep (Jg k)) (Ig hc (UU (q.mono (Ce (Jg k))))) z⟩⟩
def JH:LV X (λx lo hi Γ Z=>∃a ts,x=.ref a∧Γ a=some (.lst ts)∧∀p,Γ p=none→Z (.ref p) (AA Γ p (.lst (Ci ts lo hi)))):=
 ⟨_,fW,λx a lo hi H Γ Q Z ra hr q0 vr=>by
  let⟨p,ts,ea,g,z⟩:=q0;subst ea;let⟨vs,hv,q⟩:=hr p _ g;show Ψ2 p vs ⟨BJ ra,lI.of hv,λc hc=>?_⟩;let k:=CO (o:=.lst (FV vs lo hi)) hc;show vr _ _ _ _ (.make hc) (hr.make (o3:=.lst (Ci ts lo hi)) hc ⟨_,B9,UU (q.mono (Ce k))⟩) Dl (z c (hr.free hc))⟩
def QS:LV X (λx lo hi Γ Z=>∃z:Str,x=.str z∧z.length≤sizeLine∧∀y:Str,y.cps.toList=Ci z.cps.toList lo hi→Z (.str y) Γ):=
 ⟨_,xc,λx a lo hi H Γ Q Z ra hr q0 vr=>by
  let⟨w,ea,l,z⟩:=q0;subst ea;show⟨w,CP ra,l,λy hy=>vr _ _ H Γ .refl hr Fu (z y hy)⟩⟩
abbrev UB(r:T→AJ→DH→Prop)(te ts:AK):AK:=λY τ Γ Z=>te Y τ Γ λx Γ1=>ts Y τ Γ1 λk Γ2=>k=.int (-1)∧r x Γ2 Z
abbrev kI(g:Int→T):T→AJ→DH→Prop:=λx Γ Z=>∃i,x=.int i∧Z (g i) Γ
abbrev kK(r:T→AJ→DH→Prop)(ta:AK):AK:=λY τ Γ Z=>ta Y τ Γ λx Γ1=>r x Γ1 Z
def ik(ha:PE X a (AD E ta)):PE X (.UnaryOp .USub a pos) (AD E (kK (kI λi=>.int (-i)) ta)):=
 D6 (qw acO ha) λσ H Q τ Γ Y Z rs hr t vr xr=>
  ⟨τ,Γ,Y,_,rs,hr,t,λv x H1 Γ1 s1 h1 r1 q0=>by let⟨i,ex,z⟩:=q0;subst ex;show⟨i,Cj r1,vr _ _ H1 Γ1 s1 h1 DZ z⟩,xr⟩
abbrev MG:=List T→AJ→DH→Prop
abbrev Ew(X:Cx)(f:Value)(r3:MG):Prop:=∃r,Eg X f r∧∀vs ts H Γ Q Z,Rs H vs ts→HR H Γ→r3 ts Γ Z→VR H Γ Z Q→r vs H Q
abbrev Mc(r:MG)(t:Ca):AK:=λY τ Γ Z=>t Y τ Γ λts Γ1=>r ts Γ1 Z
def a9{r:List V→A4→An→Prop}{r3:MG}(h:∀vs ts H Γ Q Z,Rs H vs ts→HR H Γ→r3 ts Γ Z→VR H Γ Z Q→r vs H Q)(σ:St)(H:A4)(Q:An)(q:AD E (Mc r3 t) σ H Q):Qb r (De E t) σ H Q:=by
 let⟨τ,Γ,Y,Z,rs,hr,t,vr,xr⟩:=q;show Ψ4 τ Γ Y _ ⟨rs,hr,t,λvs xs H1 Γ1 s1 h1 r1 z1=>h vs xs H1 Γ1 Q Z r1 h1 z1 (vr.mono s1),xr⟩
section
variable {x: Str}{p: Pos}{e: Expr}{t: Ca}{id: String}{r3: MG}
def Ar(hc:Ew X (.builtin id) r3)(hg:Bk X x)(hm:X.mg x=none)(hv:bootBuiltins x=some (.builtin id))(ha:PA X (e::es) (De E t))(hn:x ≠ "__name__" := by decide)(qC:(x ==("__debug__" : Str))=false:=by decide)
  (he:starEach (e::es) X.env=(false,eval e X.env)::starEach es X.env:=by rfl) (i7:(backTo pos (starEach es X.env)).any (·.1)=false:=by rfl):PE X (.Call (.Name x p) (e::es) [] pos) (AD E (Mc r3 t)):=by
 let⟨r,hr,h⟩:=hc;show FL (jC hr hg hm hv ha hn qC he i7) (a9 h)
def IK(hc:Ew X (.type Tn) r3)(hg:Bk X x)(hm:X.mg x=none)(hv:bootBuiltins x=some (.type Tn))(ha:PA X (e::es) (De E t))(hn:x ≠ "__name__" := by decide)(qC:(x ==("__debug__" : Str))=false:=by decide)
  (he:starEach (e::es) X.env=(false,eval e X.env)::starEach es X.env:=by rfl) (i7:(backTo pos (starEach es X.env)).any (·.1)=false:=by rfl):PE X (.Call (.Name x p) (e::es) [] pos) (AD E (Mc r3 t)):=by
 let⟨r,hr,h⟩:=hc;show FL (nB hr hg hm hv ha hn qC he i7) (a9 h)
end
def rJ(h:Rs H vs [x]):∃v,vs=[v]∧R H v x:=by
 let⟨v,ws,rfl,a,b⟩:=FZ h;show⟨v,by rw[GR b],a⟩
def wG{y:T}(h:Rs H vs [x,y]):∃v w,vs=[v,w]∧R H v x∧R H w y:=by
 let⟨v,ws,rfl,a,b⟩:=FZ h;let⟨w,rfl,c⟩:=rJ b;show Ψ2 v w ⟨rfl,a,c⟩
def Bw:Ew X (.builtin "len") (λxs Γ Z=>∃x ts,xs=[x]∧ES Γ x=some ts∧Z (.int ts.length) Γ):=
 ⟨_,ji,λvs xs H Γ Q Z r hr q0 vr=>by
  let⟨x,ts,e,h,z⟩:=q0;subst e;let⟨v,rfl,rv⟩:=rJ r;let⟨p,us,rfl,sq,q⟩:=RA (K:=X.K) rv hr h;show Ψ2 p us ⟨rfl,sq,by rw[q.length];show vr _ _ H Γ .refl hr DZ z⟩⟩
def RB:Ew X (.builtin "len") (λxs Γ Z=>∃z:Str,xs=[.str z]∧z.length≤sizeLine∧Z (.int z.length) Γ):=
 ⟨_,nT,λvs xs H Γ Q Z r hr q0 vr=>by
  let⟨w,e,l,z⟩:=q0;subst e;let⟨v,rfl,rv⟩:=rJ r;show⟨w,by rw[CP rv],l,vr _ _ H Γ .refl hr DZ z⟩⟩
def Lo:Ew X (.type "tuple") (λxs Γ Z=>∃x ts,xs=[x]∧ES Γ x=some ts∧Z (.tup ts) Γ):=
 ⟨_,wC,λvs xs H Γ Q Z r hr q0 vr=>by
  let⟨x,ts,e,h,z⟩:=q0;subst e;let⟨v,rfl,rv⟩:=rJ r;cases x with
  |tup us=>
   cases h;let⟨a,ws,rfl,ha,q⟩:=CT rv;show Ψ2 a ws ⟨rfl,.inr ⟨dG.of ha,vr _ _ H Γ .refl hr (Ig ha q) z⟩⟩
  |ref a=>
   let⟨us,sq,q⟩:=Ha (K:=X.K) hr h;show Ψ2 a us ⟨by rw[BJ rv],.inl ⟨sq,λl hl=>?_⟩⟩;let k:=CO (o:=.tup us) hl;show vr _ _ _ Γ (.keep k) (hr.keep k) (Ig B9 (q.mono (Ce k))) z
  |_=>cases h⟩
def aci:Ew X (.builtin "ord") (λxs Γ Z=>∃x:Str,xs=[.str x]∧x.length=1∧Z (.int (x.cps.getD 0 0:Nat)) Γ):=
 ⟨_,yj,λvs xs H Γ Q Z r hr q0 vr=>by
  let⟨i,e,l,z⟩:=q0;subst e;let⟨v,rfl,a⟩:=rJ r;show⟨i,by rw[CP a],l,vr _ _ H Γ .refl hr DZ z⟩⟩
def Rf{H:A4}:∀{ns:List Bool} {vs:List V},Rs H vs (ns.map T.bl)→vs=ns.map V.bl
 |[],vs,h=>GR h
 |n::r,vs,h=>by
  let⟨v,ws,rfl,a,b⟩:=FZ h;rw[GW a,Rf b];rfl
def U1{H:A4}:∀{ns:List Str} {vs:List V},Rs H vs (ns.map T.str)→vs=ns.map V.str
 |[],vs,h=>GR h
 |n::r,vs,h=>by
  let⟨v,ws,rfl,a,b⟩:=FZ h;rw[CP a,U1 b];rfl
def FH(hc:X.calm=true):Ew X (.builtin "all") (λxs Γ Z=>∃(p:Addr) (bs:List Bool),xs=[.ref p]∧ES Γ (.ref p)=some (bs.map T.bl)∧Z (.bl (bs.all id)) Γ):=
 ⟨_,qU hc,λvs xs H Γ Q Z r hr q0 vr=>by
  let⟨p,ns,e,g,z⟩:=q0;subst e;let⟨v,rfl,a⟩:=rJ r;let⟨us,sq,q⟩:=Ha (K:=X.K) hr g;rw[Rf q]at sq;show Ψ2 p ns ⟨by rw[BJ a],sq,vr _ _ H Γ .refl hr D8 z⟩⟩
def lX(hc:X.calm=true):Ew X (.builtin "any") (λxs Γ Z=>∃(p:Addr) (bs:List Bool),xs=[.ref p]∧ES Γ (.ref p)=some (bs.map T.bl)∧Z (.bl (bs.any id)) Γ):=
 ⟨_,wL hc,λvs xs H Γ Q Z r hr q0 vr=>by
  let⟨p,ns,e,g,z⟩:=q0;subst e;let⟨v,rfl,a⟩:=rJ r;let⟨us,sq,q⟩:=Ha (K:=X.K) hr g;rw[Rf q]at sq;show Ψ2 p ns ⟨by rw[BJ a],sq,vr _ _ H Γ .refl hr D8 z⟩⟩
abbrev EA(Γ:AJ):T→Option String
 |.non=>some "NoneType" |.bl _=>some "bool" |.int _=>some "int" |.str _=>some "str" |.tup _=>some "tuple"
 |.ref a=>match Γ a with|some (.lst _)=>some "list" |some (.dK _)=>some "dict" |_=>none
 |.ty _=>none
 |.scr _ _ _=>none
def Za{n:String}(r:R H v x)(hr:HR H Γ)(h:EA Γ x=some n):Ex K H v (.type n):=by
 cases x with
 |non=>cases h;rw[IX r];show .non
 |bl b=>cases h;rw[GW r];show .bl b
 |int i=>cases h;rw[Cj r];show .int i
 |str z=>cases h;rw[CP r];show .str z
 |tup ts=>cases h;let⟨a,vs,e,ha,_⟩:=CT r;rw[e];show .tup ha
 |ty n=>cases h
 |scr K a ts=>cases h
 |ref a=>
  rw[BJ r];have h:(match Γ a with|some (.lst _)=>some "list" |some (.dK _)=>some "dict" |_=>none)=some n:=h;split at h
  ·rename_i g;cases h;let⟨vs,hv,_⟩:=hr a _ g;show .lst hv
  ·rename_i g;cases h;let⟨vs,hv,_⟩:=hr a _ g;show .dK hv
  ·cases h
abbrev QY(K:W.Frag)(Ty:String)(te:AK):AK:=λY τ Γ Z=>te Y τ Γ λx Γ1=>∃n b,EA Γ1 x=some n∧W.kitOne K (.type n) (.type Ty)=some b∧Z (.bl b) Γ1
def D4{x:Expr}{te:AK}{p p2 pos:Pos}{Tn:Str}(hg:Bk X "isinstance")(hm:X.mg "isinstance" = none)(R6:Bk X Tn)(R1:X.mg Tn=none)(RO:bootBuiltins Tn=some (.type Ty))(he:PE X x (AD E te))(hn:Tn ≠ "__name__" := by decide)(Sa:(Tn ==("__debug__" : Str))=false:=by decide)
  (hs:starEach [x,.Name Tn p2] X.env=(false,eval x X.env)::starEach [.Name Tn p2] X.env:=by rfl) (vA:starEach [.Name Tn p2] X.env=[(false,eval (.Name Tn p2) X.env)]:=by rfl)
  (i7:(backTo pos (starEach [.Name Tn p2] X.env)).any (·.1)=false:=by rfl):PE X (.Call (.Name "isinstance" p) [x,.Name Tn p2] [] pos) (AD E (QY X.K Ty te)):=
 D6 (rB hg hm R6 R1 RO he hn Sa hs vA i7) λσ H Q τ Γ Y Z rs hr t vr xr=>
  ⟨τ,Γ,Y,_,rs,hr,t,λv x H1 Γ1 s1 h1 r1 ξ=>Ξ23 ξ λn b ty k z=>⟨v,rfl,.type n,b,Za r1 h1 ty,k,vr _ _ H1 Γ1 s1 h1 D8 z⟩,xr⟩
abbrev Sv(Γ:AJ):T→Option Bool
 |.non=>some false|.bl b=>some b|.int i=>some (i != 0)|.tup ts=>some (!ts.isEmpty)
 |.str z=>if z.length≤sizeLine then some ((z.length:Int) != 0)else none
 |.ref a=>match Γ a with|some (.lst ts)=>some (!ts.isEmpty)|some (.dK aq)=>some (!aq.isEmpty)|_=>none
 |.ty _=>none
 |.scr _ _ _=>none
def vh{us:List (A7×V)}{aq:List (A7×T)}(q:Ks H us aq):us.isEmpty=aq.isEmpty:=by cases q<;>rfl
def xb{k:Bool}(r:R H v x)(hr:HR H Γ)(h:Sv Γ x=some k):QF K v H k:=by
 cases x with
 |non=>cases h;rw[IX r];rfl
 |bl b=>cases h;rw[GW r];rfl
 |int i=>cases h;rw[Cj r];rfl
 |str z=>
  rw[CP r];let h:(if z.length≤sizeLine then some ((z.length:Int) != 0)else none)=some k:=h;by_cases c:z.length≤sizeLine
  ·rw[Ab c]at h;cases h;show⟨c,rfl⟩
  ·rw[AP c]at h;cases h
 |tup ts=>cases h;let⟨a,vs,e,ha,q⟩:=CT r;rw[e];show .inr (.inl ⟨vs,dG.of ha,by rw[iw q]⟩)
 |ty n=>cases h
 |scr K a ts=>cases h
 |ref a=>
  rw[BJ r];have h:(match Γ a with|some (.lst ts)=>some (!ts.isEmpty)|some (.dK aq)=>some (!aq.isEmpty)|_=>none)=some k:=h;split at h
  ·rename_i g;cases h;let⟨vs,hv,q⟩:=hr a _ g;show .inl ⟨vs,lI.of hv,by rw[iw q]⟩
  ·rename_i g;cases h;let⟨vs,hv,q⟩:=hr a _ g;show .inr (.inr ⟨vs,hv,by rw[vh q]⟩)
  ·cases h
abbrev aK(t:AK):Cf:=λY τ Γ Z=>t Y τ Γ λx Γ1=>∃k,Sv Γ1 x=some k∧Z k Γ1
def abi{a:Expr}{ta:AK}(ha:PE X a (AD E ta))(he:∀whole,isTrue a X.env whole=(do let v ←whole;standAt a.pos;holding [v] (truthy v))):PT X a (CL E (aK ta)):=
 X3 (aco ha he) λσ H Q τ Γ Y Z rs hr t vr xr=>
  ⟨τ,Γ,Y,_,rs,hr,t,λv x H1 Γ1 s1 h1 r1 ξ=>Ξ12 ξ λk tr z=>⟨k,xb r1 h1 tr,vr _ H1 Γ1 s1 h1 z⟩,xr⟩
def xG:LV X (λx lo hi Γ Z=>∃a ts,x=.scr X.K a ts∧∀p,Γ p=none→Z (.ref p) (AA Γ p (.lst (Ci ts lo hi)))):=
 ⟨_,fW,λx a lo hi H Γ Q Z ra hr q0 vr=>by
  let⟨p,ts,ea,z⟩:=q0;subst ea;let⟨rfl,⟨vs,sq,q⟩⟩:=Qt ra;show Ψ2 p vs ⟨rfl,sq.sq,λc hc=>?_⟩;let k:=CO (o:=.lst (FV vs lo hi)) hc;show vr _ _ _ _ (.make hc) (hr.make (o3:=.lst (Ci ts lo hi)) hc ⟨_,B9,UU (q.mono (Ce k))⟩) Dl (z c (hr.free hc))⟩
end
section
variable {tg l: Expr}{tl: AK}{p: Pos}
@[reducible]def DG:AJ→Prop:=λ_=>True
abbrev mP(tl:AK):I3:=λY τ Γ Z=>tl Y τ Γ λx Γ1=>∃ts,x=.tup ts∧Z ts DG Γ1
def adr(ha:H a=some (.tup vs))(q:Rs H vs ts):Walks (QG K a) ts DG H where
 go:=λi H' Γ t hr _ hi=>Ψ2 vs (vs[i]'(by rw[q.length];show hi)) ⟨dG.of (t.1 a vs ha),by simp⟩
 qI:=λi H' Γ x H2 t hr _ hi q0=>by
  let⟨e,y⟩:=q0;subst e;let⟨t',e',r⟩:=(q.mono t).zt (y vs (dG.of (t.1 a vs ha)));show⟨.refl,hr,t',e',r⟩
 stop:=λH' Γ t hr _=>⟨vs,dG.of (t.1 a vs ha),by rw[q.length];show Ah _⟩
def E4(hl:PE X l (AD E tl)):PI X tg l (Dt E (mP tl)):=
 J2 (abc hl) λσ H Q τ Γ Y Z rs hr t vr xr=>⟨τ,Γ,Y,_,rs,hr,t,λv x H1 Γ1 s1 h1 r1 ξ=>Ξ12 ξ λts ex z=>by
  subst ex;let⟨a,vs,rfl,ha,q⟩:=CT r1;show⟨a,rfl,⟨vs,dG.of ha⟩,vr _ ts DG H1 Γ1 s1 h1 (adr ha q) z⟩,xr⟩
abbrev eo(tl:AK):I3:=λY τ Γ Z=>tl Y τ Γ λx Γ1=>∃a ts,x=.ref a∧ES Γ1 (.ref a)=some ts∧Z ts (λΓ'=>ES Γ' (.ref a)=some ts) Γ1
def xi:Walks (S1 K a) ts (λΓ'=>ES Γ' (.ref a)=some ts) H where
 go:=λi H' Γ t hr g hi=>by
  let⟨vs,sq,q⟩:=Ha (K:=K) hr g;show Ψ2 vs (vs[i]'(by rw[q.length];show hi)) ⟨sq,by simp⟩
 qI:=λi H' Γ x H2 t hr g hi q0=>by
  let⟨e,y⟩:=q0;subst e;let⟨vs,sq,q⟩:=Ha (K:=K) hr g;let⟨t',e',r⟩:=q.zt (y vs sq);show⟨.refl,hr,t',e',r⟩
 stop:=λH' Γ t hr g=>by
  let⟨vs,sq,q⟩:=Ha (K:=K) hr g;show⟨vs,sq,by rw[q.length];show Ah _⟩
def UT(hl:PE X l (AD E tl)):PI X tg l (Dt E (eo tl)):=
 J2 (xY hl) λσ H Q τ Γ Y Z rs hr t vr xr=>⟨τ,Γ,Y,_,rs,hr,t,λv x H1 Γ1 s1 h1 r1 ξ=>Ξ23 ξ λa ts ex g z=>by
  subst ex;let⟨vs,sq,q⟩:=Ha (K:=X.K) h1 g;show⟨a,BJ r1,⟨vs,sq⟩,vr _ ts _ H1 Γ1 s1 h1 xi z⟩,xr⟩
abbrev EB(lo:Int):Nat→List T
 |0=>[]
 |n+1=>.int lo::EB (lo+1) n
def JL:∀(n:Nat) (lo:Int),(EB lo n).length=n
 |0,_=>rfl
 |n+1,lo=>by rw[EB,CF,JL n]
def Zm:∀(n:Nat) (lo:Int) (i:Nat),i<n→(EB lo n)[i]?=some (.int (lo+i))
 |0,_,i,h=>absurd h (MO _)
 |n+1,lo,0,_=>by rw[EB];simp
 |n+1,lo,i+1,h=>by
  rw[EB,UQ,Zm n (lo+1) i (by lia)];congr 2
  lia
def xw(lo:Int)(n:Nat):Walks (Nr lo n) (EB lo n) DG H where
 go:=λi H' Γ t hr _ hi=>by rw[JL]at hi;show hi
 qI:=λi H' Γ x H2 t hr _ hi q0=>by
  let⟨e,y⟩:=q0;subst e y;rw[JL]at hi;show⟨.refl,hr,_,Zm n lo i hi,DZ⟩
 stop:=λH' Γ t hr _=>by rw[JL];show Ah _
abbrev ff(ta:Ca):I3:=λY τ Γ Z=>ta Y τ Γ λxs Γ1=>∃j:Int,xs=[.int j]∧-(2^62)≤j∧j<2^62∧Z (EB 0 j.toNat) DG Γ1
def Je{a:Expr}(hg:Bk X "range")(hm:X.mg "range" = none)(ha:PA X [a] (De E ta))(hs:starEach [a] X.env=[(false,eval a X.env)]:=by rfl):PI X tg (.Call (.Name "range" p) [a] [] pos) (Dt E (ff ta)):=
 J2 (yg hg hm ha hs) λσ H Q τ Γ Y Z rs hr t vr xr=>⟨τ,Γ,Y,_,rs,hr,t,λvs xs H1 Γ1 s1 h1 r1 ξ=>Ξ14 ξ λj ex b1 b2 z=>by
  subst ex;let⟨v,rfl,a⟩:=rJ r1;show⟨j,by rw[Cj a],b1,b2,vr _ _ DG H1 Γ1 s1 h1 (xw 0 _) z⟩,xr⟩
abbrev EZ:List T→List T→List T
 |x::r,y::q=>.tup [x,y]::EZ r q
 |_,_=>[]
def JD:∀{xs ys:List T},(EZ xs ys).length=min xs.length ys.length
 |[],_=>by simp[EZ]
 |_::_,[]=>by simp[EZ]
 |x::r,y::q=>by rw[EZ,CF,JD,CF,CF];lia
def Tr:∀{xs ys:List T} {i:Nat} {x y:T},xs[i]?=some x→ys[i]?=some y→(EZ xs ys)[i]?=some (.tup [x,y])
 |[],_,_,_,_,h,_=>by simp at h
 |_::_,[],_,_,_,_,h=>by simp at h
 |a::r,b::q,0,x,y,h,h'=>by cases h;cases h';rfl
 |a::r,b::q,i+1,x,y,h,h'=>by rw[EZ,UQ];show Tr (by simpa using h) (by simpa using h')
abbrev iZ(ta:Ca):I3:=λY τ Γ Z=>ta Y τ Γ λxs Γ1=>∃ts us,xs=[.tup ts,.tup us]∧Z (EZ ts us) DG Γ1
def aay{b:Addr}{ws:List V}(ha:H a=some (.tup vs))(q:Rs H vs ts)(hb:H b=some (.tup ws))(q':Rs H ws us):Walks (Np K a b) (EZ ts us) DG H where
 go:=λi H' Γ t hr _ hi=>by
  rw[JD]at hi;show Ψ4 vs ws (vs[i]'(by rw[q.length];lia)) (ws[i]'(by rw[q'.length];lia)) ⟨dG.of (t.1 a vs ha),dG.of (t.1 b ws hb),by simp,by simp⟩
 qI:=λi H' Γ v H2 t hr _ hi q0=>by
  let⟨p,x,y,hp,e1,e2,y1,y2⟩:=q0;subst e1 e2;let⟨t1,f1,r1⟩:=(q.mono t).zt (y1 vs (dG.of (t.1 a vs ha)));let⟨t2,f2,r2⟩:=(q'.mono t).zt (y2 ws (dG.of (t.1 b ws hb)));let k:=CO (o:=.tup [x,y]) hp;show⟨.keep k,hr.keep k,_,Tr f1 f2,Ig B9 (Dn (r1.mono (Ce k)) (Dn (r2.mono (Ce k)) EM))⟩
 stop:=λH' Γ t hr _=>Ψ2 vs ws ⟨dG.of (t.1 a vs ha),dG.of (t.1 b ws hb),by rw[JD,q.length,q'.length];lia⟩
def i8{a b:Expr}(hg:Bk X "zip")(hm:X.mg "zip" = none)(ha:PA X [a,b] (De E ta))(hs:starEach [a,b] X.env=[(false,eval a X.env),(false,eval b X.env)]:=by rfl)(vA:starEach [b] X.env=[(false,eval b X.env)]:=by rfl):
  PI X (.Tuple elts kk uD) (.Call (.Name "zip" p) [a,b] [] pos) (Dt E (iZ ta)):=
 J2 (aQ hg hm ha hs vA) λσ H Q τ Γ Y Z rs hr t vr xr=>⟨τ,Γ,Y,_,rs,hr,t,λvs xs H1 Γ1 s1 h1 r1 ξ=>Ξ22 ξ λts us ex z=>by
  subst ex;let⟨v,w,rfl,a,b⟩:=wG r1;let⟨pa,va,rfl,ha,qa⟩:=CT a;let⟨pb,vb,rfl,hb,qb⟩:=CT b;show Ψ4 pa pb va vb ⟨rfl,dG.of ha,dG.of hb,vr _ _ DG H1 Γ1 s1 h1 (aay ha qa hb qb) z⟩,xr⟩
abbrev Hb(n:Nat):List T→List T
 |[]=>[]
 |x::r=>.tup [.int n,x]::Hb (n+1) r
def SJ:∀{xs:List T} {n:Nat},(Hb n xs).length=xs.length
 |[],_=>rfl
 |x::r,n=>by rw[Hb,CF,SJ,CF]
def jA:∀{xs:List T} {n i:Nat} {x:T},xs[i]?=some x→(Hb n xs)[i]?=some (.tup [.int ((n+i:Nat):Int),x])
 |[],_,_,_,h=>by simp at h
 |a::r,n,0,x,h=>by cases h;rfl
 |a::r,n,i+1,x,h=>by
  rw[Hb,UQ,jA (n:=n+1) (by simpa using h)];congr 4
  lia
abbrev kh(ta:Ca):I3:=λY τ Γ Z=>ta Y τ Γ λxs Γ1=>∃ts,xs=[.tup ts]∧Z (Hb 0 ts) DG Γ1
def ab9(ha:H a=some (.tup vs))(q:Rs H vs ts):Walks (UC K a) (Hb 0 ts) DG H where
 go:=λi H' Γ t hr _ hi=>by
  rw[SJ]at hi;show Ψ2 vs (vs[i]'(by rw[q.length];lia)) ⟨dG.of (t.1 a vs ha),by simp⟩
 qI:=λi H' Γ v H2 t hr _ hi q0=>by
  let⟨p,x,hp,e1,e2,y1⟩:=q0;subst e1 e2;let⟨t1,f1,r1⟩:=(q.mono t).zt (y1 vs (dG.of (t.1 a vs ha)));let k:=CO (o:=.tup [.int i,x]) hp;show⟨.keep k,hr.keep k,_,jA f1,Ig B9 (Dn ?_ (Dn (r1.mono (Ce k)) EM))⟩;rw[Nat.zero_add];show DZ
 stop:=λH' Γ t hr _=>⟨vs,dG.of (t.1 a vs ha),by rw[SJ,q.length]⟩
def qj{a:Expr}(hg:Bk X "enumerate")(hm:X.mg "enumerate" = none)(ha:PA X [a] (De E ta))(hs:starEach [a] X.env=[(false,eval a X.env)]:=by rfl):
  PI X (.Tuple elts kk uD) (.Call (.Name "enumerate" p) [a] [] pos) (Dt E (kh ta)):=
 J2 (aa7 hg hm ha hs) λσ H Q τ Γ Y Z rs hr t vr xr=>⟨τ,Γ,Y,_,rs,hr,t,λvs xs H1 Γ1 s1 h1 r1 ξ=>Ξ12 ξ λts ex z=>by
  subst ex;let⟨v,rfl,a⟩:=rJ r1;let⟨pa,va,rfl,ha,qa⟩:=CT a;show Ψ2 pa va ⟨rfl,dG.of ha,vr _ _ DG H1 Γ1 s1 h1 (ab9 ha qa) z⟩,xr⟩
abbrev I0(z:Str):List T:=z.cps.toList.map λc=>.str ⟨#[c]⟩
abbrev az(tl:AK):I3:=λY τ Γ Z=>tl Y τ Γ λx Γ1=>∃z,x=.str z∧Z (I0 z) DG Γ1
def si(z:Str):Walks (NF z) (I0 z) DG H where
 go:=λi H' Γ t hr _ hi=>by
  unfold I0 at hi;rw[AM,Hy]at hi;show hi
 qI:=λi H' Γ x H2 t hr _ hi q0=>by
  let⟨e,⟨c,hc,ex⟩⟩:=q0;subst e ex;show⟨.refl,hr,.str ⟨#[c]⟩,?_,Fu⟩;unfold I0;rw[FK,Pl,hc];rfl
 stop:=λH' Γ t hr _=>by
  show z.cps.size≤(I0 z).length
  unfold I0;rw[AM,Hy];show Ah _
def aL(hl:PE X l (AD E tl)):PI X tg l (Dt E (az tl)):=
 J2 (aae hl) λσ H Q τ Γ Y Z rs hr t vr xr=>⟨τ,Γ,Y,_,rs,hr,t,λv x H1 Γ1 s1 h1 r1 ξ=>Ξ12 ξ λz ex zz=>by
  subst ex;show⟨z,CP r1,vr _ _ DG H1 Γ1 s1 h1 (si z) zz⟩,xr⟩
abbrev Ko:=T→List T→AJ→DH→Prop
abbrev Ic(X:Cx)(id:String)(r3:Ko):Prop:=∃r,J8 X id r∧∀v x vs ts H Γ Q Z,R H v x→Rs H vs ts→HR H Γ→r3 x ts Γ Z→VR H Γ Z Q→r v vs H Q
abbrev iu(Tn:String)(r3:Ko)(to:AK)(t:Ca):AK:=λY τ Γ Z=>to Y τ Γ λx Γ1=>EA Γ1 x=some Tn∧t Y τ Γ1 λxs Γ2=>r3 x xs Γ2 Z
abbrev kM(Tn:String)(r3:Ko)(to:AK):AK:=λY τ Γ Z=>to Y τ Γ λx Γ1=>EA Γ1 x=some Tn∧r3 x [] Γ1 Z
def X7{n:String}(r:R H v x)(hr:HR H Γ)(h:EA Γ x=some n)(hn:n = "list" ∨ n = "str" ∨ n = "dict"):O2 K n v H:=by
 let ty:=Za (K:=K) r hr h;cases x with
 |non=>cases h;rcases hn with h|h|h<;>show absurd h (by decide)
 |bl b=>cases h;rcases hn with h|h|h<;>show absurd h (by decide)
 |int i=>cases h;rcases hn with h|h|h<;>show absurd h (by decide)
 |str z=>cases h;rw[CP r];rfl
 |tup ts=>cases h;rcases hn with h|h|h<;>show absurd h (by decide)
 |ty n=>cases h
 |scr K a ts=>cases h
 |ref a=>
  rw[BJ r];have h:(match Γ a with|some (.lst _)=>some "list" |some (.dK _)=>some "dict" |_=>none)=some n:=h;split at h
  ·rename_i g;cases h;let⟨vs,hv,_⟩:=hr a _ g;show .inl ⟨rfl,vs,lI.of hv⟩
  ·rename_i g;cases h;let⟨vs,hv,_⟩:=hr a _ g;show .inr (.inr (.inl ⟨rfl,.inl ⟨vs,hv⟩⟩))
  ·cases h
section
variable {o e: Expr}{to: AK}{t: Ca}{name: Str}{apos: Pos}{id: String}{r3: Ko}
def ab1(pa:PlainAttrs Tn)(slot:Slot Tn name id)(AV:typeOf (.builtin id)=pure (.type "method_descriptor"))(hm:Ic X id r3)(ho:PE X o (AD E to))(hn:Tn = "list" ∨ Tn = "str" ∨ Tn = "dict" := by decide)
  (sr:attributeBase o name X.env (eval o X.env)=eval o X.env:=by rfl) (sj:(apos.endLine==dD.line)=true:=by rfl):PE X (.Call (.Attribute o name apos) [] [] dD) (AD E (kM Tn r3 to)):=by
 obtain⟨r,hm,sim⟩:=hm;show D6 (oO pa slot AV hm ho sr sj) λσ H Q τ Γ Y Z rs hr t vr xr=>⟨τ,Γ,Y,_,rs,hr,t,λv x H1 Γ1 s1 h1 r1 ξ=>Ξ02 ξ λty z=>
  ⟨X7 r1 h1 ty hn,sim v x [] [] H1 Γ1 Q Z r1 EM h1 z (vr.mono s1)⟩,xr⟩
def E0(pa:PlainAttrs Tn)(slot:Slot Tn name id)(AV:typeOf (.builtin id)=pure (.type "method_descriptor"))(hm:Ic X id r3)(ho:PE X o (AD E to))(ha:PA X (e::es) (De E t))(hn:Tn = "list" ∨ Tn = "str" ∨ Tn = "dict" := by decide)
  (sr:attributeBase o name X.env (eval o X.env)=eval o X.env:=by rfl)
  (NT:((backTo dD (starEach (e::es) X.env)).all (λx=>!x.1)&&(backToKw dD (keywordEach [] X.env)).all (λx=>x.1.isSome)
   && decide ((e::es).length+([]:List Keyword).length+(if([]:List Keyword).isEmpty then 0 else 1)<30))=true:=by rfl)
  (sj:(apos.endLine==dD.line)=true:=by rfl) (hs:starEach (e::es) X.env=(false,eval e X.env)::starEach es X.env:=by rfl) (zp:(backTo dD (starEach es X.env)).any (·.1)=false:=by rfl) :
  PE X (.Call (.Attribute o name apos) (e::es) [] dD) (AD E (iu Tn r3 to t)):=by
 obtain⟨r,hm,sim⟩:=hm;show D6 (acI pa slot AV hm ho ha sr NT sj hs zp) λσ H Q τ Γ Y Z rs hr t vr xr=>⟨τ,Γ,Y,_,rs,hr,t,λv x H1 Γ1 s1 h1 r1 ξ=>Ξ02 ξ λty z=>
  ⟨X7 r1 h1 ty hn,τ,Γ1,Y,_,rs.mono s1.tq,h1,z,λvs xs H2 Γ2 s2 h2 r2 z2=>sim v x vs xs H2 Γ2 Q Z (r1.mono s2.tq) r2 h2 z2 (vr.mono (s1.trans s2)),xr.mono s1⟩,xr⟩
end
def HY:Ic X "list.append" (λx ts Γ Z=>∃a us y,x=.ref a∧ts=[y]∧Γ a=some (.lst us)∧us.length<sizeLine∧Z .non (AA Γ a (.lst (us++[y])))):=
 ⟨_,fq,λv x vs ts H Γ Q Z r rs hr q0 vr=>by
  let⟨a,us,y,ex,et,g,l,z⟩:=q0;subst ex et;let⟨w,rfl,oP⟩:=rJ rs;let⟨ws,hw,q⟩:=hr a _ g;show Ψ3 a ws w ⟨BJ r,rfl,hw,by rw[q.length];show l,?_⟩;let s:eJ H Γ (AI H a (.lst (ws++[w]))) (AA Γ a (.lst (us++[y]))):=.set hr g;show vr _ _ _ _ s (hr.set g ⟨_,B9,Rs.app (q.mono s.tq) (Dn (oP.mono s.tq) EM)⟩) L5 z⟩
def oJ:Ic X "list.pop" (λx ts Γ Z=>∃a us y,x=.ref a∧ts=[]∧Γ a=some (.lst us)∧us[us.length-1]?=some y∧Z y (AA Γ a (.lst us.dropLast))):=
 ⟨_,tO,λv x vs ts H Γ Q Z r rs hr q0 vr=>by
  let⟨a,us,y,ex,et,g,l,z⟩:=q0;subst ex et;let⟨ws,hw,q⟩:=hr a _ g;let⟨w,hw',oP⟩:=q.get l;show Ψ3 a ws w ⟨BJ r,GR rs,hw,by rw[q.length];show hw',?_⟩;let s:eJ H Γ (AI H a (.lst ws.dropLast)) (AA Γ a (.lst us.dropLast)):=.set hr g;show vr _ _ _ _ s (hr.set g ⟨_,B9,?_⟩) (oP.mono s.tq) z;let e:∀{H2:A4},Rs H2 ws us→Rs H2 ws.dropLast us.dropLast:=λ{H2} q2=>by
   rw[List.dropLast_eq_take,List.dropLast_eq_take,q2.length];show Rs.take _ q2
  show e (q.mono s.tq)⟩
def uM:Ic X "str.join" (λx ts Γ Z=>∃(p:Addr) (ss:List Str),x=.str Str.empty∧ts=[.ref p]∧ES Γ (.ref p)=some (ss.map T.str)∧ss.length≤1000∧(∀y∈ss,y.length≤1000)∧Z (.str (Ie ss)) Γ):=
 ⟨_,yR,λv x vs ts H Γ Q Z r rs hr q0 vr=>by
  let⟨p,ss,ex,et,g,l,l2,z⟩:=q0;subst ex et;let⟨w,rfl,oP⟩:=rJ rs;let⟨us,sq,q⟩:=Ha (K:=X.K) hr g;rw[U1 q]at sq;show Ψ2 p ss ⟨CP r,by rw[BJ oP],sq,l,l2,vr _ _ H Γ .refl hr Fu z⟩⟩
def yc{r:V→A4→An→Prop}{r3:T→AJ→DH→Prop}{ts:AK}(h:∀v x H Γ Q Z,R H v x→HR H Γ→r3 x Γ Z→VR H Γ Z Q→r v H Q)(σ:St)(H:A4)(Q:An)(q:AD E (UB r3 te ts) σ H Q):
  AD E te σ H λx H1=>AD E ts σ H1 λy H2=>y=.int (-1)∧r x H2 Q:=by
 let⟨τ,Γ,Y,Z,rs,hr,t,vr,xr⟩:=q;show Ψ4 τ Γ Y _ ⟨rs,hr,t,λv x H1 Γ1 s1 h1 r1 z1=>?_,xr⟩;show Ψ4 τ Γ1 Y _ ⟨rs.mono s1.tq,h1,z1,λu y H2 Γ2 s2 h2 r2 z2=>?_,xr.mono s1⟩;obtain⟨e,z2⟩:=z2;subst e;show⟨Cj r2,h v x H2 Γ2 Q Z (r1.mono s2.tq) h2 z2 (vr.mono (s1.trans s2))⟩
end
abbrev Le(Γ Γ':AJ):Prop:=∀a o,Γ a=some o→Γ' a=some o
def Le.refl:Le Γ Γ:=λ_ _ h=>h
def Le.trans(a:Le Γ Γ1)(b:Le Γ1 Γ'):Le Γ Γ':=λx o h=>b x o (a x o h)
def Le.new(h:Γ p=none):Le Γ (AA Γ p o):=λb u q=>by rw[AZ (Bl q h)];show q
def HR.le(h:HR H Γ')(l:Le Γ Γ'):HR H Γ:=λa o e=>h a o (l a o e)
abbrev Kq(l:List Addr)(Γ Γ':AJ):Prop:=∀b o,b∉l→Γ b=some o→Γ' b=some o
def Kq.refl:Kq l Γ Γ:=λ_ _ _ h=>h
def Kq.trans(a:Kq l Γ Γ1)(b:Kq l Γ1 Γ'):Kq l Γ Γ':=λc o n h=>b c o n (a c o n h)
def Kq.mono{l':List Addr}(a:Kq l Γ Γ1)(s:∀b∈l,b∈l'):Kq l' Γ Γ1:=λc o n h=>a c o (λz=>n (s c z)) h
def Kq.new(h:Γ p=none)(o:O):Kq l Γ (AA Γ p o):=λb u _ q=>by rw[AZ (Bl q h)];show q
def Kq.set(h:p∈l)(o:O):Kq l Γ (AA Γ p o):=λb u n q=>by
 let e:b≠p:=λz=>n (by rw[z];show h);rw[AZ e];show q
def Le.kq(k:Le Γ Γ'):Kq l Γ Γ':=λa o _ h=>k a o h
abbrev Fr(l:List Addr)(Γ Γ':AJ):Prop:=∀b,b∉l→Γ' b=Γ b
abbrev EP(Z:DH):DH:=λx Γ'=>∃Γ2,Le Γ2 Γ'∧Z x Γ2
def AB{Z:DH}(k:Le Γ Γ')(z:Z x Γ):EP Z x Γ':=⟨Γ,k,z⟩
def iA{Z:DH}(k:Kq [a] Γ Γ')(h:Γ' a=some o)(z:Z x (AA Γ a o)):EP Z x Γ':=⟨AA Γ a o,λb u q=>by
 by_cases e:b=a
 ·subst e;rw[Ae]at q;cases q;show h
 ·rw[AZ e]at q;show k b u (by simpa using e) q,z⟩
def eJ.cut{Γ2:AJ}(s:eJ H Γ H' Γ')(l:Le Γ2 Γ'):eJ H Γ H' Γ2:=⟨s.tq,s.vM,λa h g=>by
 cases e:Γ2 a with
 |none=>rfl
 |some o=>show(by have:=l a o e;rw[s.new a h g]at this;cases this),s.ui⟩
section
variable {P: Program}{w: World}{K: W.Frag}{mg: Str→Option Value}{am: Heap}
def B3{x:Str}{f:Addr}{N:List Str}(F:cJ K x qual st f fd)(S:Aq N ps (Ac st))(len:∀ts Γ Z Y,sp ts Γ Z Y→ts.length=ps.length)
  (nW:∀(cb:Value) (A:Around) (outer:List Env) (s:Shared) (H:A4) (E:BD) (ts:List T) (Γ:AJ) (Z:DH) (Y:Value→AJ→Prop),dE k (A.deeper (envOfC qual (Ac st) s.heap.objs.size f cb))→sp ts Γ Z Y→
   ∃t,mv (Iu Am P w K mg am N qual (Ac st) f cb A outer s H E).i0 (FU st) (C6 Bv t)∧t CD {nx:=λ_ Γ'=>EP Z .non Γ',rt:=EP Z} (Ap N ts) Γ):bc P w K mg am Am (k+1) f fd ps (Ak sp):=by
 show F.ok S (λvs H Q E q0=>by let⟨ts,Γ,Z,Y,r,_,h,_⟩:=q0;rw[r.length];show len _ _ _ _ h) λcb A outer s H vs Q E hr ξ=>Ξ45 ξ λts Γ Z Y r h ya vr xr=>?_;let⟨t,ht,hq⟩:=nW cb A outer s H E ts Γ Z Y hr ya;show⟨_,ht,Ap N ts,Γ,CD,_,TG N r (by rw[len _ _ _ _ ya];show aF S),h,hq,⟨λσ τ H' Γ' s' h' _ ξ=>Ξ12 ξ λΓ2 l z=>vr .non .non H' Γ2 (s'.cut l) (h'.le l) L5 z,λv x H' Γ' s' h' rv ξ=>Ξ12 ξ λΓ2 l z=>vr v x H' Γ2 (s'.cut l) (h'.le l) rv z,λ_ _ _ _ _ _ _ z=>z.elim,λ_ _ _ _ _ _ _ z=>z.elim⟩,Eb⟩
def RL{x:Str}{f:Addr}{N:List Str}(F:cJ K x qual st f fd)(S:Aq N ps (Ac st))(len:∀ts Γ Z Y,sp ts Γ Z Y→ts.length=ps.length)
  (nW:∀(cb:Value) (A:Around) (outer:List Env) (s:Shared) (H:A4) (E:BD) (ts:List T) (Γ:AJ) (Z:DH) (Y:Value→AJ→Prop),dE k (A.deeper (envOfC qual (Ac st) s.heap.objs.size f cb))→sp ts Γ Z Y→
   ∃t,mv (Hk P w K mg am N qual (Ac st) f cb A outer s H E) (FU st) (C6 (λ_=>E) t)∧t (λ_ C Γ'=>∃Γ2,Le Γ2 Γ'∧Y C Γ2) {nx:=λ_ Γ'=>EP Z .non Γ',rt:=EP Z} (Ap N ts) Γ):bc P w K mg am (EU P w) (k+1) f fd ps (Ak sp):=by
 show F.okX S (λvs H Q E q0=>by let⟨ts,Γ,Z,Y,r,_,h,_⟩:=q0;rw[r.length];show len _ _ _ _ h) λcb A outer s H vs Q E hr ξ=>Ξ45 ξ λts Γ Z Y r h ya vr xr=>?_;let⟨t,ht,hq⟩:=nW cb A outer s H E ts Γ Z Y hr ya;show⟨_,ht,Ap N ts,Γ,_,_,TG N r (by rw[len _ _ _ _ ya];show aF S),h,hq,⟨λσ τ H' Γ' s' h' _ ξ=>Ξ12 ξ λΓ2 l z=>vr .non .non H' Γ2 (s'.cut l) (h'.le l) L5 z,λv x H' Γ' s' h' rv ξ=>Ξ12 ξ λΓ2 l z=>vr v x H' Γ2 (s'.cut l) (h'.le l) rv z,λ_ _ _ _ _ _ _ z=>z.elim,λ_ _ _ _ _ _ _ z=>z.elim⟩,λσ τ C H' Γ' s' h' _ ξ=>Ξ12 ξ λΓ2 l y=>xr C H' Γ2 (s'.cut l) (h'.le l) y⟩
def NH{f:Addr}{CX:Gl}(no:∀ts Γ Z Y,¬sp ts Γ Z Y):bc P w K mg am CX k f fd ps (Ak sp):=
 ⟨λvs H Q E ξ=>Ξ44 ξ λts Γ Z Y _ _ h _=>absurd h (no _ _ _ _),λA outer s H args us vs Q E _ _ _ _ ξ=>Ξ44 ξ λts Γ Z Y _ _ h _=>absurd h (no _ _ _ _)⟩
end
def SD{α:Type}{t:α}{ts:List α}:CG (t::ts) 0=some t:=by show CG (t::ts) ((0:Nat):Int)=some t;show FA rfl
def Ss{α:Type}{t u:α}{ts:List α}:CG (t::u::ts) 1=some u:=by show CG (t::u::ts) ((1:Nat):Int)=some u;show FA rfl
section
variable {Γ: AJ}{D: Km}{B: Bool→AJ→Prop}
def fL(h:τ[i]?=some (some x))(z:Z x Γ):Vb i Y τ Γ Z:=⟨x,h,z⟩
def iQ(z:Z x Γ):JI x Y τ Γ Z:=z
def ZP{r:EH}{a b:AK}(h:a Y τ Γ λx Γ1=>b Y τ Γ1 λy Γ2=>r x y Γ2 Z):HC r a b Y τ Γ Z:=h
def iy{t:AK}(h:t Y τ Γ λx Γ1=>∃k,x=.bl k∧B k Γ1):Kn t Y τ Γ B:=h
def gJ{Q:Bool→Prop}(h:Q b):∃k,T.bl b=.bl k∧Q k:=⟨b,rfl,h⟩
def W7{t u:BY}(h:t Y {D with nx:=u Y D} τ Γ):mO t u Y D τ Γ:=h
def kS{c:Cf}{t u:BY}(h:c Y τ Γ λb Γ1=>if b=true then t Y D τ Γ1 else u Y D τ Γ1):ZH c t u Y D τ Γ:=h
def ie(h:te Y τ Γ λx Γ1=>D.nx (τ.set i (some x)) Γ1):OO i te Y D τ Γ:=h
def XI(h:te Y τ Γ D.rt):fN te Y D τ Γ:=h
def aa(h:te Y τ Γ λ_ Γ1=>D.nx τ Γ1):dc te Y D τ Γ:=h
def br(h:D.nx τ Γ):dL Y D τ Γ:=h
def hU{a b:AK}(h:a Y τ Γ λx Γ1=>∃c,x=.bl c∧if c=true then b Y τ Γ1 Z else Z (.bl false) Γ1):jm a b Y τ Γ Z:=h
def hG{a b:AK}(h:a Y τ Γ λx Γ1=>∃c,x=.bl c∧if c=true then Z (.bl true) Γ1 else b Y τ Γ1 Z):mj a b Y τ Γ Z:=h
def bE{a:AK}(h:a Y τ Γ λx Γ1=>∃c,x=.bl c∧Z (.bl (!c)) Γ1):Zi a Y τ Γ Z:=h
def ao{a b:Cf}(h:a Y τ Γ λc Γ1=>if c=true then b Y τ Γ1 B else B false Γ1):jx a b Y τ Γ B:=h
def bw{a b:Cf}(h:a Y τ Γ λc Γ1=>if c=true then B true Γ1 else b Y τ Γ1 B):eT a b Y τ Γ B:=h
def lZ{a:Cf}(h:a Y τ Γ λc Γ1=>B (!c) Γ1):fi a Y τ Γ B:=h
def kQ(h:A [] Γ):WR Y τ Γ A:=h
def Zk(h:te Y τ Γ λx Γ1=>t Y τ Γ1 λxs Γ2=>A (x::xs) Γ2):mX te t Y τ Γ A:=h
def WZ(h:t Y τ Γ λxs Γ1=>xs.length≤sizeLine∧Z (.tup xs) Γ1):QZ t Y τ Γ Z:=h
def fK(h:t Y τ Γ λxs Γ1=>xs.length≤sizeLine∧∀p,Γ1 p=none→Z (.ref p) (AA Γ1 p (.lst xs))):iB t Y τ Γ Z:=h
def kJ{A:Prop}(h:Nat.ble n 1000=true)(a:A):n≤sizeLine∧A:=⟨Cu (Nat.le_of_ble_eq_true h) (by decide),a⟩
def gG(h:t Y τ Γ λxs Γ1=>sp xs Γ1 Z λ_ _=>False):R2 sp t Y τ Γ Z:=h
def iG(h:t Y τ Γ λxs Γ1=>sp xs Γ1 Z (Y τ)):Uu sp t Y τ Γ Z:=h
def jz{r:MG}(h:t Y τ Γ λts Γ1=>r ts Γ1 Z):Mc r t Y τ Γ Z:=h
def bT{g:Int→Int→T}{i:Int}(h:Z (g i j) Γ):JT g (.int i) (.int j) Γ Z:=Ψ2 i j ⟨rfl,rfl,h⟩
def FR{g:Int→Int→T}{i:Int}(c:C i j)(h:Z (g i j) Γ):JQ C g (.int i) (.int j) Γ Z:=Ψ2 i j ⟨rfl,rfl,c,h⟩
def kV{a b:Str}(h:Z (.bl (decide (V.str a=V.str b))) Γ):P2 (.str a) (.str b) Γ Z:=Ψ2 _ _ ⟨rfl,rfl,rfl,h⟩
def ju{a b:Int}(h:Z (.bl (decide (V.int a=V.int b))) Γ):P2 (.int a) (.int b) Γ Z:=Ψ2 _ _ ⟨rfl,rfl,rfl,h⟩
def dj{a b:Str}(h:Z (.bl (!decide (V.str a=V.str b))) Γ):Qw (.str a) (.str b) Γ Z:=Ψ2 _ _ ⟨rfl,rfl,rfl,h⟩
def fH{a b:Int}(h:Z (.bl (!decide (V.int a=V.int b))) Γ):Qw (.int a) (.int b) Γ Z:=Ψ2 _ _ ⟨rfl,rfl,rfl,h⟩
def jF{i:Int}{t:T}(h:ES Γ x=some ts)(h2:CG ts i=some t)(z:Z t Γ):JB x (.int i) Γ Z:=Ψ3 ts i t ⟨h,rfl,h2,z⟩
def iL{t:T}(z:Z t Γ):JB (.tup (t::ts)) (.int 0) Γ Z:=Ψ3 _ 0 t ⟨rfl,rfl,SD,z⟩
def bq{t u:T}(z:Z u Γ):JB (.tup (t::u::ts)) (.int 1) Γ Z:=Ψ3 _ 1 u ⟨rfl,rfl,Ss,z⟩
def Vd{Tn:String}{r:Ko}(h:to Y τ Γ λx Γ1=>EA Γ1 x=some Tn∧t Y τ Γ1 λxs Γ2=>r x xs Γ2 Z):iu Tn r to t Y τ Γ Z:=h
def jo{Tn:String}{r:Ko}(h:to Y τ Γ λx Γ1=>EA Γ1 x=some Tn∧r x [] Γ1 Z):kM Tn r to Y τ Γ Z:=h
def kH(h:te Y τ Γ λx Γ1=>∃n b,EA Γ1 x=some n∧W.kitOne K (.type n) (.type Ty)=some b∧Z (.bl b) Γ1):QY K Ty te Y τ Γ Z:=h
def kF{t:AK}(h:t Y τ Γ λx Γ1=>∃k,Sv Γ1 x=some k∧B k Γ1):aK t Y τ Γ B:=h
def iD(h:te Y τ Γ λx Γ1=>g Y x τ Γ1 D.nx):QT te g Y D τ Γ:=h
def jq(h:N (τ.set i (some x)) Γ):hName i Y x τ Γ N:=h
def mm(l:Nat.beq ts.length n=true)(h:gs Y ts τ Γ N):fG n gs Y (.tup ts) τ Γ N:=⟨ts,rfl,Nat.eq_of_beq_eq_true l,h⟩
def ZX{r:List T}(h:g Y x τ Γ λτ1 Γ1=>gs Y r τ1 Γ1 N):cj g gs Y (x::r) τ Γ N:=Ψ2 x r ⟨rfl,h⟩
def eY(h:N τ Γ):jn Y [] τ Γ N:=⟨rfl,h⟩
def ar{v:T}(h:to Y τ Γ λo Γ1=>ti Y τ Γ1 λi Γ2=>∃a ts k j,o=.ref a∧i=.int k∧Γ2 a=some (.lst ts)∧G4 ts.length k=some j∧N τ (AA Γ2 a (.lst (ts.set j v)))):hSub to ti Y v τ Γ N:=h
def dR{a:AK}(h:a Y τ Γ λx Γ1=>r x Γ1 Z):kK r a Y τ Γ Z:=h
def gZ{g:Int→T}{i:Int}(h:Z (g i) Γ):kI g (.int i) Γ Z:=⟨i,rfl,h⟩
def VL{r:Of}{tl:IZ}(h:te Y τ Γ λx Γ1=>tl Y τ Γ1 λl Γ2=>th Y τ Γ2 λu Γ3=>r x l u Γ3 Z):fh r te tl th Y τ Γ Z:=h
def eL(h:Q none Γ):kL Y τ Γ Q:=h
def iE{t:AK}(h:t Y τ Γ λx Γ1=>∃i,x=.int i∧Q (some i) Γ1):W4 t Y τ Γ Q:=h
def ag{i:Int}{Q:Int→Prop}(h:Q i):∃k,T.int i=.int k∧Q k:=⟨i,rfl,h⟩
def gU{ts:AK}(h:te Y τ Γ λx Γ1=>ts Y τ Γ1 λk Γ2=>k=.int (-1)∧r x Γ2 Z):UB r te ts Y τ Γ Z:=h
def dH(h:wi Y τ Γ λts AE Γ1=>cW AE g tb Y D ts τ Γ1):gu wi g tb Y D τ Γ:=h
def mQ(h:tl Y τ Γ λx Γ1=>∃ts,x=.tup ts∧I ts DG Γ1):mP tl Y τ Γ I:=h
def ZZ{Q:List T→Prop}(h:Q ts):∃us,T.tup ts=.tup us∧Q us:=⟨ts,rfl,h⟩
def iO(h:wi Y τ Γ λts AE Γ1=>ts.length≤sizeLine∧jG AE g tc te (λys Γ2=>∀D,Γ2 D=none→Z (.ref D) (AA Γ2 D (.lst ys))) ts (G6 own cap τ) [] Γ1):Pj wi g tc te own cap Y τ Γ Z:=h
def di(h:B true Γ):W0 Y τ Γ B:=h
def cu{C:Addr}(h:t Y τ Γ λxs Γ1=>xs.length≤sizeLine∧Y τ (.ref C) Γ1):WQ C t Y D τ Γ:=h
def Z0(h:ta Y τ Γ λxs Γ1=>∃j:Int,xs=[.int j]∧-(2^62)≤j∧j<2^62∧I (EB 0 j.toNat) DG Γ1):ff ta Y τ Γ I:=h
def cL(h:ta Y τ Γ λxs Γ1=>∃ts us,xs=[.tup ts,.tup us]∧I (EZ ts us) DG Γ1):iZ ta Y τ Γ I:=h
def Zd(h:ta Y τ Γ λxs Γ1=>∃ts,xs=[.tup ts]∧I (Hb 0 ts) DG Γ1):kh ta Y τ Γ I:=h
def bM(h:tl Y τ Γ λx Γ1=>∃a ts,x=.ref a∧ES Γ1 (.ref a)=some ts∧I ts (λΓ'=>ES Γ' (.ref a)=some ts) Γ1):eo tl Y τ Γ I:=h
def fO(h:tl Y τ Γ λx Γ1=>∃z,x=.str z∧I (I0 z) DG Γ1):az tl Y τ Γ I:=h
def gA{Q:Str→Prop}(h:Q z):∃k,T.str z=.str k∧Q k:=⟨z,rfl,h⟩
def KW{A C:Prop}(h:b=true)(a:A):if b=true then A else C:=by rw[Ab h];show a
def JK{A C:Prop}(h:b=false)(a:C):if b=true then A else C:=by rw[AP (by rw[h];show Bs)];show a
def AU{A C:Prop}(h1:b=true→A)(h2:b=false→C):if b=true then A else C:=by
 cases b with
 |true=>rw[Ab rfl];show h1 rfl
 |false=>rw[AP Bs];show h2 rfl
def DD{t:BY}(h:t Y D τ Γ):fC t Y D τ Γ:=⟨D.nx,h,λ_ _ z=>z⟩
end
def ZV:∀ss:List Str,IQ (ss.map T.str)=some (ss.map V.str)
 |[]=>rfl
 |s::r=>by rw[BU,BU,IQ,ZV r];rfl
section
variable {Γ: AJ}
def cI{Q:List T→Prop}(h:Q us):∃ts,[T.tup us]=[T.tup ts]∧Q ts:=⟨us,rfl,h⟩
def ah{ws:List T}{Q:List T→List T→Prop}(h:Q us ws):∃ts vs,[T.tup us,T.tup ws]=[T.tup ts,T.tup vs]∧Q ts vs:=Ψ2 us ws ⟨rfl,h⟩
def fE{a:Str}{b:Int}(h:Z (.bl false) Γ):P2 (.str a) (.int b) Γ Z:=Ψ2 _ _ ⟨rfl,rfl,rfl,h⟩
def bB{A:Prop}(h:A):DG Γ∧A:=⟨trivial,h⟩
def QL{a b:Str}(h:decide (V.str a=V.str b)=true):a=b:=V.str.inj (Cc h)
def Rp{a b:Str}(h:decide (V.str a=V.str b)=false):a≠b:=λe=>Eu h (by rw[e])
def Ky{a b:Int}(h:decide (V.int a=V.int b)=true):a=b:=V.int.inj (Cc h)
def Wv{Q:T→List T→Prop}(h:Q (.tup us) us):∃x ts,[T.tup us]=[x]∧ES Γ x=some ts∧Q x ts:=Ψ2 (.tup us) us ⟨rfl,rfl,h⟩
end
section
variable {Γ: AJ}
def lr{r r':EH}{a b c:AK}(h:a Y τ Γ λx Γ1=>b Y τ Γ1 λy Γ2=>r x y Γ2 λz Γ3=>∃k,z=.bl k∧(if k=true then c Y τ Γ3 λw' Γ4=>r' y w' Γ4 Z else Z (.bl false) Γ3)):Oj r r' a b c Y τ Γ Z:=h
def gE{u:V}{us:List V}(h1:sc x=some u)(h2:IQ ts=some us)(h3:(EI u&&us.all EI)=true)(z:Z (.bl (if neg then !DX u us else DX u us)) Γ):K4 neg x (.tup ts) Γ Z:=by
 rw[EO]at h3;show Ψ3 u ts us ⟨h1,rfl,h2,h3.1,h3.2,z⟩
def y6{u:V}{us:List V}(g:Γ p=some (.lst ts))(h1:sc x=some u)(h2:IQ ts=some us)(h3:EI u=true)(h4:us.all EI=true)(z:Z (.bl (if neg then !DX u us else DX u us)) Γ):K4 neg x (.ref p) Γ Z:=
 ⟨u,ts,us,h1,Bx g,h2,h3,h4,z⟩
def F8{Q:T→List T→Prop}(g:Γ p=some (.lst ts))(h:Q (.ref p) ts):∃x us,[T.ref p]=[x]∧ES Γ x=some us∧Q x us:=Ψ2 (.ref p) ts ⟨rfl,Bx g,h⟩
def B0{i:Int}{t:T}(g:Γ p=some (.lst ts))(h:CG ts i=some t)(z:Z t Γ):JB (.ref p) (.int i) Γ Z:=Ψ3 ts i t ⟨Bx g,rfl,h,z⟩
def Hj{t:T}(h:ts[i]?=some t)(z:Z t Γ):JB (.tup ts) (.int (i:Nat)) Γ Z:=Ψ3 ts i t ⟨rfl,rfl,FA h,z⟩
def Qy{A:Prop}(g:Γ p=some (.lst ts))(h:A):EA Γ (.ref p)=some "list" ∧ A:=⟨by show(match Γ p with|some (.lst _)=>some "list" |some (.dK _)=>some "dict" |_=>none)=_;rw[g],h⟩
def cf{A:Prop}(h:A):EA Γ (.str z)=some "str" ∧ A:=⟨rfl,h⟩
end
section
variable {Γ: AJ}
def m7{k:Int}{j:Nat}{v:T}(g:Γ p=some (.lst ts))(h:G4 ts.length k=some j)(z:N τ (AA Γ p (.lst (ts.set j v)))):∃a us k' j',T.ref p=.ref a∧T.int k=.int k'∧Γ a=some (.lst us)∧G4 us.length k'=some j'∧N τ (AA Γ a (.lst (us.set j' v))):=Ψ4 p ts k j ⟨rfl,rfl,g,h,z⟩
end
def uC{α:Type}{P:List α→Prop}(h:∀a0,P [a0]):∀us:List α,us.length=1→P us
 |[a0],_=>h _
def kj{α:Type}{P:List α→Prop}(h:∀a0 a1,P [a0,a1]):∀us:List α,us.length=2→P us
 |[a0,a1],_=>h _ _
def Po{α:Type}{P:List α→Prop}(h:∀a0 a1 a2,P [a0,a1,a2]):∀us:List α,us.length=3→P us
 |[a0,a1,a2],_=>h _ _ _
def Tp{α:Type}{P:List α→Prop}(h:∀a0 a1 a2 a3,P [a0,a1,a2,a3]):∀us:List α,us.length=4→P us
 |[a0,a1,a2,a3],_=>h _ _ _ _
def ZE{α:Type}{P:List α→Prop}(h:∀a0 a1 a2 a3 a4,P [a0,a1,a2,a3,a4]):∀us:List α,us.length=5→P us
 |[a0,a1,a2,a3,a4],_=>h _ _ _ _ _
def Rs.getD:∀{vs:List V} {ts:List T} {j:Nat} {t:T},Rs H vs ts→ts[j]?=some t→R H (vs.getD j .non) t
 |vs,[],j,t,q,h=>by simp at h
 |vs,x::ts,j,t,q,h=>by
  let⟨w,ws,rfl,r1,r2⟩:=FZ q;cases j with
  |zero=>cases h;show r1
  |succ j=>
   show R H (ws.getD j .non) t
   show Rs.getD r2 (by simpa using h)
end L3
namespace L3
open PySem PySem.Spec L2
variable {a:Addr}{t:Ca}{e: Expr}{f:Str}{to tv te:AK}{pos:Pos}{C: Addr}{wi:I3}{g:D9}{own:List Str}{cap:List (Nat×Str)}{sp:Av}{X: Cx}{E: St→BD}{m: Str}
section
def W9{xs:List V}(hk:ef X.K a xs)(hf:xs.all EI=true):BZ X (compareOp .In) (λx y Γ Z=>∃u,sc x=some u∧EI u=true∧y=.ref a∧Z (.bl (DX u xs)) Γ):=
 ⟨_,ft,λx y v b H Γ Q Z ra rb hr q0 vr=>by
  let⟨u,e1,f1,ey,z⟩:=q0;subst ey;rw[Ik ra e1];show Ψ2 a xs ⟨BJ rb,.inr hk.sq,f1,hf,vr _ _ H Γ .refl hr D8 z⟩⟩
end
abbrev IP(f:Str)(v:T):List (Str×T)→List (Str×T)
 |[]=>[(f,v)]
 |(g,x)::r=>if g=f then(g,v)::r else(g,x)::IP f v r
section
variable {H: A4}
def Fs.len:∀{gs:List (Str×V)} {fs:List (Str×T)},Fs H gs fs→gs.length=fs.length
 |_,_,.nil=>rfl
 |_,_,.cons a b=>by rw[CF,CF,Fs.len b]
def Fs.get:∀{gs:List (Str×V)} {fs:List (Str×T)} {f:Str} {t:T},Fs H gs fs→fs.lookup f=some t→∃v,gs.lookup f=some v∧R H v t
 |_,_,f,t,.nil,h=>by cases h
 |(g,v)::gs,(g',x)::fs,f,t,.cons a b,h=>by
  let⟨e,r⟩:=a;let e:g=g':=e;subst e;rw[GZ]at h ⊢;split at h
  ·cases h;show⟨v,rfl,r⟩
  ·show Fs.get b h
def Fs.non:∀{gs:List (Str×V)} {fs:List (Str×T)} {f:Str},Fs H gs fs→fs.lookup f=none→gs.lookup f=none
 |_,_,f,.nil,h=>rfl
 |(g,v)::gs,(g',x)::fs,f,.cons a b,h=>by
  let⟨e,r⟩:=a;let e:g=g':=e;subst e;rw[GZ]at h ⊢;split at h
  ·cases h
  ·show Fs.non b h
def Fs.put{v:V}{t:T}(r:R H v t)(f:Str):∀{gs:List (Str×V)} {fs:List (Str×T)},Fs H gs fs→Fs H (EE f v gs) (IP f t fs)
 |_,_,.nil=>.cons ⟨rfl,r⟩ .nil
 |(g,w)::gs,(g',x)::fs,.cons a b=>by
  let⟨e,q⟩:=a;let e:g=g':=e;subst e;unfold EE IP;split
  ·show .cons ⟨rfl,r⟩ b
  ·show .cons ⟨rfl,q⟩ (Fs.put r f b)
end
section
abbrev WT(C:Addr)(to:AK)(f:Str):AK:=λY τ Γ Z=>to Y τ Γ λx Γ1=>∃a dx fs v,x=.ref a∧Γ1 a=some (.ins C dx fs)∧fs.lookup f=some v∧Z v Γ1
def Dy{e:Expr}(c:pK X.K C)(n:bF X.K C f)(he:PE X e (AD E to))(hb:attributeBase e f X.env (eval e X.env)=eval e X.env:=by rfl):PE X (.Attribute e f pos) (AD E (WT C to f)):=
 D6 (rV he hb) λσ H Q τ Γ Y Z rs hr t vr xr=>by
  show Ψ4 τ Γ Y _ ⟨rs,hr,t,λv x H1 Γ1 s1 h1 r1 z1=>?_,xr⟩;let⟨a,dx,fs,u,rfl,g,l,z⟩:=z1;let⟨gs,hg,q⟩:=h1 a _ g;let⟨v',l',r'⟩:=q.get l;show Ψ5 a C dx gs v' ⟨BJ r1,hg,c,n,l',vr v' u H1 Γ1 s1 h1 r' z⟩
abbrev dA(C:Addr)(to tv:AK)(f:Str):BY:=λY D τ Γ=>tv Y τ Γ λy Γ1=>to Y τ Γ1 λx Γ2=>∃a dx fs,x=.ref a∧Γ2 a=some (.ins C dx fs)∧fs.length<1000∧D.nx τ (AA Γ2 a (.ins C dx (IP f y fs)))
def acj{H:A4}{C dx:Addr}{u:HO}{gs:List (Str×V)}{fs:List (Str×T)}(h:H a=some u)(n:(∀vs:List V,u≠.tup vs)∧∀b w,u≠.frz b w)(q:Fs H gs fs):Ho (AI H a (.ins C dx gs)) a (.ins C dx fs):=⟨gs,B9,q.mono (EX h n)⟩
def ON{o value:Expr}{pos':Pos}(c:pK X.K C)(n:bF X.K C f)(ha:PE X o (AD E to))(hv:PE X value (AD E tv))(hs:swapsWith value (some (.Attribute o f pos')) pos.line X.env=pure false:=by rfl):PS X (.Assign [.Attribute o f pos'] value pos) (C6 E (dA C to tv f)):=
 FC (rA ha hv hs) λD σ H τ Γ Y Z rs hr t dr xr=>by
  show Ψ4 τ Γ Y _ ⟨rs,hr,t,λy y3 H1 Γ1 s1 h1 r1 z1=>?_,xr⟩;show Ψ4 τ Γ1 Y _ ⟨rs.mono s1.tq,h1,z1,λv x H2 Γ2 s2 h2 r2 z2=>?_,xr.mono s1⟩;let⟨a,dx,fs,rfl,g,l,z⟩:=z2;let⟨gs,hg,q⟩:=h2 a _ g;show Ψ4 a C dx gs ⟨BJ r2,hg,c,n,by rw[q.len];show l,?_⟩;let hh:=(h2 a _ g).some;let⟨u,hu,nn⟩:=hh;let st:eJ H2 Γ2 (AI H2 a (.ins C dx (EE f y gs))) (AA Γ2 a (.ins C dx (IP f y3 fs))):=eJ.set h2 g;show dr.nx _ _ _ _ ((s1.trans s2).trans st) (h2.set g (acj hu nn (Fs.put (r1.mono s2.tq) f q))) (rs.mono ((s1.trans s2).trans st).tq) z
@[reducible]def DC(P:Program)(w:World)(K:W.Frag)(mg:KK)(am:Heap)(C:Addr)(m:Str)(k:Nat)(ps:List Str)(sp:Av):Prop:=qH P w K mg am C m k ps (Ak sp)
@[reducible]def Uz(P:Program)(w:World)(K:W.Frag)(mg:KK)(am:Heap)(C:Addr)(k:Nat)(ps:List Str)(sp:Av):Prop:=rk P w K mg am C k ps (Ak sp)
abbrev jD(C:Addr)(m:Str)(sp:Av)(to:AK)(t:Ca):AK:=λY τ Γ Z=>to Y τ Γ λx Γ1=>∃a dx fs,x=.ref a∧Γ1 a=some (.ins C dx fs)∧fs.lookup m=none∧t Y τ Γ1 λxs Γ2=>sp (.ref a::xs) Γ2 Z λ_ _=>False
variable {k j: Nat}{ps: List Str}{sp: Av}{o: Expr}{es: List Expr}{to: AK}{t: Ca}{apos pos p: Pos}{pl: Sem Bool}
def EN(c:DC X.prog X.w X.K X.mg X.base C m k ps sp)(hr:dE j X.A)(hk:k≤j)(he:PE X o (AD E to))(ha:PA X (e::es) (De E t))
  (x6:starEach (e::es) X.env=(false,eval e X.env)::starEach es X.env:=by rfl) (i7:(backTo pos (starEach es X.env)).any (·.1)=false:=by rfl)
  (ht:eval (.Call (.Attribute o m apos) (e::es) [] pos) X.env=(do
   let ov ←eval o X.env
   standAt apos.atName
   let(f,first) ←holding [ov] (getMethod ov m pl)
   callWith pos f first (backTo pos (starEach (e::es) X.env)) (backToKw pos (keywordEach [] X.env))):=by rfl):PE X (.Call (.Attribute o m apos) (e::es) [] pos) (AD E (jD C m sp to t)):=by
 obtain⟨f,fd,F,c,hm,hb⟩:=c;show D6 (acW (pl:=pl) (E:=IU) he c hm F (hr.mono hk) hb .nil (λ_ _ _ _ _ _ _ z=>z.elim) ha x6 i7 ht) λσ H Q τ Γ Y Z rs hr t vr xr=>?_;show Ψ4 τ Γ Y _ ⟨rs,hr,t,λv x H1 Γ1 s1 h1 r1 z1=>?_,xr⟩;let⟨a,dx,fs,rfl,g,l,z⟩:=z1;let⟨gs,hg,q⟩:=h1 a _ g;show Ψ3 a dx gs ⟨BJ r1,hg,q.non l,?_⟩;show Ψ4 τ Γ1 Y _ ⟨rs.mono s1.tq,h1,z,λvs xs H2 Γ2 s2 h2 r2 z2=>?_,xr.mono s1⟩;show Ak sp (v::(vs++[])) H2 Q IU
 rw[BN,BJ r1];show Ψ4 (.ref a::xs) Γ2 Z _ ⟨Dn Dl r2,h2,z2,vr.mono (s1.trans s2),λ_ _ _ _ _ z=>z.elim⟩
abbrev cZ(C:Addr)(sp:Av)(t:Ca):AK:=λY τ Γ Z=>t Y τ Γ λxs Γ1=>∀x dx,Γ1 x=none→Γ1 dx=none→dx≠x→sp (.ref x::xs) (AA Γ1 x (.ins C dx [])) (λv Γ2=>v=.non∧Z (.ref x) Γ2) λ_ _=>False
def adp{x:Str}(c:Uz X.prog X.w X.K X.mg X.base C k ps sp)(hr:dE j X.A)(hk:k+1≤j)(hg:Bk X x)(hm:X.mg x=some (.ref C))(ha:PA X (e::es) (De E t))(qC:(x ==("__debug__" : Str))=false:=by decide)
  (he:starEach (e::es) X.env=(false,eval e X.env)::starEach es X.env:=by rfl) (i7:(backTo pos (starEach es X.env)).any (·.1)=false:=by rfl):PE X (.Call (.Name x p) (e::es) [] pos) (AD E (cZ C sp t)):=by
 let⟨f,fd,F,M,hb⟩:=c;show D6 (ub (E:=IU) M F (hr.mono hk) hg hm hb .nil (λ_ _ _ _ _ _ _ z=>z.elim) ha qC he i7) λσ H Q τ Γ Y Z rs hr t vr xr=>?_;show Ψ4 τ Γ Y _ ⟨rs,hr,t,λvs xs H1 Γ1 s1 h1 r1 z1=>?_,xr⟩;intro x dx hx Yt ne;rw[BN];let k1:=CO (o:=.own x) Yt;let Ye:(AI H1 dx (.own x)) x=none:=by rw[Ay (C3 ne)];show hx
 let Xv:eJ H1 Γ1 (AI H1 dx (.own x)) Γ1:=.keep k1;let Gv:HR (AI H1 dx (.own x)) Γ1:=h1.keep k1;let oC:eJ (AI H1 dx (.own x)) Γ1 (AI (AI H1 dx (.own x)) x (.ins C dx [])) (AA Γ1 x (.ins C dx [])):=.make Ye;let h2:=Gv.make (o:=.ins C dx []) (o3:=.ins C dx []) Ye ⟨[],B9,.nil⟩;show Ψ4 (.ref x::xs) _ _ _ ⟨Dn Dl (r1.mono (Xv.trans oC).tq),h2,z1 x dx (h1.free hx) (h1.free Yt) ne,λv u H3 Γ3 s3 h3 r3 z3=>?_,λ_ _ _ _ _ z=>z.elim⟩;let⟨rfl,z⟩:=z3;show⟨IX r3,vr _ _ H3 Γ3 (s1.trans ((Xv.trans oC).trans s3)) h3 Dl z⟩
end
section
abbrev aaD(AE:AJ→Prop)(g:D9)(te:AK)(C:List Str→AJ→Prop)(ts:List T)(τ:BF)(Γ:AJ):Prop:=∃P:List T→BF→List Str→AJ→Prop,P ts τ [] Γ∧(∀τ ys Γ,P [] τ ys Γ→AE Γ∧C ys Γ)∧
 ∀x r τ ys Γ,P (x::r) τ ys Γ→AE Γ∧g CD x τ Γ λτ3 Γ3=>te CD τ3 Γ3 λy Γ5=>∃k,y=.str k∧P r τ3 (ys++[k]) Γ5
abbrev N8(P:Program)(w:World)(wi:I3)(g:D9)(te:AK)(own:List Str)(cap:List (Nat×Str)):AK:=λY τ Γ Z=>wi Y τ Γ λts AE Γ1=>ts.length≤999∧
 aaD AE g te (λys Γ2=>∀D S n,lJ ys S n→Γ2 D=none→Z (.ref D) (AA Γ2 D (.ext (setAt P w D S n)))) ts (G6 own cap τ) Γ1
def rG{P:Program}{w:World}(σ:St)(H:A4)(Q:An)(q:AD E (N8 P w wi g te own cap) σ H Q):X6 P w (Dt E wi) (Ds Bv g) (AD Bv te) own cap σ H Q:=by
 let⟨τ,Γ,Y,Z,rs,hr,t,vr,xr⟩:=q;show Ψ4 τ Γ Y _ ⟨rs,hr,t,λJ ts AE H1 Γ1 s1 h1 wk⟨hz,Pv,z1,p0,pc⟩=>?_,xr⟩;intro D hD;let nl:∀φ:Heap→Prop,(∀us:List V,HO.ext φ≠.tup us)∧∀b w,HO.ext φ≠.frz b w:=λ_=>⟨λ_ z=>(nomatch z),λ_ _ z=>(nomatch z)⟩;show⟨λi m σ' S n H'=>∃τ' ys Γ',i≤ts.length∧m=ts.length-i∧ys.length≤i∧lJ ys S n∧RS H' σ' τ'∧HR H' Γ'∧H' D=some (.ext (setAt P w D S n))∧Γ' D=none∧eJ H1 Γ1 H' Γ'∧Pv (ts.drop i) τ' ys Γ',
  ⟨ts.length,G6 own cap τ,[],Γ1,EY _,rfl,Ah _,lJ.nil,(LH own (rs.mono s1.tq) cap).mono (Ce (CO hD)),h1.keep (CO hD),B9,h1.free hD,.keep (CO hD),z1⟩,?_⟩
 intro i m σ2 S n H2⟨τ2,ys,Γ2,hi,rfl,hv,on,wG,h2,d2,gD,s2,w2⟩;show⟨d2,?_⟩;by_cases dB:i<ts.length
 ·rw[drop_cons dB]at w2
  let⟨g2,w2⟩:=pc _ _ _ _ _ w2;let nn:=on.le;show .inr ⟨wk.go i H2 Γ2 s2.tq h2 g2 dB,by lia,λσ' S' n' H'=>∃τ' ys Γ',ys.length≤i+1∧lJ ys S' n'∧RS H' σ' τ'∧HR H' Γ'∧H' D=some (.ext (setAt P w D S' n'))∧Γ' D=none∧eJ H1 Γ1 H' Γ'∧Pv (ts.drop (i+1)) τ' ys Γ',
   λσ' S' n' H' ξ=>Ξ38 ξ λτ' ys Γ' a b c d e f k l=>⟨ts.length-(i+1),by lia,τ',ys,Γ',dB,rfl,a,b,c,d,e,f,k,l⟩,λx H3 yl=>?_⟩
  let⟨s3,h3,⟨x3,e3,r3⟩⟩:=wk.qI i H2 Γ2 x H3 s2.tq h2 g2 dB yl;rw[Bh dB]at e3;cases e3;show Ψ5 _ τ2 Γ2 CD _ ⟨r3,wG.mono s3.tq,h3,w2,λσ4 τ4 H4 Γ4 s4 h4 r4 z4=>?_,Eb⟩;show Ψ4 τ4 Γ4 CD _ ⟨r4,h4,z4,λy y' H6 Γ6 s6 h6 r6 z6=>?_,Eb⟩;obtain⟨k,rfl,z6⟩:=z6;have rE:=(s3.trans s4).trans s6;have d6:H6 D=some (.ext (setAt P w D S n)):=rE.ui D _ d2 gD;have g6:Γ6 D=none:=rE.new D (by rw[d2];exactλz=>nomatch z) gD;have tq:Tq H6 (AI H6 D (.ext (setAt P w D (λk'=>S k'||decide (k'=k)) (more S n k)))):=EX d6 (nl _);show⟨k,CP r6,d6,τ4,ys++[k],Γ6,by rw[BO];show LF hv,on.snoc,(r4.mono s6.tq).mono tq,h6.hide g6 d6 (nl _),B9,g6,?_,z6⟩;have s7:=s2.trans rE;show⟨s7.tq.trans tq,λa h z=>?_,s7.new,λa o h g=>?_⟩
  ·by_cases e:a=D
   ·subst e;show h hD
   ·rw[Ay e]at z;show s7.vM a h z
  ·let e:a≠D:=λe=>by subst e;rw[hD]at h;cases h
   rw[Ay e];show s7.ui a o h g
 ·let e:i=ts.length:=by lia
  subst e;rw[Ih]at w2;let w2:=p0 _ _ _ w2;show .inl ⟨wk.stop H2 Γ2 s2.tq h2 w2.1,?_⟩;let qO:=s1.trans s2;show vr (.ref D) (.ref D) H2 (AA Γ2 D (.ext (setAt P w D S n))) ⟨qO.tq,qO.vM,λa h g=>?_,qO.ui⟩ (λa o g=>?_) Dl (w2.2 D S n on gD)
  ·let e:a≠D:=λe=>by subst e;show s1.vM _ h hD
   rw[AZ e];show qO.new a h g
  ·by_cases e:a=D
   ·subst e;rw[Ae]at g;cases g;show d2
   ·rw[AZ e]at g;show h2 a o g
def fD{scope:Scope}{cl:List (Str×Addr)}{tg iter elt:Expr}(c:cT X scope cl own cap)(hc:X.calm=true)(hi:PI X tg iter (Dt E wi))
  (hg:∀C s H fp,PG (BK X (own++cap.map (·.2)) scope cl C s H fp λ_ _=>False) tg (Ds Bv g))
  (he:∀C s H fp,PE (BK X (own++cap.map (·.2)) scope cl C s H fp λ_ _=>False) elt (AD Bv te)) (hs:∀x,foldedSetIterable iter X.env x=pure x:=by intro _;rfl) :
  PE X (.SetComp elt [⟨tg,iter,[],0⟩] scope pos) (AD E (N8 X.prog X.w wi g te own cap)):=FL (w8 c hc hi hg he hs) rG
def lV:Ew X (.builtin "len") (λxs Γ Z=>∃(p:Addr) (S:Str→Bool) (n:Nat),xs=[.ref p]∧Γ p=some (.ext (setAt X.prog X.w p S n))∧Z (.int n) Γ):=
 ⟨_,yZ,λvs xs H Γ Q Z r hr q0 vr=>by
  let⟨p,S,n,e,g,z⟩:=q0;subst e;let⟨v,rfl,a⟩:=rJ r;show Ψ3 p S n ⟨by rw[BJ a],hr p _ g,vr _ _ H Γ .refl hr DZ z⟩⟩
end
section
variable {st: Expr}{te ts: AK}{p2 pos: Pos}
def qV(he:PE X e (AD E te))(hs:PE X st (AD E ts)):PE X (.Subscript e (.Slice none none (some st) p2) pos) (AD E (UB (λx Γ Z=>∃z:Str,x=.str z∧z.length≤sizeLine∧∀y:Str,y.length≤z.length→(∀c∈y.cps.toList,c∈z.cps.toList)→Z (.str y) Γ) te ts)):=
 FL (abB uh he hs) (yc λv x H Γ Q Z r hr q0 vr=>by
  let⟨w,ex,l,z⟩:=q0;subst ex;show⟨w,CP r,l,λy hy hc=>vr _ _ H Γ .refl hr Fu (z y hy hc)⟩)
end
section
variable {Y: F6}{D: Km}{τ: BF}{Γ: AJ}{Z: DH}{a dx: Addr}{fs: List (Str×T)}{f: Str}
def gj(h:to Y τ Γ λx Γ1=>∃a dx fs v,x=.ref a∧Γ1 a=some (.ins C dx fs)∧fs.lookup f=some v∧Z v Γ1):WT C to f Y τ Γ Z:=h
def bZ{Q:T→Prop}{v:T}(g:Γ a=some (.ins C dx fs))(l:fs.lookup f=some v)(z:Q v):∃a' Pa IF v',T.ref a=.ref a'∧Γ a'=some (.ins C Pa IF)∧IF.lookup f=some v'∧Q v':=Ψ4 a dx fs v ⟨rfl,g,l,z⟩
def dS(h:tv Y τ Γ λy Γ1=>to Y τ Γ1 λx Γ2=>∃a dx fs,x=.ref a∧Γ2 a=some (.ins C dx fs)∧fs.length<1000∧D.nx τ (AA Γ2 a (.ins C dx (IP f y fs)))):dA C to tv f Y D τ Γ:=h
def ZU{Q:AJ→Prop}{y:T}(g:Γ a=some (.ins C dx fs))(l:Nat.ble fs.length 900=true)(z:Q (AA Γ a (.ins C dx (IP f y fs)))):∃a' Pa IF,T.ref a=.ref a'∧Γ a'=some (.ins C Pa IF)∧IF.length<1000∧Q (AA Γ a' (.ins C Pa (IP f y IF))):=Ψ3 a dx fs ⟨rfl,g,by have:=Nat.le_of_ble_eq_true l;lia,z⟩
def mV(h:to Y τ Γ λx Γ1=>∃a dx fs,x=.ref a∧Γ1 a=some (.ins C dx fs)∧fs.lookup m=none∧t Y τ Γ1 λxs Γ2=>sp (.ref a::xs) Γ2 Z λ_ _=>False):jD C m sp to t Y τ Γ Z:=h
def ZO{Q:Addr→Prop}(g:Γ a=some (.ins C dx fs))(l:fs.lookup m=none)(z:Q a):∃a' Pa IF,T.ref a=.ref a'∧Γ a'=some (.ins C Pa IF)∧IF.lookup m=none∧Q a':=Ψ3 a dx fs ⟨rfl,g,l,z⟩
def dU(h:t Y τ Γ λxs Γ1=>∀x dx,Γ1 x=none→Γ1 dx=none→dx≠x→sp (.ref x::xs) (AA Γ1 x (.ins C dx [])) (λv Γ2=>v=.non∧Z (.ref x) Γ2) λ_ _=>False):cZ C sp t Y τ Γ Z:=h
def Lq{i j:Str}{Q:Str→Str→Prop}(l:i.length+j.length≤sizeLine)(h:Q i j):∃i' j',T.str i=.str i'∧T.str j=.str j'∧i'.length+j'.length≤sizeLine∧Q i' j':=Ψ2 i j ⟨rfl,rfl,l,h⟩
end
section
abbrev ac7:AK:=λ_ _ Γ Z=>∀p,Γ p=none→Z (.ref p) (AA Γ p (.dK []))
def yY:PE X (.Dict [] [] pos) (AD E ac7):=
 D6 ach λσ H Q τ Γ Y Z rs hr t vr xr=>by
  intro p hp;show vr _ _ _ _ (.make hp) (hr.make (o3:=.dK []) hp ⟨[],B9,.nil⟩) Dl (t p (hr.free hp))
end
end L3
namespace L3
open PySem PySem.Spec L2
open PyProof.Rows hiding St
abbrev ups:=BF→List T→AJ→(BF→List T→AJ→Prop)→Prop
end L3
namespace L3
open PySem PySem.Spec L2
open PyProof.Rows hiding St
variable {pos:Pos}{v:V}{o i:Expr}{td ty:AK}{X: Cx}{E: St→BD}
section
variable {pos p: Pos}
abbrev KT(K:W.Frag)(a:Addr)(ts:List T):Prop:=∃vs,ef K a vs∧∀H,Rs H vs ts
def abQ:Ew X (.builtin "len") (λxs Γ Z=>∃b ts,xs=[.ref b]∧KT X.K b ts∧Z (.int ts.length) Γ):=
 ⟨_,ji,λvs xs H Γ Q Z r hr q0 vr=>by
  let⟨b,ts,e,⟨ws,hk,q⟩,z⟩:=q0;subst e;let⟨v,rfl,rv⟩:=rJ r;show Ψ2 b ws ⟨by rw[BJ rv],.inr hk.sq,by rw[(q H).length];show vr _ _ H Γ .refl hr DZ z⟩⟩
def yL{K:W.Frag}(hK:X.K=K){x:Expr}{te:AK}{p p2 pos:Pos}{Tn:Str}{Ty:String}(hg:Bk X "isinstance")(hm:X.mg "isinstance" = none)(R6:Bk X Tn)(R1:X.mg Tn=none)(RO:bootBuiltins Tn=some (.type Ty))(he:PE X x (AD E te))(hn:Tn ≠ "__name__" := by decide)(Sa:(Tn ==("__debug__" : Str))=false:=by decide)
  (hs:starEach [x,.Name Tn p2] X.env=(false,eval x X.env)::starEach [.Name Tn p2] X.env:=by rfl) (vA:starEach [.Name Tn p2] X.env=[(false,eval (.Name Tn p2) X.env)]:=by rfl)
  (i7:(backTo pos (starEach [.Name Tn p2] X.env)).any (·.1)=false:=by rfl):PE X (.Call (.Name "isinstance" p) [x,.Name Tn p2] [] pos) (AD E (QY K Ty te)):=by
 subst hK;show D4 hg hm R6 R1 RO he hn Sa hs vA i7
end
abbrev D7:A7→T
 |.inl i=>.int i
 |.inr z=>.str z
def Gb{H:A4}{k:A7}(h:R H v (D7 k)):v=Au k:=by
 cases k with
 |inl i=>show Cj h
 |inr z=>show CP h
abbrev DQ(aq:List (A7×T))(k:A7):Option T:=(aq.find? λkv=>decide (kv.1=k)).map (·.2)
abbrev Dz(aq:List (A7×T))(k:A7)(v:T):List (A7×T):=
 if(aq.any λkv=>decide (kv.1=k))=true then aq.map (λkv=>if kv.1=k then(kv.1,v)else kv)else aq++[(k,v)]
section
variable {H: A4}
def Ks.len:∀{us:List (A7×V)} {aq:List (A7×T)},Ks H us aq→us.length=aq.length
 |_,_,.nil=>rfl
 |_,_,.cons a b=>by rw[CF,CF,Ks.len b]
def Ks.val:∀{us:List (A7×V)} {aq:List (A7×T)} (k:A7),Ks H us aq→(DW us k=none∧DQ aq k=none)∨∃v t,DW us k=some v∧DQ aq k=some t∧R H v t
 |_,_,k,.nil=>.inl ⟨rfl,rfl⟩
 |(k1,v)::us,(k2,t)::aq,k,.cons a b=>by
  let⟨e,r⟩:=a;let e:k1=k2:=e;subst e;by_cases h:k1=k
  ·show .inr ⟨v,t,M1 h,by simp[DQ,Et,h],r⟩
  ·rcases Ks.val k b with⟨x,y⟩|⟨v',t',x,y,r'⟩
   ·show .inl ⟨by rw[Jp h];show x,by rw[show DQ ((k1,t)::aq) k=DQ aq k by simp[DQ,Et,h]];show y⟩
   ·show .inr ⟨v',t',by rw[Jp h];show x,by rw[show DQ ((k1,t)::aq) k=DQ aq k by simp[DQ,Et,h]];show y,r'⟩
def Ks.any:∀{us:List (A7×V)} {aq:List (A7×T)} (k:A7),Ks H us aq→(us.any λkv=>decide (kv.1=k))=(aq.any λkv=>decide (kv.1=k))
 |_,_,k,.nil=>rfl
 |(k1,v)::us,(k2,t)::aq,k,.cons a b=>by
  let⟨e,r⟩:=a;let e:k1=k2:=e;subst e;rw[HG,HG,Ks.any k b]
def Ks.map:∀{us:List (A7×V)} {aq:List (A7×T)} {v:V} {t:T} (k:A7),R H v t→Ks H us aq→Ks H (us.map λkv=>if kv.1=k then(kv.1,v)else kv) (aq.map λkv=>if kv.1=k then(kv.1,t)else kv)
 |_,_,v,t,k,r,.nil=>.nil
 |(k1,v1)::us,(k2,t1)::aq,v,t,k,r,.cons a b=>by
  let⟨e,r1⟩:=a;let e:k1=k2:=e;subst e;rw[BU,BU];by_cases h:k1=k
  ·rw[Ab h,Ab h];show .cons ⟨rfl,r⟩ (Ks.map k r b)
  ·rw[AP h,AP h];show .cons ⟨rfl,r1⟩ (Ks.map k r b)
def Ks.snoc:∀{us:List (A7×V)} {aq:List (A7×T)} {v:V} {t:T} (k:A7),R H v t→Ks H us aq→Ks H (us++[(k,v)]) (aq++[(k,t)])
 |_,_,v,t,k,r,.nil=>.cons ⟨rfl,r⟩ .nil
 |_::_,_::_,v,t,k,r,.cons a b=>.cons a (Ks.snoc k r b)
def Ks.put{us:List (A7×V)}{aq:List (A7×T)}{t:T}(k:A7)(r:R H v t)(h:Ks H us aq):Ks H (putK us k v) (Dz aq k t):=by
 unfold putK Dz;rw[h.any k];split
 ·show h.map k r
 ·show h.snoc k r
end
section
def Mb(hu:X.A.units+1<cLine):BZ X (compareOp .In) (λy x Γ Z=>∃a aq k,x=.ref a∧y=D7 k∧Γ a=some (.dK aq)∧Z (.bl (DQ aq k).isSome) Γ):=
 ⟨_,aa8 hu,λy x v b H Γ Q Z ra rb hr q0 vr=>by
  let⟨a,aq,k,ex,ey,g,z⟩:=q0;subst ex ey;let⟨us,hu,q⟩:=hr a _ g;rw[Gb ra];show Ψ2 a _ ⟨BJ rb,kz.k hu,?_⟩;let e:(DW us k).isSome=(DQ aq k).isSome:=by
   rcases q.val k with⟨x,y⟩|⟨v,t,x,y,_⟩<;>rw[x,y]<;>rfl
  rw[e];show vr _ _ H Γ .refl hr D8 z⟩
def eZ(hu:X.A.units+1<cLine):BZ X (compareOp .NotIn) (λy x Γ Z=>∃a aq k,x=.ref a∧y=D7 k∧Γ a=some (.dK aq)∧Z (.bl (!(DQ aq k).isSome)) Γ):=
 ⟨_,ads hu,λy x v b H Γ Q Z ra rb hr q0 vr=>by
  let⟨a,aq,k,ex,ey,g,z⟩:=q0;subst ex ey;let⟨us,hu,q⟩:=hr a _ g;rw[Gb ra];show Ψ2 a _ ⟨BJ rb,kz.k hu,?_⟩;let e:(DW us k).isSome=(DQ aq k).isSome:=by
   rcases q.val k with⟨x,y⟩|⟨v,t,x,y,_⟩<;>rw[x,y]<;>rfl
  rw[e];show vr _ _ H Γ .refl hr D8 z⟩
abbrev HH(td ty:AK):AK:=λY τ Γ Z=>td Y τ Γ λx Γ1=>ty Y τ Γ1 λy Γ2=>∃a aq k v,x=.ref a∧y=D7 k∧Γ2 a=some (.dK aq)∧DQ aq k=some v∧Z v Γ2
def Fh(hu:X.A.units+1<cLine)(ho:PE X o (AD E td))(hi:PE X i (AD E ty))(hs:Jm i:=by exactλ_ _=>rfl):PE X (.Subscript o i pos) (AD E (HH td ty)):=
 D6 (yz hu ho hi hs) λσ H Q τ Γ Y Z rs hr t vr xr=>by
  show Ψ4 τ Γ Y _ ⟨rs,hr,t,λv x H1 Γ1 s1 h1 r1 z1=>?_,xr⟩;show Ψ4 τ Γ1 Y _ ⟨rs.mono s1.tq,h1,z1,λw y H2 Γ2 s2 h2 r2 z2=>?_,xr.mono s1⟩;let⟨a,aq,k,u,rfl,rfl,g,l,z⟩:=z2;let⟨us,hu,q⟩:=h2 a _ g;rcases q.val k with⟨_,y⟩|⟨v',t',x',y',r'⟩
  ·rw[l]at y;cases y
  rw[l]at y';cases y';show Ψ2 a v' ⟨BJ r1,?_,vr v' u H2 Γ2 (s1.trans s2) h2 r' z⟩;rw[Gb r2,←x'];show kz.k hu
abbrev MW(td ty tv:AK):BY:=λY D τ Γ=>tv Y τ Γ λv Γ1=>td Y τ Γ1 λx Γ2=>ty Y τ Γ2 λy Γ3=>∃a aq k,x=.ref a∧y=D7 k∧Γ3 a=some (.dK aq)∧aq.length<sizeLine∧D.nx τ (AA Γ3 a (.dK (Dz aq k v)))
def OC{value:Expr}{tv:AK}{pos':Pos}(hu:X.A.units+1<cLine)(ho:PE X o (AD E td))(hi:PE X i (AD E ty))(hv:PE X value (AD E tv))(hs:swapsWith value (some (.Subscript o i pos')) pos.line X.env=pure false:=by rfl):PS X (.Assign [.Subscript o i pos'] value pos) (C6 E (MW td ty tv)):=
 FC (Y0 hu ho hi hv hs) λD σ H τ Γ Y Z rs hr t dr xr=>by
  show Ψ4 τ Γ Y _ ⟨rs,hr,t,λv v3 H1 Γ1 s1 h1 r1 z1=>?_,xr⟩;show Ψ4 τ Γ1 Y _ ⟨rs.mono s1.tq,h1,z1,λx x3 H2 Γ2 s2 h2 r2 z2=>?_,xr.mono s1⟩;show Ψ4 τ Γ2 Y _ ⟨rs.mono (s1.trans s2).tq,h2,z2,λy y3 H3 Γ3 s3 h3 r3 z3=>?_,xr.mono (s1.trans s2)⟩;let⟨a,aq,k,rfl,rfl,g,l,z⟩:=z3;let⟨us,hu,q⟩:=h3 a _ g;let QO:=(s1.trans s2).trans s3;let st:eJ H3 Γ3 (AI H3 a (.dK (putK us k v))) (AA Γ3 a (.dK (Dz aq k v3))):=eJ.set h3 g;show Ψ2 a _ ⟨BJ r2,by rw[Gb r3];show xU.k hu (by rw[q.len];show l),?_⟩;let tq:Tq H3 (AI H3 a (.dK (putK us k v))):=EX hu ⟨λ_ z=>(nomatch z),λ_ _ z=>(nomatch z)⟩;show dr.nx _ _ _ _ (QO.trans st) (h3.set g ⟨_,B9,(q.put k (r1.mono (s2.trans s3).tq)).mono tq⟩) (rs.mono (QO.trans st).tq) z
end
end L3
namespace L3
open PySem PySem.Spec L2
variable {oc Au doc pm cb ct:Value}{od an:Option Addr}{BS:Array (Option Value)}{wi:I3}{g:D9}{tk tv:AK}{own:List Str}{cap:List (Nat×Str)}{X: Cx}
section
variable {P: Program}{w: World}{K: W.Frag}{mg: Str→Option Value}{am h: Heap}{x q: Str}{st: Stmt}{f: Addr}{fd: FuncData}{ps: List Str}{n: Nat}{sp: Dq}
structure Dg(K:W.Frag)(x:Str)(st:Stmt)(f:Addr)(fd:FuncData):Prop where
 a:W.nsIn K mainGlobals x=some (some (.ref f))
 F:cJ K x x st f fd
def dg(a:W.nsIn K mainGlobals x=some (some (.ref f)))(l:K.lookup f=some ⟨oc,od,.func (W.fnOf x x (Hl st) (FU st) (Ac st) .none Au doc pm an cb ct),BS⟩)(c:W.codeIn K cb x=true)(k:W.keepIn K (.ref f)=true):Dg K x st f (W.fnOf x x (Hl st) (FU st) (Ac st) .none Au doc pm an cb ct):=⟨a,lU l c k⟩
structure Df(K:W.Frag)(mg:KK)(x:Str)(st:Stmt)(ps:List Str)(f:Addr)(fd:FuncData):Prop where
 F:cJ K x x st f fd
 m:mg x=some (.ref f)
 k:W.keepIn K (.ref f)=true
 b:Binds K fd ps []
def Dg.df(d:Dg K x st f fd)(X:K.In h)(G:h.Ns mainGlobals mg)(hb:∀(Au doc pm:Value) (an:Option Addr) (cb ct:Value) (us:List Value),us.length=ps.length→bindArgs (W.fnOf x x (Hl st) (FU st) (Ac st) .none Au doc pm an cb ct) ⟨us,[]⟩=pure (ps.zip us)):Df K mg x st ps f fd:=⟨d.F,Dk X G d.a,d.F.kp,d.F.binds hb⟩
def Df.cl(d:Df K mg x st ps f fd)(o:bc P w K mg am Am n f fd ps sp):Callee P w K mg am x n ps sp:=Ψ2 f fd ⟨o,d.m,d.k,d.b⟩
def Df.cx(d:Df K mg x st ps f fd)(o:bc P w K mg am (EU P w) n f fd ps sp):Sj P w K mg am x n ps sp:=Ψ2 f fd ⟨o,d.m,d.k,d.b⟩
abbrev Zs(K:W.Frag):List Str→Prop
 |[]=>True
 |x::l=>W.nsIn K mainGlobals x=some none∧Zs K l
abbrev X5(mg:KK):List Str→Prop
 |[]=>True
 |x::l=>mg x=none∧X5 mg l
def Zs.m(X:K.In h)(G:h.Ns mainGlobals mg):∀{l:List Str},Zs K l→X5 mg l
 |[],_=>trivial
 |_::_,⟨a,b⟩=>⟨W.mg_none_of X G a,Zs.m X G b⟩
def zc{x:Str}{l:List Str}(a:W.nsIn K mainGlobals x=some none)(b:Zs K l):Zs K (x::l):=⟨a,b⟩
structure Kj(K:W.Frag)(c:Addr)(m q:Str)(st:Stmt)(f:Addr)(fd:FuncData):Prop where
 t:Meth K c m f
 F:cJ K m q st f fd
def dm{c:Addr}{m:Str}(a:W.findIn K (.ref c) m=some (some (.ref f)))(l:K.lookup f=some ⟨oc,od,.func (W.fnOf m q (Hl st) (FU st) (Ac st) .none Au doc pm an cb ct),BS⟩)(cd:W.codeIn K cb q=true)(k:W.keepIn K (.ref f)=true)(i:W.isFn K (.ref f)=true):Kj K c m q st f (W.fnOf m q (Hl st) (FU st) (Ac st) .none Au doc pm an cb ct):=⟨⟨a,i,k⟩,lU l cd k⟩
end
section
def yJ:BZ X (binaryOp .Add) (λx y Γ Z=>∃a b ts us,x=.scr X.K a ts∧y=.ref b∧Γ b=some (.lst us)∧ts.length+us.length≤sizeLine∧∀p,Γ p=none→Z (.ref p) (AA Γ p (.lst (ts++us)))):=
 ⟨_,tM,λx y v w H Γ Q Z ra rb hr q0 vr=>by
  let⟨a,b,ts,us,ea,eb,g,l,z⟩:=q0;subst ea eb;let⟨rfl,⟨vs,sq,q⟩⟩:=Qt ra;let⟨By,Cw,q'⟩:=hr b _ g;show Ψ4 a b vs By ⟨rfl,BJ rb,sq.sq,lI.of Cw,by rw[q.length,q'.length];show l,λc hc=>?_⟩;let k:=CO (o:=.lst (vs++By)) hc;show vr _ _ _ _ (.make hc) (hr.make (o3:=.lst (ts++us)) hc ⟨_,B9,Rs.app (q.mono (Ce k)) (q'.mono (Ce k))⟩) Dl (z c (hr.free hc))⟩
end
section
variable {E: St→BD}{pos: Pos}
abbrev acC(AE:AJ→Prop)(g:D9)(tk tv:AK)(C:List (A7×T)→AJ→Prop)(ts:List T)(τ:BF)(Γ:AJ):Prop:=∃P:List T→BF→List (A7×T)→AJ→Prop,P ts τ [] Γ∧(∀τ ys Γ,P [] τ ys Γ→AE Γ∧C ys Γ)∧
 ∀x r τ ys Γ,P (x::r) τ ys Γ→AE Γ∧g CD x τ Γ λτ3 Γ3=>tk CD τ3 Γ3 λy Γ4=>tv CD τ3 Γ4 λz Γ5=>∃k,y=D7 k∧P r τ3 (Dz ys k z) Γ5
abbrev Ph(wi:I3)(g:D9)(tk tv:AK)(own:List Str)(cap:List (Nat×Str)):AK:=λY τ Γ Z=>wi Y τ Γ λts AE Γ1=>ts.length<sizeLine∧
 acC AE g tk tv (λys Γ2=>∀D,Γ2 D=none→Z (.ref D) (AA Γ2 D (.dK ys))) ts (G6 own cap τ) Γ1
def US(ys:List (A7×T))(k:A7)(z:T):(Dz ys k z).length≤ys.length+1:=by
 unfold Dz;split
 ·rw[AM];show BR _
 ·rw[BO];show Ah _
def pP(σ:St)(H:A4)(Q:An)(q:AD E (Ph wi g tk tv own cap) σ H Q):ax (Dt E wi) (Ds Bv g) (AD Bv tk) (AD Bv tv) own cap σ H Q:=by
 let⟨τ,Γ,Y,Z,rs,hr,t,vr,xr⟩:=q;show Ψ4 τ Γ Y _ ⟨rs,hr,t,λJ ts AE H1 Γ1 s1 h1 wk⟨hz,Pv,z1,p0,pc⟩=>?_,xr⟩;intro D hD;let nl:∀aq:List (A7×V),(∀us:List V,HO.dK aq≠.tup us)∧∀b w,HO.dK aq≠.frz b w:=λ_=>⟨λ_ z=>(nomatch z),λ_ _ z=>(nomatch z)⟩;show⟨λi m σ' aq H'=>∃τ' ys Γ',i≤ts.length∧m=ts.length-i∧ys.length≤i∧RS H' σ' τ'∧HR H' Γ'∧H' D=some (.dK aq)∧Γ' D=none∧Ks H' aq ys∧eJ H1 Γ1 H' Γ'∧Pv (ts.drop i) τ' ys Γ',
  ⟨ts.length,G6 own cap τ,[],Γ1,EY _,rfl,Ah _,(LH own (rs.mono s1.tq) cap).mono (Ce (CO hD)),h1.keep (CO hD),B9,h1.free hD,.nil,.keep (CO hD),z1⟩,?_⟩
 intro i m σ2 aq H2⟨τ2,ys,Γ2,hi,rfl,hv,wG,h2,d2,gD,ry,s2,w2⟩;show⟨d2,?_⟩;by_cases dB:i<ts.length
 ·rw[drop_cons dB]at w2
  let⟨g2,w2⟩:=pc _ _ _ _ _ w2;let nn:=ry.len;show .inr ⟨wk.go i H2 Γ2 s2.tq h2 g2 dB,by lia,λσ' mZ H'=>∃τ' ys Γ',ys.length≤i+1∧RS H' σ' τ'∧HR H' Γ'∧H' D=some (.dK mZ)∧Γ' D=none∧Ks H' mZ ys∧eJ H1 Γ1 H' Γ'∧Pv (ts.drop (i+1)) τ' ys Γ',
   λσ' mZ H' ξ=>Ξ38 ξ λτ' ys Γ' a b c d e f k l=>⟨ts.length-(i+1),by lia,τ',ys,Γ',dB,rfl,a,b,c,d,e,f,k,l⟩,λx H3 yl=>?_⟩
  let⟨s3,h3,⟨x3,e3,r3⟩⟩:=wk.qI i H2 Γ2 x H3 s2.tq h2 g2 dB yl;rw[Bh dB]at e3;cases e3;show Ψ5 _ τ2 Γ2 CD _ ⟨r3,wG.mono s3.tq,h3,w2,λσ4 τ4 H4 Γ4 s4 h4 r4 z4=>?_,Eb⟩;show Ψ4 τ4 Γ4 CD _ ⟨r4,h4,z4,λy y' H5 Γ5 s5 h5 r5 z5=>?_,Eb⟩;show Ψ4 τ4 Γ5 CD _ ⟨r4.mono s5.tq,h5,z5,λv v' H6 Γ6 s6 h6 r6 z6=>?_,Eb⟩;obtain⟨k,rfl,z6⟩:=z6;let rE:=((s3.trans s4).trans s5).trans s6;let d6:H6 D=some (.dK aq):=rE.ui D _ d2 gD;let g6:Γ6 D=none:=rE.new D (by rw[d2];exactλz=>nomatch z) gD;let tq:Tq H6 (AI H6 D (.dK (putK aq k v))):=EX d6 (nl _);show⟨k,Gb r5,d6,τ4,Dz ys k v',Γ6,Cu (US _ _ _) (LF hv),(r4.mono (s5.trans s6).tq).mono tq,h6.hide g6 d6 (nl _),B9,g6,((ry.mono rE.tq).put k r6).mono tq,?_,z6⟩;let s7:=s2.trans rE;show⟨s7.tq.trans tq,λa h z=>?_,s7.new,λa o h g=>?_⟩
  ·by_cases e:a=D
   ·subst e;show h hD
   ·rw[Ay e]at z;show s7.vM a h z
  ·let e:a≠D:=λe=>by subst e;rw[hD]at h;cases h
   rw[Ay e];show s7.ui a o h g
 ·let e:i=ts.length:=by lia
  subst e;rw[Ih]at w2;let w2:=p0 _ _ _ w2;show .inl ⟨wk.stop H2 Γ2 s2.tq h2 w2.1,?_⟩;let qO:=s1.trans s2;show vr (.ref D) (.ref D) H2 (AA Γ2 D (.dK ys)) ⟨qO.tq,qO.vM,λa h g=>?_,qO.ui⟩ (λa o g=>?_) Dl (w2.2 D gD)
  ·let e:a≠D:=λe=>by subst e;show s1.vM _ h hD
   rw[AZ e];show qO.new a h g
  ·by_cases e:a=D
   ·subst e;rw[Ae]at g;cases g;show⟨_,d2,ry⟩
   ·rw[AZ e]at g;show h2 a o g
def Vj{scope:Scope}{cl:List (Str×Addr)}{tg iter kx CK:Expr}(c:cT X scope cl own cap)(hc:X.calm=true)(hi:PI X tg iter (Dt E wi))
  (hg:∀C s H fp,PG (BK X (own++cap.map (·.2)) scope cl C s H fp λ_ _=>False) tg (Ds Bv g))
  (hk:∀C s H fp,PE (BK X (own++cap.map (·.2)) scope cl C s H fp λ_ _=>False) kx (AD Bv tk))
  (hv:∀C s H fp,PE (BK X (own++cap.map (·.2)) scope cl C s H fp λ_ _=>False) CK (AD Bv tv)) (hs:∀x,foldedSetIterable iter X.env x=pure x:=by intro _;rfl) :
  PE X (.DictComp kx CK [⟨tg,iter,[],0⟩] scope pos) (AD E (Ph wi g tk tv own cap)):=FL (xx c hc hi hg hk hv hs) pP
end
end L3
namespace L3
open PySem PySem.Spec L2
open PyProof.Rows hiding St
variable {t u:T}{d:Nat}{e o:Expr}{H:A4}{ts us:List T}{td ty:AK}{pos:Pos}{X: Cx}
inductive Dp:Nat→T→Prop
 |int {d:Nat} (i:Int):Dp d (.int i)
 |str {d:Nat} (z:Str):Dp d (.str z)
 |tup {d:Nat} {ts:List T} (q:∀t∈ts,Dp d t):Dp (d+1) (.tup ts)
noncomputable def Bj(t u:T):Bool:=@decide (t=u) (Classical.propDecidable _)
def oa:Bj t u=true↔t=u:=by unfold Bj;show @decide_eq_true_iff _ (Classical.propDecidable _)
def F3{b:Bool}(h:b=true↔t=u):Bj t u=b:=by
 cases b with
 |true=>show oa.mpr (h.mp rfl)
 |false=>
  cases e:Bj t u with
  |false=>rfl
  |true=>show(h.mpr (oa.mp e)).symm
def Dp.mono{e:Nat}(h:d≤e)(p:Dp d t):Dp e t:=by
 induction p generalizing e with
 |int i=>show .int i
 |str z=>show .str z
 |@tup d ts q ih=>
  obtain⟨e',rfl⟩:∃e',e=e'+1:=⟨e-1,by lia⟩;show .tup λt ht=>ih t ht (by lia)
def aac:∀{d:Nat} {t:T},Dp d t→∀{d':Nat} {t':T} {v:V},Dp d' t'→R H v t→R H v t'→t=t':=by
 intro d t h;induction h with
 |int i=>
  intro d' t' v h' r r';let e:=Cj r;subst e;cases h' with
  |int j=>show DV _ (V.int.inj (Cj r'))
  |str z=>cases CP r'
  |tup q=>let⟨_,_,e,_⟩:=CT r';cases e
 |str z=>
  intro d' t' v h' r r';let e:=CP r;subst e;cases h' with
  |int j=>cases Cj r'
  |str z=>show DV _ (V.str.inj (CP r'))
  |tup q=>let⟨_,_,e,_⟩:=CT r';cases e
 |@tup d ts q ih=>
  intro d' t' v h' r r';let⟨p,vs,rfl,hp,rr⟩:=CT r;cases h' with
  |int j=>cases Cj r'
  |str z=>cases CP r'
  |@tup _ us q'=>
   let⟨p2,vs2,e,vB,Xz⟩:=CT r';cases e;rw[hp]at vB;cases vB;let l1:=rr.length;let l2:=Xz.length;congr 1
   show List.ext_getElem (by lia) λj h1 h2=>?_;show ih _ (G3 h1) (q' _ (G3 h2)) (rr.getD (Bh h1)) (Xz.getD (Bh h2))
section
def sU:((List.range (min ts.length us.length)).all (λj=>Bj (ts.getD j .non) (us.getD j .non))&&ts.length==us.length)=true↔ts=us:=by
 rw[EO,aa2,ab4];constructor
 ·intro⟨h,l⟩
  show List.ext_getElem l λj h1 h2=>?_;have:=oa.mp (h j (abM.mpr (by lia)));rwa[Hn,Hn,Bh h1,Bh h2]at this
 ·rintro rfl
  show⟨λj _=>oa.mpr rfl,rfl⟩
def W5{v0:ac}{s:Shared}{σ:L2.St}(I:L2.Inv X v0 σ H s):∀{d:Nat} {t:T},Dp d t→∀{d':Nat} {t':T},Dp d' t'→∀{A:Around} {v v':V} {u u':Value},A.units+d<cLine→R H v t→R H v' t'→RelV v u→RelV v' u'→SeqAt.EqAt A s u u' (Bj t t'):=by
 intro d t h;induction h with
 |@int d i=>
  intro d' t' h' A v v' u u' hu r r' x x';rw[Cj r]at x;cases h' with
  |int j=>
   rw[Cj r']at x';have:=Lj (A:=A) (s:=s) x x' rfl rfl;rwa[show ER (.int i) (.int j)=Bj (.int i) (.int j)from(F3 (by simp[ER])).symm]at this
  |str z=>
   rw[CP r']at x';have:=Lj (A:=A) (s:=s) x x' rfl rfl;rwa[show ER (.int i) (.str z)=Bj (.int i) (.str z)from(F3 (by simp[ER])).symm]at this
  |@tup _ us q'=>
   let⟨p',By,rfl,oZ,Gj⟩:=CT r';cases x';let⟨ku,yG,we,T1⟩:=I.tuple (dG.of (K:=X.K) oZ);let⟨t0,rfl⟩:=x;rw[show Bj (.int i) (.tup us)=false from F3 (by simp)];show SeqAt.EqAt.int_tuple _ _ we (by lia)
 |@str d z=>
  intro d' t' h' A v v' u u' hu r r' x x';rw[CP r]at x;cases h' with
  |int j=>
   rw[Cj r']at x';have:=Lj (A:=A) (s:=s) x x' rfl rfl;rwa[show ER (.str z) (.int j)=Bj (.str z) (.int j)from(F3 (by simp[ER])).symm]at this
  |str z2=>
   rw[CP r']at x';have:=Lj (A:=A) (s:=s) x x' rfl rfl;rwa[show ER (.str z) (.str z2)=Bj (.str z) (.str z2)from(F3 (by simp[ER])).symm]at this
  |@tup _ us q'=>
   let⟨p',By,rfl,oZ,Gj⟩:=CT r';cases x';let⟨ku,yG,we,T1⟩:=I.tuple (dG.of (K:=X.K) oZ);let⟨t0,rfl⟩:=x;rw[show Bj (.str z) (.tup us)=false from F3 (by simp)];show SeqAt.EqAt.str_tuple _ _ we (by lia)
 |@tup d ts q ih=>
  intro d' t' h' A v v' u u' hu r r' x x';let r0:=r;let r0':=r';let⟨p,vs,rfl,hp,rr⟩:=CT r;cases x;let⟨bf,rv,pl,hz⟩:=I.tuple (dG.of (K:=X.K) hp);cases h' with
  |int j=>
   rw[Cj r']at x';let⟨t0,rfl⟩:=x';rw[show Bj (.tup ts) (.int j)=false from F3 (by simp)];show SeqAt.EqAt.tuple_int _ _ pl (by lia)
  |str z=>
   rw[CP r']at x';let⟨t0,rfl⟩:=x';rw[show Bj (.tup ts) (.str z)=false from F3 (by simp)];show SeqAt.EqAt.tuple_str _ _ pl (by lia)
  |@tup d2 us q'=>
   let⟨p',By,rfl,oZ,Gj⟩:=CT r';cases x';by_cases e:p=p'
   ·subst e
    rw[aac (.tup q) (.tup q') r0 r0',show Bj (.tup us) (.tup us)=true from oa.mpr rfl];show SeqAt.EqAt.same _
   ·let⟨ku,yG,we,T1⟩:=I.tuple (dG.of (K:=X.K) oZ)
    let l1:=rr.length;let l2:=Gj.length;let l3:=rv.length;let l4:=yG.length;have:=SeqAt.RcAt.tuples (A:=A) (e:=λj=>Bj (ts.getD j .non) (us.getD j .non)) pl we (by lia) (λj h1 h2=>?_)
    ·show SeqAt.EqAt.of_refs e ?_
     rw[BW,BW,←l3,←l4,l1,l2]at this;rwa[show Bj (.tup ts) (.tup us)=((List.range (min ts.length us.length)).all (λj=>Bj (ts.getD j .non) (us.getD j .non))&&ts.length==us.length)from F3 (sU.trans ⟨λz=>by rw[z],λz=>T.tup.inj z⟩)]
    ·let Gv:j<ts.length:=by rw[BW]at h1;lia
     let KU:j<us.length:=by rw[BW]at h2;lia
     let g:ts[j]?=some ts[j]:=Bh Gv;let g':us[j]?=some us[j]:=Bh KU;have:=ih _ (G3 Gv) (q' _ (G3 KU)) (A:=A.in1) (by show A.units+1+d<cLine;lia) (rr.getD g) (Gj.getD g') (Vals.at rv (by simpa using h1)) (Vals.at yG (by simpa using h2));rwa[Hn,Hn,g,g']
def qM(hu:X.A.units+(1+d)<cLine):iS X (compareOp .NotEq) (λx y H Q=>∃ts us:List T,R H x (.tup ts)∧R H y (.tup us)∧(∀t∈ts,Dp d t)∧(∀t∈us,Dp d t)∧Q (.bl (!Bj (.tup ts) (.tup us))) H):=by
 intro v0 s σ H x y v u Q I rx ry h;let⟨ts,us,r,r',q1,q2,q⟩:=h;let⟨p,vs,rfl,hp,rr⟩:=CT r;let⟨p',By,rfl,oZ,Gj⟩:=CT r';cases rx;cases ry;let⟨bf,rv,pl,hz⟩:=I.tuple (dG.of (K:=X.K) hp);let⟨ku,yG,we,T1⟩:=I.tuple (dG.of (K:=X.K) oZ);let l1:=rr.length;let l2:=Gj.length;let l3:=rv.length;let l4:=yG.length;show SeqAt.RcNeAt.tuples (e:=λj=>Bj (ts.getD j .non) (us.getD j .non)) pl we (by lia) (λj h1 h2=>?_) _ _ _ _ ⟨.bl (!Bj (.tup ts) (.tup us)),H,I,?_,q⟩
 ·let Gv:j<ts.length:=by rw[BW]at h1;lia
  let KU:j<us.length:=by rw[BW]at h2;lia
  let g:ts[j]?=some ts[j]:=Bh Gv;let g':us[j]?=some us[j]:=Bh KU;have:=W5 I (q1 _ (G3 Gv)) (q2 _ (G3 KU)) (A:=X.A.in1) (by show X.A.units+1+d<cLine;lia) (rr.getD g) (Gj.getD g') (Vals.at rv (by simpa using h1)) (Vals.at yG (by simpa using h2));rwa[Hn,Hn,g,g']
 ·show _=Value.bool _
  congr 2
  rw[BW,BW,←l3,←l4,l1,l2];show(F3 (sU.trans ⟨λz=>by rw[z],λz=>T.tup.inj z⟩)).symm
def VM(hu:X.A.units+(1+d)<cLine):BZ X (compareOp .NotEq) (λx y Γ Z=>∃ts us:List T,x=.tup ts∧y=.tup us∧(∀t∈ts,Dp d t)∧(∀t∈us,Dp d t)∧Z (.bl (!Bj (.tup ts) (.tup us))) Γ):=
 ⟨_,qM hu,λx y a b H Γ Q Z ra rb hr q0 vr=>by
  let⟨ts,us,ea,eb,f1,f2,z⟩:=q0;subst ea eb;show Ψ2 ts us ⟨ra,rb,f1,f2,vr _ _ H Γ .refl hr D8 z⟩⟩
end
def bg:∀{p:Str} {l:List Str},risingS p l=true→(∀x∈l,¬x.cps.toList<p.cps.toList)∧l.Pairwise (λu v=>¬v.cps.toList<u.cps.toList)
 |p,[],_=>⟨λ_ h=>(nomatch h),.nil⟩
 |p,x::r,h=>by
  let h:(!ltCps x.cps.toList p.cps.toList&&risingS x r)=true:=h;rw[EO]at h;let⟨a,b⟩:=bg h.2;let h1:¬x.cps.toList<p.cps.toList:=by
   have:=h.1;rw[ltCps_eq]at this;simpa using this
  show⟨λy hy=>?_,List.pairwise_cons.mpr ⟨a,b⟩⟩;rcases aaf.mp hy with rfl|hy
  ·show h1
  ·show List.not_lt.mpr (List.le_trans (List.not_lt.mp h1) (List.not_lt.mp (a y hy)))
def vc:∀{l:List Str},sortedS l=true→l.Pairwise (λu v=>¬v.cps.toList<u.cps.toList)
 |[],_=>.nil
 |x::r,h=>by
  let⟨a,b⟩:=bg (p:=x) (l:=r) h;show List.pairwise_cons.mpr ⟨a,b⟩
def fe:∀{ss:List Str} {us:List Value},Vals (ss.map V.str) us→StrsAre us ss
 |[],_,.nil=>.nil
 |x::r,_,.cons ra h=>by
  let⟨t,rfl⟩:=ra;show .cons x t (fe h)
def eO:∀{us:List Value} {ss:List Str},StrsAre us ss→Vals (ss.map V.str) us
 |_,_,.nil=>.nil
 |_,_,.cons y t h=>.cons ⟨t,rfl⟩ (eO h)
section
def oh:Eg X (.builtin "sorted") (λxs H Q=>∃(p:Addr) (zs:List Str),xs=[.ref p]∧H p=some (.lst (zs.map V.str))∧zs.length<64∧∀(ms:List Str) (l:Addr),ms.Perm zs→ms.Pairwise (λu v=>¬v.cps.toList<u.cps.toList)→H l=none→Q (.ref l) (AI H l (.lst (ms.map V.str)))):=by
 intro v0 s σ H xs us Q I r h;let⟨p,zs,rfl,hp,YB,q⟩:=h;let⟨u,rfl,rx⟩:=vals1 r;cases rx;let⟨bf,rv,pl,hz⟩:=I.list (lI.of (K:=X.K) hp);let hl:=rv.length;rw[AM]at hl hz;show sorted_strs pl.isList (fe rv) (by lia) λout Xx hs pm so=>?_;let⟨e,he⟩:=sortedAll_at s.heap bf out;let ge:s.heap.objs.size≤s.heap.objs.size+1:=BR _;let hf:H (s.heap.objs.size+1)=none:=I.bC.fresh ge;show Ψ2 (.ref _) _ ⟨I.laid (t':=s.toks) (λb o hb=>sortedAll_old hb) ge (show bj X.prog X.w _ _ _ (.lst (Xx.map V.str))from⟨by rw[AM,pm.length_eq];show hz,out.toList,e,eO hs,by rw[he]⟩),rfl,q Xx _ pm (vc so) hf⟩
def i6{H:A4}:∀(zs:List Str),Rs H (zs.map V.str) (zs.map T.str)
 |[]=>EM
 |z::r=>Dn Fu (i6 r)
def UR:Ew X (.builtin "sorted") (λxs Γ Z=>∃(p:Addr) (zs:List Str),xs=[.ref p]∧Γ p=some (.lst (zs.map T.str))∧zs.length<64∧∀(ms:List Str) (l:Addr),ms.Perm zs→ms.Pairwise (λu v=>¬v.cps.toList<u.cps.toList)→Γ l=none→Z (.ref l) (AA Γ l (.lst (ms.map T.str)))):=
 ⟨_,oh,λvs xs H Γ Q Z r hr q0 vr=>by
  let⟨p,zs,e,g,YB,z⟩:=q0;subst e;let⟨v,rfl,a⟩:=rJ r;let⟨us,hu,q⟩:=hr p _ g;rw[U1 q]at hu;show Ψ2 p zs ⟨by rw[BJ a],hu,YB,λms l pm hs hl=>vr _ _ _ _ (.make hl) (hr.make (o3:=.lst (ms.map T.str)) hl ⟨_,B9,i6 ms⟩) Dl (z ms l pm hs (hr.free hl))⟩⟩
inductive JO(d:Nat):T→T→Prop
 |int (i j:Int):JO d (.int i) (.int j)
 |str (y z:Str):JO d (.str y) (.str z)
 |tup {ts us:List T} (h:∀t∈ts,Dp d t) (h':∀t∈us,Dp d t):JO d (.tup ts) (.tup us)
def mh(hu:X.A.units+(1+d)<cLine):iS X (compareOp .Eq) (λx y H Q=>∃t t':T,R H x t∧R H y t'∧JO d t t'∧Q (.bl (Bj t t')) H):=by
 intro v0 s σ H x y v u Q I rx ry h;let⟨t,t',r,r',tw,q⟩:=h;cases tw with
 |int i j=>
  rw[Cj r]at rx;rw[Cj r']at ry;let⟨k1,rfl⟩:=rx;let⟨k2,rfl⟩:=ry;let e:Bj (.int i) (.int j)=(i==j):=F3 (by rw[ab4];show⟨DV _,T.int.inj⟩);show SeqAt.RcAt.int_int i k1 j k2 _ _ _ _ ⟨.bl (Bj (.int i) (.int j)),H,I,by rw[e];rfl,q⟩
 |str y z=>
  rw[CP r]at rx;rw[CP r']at ry;let⟨k1,rfl⟩:=rx;let⟨k2,rfl⟩:=ry;let e:Bj (.str y) (.str z)=(y==z):=F3 (by rw[ab4];show⟨DV _,T.str.inj⟩);show SeqAt.RcAt.str_str y k1 z k2 _ _ _ _ ⟨.bl (Bj (.str y) (.str z)),H,I,by rw[e];rfl,q⟩
 |@tup ts us q1 q2=>
  let⟨p,vs,rfl,hp,rr⟩:=CT r;let⟨p',By,rfl,oZ,Gj⟩:=CT r';cases rx;cases ry;let⟨bf,rv,pl,hz⟩:=I.tuple (dG.of (K:=X.K) hp);let⟨ku,yG,we,T1⟩:=I.tuple (dG.of (K:=X.K) oZ);let l1:=rr.length;let l2:=Gj.length;let l3:=rv.length;let l4:=yG.length;show SeqAt.RcAt.tuples (e:=λj=>Bj (ts.getD j .non) (us.getD j .non)) pl we (by lia) (λj h1 h2=>?_) _ _ _ _ ⟨.bl (Bj (.tup ts) (.tup us)),H,I,?_,q⟩
  ·let Gv:j<ts.length:=by rw[BW]at h1;lia
   let KU:j<us.length:=by rw[BW]at h2;lia
   let g:ts[j]?=some ts[j]:=Bh Gv;let g':us[j]?=some us[j]:=Bh KU;have:=W5 I (q1 _ (G3 Gv)) (q2 _ (G3 KU)) (A:=X.A.in1) (by show X.A.units+1+d<cLine;lia) (rr.getD g) (Gj.getD g') (Vals.at rv (by simpa using h1)) (Vals.at yG (by simpa using h2));rwa[Hn,Hn,g,g']
  ·show _=Value.bool _
   congr 1
   rw[BW,BW,←l3,←l4,l1,l2];show(F3 (sU.trans ⟨λz=>by rw[z],λz=>T.tup.inj z⟩)).symm
def aI(hu:X.A.units+(1+d)<cLine):BZ X (compareOp .Eq) (λx y Γ Z=>JO d x y∧Z (.bl (Bj x y)) Γ):=
 ⟨_,mh hu,λx y a b H Γ Q Z ra rb hr q0 vr=>Ψ2 _ _ ⟨ra,rb,q0.1,vr _ _ H Γ .refl hr D8 q0.2⟩⟩
end
section
variable {E: St→BD}
abbrev Sk(P:Program)(w:World)(K:W.Frag)(td ty:AK):AK:=λY τ Γ Z=>td Y τ Γ λx Γ1=>ty Y τ Γ1 λy Γ2=>∃a aq z b,x=.ref a∧Br P w K a aq∧y=.str z∧aq.lookup z=some b∧Z (.ref b) Γ2
def WO{i:Expr}(ho:PE X o (AD E td))(hi:PE X i (AD E ty))(hs:Jm i:=by exactλ_ _=>rfl):PE X (.Subscript o i pos) (AD E (Sk X.prog X.w X.K td ty)):=
 D6 (zW ho hi hs) λσ H Q τ Γ Y Z rs hr t vr xr=>by
  show Ψ4 τ Γ Y _ ⟨rs,hr,t,λv x H1 Γ1 s1 h1 r1 z1=>?_,xr⟩;show Ψ4 τ Γ1 Y _ ⟨rs.mono s1.tq,h1,z1,λw y H2 Γ2 s2 h2 r2 z2=>?_,xr.mono s1⟩;let⟨a,aq,z,b,rfl,kd,rfl,l,q⟩:=z2;show Ψ4 a aq z b ⟨BJ r1,kd,CP r2,l,vr _ _ H2 Γ2 (s1.trans s2) h2 Dl q⟩
abbrev XB(P:Program)(w:World)(K:W.Frag)(td ty:AK):AK:=λY τ Γ Z=>td Y τ Γ λx Γ1=>∃a aq,x=.ref a∧Br P w K a aq∧ty Y τ Γ1 λy Γ2=>∃z,y=.str z∧(∀b,aq.lookup z=some b→Z (.ref b) Γ2)∧(aq.lookup z=none→Z .non Γ2)
def oM{apos dD:Pos}(ho:PE X o (AD E td))(he:PE X e (AD E ty))(m:cQ X o "get" apos e dD):PE X (.Call (.Attribute o "get" apos) [e] [] dD) (AD E (XB X.prog X.w X.K td ty)):=
 D6 (yv ho he m) λσ H Q τ Γ Y Z rs hr t vr xr=>by
  show Ψ4 τ Γ Y _ ⟨rs,hr,t,λv x H1 Γ1 s1 h1 r1 z1=>?_,xr⟩;obtain⟨a,aq,rfl,kd,z1⟩:=z1;show Ψ2 a aq ⟨BJ r1,kd,?_⟩;show Ψ4 τ Γ1 Y _ ⟨rs.mono s1.tq,h1,z1,λw y H2 Γ2 s2 h2 r2 z2=>?_,xr.mono s1⟩;let⟨z,rfl,q1,q2⟩:=z2;show⟨z,CP r2,λb l=>vr _ _ H2 Γ2 (s1.trans s2) h2 Dl (q1 b l),λl=>vr _ _ H2 Γ2 (s1.trans s2) h2 L5 (q2 l)⟩
def kR(hu:X.A.units+1<cLine):Ic X "dict.get" (λx ts Γ Z=>∃a aq k,x=.ref a∧ts=[D7 k]∧Γ a=some (.dK aq)∧Z ((DQ aq k).getD .non) Γ):=
 ⟨_,abC hu,λv x vs ts H Γ Q Z rv r hr q0 vr=>by
  let⟨a,aq,k,rfl,rfl,g,z⟩:=q0;let⟨us,hu,q⟩:=hr a _ g;let⟨y,rfl,ry⟩:=rJ r;rw[Gb ry];show Ψ3 a _ _ ⟨BJ rv,rfl,kz.k hu,?_⟩;rcases q.val k with⟨x',y'⟩|⟨v',t',x',y',r'⟩
  ·rw[x'];rw[y']at z;show vr _ _ H Γ .refl hr L5 z
  ·rw[x'];rw[y']at z;show vr _ _ H Γ .refl hr r' z⟩
def Ja(hu:X.A.units+1<cLine):Ic X "dict.get" (λx ts Γ Z=>∃a aq k d,x=.ref a∧ts=[D7 k,d]∧Γ a=some (.dK aq)∧Z ((DQ aq k).getD d) Γ):=
 ⟨_,sL hu,λv x vs ts H Γ Q Z rv r hr q0 vr=>by
  let⟨a,aq,k,d,rfl,rfl,g,z⟩:=q0;let⟨us,hu,q⟩:=hr a _ g;let⟨y,d',rfl,ry,rd⟩:=wG r;rw[Gb ry];show Ψ4 a _ _ _ ⟨BJ rv,rfl,kz.k hu,?_⟩;rcases q.val k with⟨x',y'⟩|⟨v',t',x',y',r'⟩
  ·rw[x'];rw[y']at z;show vr _ _ H Γ .refl hr rd z
  ·rw[x'];rw[y']at z;show vr _ _ H Γ .refl hr r' z⟩
def aag:Ic X "dict.setdefault" (λx ts Γ Z=>∃a aq k d,x=.ref a∧ts=[D7 k,d]∧Γ a=some (.dK aq)∧aq.length<sizeLine∧(∀t,DQ aq k=some t→Z t Γ)∧(DQ aq k=none→Z d (AA Γ a (.dK (Dz aq k d))))):=
 ⟨_,abx,λv x vs ts H Γ Q Z rv r hr q0 vr=>by
  let⟨a,aq,k,d,rfl,rfl,g,hl,z1,z2⟩:=q0;let⟨us,hu,q⟩:=hr a _ g;let⟨y,d',rfl,ry,rd⟩:=wG r;rw[Gb ry];show Ψ4 a k d' us ⟨BJ rv,rfl,hu,by rw[q.len];show hl,λv' e=>?_,λe=>?_⟩
  ·rcases q.val k with⟨x',y'⟩|⟨v2,t',x',y',r'⟩
   ·rw[x']at e;cases e
   ·rw[x']at e;cases e;show vr _ _ H Γ .refl hr r' (z1 _ y')
  ·rcases q.val k with⟨x',y'⟩|⟨v2,t',x',y',r'⟩
   ·let tq:Tq H (AI H a (.dK (putK us k d'))):=EX hu ⟨λ_ z=>(nomatch z),λ_ _ z=>(nomatch z)⟩
    show vr _ _ _ _ (eJ.set hr g) (hr.set (o3:=.dK (Dz aq k d)) g ⟨_,B9,(q.put k rd).mono tq⟩) (rd.mono tq) (z2 y')
   ·rw[x']at e;cases e⟩
def yE:Ew X (.type "dict") (λxs Γ Z=>∃a aq,xs=[.ref a]∧Γ a=some (.dK aq)∧∀p,Γ p=none→Z (.ref p) (AA Γ p (.dK aq))):=
 ⟨_,uO,λvs xs H Γ Q Z r hr q0 vr=>by
  let⟨a,aq,e,g,z⟩:=q0;subst e;let⟨v,rfl,ra⟩:=rJ r;let⟨us,hu,q⟩:=hr a _ g;show Ψ2 a us ⟨by rw[BJ ra],hu,λp hp=>vr _ _ _ _ (.make hp) (hr.make (o3:=.dK aq) hp ⟨_,B9,q.mono (Ce (CO hp))⟩) Dl (z p (hr.free hp))⟩⟩
def KD:Ew X (.builtin "len") (λxs Γ Z=>∃a aq,xs=[.ref a]∧Γ a=some (.dK aq)∧Z (.int aq.length) Γ):=
 ⟨_,aa3,λvs xs H Γ Q Z r hr q0 vr=>by
  let⟨a,aq,e,g,z⟩:=q0;subst e;let⟨v,rfl,ra⟩:=rJ r;let⟨us,hu,q⟩:=hr a _ g;show Ψ2 a us ⟨by rw[BJ ra],hu,by rw[q.len];show vr _ _ H Γ .refl hr DZ z⟩⟩
@[reducible]def Ww(P:Program)(w:World)(K:W.Frag)(mg:KK)(am:Heap)(f:Addr)(k:Nat)(ps:List Str)(sp:Av):Prop:=ly P w K mg am f k ps (Ak sp)
abbrev dZ(P:Program)(w:World)(K:W.Frag)(mg:KK)(am:Heap)(k:Nat)(ps:List Str)(i:Nat)(t:Ca):AK:=λY τ Γ Z=>∃f sp,τ[i]?=some (some (.ref f))∧Ww P w K mg am f k ps sp∧t Y τ Γ λxs Γ1=>sp xs Γ1 Z λ_ _=>False
def qm(i:Nat)(k:Nat)(ps:List Str){x:Str}{j:Nat}{p:Pos}{es:List Expr}{t:Ca}(hr:dE j X.A)(hk:k≤j)(ha:PA X (e::es) (De E t))(hN:X.N[i]?=some x:=by rfl)(hv:JY X.env.scope x:=by first|show Or.inl rfl|show Or.inr (Or.inl rfl)|show Or.inr (Or.inr rfl))(hd:(x ==("__debug__" : Str))=false:=by decide)(xj:(x ==("__classdict__" : Str))=false:=by decide)
  (he:starEach (e::es) X.env=(false,eval e X.env)::starEach es X.env:=by rfl) (i7:(backTo pos (starEach es X.env)).any (·.1)=false:=by rfl):PE X (.Call (.Name x p) (e::es) [] pos) (AD E (dZ X.prog X.w X.K X.mg X.base k ps i t)):=
 D6 (abH (k:=k) (ps:=ps) hr hk hN hv ha hd xj he i7) λσ H Q τ Γ Y Z rs hr t vr xr=>by
  let⟨f,sp,ex,fc,q⟩:=t;let⟨v,hv,rv⟩:=rs.get ex;rw[BJ rv]at hv;show Ψ2 f _ ⟨hv,fc,τ,Γ,Y,_,rs,hr,q,λvs xs H1 Γ1 s1 h1 r1 z1=>?_,xr⟩;show Ψ4 xs Γ1 Z _ ⟨r1,h1,z1,vr.mono s1,λ_ _ _ _ _ z=>z.elim⟩
variable {p pos: Pos}
abbrev fU(K:W.Frag)(ta:Ca):I3:=λY τ Γ Z=>ta Y τ Γ λxs Γ1=>∃ts b us,xs=[.ref b,.tup us]∧KT K b ts∧Z (EZ ts us) DG Γ1
def abW{K:W.Frag}{a b:Addr}{vs ws:List V}(ha:ef K a vs)(q:∀H,Rs H vs ts)(hb:H b=some (.tup ws))(q':Rs H ws us):Walks (Np K a b) (EZ ts us) DG H where
 go:=λi H' Γ t hr _ hi=>by
  rw[JD]at hi;show Ψ4 vs ws (vs[i]'(by rw[(q H).length];lia)) (ws[i]'(by rw[q'.length];lia)) ⟨ha.sq,dG.of (t.1 b ws hb),by simp,by simp⟩
 qI:=λi H' Γ v H2 t hr _ hi q0=>by
  let⟨p,x,y,hp,e1,e2,y1,y2⟩:=q0;subst e1 e2;let⟨t1,f1,r1⟩:=(q H').zt (y1 vs ha.sq);let⟨t2,f2,r2⟩:=(q'.mono t).zt (y2 ws (dG.of (t.1 b ws hb)));let k:=CO (o:=.tup [x,y]) hp;show⟨.keep k,hr.keep k,_,Tr f1 f2,Ig B9 (Dn (r1.mono (Ce k)) (Dn (r2.mono (Ce k)) EM))⟩
 stop:=λH' Γ t hr _=>Ψ2 vs ws ⟨ha.sq,dG.of (t.1 b ws hb),by rw[JD,(q H).length,q'.length];lia⟩
def zY{a b:Expr}{ta:Ca}{elts:List Expr}{kk:Nat}{uD:Pos}(hg:Bk X "zip")(hm:X.mg "zip" = none)(ha:PA X [a,b] (De E ta))(hs:starEach [a,b] X.env=[(false,eval a X.env),(false,eval b X.env)]:=by rfl)(vA:starEach [b] X.env=[(false,eval b X.env)]:=by rfl):
  PI X (.Tuple elts kk uD) (.Call (.Name "zip" p) [a,b] [] pos) (Dt E (fU X.K ta)):=
 J2 (aQ hg hm ha hs vA) λσ H Q τ Γ Y Z rs hr t vr xr=>⟨τ,Γ,Y,_,rs,hr,t,λvs xs H1 Γ1 s1 h1 r1 ⟨ts,b,us,ex,⟨ws,hk,q⟩,z⟩=>by
  subst ex;let⟨v,w,rfl,a,b⟩:=wG r1;let⟨pa,va,rfl,ha,qa⟩:=CT b;rw[BJ a];show Ψ4 _ pa ws va ⟨rfl,hk.sq,dG.of ha,vr _ _ DG H1 Γ1 s1 h1 (abW hk q ha qa) z⟩,xr⟩
end
end L3
namespace L3
open PySem PySem.Spec L2
variable {wi:I3}{g:D9}{tt:Cf}{tk tv:AK}{own:List Str}{cap:List (Nat×Str)}
section
variable {X: Cx}{E: St→BD}{pos: Pos}
abbrev rF(AE:AJ→Prop)(g:D9)(tt:Cf)(tk tv:AK)(C:List (A7×T)→AJ→Prop)(ts:List T)(τ:BF)(Γ:AJ):Prop:=∃P:List T→BF→List (A7×T)→AJ→Prop,P ts τ [] Γ∧(∀τ ys Γ,P [] τ ys Γ→AE Γ∧C ys Γ)∧
 ∀x r τ ys Γ,P (x::r) τ ys Γ→AE Γ∧g CD x τ Γ λτ3 Γ3=>tt CD τ3 Γ3 λok Γ3=>if ok=true then tk CD τ3 Γ3 λy Γ4=>tv CD τ3 Γ4 λz Γ5=>∃k,y=D7 k∧P r τ3 (Dz ys k z) Γ5 else P r τ3 ys Γ3
abbrev SS(wi:I3)(g:D9)(tt:Cf)(tk tv:AK)(own:List Str)(cap:List (Nat×Str)):AK:=λY τ Γ Z=>wi Y τ Γ λts AE Γ1=>ts.length<sizeLine∧
 rF AE g tt tk tv (λys Γ2=>∀D,Γ2 D=none→Z (.ref D) (AA Γ2 D (.dK ys))) ts (G6 own cap τ) Γ1
def aaQ(σ:St)(H:A4)(Q:An)(q:AD E (SS wi g tt tk tv own cap) σ H Q):iF (Dt E wi) (Ds Bv g) (CL Bv tt) (AD Bv tk) (AD Bv tv) own cap σ H Q:=by
 let⟨τ,Γ,Y,Z,rs,hr,t,vr,xr⟩:=q;show Ψ4 τ Γ Y _ ⟨rs,hr,t,λJ ts AE H1 Γ1 s1 h1 wk⟨hz,Pv,z1,p0,pc⟩=>?_,xr⟩;intro D hD;let nl:∀aq:List (A7×V),(∀us:List V,HO.dK aq≠.tup us)∧∀b w,HO.dK aq≠.frz b w:=λ_=>⟨λ_ z=>(nomatch z),λ_ _ z=>(nomatch z)⟩;show⟨λi m σ' aq H'=>∃τ' ys Γ',i≤ts.length∧m=ts.length-i∧ys.length≤i∧RS H' σ' τ'∧HR H' Γ'∧H' D=some (.dK aq)∧Γ' D=none∧Ks H' aq ys∧eJ H1 Γ1 H' Γ'∧Pv (ts.drop i) τ' ys Γ',
  ⟨ts.length,G6 own cap τ,[],Γ1,EY _,rfl,Ah _,(LH own (rs.mono s1.tq) cap).mono (Ce (CO hD)),h1.keep (CO hD),B9,h1.free hD,.nil,.keep (CO hD),z1⟩,?_⟩
 intro i m σ2 aq H2⟨τ2,ys,Γ2,hi,rfl,hv,wG,h2,d2,gD,ry,s2,w2⟩;show⟨d2,?_⟩;by_cases dB:i<ts.length
 ·rw[drop_cons dB]at w2
  let⟨g2,w2⟩:=pc _ _ _ _ _ w2;let nn:=ry.len;show .inr ⟨wk.go i H2 Γ2 s2.tq h2 g2 dB,by lia,λσ' mZ H'=>∃τ' ys Γ',ys.length≤i+1∧RS H' σ' τ'∧HR H' Γ'∧H' D=some (.dK mZ)∧Γ' D=none∧Ks H' mZ ys∧eJ H1 Γ1 H' Γ'∧Pv (ts.drop (i+1)) τ' ys Γ',
   λσ' mZ H' ξ=>Ξ38 ξ λτ' ys Γ' a b c d e f k l=>⟨ts.length-(i+1),by lia,τ',ys,Γ',dB,rfl,a,b,c,d,e,f,k,l⟩,λx H3 yl=>?_⟩
  let⟨s3,h3,⟨x3,e3,r3⟩⟩:=wk.qI i H2 Γ2 x H3 s2.tq h2 g2 dB yl;rw[Bh dB]at e3;cases e3;show Ψ5 _ τ2 Γ2 CD _ ⟨r3,wG.mono s3.tq,h3,w2,λσ4 τ4 H4 Γ4 s4 h4 r4 z4=>?_,Eb⟩;show Ψ4 τ4 Γ4 CD _ ⟨r4,h4,z4,λok H4' Γ4' OQ YD Xa=>?_,Eb⟩;cases ok with
  |false=>
   let Tv:=(s3.trans s4).trans OQ;show Ψ3 τ4 ys Γ4' ⟨Es hv,r4.mono OQ.tq,YD,Tv.ui D _ d2 gD,Tv.new D (by rw[d2];exactλz=>nomatch z) gD,ry.mono Tv.tq,s2.trans Tv,Xa⟩
  |true=>
  show Ψ4 τ4 Γ4' CD _ ⟨r4.mono OQ.tq,YD,Xa,λy y' H5 Γ5 s5 h5 r5 z5=>?_,Eb⟩;show Ψ4 τ4 Γ5 CD _ ⟨(r4.mono OQ.tq).mono s5.tq,h5,z5,λv v' H6 Γ6 s6 h6 r6 z6=>?_,Eb⟩;obtain⟨k,rfl,z6⟩:=z6;let rE:=(((s3.trans s4).trans OQ).trans s5).trans s6;let d6:H6 D=some (.dK aq):=rE.ui D _ d2 gD;let g6:Γ6 D=none:=rE.new D (by rw[d2];exactλz=>nomatch z) gD;let tq:Tq H6 (AI H6 D (.dK (putK aq k v))):=EX d6 (nl _);show⟨k,Gb r5,d6,τ4,Dz ys k v',Γ6,Cu (US _ _ _) (LF hv),(r4.mono ((OQ.trans s5).trans s6).tq).mono tq,h6.hide g6 d6 (nl _),B9,g6,((ry.mono rE.tq).put k r6).mono tq,?_,z6⟩;let s7:=s2.trans rE;show⟨s7.tq.trans tq,λa h z=>?_,s7.new,λa o h g=>?_⟩
  ·by_cases e:a=D
   ·subst e;show h hD
   ·rw[Ay e]at z;show s7.vM a h z
  ·let e:a≠D:=λe=>by subst e;rw[hD]at h;cases h
   rw[Ay e];show s7.ui a o h g
 ·let e:i=ts.length:=by lia
  subst e;rw[Ih]at w2;let w2:=p0 _ _ _ w2;show .inl ⟨wk.stop H2 Γ2 s2.tq h2 w2.1,?_⟩;let qO:=s1.trans s2;show vr (.ref D) (.ref D) H2 (AA Γ2 D (.dK ys)) ⟨qO.tq,qO.vM,λa h g=>?_,qO.ui⟩ (λa o g=>?_) Dl (w2.2 D gD)
  ·let e:a≠D:=λe=>by subst e;show s1.vM _ h hD
   rw[AZ e];show qO.new a h g
  ·by_cases e:a=D
   ·subst e;rw[Ae]at g;cases g;show⟨_,d2,ry⟩
   ·rw[AZ e]at g;show h2 a o g
def adh{scope:Scope}{cl:List (Str×Addr)}{tg iter kx CK:Expr}{ifs:List Expr}(c:cT X scope cl own cap)(hc:X.calm=true)(hi:PI X tg iter (Dt E wi))
  (hg:∀C s H fp,PG (BK X (own++cap.map (·.2)) scope cl C s H fp λ_ _=>False) tg (Ds Bv g))
  (ht:∀C s H fp,wa (BK X (own++cap.map (·.2)) scope cl C s H fp λ_ _=>False) ifs (CL Bv tt))
  (hk:∀C s H fp,PE (BK X (own++cap.map (·.2)) scope cl C s H fp λ_ _=>False) kx (AD Bv tk))
  (hv:∀C s H fp,PE (BK X (own++cap.map (·.2)) scope cl C s H fp λ_ _=>False) CK (AD Bv tv)) (hs:∀x,foldedSetIterable iter X.env x=pure x:=by intro _;rfl) :
  PE X (.DictComp kx CK [⟨tg,iter,ifs,0⟩] scope pos) (AD E (SS wi g tt tk tv own cap)):=FL (acV c hc hi hg ht hk hv hs) aaQ
end
end L3
namespace L3
open PySem PySem.Spec L2
open PyProof.Rows hiding St
variable {H:A4}{wi:I3}{g:D9}{te td ty:AK}{own:List Str}{cap:List (Nat×Str)}{tg o i:Expr}{pos:Pos}{us:List (List A7×V)}{v:Value}{P:Program}{w:World}{k:A7}{x:V}{X: Cx}{E: St→BD}
def Ou{H:A4}:∀{ks:List A7} {vs:List V},Rs H vs (ks.map D7)→vs=ks.map Au
 |[],vs,h=>GR h
 |k::r,vs,h=>by
  let⟨v,ws,rfl,a,b⟩:=FZ h;rw[Gb a,Ou b];rfl
section
def mz{d:Nat}(hu:X.A.units+(1+d)<cLine):BZ X (compareOp .Eq) (λx y Γ Z=>(x=.non∧(∃us,y=.tup us)∧Z (.bl false) Γ)∨(JO d x y∧Z (.bl (Bj x y)) Γ)):=
 ⟨_,iS.or (tC (by lia)) (mh hu),λx y a b H Γ Q Z ra rb hr q0 vr=>by
  rcases q0 with⟨rfl,⟨us,rfl⟩,z⟩|⟨tw,z⟩
  ·let⟨p,vs,rfl,hp,rr⟩:=CT rb
   show .inl ⟨p,vs,IX ra,rfl,hp,vr _ _ H Γ .refl hr D8 z⟩
  ·show .inr ⟨_,_,ra,rb,tw,vr _ _ H Γ .refl hr D8 z⟩⟩
def yI{K:W.Frag}(hK:X.K=K):BZ X (compareOp .NotIn) (λx y Γ Z=>∃u a xs,sc x=some u∧EI u=true∧y=.ref a∧ef K a xs∧xs.all EI=true∧Z (.bl (!DX u xs)) Γ):=by
 subst hK;show
 ⟨_,dQ,λx y v b H Γ Q Z ra rb hr q0 vr=>by
  let⟨u,a,xs,e1,f1,ey,hk,hf,z⟩:=q0;subst ey;rw[Ik ra e1];show Ψ2 a xs ⟨BJ rb,.inr hk.sq,f1,hf,vr _ _ H Γ .refl hr D8 z⟩⟩
end
abbrev GO(Ls:List (List A7))(ks:List A7):List (List A7):=if Ls.any (λp=>decide (p=ks))=true then Ls else ks::Ls
def rQ(L:List (Addr×List A7))(b:Addr)(ks:List A7):(Ej L (b,ks)).map Prod.snd=GO (L.map Prod.snd) ks:=by
 unfold Ej GO;rw[List.any_map];show(if(L.any λp=>decide (p.2=ks))=true then L else(b,ks)::L).map Prod.snd=if(L.any λp=>decide (p.2=ks))=true then _ else _
 split
 ·rfl
 ·rfl
def ac6(L:List (Addr×List A7))(q:Addr×List A7):(Ej L q).length≤L.length+1:=by unfold Ej;split<;>simp
def zZ{L:List (Addr×List A7)}{q p:Addr×List A7}(h:p∈Ej L q):p∈L∨p=q:=by
 unfold Ej at h;split at h
 ·show .inl h
 ·rcases aaf.mp h with h|h
  ·show .inr h
  ·show .inl h
section
abbrev wB(AE:AJ→Prop)(g:D9)(te:AK)(C:Nat→AJ→Prop)(ts:List T)(τ:BF)(Γ:AJ):Prop:=∃P:List T→List (List A7)→BF→AJ→Prop,P ts [] τ Γ∧(∀Ls τ Γ,P [] Ls τ Γ→AE Γ∧C Ls.length Γ)∧
 ∀x r Ls τ Γ,P (x::r) Ls τ Γ→AE Γ∧g CD x τ Γ λτ3 Γ3=>te CD τ3 Γ3 λy Γ5=>∃ks:List A7,y=.tup (ks.map D7)∧P r (GO Ls ks) τ3 Γ5
abbrev S4(wi:I3)(g:D9)(te:AK)(own:List Str)(cap:List (Nat×Str)):AK:=λY τ Γ Z=>wi Y τ Γ λts AE Γ1=>ts.length≤4∧
 wB AE g te (λn Γ2=>∀D,Γ2 D=none→Z (.ref D) (AA Γ2 D (.ext (Fv D n)))) ts (G6 own cap τ) Γ1
def aa6{hf:List A7→Int}(σ:St)(H:A4)(Q:An)(q:AD E (S4 wi g te own cap) σ H Q):aN hf (Dt E wi) (Ds Bv g) (AD Bv te) own cap σ H Q:=by
 let⟨τ,Γ,Y,Z,rs,hr,t,vr,xr⟩:=q;show Ψ4 τ Γ Y _ ⟨rs,hr,t,λJ ts AE H1 Γ1 s1 h1 wk⟨hz,Pv,z1,p0,pc⟩=>?_,xr⟩;intro D hD;let nl:∀φ:Heap→Prop,(∀us:List V,HO.ext φ≠.tup us)∧∀b w,HO.ext φ≠.frz b w:=λ_=>⟨λ_ z=>(nomatch z),λ_ _ z=>(nomatch z)⟩;show⟨λi m σ' L H'=>∃τ' Γ',i≤ts.length∧m=ts.length-i∧L.length≤i∧RS H' σ' τ'∧HR H' Γ'∧H' D=some (.ext (setB hf D L))∧Γ' D=none∧eJ H1 Γ1 H' Γ'∧(∀q∈L,H' q.1=some (.tup (q.2.map Au)))∧Pv (ts.drop i) (L.map Prod.snd) τ' Γ',
  ⟨ts.length,G6 own cap τ,Γ1,EY _,rfl,Ah _,(LH own (rs.mono s1.tq) cap).mono (Ce (CO hD)),h1.keep (CO hD),B9,h1.free hD,.keep (CO hD),λq hq=>absurd hq (by simp),z1⟩,?_⟩
 intro i m σ2 L H2⟨τ2,Γ2,hi,rfl,hL,wG,h2,d2,gD,s2,ZL,w2⟩;show⟨d2,?_⟩;by_cases dB:i<ts.length
 ·rw[drop_cons dB]at w2
  let⟨g2,w2⟩:=pc _ _ _ _ _ w2;show .inr ⟨wk.go i H2 Γ2 s2.tq h2 g2 dB,by lia,λL' σ' H'=>∃τ' Γ',L'.length≤i+1∧RS H' σ' τ'∧HR H' Γ'∧H' D=some (.ext (setB hf D L'))∧Γ' D=none∧eJ H1 Γ1 H' Γ'∧(∀q∈L',H' q.1=some (.tup (q.2.map Au)))∧Pv (ts.drop (i+1)) (L'.map Prod.snd) τ' Γ',
   λL' σ' H' ξ=>Ξ21 ξ λτ' Γ' ξ=>Ξ08 ξ λb c d e f k k2 l=>⟨ts.length-(i+1),by lia,τ',Γ',dB,rfl,b,c,d,e,f,k,k2,l⟩,λx H3 yl=>?_⟩
  let⟨s3,h3,⟨x3,e3,r3⟩⟩:=wk.qI i H2 Γ2 x H3 s2.tq h2 g2 dB yl;rw[Bh dB]at e3;cases e3;show Ψ5 _ τ2 Γ2 CD _ ⟨r3,wG.mono s3.tq,h3,w2,λσ4 τ4 H4 Γ4 s4 h4 r4 z4=>?_,Eb⟩;show Ψ4 τ4 Γ4 CD _ ⟨r4,h4,z4,λy y' H6 Γ6 s6 h6 r6 z6=>?_,Eb⟩;obtain⟨ks,rfl,z6⟩:=z6;let⟨b6,vs6,rfl,Yw,Z7⟩:=CT r6;let ev:=Ou Z7;subst ev;let rE:=(s3.trans s4).trans s6;let d6:H6 D=some (.ext (setB hf D L)):=rE.ui D _ d2 gD;let g6:Γ6 D=none:=rE.new D (by rw[d2];exactλz=>nomatch z) gD;let tq:Tq H6 (AI H6 D (.ext (setB hf D (Ej L (b6,ks))))):=EX d6 (nl _);let Xn:∀q∈L,H6 q.1=some (.tup (q.2.map Au)):=λq hq=>rE.tq.1 _ _ (ZL q hq);show Ψ2 b6 ks ⟨rfl,Yw,Xn,d6,τ4,Γ6,Cu (ac6 L _) (LF hL),(r4.mono s6.tq).mono tq,h6.hide g6 d6 (nl _),B9,g6,?_,λq hq=>?_,by rw[rQ];show z6⟩
  ·let s7:=s2.trans rE
   show⟨s7.tq.trans tq,λa h z=>?_,s7.new,λa o h g=>?_⟩
   ·by_cases e:a=D
    ·subst e;show h hD
    ·rw[Ay e]at z;show s7.vM a h z
   ·let e:a≠D:=λe=>by subst e;rw[hD]at h;cases h
    rw[Ay e];show s7.ui a o h g
  ·rcases zZ hq with hq|rfl
   ·show tq.1 _ _ (Xn q hq)
   ·show tq.1 _ _ Yw
 ·let e:i=ts.length:=by lia
  subst e;rw[Ih]at w2;let w2:=p0 _ _ _ w2;rw[AM]at w2;show .inl ⟨wk.stop H2 Γ2 s2.tq h2 w2.1,by lia,?_⟩;let qO:=s1.trans s2;let tq:Tq H2 (AI H2 D (.ext (Fv D L.length))):=EX d2 (nl _);let ne:∀{a},H a≠none→a≠D:=λh e=>by subst e;show s1.vM _ h hD
  show vr (.ref D) (.ref D) (AI H2 D (.ext (Fv D L.length))) (AA Γ2 D (.ext (Fv D L.length))) ⟨qO.tq.trans tq,λa h=>?_,λa h g=>?_,λa o h g=>?_⟩ (λa o g=>?_) Dl (w2.2 D gD)
  ·rw[Ay (ne h)];show qO.vM a h
  ·rw[AZ (ne h)];show qO.new a h g
  ·rw[Ay (ne (by rw[h];exactλz=>nomatch z))];show qO.ui a o h g
  ·by_cases e:a=D
   ·subst e;rw[Ae]at g;cases g;show B9
   ·rw[AZ e]at g;show(h2.hide gD d2 (nl _)) a o g
def sg{scope:Scope}{cl:List (Str×Addr)}{iter elt:Expr}(hu:X.A.units+1<cLine)(c:cT X scope cl own cap)(hc:X.calm=true)(hi:PI X tg iter (Dt E wi))
  (hg:∀C s H fp,PG (BK X (own++cap.map (·.2)) scope cl C s H fp λ_ _=>False) tg (Ds Bv g))
  (he:∀C s H fp,PE (BK X (own++cap.map (·.2)) scope cl C s H fp λ_ _=>False) elt (AD Bv te)) (hs:∀x,foldedSetIterable iter X.env x=pure x:=by intro _;rfl) :
  PE X (.SetComp elt [⟨tg,iter,[],0⟩] scope pos) (AD E (S4 wi g te own cap)):=FL (yB hu c hc hi hg he hs) aa6
def ac3:Ew X (.builtin "len") (λxs Γ Z=>∃(p:Addr) (n:Nat),xs=[.ref p]∧n≤4∧Γ p=some (.ext (Fv p n))∧Z (.int n) Γ):=
 ⟨_,qr,λvs xs H Γ Q Z r hr q0 vr=>by
  let⟨p,n,e,hn,g,z⟩:=q0;subst e;let⟨v,rfl,ra⟩:=rJ r;show Ψ2 p n ⟨by rw[BJ ra],hn,hr p _ g,vr _ _ H Γ .refl hr DZ z⟩⟩
end
section
open Classical in
end
abbrev G5(aq:List (List A7×T))(k:List A7):Option T:=(aq.find? λkv=>decide (kv.1=k)).map (·.2)
abbrev Ku(aq:List (List A7×T))(k:List A7)(v:T):List (List A7×T):=
 if(aq.any λkv=>decide (kv.1=k))=true then aq.map (λkv=>if kv.1=k then(kv.1,v)else kv)else aq++[(k,v)]
section
variable {H: A4}
def Kt.len:∀{us:List (List A7×V)} {aq:List (List A7×T)},Kt H us aq→us.length=aq.length
 |_,_,.nil=>rfl
 |_,_,.cons a b=>by rw[CF,CF,Kt.len b]
def Kt.val:∀{us:List (List A7×V)} {aq:List (List A7×T)} (k:List A7),Kt H us aq→(DW us k=none∧G5 aq k=none)∨∃v t,DW us k=some v∧G5 aq k=some t∧R H v t
 |_,_,k,.nil=>.inl ⟨rfl,rfl⟩
 |(k1,v)::us,(k2,t)::aq,k,.cons a b=>by
  let⟨e,r⟩:=a;let e:k1=k2:=e;subst e;by_cases h:k1=k
  ·show .inr ⟨v,t,M1 h,by simp[G5,Et,h],r⟩
  ·rcases Kt.val k b with⟨x,y⟩|⟨v',t',x,y,r'⟩
   ·show .inl ⟨by rw[Jp h];show x,by rw[show G5 ((k1,t)::aq) k=G5 aq k by simp[G5,Et,h]];show y⟩
   ·show .inr ⟨v',t',by rw[Jp h];show x,by rw[show G5 ((k1,t)::aq) k=G5 aq k by simp[G5,Et,h]];show y,r'⟩
def Kt.any:∀{us:List (List A7×V)} {aq:List (List A7×T)} (k:List A7),Kt H us aq→(us.any λkv=>decide (kv.1=k))=(aq.any λkv=>decide (kv.1=k))
 |_,_,k,.nil=>rfl
 |(k1,v)::us,(k2,t)::aq,k,.cons a b=>by
  let⟨e,r⟩:=a;let e:k1=k2:=e;subst e;rw[HG,HG,Kt.any k b]
def Kt.map:∀{us:List (List A7×V)} {aq:List (List A7×T)} {v:V} {t:T} (k:List A7),R H v t→Kt H us aq→Kt H (us.map λkv=>if kv.1=k then(kv.1,v)else kv) (aq.map λkv=>if kv.1=k then(kv.1,t)else kv)
 |_,_,v,t,k,r,.nil=>.nil
 |(k1,v1)::us,(k2,t1)::aq,v,t,k,r,.cons a b=>by
  let⟨e,r1⟩:=a;let e:k1=k2:=e;subst e;rw[BU,BU];by_cases h:k1=k
  ·rw[Ab h,Ab h];show .cons ⟨rfl,r⟩ (Kt.map k r b)
  ·rw[AP h,AP h];show .cons ⟨rfl,r1⟩ (Kt.map k r b)
def Kt.snoc:∀{us:List (List A7×V)} {aq:List (List A7×T)} {v:V} {t:T} (k:List A7),R H v t→Kt H us aq→Kt H (us++[(k,v)]) (aq++[(k,t)])
 |_,_,v,t,k,r,.nil=>.cons ⟨rfl,r⟩ .nil
 |_::_,_::_,v,t,k,r,.cons a b=>.cons a (Kt.snoc k r b)
def Kt.put{aq:List (List A7×T)}{v:V}{t:T}(k:List A7)(r:R H v t)(h:Kt H us aq):Kt H (putK us k v) (Ku aq k t):=by
 unfold putK Ku;rw[h.any k];split
 ·show h.map k r
 ·show h.snoc k r
end
section
abbrev oQ:AK:=λ_ _ Γ Z=>∀p,Γ p=none→Z (.ref p) (AA Γ p (.dT []))
def yD:PE X (.Dict [] [] pos) (AD E oQ):=
 D6 xA λσ H Q τ Γ Y Z rs hr t vr xr=>by
  intro p hp;show vr _ _ _ _ (.make hp) (hr.make (o3:=.dT []) hp ⟨[],B9,.nil⟩) Dl (t p (hr.free hp))
abbrev VN(td ty tv:AK):BY:=λY D τ Γ=>tv Y τ Γ λv Γ1=>td Y τ Γ1 λx Γ2=>ty Y τ Γ2 λy Γ3=>∃a aq k,x=.ref a∧y=.tup (k.map D7)∧Γ3 a=some (.dT aq)∧aq.length<sizeLine∧D.nx τ (AA Γ3 a (.dT (Ku aq k v)))
def uw{value:Expr}{tv:AK}{pos':Pos}(hu:X.A.units+1<cLine)(ho:PE X o (AD E td))(hi:PE X i (AD E ty))(hv:PE X value (AD E tv))(hs:swapsWith value (some (.Subscript o i pos')) pos.line X.env=pure false:=by rfl):PS X (.Assign [.Subscript o i pos'] value pos) (C6 E (VN td ty tv)):=
 FC (Y0 hu ho hi hv hs) λD σ H τ Γ Y Z rs hr t dr xr=>by
  show Ψ4 τ Γ Y _ ⟨rs,hr,t,λv v3 H1 Γ1 s1 h1 r1 z1=>?_,xr⟩;show Ψ4 τ Γ1 Y _ ⟨rs.mono s1.tq,h1,z1,λx x3 H2 Γ2 s2 h2 r2 z2=>?_,xr.mono s1⟩;show Ψ4 τ Γ2 Y _ ⟨rs.mono (s1.trans s2).tq,h2,z2,λy y3 H3 Γ3 s3 h3 r3 z3=>?_,xr.mono (s1.trans s2)⟩;let⟨a,aq,k,rfl,rfl,g,l,z⟩:=z3;let⟨us,hu,q⟩:=h3 a _ g;let⟨b,vs,rfl,hb,rb⟩:=CT r3;let ev:=Ou rb;subst ev;let QO:=(s1.trans s2).trans s3;let st:eJ H3 Γ3 (AI H3 a (.dT (putK us k v))) (AA Γ3 a (.dT (Ku aq k v3))):=eJ.set h3 g;show Ψ2 a _ ⟨BJ r2,xU.t hu hb (by rw[q.len];show l),?_⟩;let tq:Tq H3 (AI H3 a (.dT (putK us k v))):=EX hu ⟨λ_ z=>(nomatch z),λ_ _ z=>(nomatch z)⟩;show dr.nx _ _ _ _ (QO.trans st) (h3.set g ⟨_,B9,(q.put k (r1.mono (s2.trans s3).tq)).mono tq⟩) (rs.mono (QO.trans st).tq) z
abbrev Nv(P:Program)(w:World)(td ty:AK):AK:=λY τ Γ Z=>td Y τ Γ λx Γ1=>ty Y τ Γ1 λy Γ2=>∃a o v,x=.ref a∧
 ((∃aq k,Γ2 a=some (.fzK P w o aq)∧y=D7 k∧DQ aq k=some v)∨∃aq k,Γ2 a=some (.fzT P w o aq)∧y=.tup (k.map D7)∧G5 aq k=some v)∧Z v Γ2
def Mf(hP:X.prog=P)(hw:X.w=w)(hu:X.A.units+1<cLine)(ho:PE X o (AD E td))(hi:PE X i (AD E ty))(hs:Jm i:=by exactλ_ _=>rfl):PE X (.Subscript o i pos) (AD E (Nv P w td ty)):=by
 subst hP hw;show D6 (nG hu ho hi hs) λσ H Q τ Γ Y Z rs hr t vr xr=>by
  show Ψ4 τ Γ Y _ ⟨rs,hr,t,λv x H1 Γ1 s1 h1 r1 z1=>?_,xr⟩;show Ψ4 τ Γ1 Y _ ⟨rs.mono s1.tq,h1,z1,λw y H2 Γ2 s2 h2 r2 z2=>?_,xr.mono s1⟩;obtain⟨a,o,u,rfl,⟨aq,k,g,rfl,l⟩|⟨aq,k,g,rfl,l⟩,z⟩:=z2
  ·let⟨us,fz,q⟩:=h2 a _ g
   rcases q.val k with⟨_,y⟩|⟨v',t',x',y',r'⟩
   ·rw[l]at y;cases y
   rw[l]at y';cases y';show Ψ2 a v' ⟨BJ r1,.inl ⟨o,us,k,fz,Gb r2,x'⟩,vr v' u H2 Γ2 (s1.trans s2) h2 r' z⟩
  ·let⟨us,fz,q⟩:=h2 a _ g
   let⟨b,vs,rfl,hb,rb⟩:=CT r2;let ev:=Ou rb;subst ev;rcases q.val k with⟨_,y⟩|⟨v',t',x',y',r'⟩
   ·rw[l]at y;cases y
   rw[l]at y';cases y';show Ψ2 a v' ⟨BJ r1,.inr ⟨o,us,k,b,fz,rfl,hb,x'⟩,vr v' u H2 Γ2 (s1.trans s2) h2 r' z⟩
def MF{α β:Type}{P:α→β→Prop}:∀{xs:List α} {ys:List β} {i:Nat} {y:β},Paired P xs ys→ys[i]?=some y→∃x,xs[i]?=some x∧P x y
 |_,_,i,y,.nil,e=>by cases e
 |x::xs,y'::ys,0,y,.cons a b,e=>by cases e;show⟨x,rfl,a⟩
 |x::xs,y'::ys,i+1,y,.cons a b,e=>by
  let⟨x',e',p⟩:=MF (i:=i) b e;show⟨x',e',p⟩
def jN{α β:Type}{P:α→β→Prop}:∀{xs:List α} {ys:List β},Paired P xs ys→xs.length=ys.length
 |_,_,.nil=>rfl
 |_,_,.cons _ b=>by rw[CF,CF,jN b]
def SR{H:A4}:∀k:List A7,Rs H (k.map Au) (k.map D7)
 |[]=>EM
 |.inl i::r=>Dn DZ (SR r)
 |.inr z::r=>Dn Fu (SR r)
def WN:∀k:A7,R H (Au k) (D7 k)
 |.inl i=>DZ
 |.inr z=>Fu
section
variable {P: Program}{w: World}{H: A4}{h: Heap}{a: Addr}{o: Obj}{es: Array DictEntry}{ep: Nat}
def Ni(ob:bj P w H h a (.dT us))(ho:h.get? a=some o)(hd:o.data=.dict es ep):es.size=us.length∧∀(i:Nat) e,es[i]?=some e→∃p b,us[i]?=some p∧e.key=.ref b∧H b=some (.tup (p.1.map Au)):=by
 let⟨z,y,⟨xs,r,⟨o',IS,IT,e1,e2,e3,e4,e5⟩⟩⟩:=ob;rw[ho]at e1;cases e1;rw[hd]at e3;cases e3;show⟨?_,λi e he=>?_⟩
 ·rw[jN r,←Hy,e4,AM]
 ·rw[entry_at e4 i]at he
  let⟨x,hx,rfl⟩:=abX.mp he;let⟨p,hp,q⟩:=MF r hx;show Ψ2 p x.2.1 ⟨hp,rfl,q.2.1⟩
def bu{k:KeyKind P w A7}:∀{es:List DictEntry} {vs:List (A7×Value)} {i:Nat} {e:DictEntry},Pairs k es vs→es[i]?=some e→∃q,vs[i]?=some q∧k.is q.1 e.key=true
 |_,_,i,e,.nil,h=>by cases h
 |_::_,q::_,0,e,.cons a _ _,h=>by cases h;show⟨q,rfl,a⟩
 |_::_,_::_,i+1,e,.cons _ _ b,h=>by
  let⟨q,e',p⟩:=bu (i:=i) b h;show⟨q,e',p⟩
def jO{k:KeyKind P w A7}:∀{es:List DictEntry} {vs:List (A7×Value)},Pairs k es vs→es.length=vs.length
 |_,_,.nil=>rfl
 |_,_,.cons _ _ b=>by rw[CF,CF,jO b]
def Ao(h:(AR P w).is k v=true):RelV (Au k) v:=by
 rcases Gm h with⟨i,t,rfl,rfl⟩|⟨x,t,rfl,rfl⟩
 ·show⟨t,rfl⟩
 ·show⟨t,rfl⟩
def Nl{us:List (A7×V)}(ob:bj P w H h a (.dK us))(ho:h.get? a=some o)(hd:o.data=.dict es ep):es.size=us.length∧∀(i:Nat) e,es[i]?=some e→∃p,us[i]?=some p∧RelV (Au p.1) e.key:=by
 let⟨z,y,⟨vs,r,⟨o',IS,IT,e1,e2,e3,e4,e5,e6⟩⟩⟩:=ob;rw[ho]at e1;cases e1;rw[hd]at e3;cases e3;show⟨?_,λi e he=>?_⟩
 ·rw[jN r,←Hy,jO e5]
 ·rw[←Pl]at he
  let⟨q,hq,k⟩:=bu e5 he;let⟨p,hp,e,_⟩:=MF r hq;show⟨p,hp,by rw[e];show Ao k⟩
def pS{o':HO}(ha:H a=some (.dT us))(ob:bj P w H h a (.dT us))(ho:h.get? a=some o):Q0 P w (AI H a (.ext (Fn a o))) a o us:=by
 show⟨B9,λh' g=>?_⟩;let⟨z,y,⟨xs,r,⟨o',IS,IT,e1,q⟩⟩⟩:=ob;rw[ho]at e1;cases e1;show⟨z,y,xs,Jz (λ_ _ p=>⟨p.1,?_,p.2.2⟩) r,o,IS,IT,g,q⟩;rw[Ay (λe=>by have:=p.2.1;rw[e,ha]at this;cases this)];show p.2.1
def yO{us:List (A7×V)}(ob:bj P w H h a (.dK us))(ho:h.get? a=some o):PN P w (AI H a (.ext (Fn a o))) a o us:=by
 show⟨B9,λh' g=>?_⟩;let⟨z,y,⟨vs,r,⟨o',IS,IT,e1,q⟩⟩⟩:=ob;rw[ho]at e1;cases e1;show⟨z,y,vs,r,o,IS,IT,g,q⟩
end
abbrev Oy(P:Program)(w:World)(td:AK):I3:=λY τ Γ I=>td Y τ Γ λx Γ1=>∃a,x=.ref a∧
  ((∃aq,Γ1 a=some (.dT aq)∧∀o,I (aq.map λp=>T.tup (p.1.map D7)) (λΓ'=>Γ' a=some (.fzT P w o aq)) (AA Γ1 a (.fzT P w o aq))) ∨
   ∃aq,Γ1 a=some (.dK aq)∧∀o,I (aq.map λp=>D7 p.1) (λΓ'=>Γ' a=some (.fzK P w o aq)) (AA Γ1 a (.fzK P w o aq)))
def ux{b:Addr}(h:RelV x (.ref b)):x=.ref b:=by
 cases x<;>first|(cases h;rfl)|(obtain⟨_,h⟩:=h;cases h)|cases h
def acr(h:RelV x v)(h':RelV (Au k) v):x=Au k:=by
 cases k with
 |inl i=>let⟨t,rfl⟩:=h';cases x<;>first|(obtain⟨_,h⟩:=h;cases h;rfl)|(obtain⟨_,h⟩:=h;show nomatch h)|show nomatch h
 |inr z=>let⟨t,rfl⟩:=h';cases x<;>first|(obtain⟨_,h⟩:=h;cases h;rfl)|(obtain⟨_,h⟩:=h;show nomatch h)|show nomatch h
def TS{d:Expr}(hP:X.prog=P)(hw:X.w=w)(hd:PE X d (AD E td)):PI X tg d (Dt E (Oy P w td)):=by
 subst hP hw;show J2 (sF hd) λσ H Q τ Γ Y Z rs hr t vr xr=>by
  show Ψ4 τ Γ Y _ ⟨rs,hr,t,λv x H1 Γ1 s1 h1 r1 z1=>?_,xr⟩;obtain⟨a,rfl,⟨aq,g,q⟩|⟨aq,g,q⟩⟩:=z1
  ·let⟨us,hu,kt⟩:=h1 a _ g
   show Ψ2 a (.dT us) ⟨BJ r1,hu,trivial,λh ob=>?_,λh o es ep ob ho nV=>?_⟩
   ·let⟨z,y,⟨xs,r,⟨o,es,ep,e1,e2,e3,e4,e5⟩⟩⟩:=id ob
    show⟨y,o,es,ep,e1,e2,e3,λe he=>?_⟩;obtain⟨i,hi,rfl⟩:=Array.mem_iff_getElem.mp he;let⟨p,b,_,ek,_⟩:=(Ni ob e1 e3).2 i es[i] (by simp);show⟨.ref b,by rw[ek];rfl⟩
   ·show vr _ _ _ _ _ (s1.trans (eJ.set h1 g)) (h1.set (o3:=.fzT X.prog X.w o aq) g ⟨us,pS (o':=.own 0) hu ob ho,kt.mono (EX hu ⟨λ_ z=>(nomatch z),λ_ _ z=>(nomatch z)⟩)⟩) ⟨λi H2 Γ2 tq h2 AE hi=>?_,λi H2 Γ2 x H' tq h2 AE hi yl=>?_,λH2 Γ2 tq h2 AE=>?_⟩ (q o)
    ·let⟨kj,fz,k2⟩:=h2 a _ AE
     let a1:=(Ni (fz.2 h ho) ho nV).1;rw[AM,←k2.len,←a1]at hi;show⟨fz.1,hi⟩
    ·let⟨kj,fz,k2⟩:=h2 a _ AE
     let⟨rfl,⟨e,he,re⟩⟩:=yl;let⟨p,b,hp,ek,hb⟩:=(Ni (fz.2 h ho) ho nV).2 i e he;rw[ek]at re;rw[ux re];obtain⟨qv,hq,e1,_⟩:∃y,aq[i]?=some y∧p.1=y.1∧R H' p.2 y.2:=by
      let hl:i<aq.length:=by rw[AM]at hi;show hi
      let⟨p',oZ,z⟩:=MF k2 (Bh hl);rw[hp]at oZ;cases oZ;show⟨_,Bh hl,z⟩
     show⟨.refl,h2,.tup (qv.1.map D7),by rw[FK,hq];rfl,?_⟩;rw[e1]at hb;unfold R;show Ψ2 b _ ⟨rfl,hb,SR _⟩
    ·let⟨kj,fz,k2⟩:=h2 a _ AE
     show⟨fz.1,by rw[(Ni (fz.2 h ho) ho nV).1,AM,k2.len];show Ah _⟩
  ·let⟨us,hu,kt⟩:=h1 a _ g
   show Ψ2 a (.dK us) ⟨BJ r1,hu,trivial,λh ob=>?_,λh o es ep ob ho nV=>?_⟩
   ·let⟨z,y,⟨vs,r,⟨o,es,ep,e1,e2,e3,e4,e5,e6⟩⟩⟩:=id ob
    show⟨y,o,es,ep,e1,e2,e3,λe he=>?_⟩;obtain⟨i,hi,rfl⟩:=Array.mem_iff_getElem.mp he;let⟨p,_,ek⟩:=(Nl ob e1 e3).2 i es[i] (by simp);show⟨_,ek⟩
   ·show vr _ _ _ _ _ (s1.trans (eJ.set h1 g)) (h1.set (o3:=.fzK X.prog X.w o aq) g ⟨us,yO ob ho,kt.mono (EX hu ⟨λ_ z=>(nomatch z),λ_ _ z=>(nomatch z)⟩)⟩) ⟨λi H2 Γ2 tq h2 AE hi=>?_,λi H2 Γ2 x H' tq h2 AE hi yl=>?_,λH2 Γ2 tq h2 AE=>?_⟩ (q o)
    ·let⟨kj,fz,k2⟩:=h2 a _ AE
     let a1:=(Nl (fz.2 h ho) ho nV).1;rw[AM,←k2.len,←a1]at hi;show⟨fz.1,hi⟩
    ·let⟨kj,fz,k2⟩:=h2 a _ AE
     let⟨rfl,⟨e,he,re⟩⟩:=yl;let⟨p,hp,ek⟩:=(Nl (fz.2 h ho) ho nV).2 i e he;rw[acr re ek];let hl:i<aq.length:=by rw[AM]at hi;show hi
     let⟨p',oZ,z⟩:=MF k2 (Bh hl);rw[hp]at oZ;cases oZ;show⟨.refl,h2,D7 (aq[i]).1,by rw[FK,Bh hl];rfl,?_⟩;rw[z.1];show WN _
    ·let⟨kj,fz,k2⟩:=h2 a _ AE
     show⟨fz.1,by rw[(Nl (fz.2 h ho) ho nV).1,AM,k2.len];show Ah _⟩
abbrev SN(P:Program)(w:World)(Γ Γ':AJ):Prop:=∃a o,(∃aq,Γ a=some (.fzT P w o aq)∧Γ'=AA Γ a (.dT aq))∨∃aq,Γ a=some (.fzK P w o aq)∧Γ'=AA Γ a (.dK aq)
def Zl{Γ Γ':AJ}(hr:HR H Γ)(h:SN P w Γ Γ'):∃H',QM P w H H'∧eJ H Γ H' Γ'∧HR H' Γ':=by
 obtain⟨a,o,⟨aq,g,rfl⟩|⟨aq,g,rfl⟩⟩:=h
 ·let⟨us,fz,kt⟩:=hr a _ g
  let tq:Tq H (AI H a (.dT us)):=EX fz.1 ⟨λ_ z=>(nomatch z),λ_ _ z=>(nomatch z)⟩;show⟨_,Ψ3 a o (.dT us) ⟨fz.1,λh e=>aj tq.1 (fz.2 h e),rfl⟩,eJ.set hr g,hr.set (o3:=.dT aq) g ⟨us,B9,kt.mono tq⟩⟩
 ·let⟨us,fz,kt⟩:=hr a _ g
  let tq:Tq H (AI H a (.dK us)):=EX fz.1 ⟨λ_ z=>(nomatch z),λ_ _ z=>(nomatch z)⟩;show⟨_,Ψ3 a o (.dK us) ⟨fz.1,λh e=>fz.2 h e,rfl⟩,eJ.set hr g,hr.set (o3:=.dK aq) g ⟨us,B9,kt.mono tq⟩⟩
abbrev R3(P:Program)(w:World)(t:BY):BY:=λY D τ Γ=>t Y {D with nx:=λτ' Γ'=>∃Γ2,SN P w Γ' Γ2∧D.nx τ' Γ2} τ Γ
def iY{st:Stmt}{t:BY}(hP:X.prog=P)(hw:X.w=w)(h:PS X st (C6 E t)):PS X st (C6 E (R3 P w t)):=by
 subst hP hw;show FC (wZ h) λD σ H τ Γ Y Z rs hr q dr xr=>by
  show Ψ4 τ Γ Y _ ⟨rs,hr,q,⟨λσ' τ' H' Γ' s h' r ξ=>Ξ12 ξ λΓ2 th z=>?_,dr.rt,dr.bk,dr.ct⟩,xr⟩;let⟨H2,t2,s2,h2⟩:=Zl h' th;show⟨H2,t2,dr.nx _ _ _ _ (s.trans s2) h2 (r.mono s2.tq) z⟩
abbrev Xq(P:Program)(w:World)(t:AK):AK:=λY τ Γ Z=>t Y τ Γ λx Γ'=>∃Γ2,SN P w Γ' Γ2∧Z x Γ2
def adC{e:Expr}{t:AK}(hP:X.prog=P)(hw:X.w=w)(h:PE X e (AD E t)):PE X e (AD E (Xq P w t)):=by
 subst hP hw;show D6 (wD h) λσ H Q τ Γ Y Z rs hr q vr xr=>by
  show Ψ4 τ Γ Y _ ⟨rs,hr,q,λv x H' Γ' s h' r ξ=>Ξ12 ξ λΓ2 th z=>?_,xr⟩;let⟨H2,t2,s2,h2⟩:=Zl h' th;show⟨H2,t2,vr _ _ _ _ (s.trans s2) h2 (r.mono s2.tq) z⟩
end
end L3
namespace L2
open PySem PySem.Spec PyProof.Rows
def jy{P:Program}{w:World}:∀{us:List (A7×V)} {vs:List (A7×Value)} {l:List Value},KV us vs→l.length=vs.length→(∀(i:Nat) v,l[i]?=some v→∃k x,vs[i]?=some (k,x)∧(AR P w).is k v=true)→Vals (us.map λq=>Au q.1) l
 |[],[],[],.nil,_,_=>.nil
 |u::us,q::vs,v::l,.cons a b,e,h=>by
  let⟨k,x,e1,e2⟩:=h 0 v rfl;cases e1;show .cons ?_ (jy b (Nat.succ.inj e) λi v hv=>h (i+1) v hv);show RelV (Au u.1) v
  rw[a.1];show L3.Ao e2
def ng{X:Cx}(hc:X.calm=true):Eg X (.type "list") (λxs H Q=>∃p us,xs=[.ref p]∧H p=some (.dK us)∧∀l,H l=none→Q (.ref l) (AI H l (.lst (us.map λq=>Au q.1)))):=by
 intro v0 s σ H vs us Q I rv h;let⟨p,ks,rfl,hp,q⟩:=h;let⟨u,rfl,ru⟩:=rv.one;cases ru;let⟨z,hd,⟨ws,rel,dd⟩⟩:=Oz I.bC hp;let⟨ep,da⟩:=dd.dictAt;let hl:ks.length=ws.length:=L3.jN rel;show aaj (I.ok.hd hc) hd da (by rw[←hl];show z) λh' tk acc c' k e io=>?_;let hv:Vals (ks.map λq=>Au q.1) acc.toList:=jy (P:=X.prog) (w:=X.w) rel (by rw[Hy];show io.1) λi v hv=>by
  rw[Pl]at hv;show io.2 i v hv
 show Ψ2 (.ref _) _ ⟨I.laid (t':=tk) k (Ah _) (show bj X.prog X.w _ h' _ (.lst (ks.map λq=>Au q.1))from⟨by rw[AM];show z,acc.toList,c',hv,by rw[e]⟩),rfl,q _ (I.bC.fresh (Ah _))⟩
end L2
namespace L3
open PySem PySem.Spec L2
open PyProof.Rows hiding St
def fP{H:A4}:∀{us:List (A7×V)} {aq:List (A7×T)},Ks H us aq→Rs H (us.map λq=>Au q.1) (aq.map λq=>D7 q.1)
 |[],[],.nil=>EM
 |_::_,_::_,.cons a b=>by
  rw[BU,BU,a.1];show Dn (WN _) (fP b)
def iT{X:Cx}(hc:X.calm=true):Ew X (.type "list") (λxs Γ Z=>∃a aq,xs=[.ref a]∧Γ a=some (.dK aq)∧∀p,Γ p=none→Z (.ref p) (AA Γ p (.lst (aq.map λq=>D7 q.1)))):=
 ⟨_,ng hc,λvs xs H Γ Q Z r hr q0 vr=>by
  let⟨a,aq,e,g,z⟩:=q0;subst e;let⟨v,rfl,ra⟩:=rJ r;let⟨us,hu,kt⟩:=hr a _ g;show Ψ2 a us ⟨by rw[BJ ra],hu,λl hl=>?_⟩;show vr _ _ _ _ (.make hl) (hr.make (o3:=.lst (aq.map λq=>D7 q.1)) hl ⟨_,B9,(fP kt).mono (Ce (CO hl))⟩) Dl (z l (hr.free hl))⟩
end L3
namespace L3
open PySem PySem.Spec L2
open PyProof.Rows hiding St
variable {a b e:Expr}{ta tb:AK}{r3:EH}{i k j:Nat}{x:Str}{ps:List Str}{sp:Av}{p:Pos}{es:List Expr}{t:Ca}
section
variable {X: Cx}{E: St→BD}{pos: Pos}
def AO(ha:PE X a (AD E ta))(hb:PE X b (AD E tb))(hs:LY b:=by exactλ_ _=>rfl):PE X (.Subscript a b pos) (AD E (HC JB ta tb)):=zB ha hb hs
def ace(ha:PE X a (AD E ta))(hb:PE X b (AD E tb))(hs:LY b:=by exactλ_ _=>rfl):PE X (.Subscript a b pos) (AD E (HC ig ta tb)):=sV ha hb hs
def Dh{op:CmpOp}(ho:BZ X (compareOp op) r3)(ha:PE X a (AD E ta))(hb:PE X b (AD E tb))(hm:behindInMarks op b=false:=by show c7 _):PE X (.Compare a [op] [b] pos) (AD E (HC r3 ta tb)):=HF ho ha hb hm
def B2{op:CmpOp}(ho:BZ X (compareOp op) r3)(ha:PE X a (AD E ta))(hb:PE X b (AD E tb))(hm:behindInMarks op b=false:=by show c7 _):PT X (.Compare a [op] [b] pos) (CL E (Kn (HC r3 ta tb))):=L0 ho ha hb hm
def As{te:AK}{Q6:Pos}(hN:X.N.Nodup)(he:PE X e (AD E te))(hi:X.N[i]?=some x:=by rfl)(hx:HD X.env.scope x:=by first|show .inl rfl|show .inr rfl)(hs:swapsWith e (some (.Name x Q6)) pos.line X.env=pure false:=by rfl)(hf:Fk X x:=by first|show .inl rfl|show .inr rfl|assumption):PS X (.Assign [.Name x Q6] e pos) (C6 E (OO i te)):=ac4 hN hi hx he hs hf
def Aj(hN:X.N.Nodup)(hi:X.N[i]?=some x:=by rfl)(hx:HD X.env.scope x:=by first|show .inl rfl|show .inr rfl)(hf:Fk X x:=by first|show .inl rfl|show .inr rfl|assumption):PG X (.Name x pos) (Ds E (hName i)):=Bb hN hi hx hf
def II(hN:X.N=[x]:=by rfl)(hx:HD X.env.scope x:=by first|show .inl rfl|show .inr rfl)(hf:Fk X x:=by first|show .inl rfl|show .inr rfl|assumption):PG X (.Name x pos) (Ds E (hName 0)):=Bb (by rw[hN];simp) (by rw[hN];rfl) hx hf
def Af(c:AY X.prog X.w X.K X.mg X.base x k ps sp)(hr:dE j X.A)(ha:PA X (e::es) (De E t))(hk:k≤j:=by lia)(hg:Bk X x:=by rfl)(qC:(x ==("__debug__" : Str))=false:=by decide)(he:starEach (e::es) X.env=(false,eval e X.env)::starEach es X.env:=by rfl)(i7:(backTo pos (starEach es X.env)).any (·.1)=false:=by rfl):PE X (.Call (.Name x p) (e::es) [] pos) (AD E (R2 sp t)):=rg c hr hk hg ha qC he i7
def Rl(c:Ll X.prog X.w X.K X.mg X.base x k ps sp)(hr:dE j X.A)(hx:TM X E)(ha:PA X (e::es) (De E t))(hk:k≤j:=by lia)(hg:Bk X x:=by rfl)(qC:(x ==("__debug__" : Str))=false:=by decide)(he:starEach (e::es) X.env=(false,eval e X.env)::starEach es X.env:=by rfl)(i7:(backTo pos (starEach es X.env)).any (·.1)=false:=by rfl):PE X (.Call (.Name x p) (e::es) [] pos) (AD E (Uu sp t)):=aaN c hr hk hg hx ha qC he i7
def F0{scope:Scope}{own:List Str}(hk:scope.kind=.function:=by rfl)(hn:∀y∈scope.names,y.2≠.free∧y.2≠.cell:=by done)(hl:∀y∈scope.names,y.2=.local→scope.names.lookup y.1=some .local:=by done):cT X scope [] own []:=ado hk hn hl
end
end L3
namespace Tg
open PySem L2
variable {x y:Str}{lo hi:Option Int}
inductive Kd where
 |num (w:Int)
 |text
 |row (k:Kd)
 |rec_ (fs:List (Str×Kd))
 |pick (fs:List (Str×Kd))
abbrev ad:=List (Str×Kd)
mutual
def Kd.size:Kd→Int
 |.num w=>w
 |.text=>1
 |.row _=>1
 |.rec_ fs=>(Sy fs).sum
 |.pick fs=>1+dP (Sy fs)
def Sy:List (Str×Kd)→List Int
 |[]=>[]
 |(_,k)::r=>k.size::Sy r
end
mutual
def Kd.depth:Kd→Nat
 |.num _=>1
 |.text=>1
 |.row k=>k.depth+1
 |.rec_ fs=>GH fs+1
 |.pick fs=>GH fs+1
def GH:List (Str×Kd)→Nat
 |[]=>0
 |(_,k)::r=>max k.depth (GH r)
end
def LC:∀{fs:List (Str×Kd)} {p:Str×Kd},p∈fs→p.2.depth≤GH fs
 |(nm,k)::r,p,h=>by
  unfold GH;rcases aaf.mp h with rfl|h
  ·show Nat.le_max_left _ _
  ·show Cu (LC h) (Nat.le_max_right _ _)
mutual
/-- a kind as wq document tells it: widths,fields one to six,no name twice,names of one to Y9 small TQ -/
def Kd.good:Kd→Prop
 |.num w=>1≤w∧w≤4
 |.text=>True
 |.row k=>k.good
 |.rec_ fs=>FW fs∧1≤fs.length∧fs.length≤6∧(fs.map (·.1)).Nodup
 |.pick fs=>FW fs∧1≤fs.length∧fs.length≤6∧(fs.map (·.1)).Nodup
def FW:List (Str×Kd)→Prop
 |[]=>True
 |(nm,k)::r=>(1≤nm.length∧nm.length≤8∧∀c∈nm.cps.toList,97≤c∧c≤122)∧k.good∧FW r
end
abbrev Lets(z:Str):Prop:=∀c∈z.cps.toList,97≤c∧c≤122
abbrev Nm(z:Str):Prop:=1≤z.length∧z.length≤8∧Lets z
def G9(z:Str):z.cps.toList.length=z.length:=by simp[Str.length]
def ZR(x y:Str):(x++y).cps.toList=x.cps.toList++y.cps.toList:=by rw[Str.cps_append,Array.toList_append]
def Kb(x y:Str):(x++y).length=x.length+y.length:=by rw[←G9,ZR,BO,G9,G9]
def Lets.app(a:Lets x)(b:Lets y):Lets (x++y):=λc h=>by
 rw[ZR]at h;rcases aaG.mp h with h|h
 ·show a c h
 ·show b c h
def Lets.cut(a:Lets x)(e:y.cps.toList=Ci x.cps.toList lo hi):Lets y:=λc h=>by
 rw[e]at h;show a c (SA (Sz h))
def Rb(e:y.cps.toList=Ci x.cps.toList lo hi):y.length≤x.length:=by
 rw[←G9,←G9,e];show PU _ _ _
def aca{n:Int}(h:0≤n)(e:y.cps.toList=Ci x.cps.toList none (some n)):y.length=min n.toNat x.length:=by
 rw[←G9,e];unfold Ci;let e1:HT.cV x.cps.toList.length x.cps.toList.length (some n)=min n.toNat x.cps.toList.length:=by
  show(if n<0 then _ else min n.toNat _)=_
  rw[AP (by lia)]
 rw[e1,HT.rD,Ry,Em,G9];lia
def xS(h:(x.cps.toList.all λc=>decide (97≤c)&&decide (c≤122))=true):Lets x:=λc hc=>by
 let q:=aa2.mp h c hc;simpa using q
@[reducible]def Pc:Str := "abcdefghijklmnopqrstuvwxyz"
def K8{α:Type}{xs:List α}{r:Int}(h0:0≤r)(h1:r<xs.length):∃x,CG xs r=some x∧x∈xs:=by
 let hk:r.toNat<xs.length:=by lia
 let e:r=((r.toNat:Nat):Int):=by lia
 let q:CG xs ((r.toNat:Nat):Int)=some xs[r.toNat]:=FA (by rw[Bh hk]<;>rfl)
 rw[←e]at q;show⟨_,q,G3 hk⟩
def sub_len{α:Type}[BEq α][LawfulBEq α]:∀{l m:List α},l.Nodup→(∀x∈l,x∈m)→l.length≤m.length
 |[],m,_,_=>EY _
 |x::r,m,nd,h=>by
  let hx:=h x JZ;let e:=jk hx;let XW:=abd.mp nd;let ih:=sub_len (l:=r) (m:=m.erase x) XW.2 λy hy=>by
   show(List.mem_erase_of_ne ?_).mpr (h y (DT _ hy));rintro rfl;show XW.1 hy
  have:0<m.length:=S2 hx;rw[CF];lia
def KN{x:Str}:∀{ss:List Str},DX (.str x) (ss.map V.str)=decide (x∈ss)
 |[]=>by simp[DX]
 |y::r=>by
  let ih:=KN (x:=x) (ss:=r);unfold DX at ih ⊢;rw[BU,HG,ih];show(y==x||decide (x∈r))=decide (x∈y::r)
  rw[GG];simp only[Bool.or_eq_true,ab4,MD,aaf];constructor
  ·rintro(h|h)
   ·show .inl h.symm
   ·show .inr h
  ·rintro(h|h)
   ·show .inl h.symm
   ·show .inr h
end Tg
namespace Tg
open PySem L2 L3
variable {fs:ad}{k:Kd}{x:T}
mutual
def Kd.tr:Kd→T
 |.num w=>.tup [.str "num",.int w]
 |.text=>.tup [.str "text"]
 |.row k=>.tup [.str "row",k.tr]
 |.rec_ fs=>.tup [.str "rec",.tup (DS fs)]
 |.pick fs=>.tup [.str "pick",.tup (DS fs)]
def DS:List (Str×Kd)→List T
 |[]=>[]
 |(n,k)::r=>.tup [.str n,k.tr]::DS r
end
def P0:∀fs:List (Str×Kd),DS fs=fs.map λp=>.tup [.str p.1,p.2.tr]
 |[]=>rfl
 |(n,k)::r=>by rw[DS,P0 r];rfl
def Jf(fs:ad):(DS fs).length=fs.length:=by rw[P0,AM]
def fZ{i:Nat}{n:Str}(h:fs[i]?=some (n,k)):(DS fs)[i]?=some (.tup [.str n,k.tr]):=by rw[P0,FK,h];rfl
abbrev findF:List (Str×Kd)→Str→Option (Nat×Kd)
 |[],_=>none
 |(m,k)::r,n=>if m=n then some (0,k)else(findF r n).map λp=>(p.1+1,p.2)
abbrev El(fs:List (Str×Kd)):T→Option (Nat×Kd)
 |.str n=>findF fs n
 |_=>none
abbrev stepK:Kd→T→Option Kd
 |.row k,.int i=>if 0≤i∧i<60 then some k else none
 |.rec_ fs,x=>(El fs x).map (·.2)
 |.pick fs,x=>(El fs x).map (·.2)
 |_,_=>none
abbrev DE:Kd→List T→Option Kd
 |k,[]=>some k
 |k,p::r=>match stepK k p with|some k'=>DE k' r|none=>none
inductive Sx:T→Prop
 |int (i:Int):Sx (.int i)
 |str {z:Str} (l:z.length≤1000):Sx (.str z)
def Vc:∀{fs:List (Str×Kd)} {n:Str} {j:Nat} {k:Kd},findF fs n=some (j,k)→fs[j]?=some (n,k)
 |[],_,_,_,h=>by cases h
 |(m,q)::r,n,j,k,h=>by
  unfold findF at h;by_cases e:m=n
  ·rw[Ab e]at h;cases h;rw[e];rfl
  ·rw[AP e]at h
   cases f:findF r n with
   |none=>rw[f]at h;cases h
   |some p=>
    rw[f]at h;cases h;show Vc (j:=p.1) (k:=p.2) f
def TA:∀{fs:List (Str×Kd)} {p:Str×Kd},FW fs→p∈fs→p.2.good
 |(nm,k)::r,p,g,h=>by
  unfold FW at g;rcases aaf.mp h with rfl|h
  ·show g.2.1
  ·show TA g.2.2 h
def OG{j:Nat}(h:El fs x=some (j,k)):∃n,x=.str n∧fs[j]?=some (n,k):=by
 cases x with
 |str n=>show⟨n,rfl,Vc h⟩
 |_=>cases h
def aak{k':Kd}(g:k.good)(h:stepK k x=some k'):k'.good∧k'.depth<k.depth:=by
 cases k with
 |num w=>cases x<;>cases h
 |text=>cases x<;>cases h
 |row j=>
  unfold Kd.good at g;rw[Kd.depth];cases x with
  |int i=>
   let h:(if 0≤i∧i<60 then some j else none)=some k':=h;split at h
   ·cases h;show⟨g,by lia⟩
   ·cases h
  |_=>cases h
 |rec_ fs=>
  unfold Kd.good at g;rw[Kd.depth];let h:(El fs x).map (·.2)=some k':=h;cases e:El fs x with
  |none=>rw[e]at h;cases h
  |some p=>
   rw[e]at h;cases h;let⟨n,_,m⟩:=OG (j:=p.1) (k:=p.2) e;let m:=MU m;show⟨TA g.1 m,Nat.lt_succ_of_le (LC m)⟩
 |pick fs=>
  unfold Kd.good at g;rw[Kd.depth];let h:(El fs x).map (·.2)=some k':=h;cases e:El fs x with
  |none=>rw[e]at h;cases h
  |some p=>
   rw[e]at h;cases h;let⟨n,_,m⟩:=OG (j:=p.1) (k:=p.2) e;let m:=MU m;show⟨TA g.1 m,Nat.lt_succ_of_le (LC m)⟩
abbrev CK:T→V
 |.int i=>.int i
 |.str z=>.str z
 |_=>.non
abbrev se:T→Bool
 |.tup _=>true
 |_=>false
mutual
def dT:T→Nat
 |.tup us=>1+(us.filter se).length+bO us
 |_=>0
def bO:List T→Nat
 |[]=>0
 |t::r=>max (dT t) (bO r)
end
end Tg
namespace Tg
open PySem L2 L3
variable {lo r i:Int}{n j lv d m ep:Nat}{x z y:Str}{Γ G Γ0:AJ}{p a f1 f2 pb pf p7 p8 pk b0 b1 b2 b3:Addr}{o:O}{ns:List Str}{c b jT:Bool}{ts:List T}{t:T}{B:Bool×ad}{f C Pd: Addr}{fs gs:List Frq}{H:A4}{P: Program}{w: World}{k:Kd}{zw zu:FuncData}{q:Addr×Addr×Frq}{ks:ad}{hs:Ei}{es:List DictEntry}{Ls:List (List A7)}{X:ad→Bool}{h hd:Hd}{l l':E2}{Γ': AJ}{Ps: List (Str×Pr)}{re: Option Kd}{ds:List (Str×Nat)}{bs:List (List Sm)}{mg: Str→Option Value}{am: Heap}{fd: FuncData}{v1 v2: Value}
abbrev top(i:Nat):Stmt:=PySem.Challenge.pw_tonguegate_k36_names_made_ahead.main.body.getD i (.Pass ⟨0,0,0,0⟩)
abbrev mem(i j:Nat):Stmt:=match top i with
 |.ClassDef _ _ _ b _ _ _ _ _ _ _=>b.getD j (.Pass ⟨0,0,0,0⟩)
 |_=>.Pass ⟨0,0,0,0⟩
local macro_rules | `(tactic| left)=>`(tactic| repeat (first
 |(with_reducible first|refine W7 ?_|refine kS ?_|refine ZP ?_|refine iy ?_|refine iQ ?_)|((with_reducible apply fL);exact rfl)|(with_reducible first|refine ie ?_|refine XI ?_|refine Ly ?_|refine aa ?_|refine br ?_|refine P6 ?_|refine iL ?_|refine bq ?_|refine bT ?_|refine kV ?_|refine ju ?_|refine dj ?_|refine fH ?_|refine gJ ?_|refine ao ?_|refine bw ?_|refine lZ ?_|refine hU ?_|refine hG ?_|refine bE ?_|refine P5 ?_|refine Zk ?_|refine kQ ?_|refine WZ ?_|refine fK ?_|refine gG ?_|refine iG ?_|refine jz ?_|refine Vd ?_|refine jo ?_|refine kH ?_|refine kF ?_|refine iD ?_|refine jq ?_)|((with_reducible refine mm ?_ ?_);exact rfl)|(with_reducible first|refine ZX ?_|refine eY ?_|refine ar ?_|refine dR ?_|refine gZ ?_|refine VL ?_|refine eL ?_|refine iE ?_|refine ag ?_|refine gU ?_|refine dH ?_|refine mQ ?_|refine ZZ ?_|refine iO ?_|refine di ?_|refine cu ?_|refine Z0 ?_|refine cL ?_|refine Zd ?_|refine bM ?_|refine fO ?_|refine gA ?_|refine UJ ?_)|((with_reducible apply B0);(first|assumption|exact Ae);(first|exact SD|exact Ss))|((with_reducible apply m7);(first|assumption|exact Ae);exact rfl)
 |with_reducible refine And.intro (rfl:T.non=T.non) ?_|(with_reducible first|refine PB ?_|refine UD ?_|refine UI ?_|refine lr ?_)|((with_reducible apply gE);exact rfl;exact rfl;exact rfl)|(with_reducible first|refine cf ?_|refine cI ?_|refine ah ?_|refine fE ?_|refine LB ?_|refine Lz ?_|refine LA ?_|refine bB ?_|refine Wv ?_|refine gj ?_)|((with_reducible apply bZ);(first|assumption|exact Ae);exact rfl)|with_reducible refine dS ?_|((with_reducible apply ZU);(first|assumption|exact Ae);exact rfl)|with_reducible refine PH ?_|((with_reducible apply Lw);(first|assumption|exact Ae);exact rfl)|((with_reducible apply Lx);(first|assumption|exact Ae);exact rfl)
 |with_reducible refine mV ?_|((with_reducible apply ZO);(first|assumption|exact Ae);exact rfl)|(with_reducible first|refine dU ?_|refine UG ?_|refine UE ?_|refine UH ?_)|((with_reducible refine kJ ?_ ?_);exact rfl)
 |((with_reducible refine FR ?_ ?_);(first|exact⟨by decide,by decide,by decide⟩|exact⟨by decide,by decide⟩|exact Or.inl ⟨by decide,by decide⟩|exact Or.inr ⟨by decide,by decide⟩|((show(0:Int)<_);decide)))
 |((with_reducible refine KW ?_ ?_);(first|exact rfl|done))|((with_reducible refine JK ?_ ?_);(first|exact rfl|done))))
def Jn{x:T}{r:List T}(h:x::r=EB lo n):∃m,n=m+1∧x=.int lo∧r=EB (lo+1) m:=by
 cases n with
 |zero=>cases h
 |succ m=>cases h;show⟨m,rfl,rfl,rfl⟩
def LO(h:[]=EB lo n):n=0:=by
 cases n with
 |zero=>rfl
 |succ m=>cases h
def B4(e:AA Γ p o=G):G p=some o:=(congrFun e p).symm.trans Ae
def B8(e:AA Γ p o=G)(hp:Γ p=none):Le Γ G:=e ▸ .new hp
local macro_rules|`(tactic|clear $a:ident $b:ident $c:ident $d:ident $e:ident $f:ident)=>`(tactic|(intro $a:ident $b:ident;generalize $c:ident:AA _ $a (O.lst _)=$d:ident;have $e:ident:=B4 $c;have $f:ident:=B8 $c $b))
local macro_rules|`(tactic|revert $a:ident $b:ident $c:ident $d:ident $e:ident $f:ident)=>`(tactic|(generalize $c:ident:AA _ $a (O.lst _)=$d:ident;have $e:ident:=B4 $c;have $f:ident:=B8 $c $b))
local macro_rules|`(tactic|exists $c:ident)=>`(tactic|(left;refine AU (λ$c=>?_) (λ$c=>?_)))
def Dx{ns:List Int}(h:j<ns.length):∃n,n∈ns∧ns[j]?=some n∧CG (ns.map T.int) (j:Int)=some (.int n):=⟨ns[j],G3 h,by simp[h],FA (by simp[h])⟩
abbrev F7(c:Int):Nat→Int
 |0=>c-10^18
 |k+1=>if 0<F7 c k then F7 c k/1000003 else F7 c k
abbrev P8(c:Int)(k:Nat):Int:=(c%1000000007+1)*(2*k+3)%2147483647
abbrev Mn(c:Int)(k:Nat):Int:=(P8 c k^5+((k:Int)+1)^3)%2147483629
abbrev QE(c:Int)(k:Nat):Int:=(Mn c k+c%999983)^3%2147483587/16
abbrev Hg(c:Int)(k:Nat):Int:=if 0<F7 c k then F7 c k%1000003 else QE c k
def nE(c:Int)(k:Nat):0≤P8 c k∧P8 c k<2147483647:=⟨Eh _ (by decide),FN _ (by decide)⟩
def Blk(c:Int)(k:Nat):0≤Mn c k∧Mn c k<2147483629:=⟨Eh _ (by decide),FN _ (by decide)⟩
def wI(c:Int)(k:Nat):0≤Hg c k:=by
 unfold Hg;split
 ·show Eh _ (by decide)
 ·unfold QE
  show Int.ediv_nonneg (Eh _ (by decide)) (by decide)
abbrev FJ(c:Int)(n:Nat):List Int:=(List.range n).map (Hg c)
def UW(c:Int)(n:Nat):(FJ c n).length=n:=by unfold FJ;rw[AM,SQ]
def iH{c:Int}:∀x∈FJ c n,0≤x:=λx h=>by
 let⟨k,_,rfl⟩:=aam.mp h;show wI c k
def aat(c:Int)(n:Nat):FJ c (n+1)=FJ c n++[Hg c n]:=by unfold FJ;rw[Qe,Ad];rfl
section
variable {K: W.Frag}
@[reducible]def Ur:Stmt:=top 71
def bQ:Aq ["cell","count","row","rest","base","more","k","stir"] ["cell","count"] (Ac Ur):=nofun
abbrev Qv:Av:=λts Γ Z _=>∃(c:Int) (n:Nat),ts=[.int c,.int n]∧n≤1000∧∀p,Γ p=none→Z (.ref p) (AA Γ p (.lst ((FJ c n).map T.int)))
def ac5(F:cJ K "_law_draws" "_law_draws" Ur f fd)(cB:mg "range" = none):bc P w K mg am Am 1 f fd ["cell","count"] (Ak Qv):=by
 show B3 F bQ (λts Γ Z Y h=>?_) (λcb A outer s H E ts Γ Z Y hr h=>?_)
 ·let⟨c,n,rfl,_⟩:=h
  rfl
 let⟨c,n,rfl,n1,q⟩:=h;show⟨_,(A3 (As (i:=2) bQ.nd (DA A5))
  (A3 (As (i:=3) bQ.nd (Aa Im (qv 0) (Aa PV A9 A9)))
  (A3 (As (i:=4) bQ.nd (Aa Ez (Aa C0 (qv 0) A9) A9))
  (A3 (As (i:=5) bQ.nd (Aa C0 (qv 0) A9))
  (A3 (Fo GJ rfl (Je rfl cB (A0 (qv 1) A5)) (Aj (i:=6) bQ.nd) (A3 (As (i:=7) bQ.nd (Aa C0 (Aa M7 (qv 4) (Aa Ez (Aa M7 A9 (qv 6)) A9)) A9))
  (A3 (As (i:=7) bQ.nd (Aa C0 (Aa Ez (Aa PV (qv 7) A9) (Aa PV (Aa Ez (qv 6) A9) A9)) A9))
  (A3 (As (i:=7) bQ.nd (Aa HQ (Aa C0 (Aa PV (Aa Ez (qv 7) (qv 5)) A9) A9) A9))
  (A3 (B1 (Ag (B2 JF (qv 3) A9) (A3 (As (i:=7) bQ.nd (Aa C0 (qv 3) A9))
  (A3 (As (i:=3) bQ.nd (Aa HQ (qv 3) A9))
  A8)) A8))
  (A3 (Fq (E0 HI Hv Hr HY (qv 2) (A0 (qv 7) A5)))
  A8))))))
  (A3 (AN (qv 2))
  A8)))))),?_⟩
 simp only[Ap];left;intro p hp;left;show⟨n,rfl,by lia,by lia,?_⟩;show⟨λv4 τ Γ'=>∃(i m:Nat) (o6 o7:Option T),v4=EB i m∧i+m=n∧τ=[some (.int c),some (.int n),some (.ref p),some (.int (F7 c i)),some (.int (c%1000000007+1)),some (.int (c%999983)),o6,o7]∧Γ'=AA Γ p (.lst ((FJ c i).map T.int)),Ψ4 0 n none none ⟨rfl,by lia,rfl,rfl⟩,?_,?_⟩
 ·intro τ Γ'⟨i,m,o6,o7,er,im,rfl,rfl⟩
  let hm:m=0:=by
   cases m with
   |zero=>rfl
   |succ m=>cases er
  subst hm;show⟨trivial,?_⟩;left;have:i=n:=im;subst this;show AB .refl (q p hp)
 ·intro x r τ Γ'⟨i,m,o6,o7,er,im,rfl,rfl⟩
  let⟨m',rfl,rfl,rfl⟩:=Jn er;let ab:=nE c i;let bb:=Blk c i;let mb:0≤c%999983∧c%999983<999983:=⟨Eh _ (by decide),FN _ (by decide)⟩;left;show FR (.inr ⟨by lia,by lia⟩) ?_;left;show FR ⟨by decide,by decide,?_⟩ ?_
  ·show(P8 c i).natAbs<2^64
   lia
  left;show FR ⟨by decide,by decide,by lia⟩ ?_;left;show FR ⟨by decide,by decide,?_⟩ ?_
  ·show(Mn c i+c%999983).natAbs<2^64
   lia
  left;show⟨λτ Γ'=>τ=[some (.int c),some (.int n),some (.ref p),some (.int (F7 c (i+1))),some (.int (c%1000000007+1)),some (.int (c%999983)),some (.int i),some (.int (Hg c i))]∧Γ'=AA Γ p (.lst ((FJ c i).map T.int)),?_,?_⟩
  ·left
   show AU (λcc=>?_) (λcc=>?_)
   ·let cc:=Cc cc
    left;let e1:F7 c (i+1)=F7 c i/1000003:=by rw[F7,Ab cc]
    let e2:Hg c i=F7 c i%1000003:=by rw[Hg,Ab cc]
    rw[e1,e2];show⟨rfl,rfl⟩
   ·let cc:=Eu cc
    left;let e1:F7 c (i+1)=F7 c i:=by rw[F7,AP cc]
    let e2:Hg c i=QE c i:=by rw[Hg,AP cc]
    rw[e1,e2];show⟨rfl,rfl⟩
  intro τ Γ'⟨rfl,rfl⟩;left;show Qy Ae ?_;left;show Ψ3 p ((FJ c i).map T.int) _ ⟨rfl,rfl,Ae,Cr (by rw[AM,UW];lia),?_⟩;left;show Ψ4 (i+1) m' _ _ ⟨rfl,by lia,rfl,?_⟩;rw[Mq,aat,Ad];rfl
end
inductive Pt(Γ:AJ):T→Prop
 |non:Pt Γ .non
 |bl (b:Bool):Pt Γ (.bl b)
 |int (i:Int):Pt Γ (.int i)
 |str {z:Str} (l:z.length≤100000):Pt Γ (.str z)
 |tup {ts:List T} (l:ts.length≤100000) (h:∀t∈ts,Pt Γ t):Pt Γ (.tup ts)
 |lst {a:Addr} {ts:List T} (g:Γ a=some (.lst ts)):Pt Γ (.ref a)
 |dct {a:Addr} {aq:List (A7×T)} (g:Γ a=some (.dK aq)):Pt Γ (.ref a)
def Pt.items(h:Pt Γ (.tup ts)):ts.length≤100000∧∀t∈ts,Pt Γ t:=by
 cases h with
 |tup l h=>show⟨l,h⟩
def Pt.txt(h:Pt Γ (.str z)):z.length≤100000:=by
 cases h with
 |str l=>show l
abbrev isTup:T→Bool|.tup _=>true|_=>false
abbrev isStr:T→Bool|.str _=>true|_=>false
abbrev isInt:T→Bool|.int _=>true|.bl _=>true|_=>false
abbrev acd:T→Bool|.bl _=>true|_=>false
abbrev TI:T→Bool|.int _=>true|_=>false
def Hu(h:isTup t=true):∃ts,t=.tup ts:=by
 cases t with
 |tup ts=>show⟨ts,rfl⟩
 |_=>cases h
def M3(h:isStr t=true):∃z,t=.str z:=by
 cases t with
 |str z=>show⟨z,rfl⟩
 |_=>cases h
def Rj(h:TI t=true):∃i,t=.int i:=by
 cases t with
 |int i=>show⟨i,rfl⟩
 |_=>cases h
section
variable {K: W.Frag}{Γ: AJ}{t: T}
def GC(g:Γ a=some (.lst ts)):EA Γ (.ref a)=some "list" := by
 show(match Γ a with|some (.lst _)=>some "list" |some (.dK _)=>some "dict" |_=>none)=_
 rw[g]
def J0{ts:List (A7×T)}(g:Γ a=some (.dK ts)):EA Γ (.ref a)=some "dict" := by
 show(match Γ a with|some (.lst _)=>some "list" |some (.dK _)=>some "dict" |_=>none)=_
 rw[g]
def HX(h:Pt Γ t):∃n,EA Γ t=some n∧W.kitOne K (.type n) (.type "tuple")=some (isTup t):=by
 cases h with
 |lst g=>show⟨_,GC g,rfl⟩
 |dct g=>show⟨_,J0 g,rfl⟩
 |_=>show⟨_,rfl,rfl⟩
def in_str(h:Pt Γ t):∃n,EA Γ t=some n∧W.kitOne K (.type n) (.type "str")=some (isStr t):=by
 cases h with
 |lst g=>show⟨_,GC g,rfl⟩
 |dct g=>show⟨_,J0 g,rfl⟩
 |_=>show⟨_,rfl,rfl⟩
def aaJ(h:Pt Γ t):∃n,EA Γ t=some n∧W.kitOne K (.type n) (.type "int")=some (isInt t):=by
 cases h with
 |lst g=>show⟨_,GC g,rfl⟩
 |dct g=>show⟨_,J0 g,rfl⟩
 |_=>show⟨_,rfl,rfl⟩
def g0(h:Pt Γ t):∃n,EA Γ t=some n∧W.kitOne K (.type n) (.type "bool")=some (acd t):=by
 cases h with
 |lst g=>show⟨_,GC g,rfl⟩
 |dct g=>show⟨_,J0 g,rfl⟩
 |_=>show⟨_,rfl,rfl⟩
def ET{Ty:String}{B:T→Bool}{Q:Bool→Prop}(h:∃n,EA Γ t=some n∧W.kitOne K (.type n) (.type Ty)=some (B t))(q:Q (B t)):∃n b,EA Γ t=some n∧W.kitOne K (.type n) (.type Ty)=some b∧Q b:=by
 let⟨n,a,b⟩:=h;show Ψ2 n _ ⟨a,b,q⟩
end
abbrev Jx(c:Nat):Bool:=!(Builtin.Str.occurrences Pc ⟨#[c]⟩ 0 Pc.length 1).isEmpty
def abL:∀c:Nat,c<128→Jx c=(decide (97≤c)&&decide (c≤122)):=by done
abbrev EG:T→Bool
 |.str z=>decide (1≤z.length)&&decide (z.length≤8)&&z.cps.toList.all Jx
 |_=>false
def Oe(z:Str):EG (.str z)=(decide (1≤z.length)&&decide (z.length≤8)&&z.cps.toList.all Jx):=rfl
def fB(h:EG t=true):∃z,t=.str z:=by
 cases t with
 |str z=>show⟨z,rfl⟩
 |_=>cases h
abbrev Fb(f:T→Bool):T→Bool
 |.tup [a,b]=>EG a&&f b
 |_=>false
abbrev GX:T→Str
 |.tup (.str z::_)=>z
 |_ => ""
abbrev M8(f:T→Bool):T→Bool
 |.tup ts=>decide (1≤ts.length)&&decide (ts.length≤6)&&ts.all (Fb f)&&decide (ts.map GX).Nodup
 |_=>false
abbrev VI:T→Bool
 |.int i=>decide (1≤i)&&decide (i≤4)
 |_=>false
abbrev Bf:Nat→T→Bool
 |d+1,.tup [.str h]=>decide (h = "text")
 |d+1,.tup [.str h,x]=>if h = "num" then VI x else if h = "row" then Bf d x else(decide (h = "rec")||decide (h = "pick"))&&M8 (Bf d) x
 |_,_=>false
def aaF{f:T→Bool}(h:Fb f t=true):∃z b,t=.tup [.str z,b]∧EG (.str z)=true∧f b=true:=by
 unfold Fb at h;split at h
 ·rename_i a b
  rw[EO]at h;let⟨z,rfl⟩:=fB h.1;show Ψ2 z b ⟨rfl,h.1,h.2⟩
 ·cases h
section
variable {K: W.Frag}
@[reducible]def QR:Stmt:=top 10
def adw:Aq ["thing"] ["thing"] (Ac QR):=nofun
abbrev Hi:Av:=λts Γ Z _=>∃t:T,ts=[t]∧Pt Γ t∧Z (.bl (TI t)) Γ
def pG(F:cJ K "is_whole" "is_whole" QR f fd)(ai:mg "isinstance" = none)(CJ:mg "int" = none)(oF:mg "bool" = none):bc P w K mg am Am 1 f fd ["thing"] (Ak Hi):=by
 show B3 F adw (λts Γ Z Y h=>?_) (λcb A outer s H E ts Γ Z Y hr h=>?_)
 ·let⟨t,rfl,_⟩:=h
  rfl
 let⟨t,rfl,pt,q⟩:=h;show⟨_,(A3 (AN (CV (D4 rfl ai rfl CJ abR (qv 0)) (CU (nJ (D4 rfl ai rfl oF mG (qv 0))))))
  A8),?_⟩
 simp only[Ap];left;show ET (aaJ pt) ?_;exists c
 ·left
  show ET (g0 pt) ?_;left;show AB .refl ?_;cases t with
  |int i=>show q
  |bl b=>show q
  |_=>cases c
 ·show AB .refl ?_
  cases t with
  |int i=>cases c
  |bl b=>cases c
  |_=>show q
@[reducible]def Rh:Stmt:=top 11
def ac9:Aq ["thing"] ["thing"] (Ac Rh):=nofun
abbrev Ip:Av:=λts Γ Z _=>∃t:T,ts=[t]∧Pt Γ t∧Z (.bl (EG t)) Γ
def wg(F:cJ K "is_name" "is_name" Rh f fd)(iJ:mg "LONGEST_NAME" = some v1)(sD:D5 v1 (.int 8))(oV:mg "LETTERS" = some v2)(B6:D5 v2 (.str Pc))(ai:mg "isinstance" = none)(cK:mg "str" = none)(aB:mg "len" = none)(bp:mg "all" = none):bc P w K mg am Am 1 f fd ["thing"] (Ak Ip):=by
 show B3 F ac9 (λts Γ Z Y h=>?_) (λcb A outer s H E ts Γ Z Y hr h=>?_)
 ·let⟨t,rfl,_⟩:=h
  rfl
 let⟨t,rfl,pt,q⟩:=h;show⟨_,(A3 (Ag (PW.pt (CQ (BL (BI (D4 rfl ai rfl cK JU (qv 0)))) (D3 (BL (S9 FF FF A9 (Ar RB rfl aB BC (A0 (qv 0) A5)) (ED rfl iJ sD)))))) (A3 (AN BE)
  A8) A8)
  (A3 (AN (Ar (FH rfl) rfl bp FD (A0 (EC (own:=["sign"]) (cap:=[]) F0 rfl (aL (qv 0)) (λ_ _ _ _=>II) (λ_ _ _ _=>Dv) (λ_ _ _ _=>(HF abA (qv 0) (ED rfl oV B6) (by with_unfolding_all rfl)))) A5)))
  A8)),?_⟩
 simp only[Ap];left;show ET (in_str pt) ?_;exists c
 ·left
  show AB .refl ?_;cases t with
  |str z=>cases c
  |_=>show q
 let⟨z,rfl⟩:=M3 (t:=t) (by cases h:isStr t with|true=>rfl|false=>rw[h]at c;cases c);let zl:=pt.txt;left;show⟨z,rfl,Cu zl (by decide),?_⟩;left;let no:EG (.str z)=false→EP Z (.bl false) Γ:=λh=>by rw[h]at q;show AB .refl q
 show AU (λc1=>?_) (λc1=>?_);rotate_left
 ·let c1:=Eu c1
  left;show no ?_;rw[Oe,DN (show ¬1≤z.length by lia)];rfl
 let c1:=Cc c1;exists c2
 ·let c2:¬(z.length:Int)≤8:=by simpa using c2
  left;show no ?_;rw[Oe,DN (show ¬z.length≤8 by lia),Bool.and_false];rfl
 let c2:(z.length:Int)≤8:=by simpa using c2
 left;show⟨Cn (Cr (by unfold I0;rw[AM,G9];lia)),?_⟩;show⟨λv4 τ ys Γ'=>∃(cs ds:List Nat) (o:Option T),v4=cs.map (λc=>T.str ⟨#[c]⟩)∧z.cps.toList=ds++cs∧τ=[o]∧ys=(ds.map Jx).map T.bl∧Γ'=Γ,Ψ3 z.cps.toList [] none ⟨rfl,rfl,rfl,rfl,rfl⟩,?_,?_⟩
 ·intro τ ys Γ'⟨cs,ds,o,er,ez,rfl,rfl,rfl⟩
  let hz:cs=[]:=by
   cases cs with
   |nil=>rfl
   |cons _ _=>cases er
  subst hz;rw[BN]at ez;subst ez;show⟨trivial,?_⟩;clear p1 ki e1 Γ1 g1 l1
  left;show Ψ2 p1 _ ⟨rfl,Bx g1,?_⟩;have:(z.cps.toList.map Jx).all id=EG (.str z):=by
   rw[Oe,Bi (show 1≤z.length by lia),Bi (show z.length≤8 by lia),FY];rfl
  rw[this];show AB l1 q
 ·intro x r τ ys Γ'⟨cs,ds,o,er,ez,rfl,rfl,rfl⟩
  cases cs with
  |nil=>cases er
  |cons c cs=>
   cases er;show⟨trivial,?_⟩;left;show Ψ2 _ _ ⟨rfl,rfl,?_⟩;show Ψ3 cs (ds++[c]) _ ⟨rfl,by rw[ez];simp,rfl,by rw[Ad,Ad];rfl,rfl⟩
@[reducible]def N6:Stmt:=top 15
def uZ:Aq ["thing","depth"] ["thing","depth"] (Ac N6):=nofun
abbrev Ql(n:Nat):Av:=λts Γ Z _=>∃(t:T) (d:Nat),ts=[t,.int d]∧d<n∧Pt Γ t∧Z (.bl (Fb (Bf d) t)) Γ
abbrev MJ(n:Nat):Av:=λts Γ Z _=>∃(t:T) (d:Nat),ts=[t,.int d]∧d<n∧Pt Γ t∧Z (.bl (Bf d t)) Γ
def pj{f:T→Bool}(h:ts.length≠2):Fb f (.tup ts)=false:=by
 unfold Fb;split
 ·rename_i e;cases e;show absurd rfl h
 ·rfl
def adG(F:cJ K "is_field" "is_field" N6 f fd)(cm:AY P w K mg am "is_name" 1 ["thing"] Ip)(de:AY P w K mg am "is_kind_within" (lv+1) ["thing","depth"] (MJ n))(ai:mg "isinstance" = none)(aC:mg "tuple" = none)(aB:mg "len" = none):bc P w K mg am Am (lv+2) f fd ["thing","depth"] (Ak (Ql n)):=by
 show B3 F uZ (λts Γ Z Y h=>?_) (λcb A outer s H E ts Γ Z Y hr h=>?_)
 ·let⟨t,d,rfl,_⟩:=h
  rfl
 let⟨t,d,rfl,dn,pt,q⟩:=h;show⟨_,(A3 (Ag (PW.pt (CQ (BL (BI (D4 rfl ai rfl aC Dm (qv 0)))) (D3 (B2 E3 (Ar Bw rfl aB BC (A0 (qv 0) A5)) A9)))) (A3 (AN BE)
  A8) A8)
  (A3 (AN (CV (Af cm hr (A0 (AO (qv 0) A9) A5)) (CU (Af de hr (A0 (AO (qv 0) A9) (A0 (qv 1) A5))))))
  A8)),?_⟩
 simp only[Ap];left;show ET (HX pt) ?_;exists c
 ·left
  show AB .refl ?_;cases t with
  |tup ts=>cases c
  |_=>show q
 let⟨ts,rfl⟩:=Hu (t:=t) (by cases h:isTup t with|true=>rfl|false=>rw[h]at c;cases c);let⟨tl,tm⟩:=pt.items;exists c1
 ·let c1:ts.length≠2:=λe=>by rw[e]at c1;revert c1;decide
  left;rw[pj c1]at q;show AB .refl q
 let c1:ts.length=2:=by
  have:decide (V.int (ts.length:Int)=V.int 2)=true:=by simpa using c1
  have:=Ky this;lia
 match ts,c1 with
 |[a,b],_=>
  left;show⟨a,rfl,tm a (by simp),?_⟩;left;let q:Z (.bl (EG a&&Bf d b)) Γ:=q;show AU (λc2=>?_) (λc2=>?_)
  ·rw[c2,Bd]at q
   left;show Ψ2 b d ⟨rfl,dn,tm b (by simp),AB .refl q⟩
  ·rw[c2,Dw]at q
   show AB .refl q
@[reducible]def N7:Stmt:=top 14
def wc:Aq ["thing","depth"] ["thing","depth"] (Ac N7):=nofun
abbrev Qr(n:Nat):Av:=λts Γ Z _=>∃(t:T) (d:Nat),ts=[t,.int d]∧d<n∧Pt Γ t∧Z (.bl (M8 (Bf d) t)) Γ
def L9(f:T→Bool)(ts:List T):M8 f (.tup ts)=(decide (1≤ts.length)&&decide (ts.length≤6)&&ts.all (Fb f)&&decide (ts.map GX).Nodup):=rfl
def ox(F:cJ K "are_fields" "are_fields" N7 f fd)(dk:mg "MOST_FIELDS" = some v1)(gN:D5 v1 (.int 6))(zO:AY P w K mg am "is_field" (lv+2) ["thing","depth"] (Ql n))(ai:mg "isinstance" = none)(aC:mg "tuple" = none)(aB:mg "len" = none)(bp:mg "all" = none):bc P w K mg am Am (lv+3) f fd ["thing","depth"] (Ak (Qr n)):=by
 show B3 F wc (λts Γ Z Y h=>?_) (λcb A outer s H E ts Γ Z Y hr h=>?_)
 ·let⟨t,d,rfl,_⟩:=h
  rfl
 let⟨t,d,rfl,dn,pt,q⟩:=h;show⟨_,(A3 (Ag (PW.pt (CQ (BL (BI (D4 rfl ai rfl aC Dm (qv 0)))) (D3 (BL (S9 FF FF A9 (Ar Bw rfl aB BC (A0 (qv 0) A5)) (ED rfl dk gN)))))) (A3 (AN BE)
  A8) A8)
  (A3 (Ag (BL (BI (Ar (FH rfl) rfl bp FD (A0 (EC (own:=["field"]) (cap:=[(1,"depth")]) (Fj rfl (by done) (by done) rfl (⟨rfl,trivial⟩) rfl (⟨⟨rfl,rfl,rfl⟩,trivial⟩)) rfl (E4 (qv 0)) (λ_ _ _ _=>(Bb (i:=0) (show List.Nodup (["field","depth"]:List Str)from by done) rfl (Or.inl rfl) (Or.inr rfl))) (λ_ _ _ _=>Dv) (λ_ _ _ _=>(Af zO hr (A0 (qv 0) (A0 (qv 1) A5))))) A5)))) (A3 (AN BE)
  A8) A8)
  (A3 (AN (Dh Bm (Ar lV rfl aB BC (A0 (fD (own:=["name","inner"]) (cap:=[]) F0 rfl (E4 (qv 0)) (λ_ _ _ _=>(Bn (n:=2) rfl (AS (Bb (i:=0) (show List.Nodup (["name","inner"]:List Str)from by done) rfl (Or.inl rfl) (Or.inr rfl)) (AS (Bb (i:=1) (show List.Nodup (["name","inner"]:List Str)from by done) rfl (Or.inl rfl) (Or.inr rfl)) Bu)))) (λ_ _ _ _=>(qv 0))) A5)) (Ar Bw rfl aB BC (A0 (qv 0) A5))))
  A8))),?_⟩
 simp only[Ap];left;show ET (HX pt) ?_;exists c
 ·left
  show AB .refl ?_;cases t with
  |tup ts=>cases c
  |_=>show q
 let⟨ts,rfl⟩:=Hu (t:=t) (by cases h:isTup t with|true=>rfl|false=>rw[h]at c;cases c);let⟨tl,tm⟩:=pt.items;let no:M8 (Bf d) (.tup ts)=false→EP Z (.bl false) Γ:=λh=>by rw[h]at q;show AB .refl q
 exists c1;rotate_left
 ·let c1:=Eu c1
  left;show no ?_;rw[L9,DN (show ¬1≤ts.length by lia)];rfl
 let c1:=Cc c1;exists c2
 ·let c2:¬(ts.length:Int)≤6:=by simpa using c2
  left;show no ?_;rw[L9,DN (show ¬ts.length≤6 by lia),Bool.and_false];rfl
 let c2:(ts.length:Int)≤6:=by simpa using c2
 rw[L9,Bi (show 1≤ts.length by lia),Bi (show ts.length≤6 by lia),Bd,Bd]at q;clear no;left;show⟨Cn (Cr (by lia)),?_⟩;show⟨λv4 τ ys Γ'=>∃(ds:List T) (o:Option T),ts=ds++v4∧τ=[o,some (.int d)]∧ys=(ds.map (Fb (Bf d))).map T.bl∧Γ'=Γ,Ψ2 [] none ⟨rfl,rfl,rfl,rfl⟩,?_,?_⟩;rotate_left
 ·intro x r τ ys Γ'⟨ds,o,ez,rfl,rfl,rfl⟩
  show⟨trivial,?_⟩;left;show Ψ2 x d ⟨rfl,dn,tm x (by rw[ez];simp),?_⟩;show Ψ2 (ds++[x]) _ ⟨by rw[ez];simp,rfl,by rw[Ad,Ad];rfl,rfl⟩
 intro τ ys Γ'⟨ds,o,ez,rfl,rfl,rfl⟩;rw[BN]at ez;subst ez;show⟨trivial,?_⟩;clear p1 ki e1 Γ1 g1 l1
 left;show Ψ2 p1 _ ⟨rfl,Bx g1,?_⟩;rw[show(ts.map (Fb (Bf d))).all id=ts.all (Fb (Bf d))by rw[FY];rfl];exists c3
 ·let c3:ts.all (Fb (Bf d))=false:=by simpa using c3
  left;rw[c3,Dw]at q;show AB l1 q
 let c3:ts.all (Fb (Bf d))=true:=by simpa using c3
 rw[c3,Bd]at q;let all:=aa2.mp c3;left;unfold N8;left;show⟨by lia,?_⟩;show⟨λv4 τ ys Γ'=>∃(ds:List T) (o0 o1:Option T),ts=ds++v4∧τ=[o0,o1]∧ys=ds.map GX∧Γ'=Γ1,Ψ3 [] none none ⟨rfl,rfl,rfl,rfl⟩,?_,?_⟩;rotate_left
 ·intro x r τ ys Γ'⟨ds,o0,o1,ez,rfl,rfl,rfl⟩
  let⟨z,b,rfl,_,_⟩:=aaF (all x (by rw[ez];simp));show⟨trivial,?_⟩;left;show Ψ3 (ds++[.tup [.str z,b]]) _ _ ⟨by rw[ez];simp,rfl,by rw[Ad];rfl,rfl⟩
 intro τ ys Γ'⟨ds,o0,o1,ez,rfl,rfl,rfl⟩;rw[BN]at ez;subst ez;show⟨trivial,λD S n on hD=>?_⟩;left;show Ψ3 D S n ⟨rfl,Ae,?_⟩;left;have:decide (V.int (n:Int)=V.int (ts.length:Nat))=decide (ts.map GX).Nodup:=by
  let e:(V.int (n:Int)=V.int (ts.length:Nat)) ↔(ts.map GX).Nodup:=by
   rcases on.2 with⟨a,b⟩|⟨a,b⟩
   ·rw[AM]at b
    show⟨λ_=>a,λ_=>by rw[b]⟩
   ·rw[AM]at b
    show⟨λh=>by have:=V.int.inj h;lia,λh=>absurd h a⟩
  show aba.mpr e
 rw[this];show AB (l1.trans (.new hD)) q
@[reducible]def P9:Stmt:=top 13
def fv:Aq ["thing","depth","head","inner"] ["thing","depth"] (Ac P9):=nofun
def acA(n:Nat):DX (.int (n:Int)) [.int 1,.int 2]=(decide (n=1)||decide (n=2)):=by
 rw[GG];simp[DX,ER];lia
def yi(z:Str):DX (.str z) [.str "rec",.str "pick"]=(decide (z = "rec")||decide (z = "pick")):=by
 rw[show [V.str "rec",V.str "pick"]=(["rec","pick"]:List Str).map V.str from rfl,KN,GG];simp
def pE(h:ts.length≠1)(h':ts.length≠2):Bf d (.tup ts)=false:=by
 unfold Bf;split
 ·rename_i e;cases e;show absurd rfl h
 ·rename_i e;cases e;show absurd rfl h'
 ·rfl
def acK(h:isStr t=false):Bf d (.tup (t::ts))=false:=by
 unfold Bf;split
 ·rename_i e;cases e;cases h
 ·rename_i e;cases e;cases h
 ·rfl
def adB(h:isTup t=false):Bf d t=false:=by
 unfold Bf;split
 ·cases h
 ·cases h
 ·rfl
def aR(d:Nat)(h:Str):Bf (d+1) (.tup [.str h])=decide (h = "text"):=by rw[Bf]
def LR(d:Nat)(h:Str)(x:T):Bf (d+1) (.tup [.str h,x])=if h = "num" then VI x else if h = "row" then Bf d x else(decide (h = "rec")||decide (h = "pick"))&&M8 (Bf d) x:=by rw[Bf]
def aai(F:cJ K "is_kind_within" "is_kind_within" P9 f fd)(dW:mg "WIDEST_NUM" = some v1)(ip:D5 v1 (.int 4))(bR:AY P w K mg am "is_whole" 1 ["thing"] Hi)(de:AY P w K mg am "is_kind_within" (lv+1) ["thing","depth"] (MJ n))(v5:AY P w K mg am "are_fields" (lv+3) ["thing","depth"] (Qr n))(ai:mg "isinstance" = none)(aC:mg "tuple" = none)(cK:mg "str" = none)(aB:mg "len" = none):bc P w K mg am Am (lv+4) f fd ["thing","depth"] (Ak (MJ (n+1))):=by
 show B3 F fv (λts Γ Z Y h=>?_) (λcb A outer s H E ts Γ Z Y hr h=>?_)
 ·let⟨t,d,rfl,_⟩:=h
  rfl
 let⟨t,d,rfl,dn,pt,q⟩:=h;show⟨_,(A3 (Ag (PW.pt (CQ (B2 LK (qv 1) A9) (CQ (BL (BI (D4 rfl ai rfl aC Dm (qv 0)))) (D3 (L0 SX (Ar Bw rfl aB BC (A0 (qv 0) A5)) (BM (A0 A9 (A0 A9 A5))) (by with_unfolding_all rfl)))))) (A3 (AN BE)
  A8) A8)
  (A3 (As (i:=2) fv.nd (AO (qv 0) A9))
  (A3 (Ag (BL (BI (D4 rfl ai rfl cK JU (qv 2)))) (A3 (AN BE)
  A8) A8)
  (A3 (Ag (B2 Bm (Ar Bw rfl aB BC (A0 (qv 0) A5)) A9) (A3 (AN (Dh Bm (qv 2) Al))
  A8) A8)
  (A3 (As (i:=3) fv.nd (AO (qv 0) A9))
  (A3 (Ag (B2 Bm (qv 2) Al) (A3 (AN (CV (Af bR hr (A0 (qv 3) A5)) (CU (Q2 FF FF A9 (qv 3) (ED rfl dW ip)))))
  A8) A8)
  (A3 (Ag (B2 Bm (qv 2) Al) (A3 (AN (Af de hr (A0 (qv 3) (A0 (Aa Im (qv 1) A9) A5))))
  A8) A8)
  (A3 (AN (CV (HF dC (qv 2) (BM (A0 Al (A0 Al A5))) (by with_unfolding_all rfl)) (CU (Af v5 hr (A0 (qv 3) (A0 (Aa Im (qv 1) A9) A5))))))
  A8)))))))),?_⟩
 simp only[Ap];let no:Bf d t=false→EP Z (.bl false) Γ:=λh=>by rw[h]at q;show AB .refl q
 exists c
 ·let c:=Cc c
  have:d=0:=by lia
  subst this;left;show no (by unfold Bf;rfl)
 let c:=Eu c;obtain⟨d,rfl⟩:∃e,d=e+1:=⟨d-1,by lia⟩;left;show ET (HX pt) ?_;exists c
 ·left
  show no (adB (by simpa using c))
 let⟨ts,rfl⟩:=Hu (t:=t) (by simpa using c);let⟨tl,tm⟩:=pt.items;left;show if(!DX (.int (ts.length:Int)) [.int 1,.int 2])=true then _ else _
 rw[acA];show AU (λc1=>?_) (λc1=>?_)
 ·left
  let c1:ts.length≠1∧ts.length≠2:=by simpa using c1
  show no (pE c1.1 c1.2)
 let c1:ts.length=1∨ts.length=2:=by
  have:¬ts.length=1→ts.length=2:=by simpa using c1
  lia
 obtain⟨h,ys,rfl⟩:∃h ys,ts=h::ys:=by
  cases ts with
  |nil=>show absurd c1 (by simp)
  |cons h ys=>show Ψ2 h ys rfl
 left;show ET (in_str (tm h (by simp))) ?_;exists c2
 ·left
  show no (acK (by simpa using c2))
 let⟨z,rfl⟩:=M3 (t:=h) (by simpa using c2);clear no;left;match ys,c1 with
 |[],_=>
  left;rw[aR]at q;let e:decide (V.str z=V.str "text")=decide (z = "text"):=aba.mpr ⟨V.str.inj,λe=>by rw[e]⟩;rw[e];show AB .refl q
 |[x],_=>
  let px:=tm x (by simp);rw[LR]at q;exists c3
  ·rw[Ab (QL c3)]at q
   left;show⟨x,rfl,px,?_⟩;exists c4
   ·let⟨i,rfl⟩:=Rj c4
    left;let q:Z (.bl (decide (1≤i)&&decide (i≤4))) Γ:=q;show AU (λc5=>?_) (λc5=>?_)
    ·rw[c5,Bd]at q
     left;show AB .refl q
    ·rw[c5,Dw]at q
     show AB .refl q
   ·have:VI x=false:=by
     cases x with
     |int i=>cases c4
     |_=>rfl
    rw[this]at q;show AB .refl q
  rw[AP (Rp c3)]at q;exists c4
  ·rw[Ab (QL c4)]at q
   left;show Ψ2 x d ⟨by rw[show((d+1:Nat):Int)-1=(d:Int)by lia],by lia,px,AB .refl q⟩
  rw[AP (Rp c4)]at q;left;show if DX (.str z) [.str "rec",.str "pick"]=true then _ else _
  rw[yi];show AU (λc5=>?_) (λc5=>?_)
  ·rw[c5,Bd]at q
   left;show Ψ2 x d ⟨by rw[show((d+1:Nat):Int)-1=(d:Int)by lia],by lia,px,AB .refl q⟩
  ·rw[c5,Dw]at q
   show AB .refl q
@[reducible]def QK:Stmt:=top 12
def yn:Aq ["thing"] ["thing"] (Ac QK):=nofun
abbrev KC:Av:=λts Γ Z _=>∃t:T,ts=[t]∧Pt Γ t∧Z (.bl (Bf 5 t)) Γ
def wb(F:cJ K "is_kind" "is_kind" QK f fd)(iK:mg "DEEPEST_KIND" = some v1)(sE:D5 v1 (.int 5))(de:AY P w K mg am "is_kind_within" 19 ["thing","depth"] (MJ 6)):bc P w K mg am Am 20 f fd ["thing"] (Ak KC):=by
 show B3 F yn (λts Γ Z Y h=>?_) (λcb A outer s H E ts Γ Z Y hr h=>?_)
 ·let⟨t,rfl,_⟩:=h
  rfl
 let⟨t,rfl,pt,q⟩:=h;show⟨_,(A3 (AN (Af de hr (A0 (qv 0) (A0 (ED rfl iK sE) A5))))
  A8),?_⟩
 simp only[Ap];left;show Ψ2 t 5 ⟨rfl,by decide,pt,AB .refl q⟩
end
@[reducible]def jX:List Str:=["copy","give","lend","lease"]
abbrev Hm:T→Bool
 |.int i=>decide (i=0)||decide (i=1)
 |_=>false
abbrev SI:T→Bool
 |.str z=>decide (z∈jX)
 |_=>false
abbrev G7:T→Bool
 |.tup [a,b,c]=>EG a&&(SI b&&Bf 5 c)
 |_=>false
abbrev JR:T→Bool
 |.tup ts=>ts.all G7&&decide (ts.map GX).Nodup
 |_=>false
abbrev L4:T→Bool
 |.non=>true
 |t=>Bf 5 t
abbrev Mx:T→Bool
 |.tup [a,b,c,d]=>EG a&&(Hm b&&(JR c&&L4 d))
 |_=>false
def nS(h:ts.length≠3):G7 (.tup ts)=false:=by
 unfold G7;split
 ·rename_i e;cases e;show absurd rfl h
 ·rfl
def oX(h:ts.length≠4):Mx (.tup ts)=false:=by
 unfold Mx;split
 ·rename_i e;cases e;show absurd rfl h
 ·rfl
def uV(h:G7 t=true):∃z b c,t=.tup [.str z,b,c]:=by
 unfold G7 at h;split at h
 ·rename_i a b c
  rw[EO]at h;let⟨z,rfl⟩:=fB h.1;show Ψ3 z b c rfl
 ·cases h
def kD(ts:List T):JR (.tup ts)=(ts.all G7&&decide (ts.map GX).Nodup):=rfl
def yC(i:Int):DX (.int i) [.int 0,.int 1]=Hm (.int i):=by
 show _=(decide (i=0)||decide (i=1))
 rw[GG];simp[DX,ER];lia
section
variable {K: W.Frag}{aS aW: Addr}
@[reducible]def VE:Stmt:=top 35
def sG:Aq ["thing"] ["thing"] (Ac VE):=nofun
abbrev QJ:Av:=λts Γ Z _=>∃t:T,ts=[t]∧Pt Γ t∧Z (.bl (Hm t)) Γ
def aaZ(F:cJ K "is_side" "is_side" VE f fd)(bR:AY P w K mg am "is_whole" 1 ["thing"] Hi)(vt:mg "SIDES" = some (.ref aS))(vw:ef K aS [.int 0,.int 1]):bc P w K mg am Am 2 f fd ["thing"] (Ak QJ):=by
 let IE:D5 (.ref aS) (.ref aS):=M0;show B3 F sG (λts Γ Z Y h=>?_) (λcb A outer s H E ts Γ Z Y hr h=>?_)
 ·let⟨t,rfl,_⟩:=h
  rfl
 let⟨t,rfl,pt,q⟩:=h;show⟨_,(A3 (AN (CV (Af bR hr (A0 (qv 0) A5)) (CU (HF (W9 vw rfl) (qv 0) (ED rfl vt IE) (by with_unfolding_all rfl)))))
  A8),?_⟩
 simp only[Ap];left;show⟨t,rfl,pt,?_⟩;exists c
 ·let⟨i,rfl⟩:=Rj c
  left;show⟨_,rfl,rfl,rfl,?_⟩;rw[yC];show AB .refl q
 ·have:Hm t=false:=by
   cases t with
   |int i=>cases c
   |_=>rfl
  rw[this]at q;show AB .refl q
@[reducible]def Ud:Stmt:=top 37
def iV:Aq ["thing","name","way","kind"] ["thing"] (Ac Ud):=nofun
abbrev dh:Av:=λts Γ Z _=>∃t:T,ts=[t]∧Pt Γ t∧Z (.bl (G7 t)) Γ
def uE(F:cJ K "is_place" "is_place" Ud f fd)(cm:AY P w K mg am "is_name" 1 ["thing"] Ip)(dv:AY P w K mg am "is_kind" 20 ["thing"] KC)(zb:mg "WAYS" = some (.ref aW))(zh:ef K aW (jX.map V.str))(ai:mg "isinstance" = none)(aC:mg "tuple" = none)(cK:mg "str" = none)(aB:mg "len" = none):bc P w K mg am Am 21 f fd ["thing"] (Ak dh):=by
 let N4:D5 (.ref aW) (.ref aW):=M0;show B3 F iV (λts Γ Z Y h=>?_) (λcb A outer s H E ts Γ Z Y hr h=>?_)
 ·let⟨t,rfl,_⟩:=h
  rfl
 let⟨t,rfl,pt,q⟩:=h;show⟨_,(A3 (Ag (PW.pt (CQ (BL (BI (D4 rfl ai rfl aC Dm (qv 0)))) (D3 (B2 E3 (Ar Bw rfl aB BC (A0 (qv 0) A5)) A9)))) (A3 (AN BE)
  A8) A8)
  (A3 (EK (qv 0) (Bn (n:=3) rfl (AS (Aj (i:=1) iV.nd) (AS (Aj (i:=2) iV.nd) (AS (Aj (i:=3) iV.nd) Bu)))))
  (A3 (AN (CV (Af cm hr (A0 (qv 1) A5)) (CV (D4 rfl ai rfl cK JU (qv 2)) (CV (HF (W9 zh rfl) (qv 2) (ED rfl zb N4) (by with_unfolding_all rfl)) (CU (Af dv hr (A0 (qv 3) A5)))))))
  A8))),?_⟩
 simp only[Ap];left;show ET (HX pt) ?_;exists c
 ·left
  show AB .refl ?_;cases t with
  |tup ts=>cases c
  |_=>show q
 let⟨ts,rfl⟩:=Hu (t:=t) (by simpa using c);let⟨tl,tm⟩:=pt.items;exists c1
 ·let c1:ts.length≠3:=λe=>by rw[e]at c1;revert c1;decide
  left;rw[nS c1]at q;show AB .refl q
 let c1:ts.length=3:=by
  have:decide (V.int (ts.length:Int)=V.int 3)=true:=by simpa using c1
  have:=Ky this;lia
 match ts,c1 with
 |[a,b,c],_=>
  let q:Z (.bl (EG a&&(SI b&&Bf 5 c))) Γ:=q;left;show⟨a,rfl,tm a (by simp),?_⟩;exists c2;rotate_left
  ·rw[c2,Dw]at q
   show AB .refl q
  rw[c2,Bd]at q;left;show ET (in_str (tm b (by simp))) ?_;exists c3;rotate_left
  ·have:SI b=false:=by
    cases b with
    |str z=>cases c3
    |_=>rfl
   rw[this,Dw]at q;show AB .refl q
  let⟨z,rfl⟩:=M3 c3;left;show⟨.str z,rfl,rfl,rfl,?_⟩;rw[KN];let q:Z (.bl (decide (z∈jX)&&Bf 5 c)) Γ:=q;exists c4;rotate_left
  ·rw[c4,Dw]at q
   show AB .refl q
  rw[c4,Bd]at q;left;show⟨c,rfl,tm c (by simp),AB .refl q⟩
@[reducible]def U4:Stmt:=top 36
def abI:Aq ["thing"] ["thing"] (Ac U4):=nofun
abbrev gK:Av:=λts Γ Z _=>∃t:T,ts=[t]∧Pt Γ t∧(∀us,t=.tup us→us.length≤999)∧Z (.bl (JR t)) Γ
def xu(F:cJ K "are_places" "are_places" U4 f fd)(zM:AY P w K mg am "is_place" 21 ["thing"] dh)(ai:mg "isinstance" = none)(aC:mg "tuple" = none)(aB:mg "len" = none)(bp:mg "all" = none):bc P w K mg am Am 22 f fd ["thing"] (Ak gK):=by
 show B3 F abI (λts Γ Z Y h=>?_) (λcb A outer s H E ts Γ Z Y hr h=>?_)
 ·let⟨t,rfl,_⟩:=h
  rfl
 let⟨t,rfl,pt,hl,q⟩:=h;show⟨_,(A3 (Ag (PW.pt (CQ (BL (BI (D4 rfl ai rfl aC Dm (qv 0)))) (D3 (BL (BI (Ar (FH rfl) rfl bp FD (A0 (EC (own:=["place"]) (cap:=[]) F0 rfl (E4 (qv 0)) (λ_ _ _ _=>II) (λ_ _ _ _=>Dv) (λ_ _ _ _=>(Af zM hr (A0 (qv 0) A5)))) A5))))))) (A3 (AN BE)
  A8) A8)
  (A3 (AN (Dh Bm (Ar lV rfl aB BC (A0 (fD (own:=["name","way","kind"]) (cap:=[]) F0 rfl (E4 (qv 0)) (λ_ _ _ _=>(Bn (n:=3) rfl (AS (Bb (i:=0) (show List.Nodup (["name","way","kind"]:List Str)from by done) rfl (Or.inl rfl) (Or.inr rfl)) (AS (Bb (i:=1) (show List.Nodup (["name","way","kind"]:List Str)from by done) rfl (Or.inl rfl) (Or.inr rfl)) (AS (Bb (i:=2) (show List.Nodup (["name","way","kind"]:List Str)from by done) rfl (Or.inl rfl) (Or.inr rfl)) Bu))))) (λ_ _ _ _=>(qv 0))) A5)) (Ar Bw rfl aB BC (A0 (qv 0) A5))))
  A8)),?_⟩
 simp only[Ap];left;show ET (HX pt) ?_;exists c
 ·left
  show AB .refl ?_;cases t with
  |tup ts=>cases c
  |_=>show q
 let⟨ts,rfl⟩:=Hu (t:=t) (by simpa using c);let⟨_,tm⟩:=pt.items;let tl:=hl ts rfl;rw[kD]at q;left;show⟨Cn (Cr (by lia)),?_⟩;show⟨λv4 τ ys Γ'=>∃(ds:List T) (o:Option T),ts=ds++v4∧τ=[o]∧ys=(ds.map G7).map T.bl∧Γ'=Γ,Ψ2 [] none ⟨rfl,rfl,rfl,rfl⟩,?_,?_⟩;rotate_left
 ·intro x r τ ys Γ'⟨ds,o,ez,rfl,rfl,rfl⟩
  show⟨trivial,?_⟩;left;show⟨x,rfl,tm x (by rw[ez];simp),?_⟩;show Ψ2 (ds++[x]) _ ⟨by rw[ez];simp,rfl,by rw[Ad,Ad];rfl,rfl⟩
 intro τ ys Γ'⟨ds,o,ez,rfl,rfl,rfl⟩;rw[BN]at ez;subst ez;show⟨trivial,?_⟩;clear p1 ki e1 Γ1 g1 l1
 left;show Ψ2 p1 _ ⟨rfl,Bx g1,?_⟩;rw[show(ts.map G7).all id=ts.all G7 by rw[FY];rfl];exists c3
 ·let c3:ts.all G7=false:=by simpa using c3
  left;rw[c3,Dw]at q;show AB l1 q
 let c3:ts.all G7=true:=by simpa using c3
 rw[c3,Bd]at q;let all:=aa2.mp c3;left;unfold N8;left;show⟨by lia,?_⟩;show⟨λv4 τ ys Γ'=>∃(ds:List T) (o0 o1 o2:Option T),ts=ds++v4∧τ=[o0,o1,o2]∧ys=ds.map GX∧Γ'=Γ1,Ψ4 [] none none none ⟨rfl,rfl,rfl,rfl⟩,?_,?_⟩;rotate_left
 ·intro x r τ ys Γ'⟨ds,o0,o1,o2,ez,rfl,rfl,rfl⟩
  let⟨z,b,c,rfl⟩:=uV (all x (by rw[ez];simp));show⟨trivial,?_⟩;left;show Ψ4 (ds++[.tup [.str z,b,c]]) _ _ _ ⟨by rw[ez];simp,rfl,by rw[Ad];rfl,rfl⟩
 intro τ ys Γ'⟨ds,o0,o1,o2,ez,rfl,rfl,rfl⟩;rw[BN]at ez;subst ez;show⟨trivial,λD S n on hD=>?_⟩;left;show Ψ3 D S n ⟨rfl,Ae,?_⟩;left;have:decide (V.int (n:Int)=V.int (ts.length:Nat))=decide (ts.map GX).Nodup:=by
  let e:(V.int (n:Int)=V.int (ts.length:Nat)) ↔(ts.map GX).Nodup:=by
   rcases on.2 with⟨a,b⟩|⟨a,b⟩
   ·rw[AM]at b
    show⟨λ_=>a,λ_=>by rw[b]⟩
   ·rw[AM]at b
    show⟨λh=>by have:=V.int.inj h;lia,λh=>absurd h a⟩
  show aba.mpr e
 rw[this];show AB (l1.trans (.new hD)) q
@[reducible]def Tb:Stmt:=top 34
def gW:Aq ["thing","name","side","places","result"] ["thing"] (Ac Tb):=nofun
abbrev aH:Av:=λts Γ Z _=>∃t:T,ts=[t]∧Pt Γ t∧(∀x y us d,t=.tup [x,y,.tup us,d]→us.length≤999)∧Z (.bl (Mx t)) Γ
def xg(F:cJ K "is_paper" "is_paper" Tb f fd)(cm:AY P w K mg am "is_name" 1 ["thing"] Ip)(pI:AY P w K mg am "is_side" 2 ["thing"] QJ)(vZ:AY P w K mg am "are_places" 22 ["thing"] gK)(dv:AY P w K mg am "is_kind" 20 ["thing"] KC)(ai:mg "isinstance" = none)(aC:mg "tuple" = none)(aB:mg "len" = none):bc P w K mg am Am 23 f fd ["thing"] (Ak aH):=by
 show B3 F gW (λts Γ Z Y h=>?_) (λcb A outer s H E ts Γ Z Y hr h=>?_)
 ·let⟨t,rfl,_⟩:=h
  rfl
 let⟨t,rfl,pt,hl,q⟩:=h;show⟨_,(A3 (Ag (PW.pt (CQ (BL (BI (D4 rfl ai rfl aC Dm (qv 0)))) (D3 (B2 E3 (Ar Bw rfl aB BC (A0 (qv 0) A5)) A9)))) (A3 (AN BE)
  A8) A8)
  (A3 (EK (qv 0) (Bn (n:=4) rfl (AS (Aj (i:=1) gW.nd) (AS (Aj (i:=2) gW.nd) (AS (Aj (i:=3) gW.nd) (AS (Aj (i:=4) gW.nd) Bu))))))
  (A3 (Ag (PW.pt (CQ (BL (BI (Af cm hr (A0 (qv 1) A5)))) (CQ (BL (BI (Af pI hr (A0 (qv 2) A5)))) (D3 (BL (BI (Af vZ hr (A0 (qv 3) A5)))))))) (A3 (AN BE)
  A8) A8)
  (A3 (AN (MP (Dh M6 (qv 4) FP) (CU (Af dv hr (A0 (qv 4) A5)))))
  A8)))),?_⟩
 simp only[Ap];left;show ET (HX pt) ?_;exists c
 ·left
  show AB .refl ?_;cases t with
  |tup ts=>cases c
  |_=>show q
 let⟨ts,rfl⟩:=Hu (t:=t) (by simpa using c);let⟨tl,tm⟩:=pt.items;exists c1
 ·let c1:ts.length≠4:=λe=>by rw[e]at c1;revert c1;decide
  left;rw[oX c1]at q;show AB .refl q
 let c1:ts.length=4:=by
  have:decide (V.int (ts.length:Int)=V.int 4)=true:=by simpa using c1
  have:=Ky this;lia
 match ts,c1 with
 |[a,b,c,d],_=>
  let q:Z (.bl (EG a&&(Hm b&&(JR c&&L4 d)))) Γ:=q;left;show⟨a,rfl,tm a (by simp),?_⟩;exists c2
  ·left
   rw[show EG a=false by simpa using c2,Dw]at q;show AB .refl q
  rw[show EG a=true by simpa using c2,Bd]at q;left;show⟨b,rfl,tm b (by simp),?_⟩;exists c3
  ·left
   rw[show Hm b=false by simpa using c3,Dw]at q;show AB .refl q
  rw[show Hm b=true by simpa using c3,Bd]at q;left;show⟨c,rfl,tm c (by simp),λus e=>hl a b us d (by rw[e]),?_⟩;exists c4
  ·left
   rw[show JR c=false by simpa using c4,Dw]at q;show AB .refl q
  rw[show JR c=true by simpa using c4,Bd]at q;exists c5
  ·have:d=.non:=by
    cases d with
    |non=>rfl
    |_=>cases c5
   rw[this]at q;show AB .refl q
  ·have:L4 d=Bf 5 d:=by
    cases d with
    |non=>cases c5
    |_=>rfl
   rw[this]at q;left;show⟨d,rfl,tm d (by simp),AB .refl q⟩
end
def Q7(h:0≤i):HT.cV n d (some i)=min i.toNat n:=by
 show(if i<0 then _ else min i.toNat _)=_
 rw[AP (by lia)]
def Qf{α:Type}{xs:List α}{j:Int}(h:0≤i)(h':0≤j):Ci xs (some i) (some j)=(xs.drop i.toNat).take (j.toNat-i.toNat):=by
 unfold Ci;rw[Q7 h,Q7 h'];by_cases c:i.toNat≤xs.length
 ·rw[Mt c]
  by_cases c2:j.toNat≤xs.length
  ·rw[Mt c2]
  ·rw[Mw (by lia),Ld (by rw[GL];lia),Ld (by rw[GL];lia)]
 ·rw[Mw (show xs.length≤i.toNat by lia),Ih,List.drop_of_length_le (by lia),SG,SG]
abbrev Fm(n:Int):Nat:=97+(n%26).toNat
abbrev wd(ns:List Int):Str:=S (ns.map Fm)
def wm(n:Int):97≤Fm n∧Fm n≤122:=by
 unfold Fm;have:=Eh n (by decide:(26:Int)≠0);have:=FN n (by decide:(0:Int)<26);lia
def Py(ns:List Int):Lets (wd ns):=λc h=>by
 let h:c∈ns.map Fm:=by simpa[wd,S]using h
 let⟨n,_,rfl⟩:=aam.mp h;show wm n
def MR(ns:List Int):(wd ns).length=ns.length:=by unfold wd;rw[oi,AM]
def rn:∀j:Nat,j<26→Pc.cps.toList[j]?=some (97+j):=by done
def abh(h0:0≤r)(h1:r<26):CG Pc.cps.toList r=some (97+r.toNat):=by
 let e:r=((r.toNat:Nat):Int):=by lia
 rw[e];show FA (rn _ (by lia))
def yQ(l:List Nat):Ie (l.map λc=>(⟨#[c]⟩:Str))=S l:=by
 unfold Ie S;congr 1
 rw[D2];have:∀l:List Nat,(l.map ((λx:Str=>x.cps.toList) ∘ λc=>(⟨#[c]⟩:Str))).flatten=l:=λl=>by
  induction l with
  |nil=>rfl
  |cons c l ih=>rw[BU,List.flatten_cons,ih];rfl
 rw[this]
section
variable {K: W.Frag}
@[reducible]def SO:Stmt:=top 72
def adA:Aq ["numbers"] ["numbers"] (Ac SO):=nofun
abbrev cM:Av:=λts Γ Z _=>∃(a:Addr) (ns:List Int),ts=[.ref a]∧Γ a=some (.lst (ns.map T.int))∧ns.length≤1000∧Z (.str (wd ns)) Γ
def ac2(F:cJ K "_law_word" "_law_word" SO f fd):bc P w K mg am Am 1 f fd ["numbers"] (Ak cM):=by
 show B3 F adA (λts Γ Z Y h=>?_) (λcb A outer s H E ts Γ Z Y hr h=>?_)
 ·let⟨a,ns,rfl,_⟩:=h
  rfl
 let⟨a,ns,rfl,ga,n1,q⟩:=h;show⟨_,(A3 (AN (E0 PySem.F.plainAttrs_str PySem.F.slot_str_join PySem.F.type_str_join uM Al (A0 (EC (own:=["one"]) (cap:=[]) F0 rfl (UT (qv 0)) (λ_ _ _ _=>II) (λ_ _ _ _=>Dv) (λ_ _ _ _=>(ace Al (Aa C0 (qv 0) A9)))) A5)))
  A8),?_⟩
 simp only[Ap];left;show Ψ2 a _ ⟨rfl,Bx ga,Cn (Cr (by rw[AM];show n1)),?_⟩;show⟨λv4 τ ys Γ'=>∃(ms ks:List Int) (o:Option T),v4=ks.map T.int∧ns=ms++ks∧τ=[o]∧ys=(ms.map Fm).map (λc=>T.str ⟨#[c]⟩)∧Γ'=Γ,Ψ3 [] ns none ⟨rfl,rfl,rfl,rfl,rfl⟩,?_,?_⟩
 ·intro τ ys Γ'⟨ms,ks,o,er,en,rfl,rfl,rfl⟩
  let hk:ks=[]:=by
   cases ks with
   |nil=>rfl
   |cons _ _=>cases er
  subst hk;rw[BN]at en;subst en;show⟨Bx ga,λD hD=>?_⟩;left;show Ψ2 D ((ns.map Fm).map (λc=>(⟨#[c]⟩:Str))) ⟨rfl,rfl,?_,?_,?_,?_⟩
  ·rw[Bx Ae,D2,D2,D2];rfl
  ·rw[AM,AM];show n1
  ·intro y hy
   let⟨c,_,rfl⟩:=aam.mp hy;show 1≤1000
   decide
  ·rw[yQ]
   show AB (.new hD) q
 ·intro x r τ ys Γ'⟨ms,ks,o,er,en,rfl,rfl,rfl⟩
  cases ks with
  |nil=>cases er
  |cons k ks=>
   cases er;show⟨Bx ga,?_⟩;left;let k0:=Eh k (by decide:(26:Int)≠0);let k1:=FN k (by decide:(0:Int)<26);show Ψ3 _ _ _ ⟨rfl,rfl,by decide,abh k0 k1,?_⟩;show Ψ3 (ms++[k]) ks _ ⟨rfl,by rw[en];simp,rfl,?_,rfl⟩;rw[Ad,Ad];rfl
end
def IY{α β:Type}(f:α→β)(xs:List α)(lo hi:Option Int):Ci (xs.map f) lo hi=(Ci xs lo hi).map f:=by
 unfold Ci;rw[AM,List.map_take,List.map_drop]
def cg{α:Type}{xs:List α}{n:Int}(h:0≤n):Ci xs none (some n)=xs.take n.toNat:=by
 unfold Ci;rw[HT.rD,Ry,Nat.sub_zero,Q7 h];by_cases c:n.toNat≤xs.length
 ·rw[Mt c]
 ·rw[Mw (by lia),List.take_length,Ld (by lia)]
def Mr{α:Type}{xs:List α}(h:0≤i):Ci xs (some i) none=xs.drop i.toNat:=by
 unfold Ci;rw[Q7 h,HT.rD];by_cases c:i.toNat≤xs.length
 ·rw[Mt c,Ld (by rw[GL];lia)]
 ·rw[Mw (by lia),Ih,List.drop_of_length_le (by lia),SG]
def TH{α:Type}{xs:List α}{lo hi:Option Int}{x:α}(h:x∈Ci xs lo hi):x∈xs:=SA (Sz h)
abbrev Cd(z:Str):Prop:=Lets z∧z.length≤8
def Cd.nm(h:Cd z)(n:z ≠ ""):Nm z:=by
 show⟨?_,h.2,h.1⟩;rcases Nat.eq_zero_or_pos z.length with e|e
 ·exfalso
  apply n
  have:z.cps.toList.length=0:=by rw[G9];show e
  let e2:z.cps=#[]:=by
   rw[←Array.toList_inj];show lY this
  obtain⟨c⟩:=z;show Str.mk c=_
  rw[show c=#[]from e2];rfl
 ·show e
@[reducible]def HL:List Str:=["num","text","row","rec","pick","none","door","copy","give","lend","lease","new","call"]
def cn:∀z∈HL,Lets z∧z.length≤5:=by
 intro z h;simp only[aaf,CE,Di]at h;rcases h with rfl|rfl|rfl|rfl|rfl|rfl|rfl|rfl|rfl|rfl|rfl|rfl|rfl<;>show⟨xS (by done),by done⟩
abbrev Ea(r:Int)(n:Nat):List Str:=(List.range n).map λk:Nat=>wd [r+7*(k:Int)]
def fV(r:Int)(n:Nat):(Ea r n).length=n:=by unfold Ea;rw[AM,SQ]
def fI(h:z∈Ea r n):Cd z∧z ≠ "" := by
 let⟨k,_,rfl⟩:=aam.mp h;show⟨⟨Py _,by rw[MR];show(by decide:1≤8)⟩,λe=>?_⟩;have:(wd [r+7*(k:Int)]).length=1:=MR _;rw[e]at this;revert this
 done
def aaC(r:Int):(Ea r 26).Nodup:=by
 unfold Ea;rw[List.nodup_iff_pairwise_ne,ab5];show QQ (λ{i j} hi hj hn e=>?_) List.nodup_range;rw[abM]at hi hj;let e1:[Fm (r+7*(i:Int))]=[Fm (r+7*(j:Int))]:=by
  have:=DV (λz:Str=>z.cps.toList) e;simpa[wd,S]using this
 let e2:Fm (r+7*(i:Int))=Fm (r+7*(j:Int)):=by simpa using e1
 unfold Fm at e2;apply hn
 omega
def abq(r:Int)(n:Nat):Ea r (n+1)=Ea r n++[wd [r+7*(n:Int)]]:=by unfold Ea;rw[Qe,Ad];rfl
def wQ(ss:List Str):(ss.map V.str).all EI=true:=by
 rw[aa2];intro v hv;let⟨z,_,rfl⟩:=aam.mp hv;rfl
section
variable {K: W.Frag}
@[reducible]def U2:Stmt:=top 73
def bP:Aq ["row","word","letter","at","own","some","k","names","one"] ["row"] (Ac U2):=nofun
abbrev lT:Av:=λts Γ Z _=>∃(a:Addr) (ns:List Int),ts=[.ref a]∧Γ a=some (.lst (ns.map T.int))∧ns.length=20∧∀(ss:List Str) (p:Addr),ss.length=9→(∀z∈ss,Nm z)→ss.Nodup→Γ p=none→Z (.ref p) (AA Γ p (.lst (ss.map T.str)))
def wY(F:cJ K "_law_names" "_law_names" U2 f fd)(jU:AY P w K mg am "_law_word" 1 ["numbers"] cM)(aB:mg "len" = none)(cB:mg "range" = none):bc P w K mg am Am 2 f fd ["row"] (Ak lT):=by
 show B3 F bP (λts Γ Z Y h=>?_) (λcb A outer s H E ts Γ Z Y hr h=>?_)
 ·let⟨a,ns,rfl,_⟩:=h
  rfl
 let⟨a,ns,rfl,ga,nl,q⟩:=h;show⟨_,(A3 (As (i:=1) bP.nd (Af jU hr (A0 (FT JH (qv 0) HM (Ee (Aa Ez A9 (Aa C0 (AO (qv 0) A9) A9)))) A5)))
  (A3 (As (i:=2) bP.nd (Af jU hr (A0 (FT JH (qv 0) (Ee A9) (Ee A9)) A5)))
  (A3 (As (i:=3) bP.nd (Aa C0 (AO (qv 0) A9) (Ar RB rfl aB BC (A0 (qv 1) A5))))
  (A3 (As (i:=4) bP.nd (DA (A0 Al (A0 Al (A0 Al (A0 Al (A0 Al (A0 Al (A0 Al (A0 Al (A0 Al (A0 Al (A0 Al (A0 Al (A0 Al A5)))))))))))))))
  (A3 (As (i:=5) bP.nd (DA (A0 (qv 1) (A0 (Aa LZ (qv 1) (qv 2)) (A0 (Aa LZ (qv 2) (qv 1)) (A0 (Aa LZ (Aa LZ (FT QS (qv 1) HM (Ee (qv 3))) (qv 2)) (FT QS (qv 1) (Ee (Aa Ez (qv 3) A9)) HM)) (A0 (FT QS (qv 1) HM (Ee (qv 3))) (A0 (qV (qv 1) (ik A9)) A5))))))))
  (A3 (As (i:=5) bP.nd (Aa Sg (qv 5) (DA (A0 (AO (qv 4) (Aa C0 (AO (qv 0) A9) A9)) (A0 (Af jU hr (A0 (FT JH (qv 0) (Ee A9) (Ee (Aa Ez A9 (Aa C0 (AO (qv 0) A9) A9)))) A5)) (A0 (Aa LZ (AO (qv 4) (Aa C0 (Aa HQ (AO (qv 0) A9) A9) A9)) (qv 2)) A5))))))
  (A3 (As (i:=5) bP.nd (Aa Sg (FT JH (qv 5) (Ee (Aa C0 (AO (qv 0) A9) A9)) HM) (FT JH (qv 5) HM (Ee (Aa C0 (AO (qv 0) A9) A9)))))
  (A3 (Fo GJ rfl (Je rfl cB (A0 A9 A5)) (Aj (i:=6) bP.nd) (A3 (Fq (E0 HI Hv Hr HY (qv 5) (A0 (Af jU hr (A0 (DA (A0 (Aa Ez (AO (qv 0) A9) (Aa M7 A9 (qv 6))) A5)) A5)) A5)))
  A8))
  (A3 (As (i:=7) bP.nd (DA A5))
  (A3 (Fo GJ rfl (UT (qv 5)) (Aj (i:=8) bP.nd) (A3 (B1 (Ag (PW.pt (Hq (B2 E3 (qv 8) Al) (Hq (L0 SX (qv 8) (qv 7) (by with_unfolding_all rfl)) (IM (B2 LK (Ar Bw rfl aB BC (A0 (qv 7) A5)) A9))))) (A3 (Fq (E0 HI Hv Hr HY (qv 7) (A0 (qv 8) A5)))
  A8) A8))
  A8))
  (A3 (AN (qv 7))
  A8))))))))))),?_⟩
 simp only[Ap];let⟨Kx,m16,_,ZC⟩:=Dx (ns:=ns) (j:=16) (by lia);let⟨r8,m8,_,x8⟩:=Dx (ns:=ns) (j:=8) (by lia);let⟨r9,m9,_,x9⟩:=Dx (ns:=ns) (j:=9) (by lia);let⟨OT,m17,_,ZA⟩:=Dx (ns:=ns) (j:=17) (by lia);let⟨TC,m18,_,Xb⟩:=Dx (ns:=ns) (j:=18) (by lia);let⟨Gk,m19,_,Zz⟩:=Dx (ns:=ns) (j:=19) (by lia);let b16:0≤Kx%7∧Kx%7<7:=⟨Eh _ (by decide),FN _ (by decide)⟩;let b17:0≤OT%5∧OT%5<5:=⟨Eh _ (by decide),FN _ (by decide)⟩;left;show B0 ga ZC ?_;left;show Ψ2 a _ ⟨rfl,ga,λp1 ki=>?_⟩;rw[IY,cg (by lia)];left;show Ψ2 p1 _ ⟨rfl,Ae,by rw[Em];lia,?_⟩;let ew:(wd (ns.take (1+Kx%7).toNat)).length=(1+Kx%7).toNat:=by rw[MR,Em];lia
 let lw:=Py (ns.take (1+Kx%7).toNat);generalize wd (ns.take (1+Kx%7).toNat)=word at *
 let l1:Le Γ (AA Γ p1 (.lst ((ns.take (1+Kx%7).toNat).map T.int))):=.new ki;generalize AA Γ p1 (.lst ((ns.take (1+Kx%7).toNat).map T.int))=Γ1 at *
 left;show Ψ2 a _ ⟨rfl,l1 _ _ ga,λp2 vB=>?_⟩;rw[IY,Qf (by decide) (by decide)];left;show Ψ2 p2 _ ⟨rfl,Ae,by rw[Em];show Cu (Nat.min_le_left _ _) (by decide),?_⟩;let el:(wd ((ns.drop (Int.toNat 7)).take (Int.toNat 8-Int.toNat 7))).length=1:=by rw[MR,Em,GL,nl];rfl
 let ll:=Py ((ns.drop (Int.toNat 7)).take (Int.toNat 8-Int.toNat 7));generalize wd ((ns.drop (Int.toNat 7)).take (Int.toNat 8-Int.toNat 7))=zd at *
 let l2:Le Γ (AA Γ1 p2 (.lst (((ns.drop (Int.toNat 7)).take (Int.toNat 8-Int.toNat 7)).map T.int))):=l1.trans (.new vB);generalize AA Γ1 p2 (.lst (((ns.drop (Int.toNat 7)).take (Int.toNat 8-Int.toNat 7)).map T.int))=Γ2 at *
 left;show B0 (l2 _ _ ga) x8 ?_;left;show⟨word,rfl,Cn (Cr (by lia)),?_⟩;show FR (by show(0:Int)<_;lia) ?_;let ba:0≤r8%(word.length:Int)∧r8%(word.length:Int)<(word.length:Int):=⟨Eh _ (by lia),FN _ (by lia)⟩;generalize r8%(word.length:Int)=at_ at *
 left;clear po hpo Y2 Γ3 gO l3
 let gO:Γ3 po=some (.lst (HL.map T.str)):=gO;left
 -- some,first part
 show Lq ?_ ?_
 ·have:=CN;lia
 left;show Lq ?_ ?_
 ·have:=CN;lia
 left;show⟨Cn (Cr (by lia)),λy1 VS=>?_⟩;let c1:=Rb VS;let k1:=lw.cut VS;let h1:=aca ba.1 VS;left;show Lq ?_ ?_
 ·have:=CN;lia
 left;show⟨Cn (Cr (by lia)),λy2 VQ=>?_⟩;let c2:=Rb VQ;let k2:=lw.cut VQ;let h2:y2.length≤word.length-(at_+1).toNat:=by
  rw[←G9,VQ,Mr (by lia),GL,G9];show Ah _
 left;show Lq ?_ ?_
 ·have:=CN;rw[Kb];lia
 left;show⟨Cn (Cr (by lia)),λy3 Yd=>?_⟩;let c3:=Rb Yd;let k3:=lw.cut Yd;left;show⟨rfl,word,rfl,Cn (Cr (by lia)),λy4 c4 hy4=>?_⟩;let k4:Lets y4:=λc hc=>lw c (hy4 c hc);left;clear p3 Yj Y8 Γ4 gS l4
 obtain⟨cs,gS,O0,XX⟩:∃cs:List Str,Γ4 p3=some (.lst (cs.map T.str))∧(∀z∈cs,Cd z)∧cs.length=6:=by
  show⟨[_,_,_,_,_,_],gS,λz hz=>?_,rfl⟩;simp only[aaf,CE,Di]at hz;rcases hz with rfl|rfl|rfl|rfl|rfl|rfl
  ·show⟨lw,by lia⟩
  ·show⟨lw.app ll,by rw[Kb];lia⟩
  ·show⟨ll.app lw,by rw[Kb];lia⟩
  ·show⟨(k1.app ll).app k2,by rw[Kb,Kb];lia⟩
  ·show⟨k3,by lia⟩
  ·show⟨k4,by lia⟩
 left;let l24:Le Γ2 Γ4:=l3.trans l4;let RG:Le Γ Γ4:=l2.trans l24;let YJ:=l4 _ _ gO;show B0 (RG _ _ ga) x9 ?_;left;let⟨o1,ho1,mo1⟩:=K8 (xs:=HL.map T.str) (r:=r9%13) (Eh _ (by decide)) (FN _ (by decide));let⟨z1,mz1,rfl⟩:=aam.mp mo1;show B0 YJ ho1 ?_;left;show B0 (RG _ _ ga) ZA ?_;left;show Ψ2 a _ ⟨rfl,RG _ _ ga,?_⟩;clear p5 Iy Y7 Γ5 g5 l5
 rw[IY,Qf (by decide) (by lia)]at g5;left;show Ψ2 p5 _ ⟨rfl,g5,by rw[Em];have:=nl;lia,?_⟩;let e5:(wd ((ns.drop (Int.toNat 10)).take ((11+OT%5).toNat-Int.toNat 10))).length≤5:=by rw[MR,Em];show min ((11+OT%5).toNat-10) _≤5;lia
 let k5:=Py ((ns.drop (Int.toNat 10)).take ((11+OT%5).toNat-Int.toNat 10));generalize wd ((ns.drop (Int.toNat 10)).take ((11+OT%5).toNat-Int.toNat 10))=y5 at *
 left;show B0 (l5 _ _ (RG _ _ ga)) x9 ?_;left;let⟨o2,CA,mo2⟩:=K8 (xs:=HL.map T.str) (r:=r9/13%13) (Eh _ (by decide)) (FN _ (by decide));let⟨z2,mz2,rfl⟩:=aam.mp mo2;let cz1:=cn z1 mz1;let cz2:=cn z2 mz2;show B0 (l5 _ _ YJ) CA ?_;left;show Lq ?_ ?_
 ·have:=CN;lia
 left;clear p6 RT Y6 Γ6 g6 l6
 let XZ:Le Γ4 Γ6:=l5.trans l6;obtain⟨ds,g6,NX,XT⟩:∃ds:List Str,Γ6 p6=some (.lst (ds.map T.str))∧(∀z∈ds,Cd z)∧ds.length=3:=by
  show⟨[_,_,_],g6,λz hz=>?_,rfl⟩;simp only[aaf,CE,Di]at hz;rcases hz with rfl|rfl|rfl
  ·show⟨cz1.1,by lia⟩
  ·show⟨k5,by lia⟩
  ·show⟨cz2.1.app ll,by rw[Kb];lia⟩
 show Ψ4 p3 p6 _ _ ⟨rfl,rfl,XZ _ _ gS,g6,Cn (Cr (by rw[AM,AM,XX,XT];decide)),?_⟩;clear p7 V1 Y5 Γ7 g7 l7
 rw[←Ad]at g7;let TR:Le Γ Γ7:=RG.trans (XZ.trans l7);obtain⟨es,Ys,nes,g7⟩:∃es:List Str,(∀z∈es,Cd z)∧es.length=9∧Γ7 p7=some (.lst (es.map T.str)):=⟨cs++ds,λz hz=>(aaG.mp hz).elim (O0 z) (NX z),by rw[BO,XX,XT],g7⟩;left;show B0 (TR _ _ ga) Xb ?_;left;let b18:0≤TC%9∧TC%9<9:=⟨Eh _ (by decide),FN _ (by decide)⟩;show Ψ2 p7 _ ⟨rfl,g7,?_⟩;clear p8 hp8 Y4 Γ8 g8 l8
 rw[IY]at g8;left;show B0 (l8 _ _ (TR _ _ ga)) Xb ?_;left;show Ψ2 p7 _ ⟨rfl,l8 _ _ g7,?_⟩;clear p9 hp9 Y3 Γ9 g9 l9
 rw[IY]at g9;let n8:=PU es (some (TC%9)) none;let n9:=PU es none (some (TC%9));show Ψ4 p8 p9 _ _ ⟨rfl,rfl,l9 _ _ g8,g9,Cn (Cr (by rw[AM,AM];lia)),?_⟩;clear uU RU SE Γ10 O4 l10
 rw[←Ad]at O4;let VA:Le Γ Γ10:=TR.trans (l8.trans (l9.trans l10));obtain⟨fs,hfs,nfs,O4⟩:∃fs:List Str,(∀z∈fs,Cd z)∧fs.length≤18∧Γ10 uU=some (.lst (fs.map T.str)):=⟨_,λz hz=>(aaG.mp hz).elim (λh=>Ys z (TH h)) (λh=>Ys z (TH h)),by rw[BO];lia,O4⟩;left;let bN:Γ uU=none:=by
  cases e:Γ uU with
  |none=>rfl
  |some o=>have:=(TR.trans (l8.trans l9)) _ _ e;rw[RU]at this;cases this
 let na:a≠uU:=Bl ga bN;show⟨26,rfl,by decide,by decide,?_⟩;show⟨λv4 τ Γ'=>∃(i m:Nat) (o6:Option T),v4=EB i m∧i+m=26∧τ=[some (.ref a),some (.str word),some (.str zd),some (.int at_),some (.ref po),some (.ref uU),o6,none,none]∧Γ' uU=some (.lst ((fs++Ea Gk i).map T.str))∧Kq [uU] Γ Γ',Ψ3 0 26 none ⟨rfl,rfl,rfl,by rw[show Ea Gk 0=[]from rfl,BN];show O4,VA.kq⟩,?_,?_⟩
 ·intro τ Γ'⟨i,m,o6,er,im,rfl,gL,kq⟩
  let hm:=LO er;subst hm;have:i=26:=im;subst this;show⟨trivial,?_⟩;left;clear pn VZ en Γn gn ln
  let bn:Γ pn=none:=by
   by_cases e1:pn=uU
   ·rw[e1];show bN
   ·cases e:Γ pn with
    |none=>rfl
    |some o=>have:=kq _ _ (by simpa using e1) e;rw[VZ]at this;cases this
  let ne:uU≠pn:=Bl gL VZ;left;show Ψ2 uU _ ⟨rfl,Bx (ln _ _ gL),?_⟩;show⟨λv4 τ Γ'=>∃(ds rs ss:List Str) (o8:Option T),v4=rs.map T.str∧fs++Ea Gk 26=ds++rs∧τ=[some (.ref a),some (.str word),some (.str zd),some (.int at_),some (.ref po),some (.ref uU),o6,some (.ref pn),o8]∧(∀z∈ss,Nm z)∧ss.Nodup∧ss.length≤9∧(ss.length=9∨∀z∈ds,z ≠ "" → z∈ss)∧Γ' pn=some (.lst (ss.map T.str))∧Γ' uU=some (.lst ((fs++Ea Gk 26).map T.str))∧Kq [uU,pn] Γ Γ',Ψ4 [] _ [] none ⟨rfl,rfl,rfl,λ_ h=>(nomatch h),Nq,by decide,.inr λ_ h=>(nomatch h),gn,ln _ _ gL,(kq.mono (by simp)).trans ln.kq⟩,?_,?_⟩
  ·intro τ Γ2⟨ds,rs,ss,o8,K1,ed,rfl,nm,nd,s9,vD,gs,N5,OV⟩
   let hrs:rs=[]:=by
    cases rs with
    |nil=>rfl
    |cons _ _=>cases K1
   subst hrs;rw[BN]at ed;show⟨Bx N5,?_⟩;left;let e9:ss.length=9:=by
    rcases vD with h|h
    ·show h
    ·exfalso
     have:=sub_len (l:=Ea Gk 26) (m:=ss) (aaC Gk) λz hz=>h z (by rw[←ed];show CZ _ hz) (fI hz).2;rw[fV]at this;lia
   show⟨AA Γ pn (.lst (ss.map T.str)),λb u g=>?_,q ss pn e9 nm nd bn⟩;by_cases e1:b=pn
   ·subst e1;rw[Ae]at g;cases g;show gs
   ·rw[AZ e1]at g
    by_cases e2:b=uU
    ·subst e2;rw[bN]at g;cases g
    ·show OV b u (by simp[e1,e2]) g
  ·intro x rr τ Γ2⟨ds,rs,ss,o8,K1,ed,rfl,nm,nd,s9,vD,gs,N5,OV⟩
   cases rs with
   |nil=>cases K1
   |cons z rs=>
    cases K1;let cz:Cd z:=by
     have:z∈fs++Ea Gk 26:=by rw[ed];simp
     rcases aaG.mp this with h|h
     ·show hfs z h
     ·show(fI h).1
    show⟨Bx N5,?_⟩;left;show⟨λτ Γ'=>∃(ss:List Str),τ=[some (.ref a),some (.str word),some (.str zd),some (.int at_),some (.ref po),some (.ref uU),o6,some (.ref pn),some (.str z)]∧(∀z∈ss,Nm z)∧ss.Nodup∧ss.length≤9∧(ss.length=9∨∀y∈ds++[z],y ≠ "" → y∈ss)∧Γ' pn=some (.lst (ss.map T.str))∧Γ' uU=some (.lst ((fs++Ea Gk 26).map T.str))∧Kq [uU,pn] Γ Γ',?_,?_⟩
    ·left
     let same:(z = "" ∨ z∈ss∨ss.length=9)→ss.length=9∨∀y∈ds++[z],y ≠ "" → y∈ss:=λh=>by
      rcases vD with h9|ha
      ·show .inl h9
      rcases h with h|h|h
      ·show .inr λy hy ny=>?_
       rcases aaG.mp hy with hy|hy
       ·show ha y hy ny
       ·rw[aaB.mp hy]at ny;show absurd h ny
      ·show .inr λy hy ny=>?_
       rcases aaG.mp hy with hy|hy
       ·show ha y hy ny
       ·rw[aaB.mp hy];show h
      ·show .inl h
     show AU (λc1=>?_) (λc1=>?_)
     ·let c1:z ≠ "" := λe=>by rw[e]at c1;simp at c1
      left;show y6 gs rfl (ZV ss) rfl (wQ ss) ?_;show ∃k,T.bl (!DX (.str z) (ss.map V.str))=.bl k∧_
      rw[KN];exists c2
      ·let c2:z∉ss:=by simpa using c2
       left;show F8 gs ?_;rw[AM];exists c3
       ·let c3:=Cc c3
        left;show Qy gs ?_;left;show Ψ3 pn _ _ ⟨rfl,rfl,gs,Cr (by rw[AM];lia),?_⟩;left;show⟨ss++[z],rfl,λy hy=>?_,?_,by rw[BO];show ss.length+1≤9;lia,?_,by rw[Ad];show Ae,by rw[AZ ne];show N5,OV.trans (.set (by simp) _)⟩
        ·rcases aaG.mp hy with hy|hy
         ·show nm y hy
         ·rw[aaB.mp hy];show cz.nm c1
        ·rw[aaK]
         show⟨nd,by simp,λx hx y hy e=>c2 ?_⟩;rw[aaB]at hy;rw[←hy,←e];show hx
        ·rcases vD with h9|ha
         ·lia
         ·show .inr λy hy ny=>?_
          rcases aaG.mp hy with hy|hy
          ·show He _ (ha y hy ny)
          ·show CZ _ hy
       ·let c3:=Eu c3
        left;show⟨ss,rfl,nm,nd,s9,same (.inr (.inr (by lia))),gs,N5,OV⟩
      ·let c2:z∈ss:=by simpa using c2
       left;show⟨ss,rfl,nm,nd,s9,same (.inr (.inl c2)),gs,N5,OV⟩
     ·let c1:z = "" := by simpa using c1
      left;show⟨ss,rfl,nm,nd,s9,same (.inl c1),gs,N5,OV⟩
    intro τ Γ3⟨Z2,rfl,nm2,tR,Z6,Se,gs2,gL3,Pg⟩;left;show Ψ4 (ds++[z]) rs Z2 _ ⟨rfl,by rw[ed];simp,rfl,nm2,tR,Z6,Se,gs2,gL3,Pg⟩
 ·intro x rr τ Γ'⟨i,m,o6,er,im,rfl,gL,kq⟩
  let⟨m',rfl,rfl,rfl⟩:=Jn er;let YI:=kq _ _ (by simpa using na) ga;left;show Qy gL ?_;left;show B0 YI Zz ?_;left;clear XF V2 Ze Γa Wy X0
  left;show Ψ2 XF [Gk+7*(i:Int)] ⟨rfl,Wy,by show 1≤1000;decide,?_⟩;left;show Ψ3 uU _ _ ⟨rfl,rfl,X0 _ _ gL,Cr (by rw[AM,BO,fV];lia),?_⟩;left;show Ψ3 (i+1) m' _ ⟨rfl,by lia,rfl,?_,(kq.trans X0.kq).trans (.set (by simp) _)⟩;rw[Ae,abq,←GV,Ad (l₁:=fs++Ea Gk i)];rfl
end
abbrev MS(c:Int):Bool:=decide (32≤c)&&decide (c≤126)&&!decide (c=37)
abbrev WU(w:Int):T→Bool
 |.int i=>decide (-((65536:Int)^w.toNat)≤2*i)&&decide (2*i≤(65536:Int)^w.toNat-2)
 |_=>false
abbrev iR:T→Bool
 |.str z=>decide (z.length≤60)&&z.cps.toList.all λc=>MS (c:Nat)
 |_=>false
mutual
def CH:Kd→T→Bool
 |.num w,t=>WU w t
 |.text,t=>iR t
 |.row k,.tup ts=>decide (ts.length≤60)&&ts.all (CH k)
 |.rec_ fs,.tup ts=>decide (ts.length=fs.length)&&Jo fs ts
 |.pick fs,.tup [.str n,x]=>Io fs n x
 |_,_=>false
def Jo:List (Str×Kd)→List T→Bool
 |(_,k)::fs,t::ts=>CH k t&&Jo fs ts
 |_,_=>true
def Io:List (Str×Kd)→Str→T→Bool
 |(m,k)::fs,n,x=>(decide (m=n)&&CH k x)||Io fs n x
 |[],_,_=>false
end
section
variable {K: W.Frag}{v3: Value}
@[reducible]def RJ:Stmt:=top 28
def tY:Aq ["number"] ["number"] (Ac RJ):=nofun
abbrev gF:Av:=λts Γ Z _=>∃c:Int,ts=[.int c]∧Z (.bl (MS c)) Γ
def aaU(F:cJ K "is_sign" "is_sign" RJ f fd)(jR:mg "FIRST_SIGN" = some v1)(vF:D5 v1 (.int 32))(kZ:mg "LAST_SIGN" = some v2)(xp:D5 v2 (.int 126))(gv:mg "HUNDREDTH_SIGN" = some v3)(pB:D5 v3 (.int 37)):bc P w K mg am Am 1 f fd ["number"] (Ak gF):=by
 show B3 F tY (λts Γ Z Y h=>?_) (λcb A outer s H E ts Γ Z Y hr h=>?_)
 ·let⟨t,rfl,_⟩:=h
  rfl
 let⟨c,rfl,q⟩:=h;show⟨_,(A3 (AN (CV (Q2 FF FF (ED rfl jR vF) (qv 0) (ED rfl kZ xp)) (CU (Dh E3 (qv 0) (ED rfl gv pB)))))
  A8),?_⟩
 simp only[Ap];unfold MS at q;exists c1;rotate_left
 ·rw[c1]at q
  left;show AB .refl q
 rw[c1,Bd]at q;exists c2;rotate_left
 ·rw[c2]at q
  show AB .refl q
 rw[c2,Bd]at q;left;show AB .refl ?_;rw[show decide (V.int c=V.int 37)=decide (c=37)from aba.mpr ⟨V.int.inj,λe=>by rw[e]⟩];show q
@[reducible]def Rk:Stmt:=top 26
def hZ:Aq ["width","thing","numbers","word"] ["width","thing"] (Ac Rk):=nofun
abbrev Rn:Av:=λts Γ Z _=>∃(wd:Int) (t:T),ts=[.int wd,t]∧0≤wd∧wd≤4∧Pt Γ t∧Z (.bl (WU wd t)) Γ
def sH(F:cJ K "is_number" "is_number" Rk f fd)(bR:AY P w K mg am "is_whole" 1 ["thing"] Hi)(iI:mg "WORD_NUMBERS" = some v1)(sA:D5 v1 (.int 65536))(cB:mg "range" = none):bc P w K mg am Am 2 f fd ["width","thing"] (Ak Rn):=by
 show B3 F hZ (λts Γ Z Y h=>?_) (λcb A outer s H E ts Γ Z Y hr h=>?_)
 ·let⟨wd,t,rfl,_⟩:=h
  rfl
 let⟨wd,t,rfl,w0,w4,pt,q⟩:=h;show⟨_,(A3 (Ag (BL (BI (Af bR hr (A0 (qv 1) A5)))) (A3 (AN BE)
  A8) A8)
  (A3 (As (i:=2) hZ.nd A9)
  (A3 (Fo GJ rfl (Je rfl cB (A0 (qv 0) A5)) (Aj (i:=3) hZ.nd) (A3 (oK (i:=2) hZ.nd rfl (Or.inl rfl) (ED rfl iI sA) sR)
  A8))
  (A3 (AN (Q2 FF FF (ik (qv 2)) (Aa M7 A9 (qv 1)) (Aa Im (qv 2) A9)))
  A8)))),?_⟩
 simp only[Ap];left;show⟨t,rfl,pt,?_⟩;exists c
 ·left
  show AB .refl ?_;cases t with
  |int i=>cases c
  |_=>show q
 let⟨i,rfl⟩:=Rj (t:=t) (by simpa using c);left;show⟨wd,rfl,by lia,by lia,?_⟩;show⟨λv4 τ Γ'=>∃(j n:Nat) (o:Option T),v4=EB j n∧j+n=wd.toNat∧τ=[some (.int wd),some (.int i),some (.int (65536^j)),o]∧Γ'=Γ,Ψ3 0 wd.toNat none ⟨by simp,by simp,rfl,rfl⟩,?_,?_⟩
 ·intro τ Γ'⟨j,n,o,er,e,rfl,rfl⟩
  have:=LO er;subst this;show⟨trivial,?_⟩;let ej:j=wd.toNat:=by lia
  subst ej;let q:Z (.bl (decide (-((65536:Int)^wd.toNat)≤2*i)&&decide (2*i≤(65536:Int)^wd.toNat-2))) Γ':=q;exists c1
  ·rw[c1,Bd]at q
   left;show AB .refl q
  ·rw[c1]at q
   show AB .refl q
 ·intro x r τ Γ'⟨j,n,o,er,e,rfl,rfl⟩
  let⟨m,rfl,rfl,rfl⟩:=Jn er;left;show⟨.int (65536^j),rfl,?_⟩;left;show Ψ3 (j+1) m _ ⟨rfl,by lia,rfl,rfl⟩
@[reducible]def S3:Stmt:=top 27
def yS:Aq ["thing"] ["thing"] (Ac S3):=nofun
abbrev Rm:Av:=λts Γ Z _=>∃t:T,ts=[t]∧Pt Γ t∧Z (.bl (iR t)) Γ
def v7(F:cJ K "is_text" "is_text" S3 f fd)(Ck:AY P w K mg am "is_sign" 1 ["number"] gF)(jQ:mg "MOST_SIGNS" = some v1)(vE:D5 v1 (.int 60))(ai:mg "isinstance" = none)(cK:mg "str" = none)(aB:mg "len" = none)(bp:mg "all" = none)(CI:mg "ord" = none):bc P w K mg am Am 2 f fd ["thing"] (Ak Rm):=by
 show B3 F yS (λts Γ Z Y h=>?_) (λcb A outer s H E ts Γ Z Y hr h=>?_)
 ·let⟨t,rfl,_⟩:=h
  rfl
 let⟨t,rfl,pt,q⟩:=h;show⟨_,(A3 (Ag (PW.pt (CQ (BL (BI (D4 rfl ai rfl cK JU (qv 0)))) (D3 (B2 JF (Ar RB rfl aB BC (A0 (qv 0) A5)) (ED rfl jQ vE))))) (A3 (AN BE)
  A8) A8)
  (A3 (AN (Ar (FH rfl) rfl bp FD (A0 (EC (own:=["sign"]) (cap:=[]) F0 rfl (aL (qv 0)) (λ_ _ _ _=>II) (λ_ _ _ _=>Dv) (λ_ _ _ _=>(Af Ck hr (A0 (Ar (aci) rfl CI PyProof.Rows.boot_ord (A0 (qv 0) A5)) A5)))) A5)))
  A8)),?_⟩
 simp only[Ap];left;show ET (in_str pt) ?_;exists c
 ·left
  show AB .refl ?_;cases t with
  |str z=>cases c
  |_=>show q
 let⟨z,rfl⟩:=M3 (t:=t) (by simpa using c);let zl:=pt.txt;let q:Z (.bl (decide (z.length≤60)&&z.cps.toList.all λc=>MS (c:Nat))) Γ:=q;left;show⟨z,rfl,Cu zl (by decide),?_⟩;exists c1
 ·let c1:=Cc c1
  left;rw[DN (show ¬z.length≤60 by lia),Dw]at q;show AB .refl q
 let c1:=Eu c1;rw[Bi (show z.length≤60 by lia),Bd]at q;left;show⟨Cn (Cr (by unfold I0;rw[AM,G9];lia)),?_⟩;show⟨λv4 τ ys Γ'=>∃(cs ds:List Nat) (o:Option T),v4=cs.map (λc=>T.str ⟨#[c]⟩)∧z.cps.toList=ds++cs∧τ=[o]∧ys=(ds.map λc=>MS (c:Nat)).map T.bl∧Γ'=Γ,Ψ3 z.cps.toList [] none ⟨rfl,rfl,rfl,rfl,rfl⟩,?_,?_⟩
 ·intro τ ys Γ'⟨cs,ds,o,er,ez,rfl,rfl,rfl⟩
  let hz:cs=[]:=by
   cases cs with
   |nil=>rfl
   |cons _ _=>cases er
  subst hz;rw[BN]at ez;subst ez;show⟨trivial,?_⟩;clear p1 ki e1 Γ1 g1 l1
  left;show Ψ2 p1 _ ⟨rfl,Bx g1,?_⟩;rw[FY];show AB l1 q
 ·intro x r τ ys Γ'⟨cs,ds,o,er,ez,rfl,rfl,rfl⟩
  cases cs with
  |nil=>cases er
  |cons c cs=>
   cases er;show⟨trivial,?_⟩;left;show⟨_,rfl,rfl,?_⟩;left;show⟨_,rfl,?_⟩;show Ψ3 cs (ds++[c]) _ ⟨rfl,by rw[ez];simp,rfl,by rw[Ad,Ad];rfl,rfl⟩
@[reducible]def Nu:Stmt:=top 25
def pN:Aq ["kind","thing","head"] ["kind","thing"] (Ac Nu):=nofun
abbrev J5(n:Nat):Av:=λts Γ Z _=>∃(k:Kd) (t:T),ts=[k.tr,t]∧k.good∧k.depth<n∧Pt Γ t∧Z (.bl (CH k t)) Γ
@[reducible]def Mg:Stmt:=top 29
def rP:Aq ["fields","parts"] ["fields","parts"] (Ac Mg):=nofun
abbrev Ru(n:Nat):Av:=λts Γ Z _=>∃(fs:ad) (us:List T),ts=[.tup (DS fs),.tup us]∧FW fs∧fs.length≤6∧GH fs<n∧Pt Γ (.tup us)∧Z (.bl (decide (us.length=fs.length)&&Jo fs us)) Γ
def Ts:∀{fs:List (Str×Kd)} {p:Str×Kd},FW fs→p∈fs→p.2.good
 |(n,k)::r,p,h,hp=>by
  unfold FW at h;rcases aaf.mp hp with rfl|hp
  ·show h.2.1
  ·show Ts h.2.2 hp
def vT(F:cJ K "is_record" "is_record" Mg f fd)(cw:AY P w K mg am "is_worth" (lv+1) ["kind","thing"] (J5 n))(aB:mg "len" = none)(bp:mg "all" = none)(fS:mg "zip" = none):bc P w K mg am Am (lv+2) f fd ["fields","parts"] (Ak (Ru n)):=by
 show B3 F rP (λts Γ Z Y h=>?_) (λcb A outer s H E ts Γ Z Y hr h=>?_)
 ·let⟨fs,us,rfl,_⟩:=h
  rfl
 let⟨fs,us,rfl,gf,f6,df,pt,q⟩:=h;show⟨_,(A3 (Ag (B2 E3 (Ar Bw rfl aB BC (A0 (qv 1) A5)) (Ar Bw rfl aB BC (A0 (qv 0) A5))) (A3 (AN BE)
  A8) A8)
  (A3 (AN (Ar (FH rfl) rfl bp FD (A0 (EC (own:=["name","inner","part"]) (cap:=[]) F0 rfl (i8 rfl fS (A0 (qv 0) (A0 (qv 1) A5))) (λ_ _ _ _=>(Bn (n:=2) rfl (AS (Bn (n:=2) rfl (AS (Bb (i:=0) (show List.Nodup (["name","inner","part"]:List Str)from by done) rfl (Or.inl rfl) (Or.inr rfl)) (AS (Bb (i:=1) (show List.Nodup (["name","inner","part"]:List Str)from by done) rfl (Or.inl rfl) (Or.inr rfl)) Bu))) (AS (Bb (i:=2) (show List.Nodup (["name","inner","part"]:List Str)from by done) rfl (Or.inl rfl) (Or.inr rfl)) Bu)))) (λ_ _ _ _=>Dv) (λ_ _ _ _=>(Af cw hr (A0 (qv 1) (A0 (qv 2) A5))))) A5)))
  A8)),?_⟩
 simp only[Ap];let⟨tl,tm⟩:=pt.items;left;rw[Jf];show AU (λc=>?_) (λc=>?_)
 ·let c:us.length≠fs.length:=λe=>by rw[e]at c;simp at c
  left;rw[DN c]at q;show AB .refl q
 let c:us.length=fs.length:=by
  have:decide (V.int (us.length:Int)=V.int (fs.length:Nat))=true:=by simpa using c
  have:=Ky this;lia
 rw[Bi c,Bd]at q;left;show⟨Cn (Cr (by rw[JD,Jf];lia)),?_⟩;show⟨λv4 τ ys Γ'=>∃(gs:ad) (vs:List T) (bs:List Bool) (o1 o2 o3:Option T),v4=EZ (DS gs) vs∧(∀p∈gs,p∈fs)∧(∀t∈vs,t∈us)∧gs.length=vs.length∧τ=[o1,o2,o3]∧ys=bs.map T.bl∧Jo fs us=(bs.all id&&Jo gs vs)∧Γ'=Γ,Ψ6 fs us [] none none none ⟨rfl,λ_ h=>h,λ_ h=>h,c.symm,rfl,rfl,by simp,rfl⟩,?_,?_⟩
 ·intro τ ys Γ'⟨gs,vs,bs,o1,o2,o3,er,_,_,el,rfl,rfl,e,rfl⟩
  let hz:gs=[]:=by
   cases gs with
   |nil=>rfl
   |cons p gs=>
    cases vs with
    |nil=>cases el
    |cons t vs=>cases er
  subst hz;show⟨trivial,?_⟩;clear p1 ki e1 Γ1 g1 l1
  left;show Ψ2 p1 bs ⟨rfl,Bx g1,?_⟩;rw[e]at q;unfold Jo at q;rw[Gp]at q;show AB l1 q
 ·intro x r τ ys Γ'⟨gs,vs,bs,o1,o2,o3,er,hg,hv,el,rfl,rfl,e,rfl⟩
  cases gs with
  |nil=>cases er
  |cons p gs=>
   cases vs with
   |nil=>cases el
   |cons t vs=>
    obtain⟨nm,k⟩:=p;cases er;show⟨trivial,?_⟩;left;show Ψ2 k t ⟨rfl,Ts (p:=(nm,k)) gf (hg (nm,k) (by simp)),BA (LC (p:=(nm,k)) (hg (nm,k) (by simp))) df,tm t (hv t (by simp)),?_⟩;show Ψ6 gs vs (bs++[CH k t]) _ _ _ ⟨rfl,λp h=>hg p (DT _ h),λp h=>hv p (DT _ h),by simpa using el,rfl,by simp,?_,rfl⟩;rw[e,Jo,NJ];simp[Kh]
@[reducible]def Ol:Stmt:=top 30
def abN:Aq ["fields","pair"] ["fields","pair"] (Ac Ol):=nofun
abbrev Tj(n:Nat):Av:=λts Γ Z _=>∃(fs:ad) (us:List T),ts=[.tup (DS fs),.tup us]∧FW fs∧fs.length≤6∧GH fs<n∧Pt Γ (.tup us)∧Z (.bl (CH (.pick fs) (.tup us))) Γ
def zK{fs:List (Str×Kd)}:∀{us:List T},us.length≠2→CH (.pick fs) (.tup us)=false
 |[],_=>by unfold CH;rfl
 |[a],_=>by cases a<;>(unfold CH;rfl)
 |[a,b],h=>absurd rfl h
 |a::b::c::r,_=>by cases a<;>(unfold CH;rfl)
def yh{fs:List (Str×Kd)}{a b:T}(h:isStr a=false):CH (.pick fs) (.tup [a,b])=false:=by
 cases a with
 |str z=>cases h
 |_=>unfold CH;rfl
def qS{fs:ad}{b:T}:CH (.pick fs) (.tup [.str z,b])=Io fs z b:=by rw[CH]
def aaR(F:cJ K "is_choice" "is_choice" Ol f fd)(cw:AY P w K mg am "is_worth" (lv+1) ["kind","thing"] (J5 n))(aB:mg "len" = none)(nh:mg "any" = none)(ai:mg "isinstance" = none)(cK:mg "str" = none):bc P w K mg am Am (lv+2) f fd ["fields","pair"] (Ak (Tj n)):=by
 show B3 F abN (λts Γ Z Y h=>?_) (λcb A outer s H E ts Γ Z Y hr h=>?_)
 ·let⟨fs,us,rfl,_⟩:=h
  rfl
 let⟨fs,us,rfl,gf,f6,df,pt,q⟩:=h;show⟨_,(A3 (Ag (PW.pt (CQ (B2 E3 (Ar Bw rfl aB BC (A0 (qv 1) A5)) A9) (D3 (BL (BI (D4 rfl ai rfl cK JU (AO (qv 1) A9))))))) (A3 (AN BE)
  A8) A8)
  (A3 (AN (Ar (lX rfl) rfl nh PyProof.Rows.boot_any (A0 (EC (own:=["name","inner"]) (cap:=[(1,"pair")]) (Fj rfl (by done) (by done) rfl (⟨rfl,trivial⟩) rfl (⟨⟨rfl,rfl,rfl⟩,trivial⟩)) rfl (E4 (qv 0)) (λ_ _ _ _=>(Bn (n:=2) rfl (AS (Bb (i:=0) (show List.Nodup (["name","inner","pair"]:List Str)from by done) rfl (Or.inl rfl) (Or.inr rfl)) (AS (Bb (i:=1) (show List.Nodup (["name","inner","pair"]:List Str)from by done) rfl (Or.inl rfl) (Or.inr rfl)) Bu)))) (λ_ _ _ _=>Dv) (λ_ _ _ _=>(CV (Dh Bm (qv 0) (AO (qv 2) A9)) (CU (Af cw hr (A0 (qv 1) (A0 (AO (qv 2) A9) A5))))))) A5)))
  A8)),?_⟩
 simp only[Ap];let⟨tl,tm⟩:=pt.items;exists c
 ·let c:us.length≠2:=λe=>by rw[e]at c;revert c;decide
  left;rw[zK c]at q;show AB .refl q
 let c:us.length=2:=by
  have:decide (V.int (us.length:Int)=V.int 2)=true:=by simpa using c
  have:=Ky this;lia
 match us,c with
 |[a,b],_=>
  left;show ET (in_str (tm a (by simp))) ?_;exists c1
  ·left
   rw[yh (by simpa using c1)]at q;show AB .refl q
  let⟨z,rfl⟩:=M3 (t:=a) (by simpa using c1);rw[qS]at q;left;show⟨Cn (Cr (by rw[Jf];lia)),?_⟩;show⟨λv4 τ ys Γ'=>∃(gs:List (Str×Kd)) (bs:List Bool) (o1 o2:Option T),v4=DS gs∧(∀p∈gs,p∈fs)∧τ=[o1,o2,some (.tup [.str z,b])]∧ys=bs.map T.bl∧Io fs z b=(bs.any id||Io gs z b)∧Γ'=Γ,Ψ4 fs [] none none ⟨rfl,λ_ h=>h,rfl,rfl,by simp,rfl⟩,?_,?_⟩
  ·intro τ ys Γ'⟨gs,bs,o1,o2,er,_,rfl,rfl,e,rfl⟩
   let hz:gs=[]:=by
    cases gs with
    |nil=>rfl
    |cons p gs=>cases er
   subst hz;show⟨trivial,?_⟩;clear p1 ki e1 Γ1 g1 l1
   left;show Ψ2 p1 bs ⟨rfl,Bx g1,?_⟩;rw[e]at q;unfold Io at q;rw[Qa]at q;show AB l1 q
  ·intro x r τ ys Γ'⟨gs,bs,o1,o2,er,hg,rfl,rfl,e,rfl⟩
   cases gs with
   |nil=>cases er
   |cons p gs=>
    obtain⟨nm,k⟩:=p;cases er;show⟨trivial,?_⟩;left;let eqd:decide (V.str nm=V.str z)=decide (nm=z):=aba.mpr ⟨V.str.inj,λe=>by rw[e]⟩;rw[eqd];show AU (λc2=>?_) (λc2=>?_)
    ·left
     show Ψ2 k b ⟨rfl,Ts (p:=(nm,k)) gf (hg (nm,k) (by simp)),BA (LC (p:=(nm,k)) (hg (nm,k) (by simp))) df,tm b (by simp),?_⟩;show Ψ4 gs (bs++[CH k b]) _ _ ⟨rfl,λp h=>hg p (DT _ h),rfl,by simp,?_,rfl⟩;rw[e,Io,List.any_append,c2];simp[Bool.or_assoc]
    ·show Ψ4 gs (bs++[false]) _ _ ⟨rfl,λp h=>hg p (DT _ h),rfl,by simp,?_,rfl⟩
     rw[e,Io,List.any_append,c2];simp
def ab8(F:cJ K "is_worth" "is_worth" Nu f fd)(je:AY P w K mg am "is_number" 2 ["width","thing"] Rn)(md:AY P w K mg am "is_text" 2 ["thing"] Rm)(cw:AY P w K mg am "is_worth" (lv+1) ["kind","thing"] (J5 n))(xO:AY P w K mg am "is_record" (lv+2) ["fields","parts"] (Ru n))(xP:AY P w K mg am "is_choice" (lv+2) ["fields","pair"] (Tj n))(cE:mg "MOST_ITEMS" = some v1)(dY:D5 v1 (.int 60))(ai:mg "isinstance" = none)(aC:mg "tuple" = none)(aB:mg "len" = none)(bp:mg "all" = none):bc P w K mg am Am (lv+3) f fd ["kind","thing"] (Ak (J5 (n+1))):=by
 show B3 F pN (λts Γ Z Y h=>?_) (λcb A outer s H E ts Γ Z Y hr h=>?_)
 ·let⟨k,t,rfl,_⟩:=h
  rfl
 let⟨k,t,rfl,kg,kd,pt,q⟩:=h;show⟨_,(A3 (As (i:=2) pN.nd (AO (qv 0) A9))
  (A3 (Ag (B2 Bm (qv 2) Al) (A3 (AN (Af je hr (A0 (AO (qv 0) A9) (A0 (qv 1) A5))))
  A8) A8)
  (A3 (Ag (B2 Bm (qv 2) Al) (A3 (AN (Af md hr (A0 (qv 1) A5)))
  A8) A8)
  (A3 (Ag (BL (BI (D4 rfl ai rfl aC Dm (qv 1)))) (A3 (AN BE)
  A8) A8)
  (A3 (Ag (B2 Bm (qv 2) Al) (A3 (AN (CV (Dh FF (Ar Bw rfl aB BC (A0 (qv 1) A5)) (ED rfl cE dY)) (CU (Ar (FH rfl) rfl bp FD (A0 (EC (own:=["item"]) (cap:=[(0,"kind")]) (Fj rfl (by done) (by done) rfl (⟨rfl,trivial⟩) rfl (⟨⟨rfl,rfl,rfl⟩,trivial⟩)) rfl (E4 (qv 1)) (λ_ _ _ _=>(Bb (i:=0) (show List.Nodup (["item","kind"]:List Str)from by done) rfl (Or.inl rfl) (Or.inr rfl))) (λ_ _ _ _=>Dv) (λ_ _ _ _=>(Af cw hr (A0 (AO (qv 1) A9) (A0 (qv 0) A5))))) A5)))))
  A8) A8)
  (A3 (Ag (B2 Bm (qv 2) Al) (A3 (AN (Af xO hr (A0 (AO (qv 0) A9) (A0 (qv 1) A5))))
  A8) A8)
  (A3 (AN (Af xP hr (A0 (AO (qv 0) A9) (A0 (qv 1) A5))))
  A8))))))),?_⟩
 simp only[Ap];cases k with
 |num wd=>
  rw[Kd.tr];unfold Kd.good at kg;left;show Ψ2 wd t ⟨rfl,by lia,by lia,pt,AB .refl (by unfold CH at q;show q)⟩
 |text=>
  rw[Kd.tr];left;show⟨t,rfl,pt,AB .refl (by unfold CH at q;show q)⟩
 |row k=>
  rw[Kd.tr];unfold Kd.good at kg;unfold Kd.depth at kd;left;show ET (HX pt) ?_;exists c
  ·left
   show AB .refl ?_;cases t with
   |tup ts=>cases c
   |_=>unfold CH at q;show q
  let⟨ts,rfl⟩:=Hu (t:=t) (by simpa using c);let⟨tl,tm⟩:=pt.items;rw[CH]at q;exists c1;rotate_left
  ·let c1:=Eu c1
   rw[DN (show ¬ts.length≤60 by lia)]at q;show AB .refl q
  let c1:=Cc c1;rw[Bi (show ts.length≤60 by lia),Bd]at q;left;show⟨Cn (Cr (by lia)),?_⟩;show⟨λv4 τ ys Γ'=>∃(ds:List T) (o:Option T),ts=ds++v4∧τ=[o,some (.tup [.str "row",k.tr])]∧ys=(ds.map (CH k)).map T.bl∧Γ'=Γ,Ψ2 [] none ⟨rfl,rfl,rfl,rfl⟩,?_,?_⟩;rotate_left
  ·intro x r τ ys Γ'⟨ds,o,ez,rfl,rfl,rfl⟩
   show⟨trivial,?_⟩;left;show Ψ2 k x ⟨rfl,kg,by lia,tm x (by rw[ez];simp),?_⟩;show Ψ2 (ds++[x]) _ ⟨by rw[ez];simp,rfl,by rw[Ad,Ad];rfl,rfl⟩
  intro τ ys Γ'⟨ds,o,ez,rfl,rfl,rfl⟩;rw[BN]at ez;subst ez;show⟨trivial,?_⟩;clear p1 ki e1 Γ1 g1 l1
  left;show Ψ2 p1 _ ⟨rfl,Bx g1,?_⟩;rw[FY];show AB l1 q
 |rec_ fs=>
  rw[Kd.tr];unfold Kd.good at kg;unfold Kd.depth at kd;left;show ET (HX pt) ?_;exists c
  ·left
   show AB .refl ?_;cases t with
   |tup ts=>cases c
   |_=>unfold CH at q;show q
  let⟨ts,rfl⟩:=Hu (t:=t) (by simpa using c);rw[CH]at q;left;show Ψ2 fs ts ⟨rfl,kg.1,kg.2.2.1,by lia,pt,AB .refl q⟩
 |pick fs=>
  rw[Kd.tr];unfold Kd.good at kg;unfold Kd.depth at kd;left;show ET (HX pt) ?_;exists c
  ·left
   show AB .refl ?_;cases t with
   |tup ts=>cases c
   |_=>unfold CH at q;show q
  let⟨ts,rfl⟩:=Hu (t:=t) (by simpa using c);left;show Ψ2 fs ts ⟨rfl,kg.1,kg.2.2.1,by lia,pt,AB .refl q⟩
end
def qW{α:Type}(o:Option (Nat×α))(i:Nat):(o.map λp=>(p.1+1,p.2)).map (λp=>(p.1+i,p.2))=o.map λp=>(p.1+(i+1),p.2):=by
 cases o with
 |none=>rfl
 |some p=>show some (p.1+1+i,p.2)=some (p.1+(i+1),p.2);congr 2;lia
section
variable {K: W.Frag}{dN: Addr}
@[reducible]def Qp:Stmt:=top 18
def fA:Aq ["kind","name","place","other","inner"] ["kind","name"] (Ac Qp):=nofun
abbrev Zj(D:Addr):Av:=λts Γ Z Y=>∃(hd:Str) (fs:ad) (x:T),ts=[.tup [.str hd,.tup (DS fs)],x]∧Sx x∧(∀j k,El fs x=some (j,k)→Z (.int j) Γ)∧(El fs x=none→Y (.ref D) Γ)
def acv(F:cJ K "field_place" "field_place" Qp f fd)(eI:mg "NoPart" = some (.ref dN))(ni:W.excIn K dN [.type "ValueError",.type "Exception",.type "BaseException",.type "object"] "ValueError.__new__" = true)
  (kC:mg "enumerate" = none):bc P w K mg am (EU P w) 1 f fd ["kind","name"] (Ak (Zj dN)):=by
 show RL F fA (λts Γ Z Y h=>?_) (λcb A outer s H E ts Γ Z Y hr h=>?_)
 ·let⟨hd,fs,x,rfl,_⟩:=h
  rfl
 let⟨hd,fs,x,rfl,sx,q,qE⟩:=h;show⟨_,(A3 (Fo i5 rfl (qj rfl kC (A0 (AO (qv 0) A9) A5)) (Bn (n:=2) rfl (AS (Aj (i:=2) fA.nd) (AS (Bn (n:=2) rfl (AS (Aj (i:=3) fA.nd) (AS (Aj (i:=4) fA.nd) Bu))) Bu))) (A3 (Ag (B2 Bm (qv 3) (qv 1)) (A3 (AN (qv 2))
  A8) A8)
  A8))
  (A3 (QD rfl rfl eI ni T3 (A0 Al A5) Sp)
  A8)),?_⟩
 simp only[Ap];left;show⟨λv4 τ Γ'=>∃(i:Nat) (gs:ad) (o2 o3 o4:Option T),v4=Hb i (DS gs)∧τ=[some (.tup [.str hd,.tup (DS fs)]),some x,o2,o3,o4]∧Γ'=Γ∧El fs x=(El gs x).map λp=>(p.1+i,p.2),?_,?_,?_⟩
 ·show Ψ5 0 fs none none none ⟨rfl,rfl,rfl,by cases El fs x<;>rfl⟩
 ·intro τ Γ'⟨i,gs,o2,o3,o4,e,rfl,rfl,b⟩
  cases gs with
  |cons p r=>cases e
  |nil=>
   show⟨trivial,?_⟩;left;show⟨Γ',.refl,qE ?_⟩;rw[b];cases sx<;>rfl
 ·intro x0 r τ Γ'⟨i,gs,o2,o3,o4,e,rfl,rfl,b⟩
  cases gs with
  |nil=>cases e
  |cons p gs=>
   obtain⟨n,k⟩:=p;cases e;left;cases sx with
   |int j=>
    left;show Ψ5 (i+1) gs _ _ _ ⟨rfl,rfl,rfl,b⟩
   |@str z l=>
    exists c
    ·cases QL c
     left;show AB .refl (q i k ?_);rw[b];show(if n=n then some (0,k)else _).map _=_
     rw[Ab rfl];show some (0+i,k)=_
     rw[Nat.zero_add]
    ·left
     show Ψ5 (i+1) gs _ _ _ ⟨rfl,rfl,rfl,?_⟩;rw[b];show(if n=z then some (0,k)else(findF gs z).map λp=>(p.1+1,p.2)).map _=_
     rw[AP (Rp c)];show qW _ _
def Sx.pt{x:T}(h:Sx x):Pt Γ x:=by
 cases h with
 |int i=>show .int i
 |str l=>show .str (by lia)
@[reducible]def UY:Stmt:=top 17
def nz:Aq ["kind","step","head"] ["kind","step"] (Ac UY):=nofun
abbrev kW(D:Addr):Av:=λts Γ Z Y=>∃(k:Kd) (x:T),ts=[k.tr,x]∧Sx x∧(∀k',stepK k x=some k'→Z k'.tr Γ)∧(stepK k x=none→Y (.ref D) Γ)
def u0(F:cJ K "step_kind" "step_kind" UY f fd)(bR:AY P w K mg am "is_whole" 1 ["thing"] Hi)(tW:Ll P w K mg am "field_place" 1 ["kind","name"] (Zj dN))(eI:mg "NoPart" = some (.ref dN))(ni:W.excIn K dN [.type "ValueError",.type "Exception",.type "BaseException",.type "object"] "ValueError.__new__" = true)
  (cE:mg "MOST_ITEMS" = some v1) (dY:D5 v1 (.int 60)):bc P w K mg am (EU P w) 2 f fd ["kind","step"] (Ak (kW dN)):=by
 show RL F nz (λts Γ Z Y h=>?_) (λcb A outer s H E ts Γ Z Y hr h=>?_)
 ·let⟨k,x,rfl,_⟩:=h
  rfl
 let⟨k,x,rfl,sx,q,qE⟩:=h;show⟨_,(A3 (As (i:=2) nz.nd (AO (qv 0) A9))
  (A3 (Ag (B2 Bm (qv 2) Al) (A3 (Ag (PW.pt (Hq (BI (Af bR hr (A0 (qv 1) A5))) (IM (S9 FF LK A9 (qv 1) (ED rfl cE dY))))) (A3 (AN (AO (qv 0) A9))
  A8) A8)
  (A3 (QD rfl rfl eI ni T3 (A0 Al A5) Sp)
  A8)) A8)
  (A3 (Ag (L0 dC (qv 2) (BM (A0 Al (A0 Al A5))) (by with_unfolding_all rfl)) (A3 (AN (AO (AO (AO (qv 0) A9) (Rl tW hr Va (A0 (qv 0) (A0 (qv 1) A5)))) A9))
  A8) A8)
  (A3 (QD rfl rfl eI ni T3 (A0 Al A5) Sp)
  A8)))),?_⟩
 simp only[Ap];let no:stepK k x=none→∃Γ2,Le Γ2 Γ∧Y (.ref dN) Γ2:=λe=>⟨Γ,.refl,qE e⟩;cases k with
 |num wd=>rw[Kd.tr];left;show no rfl
 |text=>rw[Kd.tr];left;show no rfl
 |row j=>
  rw[Kd.tr];left;show⟨x,rfl,sx.pt,?_⟩;cases sx with
  |str l=>left;show no rfl
  |int i=>
   exists c
   ·left
    show AU (λc2=>?_) (λc2=>?_)
    ·left
     show AB .refl (q j ?_);show Ab ⟨Cc c,Cc c2⟩
    ·left
     show no (AP λz=>Eu c2 z.2)
   ·left
    show no (AP λz=>Eu c z.1)
 |rec_ fs=>
  rw[Kd.tr];left;show Ψ3 ("rec") fs x ⟨rfl,sx,λj k e=>?_,λe=>no (by show(El fs x).map _=_;rw[e];rfl)⟩;let⟨n,rfl,m⟩:=OG e;show Hj (fZ m) ?_;left;show AB .refl (q k (by show(El fs _).map _=_;rw[e];rfl))
 |pick fs=>
  rw[Kd.tr];left;show Ψ3 ("pick") fs x ⟨rfl,sx,λj k e=>?_,λe=>no (by show(El fs x).map _=_;rw[e];rfl)⟩;let⟨n,rfl,m⟩:=OG e;show Hj (fZ m) ?_;left;show AB .refl (q k (by show(El fs _).map _=_;rw[e];rfl))
@[reducible]def TE:Stmt:=top 16
def hV:Aq ["kind","path","found","step"] ["kind","path"] (Ac TE):=nofun
abbrev fQ(D:Addr):Av:=λts Γ Z Y=>∃(k:Kd) (ps:List T),ts=[k.tr,.tup ps]∧(∀p∈ps,Sx p)∧(∀k',DE k ps=some k'→Z k'.tr Γ)∧(DE k ps=none→Y (.ref D) Γ)
def aab(F:cJ K "part_kind" "part_kind" TE f fd)(xH:Ll P w K mg am "step_kind" 2 ["kind","step"] (kW dN)):bc P w K mg am (EU P w) 3 f fd ["kind","path"] (Ak (fQ dN)):=by
 show RL F hV (λts Γ Z Y h=>?_) (λcb A outer s H E ts Γ Z Y hr h=>?_)
 ·let⟨k,ps,rfl,_⟩:=h
  rfl
 let⟨k,ps,rfl,hp,q,qE⟩:=h;show⟨_,(A3 (As (i:=2) hV.nd (qv 0))
  (A3 (Fo i5 rfl (E4 (qv 1)) (Aj (i:=3) hV.nd) (A3 (As (i:=2) hV.nd (Rl xH hr Va (A0 (qv 2) (A0 (qv 3) A5))))
  A8))
  (A3 (AN (qv 2))
  A8))),?_⟩
 simp only[Ap];left;show⟨λv4 τ Γ'=>∃(k':Kd) (o3:Option T),τ=[some k.tr,some (.tup ps),some k'.tr,o3]∧Γ'=Γ∧(∀p∈v4,Sx p)∧DE k ps=DE k' v4,?_,?_,?_⟩
 ·show Ψ2 k none ⟨rfl,rfl,hp,rfl⟩
 ·intro τ Γ'⟨k',o3,rfl,rfl,oZ,e⟩
  show⟨trivial,?_⟩;left;show AB .refl (q k' e)
 ·intro x r τ Γ'⟨k',o3,rfl,rfl,oZ,e⟩
  have e':DE k ps=match stepK k' x with|some k2=>DE k2 r|none=>none:=e
  left;show Ψ2 k' x ⟨rfl,oZ x (by simp),λk3 e3=>?_,λe3=>⟨Γ',.refl,qE (by rw[e',e3])⟩⟩;left;show Ψ2 k3 _ ⟨rfl,rfl,λp hp=>oZ p (by simp[hp]),by rw[e',e3]⟩
@[reducible]def RI:Stmt:=top 58
def ab0:Aq ["kind","path"] ["kind","path"] (Ac RI):=nofun
abbrev Ed:Option Kd→T
 |some k=>k.tr
 |none=>.non
abbrev ME:Av:=λts Γ Z _=>∃(k:Kd) (ps:List T),ts=[k.tr,.tup ps]∧(∀p∈ps,Sx p)∧Z (Ed (DE k ps)) Γ
def ug(F:cJ K "kind_at" "kind_at" RI f fd)(xI:Ll P w K mg am "part_kind" 3 ["kind","path"] (fQ dN))(eI:mg "NoPart" = some (.ref dN))(xm:W.exmOne K (.ref dN) (.ref dN)=some true):bc P w K mg am Am 4 f fd ["kind","path"] (Ak ME):=by
 show B3 F ab0 (λts Γ Z Y h=>?_) (λcb A outer s H E ts Γ Z Y hr h=>?_)
 ·let⟨k,ps,rfl,_⟩:=h
  rfl
 let⟨k,ps,rfl,hp,q⟩:=h;show⟨_,(A3 (uR rfl rfl rfl eI (λ_ _ _ hx=>(A3 (AN (Rl xI hr hx (A0 (qv 0) (A0 (qv 1) A5))))
  A8)) (λ_=>(A3 (AN FP)
  A8)))
  A8),?_⟩
 simp only[Ap];left;unfold iz;left;show Ψ2 k ps ⟨rfl,hp,λk' e=>AB .refl (by rw[e]at q;show q),λe=>⟨xm,?_⟩⟩;rw[e]at q;left;show AB .refl q
end
inductive Sm where
 |new (x:Str) (k:Kd) (w:T)
 |copy (x y:Str)
 |part (x y:Str) (p:List T)
 |put (y:Str) (p:List T) (x:Str)
 |add (y:Str) (p:List T) (x:Str)
 |drop (x:Str)
 |say (x:Str)
 |call (z:Option Str) (d:Str) (ns:List Str)
 |same (x y:Str) (a b:List Sm)
 |fail (n:Int)
 |tri (a b:List Sm)
 |back (x:Str)
abbrev jv:Option Str→T
 |some z=>.str z
 |none=>.non
mutual
def Sm.tr:Sm→T
 |.new x k w=>.tup [.str "new",.str x,k.tr,w]
 |.copy x y=>.tup [.str "copy",.str x,.str y]
 |.part x y p=>.tup [.str "part",.str x,.str y,.tup p]
 |.put y p x=>.tup [.str "put",.str y,.tup p,.str x]
 |.add y p x=>.tup [.str "add",.str y,.tup p,.str x]
 |.drop x=>.tup [.str "drop",.str x]
 |.say x=>.tup [.str "say",.str x]
 |.call z d ns=>.tup [.str "call",jv z,.str d,.tup (ns.map T.str)]
 |.same x y a b=>.tup [.str "same",.str x,.str y,.tup (BG a),.tup (BG b)]
 |.fail n=>.tup [.str "fail",.int n]
 |.tri a b=>.tup [.str "try",.tup (BG a),.tup (BG b)]
 |.back x=>.tup [.str "back",.str x]
def BG:List Sm→List T
 |[]=>[]
 |s::r=>s.tr::BG r
end
def JV:∀ss:List Sm,BG ss=ss.map Sm.tr
 |[]=>by rw[BG];rfl
 |s::r=>by rw[BG,JV r];rfl
def mY(ss:List Sm):(BG ss).length=ss.length:=by rw[JV,AM]
mutual
def Sm.Ok:Sm→Prop
 |.new x k w=>x.length≤1000∧k.good∧k.depth≤5∧∀Γ,Pt Γ w
 |.copy x y=>x.length≤1000∧y.length≤1000
 |.part x y p=>x.length≤1000∧y.length≤1000∧p.length≤1000∧∀t∈p,Sx t
 |.put y p x=>y.length≤1000∧x.length≤1000∧p.length≤1000∧∀t∈p,Sx t
 |.add y p x=>y.length≤1000∧x.length≤1000∧p.length≤1000∧∀t∈p,Sx t
 |.drop x=>x.length≤1000
 |.say x=>x.length≤1000
 |.call z d ns=>(∀x,z=some x→x.length≤1000)∧d.length≤1000∧ns.length≤1000∧∀x∈ns,x.length≤1000
 |.same x y a b=>x.length≤1000∧y.length≤1000∧a.length≤1000∧b.length≤1000∧Bc a∧Bc b
 |.fail _=>True
 |.tri a b=>a.length≤1000∧b.length≤1000∧Bc a∧Bc b
 |.back x=>x.length≤1000
def Bc:List Sm→Prop
 |[]=>True
 |s::r=>s.Ok∧Bc r
end
def kP:∀{ss:List Sm} {s:Sm},Bc ss→s∈ss→s.Ok
 |s::r,x,h,hx=>by
  unfold Bc at h;rcases aaf.mp hx with rfl|hx
  ·show h.1
  ·show kP h.2 hx
abbrev DP(x:Str):Bool:=EG (.str x)
mutual
def Sm.fm:Sm→Nat→Bool
 |.new x k w,_=>DP x&&CH k w
 |.copy x y,_=>DP x&&DP y
 |.part x y _,_=>DP x&&DP y
 |.put y _ x,_=>DP y&&DP x
 |.add y _ x,_=>DP y&&DP x
 |.drop x,_=>DP x
 |.say x,_=>DP x
 |.call z d ns,_=>z.all DP&&(DP d&&ns.all DP)
 |.same x y a b,d=>DP x&&(DP y&&((decide (d+1≤4)&&Bq a (d+1))&&(decide (d+1≤4)&&Bq b (d+1))))
 |.fail n,_=>decide (0≤n)&&decide (n≤999)
 |.tri a b,d=>(decide (d+1≤4)&&Bq a (d+1))&&(decide (d+1≤4)&&Bq b (d+1))
 |.back x,_=>DP x
def Bq:List Sm→Nat→Bool
 |[],_=>true
 |s::r,d=>s.fm d&&Bq r d
end
def MV:∀(ss:List Sm) (d:Nat),Bq ss d=ss.all λs=>s.fm d
 |[],d=>by rw[Bq];rfl
 |s::r,d=>by rw[Bq,MV r d];rfl
abbrev GN(ss:List Sm)(d:Nat):Bool:=decide (d≤4)&&Bq ss d
inductive js where
 |name (x:Str)
 |nmn (z:Option Str)
 |nms (ns:List Str)
 |path (p:List T)
 |kind (k:Kd)
 |worth (w:T)
 |body (ss:List Sm)
 |fail (n:Int)
abbrev js.sort:js→Str
 |.name _ => "name"
 |.nmn _ => "name\x20or\x20none"
 |.nms _ => "names"
 |.path _ => "path"
 |.kind _ => "kind"
 |.worth _ => "worth"
 |.body _ => "body"
 |.fail _ => "fail"
abbrev js.tr:js→T
 |.name x=>.str x
 |.nmn z=>jv z
 |.nms ns=>.tup (ns.map T.str)
 |.path p=>.tup p
 |.kind k=>k.tr
 |.worth w=>w
 |.body ss=>.tup (BG ss)
 |.fail n=>.int n
abbrev js.Ok:js→Prop
 |.name x=>x.length≤1000
 |.nmn z=>∀x,z=some x→x.length≤1000
 |.nms ns=>ns.length≤1000∧∀x∈ns,x.length≤1000
 |.path p=>p.length≤1000∧∀t∈p,Sx t
 |.kind k=>k.good∧k.depth≤5
 |.worth _=>True
 |.body ss=>ss.length≤1000∧Bc ss
 |.fail _=>True
abbrev js.fm(d:Nat):js→Bool
 |.name x=>DP x
 |.nmn z=>z.all DP
 |.nms ns=>ns.all DP
 |.path _=>true
 |.kind _=>true
 |.worth _=>true
 |.body ss=>GN ss (d+1)
 |.fail n=>decide (0≤n)&&decide (n≤999)
abbrev Sm.word:Sm→Str
 |.new .. => "new"
 |.copy .. => "copy"
 |.part .. => "part"
 |.put .. => "put"
 |.add .. => "add"
 |.drop .. => "drop"
 |.say .. => "say"
 |.call .. => "call"
 |.same .. => "same"
 |.fail .. => "fail"
 |.tri .. => "try"
 |.back .. => "back"
abbrev Sm.ps:Sm→List js
 |.new x k w=>[.name x,.kind k,.worth w]
 |.copy x y=>[.name x,.name y]
 |.part x y p=>[.name x,.name y,.path p]
 |.put y p x=>[.name y,.path p,.name x]
 |.add y p x=>[.name y,.path p,.name x]
 |.drop x=>[.name x]
 |.say x=>[.name x]
 |.call z d ns=>[.nmn z,.name d,.nms ns]
 |.same x y a b=>[.name x,.name y,.body a,.body b]
 |.fail n=>[.fail n]
 |.tri a b=>[.body a,.body b]
 |.back x=>[.name x]
abbrev Sm.Xc:Sm→Bool
 |.new _ k w=>CH k w
 |_=>true
def Sm.JC(s:Sm):s.tr=.tup (.str s.word::s.ps.map js.tr):=by cases s<;>(unfold Sm.tr;rfl)
def Sm.Q4{s:Sm}(h:s.Ok):∀p∈s.ps,p.Ok:=by
 cases s<;>(unfold Sm.Ok at h;simp[Sm.ps,js.Ok];try (simp_all))
def Sm.Sq(s:Sm)(d:Nat):s.fm d=(s.ps.all (js.fm d)&&s.Xc):=by
 cases s<;>(unfold Sm.fm;simp[Sm.ps,js.fm,Sm.Xc,GN,Kh])
def Sm.Mu(s:Sm):s.ps.length≤4:=by cases s<;>(show _≤4;simp[Sm.ps])
abbrev sorts:List (Str×List Str):=[("new",["name","kind","worth"]),("copy",["name","name"]),("part",["name","name","path"]),("put",["name","path","name"]),("add",["name","path","name"]),("drop",["name"]),("say",["name"]),("call",["name\x20or\x20none","name","names"]),("same",["name","name","body","body"]),("fail",["fail"]),("try",["body","body"]),("back",["name"])]
abbrev Pe(P:Program)(w:World)(K:W.Frag)(a:Addr):Prop:=∃bs:List Addr,bs.length=12∧Br P w K a ((sorts.map (·.1)).zip bs)∧∀(i:Nat) (z:Str) (ss:List Str) (b:Addr),sorts[i]?=some (z,ss)→bs[i]?=some b→ef K b (ss.map V.str)
def Sm.sorted(s:Sm):∃i:Nat,sorts[i]?=some (s.word,s.ps.map js.sort)∧∀bs:List Addr,bs.length=12→((sorts.map (·.1)).zip bs).lookup s.word=bs[i]? := by
 let key:∀i:Nat,i<12→∀z,(sorts.map (·.1))[i]?=some z→∀bs:List Addr,bs.length=12→((sorts.map (·.1)).zip bs).lookup z=bs[i]? := by
  intro i hi z hz bs hb;match bs,hb with
  |[b0,b1,b2,b3,b4,b5,b6,b7,b8,b9,Ul,Uk],_=>
   have:i=0∨i=1∨i=2∨i=3∨i=4∨i=5∨i=6∨i=7∨i=8∨i=9∨i=10∨i=11:=by lia
   rcases this with rfl|rfl|rfl|rfl|rfl|rfl|rfl|rfl|rfl|rfl|rfl|rfl<;>(cases hz;rfl)
 cases s with
 |new x k w=>show⟨0,rfl,key 0 (by decide) _ rfl⟩
 |copy x y=>show⟨1,rfl,key 1 (by decide) _ rfl⟩
 |part x y p=>show⟨2,rfl,key 2 (by decide) _ rfl⟩
 |put y p x=>show⟨3,rfl,key 3 (by decide) _ rfl⟩
 |add y p x=>show⟨4,rfl,key 4 (by decide) _ rfl⟩
 |drop x=>show⟨5,rfl,key 5 (by decide) _ rfl⟩
 |say x=>show⟨6,rfl,key 6 (by decide) _ rfl⟩
 |call z d ns=>show⟨7,rfl,key 7 (by decide) _ rfl⟩
 |same x y a b=>show⟨8,rfl,key 8 (by decide) _ rfl⟩
 |fail n=>show⟨9,rfl,key 9 (by decide) _ rfl⟩
 |tri a b=>show⟨10,rfl,key 10 (by decide) _ rfl⟩
 |back x=>show⟨11,rfl,key 11 (by decide) _ rfl⟩
def iX{H:A4}:∀ss:List Str,Rs H (ss.map V.str) (ss.map T.str)
 |[]=>EM
 |_::r=>Dn Fu (iX r)
def kt_str{K:W.Frag}{b:Addr}{ss:List Str}(h:ef K b (ss.map V.str)):KT K b (ss.map T.str):=⟨_,h,λH=>iX ss⟩
def Pe.get{P:Program}{w:World}{K:W.Frag}(h:Pe P w K a)(s:Sm):∃aq b,Br P w K a aq∧aq.lookup s.word=some b∧KT K b ((s.ps.map js.sort).map T.str):=by
 let⟨bs,hl,kd,kt⟩:=h;let⟨i,e,lk⟩:=s.sorted;let hi:i<bs.length:=by
  have:=(aaE.mp e).1;rw[hl];show this
 show Ψ2 _ (bs[i]) ⟨kd,?_,kt_str (kt i _ _ _ e (Bh hi))⟩;rw[lk bs hl,Bh hi]
def zP{c:Nat}(h:97≤c∧c≤122):Jx c=true:=by
 rw[abL c (by lia)];simp[h.1,h.2]
def JN(h:Nm z):EG (.str z)=true:=by
 rw[Oe,Bi h.1,Bi h.2.1,Bd,Bd,aa2];exactλc hc=>zP (h.2.2 c hc)
def aY(fs:ad):(DS fs).map GX=fs.map (·.1):=by
 rw[P0,D2];rfl
mutual
theorem SF:∀{k:Kd} {d:Nat},k.good→k.depth≤d→Bf d k.tr=true
 |.num w,d,g,h=>by
  rw[Kd.depth]at h;obtain⟨d,rfl⟩:∃e,d=e+1:=⟨d-1,by lia⟩;unfold Kd.good at g;rw[Kd.tr,LR,Ab rfl];show(decide (1≤w)&&decide (w≤4))=true
  rw[Bi g.1,Bi g.2];rfl
 |.text,d,g,h=>by
  rw[Kd.depth]at h;obtain⟨d,rfl⟩:∃e,d=e+1:=⟨d-1,by lia⟩;rw[Kd.tr,aR];show Bi rfl
 |.row k,d,g,h=>by
  rw[Kd.depth]at h;obtain⟨d,rfl⟩:∃e,d=e+1:=⟨d-1,by lia⟩;unfold Kd.good at g;rw[Kd.tr,LR,AP (by done),Ab rfl];show SF g (by lia)
 |.rec_ fs,d,g,h=>by
  rw[Kd.depth]at h;obtain⟨d,rfl⟩:∃e,d=e+1:=⟨d-1,by lia⟩;unfold Kd.good at g;rw[Kd.tr,LR,AP (by done),AP (by done),L9,So g.1 (by lia),Jf,Bi g.2.1,Bi g.2.2.1,aY,Bi g.2.2.2];done
 |.pick fs,d,g,h=>by
  rw[Kd.depth]at h;obtain⟨d,rfl⟩:∃e,d=e+1:=⟨d-1,by lia⟩;unfold Kd.good at g;rw[Kd.tr,LR,AP (by done),AP (by done),L9,So g.1 (by lia),Jf,Bi g.2.1,Bi g.2.2.1,aY,Bi g.2.2.2];done
theorem So:∀{fs:List (Str×Kd)} {d:Nat},FW fs→GH fs≤d→(DS fs).all (Fb (Bf d))=true
 |[],d,g,h=>rfl
 |(n,k)::r,d,g,h=>by
  rw[GH]at h;unfold FW at g;rw[DS,NO,So g.2.2 (by lia),Gp];show(EG (.str n)&&Bf d k.tr)=true
  rw[JN g.1,SF g.2.1 (by lia)];rfl
end
def Og(h:k.good)(d:k.depth≤5):Bf 5 k.tr=true:=SF h d
def MN{a b:T}(h:Pt Γ a)(h':Pt Γ b):Pt Γ (.tup [a,b]):=.tup (by simp) λt m=>by
 rcases aaf.mp m with rfl|m
 ·show h
 ·rcases aaf.mp m with rfl|m
  ·show h'
  ·cases m
mutual
theorem KI{Γ:AJ}:∀{k:Kd},k.good→Pt Γ k.tr
 |.num w,g=>by rw[Kd.tr];show MN (.str (by done)) (.int _)
 |.text,g=>by rw[Kd.tr];show .tup (by simp) λt m=>by(rcases aaf.mp m with rfl|m);show .str (by done);cases m
 |.row k,g=>by
  unfold Kd.good at g;rw[Kd.tr];show MN (.str (by done)) (KI g)
 |.rec_ fs,g=>by
  unfold Kd.good at g;rw[Kd.tr];show MN (.str (by done)) (.tup (by rw[Jf];lia) (U9 g.1))
 |.pick fs,g=>by
  unfold Kd.good at g;rw[Kd.tr];show MN (.str (by done)) (.tup (by rw[Jf];lia) (U9 g.1))
theorem U9{Γ:AJ}:∀{fs:List (Str×Kd)},FW fs→∀t∈DS fs,Pt Γ t
 |[],g,t,h=>by rw[DS]at h;cases h
 |(n,k)::r,g,t,h=>by
  rw[DS]at h;unfold FW at g;rcases aaf.mp h with rfl|h
  ·show MN (.str (by lia)) (KI g.2.1)
  ·show U9 g.2.2 t h
end
section
variable {K: W.Frag}
@[reducible]def Qc:Stmt:=top 48
def v9:Aq ["thing"] ["thing"] (Ac Qc):=nofun
abbrev Uo:Av:=λts Γ Z _=>∃p:List T,ts=[.tup p]∧p.length≤1000∧(∀t∈p,Sx t)∧Z (.bl true) Γ
def acU(F:cJ K "is_path" "is_path" Qc f fd)(bR:AY P w K mg am "is_whole" 1 ["thing"] Hi)(ai:mg "isinstance" = none)(aC:mg "tuple" = none)(cK:mg "str" = none)(bp:mg "all" = none):bc P w K mg am Am 2 f fd ["thing"] (Ak Uo):=by
 show B3 F v9 (λts Γ Z Y h=>?_) (λcb A outer s H E ts Γ Z Y hr h=>?_)
 ·let⟨p,rfl,_⟩:=h
  rfl
 let⟨p,rfl,pl,sx,q⟩:=h;show⟨_,(A3 (Ag (BL (BI (D4 rfl ai rfl aC Dm (qv 0)))) (A3 (AN BE)
  A8) A8)
  (A3 (AN (Ar (FH rfl) rfl bp FD (A0 (EC (own:=["step"]) (cap:=[]) F0 rfl (E4 (qv 0)) (λ_ _ _ _=>II) (λ_ _ _ _=>Dv) (λ_ _ _ _=>(MP (yL (K:=K) rfl rfl ai rfl cK JU (qv 0)) (CU (Af bR hr (A0 (qv 0) A5)))))) A5)))
  A8)),?_⟩
 simp only[Ap];left;show Ψ2 _ true ⟨rfl,rfl,?_⟩;left;show⟨Cn (Cr (by lia)),?_⟩;show⟨λv4 τ ys Γ'=>∃(bs:List Bool) (o:Option T),(∀t∈v4,Sx t)∧(∀b∈bs,b=true)∧τ=[o]∧ys=bs.map T.bl∧Γ'=Γ,Ψ2 [] none ⟨sx,by simp,rfl,rfl,rfl⟩,?_,?_⟩
 ·intro τ ys Γ'⟨bs,o,_,hb,rfl,rfl,rfl⟩
  show⟨trivial,?_⟩;clear p1 ki e1 Γ1 g1 l1
  left;show Ψ2 p1 bs ⟨rfl,Bx g1,?_⟩;rw[show bs.all id=true from aa2.mpr hb];show AB l1 q
 ·intro x r τ ys Γ'⟨bs,o,hx,hb,rfl,rfl,rfl⟩
  show⟨trivial,?_⟩;let Xt:=hx x (by simp);left;show ET (in_str Xt.pt) ?_;left;cases Xt with
  |str l=>
   left;show Ψ2 (bs++[true]) _ ⟨λt h=>hx t (DT _ h),by simpa using hb,rfl,by simp,rfl⟩
  |int i=>
   left;show⟨.int i,rfl,.int i,?_⟩;show Ψ2 (bs++[true]) _ ⟨λt h=>hx t (DT _ h),by simpa using hb,rfl,by simp[TI],rfl⟩
abbrev Nx(n:Nat):Av:=λts Γ Z _=>∃(ss:List Sm) (d:Nat),ts=[.tup (BG ss),.int d]∧Bc ss∧ss.length≤1000∧d≤5∧6≤d+n∧Z (.bl (GN ss d)) Γ
abbrev U6(n:Nat):Av:=λts Γ Z _=>∃(s:Sm) (d:Nat),ts=[s.tr,.int d]∧s.Ok∧d≤4∧5≤d+n∧Z (.bl (s.fm d)) Γ
abbrev S0(n:Nat):Av:=λts Γ Z _=>∃(p:js) (d:Nat),ts=[.str p.sort,p.tr,.int d]∧p.Ok∧d≤4∧5≤d+n∧Z (.bl (p.fm d)) Γ
@[reducible]def PY:Stmt:=top 47
def tH:Aq ["sort","thing","depth"] ["sort","thing","depth"] (Ac PY):=nofun
def zg(F:cJ K "is_of_sort" "is_of_sort" PY f fd)(cm:AY P w K mg am "is_name" 1 ["thing"] Ip)(me:AY P w K mg am "is_path" 2 ["thing"] Uo)(dv:AY P w K mg am "is_kind" 20 ["thing"] KC)(bR:AY P w K mg am "is_whole" 1 ["thing"] Hi)(pJ:AY P w K mg am "is_body" (lv+20) ["thing","depth"] (Nx n))(cP:mg "GREATEST_FAIL" = some v1)(eP:D5 v1 (.int 999))(ai:mg "isinstance" = none)(aC:mg "tuple" = none)(bp:mg "all" = none):bc P w K mg am Am (lv+21) f fd ["sort","thing","depth"] (Ak (S0 n)):=by
 show B3 F tH (λts Γ Z Y h=>?_) (λcb A outer s H E ts Γ Z Y hr h=>?_)
 ·let⟨p,d,rfl,_⟩:=h
  rfl
 let⟨p,d,rfl,po,d4,dn,q⟩:=h;show⟨_,(A3 (Ag (B2 Bm (qv 0) Al) (A3 (AN (Af cm hr (A0 (qv 1) A5)))
  A8) A8)
  (A3 (Ag (B2 Bm (qv 0) Al) (A3 (AN (MP (Dh M6 (qv 1) FP) (CU (Af cm hr (A0 (qv 1) A5)))))
  A8) A8)
  (A3 (Ag (B2 Bm (qv 0) Al) (A3 (AN (CV (D4 rfl ai rfl aC Dm (qv 1)) (CU (Ar (FH rfl) rfl bp FD (A0 (EC (own:=["name"]) (cap:=[]) F0 rfl (E4 (qv 1)) (λ_ _ _ _=>II) (λ_ _ _ _=>Dv) (λ_ _ _ _=>(Af cm hr (A0 (qv 0) A5)))) A5)))))
  A8) A8)
  (A3 (Ag (B2 Bm (qv 0) Al) (A3 (AN (Af me hr (A0 (qv 1) A5)))
  A8) A8)
  (A3 (Ag (B2 Bm (qv 0) Al) (A3 (AN (Af dv hr (A0 (qv 1) A5)))
  A8) A8)
  (A3 (Ag (B2 Bm (qv 0) Al) (A3 (AN (Af pJ hr (A0 (qv 1) (A0 (Aa Ez (qv 2) A9) A5))))
  A8) A8)
  (A3 (Ag (B2 Bm (qv 0) Al) (A3 (AN (CV (Af bR hr (A0 (qv 1) A5)) (CU (Q2 FF FF A9 (qv 1) (ED rfl cP eP)))))
  A8) A8)
  (A3 (AN (Dh Bm (qv 0) Al))
  A8)))))))),?_⟩
 simp only[Ap];cases p with
 |name x=>
  simp only[js.sort,js.tr];left;show⟨.str x,rfl,.str (Cu (show x.length≤1000 from po) (by decide)),AB .refl q⟩
 |nmn z=>
  simp only[js.sort,js.tr];left;cases z with
  |none=>
   show if G1 T.non=true then _ else _
   left;show AB .refl q
  |some x=>
   show if G1 (T.str x)=true then _ else _
   left;show⟨.str x,rfl,.str (Cu (po x rfl) (by decide)),AB .refl q⟩
 |nms ns=>
  simp only[js.sort,js.tr];let⟨nl,nx⟩:=po;left;show Ψ2 _ true ⟨rfl,rfl,?_⟩;left;show⟨Cn (Cr (by rw[AM];lia)),?_⟩;show⟨λv4 τ ys Γ'=>∃(ms os:List Str) (o:Option T),v4=ms.map T.str∧ns=os++ms∧τ=[o]∧ys=(os.map DP).map T.bl∧Γ'=Γ,Ψ3 ns [] none ⟨rfl,rfl,rfl,rfl,rfl⟩,?_,?_⟩
  ·intro τ ys Γ'⟨ms,os,o,er,ez,rfl,rfl,rfl⟩
   let hz:ms=[]:=by
    cases ms with
    |nil=>rfl
    |cons _ _=>cases er
   subst hz;rw[BN]at ez;subst ez;show⟨trivial,?_⟩;clear p1 ki e1 Γ1 g1 l1
   left;show Ψ2 p1 _ ⟨rfl,Bx g1,?_⟩;rw[FY];show AB l1 q
  ·intro x r τ ys Γ'⟨ms,os,o,er,ez,rfl,rfl,rfl⟩
   cases ms with
   |nil=>cases er
   |cons m ms=>
    cases er;show⟨trivial,?_⟩;left;show⟨.str m,rfl,.str (Cu (nx m (by rw[ez];simp)) (by decide)),?_⟩;show Ψ3 ms (os++[m]) _ ⟨rfl,by rw[ez];simp,rfl,by rw[Ad,Ad];rfl,rfl⟩
 |path p=>
  simp only[js.sort,js.tr];left;show⟨p,rfl,po.1,po.2,AB .refl q⟩
 |kind k=>
  simp only[js.sort,js.tr];left;show⟨k.tr,rfl,KI po.1,AB .refl (by rw[Og po.1 po.2];show q)⟩
 |worth x=>
  simp only[js.sort,js.tr];left;show AB .refl q
 |body ss=>
  simp only[js.sort,js.tr];left;show Ψ2 ss (d+1) ⟨rfl,po.2,po.1,by lia,by lia,AB .refl q⟩
 |fail i=>
  simp only[js.sort,js.tr];left;show⟨.int i,rfl,.int i,?_⟩;left;let q:Z (.bl (decide (0≤i)&&decide (i≤999))) Γ:=q;show AU (λc=>?_) (λc=>?_)
  ·rw[c,Bd]at q
   left;show AB .refl q
  ·rw[c]at q
   show AB .refl q
end
def Gg(h:z≠y):(!decide (V.str z=V.str y))=true:=by simp[h]
def acb{a b:T}{us:List T}:EZ (a::ts) (b::us)=.tup [a,b]::EZ ts us:=rfl
section
variable {K: W.Frag}{S6: Addr}
@[reducible]def Q5:Stmt:=top 46
def jY:Aq ["thing","depth","sorts"] ["thing","depth"] (Ac Q5):=nofun
def abe(F:cJ K "is_statement" "is_statement" Q5 f fd)(dX:mg "STATEMENTS" = some (.ref S6))(h_ST:Pe P w K S6)(vY:AY P w K mg am "is_of_sort" (lv+21) ["sort","thing","depth"] (S0 n))(cw:AY P w K mg am "is_worth" 13 ["kind","thing"] (J5 6))(ai:mg "isinstance" = none)(aC:mg "tuple" = none)(cK:mg "str" = none)(aB:mg "len" = none)(bp:mg "all" = none)(fS:mg "zip" = none):bc P w K mg am Am (lv+22) f fd ["thing","depth"] (Ak (U6 n)):=by
 show B3 F jY (λts Γ Z Y h=>?_) (λcb A outer s H E ts Γ Z Y hr h=>?_)
 ·let⟨s,d,rfl,_⟩:=h
  rfl
 let⟨s,d,rfl,so,d4,dn,q⟩:=h;show⟨_,(A3 (Ag (PW.pt (CQ (BL (BI (D4 rfl ai rfl aC Dm (qv 0)))) (CQ (BL (abi (qv 0) (λ_=>rfl))) (D3 (BL (BI (D4 rfl ai rfl cK JU (AO (qv 0) A9)))))))) (A3 (AN BE)
  A8) A8)
  (A3 (As (i:=2) jY.nd (oM (ED rfl dX M0) (AO (qv 0) A9) ⟨rfl,rfl,rfl,rfl⟩))
  (A3 (Ag (PW.pt (CQ (B2 M6 (qv 2) FP) (D3 (B2 E3 (Ar Bw rfl aB BC (A0 (qv 0) A5)) (Aa Ez A9 (Ar abQ rfl aB BC (A0 (qv 2) A5))))))) (A3 (AN BE)
  A8) A8)
  (A3 (Ag (BL (BI (Ar (FH rfl) rfl bp FD (A0 (EC (own:=["sort","part"]) (cap:=[(1,"depth")]) (Fj rfl (by done) (by done) rfl (⟨rfl,trivial⟩) rfl (⟨⟨rfl,rfl,rfl⟩,trivial⟩)) rfl (zY rfl fS (A0 (qv 2) (A0 (FT Zh (qv 0) (Ee A9) HM) A5))) (λ_ _ _ _=>(Bn (n:=2) rfl (AS (Bb (i:=0) (show List.Nodup (["sort","part","depth"]:List Str)from by done) rfl (Or.inl rfl) (Or.inr rfl)) (AS (Bb (i:=1) (show List.Nodup (["sort","part","depth"]:List Str)from by done) rfl (Or.inl rfl) (Or.inr rfl)) Bu)))) (λ_ _ _ _=>Dv) (λ_ _ _ _=>(Af vY hr (A0 (qv 0) (A0 (qv 1) (A0 (qv 2) A5)))))) A5)))) (A3 (AN BE)
  A8) A8)
  (A3 (AN (MP (Dh E3 (AO (qv 0) A9) Al) (CU (Af cw hr (A0 (AO (qv 0) A9) (A0 (AO (qv 0) A9) A5))))))
  A8))))),?_⟩
 simp only[Ap];let⟨aq,b0,kd,lk,kt⟩:=h_ST.get s;let po:=s.Q4 so;let pl:=s.Mu;let tp:=s.JC;rw[s.Sq]at q;rw[tp];left;show Ψ2 _ true ⟨rfl,rfl,?_⟩;left;show⟨true,rfl,?_⟩;left;show Ψ2 _ true ⟨rfl,rfl,?_⟩;left;unfold XB;left;show Ψ2 S6 aq ⟨rfl,kd,?_⟩;left;show⟨λb e=>?_,λe=>by rw[lk]at e;cases e⟩;rw[lk]at e;cases e;left;show Ψ2 b0 _ ⟨rfl,kt,?_⟩;left;show JK (by simp;lia) ?_;left;unfold fU;left;rw[Mr (by decide)];show Ψ3 _ b0 _ ⟨rfl,kt,?_⟩;show _∧_
 let hz:∀ps:List js,EZ ((ps.map js.sort).map T.str) (ps.map js.tr)=ps.map λp=>T.tup [.str p.sort,p.tr]:=λps=>by
  induction ps with
  |nil=>rfl
  |cons p r ih=>rw[BU,BU,BU,BU,acb,ih]
 rw[show(List.drop (Int.toNat 1) (T.str s.word::s.ps.map js.tr))=s.ps.map js.tr from rfl,hz];show⟨Cn (Cr (by rw[AM];lia)),?_⟩;show⟨λv4 τ ys Γ'=>∃(ps qs:List js) (o1 o2:Option T),v4=ps.map (λp=>T.tup [.str p.sort,p.tr])∧s.ps=qs++ps∧τ=[o1,o2,some (.int d)]∧ys=(qs.map (js.fm d)).map T.bl∧Γ'=Γ,Ψ4 s.ps [] none none ⟨rfl,rfl,rfl,rfl,rfl⟩,?_,?_⟩;rotate_left
 ·intro x r τ ys Γ'⟨ps,qs,o1,o2,er,ez,rfl,rfl,rfl⟩
  cases ps with
  |nil=>cases er
  |cons p ps=>
   cases er;show⟨trivial,?_⟩;left;show Ψ2 p d ⟨rfl,po p (by rw[ez];simp),d4,dn,?_⟩;show Ψ4 ps (qs++[p]) _ _ ⟨rfl,by rw[ez];simp,rfl,by rw[Ad,Ad];rfl,rfl⟩
 intro τ ys Γ'⟨ps,qs,o1,o2,er,ez,rfl,rfl,rfl⟩;let hp:ps=[]:=by
  cases ps with
  |nil=>rfl
  |cons _ _=>cases er
 subst hp;rw[BN]at ez;rw[←ez];show⟨trivial,?_⟩;clear p1 ki e1 Γ1 g1 l1
 left;show Ψ2 p1 _ ⟨rfl,Bx g1,?_⟩;rw[FY];exists c
 ·let c:s.ps.all (js.fm d)=false:=by simpa using c
  left;rw[c,Dw]at q;show AB l1 q
 let c:s.ps.all (js.fm d)=true:=by simpa using c
 rw[c,Bd]at q;left;cases s with
 |new x k w=>
  unfold Sm.Ok at so;show if(!decide (V.str "new" = V.str "new"))=true then _ else _
  left;show Hj (i:=2) rfl ?_;left;show Hj (i:=3) rfl ?_;left;show Ψ2 k w ⟨rfl,so.2.1,by lia,so.2.2.2 _,AB l1 q⟩
 |_=>
  show KW (by first|show Gg (show("copy" : Str) ≠ "new" by done)|show Gg (show("part" : Str) ≠ "new" by done)|show Gg (show("put" : Str) ≠ "new" by done)|show Gg (show("add" : Str) ≠ "new" by done)|show Gg (show("drop" : Str) ≠ "new" by done)|show Gg (show("say" : Str) ≠ "new" by done)|show Gg (show("call" : Str) ≠ "new" by done)|show Gg (show("same" : Str) ≠ "new" by done)|show Gg (show("fail" : Str) ≠ "new" by done)|show Gg (show("try" : Str) ≠ "new" by done)|show Gg (show("back" : Str) ≠ "new" by done)) ?_;show AB l1 q
@[reducible]def Pn:Stmt:=top 45
def x5:Aq ["thing","depth"] ["thing","depth"] (Ac Pn):=nofun
def za(F:cJ K "is_body" "is_body" Pn f fd)(c8:mg "DEEPEST_BODY" = some v1)(fM:D5 v1 (.int 4))(sP:AY P w K mg am "is_statement" (lv+22) ["thing","depth"] (U6 n))(ai:mg "isinstance" = none)(aC:mg "tuple" = none)(bp:mg "all" = none):bc P w K mg am Am (lv+23) f fd ["thing","depth"] (Ak (Nx (n+1))):=by
 show B3 F x5 (λts Γ Z Y h=>?_) (λcb A outer s H E ts Γ Z Y hr h=>?_)
 ·let⟨s,d,rfl,_⟩:=h
  rfl
 let⟨ss,d,rfl,so,sl,d5,dn,q⟩:=h;show⟨_,(A3 (Ag (PW.pt (CQ (B2 JF (qv 1) (ED rfl c8 fM)) (D3 (BL (BI (D4 rfl ai rfl aC Dm (qv 0))))))) (A3 (AN BE)
  A8) A8)
  (A3 (AN (Ar (FH rfl) rfl bp FD (A0 (EC (own:=["statement"]) (cap:=[(1,"depth")]) (Fj rfl (by done) (by done) rfl (⟨rfl,trivial⟩) rfl (⟨⟨rfl,rfl,rfl⟩,trivial⟩)) rfl (E4 (qv 0)) (λ_ _ _ _=>(Bb (i:=0) (show List.Nodup (["statement","depth"]:List Str)from by done) rfl (Or.inl rfl) (Or.inr rfl))) (λ_ _ _ _=>Dv) (λ_ _ _ _=>(Af sP hr (A0 (qv 0) (A0 (qv 1) A5))))) A5)))
  A8)),?_⟩
 simp only[Ap];unfold GN at q;rw[MV]at q;exists c
 ·let c:=Cc c
  left;rw[DN (show ¬d≤4 by lia),Dw]at q;show AB .refl q
 let c:=Eu c;rw[Bi (show d≤4 by lia),Bd]at q;left;show Ψ2 _ true ⟨rfl,rfl,?_⟩;left;rw[JV];show⟨Cn (Cr (by rw[AM];lia)),?_⟩;show⟨λv4 τ ys Γ'=>∃(ps qs:List Sm) (o1:Option T),v4=ps.map Sm.tr∧ss=qs++ps∧τ=[o1,some (.int d)]∧ys=(qs.map λs=>s.fm d).map T.bl∧Γ'=Γ,Ψ3 ss [] none ⟨rfl,rfl,rfl,rfl,rfl⟩,?_,?_⟩;rotate_left
 ·intro x r τ ys Γ'⟨ps,qs,o1,er,ez,rfl,rfl,rfl⟩
  cases ps with
  |nil=>cases er
  |cons p ps=>
   cases er;show⟨trivial,?_⟩;left;show Ψ2 p d ⟨rfl,kP so (by rw[ez];simp),by lia,by lia,?_⟩;show Ψ3 ps (qs++[p]) _ ⟨rfl,by rw[ez];simp,rfl,by rw[Ad,Ad];rfl,rfl⟩
 intro τ ys Γ'⟨ps,qs,o1,er,ez,rfl,rfl,rfl⟩;let hp:ps=[]:=by
  cases ps with
  |nil=>rfl
  |cons _ _=>cases er
 subst hp;rw[BN]at ez;rw[←ez];show⟨trivial,?_⟩;clear p1 ki e1 Γ1 g1 l1
 left;show Ψ2 p1 _ ⟨rfl,Bx g1,?_⟩;rw[FY];show AB l1 q
def mU{f1 f2:Addr}{zw zu:FuncData}(F:cJ K "is_body" "is_body" Pn f fd)(m:mg "is_body" = some (.ref f))(kp:W.keepIn K (.ref f)=true)(b:Binds K fd ["thing","depth"] [])
  (lK:cJ K "is_statement" "is_statement" Q5 f1 zw) (kY:mg "is_statement" = some (.ref f1)) (j5:W.keepIn K (.ref f1)=true) (lA:Binds K zw ["thing","depth"] [])
  (oA:cJ K "is_of_sort" "is_of_sort" PY f2 zu) (nM:mg "is_of_sort" = some (.ref f2)) (mx:W.keepIn K (.ref f2)=true) (ot:Binds K zu ["sort","thing","depth"] [])
  (cm:AY P w K mg am "is_name" 1 ["thing"] Ip) (me:AY P w K mg am "is_path" 2 ["thing"] Uo) (dv:AY P w K mg am "is_kind" 20 ["thing"] KC) (bR:AY P w K mg am "is_whole" 1 ["thing"] Hi) (cw:AY P w K mg am "is_worth" 13 ["kind","thing"] (J5 6)) (cP:mg "GREATEST_FAIL" = some v1) (eP:D5 v1 (.int 999)) (c8:mg "DEEPEST_BODY" = some v2) (fM:D5 v2 (.int 4)) (dX:mg "STATEMENTS" = some (.ref S6)) (h_ST:Pe P w K S6) (ai:mg "isinstance" = none) (aC:mg "tuple" = none) (cK:mg "str" = none) (aB:mg "len" = none) (bp:mg "all" = none) (fS:mg "zip" = none) :
  ∀n:Nat,AY P w K mg am "is_body" (3*n+20) ["thing","depth"] (Nx n)
 |0=>Ψ2 f fd ⟨NH λts Γ Z Y h=>by let⟨_,d,_,_,_,h1,h2,_⟩:=h;lia,m,kp,b⟩
 |n+1=>by
  let c:=mU F m kp b lK kY j5 lA oA nM mx ot cm me dv bR cw cP eP c8 fM dX h_ST ai aC cK aB bp fS n;let c1:AY P w K mg am "is_of_sort" (3*n+21) ["sort","thing","depth"] (S0 n):=Ψ2 f2 zu ⟨zg oA cm me dv bR c cP eP ai aC bp,nM,mx,ot⟩;let c2:AY P w K mg am "is_statement" (3*n+22) ["thing","depth"] (U6 n):=Ψ2 f1 zw ⟨abe lK dX h_ST c1 cw ai aC cK aB bp fS,kY,j5,lA⟩;show Ψ2 f fd ⟨by rw[show 3*(n+1)+20=3*n+23 by lia];show za F c8 fM c2 ai aC bp,m,kp,b⟩
def ae{f1 f2:Addr}{zw zu:FuncData}(F:cJ K "is_worth" "is_worth" Nu f fd)(m:mg "is_worth" = some (.ref f))(kp:W.keepIn K (.ref f)=true)(b:Binds K fd ["kind","thing"] [])
  (qh:cJ K "is_record" "is_record" Mg f1 zw) (pQ:mg "is_record" = some (.ref f1)) (nO:W.keepIn K (.ref f1)=true) (qe:Binds K zw ["fields","parts"] [])
  (qi:cJ K "is_choice" "is_choice" Ol f2 zu) (pR:mg "is_choice" = some (.ref f2)) (nP:W.keepIn K (.ref f2)=true) (qf:Binds K zu ["fields","pair"] [])
  (je:AY P w K mg am "is_number" 2 ["width","thing"] Rn) (md:AY P w K mg am "is_text" 2 ["thing"] Rm) (cE:mg "MOST_ITEMS" = some v1) (dY:D5 v1 (.int 60)) (ai:mg "isinstance" = none) (aC:mg "tuple" = none) (aB:mg "len" = none) (bp:mg "all" = none) (nh:mg "any" = none) (fS:mg "zip" = none) (cK:mg "str" = none) :
  ∀n:Nat,AY P w K mg am "is_worth" (2*n+1) ["kind","thing"] (J5 n)
 |0=>Ψ2 f fd ⟨NH λts Γ Z Y h=>by obtain⟨_,_,_,_,h,_⟩:=h;lia,m,kp,b⟩
 |n+1=>by
  let c:=ae F m kp b qh pQ nO qe qi pR nP qf je md cE dY ai aC aB bp nh fS cK n;let c1:AY P w K mg am "is_record" (2*n+2) ["fields","parts"] (Ru n):=Ψ2 f1 zw ⟨vT qh c aB bp fS,pQ,nO,qe⟩;let c2:AY P w K mg am "is_choice" (2*n+2) ["fields","pair"] (Tj n):=Ψ2 f2 zu ⟨aaR qi c aB nh ai cK,pR,nP,qf⟩;show Ψ2 f fd ⟨by rw[show 2*(n+1)+1=2*n+3 by lia];show ab8 F je md c c1 c2 cE dY ai aC aB bp,m,kp,b⟩
end
structure Pr where
 nm:Str
 sd:Int
 ps:List (Str×Str×Kd)
 re:Option Kd
abbrev Er(q:Str×Str×Kd):T:=.tup [.str q.1,.str q.2.1,q.2.2.tr]
abbrev Pr.tr(p:Pr):T:=.tup [.str p.nm,.int p.sd,.tup (p.ps.map Er),Ed p.re]
structure Pr.Ok(p:Pr):Prop where
 nm:Nm p.nm
 sd:p.sd=0∨p.sd=1
 pl:∀q∈p.ps,Nm q.1∧q.2.1∈jX∧q.2.2.good∧q.2.2.depth≤5
 nd:(p.ps.map (·.1)).Nodup
 ln:p.ps.length≤900
 re:∀k,p.re=some k→k.good∧k.depth≤5
def Nm.le(h:Nm z):z.length≤8:=h.2.1
def rW{q:Str×Str×Kd}(h:Nm q.1∧q.2.1∈jX∧q.2.2.good∧q.2.2.depth≤5):Pt Γ (Er q):=by
 let hw:q.2.1.length≤5:=(show ∀z∈jX,z.length≤5 by done) _ h.2.1;show .tup (by simp) λt m=>?_;rcases aaf.mp m with rfl|m
 ·show .str (by have:=h.1.le;lia)
 rcases aaf.mp m with rfl|m
 ·show .str (by lia)
 rcases aaf.mp m with rfl|m
 ·show KI h.2.2.1
 cases m
def rL{o:Option Kd}(h:∀k,o=some k→k.good∧k.depth≤5):Pt Γ (Ed o):=by
 cases o with
 |none=>show .non
 |some k=>show KI (h k rfl).1
def Pr.pt{p:Pr}(h:p.Ok):Pt Γ p.tr:=by
 show .tup (by simp) λt m=>?_;rcases aaf.mp m with rfl|m
 ·show .str (by have:=h.nm.le;lia)
 rcases aaf.mp m with rfl|m
 ·show .int _
 rcases aaf.mp m with rfl|m
 ·show .tup (by rw[AM];have:=h.ln;lia) λt m=>?_
  let⟨q,hq,rfl⟩:=aam.mp m;show rW (h.pl q hq)
 rcases aaf.mp m with rfl|m
 ·show rL h.re
 cases m
def Pr.pa{p:Pr}(h:p.Ok):Mx p.tr=true:=by
 show(EG (.str p.nm)&&(Hm (.int p.sd)&&(JR (.tup (p.ps.map Er))&&L4 (Ed p.re))))=true
 rw[JN h.nm,Bd,EO,EO];show⟨?_,?_,?_⟩
 ·show(decide (p.sd=0)||decide (p.sd=1))=true
  rcases h.sd with e|e<;>simp[e]
 ·rw[kD,EO]
  show⟨aa2.mpr λt m=>?_,Bi ?_⟩
  ·let⟨q,hq,rfl⟩:=aam.mp m
   let o:=h.pl q hq;show(EG (.str q.1)&&(decide (q.2.1∈jX)&&Bf 5 q.2.2.tr))=true
   rw[JN o.1,Bi o.2.1,Og o.2.2.1 o.2.2.2];rfl
  ·rw[D2];show h.nd
 ·cases e:p.re with
  |none=>rfl
  |some k=>
   let o:=h.re k e;have:L4 (Ed (some k))=Bf 5 k.tr:=by show L4 k.tr=_;cases k<;>rw[Kd.tr]<;>rfl
   rw[this,Og o.1 o.2]
structure Dr where
 p:Pr
 b:List Sm
abbrev Dr.tr(d:Dr):T:=.tup [d.p.tr,.tup (BG d.b)]
structure Dr.Ok(d:Dr):Prop where
 p:d.p.Ok
 b:Bc d.b
 l:d.b.length≤1000
structure Sh where
 nm:Str
 sd:Int
 k:Kd
 w:T
abbrev Sh.tr(s:Sh):T:=.tup [.str s.nm,.int s.sd,s.k.tr,s.w]
structure Sh.Ok(s:Sh):Prop where
 nm:Nm s.nm
 sd:s.sd=0∨s.sd=1
 k:s.k.good∧s.k.depth≤5
 w:∀Γ,Pt Γ s.w
section
variable {K: W.Frag}
@[reducible]def Rt:Stmt:=top 43
def tZ:Aq ["thing"] ["thing"] (Ac Rt):=nofun
abbrev jS:Av:=λts Γ Z _=>∃d:Dr,ts=[d.tr]∧d.Ok∧Z (.bl (GN d.b 1)) Γ
def adn(F:cJ K "is_door" "is_door" Rt f fd)(zN:AY P w K mg am "is_paper" 23 ["thing"] aH)(pJ:AY P w K mg am "is_body" 38 ["thing","depth"] (Nx 6))(ai:mg "isinstance" = none)(aC:mg "tuple" = none)(aB:mg "len" = none):bc P w K mg am Am 39 f fd ["thing"] (Ak jS):=by
 show B3 F tZ (λts Γ Z Y h=>?_) (λcb A outer s H E ts Γ Z Y hr h=>?_)
 ·let⟨d,rfl,_⟩:=h
  rfl
 let⟨d,rfl,o,q⟩:=h;show⟨_,(A3 (Ag (PW.pt (CQ (BL (BI (D4 rfl ai rfl aC Dm (qv 0)))) (D3 (B2 E3 (Ar Bw rfl aB BC (A0 (qv 0) A5)) A9)))) (A3 (AN BE)
  A8) A8)
  (A3 (AN (CV (Af zN hr (A0 (AO (qv 0) A9) A5)) (CU (Af pJ hr (A0 (AO (qv 0) A9) (A0 A9 A5))))))
  A8)),?_⟩
 simp only[Ap,Dr.tr];left;show Ψ2 _ true ⟨rfl,rfl,?_⟩;left;show⟨d.p.tr,rfl,Pr.pt o.p,λx y us r e=>?_,?_⟩
 ·unfold Pr.tr at e
  cases e;rw[AM];have:=o.p.ln;lia
 rw[Pr.pa o.p];left;show Ψ2 d.b 1 ⟨rfl,o.b,o.l,by decide,by decide,AB .refl q⟩
@[reducible]def UX:Stmt:=top 44
def gV:Aq ["thing","name","side","kind","worth"] ["thing"] (Ac UX):=nofun
abbrev WX:Av:=λts Γ Z _=>∃s:Sh,ts=[s.tr]∧s.Ok∧Z (.bl (CH s.k s.w)) Γ
def tQ(F:cJ K "is_shelf" "is_shelf" UX f fd)(cm:AY P w K mg am "is_name" 1 ["thing"] Ip)(pI:AY P w K mg am "is_side" 2 ["thing"] QJ)(dv:AY P w K mg am "is_kind" 20 ["thing"] KC)(cw:AY P w K mg am "is_worth" 13 ["kind","thing"] (J5 6))(ai:mg "isinstance" = none)(aC:mg "tuple" = none)(aB:mg "len" = none):bc P w K mg am Am 21 f fd ["thing"] (Ak WX):=by
 show B3 F gV (λts Γ Z Y h=>?_) (λcb A outer s H E ts Γ Z Y hr h=>?_)
 ·let⟨d,rfl,_⟩:=h
  rfl
 let⟨d,rfl,o,q⟩:=h;show⟨_,(A3 (Ag (PW.pt (CQ (BL (BI (D4 rfl ai rfl aC Dm (qv 0)))) (D3 (B2 E3 (Ar Bw rfl aB BC (A0 (qv 0) A5)) A9)))) (A3 (AN BE)
  A8) A8)
  (A3 (EK (qv 0) (Bn (n:=4) rfl (AS (Aj (i:=1) gV.nd) (AS (Aj (i:=2) gV.nd) (AS (Aj (i:=3) gV.nd) (AS (Aj (i:=4) gV.nd) Bu))))))
  (A3 (AN (CV (Af cm hr (A0 (qv 1) A5)) (CV (Af pI hr (A0 (qv 2) A5)) (CV (Af dv hr (A0 (qv 3) A5)) (CU (Af cw hr (A0 (qv 3) (A0 (qv 4) A5))))))))
  A8))),?_⟩
 simp only[Ap,Sh.tr];left;show Ψ2 _ true ⟨rfl,rfl,?_⟩;left;show⟨.str d.nm,rfl,.str (by have:=o.nm.le;lia),?_⟩;rw[JN o.nm];left;show⟨.int d.sd,rfl,.int _,?_⟩;rw[show Hm (.int d.sd)=true by show(decide (d.sd=0)||decide (d.sd=1))=true;rcases o.sd with e|e<;>simp[e]]
 left;show⟨d.k.tr,rfl,KI o.k.1,?_⟩;rw[Og o.k.1 o.k.2];left;show Ψ2 d.k d.w ⟨rfl,o.k.1,by have:=o.k.2;lia,o.w _,AB .refl q⟩
@[reducible]def UO:Stmt:=top 42
def eB:Aq ["thing","doors","shelves"] ["thing"] (Ac UO):=nofun
abbrev fJ:Av:=λts Γ Z _=>∃(ds:List Dr) (hs:List Sh),ts=[.tup [.tup (ds.map Dr.tr),.tup (hs.map Sh.tr)]]∧ds.length≤900∧hs.length≤900∧(∀d∈ds,d.Ok)∧(∀s∈hs,s.Ok)∧Z (.bl ((ds.all λd=>GN d.b 1)&&hs.all λs=>CH s.k s.w)) Γ
def vJ(F:cJ K "has_program_form" "has_program_form" UO f fd)(Cm:AY P w K mg am "is_door" 39 ["thing"] jS)(zL:AY P w K mg am "is_shelf" 21 ["thing"] WX)(ai:mg "isinstance" = none)(aC:mg "tuple" = none)(aB:mg "len" = none)(bp:mg "all" = none):bc P w K mg am Am 40 f fd ["thing"] (Ak fJ):=by
 show B3 F eB (λts Γ Z Y h=>?_) (λcb A outer s H E ts Γ Z Y hr h=>?_)
 ·let⟨ds,hs,rfl,_⟩:=h
  rfl
 let⟨ds,hs,rfl,dl,sl,od,os,q⟩:=h;show⟨_,(A3 (Ag (PW.pt (CQ (BL (BI (D4 rfl ai rfl aC Dm (qv 0)))) (D3 (B2 E3 (Ar Bw rfl aB BC (A0 (qv 0) A5)) A9)))) (A3 (AN BE)
  A8) A8)
  (A3 (EK (qv 0) (Bn (n:=2) rfl (AS (Aj (i:=1) eB.nd) (AS (Aj (i:=2) eB.nd) Bu))))
  (A3 (Ag (PW.pt (CQ (BL (BI (D4 rfl ai rfl aC Dm (qv 1)))) (D3 (BL (BI (D4 rfl ai rfl aC Dm (qv 2))))))) (A3 (AN BE)
  A8) A8)
  (A3 (AN (CV (Ar (FH rfl) rfl bp FD (A0 (EC (own:=["door"]) (cap:=[]) F0 rfl (E4 (qv 1)) (λ_ _ _ _=>II) (λ_ _ _ _=>Dv) (λ_ _ _ _=>(Af Cm hr (A0 (qv 0) A5)))) A5)) (CU (Ar (FH rfl) rfl bp FD (A0 (EC (own:=["shelf"]) (cap:=[]) F0 rfl (E4 (qv 2)) (λ_ _ _ _=>II) (λ_ _ _ _=>Dv) (λ_ _ _ _=>(Af zL hr (A0 (qv 0) A5)))) A5)))))
  A8)))),?_⟩
 simp only[Ap];left;show Ψ2 _ true ⟨rfl,rfl,?_⟩;left;show Ψ2 _ true ⟨rfl,rfl,?_⟩;left;show Ψ2 _ true ⟨rfl,rfl,?_⟩;left;show⟨Cn (Cr (by rw[AM];lia)),?_⟩;show⟨λv4 τ ys Γ'=>∃(ps qs:List Dr) (o1:Option T),v4=ps.map Dr.tr∧ds=qs++ps∧τ=[o1]∧ys=(qs.map λd=>GN d.b 1).map T.bl∧Γ'=Γ,Ψ3 ds [] none ⟨rfl,rfl,rfl,rfl,rfl⟩,?_,?_⟩;rotate_left
 ·intro x r τ ys Γ'⟨ps,qs,o1,er,ez,rfl,rfl,rfl⟩
  cases ps with
  |nil=>cases er
  |cons p ps=>
   cases er;show⟨trivial,?_⟩;left;show⟨p,rfl,od p (by rw[ez];simp),?_⟩;show Ψ3 ps (qs++[p]) _ ⟨rfl,by rw[ez];simp,rfl,by rw[Ad,Ad];rfl,rfl⟩
 intro τ ys Γ'⟨ps,qs,o1,er,ez,rfl,rfl,rfl⟩;let hp:ps=[]:=by
  cases ps with
  |nil=>rfl
  |cons _ _=>cases er
 subst hp;rw[BN]at ez;rw[←ez];show⟨trivial,?_⟩;clear p1 ki e1 Γ1 g1 l1
 left;show Ψ2 p1 _ ⟨rfl,Bx g1,?_⟩;rw[FY];exists c;rotate_left
 ·let c:(ds.all λd=>GN d.b 1)=false:=c
  rw[c,Dw]at q;show AB l1 q
 let c:(ds.all λd=>GN d.b 1)=true:=c;rw[c,Bd]at q;left;show⟨Cn (Cr (by rw[AM];lia)),?_⟩;show⟨λv4 τ ys Γ'=>∃(ps qs:List Sh) (o1:Option T),v4=ps.map Sh.tr∧hs=qs++ps∧τ=[o1]∧ys=(qs.map λs=>CH s.k s.w).map T.bl∧Γ'=Γ1,Ψ3 hs [] none ⟨rfl,rfl,rfl,rfl,rfl⟩,?_,?_⟩;rotate_left
 ·intro x r τ ys Γ'⟨ps,qs,o1,er,ez,rfl,rfl,rfl⟩
  cases ps with
  |nil=>cases er
  |cons p ps=>
   cases er;show⟨trivial,?_⟩;left;show⟨p,rfl,os p (by rw[ez];simp),?_⟩;show Ψ3 ps (qs++[p]) _ ⟨rfl,by rw[ez];simp,rfl,by rw[Ad,Ad];rfl,rfl⟩
 intro τ ys Γ'⟨ps,qs,o1,er,ez,rfl,rfl,rfl⟩;let hp:ps=[]:=by
  cases ps with
  |nil=>rfl
  |cons _ _=>cases er
 subst hp;rw[BN]at ez;rw[←ez];show⟨trivial,?_⟩;clear p2 vB e2 Γ2 g2 l2
 left;show Ψ2 p2 _ ⟨rfl,Bx g2,?_⟩;rw[FY];show AB (l1.trans l2) q
end
@[reducible]def EW{α:Type}(g:α→T)(l:List (Str×α)):List (A7×T):=l.map λp=>((Sum.inr p.1:A7),g p.2)
def Cb{α:Type}(g:α→T):∀(l:List (Str×α)) (x:Str),DQ (EW g l) (.inr x)=(l.lookup x).map g
 |[],x=>rfl
 |(y,b)::r,x=>by
  let ih:=Cb g r x;unfold DQ at ih ⊢;show Option.map _ (List.find? _ (((Sum.inr y:A7),g b)::EW g r))=_
  rw[Et,GZ];by_cases h:y=x
  ·subst h;simp
  ·let h1:¬((Sum.inr y:A7)=Sum.inr x):=λe=>h (Kr e)
   let h2:(x==y)=false:=by rw[aa5];exactλe=>h e.symm
   rw[h2];simp only[h1,decide_false];show ih
def dq{α:Type}:∀{l:List (Str×α)} {x:Str},l.lookup x=none↔x∉l.map (·.1)
 |[],x=>by simp
 |(y,b)::r,x=>by
  rw[GZ];by_cases h:x=y
  ·subst h;simp
  ·rw[show(x==y)=false by rw[aa5];show h,BU,aaf]
   have:=dq (l:=r) (x:=x);simp[h,this]
def J9{α:Type}(g:α→T){l:List (Str×α)}{v:α}(h:l.lookup x=none):Dz (EW g l) (.inr x) (g v)=EW g (l++[(x,v)]):=by
 unfold Dz;rw[AP]
 ·unfold EW;rw[Ad];rfl
 ·unfold EW;rw[List.any_map]
  intro z;let⟨p,hp,e⟩:=abp.mp z;let e:(Sum.inr p.1:A7)=Sum.inr x:=Cc e;show dq.mp h (aam.mpr ⟨p,hp,Kr e⟩)
def oI{α:Type}{l m:List (Str×α)}:(l++m).lookup x=(l.lookup x).or (m.lookup x):=by
 induction l with
 |nil=>rfl
 |cons p r ih=>
  rw[Ii,GZ,GZ,ih];cases x==p.1<;>rfl
@[reducible]def Ki(l:List (Str×Pr)):List (A7×T):=EW Pr.tr l
@[reducible]def Li(l:List (Str×Str)):List (A7×T):=EW T.str l
@[reducible]def Cv(l:ad):List (A7×T):=EW Kd.tr l
@[reducible]def Qk(C dx pp:Addr)(r:T)(pw pk:Addr):O:=.ins C dx [("papers",.ref pp),("result",r),("ways",.ref pw),("kinds",.ref pk)]
structure Sc(C:Addr)(Γ:AJ)(a:Addr)(Ps:List (Str×Pr))(re:Option Kd)(W:List (Str×Str))(ks:ad)(pk:Addr):Prop where
 ex:∃dx pp pw,Γ a=some (Qk C dx pp (Ed re) pw pk)∧Γ pp=some (.dK (Ki Ps))∧Γ pw=some (.dK (Li W))∧pp≠pk∧pw≠pk
 kk:Γ pk=some (.dK (Cv ks))
section
variable {Γ: AJ}{a pk: Addr}{W: List (Str×Str)}{ks: ad}
def Sc.mono(l:Le Γ Γ')(h:Sc C Γ a Ps re W ks pk):Sc C Γ' a Ps re W ks pk:=by
 obtain⟨⟨dx,pp,pw,h1,h2,h3,n1,n2⟩,h4⟩:=h;show⟨Ψ3 dx pp pw ⟨l _ _ h1,l _ _ h2,l _ _ h3,n1,n2⟩,l _ _ h4⟩
def Sc.kq(l:Kq [pk] Γ Γ')(h:Sc C Γ a Ps re W ks pk){Gq:ad}(k:Γ' pk=some (.dK (Cv Gq))):Sc C Γ' a Ps re W Gq pk:=by
 obtain⟨⟨dx,pp,pw,h1,h2,h3,n1,n2⟩,h4⟩:=h;let n0:a≠pk:=Lu h1 h4 (by simp);show⟨Ψ3 dx pp pw ⟨l _ _ (by simpa using n0) h1,l _ _ (by simpa using n1) h2,l _ _ (by simpa using n2) h3,n1,n2⟩,k⟩
def Sc.set(h:Sc C Γ a Ps re W ks pk)(Gq:ad):Sc C (AA Γ pk (.dK (Cv Gq))) a Ps re W Gq pk:=h.kq (Kq.set (by simp) _) Ae
end
noncomputable def kq(k k':Kd):Bool:=Bj k.tr k'.tr
def pW(k:Kd):kq k k=true:=F3 (b:=true) (by simp)
abbrev Gd(W:List (Str×Str))(x:Str):Bool:=!(decide (W.lookup x=some "lend")||decide (W.lookup x=some "lease"))
noncomputable def DB(W:List (Str×Str))(ks:ad)(x:Str)(k:Kd):Bool×ad:=if Gd W x=true then(match ks.lookup x with|some k'=>(kq k' k,ks)|none=>(true,ks++[(x,k)]))else(false,ks)
abbrev TP(z:Str):List Str:=if z = "lend" then ["give","lease"]else if z = "lease" then ["give"]else []
noncomputable def Ke(W:List (Str×Str))(ks:ad)(x:Str)(q:Str×Str×Kd):Bool:=match ks.lookup x with|none=>false|some k=>kq k q.2.2&&!decide (q.2.1∈TP ((W.lookup x).getD "copy"))
abbrev Ga(ks:ad):Prop:=∀p∈ks,p.2.good∧p.2.depth≤5
abbrev av(W:List (Str×Str)):Prop:=∀p∈W,p.2∈jX
def Cg{α:Type}:∀{l:List (Str×α)} {x:Str} {v:α},l.lookup x=some v→(x,v)∈l
 |(y,b)::r,x,v,h=>by
  rw[GZ]at h;by_cases e:x=y
  ·subst e
   rw[show(x==x)=true by simp]at h;cases h;simp
  ·rw[show(x==y)=false by rw[aa5];show e]at h
   show DT _ (Cg h)
mutual
theorem MZ:∀{k:Kd} {d:Nat},k.depth≤d→Dp (3*d) k.tr
 |.num w,d,h=>by
  rw[Kd.depth]at h;obtain⟨e,rfl⟩:∃e,d=e+1:=⟨d-1,by lia⟩;rw[Kd.tr];show .tup (d:=3*e+2) λt m=>?_;rcases aaf.mp m with rfl|m
  ·show .str _
  rcases aaf.mp m with rfl|m
  ·show .int _
  cases m
 |.text,d,h=>by
  rw[Kd.depth]at h;obtain⟨e,rfl⟩:∃e,d=e+1:=⟨d-1,by lia⟩;rw[Kd.tr];show .tup (d:=3*e+2) λt m=>?_;rcases aaf.mp m with rfl|m
  ·show .str _
  cases m
 |.row k,d,h=>by
  rw[Kd.depth]at h;obtain⟨e,rfl⟩:∃e,d=e+1:=⟨d-1,by lia⟩;rw[Kd.tr];show .tup (d:=3*e+2) λt m=>?_;rcases aaf.mp m with rfl|m
  ·show .str _
  rcases aaf.mp m with rfl|m
  ·show(MZ (show k.depth≤e by lia)).mono (by lia)
  cases m
 |.rec_ fs,d,h=>by
  rw[Kd.depth]at h;obtain⟨e,rfl⟩:∃e,d=e+1:=⟨d-1,by lia⟩;rw[Kd.tr];show .tup (d:=3*e+2) λt m=>?_;rcases aaf.mp m with rfl|m
  ·show .str _
  rcases aaf.mp m with rfl|m
  ·show .tup (d:=3*e+1) (TK (by lia))
  cases m
 |.pick fs,d,h=>by
  rw[Kd.depth]at h;obtain⟨e,rfl⟩:∃e,d=e+1:=⟨d-1,by lia⟩;rw[Kd.tr];show .tup (d:=3*e+2) λt m=>?_;rcases aaf.mp m with rfl|m
  ·show .str _
  rcases aaf.mp m with rfl|m
  ·show .tup (d:=3*e+1) (TK (by lia))
  cases m
theorem TK:∀{fs:List (Str×Kd)} {e:Nat},GH fs≤e→∀t∈DS fs,Dp (3*e+1) t
 |[],e,h,t,m=>by rw[DS]at m;cases m
 |(n,k)::r,e,h,t,m=>by
  rw[GH]at h;rw[DS]at m;rcases aaf.mp m with rfl|m
  ·show .tup (d:=3*e) λt m=>?_
   rcases aaf.mp m with rfl|m
   ·show .str _
   rcases aaf.mp m with rfl|m
   ·show MZ (by lia)
   cases m
  ·show TK (by lia) t m
end
def GQ(k:Kd):∃ts,k.tr=.tup ts:=by cases k<;>(rw[Kd.tr];show⟨_,rfl⟩)
def Dp.items(h:Dp (d+1) (.tup ts)):∀t∈ts,Dp d t:=by
 cases h with
 |tup q=>show q
def JE{k':Kd}(h:k.depth≤6)(h':k'.depth≤6):JO 17 k.tr k'.tr:=by
 let a:=MZ h;let b:=MZ h';let⟨ts,e⟩:=GQ k;let⟨us,e'⟩:=GQ k';rw[e]at a ⊢;rw[e']at b ⊢;show .tup (Dp.items (d:=17) a) (Dp.items (d:=17) b)
abbrev Tf(P:Program)(w:World)(K:W.Frag)(a:Addr):Prop:=∃b1 b2 b3 b4,Br P w K a [("copy",b1),("give",b2),("lend",b3),("lease",b4)]∧ef K b1 []∧ef K b2 []∧ef K b3 [.str "give",.str "lease"]∧ef K b4 [.str "give"]
def Tf.get{P:Program}{w:World}{K:W.Frag}(h:Tf P w K a)(hz:z∈jX):∃aq b,Br P w K a aq∧aq.lookup z=some b∧ef K b ((TP z).map V.str):=by
 let⟨b1,b2,b3,b4,kd,k1,k2,k3,k4⟩:=h;rcases aaf.mp hz with rfl|hz
 ·show Ψ2 _ b1 ⟨kd,rfl,k1⟩
 rcases aaf.mp hz with rfl|hz
 ·show Ψ2 _ b2 ⟨kd,rfl,k2⟩
 rcases aaf.mp hz with rfl|hz
 ·show Ψ2 _ b3 ⟨kd,rfl,k3⟩
 rcases aaf.mp hz with rfl|hz
 ·show Ψ2 _ b4 ⟨kd,rfl,k4⟩
 cases hz
section
variable {K: W.Frag}{WY: Addr}
@[reducible]def SK:Stmt:=mem 53 1
def rK:Aq ["self","name"] ["self","name"] (Ac SK):=nofun
abbrev HK(C:Addr):Av:=λts Γ Z _=>∃(a pk:Addr) (x:Str) (Ps:List (Str×Pr)) (re:Option Kd) (W:List (Str×Str)) (ks:ad),ts=[.ref a,.str x]∧Sc C Γ a Ps re W ks pk∧Z (.bl (ks.lookup x).isSome) Γ
def tB(F:cJ K "knows" "Scope.knows" SK f fd)(ay:pK K C)(aw:bF K C "kinds"):bc P w K mg am Am 1 f fd ["self","name"] (Ak (HK C)):=by
 show B3 F rK (λts Γ Z Y h=>?_) (λcb A outer s H E ts Γ Z Y hr h=>?_)
 ·let⟨a,pk,x,_,_,_,_,rfl,_⟩:=h
  rfl
 obtain⟨a,pk,x,Ps,re,W,ks,rfl,⟨⟨dx,pp,pw,h1,h2,h3,n1,n2⟩,h4⟩,q⟩:=h;show⟨_,(A3 (AN (HF (Mb (BA (BP (by decide:1≤64) _) hr.units)) (qv 1) (Dy ay aw (qv 0)) (by with_unfolding_all rfl)))
  A8),?_⟩
 simp only[Ap];left;show Ψ3 pk _ (.inr x) ⟨rfl,rfl,h4,?_⟩;rw[Cb,Fc];show AB .refl q
@[reducible]def TX:Stmt:=mem 53 2
def abg:Aq ["self","name"] ["self","name"] (Ac TX):=nofun
abbrev LQ(C:Addr):Av:=λts Γ Z _=>∃(a pk:Addr) (x:Str) (Ps:List (Str×Pr)) (re:Option Kd) (W:List (Str×Str)) (ks:ad),ts=[.ref a,.str x]∧Sc C Γ a Ps re W ks pk∧Z (.bl (Gd W x)) Γ
def wR(F:cJ K "is_own" "Scope.is_own" TX f fd)(ay:pK K C)(bL:bF K C "ways"):bc P w K mg am Am 1 f fd ["self","name"] (Ak (LQ C)):=by
 show B3 F abg (λts Γ Z Y h=>?_) (λcb A outer s H E ts Γ Z Y hr h=>?_)
 ·let⟨a,pk,x,_,_,_,_,rfl,_⟩:=h
  rfl
 obtain⟨a,pk,x,Ps,re,W,ks,rfl,⟨⟨dx,pp,pw,h1,h2,h3,n1,n2⟩,h4⟩,q⟩:=h;show⟨_,(A3 (AN (HF SX (E0 GI F4 HN (kR (BA (BP (by decide:1≤64) _) hr.units)) (Dy ay bL (qv 0)) (A0 (qv 1) A5)) (BM (A0 Al (A0 Al A5))) (by with_unfolding_all rfl)))
  A8),?_⟩
 simp only[Ap];left;show⟨J0 h3,?_⟩;left;show Ψ3 pw _ (.inr x) ⟨rfl,rfl,h3,?_⟩;rw[Cb];unfold Gd at q;cases e:W.lookup x with
 |none=>
  rw[e]at q;left;show AB .refl q
 |some z=>
  rw[e]at q;show QZ _ _ _ _ (λy Γ2=>K4 true (.str z) y Γ2 _)
  left;show EP Z (.bl (!DX (.str z) [V.str "lend",V.str "lease"])) Γ
  rw[show [V.str "lend",V.str "lease"]=(["lend","lease"]:List Str).map V.str from rfl,KN];show AB .refl ?_;have:decide (z∈(["lend","lease"]:List Str))=(decide (some z=some ("lend" : Str))||decide (some z=some ("lease" : Str))):=by
   rw[GG];simp
  rw[this];show q
@[reducible]def TY:Stmt:=mem 53 3
def vf:Aq ["self","name","kind"] ["self","name","kind"] (Ac TY):=nofun
abbrev KS(C:Addr):Av:=λts Γ Z _=>∃(a pk:Addr) (x:Str) (k:Kd) (Ps:List (Str×Pr)) (re:Option Kd) (W:List (Str×Str)) (ks:ad),ts=[.ref a,.str x,k.tr]∧k.depth≤5∧Ga ks∧ks.length≤100000∧Sc C Γ a Ps re W ks pk∧Z (.bl (DB W ks x k).1) (AA Γ pk (.dK (Cv (DB W ks x k).2)))
def EV(h:Γ a=some o):AA Γ a o=Γ:=by
 funext b
 by_cases e:b=a
 ·subst e;rw[Ae,h]
 ·rw[AZ e]
def vC(F:cJ K "may_make" "Scope.may_make" TY f fd)(ay:pK K C)(aw:bF K C "kinds")(bS:DC P w K mg am C "is_own" 1 ["self","name"] (LQ C)):bc P w K mg am Am 2 f fd ["self","name","kind"] (Ak (KS C)):=by
 show B3 F vf (λts Γ Z Y h=>?_) (λcb A outer s H E ts Γ Z Y hr h=>?_)
 ·let⟨a,pk,x,k,_,_,_,_,rfl,_⟩:=h
  rfl
 let⟨a,pk,x,k,Ps,re,W,ks,rfl,kd,gk,kl,hs,q⟩:=h;let gM:=hs;obtain⟨⟨dx,pp,pw,h1,h2,h3,n1,n2⟩,h4⟩:=gM;show⟨_,(A3 (Ag (BL (BI (EN bS hr (by lia) (qv 0) (A0 (qv 1) A5)))) (A3 (AN BE)
  A8) A8)
  (A3 (AN (Dh (aI (d:=17) (BA (BP (by decide:1+17≤64) _) hr.units)) (E0 GI jE PySem.F.type_dict_setdefault aag (Dy ay aw (qv 0)) (A0 (qv 1) (A0 (qv 2) A5))) (qv 2)))
  A8)),?_⟩
 simp only[Ap];unfold DB at q;left;show Ψ7 a pk x Ps re W ks ⟨rfl,hs,?_⟩;exists c
 ·rw[AP (by simpa using c),EV h4]at q
  left;show AB .refl q
 rw[Ab (by simpa using c)]at q;left;show⟨J0 h4,?_⟩;left;show Ψ4 pk _ (.inr x) k.tr ⟨rfl,rfl,h4,by rw[AM,CN];lia,λt e=>?_,λe=>?_⟩
 ·rw[Cb]at e
  cases l:ks.lookup x with
  |none=>rw[l]at e;cases e
  |some k'=>
   rw[l]at e q;cases e;left;show⟨JE (Es (gk _ (Cg l)).2) (Es kd),?_⟩;let q:Z (.bl (kq k' k)) (AA Γ pk (.dK (Cv ks))):=q;rw[EV h4]at q;show AB .refl q
 ·rw[Cb]at e
  cases l:ks.lookup x with
  |some k'=>rw[l]at e;cases e
  |none=>
   rw[l]at q;rw[J9 Kd.tr l];left;show⟨JE (Es kd) (Es kd),?_⟩;let q:Z (.bl true) (AA Γ pk (.dK (Cv (ks++[(x,k)])))):=q;rw[show Bj k.tr k.tr=true from pW k];show AB .refl q
@[reducible]def Th:Stmt:=mem 53 4
def yq:Aq ["self","name","place"] ["self","name","place"] (Ac Th):=nofun
abbrev UN(C:Addr):Av:=λts Γ Z _=>∃(a pk:Addr) (x:Str) (p:Str×Str×Kd) (Ps:List (Str×Pr)) (re:Option Kd) (W:List (Str×Str)) (ks:ad),ts=[.ref a,.str x,Er p]∧p.2.2.depth≤5∧Ga ks∧av W∧Sc C Γ a Ps re W ks pk∧Z (.bl (Ke W ks x p)) Γ
def qZ(F:cJ K "may_hand" "Scope.may_hand" Th f fd)(ay:pK K C)(aw:bF K C "kinds")(bL:bF K C "ways")(aE:DC P w K mg am C "knows" 1 ["self","name"] (HK C))(jh:mg "BARRED_WAYS" = some (.ref WY))(h_BW:Tf P w K WY):bc P w K mg am Am 2 f fd ["self","name","place"] (Ak (UN C)):=by
 show B3 F yq (λts Γ Z Y h=>?_) (λcb A outer s H E ts Γ Z Y hr h=>?_)
 ·let⟨a,pk,x,p,_,_,_,_,rfl,_⟩:=h
  rfl
 let⟨a,pk,x,p,Ps,re,W,ks,rfl,pd,gk,gw,hs,q⟩:=h;let gM:=hs;obtain⟨⟨dx,pp,pw,h1,h2,h3,n1,n2⟩,h4⟩:=gM;show⟨_,(A3 (Ag (PW.pt (CQ (BL (BI (EN aE hr (by lia) (qv 0) (A0 (qv 1) A5)))) (D3 (B2 (VM (d:=17) (BA (BP (by decide:1+17≤64) _) hr.units)) (Fh (BA (BP (by decide:1≤64) _) hr.units) (Dy ay aw (qv 0)) (qv 1)) (AO (qv 2) A9))))) (A3 (AN BE)
  A8) A8)
  (A3 (AN (HF (yI (K:=K) rfl) (AO (qv 2) A9) (WO (ED rfl jh M0) (E0 GI F4 HN (Ja (BA (BP (by decide:1≤64) _) hr.units)) (Dy ay bL (qv 0)) (A0 (qv 1) (A0 Al A5)))) (by with_unfolding_all rfl)))
  A8)),?_⟩
 simp only[Ap,Er];unfold Ke at q;left;show Ψ7 a pk x Ps re W ks ⟨rfl,hs,?_⟩;cases l:ks.lookup x with
 |none=>
  rw[l]at q;left;show AB .refl q
 |some k=>
  rw[l]at q;let q:Z (.bl (kq k p.2.2&&!decide (p.2.1∈TP ((W.lookup x).getD "copy")))) Γ:=q;left;unfold HH;left;show Ψ4 pk _ (.inr x) k.tr ⟨rfl,rfl,h4,by rw[Cb,l];rfl,?_⟩;left;show Hj (i:=2) rfl ?_;let tw:=JE (Es (gk _ (Cg l)).2) (Es pd);let⟨ts,e⟩:=GQ k;let⟨us,e'⟩:=GQ p.2.2;unfold kq at q;rw[e,e']at tw q ⊢;cases tw with
  |tup t1 t2=>
   show Ψ2 ts us ⟨rfl,rfl,t1,t2,?_⟩;exists c
   ·rw[show Bj (.tup ts) (.tup us)=false by simpa using c]at q
    left;show AB .refl q
   rw[show Bj (.tup ts) (.tup us)=true by simpa using c,Bd]at q;left;unfold Sk;left;show⟨J0 h3,?_⟩;left;show Ψ4 pw _ (.inr x) (.str "copy") ⟨rfl,rfl,h3,?_⟩;let ev:((DQ (Li W) (.inr x)).getD (.str "copy"))=.str ((W.lookup x).getD "copy"):=by
    rw[Cb];cases W.lookup x<;>rfl
   rw[ev];let hz:(W.lookup x).getD "copy" ∈ jX:=by
    cases e2:W.lookup x with
    |none=>done
    |some z=>show gw _ (Cg e2)
   let⟨aq,b,kd,lk,kt⟩:=h_BW.get hz;show Ψ4 WY aq _ b ⟨rfl,kd,rfl,lk,?_⟩;show Ψ3 (.str p.2.1) b _ ⟨rfl,rfl,rfl,kt,?_,?_⟩
   ·rw[FY];show aa2.mpr λ_ _=>rfl
   rw[KN];show AB .refl q
end
mutual
noncomputable def AE(Ps:List (Str×Pr))(re:Option Kd)(W:List (Str×Str)):Sm→List (Str×Kd)→Bool×List (Str×Kd)
 |.new x k _,ks=>DB W ks x k
 |.copy x y,ks=>match ks.lookup y with|some k=>DB W ks x k|none=>(false,ks)
 |.part x y p,ks=>match(ks.lookup y).bind λk=>DE k p with|some k=>DB W ks x k|none=>(false,ks)
 |.put y p x,ks=>(match ks.lookup y,ks.lookup x with|some ky,some kx=>!decide (W.lookup y=some "lend")&&(match DE ky p with|some k=>kq k kx|none=>false)|_,_=>false,ks)
 |.add y p x,ks=>(match ks.lookup y,ks.lookup x with|some ky,some kx=>!decide (W.lookup y=some "lend")&&(match DE ky p with|some k=>kq k (.row kx)|none=>false)|_,_=>false,ks)
 |.drop x,ks=>((ks.lookup x).isSome&&Gd W x,ks)
 |.say x,ks=>((ks.lookup x).isSome,ks)
 |.call z d ns,ks=>match Ps.lookup d with
  |none=>(false,ks)
  |some p=>if(decide (ns.length=p.ps.length)&&(ns.zip p.ps).all λq=>Ke W ks q.1 q.2)=true then(match z,p.re with|none,_=>(true,ks)|some z,some k=>DB W ks z k|some _,none=>(false,ks))else(false,ks)
 |.same x y a b,ks=>match ks.lookup x,ks.lookup y with
  |some kx,some ky=>if kq kx ky=true then(if(Ba Ps re W a ks).1=true then Ba Ps re W b (Ba Ps re W a ks).2 else(false,(Ba Ps re W a ks).2))else(false,ks)
  |_,_=>(false,ks)
 |.fail _,ks=>(true,ks)
 |.tri a b,ks=>if(Ba Ps re W a ks).1=true then Ba Ps re W b (Ba Ps re W a ks).2 else(false,(Ba Ps re W a ks).2)
 |.back x,ks=>(match ks.lookup x,re with|some k,some r=>Gd W x&&kq k r|_,_=>false,ks)
noncomputable def Ba(Ps:List (Str×Pr))(re:Option Kd)(W:List (Str×Str)):List Sm→List (Str×Kd)→Bool×List (Str×Kd)
 |[],ks=>(true,ks)
 |s::r,ks=>if(AE Ps re W s ks).1=true then Ba Ps re W r (AE Ps re W s ks).2 else(false,(AE Ps re W s ks).2)
end
mutual
def Sm.sz:Sm→Nat
 |.same _ _ a b=>B7 a+B7 b+1
 |.tri a b=>B7 a+B7 b+1
 |_=>1
def B7:List Sm→Nat
 |[]=>0
 |s::r=>s.sz+B7 r
end
mutual
def Sm.ht:Sm→Nat
 |.same _ _ a b=>max (Fw a) (Fw b)+1
 |.tri a b=>max (Fw a) (Fw b)+1
 |_=>0
def Fw:List Sm→Nat
 |[]=>0
 |s::r=>max s.ht (Fw r)
end
structure En(Ps:List (Str×Pr))(re:Option Kd)(W:List (Str×Str))(ks:ad)(n:Nat):Prop where
 gk:Ga ks
 gw:av W
 ps:∀p∈Ps,p.2.Ok
 re:∀k,re=some k→k.good∧k.depth≤5
 ln:ks.length+n≤100000
def MM:∀{p:List T} {k k':Kd},k.good→k.depth≤5→DE k p=some k'→k'.good∧k'.depth≤5
 |[],k,k',g,d,h=>by cases h;show⟨g,d⟩
 |x::r,k,k',g,d,h=>by
  unfold DE at h;cases e:stepK k x with
  |none=>rw[e]at h;cases h
  |some k2=>
   rw[e]at h;let⟨a,b⟩:=aak g e;show MM a (by lia) h
def Mo{W:List (Str×Str)}(g:Ga ks)(h:k.good∧k.depth≤5):Ga (DB W ks x k).2∧(DB W ks x k).2.length≤ks.length+1:=by
 unfold DB;split
 ·split
  ·show⟨g,BR _⟩
  ·show⟨λp m=>?_,by simp⟩
   rcases aaG.mp m with m|m
   ·show g p m
   ·rw[aaB]at m;subst m;show h
 ·show⟨g,BR _⟩
section
variable {W: List (Str×Str)}
mutual
theorem aO(hp:∀p∈Ps,p.2.Ok):∀{s:Sm} {ks:List (Str×Kd)},s.Ok→Ga ks→Ga (AE Ps re W s ks).2∧(AE Ps re W s ks).2.length≤ks.length+s.sz
 |.new x k _,ks,o,g=>by
  unfold Sm.Ok at o;unfold AE Sm.sz;show Mo g ⟨o.2.1,o.2.2.1⟩
 |.copy x y,ks,o,g=>by
  unfold AE Sm.sz;cases e:ks.lookup y with
  |some k=>show Mo g (g _ (Cg e))
  |none=>show⟨g,BR _⟩
 |.part x y p,ks,o,g=>by
  unfold AE Sm.sz;cases e:ks.lookup y with
  |none=>show⟨g,BR _⟩
  |some k=>
   show Ga (match DE k p with|some k=>DB W ks x k|none=>(false,ks)).2∧_
   cases e2:DE k p with
   |none=>simp only[Option.bind_some,e2];show⟨g,BR _⟩
   |some k'=>
    simp only[Option.bind_some,e2];let gk:=g _ (Cg e);show Mo g (MM gk.1 gk.2 e2)
 |.put y p x,ks,o,g=>by unfold AE Sm.sz;show⟨g,BR _⟩
 |.add y p x,ks,o,g=>by unfold AE Sm.sz;show⟨g,BR _⟩
 |.drop x,ks,o,g=>by unfold AE Sm.sz;show⟨g,BR _⟩
 |.say x,ks,o,g=>by unfold AE Sm.sz;show⟨g,BR _⟩
 |.call z d ns,ks,o,g=>by
  unfold AE Sm.sz;cases e:Ps.lookup d with
  |none=>show⟨g,BR _⟩
  |some p=>
   dsimp only;split
   ·split
    ·show⟨g,BR _⟩
    ·rename_i e2
     show Mo g ((hp _ (Cg e)).re _ e2)
    ·show⟨g,BR _⟩
   ·show⟨g,BR _⟩
 |.same x y a b,ks,o,g=>by
  unfold Sm.Ok at o;unfold AE Sm.sz;split
  ·split
   ·let ia:=Kw hp o.2.2.2.2.1 g
    split
    ·let ib:=Kw hp o.2.2.2.2.2 ia.1
     show⟨ib.1,by lia⟩
    ·show⟨ia.1,by show(Ba Ps re W a ks).2.length≤_;lia⟩
   ·show⟨g,by show ks.length≤_;lia⟩
  ·show⟨g,by show ks.length≤_;lia⟩
 |.fail _,ks,o,g=>by unfold AE Sm.sz;show⟨g,BR _⟩
 |.tri a b,ks,o,g=>by
  unfold Sm.Ok at o;unfold AE Sm.sz;let ia:=Kw hp o.2.2.1 g;split
  ·let ib:=Kw hp o.2.2.2 ia.1
   show⟨ib.1,by lia⟩
  ·show⟨ia.1,by show(Ba Ps re W a ks).2.length≤_;lia⟩
 |.back x,ks,o,g=>by unfold AE Sm.sz;show⟨g,BR _⟩
theorem Kw(hp:∀p∈Ps,p.2.Ok):∀{ss:List Sm} {ks:List (Str×Kd)},Bc ss→Ga ks→Ga (Ba Ps re W ss ks).2∧(Ba Ps re W ss ks).2.length≤ks.length+B7 ss
 |[],ks,o,g=>by unfold Ba B7;show⟨g,Ah _⟩
 |s::r,ks,o,g=>by
  unfold Bc at o;unfold Ba B7;let ia:=aO hp o.1 g;split
  ·let ib:=Kw hp o.2 ia.1
   show⟨ib.1,by lia⟩
  ·show⟨ia.1,by show(AE Ps re W s ks).2.length≤_;lia⟩
end
def En.step{s:Sm}(e:En Ps re W ks (s.sz+n))(o:s.Ok):En Ps re W (AE Ps re W s ks).2 n:=by
 have:=aO (re:=re) (W:=W) e.ps o e.gk;show⟨this.1,e.gw,e.ps,e.re,by have:=e.ln;lia⟩
def En.Kc{ss:List Sm}(e:En Ps re W ks (B7 ss+n))(o:Bc ss):En Ps re W (Ba Ps re W ss ks).2 n:=by
 have:=Kw (re:=re) (W:=W) e.ps o e.gk;show⟨this.1,e.gw,e.ps,e.re,by have:=e.ln;lia⟩
def En.le(e:En Ps re W ks n)(h:m≤n):En Ps re W ks m:=⟨e.gk,e.gw,e.ps,e.re,by have:=e.ln;lia⟩
end
section
variable {K: W.Frag}
@[reducible]def Qq:Stmt:=mem 53 0
def gC:Aq ["self","papers","paper","around","name","way","kind"] ["self","papers","paper","around"] (Ac Qq):=nofun
abbrev gP(C:Addr):Av:=λts Γ Z _=>∃(a dx pp pa:Addr) (p:Pr) (Ps:List (Str×Pr)) (as:ad),ts=[.ref a,.ref pp,p.tr,.ref pa]∧Γ a=some (.ins C dx [])∧Γ pp=some (.dK (Ki Ps))∧Γ pa=some (.dK (Cv as))∧p.Ok∧(∀q∈p.ps,as.lookup q.1=none)∧as.length≤1000∧
 ∀Γ' pk,Kq [a] Γ Γ'→Γ pk=none→Sc C Γ' a Ps p.re (p.ps.map λq=>(q.1,q.2.1)) (as++p.ps.map λq=>(q.1,q.2.2)) pk→Z .non Γ'
def adE(F:cJ K "__init__" "Scope.__init__" Qq f fd)(ay:pK K C)(bJ:bF K C "papers")(bI:bF K C "result")(bL:bF K C "ways")(aw:bF K C "kinds")(yf:mg "dict" = none):bc P w K mg am Am 1 f fd ["self","papers","paper","around"] (Ak (gP C)):=by
 show B3 F gC (λts Γ Z Y h=>?_) (λcb A outer s H E ts Γ Z Y hr h=>?_)
 ·let⟨_,_,_,_,_,_,_,rfl,_⟩:=h
  rfl
 let⟨a,dx,pp,pa,p,Ps,as,rfl,ga,gp,YE,o,no,al,q⟩:=h;show⟨_,(A3 (ON ay bJ (qv 0) (qv 1))
  (A3 (ON ay bI (qv 0) (AO (qv 2) A9))
  (A3 (ON ay bL (qv 0) (Vj (own:=["name","way","kind"]) (cap:=[]) F0 rfl (E4 (AO (qv 2) A9)) (λ_ _ _ _=>(Bn (n:=3) rfl (AS (Bb (i:=0) (show List.Nodup (["name","way","kind"]:List Str)from by done) rfl (Or.inl rfl) (Or.inr rfl)) (AS (Bb (i:=1) (show List.Nodup (["name","way","kind"]:List Str)from by done) rfl (Or.inl rfl) (Or.inr rfl)) (AS (Bb (i:=2) (show List.Nodup (["name","way","kind"]:List Str)from by done) rfl (Or.inl rfl) (Or.inr rfl)) Bu))))) (λ_ _ _ _=>(qv 0)) (λ_ _ _ _=>(qv 1))))
  (A3 (ON ay aw (qv 0) (IK yE rfl yf tj (A0 (qv 3) A5)))
  (A3 (Fo GJ rfl (E4 (AO (qv 2) A9)) (Bn (n:=3) rfl (AS (Aj (i:=4) gC.nd) (AS (Aj (i:=5) gC.nd) (AS (Aj (i:=6) gC.nd) Bu)))) (A3 (OC (BA (BP (by decide:1≤64) _) hr.units) (Dy ay aw (qv 0)) (qv 4) (qv 6))
  A8))
  A8))))),?_⟩
 simp only[Ap,Pr.tr];let nap:pp≠a:=Lu gp ga (by simp);let naa:pa≠a:=Lu YE ga (by simp);left;show Hj (i:=3) rfl ?_;left;unfold Ph;left;show Hj (i:=2) rfl ?_;left;show⟨by rw[AM,CN];have:=o.ln;lia,?_⟩;rw[Mq];generalize e1:AA Γ a _=Γ1;let g1:Γ1 a=some (.ins C dx [("papers",.ref pp),("result",Ed p.re)]):=B4 e1;let k1:Kq [a] Γ Γ1:=e1 ▸ Kq.set (by simp) _;show⟨λv4 τ ys Γ'=>∃(gs ds:List (Str×Str×Kd)) (o1 o2 o3:Option T),v4=gs.map Er∧p.ps=ds++gs∧τ=[o1,o2,o3]∧ys=Li (ds.map λq=>(q.1,q.2.1))∧Γ'=Γ1,Ψ5 p.ps [] none none none ⟨rfl,rfl,rfl,rfl,rfl⟩,?_,?_⟩;rotate_left
 ·intro x r τ ys Γ'⟨gs,ds,o1,o2,o3,er,ez,rfl,rfl,rfl⟩
  cases gs with
  |nil=>cases er
  |cons g gs=>
   cases er;show⟨trivial,?_⟩;unfold Er;left;show⟨.inr g.1,rfl,gs,ds++[g],_,_,_,rfl,by rw[ez];simp,rfl,?_,rfl⟩;rw[Ad];show J9 T.str (v:=g.2.1) (dq.mpr ?_);rw[D2];let nd:=o.nd;rw[ez,Ad,aaK]at nd;intro m;let⟨d,hd,e⟩:=aam.mp m;show nd.2.2 d.1 (aam.mpr ⟨d,hd,rfl⟩) g.1 (by simp) e
 intro τ ys Γ'⟨gs,ds,o1,o2,o3,er,ez,rfl,rfl,rfl⟩;let hg:gs=[]:=by
  cases gs with
  |nil=>rfl
  |cons _ _=>cases er
 subst hg;rw[BN]at ez;subst ez;show⟨trivial,λpw Yh=>?_⟩;let Vh:a≠pw:=Bl g1 Yh;left;show Ψ3 a dx _ ⟨rfl,by rw[AZ Vh];show g1,by simp,?_⟩;generalize e2:AA (AA Γ' pw _) a _=Γ2;let g2:Γ2 a=some (.ins C dx [("papers",.ref pp),("result",Ed p.re),("ways",.ref pw)]):=B4 e2;let k2:Kq [a] Γ Γ2:=by
  rw[←e2];show(k1.trans (Kq.new Yh _)).trans (Kq.set (by simp) _)
 let w2:Γ2 pw=some (.dK (Li (p.ps.map λq=>(q.1,q.2.1)))):=by rw[←e2,AZ (C3 Vh)];show Ae
 left;show Ψ2 pa _ ⟨rfl,k2 pa _ (by simpa using naa) YE,λpk Gr=>?_⟩;let Rw:a≠pk:=Bl g2 Gr;let Vo:pw≠pk:=Bl w2 Gr;left;show Ψ3 a dx _ ⟨rfl,by rw[AZ Rw];show g2,by simp,?_⟩;generalize e3:AA (AA Γ2 pk _) a _=Γ3;let g3:Γ3 a=some (Qk C dx pp (Ed p.re) pw pk):=B4 e3;let k3:Kq [a] Γ Γ3:=by
  rw[←e3];show(k2.trans (Kq.new Gr _)).trans (Kq.set (by simp) _)
 let w3:Γ3 pw=some (.dK (Li (p.ps.map λq=>(q.1,q.2.1)))):=by rw[←e3,AZ (C3 Vh),AZ Vo];show w2
 let h3:Γ3 pk=some (.dK (Cv as)):=by rw[←e3,AZ (C3 Rw)];show Ae
 let Q8:Γ pk=none:=by
  cases e:Γ pk with
  |none=>rfl
  |some u=>have:=k2 pk u (by simpa using C3 Rw) e;rw[Gr]at this;cases this
 let OU:pp≠pk:=Bl gp Q8;left;show Hj (i:=2) rfl ?_;left;show⟨λv4 τ Γ'=>∃(gs ds:List (Str×Str×Kd)) (o4 o5 o6:Option T),v4=gs.map Er∧p.ps=ds++gs∧τ=[some (.ref a),some (.ref pp),some p.tr,some (.ref pa),o4,o5,o6]∧Kq [pk] Γ3 Γ'∧Γ' pk=some (.dK (Cv (as++ds.map λq=>(q.1,q.2.2)))),Ψ5 p.ps [] none none none ⟨rfl,rfl,rfl,.refl,by rw[Hs,BN];show h3⟩,?_,?_⟩
 ·intro τ Γ'⟨gs,ds,o4,o5,o6,er,ez,rfl,kq,hk⟩
  let hg:gs=[]:=by
   cases gs with
   |nil=>rfl
   |cons _ _=>cases er
  subst hg;rw[BN]at ez;rw[←ez]at hk;show⟨trivial,?_⟩;left;show AB .refl (q Γ' pk ?_ Q8 ⟨Ψ3 dx pp pw ⟨kq _ _ (by simpa using Rw) g3,kq _ _ (by simpa using OU) (k3 _ _ (by simpa using nap) gp),kq _ _ (by simpa using Vo) w3,OU,Vo⟩,hk⟩);intro b u n h;let nb:b≠pk:=λe=>by subst e;rw[Q8]at h;cases h
  show kq b u (by simpa using nb) (k3 b u n h)
 ·intro x r τ Γ'⟨gs,ds,o4,o5,o6,er,ez,rfl,kq,hk⟩
  cases gs with
  |nil=>cases er
  |cons g gs=>
   cases er;let YI:Γ' a=some (Qk C dx pp (Ed p.re) pw pk):=kq _ _ (by simpa using Rw) g3;unfold Er;left;unfold MW;left;show Ψ3 pk _ (.inr g.1) ⟨rfl,rfl,hk,by rw[AM,BO,AM,CN];have:=o.ln;rw[ez,BO]at this;lia,?_⟩;show Ψ5 gs (ds++[g]) _ _ _ ⟨rfl,by rw[ez];simp,rfl,kq.trans (Kq.set (by simp) _),?_⟩;rw[Ae];congr 2
   rw[Ad,←GV];show J9 Kd.tr (v:=g.2.2) ?_;rw[oI,no g (by rw[ez];simp)];show dq.mpr ?_;rw[D2];let nd:=o.nd;rw[ez,Ad,aaK]at nd;intro m;let⟨d,hd,e⟩:=aam.mp m;show nd.2.2 d.1 (aam.mpr ⟨d,hd,rfl⟩) g.1 (by simp) e
end
abbrev Sm.tag:Sm→Nat
 |.new ..=>0
 |.copy ..=>1
 |.part ..=>2
 |.put ..=>3
 |.add ..=>4
 |.drop ..=>5
 |.say ..=>6
 |.call ..=>7
 |.same ..=>8
 |.fail ..=>9
 |.tri ..=>10
 |.back ..=>11
def rm{s:Sm}(h:s.tag=0):∃x k v,s=.new x k v:=by cases s<;>first|show⟨_,_,_,rfl⟩|(simp[Sm.tag]at h)
def pY{s:Sm}(h:s.tag=1):∃x y,s=.copy x y:=by cases s<;>first|show⟨_,_,rfl⟩|(simp[Sm.tag]at h)
def rN{s:Sm}(h:s.tag=2):∃x y p,s=.part x y p:=by cases s<;>first|show⟨_,_,_,rfl⟩|(simp[Sm.tag]at h)
def zI{s:Sm}(h:s.tag=3):∃y p x,s=.put y p x:=by cases s<;>first|show⟨_,_,_,rfl⟩|(simp[Sm.tag]at h)
def qN{s:Sm}(h:s.tag=4):∃y p x,s=.add y p x:=by cases s<;>first|show⟨_,_,_,rfl⟩|(simp[Sm.tag]at h)
def pv{s:Sm}(h:s.tag=5):∃x,s=.drop x:=by cases s<;>first|show⟨_,rfl⟩|(simp[Sm.tag]at h)
def w9{s:Sm}(h:s.tag=6):∃x,s=.say x:=by cases s<;>first|show⟨_,rfl⟩|(simp[Sm.tag]at h)
def aao{s:Sm}(h:s.tag=7):∃z d ns,s=.call z d ns:=by cases s<;>first|show⟨_,_,_,rfl⟩|(simp[Sm.tag]at h)
def aby{s:Sm}(h:s.tag=8):∃x y b1 b2,s=.same x y b1 b2:=by cases s<;>first|show⟨_,_,_,_,rfl⟩|(simp[Sm.tag]at h)
def qx{s:Sm}(h:s.tag=9):∃n0,s=.fail n0:=by cases s<;>first|show⟨_,rfl⟩|(simp[Sm.tag]at h)
def xV{s:Sm}(h:s.tag=10):∃b1 b2,s=.tri b1 b2:=by cases s<;>first|show⟨_,_,rfl⟩|(simp[Sm.tag]at h)
def yN{s:Sm}(h:s.tag=11):∃x,s=.back x:=by cases s<;>first|show⟨_,rfl⟩|(simp[Sm.tag]at h)
section
variable {K: W.Frag}
abbrev Ey(C:Addr)(t:Nat)(m:Nat):Av:=λts Γ Z _=>∃(a pk:Addr) (s:Sm) (Ps:List (Str×Pr)) (re:Option Kd) (W:List (Str×Str)) (ks:ad),ts=[.ref a,s.tr]∧s.tag=t∧s.Ok∧s.ht<m∧En Ps re W ks s.sz∧Sc C Γ a Ps re W ks pk∧
 Z (.bl (AE Ps re W s ks).1) (AA Γ pk (.dK (Cv (AE Ps re W s ks).2)))
def Fd{C:Addr}{wd:Nat}{Z:DH}{Y:Value→AJ→Prop}(h:Ey C wd m ts Γ Z Y):ts.length=2:=by
 let⟨_,_,_,_,_,_,_,rfl,_⟩:=h;rfl
@[reducible]def Te:Stmt:=top 61
def rf:Aq ["scope","target","name"] ["scope","target","name"] (Ac Te):=nofun
abbrev Q9(W:List (Str×Str))(ks:ad)(y x:Str):Bool:=(ks.lookup y).isSome&&((ks.lookup x).isSome&&!decide (W.lookup y=some "lend"))
abbrev OJ(C:Addr):Av:=λts Γ Z _=>∃(a pk:Addr) (y x:Str) (Ps:List (Str×Pr)) (re:Option Kd) (W:List (Str×Str)) (ks:ad),ts=[.ref a,.str y,.str x]∧Sc C Γ a Ps re W ks pk∧Z (.bl (Q9 W ks y x)) Γ
def qP(F:cJ K "is_good_change" "is_good_change" Te f fd)(ay:pK K C)(bL:bF K C "ways")(aE:DC P w K mg am C "knows" 1 ["self","name"] (HK C)):bc P w K mg am Am 2 f fd ["scope","target","name"] (Ak (OJ C)):=by
 show B3 F rf (λts Γ Z Y h=>?_) (λcb A outer s H E ts Γ Z Y hr h=>?_)
 ·let⟨_,_,_,_,_,_,_,_,rfl,_⟩:=h
  rfl
 let⟨a,pk,y,x,Ps,re,W,ks,rfl,hs,q⟩:=h;show⟨_,(A3 (AN (CV (EN aE hr (by lia) (qv 0) (A0 (qv 1) A5)) (CV (EN aE hr (by lia) (qv 0) (A0 (qv 2) A5)) (CU (Dh E3 (E0 GI F4 HN (kR (BA (BP (by decide:1≤64) _) hr.units)) (Dy ay bL (qv 0)) (A0 (qv 1) A5)) Al)))))
  A8),?_⟩
 simp only[Ap];let gM:=hs;obtain⟨⟨dx,pp,pw,h1,h2,h3,n1,n2⟩,h4⟩:=gM;unfold Q9 at q;left;show Ψ7 a pk y Ps re W ks ⟨rfl,hs,?_⟩;exists c;rotate_left
 ·rw[c]at q;show AB .refl q
 rw[c,Bd]at q;left;show Ψ7 a pk x Ps re W ks ⟨rfl,hs,?_⟩;exists c;rotate_left
 ·rw[c]at q;show AB .refl q
 rw[c,Bd]at q;left;show⟨J0 h3,?_⟩;left;show Ψ3 pw _ (.inr y) ⟨rfl,rfl,h3,?_⟩;rw[Cb];cases e:W.lookup y with
 |none=>
  rw[e]at q;show Ψ2 (.non) (.str "lend") ⟨rfl,rfl,rfl,AB .refl q⟩
 |some z=>
  rw[e]at q;show Ψ2 (.str z) (.str "lend") ⟨rfl,rfl,rfl,AB .refl ?_⟩;rw[show decide (V.str z=V.str "lend")=decide (some z=some ("lend" : Str))from aba.mpr ⟨λe=>by rw[V.str.inj e],λe=>by rw[EJ e]⟩];show q
@[reducible]def OI:Stmt:=top 55
def dJ:Aq ["scope","statement","word","name","kind","worth"] ["scope","statement"] (Ac OI):=nofun
def uf(F:cJ K "is_good_new" "is_good_new" OI f fd)(aP:DC P w K mg am C "may_make" 2 ["self","name","kind"] (KS C)):bc P w K mg am Am 5 f fd ["scope","statement"] (Ak (Ey C 0 m)):=by
 show B3 F dJ (λts Γ Z Y h=>Fd h) (λcb A outer s H E ts Γ Z Y hr h=>?_);let⟨a,pk,s,Ps,re,W,ks,rfl,ew,so,hm,en,hs,q⟩:=h;show⟨_,(A3 (EK (qv 1) (Bn (n:=4) rfl (AS (Aj (i:=2) dJ.nd) (AS (Aj (i:=3) dJ.nd) (AS (Aj (i:=4) dJ.nd) (AS (Aj (i:=5) dJ.nd) Bu))))))
  (A3 (AN (EN aP hr (by lia) (qv 0) (A0 (qv 3) (A0 (qv 4) A5))))
  A8)),?_⟩
 simp only[Ap];let gM:=hs;obtain⟨⟨dx,pp,pw,h1,h2,h3,n1,n2⟩,h4⟩:=gM;let ln:=en.ln;let⟨x,k,v,rfl⟩:=rm ew;unfold Sm.Ok at so;unfold AE at q;rw[Sm.tr];left;show Ψ8 a pk x k Ps re W ks ⟨rfl,so.2.2.1,en.gk,by lia,hs,AB .refl q⟩
@[reducible]def Mh:Stmt:=top 56
def eM:Aq ["scope","statement","word","name","source"] ["scope","statement"] (Ac Mh):=nofun
def rZ(F:cJ K "is_good_copy" "is_good_copy" Mh f fd)(ay:pK K C)(aw:bF K C "kinds")(aE:DC P w K mg am C "knows" 1 ["self","name"] (HK C))(aP:DC P w K mg am C "may_make" 2 ["self","name","kind"] (KS C)):bc P w K mg am Am 5 f fd ["scope","statement"] (Ak (Ey C 1 m)):=by
 show B3 F eM (λts Γ Z Y h=>Fd h) (λcb A outer s H E ts Γ Z Y hr h=>?_);let⟨a,pk,s,Ps,re,W,ks,rfl,ew,so,hm,en,hs,q⟩:=h;show⟨_,(A3 (EK (qv 1) (Bn (n:=3) rfl (AS (Aj (i:=2) eM.nd) (AS (Aj (i:=3) eM.nd) (AS (Aj (i:=4) eM.nd) Bu)))))
  (A3 (AN (CV (EN aE hr (by lia) (qv 0) (A0 (qv 4) A5)) (CU (EN aP hr (by lia) (qv 0) (A0 (qv 3) (A0 (Fh (BA (BP (by decide:1≤64) _) hr.units) (Dy ay aw (qv 0)) (qv 4)) A5))))))
  A8)),?_⟩
 simp only[Ap];let gM:=hs;obtain⟨⟨dx,pp,pw,h1,h2,h3,n1,n2⟩,h4⟩:=gM;let ln:=en.ln;let⟨x,y,rfl⟩:=pY ew;unfold Sm.Ok at so;unfold AE at q;rw[Sm.tr];let no:Z (.bl false) (AA Γ pk (.dK (Cv ks)))→EP Z (.bl false) Γ:=λq=>by rw[EV h4]at q;show AB .refl q
 left;show Ψ7 a pk y Ps re W ks ⟨rfl,hs,?_⟩;cases e:ks.lookup y with
 |none=>
  rw[e]at q;left;show no q
 |some k=>
  rw[e]at q;left;unfold HH;left;show Ψ4 pk _ (.inr y) k.tr ⟨rfl,rfl,h4,by rw[Cb,e];rfl,?_⟩;left;show Ψ8 a pk x k Ps re W ks ⟨rfl,(en.gk _ (Cg e)).2,en.gk,by lia,hs,AB .refl q⟩
@[reducible]def PR:Stmt:=top 57
def cO:Aq ["scope","statement","word","name","source","path","kind"] ["scope","statement"] (Ac PR):=nofun
def qu(F:cJ K "is_good_part" "is_good_part" PR f fd)(ay:pK K C)(aw:bF K C "kinds")(aE:DC P w K mg am C "knows" 1 ["self","name"] (HK C))(aP:DC P w K mg am C "may_make" 2 ["self","name","kind"] (KS C))(du:AY P w K mg am "kind_at" 4 ["kind","path"] ME):bc P w K mg am Am 5 f fd ["scope","statement"] (Ak (Ey C 2 m)):=by
 show B3 F cO (λts Γ Z Y h=>Fd h) (λcb A outer s H E ts Γ Z Y hr h=>?_);let⟨a,pk,s,Ps,re,W,ks,rfl,ew,so,hm,en,hs,q⟩:=h;show⟨_,(A3 (EK (qv 1) (Bn (n:=4) rfl (AS (Aj (i:=2) cO.nd) (AS (Aj (i:=3) cO.nd) (AS (Aj (i:=4) cO.nd) (AS (Aj (i:=5) cO.nd) Bu))))))
  (A3 (Ag (BL (BI (EN aE hr (by lia) (qv 0) (A0 (qv 4) A5)))) (A3 (AN BE)
  A8) A8)
  (A3 (As (i:=6) cO.nd (Af du hr (A0 (Fh (BA (BP (by decide:1≤64) _) hr.units) (Dy ay aw (qv 0)) (qv 4)) (A0 (qv 5) A5))))
  (A3 (AN (CV (Dh Us (qv 6) FP) (CU (EN aP hr (by lia) (qv 0) (A0 (qv 3) (A0 (qv 6) A5))))))
  A8)))),?_⟩
 simp only[Ap];let gM:=hs;obtain⟨⟨dx,pp,pw,h1,h2,h3,n1,n2⟩,h4⟩:=gM;let ln:=en.ln;let⟨x,y,p,rfl⟩:=rN ew;unfold Sm.Ok at so;unfold AE at q;rw[Sm.tr];let no:Z (.bl false) (AA Γ pk (.dK (Cv ks)))→EP Z (.bl false) Γ:=λq=>by rw[EV h4]at q;show AB .refl q
 left;show Ψ7 a pk y Ps re W ks ⟨rfl,hs,?_⟩;cases e:ks.lookup y with
 |none=>
  rw[e]at q;left;show no q
 |some k=>
  rw[e]at q;have q:Z (.bl (match DE k p with|some k=>DB W ks x k|none=>(false,ks)).1) (AA Γ pk (.dK (Cv (match DE k p with|some k=>DB W ks x k|none=>(false,ks)).2))):=q;left;unfold HH;left;show Ψ4 pk _ (.inr y) k.tr ⟨rfl,rfl,h4,by rw[Cb,e];rfl,?_⟩;left;show Ψ2 k p ⟨rfl,so.2.2.2,?_⟩;cases e2:DE k p with
  |none=>
   rw[e2]at q;left;show no q
  |some k'=>
   rw[e2]at q;let gk:=en.gk _ (Cg e);let ak:=MM gk.1 gk.2 e2;left;rw[show G1 (Ed (some k'))=false by let⟨ts,e⟩:=GQ k';show G1 k'.tr=_;rw[e];rfl];left;show Ψ8 a pk x k' Ps re W ks ⟨rfl,ak.2,en.gk,by lia,hs,AB .refl q⟩
@[reducible]def Mi:Stmt:=top 59
def dI:Aq ["scope","statement","word","target","path","name"] ["scope","statement"] (Ac Mi):=nofun
def yr(F:cJ K "is_good_put" "is_good_put" Mi f fd)(ay:pK K C)(aw:bF K C "kinds")(bW:AY P w K mg am "is_good_change" 2 ["scope","target","name"] (OJ C))(du:AY P w K mg am "kind_at" 4 ["kind","path"] ME):bc P w K mg am Am 5 f fd ["scope","statement"] (Ak (Ey C 3 m)):=by
 show B3 F dI (λts Γ Z Y h=>Fd h) (λcb A outer s H E ts Γ Z Y hr h=>?_);let⟨a,pk,s,Ps,re,W,ks,rfl,ew,so,hm,en,hs,q⟩:=h;show⟨_,(A3 (EK (qv 1) (Bn (n:=4) rfl (AS (Aj (i:=2) dI.nd) (AS (Aj (i:=3) dI.nd) (AS (Aj (i:=4) dI.nd) (AS (Aj (i:=5) dI.nd) Bu))))))
  (A3 (Ag (BL (BI (Af bW hr (A0 (qv 0) (A0 (qv 3) (A0 (qv 5) A5)))))) (A3 (AN BE)
  A8) A8)
  (A3 (AN (Dh (mz (d:=17) (BA (BP (by decide:1+17≤64) _) hr.units)) (Af du hr (A0 (Fh (BA (BP (by decide:1≤64) _) hr.units) (Dy ay aw (qv 0)) (qv 3)) (A0 (qv 4) A5))) (Fh (BA (BP (by decide:1≤64) _) hr.units) (Dy ay aw (qv 0)) (qv 5))))
  A8))),?_⟩
 simp only[Ap];let gM:=hs;obtain⟨⟨dx,pp,pw,h1,h2,h3,n1,n2⟩,h4⟩:=gM;let ln:=en.ln;let⟨y,p,x,rfl⟩:=zI ew;unfold Sm.Ok at so;unfold AE at q;rw[Sm.tr];let no:Z (.bl false) (AA Γ pk (.dK (Cv ks)))→EP Z (.bl false) Γ:=λq=>by rw[EV h4]at q;show AB .refl q
 left;show Ψ8 a pk y x Ps re W ks ⟨rfl,hs,?_⟩;unfold Q9;cases e:ks.lookup y with
 |none=>
  rw[e]at q;left;show no q
 |some ky=>
  cases e1:ks.lookup x with
  |none=>
   rw[e,e1]at q;left;show no q
  |some kx=>
   rw[e,e1]at q;have q:Z (.bl (!decide (W.lookup y=some "lend")&&(match DE ky p with|some k=>kq k kx|none=>false))) (AA Γ pk (.dK (Cv ks))):=q;rw[EV h4]at q;show⟨_,rfl,?_⟩;rw[show((some ky).isSome&&((some kx).isSome&&!decide (W.lookup y=some "lend")))=!decide (W.lookup y=some "lend")from rfl];cases e2:decide (W.lookup y=some "lend")with
   |true=>
    rw[e2]at q;left;show AB .refl q
   |false=>
    rw[e2]at q;have q:Z (.bl (match DE ky p with|some k=>kq k kx|none=>false)) Γ:=q;have gy:=en.gk _ (Cg e);have gx:=en.gk _ (Cg e1);left;unfold HH;left;show Ψ4 pk _ (.inr y) ky.tr ⟨rfl,rfl,h4,by rw[Cb,e];rfl,?_⟩;left;show Ψ2 ky p ⟨rfl,so.2.2.2,?_⟩;left;show Ψ4 pk _ (.inr x) kx.tr ⟨rfl,rfl,h4,by rw[Cb,e1];rfl,?_⟩;cases e3:DE ky p with
    |none=>
     rw[e3]at q;let⟨us,eu⟩:=GQ kx;show .inl ⟨rfl,⟨us,eu⟩,AB .refl q⟩
    |some k=>
     rw[e3]at q;let gk:=MM gy.1 gy.2 e3;show .inr ⟨JE (Es gk.2) (Es gx.2),AB .refl q⟩
@[reducible]def Pm:Stmt:=top 60
def dM:Aq ["scope","statement","word","target","path","name"] ["scope","statement"] (Ac Pm):=nofun
def yV(F:cJ K "is_good_add" "is_good_add" Pm f fd)(ay:pK K C)(aw:bF K C "kinds")(bW:AY P w K mg am "is_good_change" 2 ["scope","target","name"] (OJ C))(du:AY P w K mg am "kind_at" 4 ["kind","path"] ME):bc P w K mg am Am 5 f fd ["scope","statement"] (Ak (Ey C 4 m)):=by
 show B3 F dM (λts Γ Z Y h=>Fd h) (λcb A outer s H E ts Γ Z Y hr h=>?_);let⟨a,pk,s,Ps,re,W,ks,rfl,ew,so,hm,en,hs,q⟩:=h;show⟨_,(A3 (EK (qv 1) (Bn (n:=4) rfl (AS (Aj (i:=2) dM.nd) (AS (Aj (i:=3) dM.nd) (AS (Aj (i:=4) dM.nd) (AS (Aj (i:=5) dM.nd) Bu))))))
  (A3 (Ag (BL (BI (Af bW hr (A0 (qv 0) (A0 (qv 3) (A0 (qv 5) A5)))))) (A3 (AN BE)
  A8) A8)
  (A3 (AN (Dh (mz (d:=17) (BA (BP (by decide:1+17≤64) _) hr.units)) (Af du hr (A0 (Fh (BA (BP (by decide:1≤64) _) hr.units) (Dy ay aw (qv 0)) (qv 3)) (A0 (qv 4) A5))) (BM (A0 Al (A0 (Fh (BA (BP (by decide:1≤64) _) hr.units) (Dy ay aw (qv 0)) (qv 5)) A5)))))
  A8))),?_⟩
 simp only[Ap];let gM:=hs;obtain⟨⟨dx,pp,pw,h1,h2,h3,n1,n2⟩,h4⟩:=gM;let ln:=en.ln;let⟨y,p,x,rfl⟩:=qN ew;unfold Sm.Ok at so;unfold AE at q;rw[Sm.tr];let no:Z (.bl false) (AA Γ pk (.dK (Cv ks)))→EP Z (.bl false) Γ:=λq=>by rw[EV h4]at q;show AB .refl q
 left;show Ψ8 a pk y x Ps re W ks ⟨rfl,hs,?_⟩;unfold Q9;cases e:ks.lookup y with
 |none=>
  rw[e]at q;left;show no q
 |some ky=>
  cases e1:ks.lookup x with
  |none=>
   rw[e,e1]at q;left;show no q
  |some kx=>
   rw[e,e1]at q;have q:Z (.bl (!decide (W.lookup y=some "lend")&&(match DE ky p with|some k=>kq k (.row kx)|none=>false))) (AA Γ pk (.dK (Cv ks))):=q;rw[EV h4]at q;show⟨_,rfl,?_⟩;rw[show((some ky).isSome&&((some kx).isSome&&!decide (W.lookup y=some "lend")))=!decide (W.lookup y=some "lend")from rfl];cases e2:decide (W.lookup y=some "lend")with
   |true=>
    rw[e2]at q;left;show AB .refl q
   |false=>
    rw[e2]at q;have q:Z (.bl (match DE ky p with|some k=>kq k (.row kx)|none=>false)) Γ:=q;have gy:=en.gk _ (Cg e);have gx:=en.gk _ (Cg e1);left;unfold HH;left;show Ψ4 pk _ (.inr y) ky.tr ⟨rfl,rfl,h4,by rw[Cb,e];rfl,?_⟩;left;show Ψ2 ky p ⟨rfl,so.2.2.2,?_⟩;left;show Ψ4 pk _ (.inr x) kx.tr ⟨rfl,rfl,h4,by rw[Cb,e1];rfl,?_⟩;left;rw[show T.tup [.str "row",kx.tr]=(Kd.row kx).tr by rw[Kd.tr]];cases e3:DE ky p with
    |none=>
     rw[e3]at q;let⟨us,eu⟩:=GQ (.row kx);show .inl ⟨rfl,⟨us,eu⟩,AB .refl q⟩
    |some k=>
     rw[e3]at q;let gk:=MM gy.1 gy.2 e3;show .inr ⟨JE (Es gk.2) (by rw[Kd.depth];have:kx.depth≤5:=gx.2;lia),AB .refl q⟩
@[reducible]def N9:Stmt:=top 62
def acL:Aq ["scope","statement"] ["scope","statement"] (Ac N9):=nofun
def vV(F:cJ K "is_good_drop" "is_good_drop" N9 f fd)(aE:DC P w K mg am C "knows" 1 ["self","name"] (HK C))(bS:DC P w K mg am C "is_own" 1 ["self","name"] (LQ C)):bc P w K mg am Am 5 f fd ["scope","statement"] (Ak (Ey C 5 m)):=by
 show B3 F acL (λts Γ Z Y h=>Fd h) (λcb A outer s H E ts Γ Z Y hr h=>?_);let⟨a,pk,s,Ps,re,W,ks,rfl,ew,so,hm,en,hs,q⟩:=h;show⟨_,(A3 (AN (CV (EN aE hr (by lia) (qv 0) (A0 (AO (qv 1) A9) A5)) (CU (EN bS hr (by lia) (qv 0) (A0 (AO (qv 1) A9) A5)))))
  A8),?_⟩
 simp only[Ap];let gM:=hs;obtain⟨⟨dx,pp,pw,h1,h2,h3,n1,n2⟩,h4⟩:=gM;let ln:=en.ln;let⟨x,rfl⟩:=pv ew;unfold Sm.Ok at so;unfold AE at q;rw[Sm.tr];rw[EV h4]at q;left;show Ψ7 a pk x Ps re W ks ⟨rfl,hs,?_⟩;exists c
 ·rw[c,Bd]at q
  left;show Ψ7 a pk x Ps re W ks ⟨rfl,hs,AB .refl q⟩
 ·rw[c]at q
  show AB .refl q
@[reducible]def Oq:Stmt:=top 63
def acF:Aq ["scope","statement"] ["scope","statement"] (Ac Oq):=nofun
def tP(F:cJ K "is_good_say" "is_good_say" Oq f fd)(aE:DC P w K mg am C "knows" 1 ["self","name"] (HK C)):bc P w K mg am Am 5 f fd ["scope","statement"] (Ak (Ey C 6 m)):=by
 show B3 F acF (λts Γ Z Y h=>Fd h) (λcb A outer s H E ts Γ Z Y hr h=>?_);let⟨a,pk,s,Ps,re,W,ks,rfl,ew,so,hm,en,hs,q⟩:=h;show⟨_,(A3 (AN (EN aE hr (by lia) (qv 0) (A0 (AO (qv 1) A9) A5)))
  A8),?_⟩
 simp only[Ap];let gM:=hs;obtain⟨⟨dx,pp,pw,h1,h2,h3,n1,n2⟩,h4⟩:=gM;let ln:=en.ln;let⟨x,rfl⟩:=w9 ew;unfold Sm.Ok at so;unfold AE at q;rw[Sm.tr];rw[EV h4]at q;left;show Ψ7 a pk x Ps re W ks ⟨rfl,hs,AB .refl q⟩
@[reducible]def PX:Stmt:=top 64
def cp:Aq ["scope","statement","word","target","door","names","places","result"] ["scope","statement"] (Ac PX):=nofun
def yx(F:cJ K "is_good_call" "is_good_call" PX f fd)(ay:pK K C)(bJ:bF K C "papers")(d0:DC P w K mg am C "may_hand" 2 ["self","name","place"] (UN C))(aP:DC P w K mg am C "may_make" 2 ["self","name","kind"] (KS C))(aB:mg "len" = none)(bp:mg "all" = none)(fS:mg "zip" = none):bc P w K mg am Am 5 f fd ["scope","statement"] (Ak (Ey C 7 m)):=by
 show B3 F cp (λts Γ Z Y h=>Fd h) (λcb A outer s H E ts Γ Z Y hr h=>?_);let⟨a,pk,s,Ps,re,W,ks,rfl,ew,so,hm,en,hs,q⟩:=h;show⟨_,(A3 (EK (qv 1) (Bn (n:=4) rfl (AS (Aj (i:=2) cp.nd) (AS (Aj (i:=3) cp.nd) (AS (Aj (i:=4) cp.nd) (AS (Aj (i:=5) cp.nd) Bu))))))
  (A3 (Ag (L0 (eZ (BA (BP (by decide:1≤64) _) hr.units)) (qv 4) (Dy ay bJ (qv 0)) (by with_unfolding_all rfl)) (A3 (AN BE)
  A8) A8)
  (A3 (EK (FT Zh (Fh (BA (BP (by decide:1≤64) _) hr.units) (Dy ay bJ (qv 0)) (qv 4)) (Ee A9) HM) (Bn (n:=2) rfl (AS (Aj (i:=6) cp.nd) (AS (Aj (i:=7) cp.nd) Bu))))
  (A3 (Ag (B2 E3 (Ar Bw rfl aB BC (A0 (qv 5) A5)) (Ar Bw rfl aB BC (A0 (qv 6) A5))) (A3 (AN BE)
  A8) A8)
  (A3 (Ag (BL (BI (Ar (FH rfl) rfl bp FD (A0 (EC (own:=["handed","place"]) (cap:=[(0,"scope")]) (Fj rfl (by done) (by done) rfl (⟨rfl,trivial⟩) rfl (⟨⟨rfl,rfl,rfl⟩,trivial⟩)) rfl (i8 rfl fS (A0 (qv 5) (A0 (qv 6) A5))) (λ_ _ _ _=>(Bn (n:=2) rfl (AS (Bb (i:=0) (show List.Nodup (["handed","place","scope"]:List Str)from by done) rfl (Or.inl rfl) (Or.inr rfl)) (AS (Bb (i:=1) (show List.Nodup (["handed","place","scope"]:List Str)from by done) rfl (Or.inl rfl) (Or.inr rfl)) Bu)))) (λ_ _ _ _=>Dv) (λ_ _ _ _=>(EN d0 hr (by lia) (qv 2) (A0 (qv 0) (A0 (qv 1) A5))))) A5)))) (A3 (AN BE)
  A8) A8)
  (A3 (AN (MP (Dh M6 (qv 3) FP) (CU (CV (Dh Us (qv 7) FP) (CU (EN aP hr (by lia) (qv 0) (A0 (qv 3) (A0 (qv 7) A5))))))))
  A8)))))),?_⟩
 simp only[Ap];let gM:=hs;obtain⟨⟨dx,pp,pw,h1,h2,h3,n1,n2⟩,h4⟩:=gM;let ln:=en.ln;let⟨z,d,ns,rfl⟩:=aao ew;unfold Sm.Ok at so;unfold AE at q;rw[Sm.tr];let no:Z (.bl false) (AA Γ pk (.dK (Cv ks)))→EP Z (.bl false) Γ:=λq=>by rw[EV h4]at q;show AB .refl q
 left;show Ψ3 pp _ (.inr d) ⟨rfl,rfl,h2,?_⟩;rw[Cb,Fc];cases e:Ps.lookup d with
 |none=>
  rw[e]at q;left;show no q
 |some pr=>
 rw[e]at q;let po:pr.Ok:=en.ps _ (Cg e);let pl:=po.ln;left;unfold HH;left;show Ψ4 pp _ (.inr d) pr.tr ⟨rfl,rfl,h2,by rw[Cb,e];rfl,?_⟩;unfold Pr.tr;left;rw[Mr (by decide),show List.drop (Int.toNat 2) [T.str pr.nm,T.int pr.sd,T.tup (pr.ps.map Er),Ed pr.re]=[T.tup (pr.ps.map Er),Ed pr.re]from rfl];left;rw[AM,AM];show AU (λc=>?_) (λc=>?_)
 ·let c:ns.length≠pr.ps.length:=λe=>by rw[e]at c;simp at c
  dsimp only at q;rw[AP (by rw[DN c];show Bs)]at q;left;show no q
 let c:ns.length=pr.ps.length:=by
  have:decide (V.int (ns.length:Int)=V.int (pr.ps.length:Nat))=true:=by simpa using c
  have:=Ky this;lia
 dsimp only at q;rw[Bi c,Bd]at q;left;show⟨Cn (Cr (by rw[JD,AM,AM];lia)),?_⟩;show⟨λv4 τ ys Γ'=>∃(ms:List Str) (qs:List (Str×Str×Kd)) (bs:List Bool) (o1 o2:Option T),v4=EZ (ms.map T.str) (qs.map Er)∧ms.length=qs.length∧(∀q∈qs,q∈pr.ps)∧τ=[o1,o2,some (.ref a)]∧ys=bs.map T.bl∧((ns.zip pr.ps).all λq=>Ke W ks q.1 q.2)=(bs.all id&&(ms.zip qs).all λq=>Ke W ks q.1 q.2)∧Γ'=Γ,Ψ5 ns pr.ps [] none none ⟨rfl,c,λ_ h=>h,rfl,rfl,by simp,rfl⟩,?_,?_⟩;rotate_left
 ·intro x r τ ys Γ'⟨ms,qs,bs,o1,o2,er,el,hq,rfl,rfl,eb,rfl⟩
  cases ms with
  |nil=>cases er
  |cons m0 ms=>
   cases qs with
   |nil=>cases el
   |cons q0 qs=>
    cases er;show⟨trivial,?_⟩;left;show Ψ8 a pk m0 q0 Ps re W ks ⟨rfl,(po.pl q0 (hq q0 (by simp))).2.2.2,en.gk,en.gw,hs,?_⟩;show Ψ5 ms qs (bs++[Ke W ks m0 q0]) _ _ ⟨rfl,by simpa using el,λq h=>hq q (DT _ h),rfl,by simp,?_,rfl⟩;rw[eb,List.zip_cons_cons,NO,NJ];simp[Kh]
 intro τ ys Γ'⟨ms,qs,bs,o1,o2,er,el,hq,rfl,rfl,eb,rfl⟩;let hz:ms=[]:=by
  cases ms with
  |nil=>rfl
  |cons m0 ms=>
   cases qs with
   |nil=>cases el
   |cons q0 qs=>cases er
 subst hz;rw[List.zip_nil_left,List.all_nil,Gp]at eb;rw[eb]at q;show⟨trivial,?_⟩;clear p1 ki e1 Γ1 g1 l1
 let XN:Z (.bl false) (AA Γ' pk (.dK (Cv ks)))→EP Z (.bl false) Γ1:=λq=>by rw[EV h4]at q;show AB l1 q
 let RP:=hs.mono l1;let h11:=l1 _ _ h1;left;show Ψ2 p1 bs ⟨rfl,Bx g1,?_⟩;exists c
 ·rw[AP (by simpa using c)]at q
  left;show XN q
 rw[Ab (by simpa using c)]at q;let ZF:∀VB:List (Str×Kd),Le (AA Γ' pk (.dK (Cv VB))) (AA Γ1 pk (.dK (Cv VB))):=λVB b u h=>by
  by_cases eb:b=pk
  ·subst eb;rw[Ae]at h ⊢;show h
  ·rw[AZ eb]at h ⊢;show l1 _ _ h
 cases z with
 |none=>
  left;rw[EV h4]at q;show AB l1 q
 |some z0=>
  left;cases K1:pr.re with
  |none=>
   rw[K1]at q;left;show XN q
  |some k=>
   rw[K1]at q;left;rw[show G1 (Ed (some k))=false by let⟨ts,e⟩:=GQ k;show G1 k.tr=_;rw[e];rfl];left;show Ψ8 a pk z0 k Ps re W ks ⟨rfl,(po.re k K1).2,en.gk,by lia,RP,AB (ZF _) q⟩
abbrev Lk(C:Addr)(m:Nat):Av:=λts Γ Z _=>∃(a pk:Addr) (ss:List Sm) (Ps:List (Str×Pr)) (re:Option Kd) (W:List (Str×Str)) (ks:ad),ts=[.ref a,.tup (BG ss)]∧Bc ss∧Fw ss<m∧En Ps re W ks (B7 ss)∧Sc C Γ a Ps re W ks pk∧
 Z (.bl (Ba Ps re W ss ks).1) (AA Γ pk (.dK (Cv (Ba Ps re W ss ks).2)))
@[reducible]def Ox:Stmt:=top 65
def cN:Aq ["scope","statement","word","one","other","first","second"] ["scope","statement"] (Ac Ox):=nofun
def tf(F:cJ K "is_good_same" "is_good_same" Ox f fd)(ay:pK K C)(aw:bF K C "kinds")(aE:DC P w K mg am C "knows" 1 ["self","name"] (HK C))(cH:AY P w K mg am "is_good_body" (lv+4) ["scope","body"] (Lk C m)):bc P w K mg am Am (lv+5) f fd ["scope","statement"] (Ak (Ey C 8 (m+1))):=by
 show B3 F cN (λts Γ Z Y h=>Fd h) (λcb A outer s H E ts Γ Z Y hr h=>?_);let⟨a,pk,s,Ps,re,W,ks,rfl,ew,so,hm,en,hs,q⟩:=h;show⟨_,(A3 (EK (qv 1) (Bn (n:=5) rfl (AS (Aj (i:=2) cN.nd) (AS (Aj (i:=3) cN.nd) (AS (Aj (i:=4) cN.nd) (AS (Aj (i:=5) cN.nd) (AS (Aj (i:=6) cN.nd) Bu)))))))
  (A3 (Ag (PW.pt (CQ (BL (BI (EN aE hr (by lia) (qv 0) (A0 (qv 3) A5)))) (CQ (BL (BI (EN aE hr (by lia) (qv 0) (A0 (qv 4) A5)))) (D3 (B2 (VM (d:=17) (BA (BP (by decide:1+17≤64) _) hr.units)) (Fh (BA (BP (by decide:1≤64) _) hr.units) (Dy ay aw (qv 0)) (qv 3)) (Fh (BA (BP (by decide:1≤64) _) hr.units) (Dy ay aw (qv 0)) (qv 4))))))) (A3 (AN BE)
  A8) A8)
  (A3 (AN (CV (Af cH hr (A0 (qv 0) (A0 (qv 5) A5))) (CU (Af cH hr (A0 (qv 0) (A0 (qv 6) A5))))))
  A8))),?_⟩
 simp only[Ap];let gM:=hs;obtain⟨⟨dx,pp,pw,h1,h2,h3,n1,n2⟩,h4⟩:=gM;let ln:=en.ln;let⟨x,y,b1,b2,rfl⟩:=aby ew;unfold Sm.Ok at so;unfold AE at q;rw[Sm.tr];let no:Z (.bl false) (AA Γ pk (.dK (Cv ks)))→EP Z (.bl false) Γ:=λq=>by rw[EV h4]at q;show AB .refl q
 unfold Sm.ht at hm;unfold Sm.sz at en ln;left;show Ψ7 a pk x Ps re W ks ⟨rfl,hs,?_⟩;cases e:ks.lookup x with
 |none=>
  rw[e]at q;left;show no q
 |some kx=>
  left;show Ψ7 a pk y Ps re W ks ⟨rfl,hs,?_⟩;cases e1:ks.lookup y with
  |none=>
   rw[e,e1]at q;left;show no q
  |some ky=>
  rw[e,e1]at q;let q:Z (.bl (if kq kx ky=true then(if(Ba Ps re W b1 ks).1=true then Ba Ps re W b2 (Ba Ps re W b1 ks).2 else(false,(Ba Ps re W b1 ks).2))else(false,ks)).1) (AA Γ pk (.dK (Cv (if kq kx ky=true then(if(Ba Ps re W b1 ks).1=true then Ba Ps re W b2 (Ba Ps re W b1 ks).2 else(false,(Ba Ps re W b1 ks).2))else(false,ks)).2))):=q;left;unfold HH;left;show Ψ4 pk _ (.inr x) kx.tr ⟨rfl,rfl,h4,by rw[Cb,e];rfl,?_⟩;left;show Ψ4 pk _ (.inr y) ky.tr ⟨rfl,rfl,h4,by rw[Cb,e1];rfl,?_⟩;let tw:=JE (Es (en.gk _ (Cg e)).2) (Es (en.gk _ (Cg e1)).2);let neg:kq kx ky=Bj kx.tr ky.tr:=rfl;let⟨ts,et⟩:=GQ kx;let⟨us,eu⟩:=GQ ky;rw[neg]at q;rw[et,eu]at tw q ⊢;cases tw with
  |tup t1 t2=>
  show Ψ2 ts us ⟨rfl,rfl,t1,t2,?_⟩;exists c
  ·rw[AP (by simpa using c)]at q
   left;show no q
  rw[Ab (by simpa using c)]at q;left;show Ψ7 a pk b1 Ps re W ks ⟨rfl,so.2.2.2.2.1,by lia,en.le (by lia),hs,?_⟩;let RP:=hs.set (Ba Ps re W b1 ks).2;exists c
  ·rw[Ab c]at q
   left;show Ψ7 a pk b2 Ps re W _ ⟨rfl,so.2.2.2.2.2,by lia,(show En Ps re W ks (B7 b1+B7 b2)from en.le (by lia)).Kc so.2.2.2.2.1,RP,?_⟩;rw[Mq];show AB .refl q
  ·rw[AP (by rw[c];show Bs)]at q
   show AB .refl q
@[reducible]def Nt:Stmt:=top 66
def aaW:Aq ["scope","statement"] ["scope","statement"] (Ac Nt):=nofun
def wK(F:cJ K "is_good_fail" "is_good_fail" Nt f fd): bc P w K mg am Am 5 f fd ["scope","statement"] (Ak (Ey C 9 m)):=by
 show B3 F aaW (λts Γ Z Y h=>Fd h) (λcb A outer s H E ts Γ Z Y hr h=>?_);let⟨a,pk,s,Ps,re,W,ks,rfl,ew,so,hm,en,hs,q⟩:=h;show⟨_,(A3 (AN BE)
  A8),?_⟩
 simp only[Ap];let gM:=hs;obtain⟨⟨dx,pp,pw,h1,h2,h3,n1,n2⟩,h4⟩:=gM;let ln:=en.ln;let⟨n0,rfl⟩:=qx ew;unfold Sm.Ok at so;unfold AE at q;rw[Sm.tr];rw[EV h4]at q;left;show AB .refl q
@[reducible]def Ot:Stmt:=top 67
def fw:Aq ["scope","statement","word","first","second"] ["scope","statement"] (Ac Ot):=nofun
def t6(F:cJ K "is_good_try" "is_good_try" Ot f fd)(cH:AY P w K mg am "is_good_body" (lv+4) ["scope","body"] (Lk C m)):bc P w K mg am Am (lv+5) f fd ["scope","statement"] (Ak (Ey C 10 (m+1))):=by
 show B3 F fw (λts Γ Z Y h=>Fd h) (λcb A outer s H E ts Γ Z Y hr h=>?_);let⟨a,pk,s,Ps,re,W,ks,rfl,ew,so,hm,en,hs,q⟩:=h;show⟨_,(A3 (EK (qv 1) (Bn (n:=3) rfl (AS (Aj (i:=2) fw.nd) (AS (Aj (i:=3) fw.nd) (AS (Aj (i:=4) fw.nd) Bu)))))
  (A3 (AN (CV (Af cH hr (A0 (qv 0) (A0 (qv 3) A5))) (CU (Af cH hr (A0 (qv 0) (A0 (qv 4) A5))))))
  A8)),?_⟩
 simp only[Ap];let gM:=hs;obtain⟨⟨dx,pp,pw,h1,h2,h3,n1,n2⟩,h4⟩:=gM;let ln:=en.ln;let⟨b1,b2,rfl⟩:=xV ew;unfold Sm.Ok at so;unfold AE at q;rw[Sm.tr];unfold Sm.ht at hm;unfold Sm.sz at en ln;left;show Ψ7 a pk b1 Ps re W ks ⟨rfl,so.2.2.1,by lia,en.le (by lia),hs,?_⟩;let RP:=hs.set (Ba Ps re W b1 ks).2;exists c
 ·rw[Ab c]at q
  left;show Ψ7 a pk b2 Ps re W _ ⟨rfl,so.2.2.2,by lia,(show En Ps re W ks (B7 b1+B7 b2)from en.le (by lia)).Kc so.2.2.1,RP,?_⟩;rw[Mq];show AB .refl q
 ·rw[AP (by rw[c];show Bs)]at q
  show AB .refl q
@[reducible]def Nw:Stmt:=top 68
def j0:Aq ["scope","statement","name"] ["scope","statement"] (Ac Nw):=nofun
def ada(F:cJ K "is_good_back" "is_good_back" Nw f fd)(ay:pK K C)(aw:bF K C "kinds")(bI:bF K C "result")(aE:DC P w K mg am C "knows" 1 ["self","name"] (HK C))(bS:DC P w K mg am C "is_own" 1 ["self","name"] (LQ C)):bc P w K mg am Am 5 f fd ["scope","statement"] (Ak (Ey C 11 m)):=by
 show B3 F j0 (λts Γ Z Y h=>Fd h) (λcb A outer s H E ts Γ Z Y hr h=>?_);let⟨a,pk,s,Ps,re,W,ks,rfl,ew,so,hm,en,hs,q⟩:=h;show⟨_,(A3 (As (i:=2) j0.nd (AO (qv 1) A9))
  (A3 (Ag (PW.pt (CQ (BL (BI (EN aE hr (by lia) (qv 0) (A0 (qv 2) A5)))) (D3 (BL (BI (EN bS hr (by lia) (qv 0) (A0 (qv 2) A5))))))) (A3 (AN BE)
  A8) A8)
  (A3 (AN (CV (Dh Us (Dy ay bI (qv 0)) FP) (CU (Dh (aI (d:=17) (BA (BP (by decide:1+17≤64) _) hr.units)) (Fh (BA (BP (by decide:1≤64) _) hr.units) (Dy ay aw (qv 0)) (qv 2)) (Dy ay bI (qv 0))))))
  A8))),?_⟩
 simp only[Ap];let gM:=hs;obtain⟨⟨dx,pp,pw,h1,h2,h3,n1,n2⟩,h4⟩:=gM;let ln:=en.ln;let⟨x,rfl⟩:=yN ew;unfold Sm.Ok at so;unfold AE at q;rw[Sm.tr];let no:Z (.bl false) (AA Γ pk (.dK (Cv ks)))→EP Z (.bl false) Γ:=λq=>by rw[EV h4]at q;show AB .refl q
 rw[EV h4]at q;left;show Ψ7 a pk x Ps re W ks ⟨rfl,hs,?_⟩;cases e:ks.lookup x with
 |none=>
  rw[e]at q;left;show AB .refl q
 |some k=>
  rw[e]at q;left;show Ψ7 a pk x Ps re W ks ⟨rfl,hs,?_⟩;exists c
  ·left
   cases re with
   |none=>show AB .refl q
   |some r=>
    let q:Z (.bl (Gd W x&&kq k r)) Γ:=q;rw[show Gd W x=false by simpa using c]at q;show AB .refl q
  let c:Gd W x=true:=by simpa using c
  cases re with
  |none=>
   left;show AB .refl q
  |some r=>
   let q:Z (.bl (Gd W x&&kq k r)) Γ:=q;rw[c,Bd]at q;left;rw[show G1 (Ed (some r))=false by let⟨ts,e⟩:=GQ r;show G1 r.tr=_;rw[e];rfl];left;unfold HH;left;show Ψ4 pk _ (.inr x) k.tr ⟨rfl,rfl,h4,by rw[Cb,e];rfl,?_⟩;left;show⟨JE (Es (en.gk _ (Cg e)).2) (Es (en.re r rfl).2),AB .refl q⟩
end
section
variable {K: W.Frag}
@[reducible]def Om:Stmt:=top 54
def gY:Aq ["scope","body","statement","rule"] ["scope","body"] (Ac Om):=nofun
def ql(F:cJ K "is_good_body" "is_good_body" Om f fd)(lW:mg "RULES" = some (.ref Pd))(Wj:∀s:Sm,∃aq b,Br P w K Pd aq∧aq.lookup s.word=some b∧Ww P w K mg am b (lv+3) ["scope","statement"] (Ey C s.tag (m+1))):bc P w K mg am Am (lv+4) f fd ["scope","body"] (Ak (Lk C (m+1))):=by
 show B3 F gY (λts Γ Z Y h=>?_) (λcb A outer s H E ts Γ Z Y hr h=>?_)
 ·let⟨_,_,_,_,_,_,_,rfl,_⟩:=h
  rfl
 let⟨a,pk,ss,Ps,re,W,ks,rfl,so,hm,en,hs,q⟩:=h;show⟨_,(A3 (Fo GJ rfl (E4 (qv 1)) (Aj (i:=2) gY.nd) (A3 (As (i:=3) gY.nd (WO (ED rfl lW M0) (AO (qv 2) A9)))
  (A3 (Ag (BL (BI (qm 3 (lv+3) ["scope","statement"] hr (by lia) (A0 (qv 0) (A0 (qv 2) A5))))) (A3 (AN BE)
  A8) A8)
  A8)))
  (A3 (AN BE)
  A8)),?_⟩
 simp only[Ap];left;show⟨λv4 τ Γ'=>∃(rs:List Sm) (ls:ad) (o2 o3:Option T),v4=BG rs∧Bc rs∧Fw rs<m+1∧En Ps re W ls (B7 rs)∧Sc C Γ' a Ps re W ls pk∧Kq [pk] Γ Γ'∧Ba Ps re W ss ks=Ba Ps re W rs ls∧τ=[some (.ref a),some (.tup (BG ss)),o2,o3],Ψ4 ss ks none none ⟨rfl,so,hm,en,hs,.refl,rfl,rfl⟩,?_,?_⟩
 ·intro τ Γ'⟨rs,ls,o2,o3,er,ro,rh,TB,Tw,kq,eg,rfl⟩
  let hz:rs=[]:=by
   cases rs with
   |nil=>rfl
   |cons p r=>rw[BG]at er;cases er
  subst hz;rw[eg]at q;unfold Ba at q;show⟨trivial,?_⟩;left;show iA kq Tw.kk q
 ·intro x r τ Γ'⟨rs,ls,o2,o3,er,ro,rh,TB,Tw,kq,eg,rfl⟩
  cases rs with
  |nil=>rw[BG]at er;cases er
  |cons s0 rs=>
   rw[BG]at er;cases er;unfold Bc at ro;unfold Fw at rh;unfold B7 at TB;let⟨aq,b,kd,lk,fc⟩:=Wj s0;let tp:=s0.JC;left;unfold Sk;rw[tp];left;show Ψ4 Pd aq s0.word b ⟨rfl,kd,rfl,lk,?_⟩;left;unfold dZ;show Ψ2 b (Ey C s0.tag (m+1)) ⟨rfl,fc,?_⟩;rw[←tp];left;show Ψ7 a pk s0 Ps re W ls ⟨rfl,rfl,ro.1,by lia,TB.le (by lia),Tw,?_⟩;let Z5:=Tw.set (AE Ps re W s0 ls).2;let X1:Kq [pk] Γ (AA Γ' pk (.dK (Cv (AE Ps re W s0 ls).2))):=kq.trans (Kq.set (by simp) _);exists c
   ·let c:(AE Ps re W s0 ls).1=false:=by simpa using c
    rw[eg]at q;unfold Ba at q;rw[AP (by rw[c];show Bs)]at q;left;show iA X1 Ae q
   ·let c:(AE Ps re W s0 ls).1=true:=by simpa using c
    left;show Ψ4 rs _ _ _ ⟨rfl,ro.2,by lia,TB.step ro.1,Z5,X1,?_,rfl⟩;rw[eg,Ba,Ab c]
end
section
variable {K: W.Frag}{f0 f1 f2 f3 f4 f5 f6 f7 f8 f9 O9 O8: Addr}{WI zw zu WH WG WE WD WC WB WA Oc Ob: FuncData}
def jd(F:cJ K "is_good_body" "is_good_body" Om f fd)(m:mg "is_good_body" = some (.ref f))(kp:W.keepIn K (.ref f)=true)(b:Binds K fd ["scope","body"] [])(mL:cJ K "is_good_new" "is_good_new" OI f0 WI)(lp:W.keepIn K (.ref f0)=true)(mE:Binds K WI ["scope","statement"] [])(lP:cJ K "is_good_copy" "is_good_copy" Mh f1 zw)(kb:W.keepIn K (.ref f1)=true)(lF:Binds K zw ["scope","statement"] [])(lM:cJ K "is_good_part" "is_good_part" PR f2 zu)(j7:W.keepIn K (.ref f2)=true)(lC:Binds K zu ["scope","statement"] [])(mK:cJ K "is_good_put" "is_good_put" Mi f3 WH)(lj:W.keepIn K (.ref f3)=true)(mD:Binds K WH ["scope","statement"] [])(mM:cJ K "is_good_add" "is_good_add" Pm f4 WG)(lq:W.keepIn K (.ref f4)=true)(mF:Binds K WG ["scope","statement"] [])(lO:cJ K "is_good_drop" "is_good_drop" N9 f5 WE)(ka:W.keepIn K (.ref f5)=true)(lE:Binds K WE ["scope","statement"] [])(mJ:cJ K "is_good_say" "is_good_say" Oq f6 WD)(lh:W.keepIn K (.ref f6)=true)(mC:Binds K WD ["scope","statement"] [])(lQ:cJ K "is_good_call" "is_good_call" PX f7 WC)(kc:W.keepIn K (.ref f7)=true)(lG:Binds K WC ["scope","statement"] [])(lL:cJ K "is_good_same" "is_good_same" Ox f8 WB)(j6:W.keepIn K (.ref f8)=true)(lB:Binds K WB ["scope","statement"] [])(lN:cJ K "is_good_fail" "is_good_fail" Nt f9 WA)(j9:W.keepIn K (.ref f9)=true)(lD:Binds K WA ["scope","statement"] [])(mI:cJ K "is_good_try" "is_good_try" Ot O9 Oc)(lg:W.keepIn K (.ref O9)=true)(mB:Binds K Oc ["scope","statement"] [])(lR:cJ K "is_good_back" "is_good_back" Nw O8 Ob)(ke:W.keepIn K (.ref O8)=true)(lH:Binds K Ob ["scope","statement"] [])(k_RULES:Br P w K Pd [("new",f0),("copy",f1),("part",f2),("put",f3),("add",f4),("drop",f5),("say",f6),("call",f7),("same",f8),("fail",f9),("try",O9),("back",O8)])(lW:mg "RULES" = some (.ref Pd))(ay:pK K C)(aw:bF K C "kinds")(bJ:bF K C "papers")(bI:bF K C "result")(aE:DC P w K mg am C "knows" 1 ["self","name"] (HK C))(bS:DC P w K mg am C "is_own" 1 ["self","name"] (LQ C))(aP:DC P w K mg am C "may_make" 2 ["self","name","kind"] (KS C))(d0:DC P w K mg am C "may_hand" 2 ["self","name","place"] (UN C))(du:AY P w K mg am "kind_at" 4 ["kind","path"] ME)(bW:AY P w K mg am "is_good_change" 2 ["scope","target","name"] (OJ C))(aB:mg "len" = none)(bp:mg "all" = none)(fS:mg "zip" = none):
  ∀n:Nat,AY P w K mg am "is_good_body" (2*n+4) ["scope","body"] (Lk C n)
 |0=>Ψ2 f fd ⟨NH λts Γ Z Y h=>by obtain⟨_,_,_,_,_,_,_,_,_,h,_⟩:=h;lia,m,kp,b⟩
 |n+1=>by
  let c:=jd F m kp b mL lp mE lP kb lF lM j7 lC mK lj mD mM lq mF lO ka lE mJ lh mC lQ kc lG lL j6 lB lN j9 lD mI lg mB lR ke lH k_RULES lW ay aw bJ bI aE bS aP d0 du bW aB bp fS n;show Ψ2 f fd ⟨?_,m,kp,b⟩;rw[show 2*(n+1)+4=(2*n+2)+4 by lia];show ql F lW λs=>?_;cases s with
  |new x k v=>show Ψ2 _ f0 ⟨k_RULES,rfl,WI,(uf mL aP).mono (by lia),lp,mE⟩
  |copy x y=>show Ψ2 _ f1 ⟨k_RULES,rfl,zw,(rZ lP ay aw aE aP).mono (by lia),kb,lF⟩
  |part x y p=>show Ψ2 _ f2 ⟨k_RULES,rfl,zu,(qu lM ay aw aE aP du).mono (by lia),j7,lC⟩
  |put y p x=>show Ψ2 _ f3 ⟨k_RULES,rfl,WH,(yr mK ay aw bW du).mono (by lia),lj,mD⟩
  |add y p x=>show Ψ2 _ f4 ⟨k_RULES,rfl,WG,(yV mM ay aw bW du).mono (by lia),lq,mF⟩
  |drop x=>show Ψ2 _ f5 ⟨k_RULES,rfl,WE,(vV lO aE bS).mono (by lia),ka,lE⟩
  |say x=>show Ψ2 _ f6 ⟨k_RULES,rfl,WD,(tP mJ aE).mono (by lia),lh,mC⟩
  |call z d ns=>show Ψ2 _ f7 ⟨k_RULES,rfl,WC,(yx lQ ay bJ d0 aP aB bp fS).mono (by lia),kc,lG⟩
  |same x y b1 b2=>show Ψ2 _ f8 ⟨k_RULES,rfl,WB,(tf lL ay aw aE c).mono (by lia),j6,lB⟩
  |fail n0=>show Ψ2 _ f9 ⟨k_RULES,rfl,WA,(wK lN).mono (by lia),j9,lD⟩
  |tri b1 b2=>show Ψ2 _ O9 ⟨k_RULES,rfl,Oc,(t6 mI c).mono (by lia),lg,mB⟩
  |back x=>show Ψ2 _ O8 ⟨k_RULES,rfl,Ob,(ada lR ay aw bI aE bS).mono (by lia),ke,lH⟩
end
abbrev Du(hs:List Sh)(sd:Int):ad:=(hs.filter λh=>decide (h.sd=sd)).map λh=>(h.nm,h.k)
noncomputable def Kz(Ps:List (Str×Pr))(hs:List Sh)(p:Pr)(b:List Sm):Bool:=!(p.ps.any λq=>((Du hs p.sd).lookup q.1).isSome)&&(Ba Ps p.re (p.ps.map λq=>(q.1,q.2.1)) b (Du hs p.sd++p.ps.map λq=>(q.1,q.2.2))).1
def ve{hs:List Sh}{sd:Int}(h:∀s∈hs,s.Ok):Ga (Du hs sd):=λp m=>by
 let⟨s,hm,rfl⟩:=aam.mp m;show(h s (abw.mp hm).1).k
def t4(hs:List Sh)(sd:Int):(Du hs sd).length≤hs.length:=by
 unfold Du;rw[AM];show U8 _ _
section
variable {K: W.Frag}
@[reducible]def Td:Stmt:=top 52
def jZ:Aq ["papers","shelves","paper","body","around"] ["papers","shelves","paper","body"] (Ac Td):=nofun
abbrev gi(C:Addr):Av:=λts Γ Z _=>∃(pp:Addr) (hs:List Sh) (p:Pr) (b:List Sm) (Ps:List (Str×Pr)),ts=[.ref pp,.tup (hs.map Sh.tr),p.tr,.tup (BG b)]∧Γ pp=some (.dK (Ki Ps))∧(∀s∈hs,s.Ok)∧(hs.map λs=>(s.nm,s.sd)).Nodup∧hs.length≤900∧p.Ok∧(∀p∈Ps,p.2.Ok)∧Bc b∧Fw b<5∧B7 b≤90000∧Z (.bl (Kz Ps hs p b)) Γ
def zE(F:cJ K "is_good_door" "is_good_door" Td f fd)(vq:mg "Scope" = some (.ref C))(Jd:Uz P w K mg am C 1 ["self","papers","paper","around"] (gP C))(cH:AY P w K mg am "is_good_body" 14 ["scope","body"] (Lk C 5))(nh:mg "any" = none):bc P w K mg am Am 15 f fd ["papers","shelves","paper","body"] (Ak (gi C)):=by
 show B3 F jZ (λts Γ Z Y h=>?_) (λcb A outer s H E ts Γ Z Y hr h=>?_)
 ·let⟨_,_,_,_,_,rfl,_⟩:=h
  rfl
 obtain⟨pp,hs,p,b,Ps,rfl,gp,ho,nd,hl,po,pso,bo,bh,bz,q⟩:=h;show⟨_,(A3 (As (i:=4) jZ.nd (adh (own:=["name","side","kind","worth"]) (cap:=[(2,"paper")]) (Fj rfl (by done) (by done) rfl (⟨rfl,trivial⟩) rfl (⟨⟨rfl,rfl,rfl⟩,trivial⟩)) rfl (E4 (qv 1)) (λ_ _ _ _=>(Bn (n:=4) rfl (AS (Bb (i:=0) (show List.Nodup (["name","side","kind","worth","paper"]:List Str)from by done) rfl (Or.inl rfl) (Or.inr rfl)) (AS (Bb (i:=1) (show List.Nodup (["name","side","kind","worth","paper"]:List Str)from by done) rfl (Or.inl rfl) (Or.inr rfl)) (AS (Bb (i:=2) (show List.Nodup (["name","side","kind","worth","paper"]:List Str)from by done) rfl (Or.inl rfl) (Or.inr rfl)) (AS (Bb (i:=3) (show List.Nodup (["name","side","kind","worth","paper"]:List Str)from by done) rfl (Or.inl rfl) (Or.inr rfl)) Bu)))))) (λ_ _ _ _=>(jP (B2 Bm (qv 1) (AO (qv 4) A9)))) (λ_ _ _ _=>(qv 0)) (λ_ _ _ _=>(qv 2))))
  (A3 (Ag (BI (Ar (lX rfl) rfl nh PyProof.Rows.boot_any (A0 (EC (own:=["name","way","kind"]) (cap:=[(4,"around")]) (Fj rfl (by done) (by done) rfl (⟨rfl,trivial⟩) rfl (⟨⟨rfl,rfl,rfl⟩,trivial⟩)) rfl (E4 (AO (qv 2) A9)) (λ_ _ _ _=>(Bn (n:=3) rfl (AS (Bb (i:=0) (show List.Nodup (["name","way","kind","around"]:List Str)from by done) rfl (Or.inl rfl) (Or.inr rfl)) (AS (Bb (i:=1) (show List.Nodup (["name","way","kind","around"]:List Str)from by done) rfl (Or.inl rfl) (Or.inr rfl)) (AS (Bb (i:=2) (show List.Nodup (["name","way","kind","around"]:List Str)from by done) rfl (Or.inl rfl) (Or.inr rfl)) Bu))))) (λ_ _ _ _=>Dv) (λ_ _ _ _=>(HF (Mb (BA (BP (by decide:1≤64) _) hr.units)) (qv 0) (qv 3) (by with_unfolding_all rfl)))) A5))) (A3 (AN BE)
  A8) A8)
  (A3 (AN (Af cH hr (A0 (adp Jd hr (by lia) rfl vq (A0 (qv 0) (A0 (qv 2) (A0 (qv 4) A5)))) (A0 (qv 3) A5))))
  A8))),?_⟩
 simp only[Ap];let pl:=po.ln;let al:=t4 hs p.sd;left;unfold SS;left;show⟨by rw[AM,CN];lia,?_⟩;show⟨λv4 τ ys Γ'=>∃(gs ds:List Sh) (o1 o2 o3 o4:Option T),v4=gs.map Sh.tr∧hs=ds++gs∧τ=[o1,o2,o3,o4,some p.tr]∧ys=Cv (Du ds p.sd)∧Γ'=Γ,Ψ6 hs [] none none none none ⟨rfl,rfl,rfl,rfl,rfl⟩,?_,?_⟩;rotate_left
 ·intro x r τ ys Γ'⟨gs,ds,o1,o2,o3,o4,er,ez,rfl,rfl,rfl⟩
  cases gs with
  |nil=>cases er
  |cons g gs=>
   cases er;show⟨trivial,?_⟩;unfold Sh.tr Pr.tr;left;let ed:decide (V.int g.sd=V.int p.sd)=decide (g.sd=p.sd):=aba.mpr ⟨V.int.inj,λe=>by rw[e]⟩;rw[ed];let ap:Du (ds++[g]) p.sd=Du ds p.sd++(if g.sd=p.sd then [(g.nm,g.k)]else []):=by
    unfold Du;rw[OF,Ad];congr 1
    by_cases c:g.sd=p.sd<;>simp[c]
   show AU (λc=>?_) (λc=>?_)
   ·let c:=Cc c
    left;show⟨.inr g.nm,rfl,gs,ds++[g],_,_,_,_,rfl,by rw[ez];simp,rfl,?_,rfl⟩;rw[ap,Ab c];show J9 Kd.tr (v:=g.k) (dq.mpr λm=>?_);unfold Du at m;rw[D2]at m;let⟨d,hd,e⟩:=aam.mp m;let⟨hd,hd2⟩:=abw.mp hd;let hd2:=Cc hd2;rw[ez,Ad,aaK]at nd;show nd.2.2 (d.nm,d.sd) (aam.mpr ⟨d,hd,rfl⟩) (g.nm,g.sd) (by simp) (by rw[show d.nm=g.nm from e,hd2,c])
   ·let c:=Eu c
    show Ψ6 gs (ds++[g]) _ _ _ _ ⟨rfl,by rw[ez];simp,rfl,?_,rfl⟩;rw[ap,AP c,BN]
 intro τ ys Γ'⟨gs,ds,o1,o2,o3,o4,er,ez,rfl,rfl,rfl⟩;let hg:gs=[]:=by
  cases gs with
  |nil=>rfl
  |cons _ _=>cases er
 subst hg;rw[BN]at ez;subst ez;show⟨trivial,λpa hpa=>?_⟩;generalize e1:AA _ pa (O.dK _)=Γ1;let g1:=B4 e1;let l1:=B8 e1 hpa;unfold Kz at q;left;unfold Pr.tr;left;show Hj (i:=2) rfl ?_;left;show⟨Cn (Cr (by rw[AM];lia)),?_⟩;show⟨λv4 τ ys Γ'=>∃(gs ds:List (Str×Str×Kd)) (o1 o2 o3:Option T),v4=gs.map Er∧p.ps=ds++gs∧τ=[o1,o2,o3,some (.ref pa)]∧ys=(ds.map λq=>((Du hs p.sd).lookup q.1).isSome).map T.bl∧Γ'=Γ1,Ψ5 p.ps [] none none none ⟨rfl,rfl,rfl,rfl,rfl⟩,?_,?_⟩;rotate_left
 ·intro x r τ ys Γ'⟨gs,ds,o1,o2,o3,er,ez,rfl,rfl,rfl⟩
  cases gs with
  |nil=>cases er
  |cons g gs=>
   cases er;show⟨trivial,?_⟩;unfold Er;left;show Ψ3 pa _ (.inr g.1) ⟨rfl,rfl,g1,?_⟩;rw[Cb,Fc];show Ψ5 gs (ds++[g]) _ _ _ ⟨rfl,by rw[ez];simp,rfl,by rw[Ad,Ad];rfl,rfl⟩
 intro τ ys Γ'⟨gs,ds,o1,o2,o3,er,ez,rfl,rfl,rfl⟩;let hg:gs=[]:=by
  cases gs with
  |nil=>rfl
  |cons _ _=>cases er
 subst hg;rw[BN]at ez;rw[←ez];show⟨trivial,?_⟩;clear p2 vB e2 Γ2 g2 l2
 left;show Ψ2 p2 _ ⟨rfl,Bx g2,?_⟩;rw[List.any_map];exists c
 ·let c:(p.ps.any λq=>((Du hs p.sd).lookup q.1).isSome)=true:=c
  rw[c]at q;left;show AB (l1.trans l2) q
 let c:(p.ps.any λq=>((Du hs p.sd).lookup q.1).isSome)=false:=c;rw[c,Bool.not_false,Bd]at q;let no:∀q∈p.ps,(Du hs p.sd).lookup q.1=none:=λq hq=>by
  cases e:(Du hs p.sd).lookup q.1 with
  |none=>rfl
  |some k=>
   have:(p.ps.any λq=>((Du hs p.sd).lookup q.1).isSome)=true:=abp.mpr ⟨q,hq,by rw[e];rfl⟩;rw[c]at this;cases this
 left;intro a dx ga gdx nx;let l3:Le Γ2 (AA Γ2 a (.ins C dx [])):=Le.new ga;show Ψ7 a dx pp pa p Ps (Du hs p.sd) ⟨rfl,Ae,l3 _ _ (l2 _ _ (l1 _ _ gp)),l3 _ _ (l2 _ _ g1),po,no,by lia,λΓ' pk kq Q8 sc=>⟨rfl,?_⟩⟩;left;show Ψ7 a pk b Ps p.re _ _ ⟨rfl,bo,bh,?_,sc,?_⟩
 ·show⟨λx m=>?_,λx m=>?_,pso,po.re,?_⟩
  ·rcases aaG.mp m with m|m
   ·show ve ho x m
   ·let⟨y,hy,rfl⟩:=aam.mp m
    show(po.pl y hy).2.2
  ·let⟨y,hy,rfl⟩:=aam.mp m
   show(po.pl y hy).2.1
  ·rw[BO,AM];lia
 ·show AB (λx u h=>?_) q
  let h2:=l2 _ _ (l1 _ _ h);let nxa:x≠a:=Bl h2 ga;let nxk:x≠pk:=λe=>by
   subst e;have:=l3 _ _ h2;rw[Q8]at this;cases this
  rw[AZ nxk];show kq x u (by simpa using nxa) (l3 _ _ h2)
def tx(h:(!b)=true):b=false:=by cases b<;>first|rfl|cases h
def n5(h:(!b)=false):b=true:=by cases b<;>first|rfl|cases h
mutual
theorem adt:∀{s:Sm} {d:Nat},s.fm d=true→d≤4→s.ht+d≤4
 |.new x k v,d,h,l=>by unfold Sm.ht;lia
 |.copy x y,d,h,l=>by unfold Sm.ht;lia
 |.part x y p,d,h,l=>by unfold Sm.ht;lia
 |.put y p x,d,h,l=>by unfold Sm.ht;lia
 |.add y p x,d,h,l=>by unfold Sm.ht;lia
 |.drop x,d,h,l=>by unfold Sm.ht;lia
 |.say x,d,h,l=>by unfold Sm.ht;lia
 |.call z e ns,d,h,l=>by unfold Sm.ht;lia
 |.same x y a b,d,h,l=>by
  unfold Sm.fm at h;simp only[EO,MD]at h;let i1:=K5 h.2.2.1.2 h.2.2.1.1;let i2:=K5 h.2.2.2.2 h.2.2.2.1;unfold Sm.ht;lia
 |.fail n,d,h,l=>by unfold Sm.ht;lia
 |.tri a b,d,h,l=>by
  unfold Sm.fm at h;simp only[EO,MD]at h;let i1:=K5 h.1.2 h.1.1;let i2:=K5 h.2.2 h.2.1;unfold Sm.ht;lia
 |.back x,d,h,l=>by unfold Sm.ht;lia
theorem K5:∀{ss:List Sm} {d:Nat},Bq ss d=true→d≤4→Fw ss+d≤4
 |[],d,h,l=>by unfold Fw;lia
 |s::r,d,h,l=>by
  unfold Bq at h;rw[EO]at h;let i1:=adt h.1 l;let i2:=K5 h.2 l;unfold Fw;lia
end
def sY{ys:List (A7×T)}{k:A7}{v:T}(h:k∈ys.map (·.1)):(Dz ys k v).length=ys.length:=by
 unfold Dz;rw[Ab,AM];let⟨p,hp,e⟩:=aam.mp h;show abp.mpr ⟨p,hp,Bi e⟩
abbrev HB(s:Sh):List A7:=[.inr s.nm,.inl s.sd]
abbrev Dd(hs:List Sh):List (List A7):=hs.foldl (λLs s=>GO Ls (HB s)) []
def NA{es:List Sh}{g:Sh}:GO (Dd es) (HB g)=Dd (es++[g]):=by unfold Dd;rw[List.foldl_append];rfl
def ac0{ks:List A7}(c:ks∈Ls):GO Ls ks=Ls:=by
 unfold GO;rw[Ab (abp.mpr ⟨ks,c,Bi rfl⟩)]
def tF{ks:List A7}(c:ks∉Ls):GO Ls ks=ks::Ls:=by
 unfold GO;rw[AP (λz=>by let⟨p,hp,e⟩:=abp.mp z;show c (Cc e ▸ hp))]
def w5{ks x:List A7}:x∈GO Ls ks↔x∈Ls∨x=ks:=by
 unfold GO;split
 ·rename_i c
  let⟨p,hp,e⟩:=abp.mp c;let e:=Cc e;constructor
  ·show .inl
  ·rintro(h|rfl)
   ·show h
   ·rw[←e];show hp
 ·rw[aaf];show Or.comm
def Rc:∀(hs es:List Sh),(Dd es).length≤es.length→(∀x,x∈Dd es↔x∈es.map HB)→((Dd es).length=es.length ↔(es.map λs=>(s.nm,s.sd)).Nodup)→
  (Dd (es++hs)).length≤(es++hs).length∧((Dd (es++hs)).length=(es++hs).length ↔((es++hs).map λs=>(s.nm,s.sd)).Nodup)
 |[],es,h1,_,h3=>by rw[BN];show⟨h1,h3⟩
 |g::hs,es,h1,h2,h3=>by
  let e:es++g::hs=(es++[g])++hs:=by simp
  let km:HB g∈Dd es ↔(g.nm,g.sd)∈es.map λs=>(s.nm,s.sd):=by
   rw[h2];constructor
   ·intro h
    let⟨s,hs,e⟩:=aam.mp h;unfold HB at e;injection e with e1 e2
    injection e1 with e1
    injection e2 with e2
    injection e2 with e2
    show aam.mpr ⟨s,hs,by rw[e1,e2]⟩
   ·intro h
    let⟨s,hs,e⟩:=aam.mp h;injection e with e1 e2
    show aam.mpr ⟨s,hs,by unfold HB;rw[e1,e2]⟩
  let li:HB g∈Dd es→(Dd (es++[g])).length=(Dd es).length:=λc=>by rw[←NA,ac0 c]
  let lo:HB g∉Dd es→(Dd (es++[g])).length=(Dd es).length+1:=λc=>by rw[←NA,tF c];rfl
  rw[e];show Rc hs (es++[g]) ?_ (λx=>?_) ?_
  ·rw[BO,Jw]
   by_cases c:HB g∈Dd es
   ·have:=li c;lia
   ·have:=lo c;lia
  ·rw[←NA,w5,h2,Ad,aaG,BU,Hs,aaB]
  ·rw[BO,Jw,Ad,aaK]
   by_cases c:HB g∈Dd es
   ·rw[li c]
    show⟨λz=>by lia,λξ=>Ξ03 ξ λ_ _ z=>absurd rfl (z _ (km.mp c) (g.nm,g.sd) (by simp))⟩
   ·rw[lo c]
    constructor
    ·intro z
     show⟨h3.mp (by lia),by simp,λx hx y hy e=>?_⟩;rw[BU,Hs,aaB]at hy;subst hy;subst e;show c (km.mpr hx)
    ·intro⟨z,_,_⟩
     have:=h3.mpr z;lia
def rX(hs:List Sh):(Dd hs).length≤hs.length:=(Rc hs [] (Ah _) (λx=>Iff.rfl) ⟨λ_=>.nil,λ_=>rfl⟩).1
def um{hs:List Sh}:(Dd hs).length=hs.length ↔(hs.map λs=>(s.nm,s.sd)).Nodup:=(Rc hs [] (Ah _) (λx=>Iff.rfl) ⟨λ_=>.nil,λ_=>rfl⟩).2
abbrev HZ(ds:List Dr):List (Str×Pr):=ds.map λd=>(d.p.nm,d.p)
noncomputable def MY(ds:List Dr)(hs:List Sh):Bool:=((ds.all λd=>GN d.b 1)&&hs.all λs=>CH s.k s.w)&&(decide (ds.map λd=>d.p.nm).Nodup&&(decide (hs.map λs=>(s.nm,s.sd)).Nodup&&ds.all λd=>Kz (HZ ds) hs d.p d.b))
@[reducible]def QW:Stmt:=top 51
def gB:Aq ["thing","doors","shelves","papers"] ["thing"] (Ac QW):=nofun
abbrev cq:Av:=λts Γ Z _=>∃(ds:List Dr) (hs:List Sh),ts=[.tup [.tup (ds.map Dr.tr),.tup (hs.map Sh.tr)]]∧ds.length≤900∧hs.length≤4∧(∀d∈ds,d.Ok)∧(∀s∈hs,s.Ok)∧(∀d∈ds,B7 d.b≤90000)∧Z (.bl (MY ds hs)) Γ
def adk(F:cJ K "is_program" "is_program" QW f fd)(m6:AY P w K mg am "has_program_form" 40 ["thing"] fJ)(sQ:AY P w K mg am "is_good_door" 15 ["papers","shelves","paper","body"] (gi C))(aB:mg "len" = none)(bp:mg "all" = none):bc P w K mg am Am 41 f fd ["thing"] (Ak cq):=by
 show B3 F gB (λts Γ Z Y h=>?_) (λcb A outer s H E ts Γ Z Y hr h=>?_)
 ·let⟨_,_,rfl,_⟩:=h
  rfl
 let⟨ds,hs,rfl,dl,hl,od,os,zs,q⟩:=h;show⟨_,(A3 (Ag (BL (BI (Af m6 hr (A0 (qv 0) A5)))) (A3 (AN BE)
  A8) A8)
  (A3 (EK (qv 0) (Bn (n:=2) rfl (AS (Aj (i:=1) gB.nd) (AS (Aj (i:=2) gB.nd) Bu))))
  (A3 (As (i:=3) gB.nd (Vj (own:=["paper","body"]) (cap:=[]) F0 rfl (E4 (qv 1)) (λ_ _ _ _=>(Bn (n:=2) rfl (AS (Bb (i:=0) (show List.Nodup (["paper","body"]:List Str)from by done) rfl (Or.inl rfl) (Or.inr rfl)) (AS (Bb (i:=1) (show List.Nodup (["paper","body"]:List Str)from by done) rfl (Or.inl rfl) (Or.inr rfl)) Bu)))) (λ_ _ _ _=>(AO (qv 0) A9)) (λ_ _ _ _=>(qv 0))))
  (A3 (Ag (PW.pt (CQ (B2 E3 (Ar KD rfl aB BC (A0 (qv 3) A5)) (Ar Bw rfl aB BC (A0 (qv 1) A5))) (D3 (B2 E3 (Ar ac3 rfl aB BC (A0 (sg (BA (BP (by decide:1≤64) _) hr.units) (own:=["name","side","kind","worth"]) (cap:=[]) F0 rfl (E4 (qv 2)) (λ_ _ _ _=>(Bn (n:=4) rfl (AS (Bb (i:=0) (show List.Nodup (["name","side","kind","worth"]:List Str)from by done) rfl (Or.inl rfl) (Or.inr rfl)) (AS (Bb (i:=1) (show List.Nodup (["name","side","kind","worth"]:List Str)from by done) rfl (Or.inl rfl) (Or.inr rfl)) (AS (Bb (i:=2) (show List.Nodup (["name","side","kind","worth"]:List Str)from by done) rfl (Or.inl rfl) (Or.inr rfl)) (AS (Bb (i:=3) (show List.Nodup (["name","side","kind","worth"]:List Str)from by done) rfl (Or.inl rfl) (Or.inr rfl)) Bu)))))) (λ_ _ _ _=>(BM (A0 (qv 0) (A0 (qv 1) A5))))) A5)) (Ar Bw rfl aB BC (A0 (qv 2) A5)))))) (A3 (AN BE)
  A8) A8)
  (A3 (AN (Ar (FH rfl) rfl bp FD (A0 (EC (own:=["paper","body"]) (cap:=[(3,"papers"),(2,"shelves")]) (Fj rfl (by done) (by done) rfl (⟨rfl,⟨rfl,trivial⟩⟩) rfl (⟨⟨rfl,rfl,rfl⟩,⟨⟨rfl,rfl,rfl⟩,trivial⟩⟩)) rfl (E4 (qv 1)) (λ_ _ _ _=>(Bn (n:=2) rfl (AS (Bb (i:=0) (show List.Nodup (["paper","body","papers","shelves"]:List Str)from by done) rfl (Or.inl rfl) (Or.inr rfl)) (AS (Bb (i:=1) (show List.Nodup (["paper","body","papers","shelves"]:List Str)from by done) rfl (Or.inl rfl) (Or.inr rfl)) Bu)))) (λ_ _ _ _=>Dv) (λ_ _ _ _=>(Af sQ hr (A0 (qv 2) (A0 (qv 3) (A0 (qv 0) (A0 (qv 1) A5))))))) A5)))
  A8))))),?_⟩
 simp only[Ap];unfold MY at q;left;show Ψ2 ds hs ⟨rfl,dl,by lia,od,os,?_⟩;exists c
 ·rw[tx c]at q
  left;show AB .refl q
 let c:=n5 c;rw[c,Bd]at q;rw[EO]at c;let cd:=aa2.mp c.1;left;unfold Ph;left;show⟨by rw[AM,CN];lia,?_⟩;show⟨λv4 τ ys Γ'=>∃(gs es:List Dr) (o1 o2:Option T),v4=gs.map Dr.tr∧ds=es++gs∧τ=[o1,o2]∧(((es.map λd=>d.p.nm).Nodup∧ys=Ki (HZ es))∨(¬(es.map λd=>d.p.nm).Nodup∧ys.length<es.length))∧Γ'=Γ,Ψ4 ds [] none none ⟨rfl,rfl,rfl,.inl ⟨by simp,rfl⟩,rfl⟩,?_,?_⟩;rotate_left
 ·intro x r τ ys Γ'⟨gs,es,o1,o2,er,ez,rfl,hy,rfl⟩
  cases gs with
  |nil=>cases er
  |cons g gs=>
   cases er;show⟨trivial,?_⟩;unfold Dr.tr Pr.tr;left;show⟨.inr g.p.nm,rfl,gs,es++[g],_,_,rfl,by rw[ez];simp,rfl,?_,rfl⟩;rw[Ad,BO];rcases hy with⟨nd,rfl⟩|⟨nn,ln⟩
   ·by_cases m:g.p.nm∈es.map λd=>d.p.nm
    ·show .inr ⟨λz=>?_,?_⟩
     ·rw[aaK]at z
      show z.2.2 _ m g.p.nm (by simp) rfl
     ·rw[sY,AM]
      ·unfold HZ;rw[AM];simp
      ·let⟨d,hd,e⟩:=aam.mp m
       unfold HZ Ki EW;rw[D2,D2];show aam.mpr ⟨d,hd,by show(Sum.inr d.p.nm:A7)=_;rw[e]⟩
    ·show .inl ⟨?_,?_⟩
     ·rw[aaK]
      show⟨nd,by simp,λx hx y hy e=>?_⟩;rw[BU,Hs,aaB]at hy;subst hy;subst e;show m hx
     ·unfold HZ
      rw[Ad];show J9 Pr.tr (v:=g.p) (dq.mpr ?_);rw[D2];show m
   ·show .inr ⟨λz=>nn (aaK.mp z).1,?_⟩
    have:=US ys (.inr g.p.nm) g.p.tr;have:(Dz ys (.inr g.p.nm) (.tup [.str g.p.nm,.int g.p.sd,.tup (g.p.ps.map Er),Ed g.p.re])).length≤ys.length+1:=this;simp only[Jw];lia
 intro τ ys Γ'⟨gs,es,o1,o2,er,ez,rfl,hy,rfl⟩;let hg:gs=[]:=by
  cases gs with
  |nil=>rfl
  |cons _ _=>cases er
 subst hg;rw[BN]at ez;subst ez;show⟨trivial,λpp hpp=>?_⟩;generalize e1:AA _ pp (O.dK _)=Γ1;let g1:=B4 e1;let l1:=B8 e1 hpp;left;show Ψ2 pp ys ⟨rfl,g1,?_⟩;left;rw[AM];rcases hy with⟨nd,rfl⟩|⟨nn,ln⟩
 rotate_left
 ·show KW ?_ ?_
  ·have:¬((ys.length:Int)=(ds.length:Nat)):=by lia
   simp[this]
  rw[DN nn,Dw]at q;left;show AB l1 q
 rw[Bi nd,Bd]at q;show JK ?_ ?_
 ·unfold Ki EW HZ
  simp
 left;unfold S4;left;show⟨by rw[AM];lia,?_⟩;show⟨λv4 Ls τ Γ'=>∃(gs es:List Sh) (o1 o2 o3 o4:Option T),v4=gs.map Sh.tr∧hs=es++gs∧τ=[o1,o2,o3,o4]∧Ls=Dd es∧Γ'=Γ1,Ψ6 hs [] none none none none ⟨rfl,rfl,rfl,rfl,rfl⟩,?_,?_⟩;rotate_left
 ·intro x r Ls τ Γ'⟨gs,es,o1,o2,o3,o4,er,ez,rfl,rfl,rfl⟩
  cases gs with
  |nil=>cases er
  |cons g gs=>
   cases er;show⟨trivial,?_⟩;unfold Sh.tr;left;show⟨HB g,rfl,gs,es++[g],_,_,_,_,rfl,by rw[ez];simp,rfl,NA,rfl⟩
 intro Ls τ Γ'⟨gs,es,o1,o2,o3,o4,er,ez,rfl,rfl,rfl⟩;let hg:gs=[]:=by
  cases gs with
  |nil=>rfl
  |cons _ _=>cases er
 subst hg;rw[BN]at ez;subst ez;show⟨trivial,λD hD=>?_⟩;let l2:Le Γ' (AA Γ' D (.ext (Fv D (Dd hs).length))):=Le.new hD;let dl4:=rX hs;left;show Ψ2 D _ ⟨rfl,by lia,Ae,?_⟩;left;rw[AM];by_cases ns:(hs.map λs=>(s.nm,s.sd)).Nodup
 rotate_left
 ·show KW ?_ ?_
  ·have:=mt um.mp ns
   have:¬(((Dd hs).length:Int)=(hs.length:Nat)):=by lia
   simp[this]
  rw[DN ns,Dw]at q;left;show AB (l1.trans l2) q
 rw[Bi ns,Bd]at q;show JK (by rw[um.mpr ns];simp) ?_;left;generalize e3:AA Γ' D _=Γ3 at l2 ⊢;show⟨Cn (Cr (by rw[AM];lia)),?_⟩;show⟨λv4 τ ys Γ'=>∃(gs es:List Dr) (o1 o2:Option T),v4=gs.map Dr.tr∧ds=es++gs∧τ=[o1,o2,some (.ref pp),some (.tup (hs.map Sh.tr))]∧ys=(es.map λd=>Kz (HZ ds) hs d.p d.b).map T.bl∧Γ'=Γ3,Ψ4 ds [] none none ⟨rfl,rfl,rfl,rfl,rfl⟩,?_,?_⟩;rotate_left
 ·intro x r τ ys Γ'⟨gs,es,o1,o2,er,ez,rfl,rfl,rfl⟩
  cases gs with
  |nil=>cases er
  |cons g gs=>
   cases er;let gm:g∈ds:=by rw[ez];simp
   let og:=od g gm;let fg:(decide (1≤4)&&Bq g.b 1)=true:=cd g gm;let hg:=K5 (show Bq g.b 1=true from fg) (by decide);show⟨trivial,?_⟩;unfold Dr.tr;left;show Ψ5 pp hs g.p g.b (HZ ds) ⟨rfl,l2 _ _ g1,os,ns,by lia,og.p,λx m=>?_,og.b,by lia,zs g gm,?_⟩
   ·let⟨d,hd,rfl⟩:=aam.mp m
    show(od d hd).p
   show Ψ4 gs (es++[g]) _ _ ⟨rfl,by rw[ez];simp,rfl,by rw[Ad,Ad];rfl,rfl⟩
 intro τ ys Γ'⟨gs,es,o1,o2,er,ez,rfl,rfl,rfl⟩;let hg:gs=[]:=by
  cases gs with
  |nil=>rfl
  |cons _ _=>cases er
 subst hg;rw[BN]at ez;rw[←ez];show⟨trivial,?_⟩;clear p4 hp4 e4 Γ4 g4 l4
 left;show Ψ2 p4 _ ⟨rfl,Bx g4,?_⟩;rw[FY];show AB ((l1.trans l2).trans l4) q
end
mutual
def Sm.fl:Sm→List Sm
 |.same x y a b=>.same x y a b::(Cq a++Cq b)
 |.tri a b=>.tri a b::(Cq a++Cq b)
 |s=>[s]
def Cq:List Sm→List Sm
 |[]=>[]
 |s::r=>s.fl++Cq r
end
noncomputable def kp(Ps:List (Str×Pr))(re:Option Kd)(W:List (Str×Str)):Sm→List (Str×Kd)→Bool×List (Str×Kd)
 |.same x y _ _,ks=>(match ks.lookup x,ks.lookup y with|some kx,some ky=>kq kx ky|_,_=>false,ks)
 |.tri _ _,ks=>(true,ks)
 |s,ks=>AE Ps re W s ks
noncomputable def Bg(Ps:List (Str×Pr))(re:Option Kd)(W:List (Str×Str)):List Sm→List (Str×Kd)→Bool×List (Str×Kd)
 |[],ks=>(true,ks)
 |s::r,ks=>((kp Ps re W s ks).1&&(Bg Ps re W r (kp Ps re W s ks).2).1,(Bg Ps re W r (kp Ps re W s ks).2).2)
section
variable {W: List (Str×Str)}
def G8(s:Sm)(l:List Sm)(ks:ad):(Bg Ps re W (s::l) ks).1=((kp Ps re W s ks).1&&(Bg Ps re W l (kp Ps re W s ks).2).1):=by rw[Bg]
def Qj{A:Bool×List (Str×Kd)}{C:Bool}(h:C=X B.2):(A.1&&(B.1&&C))=((if A.1=true then B else(false,A.2)).1&&X (if A.1=true then B else(false,A.2)).2):=by
 subst h;cases e:A.1 with
 |true=>rfl
 |false=>rfl
def vj{k M:Bool}(h:M=(B.1&&X B.2)):(k&&M)=((if k=true then B else(false,ks)).1&&X (if k=true then B else(false,ks)).2):=by
 subst h;cases k with
 |true=>rfl
 |false=>rfl
mutual
theorem xQ:∀(s:Sm) (l:List Sm) (ks:List (Str×Kd)),(Bg Ps re W (s.fl++l) ks).1=((AE Ps re W s ks).1&&(Bg Ps re W l (AE Ps re W s ks).2).1)
 |.new x k v,l,ks=>by unfold Sm.fl;show G8 _ _ _
 |.copy x y,l,ks=>by unfold Sm.fl;show G8 _ _ _
 |.part x y p,l,ks=>by unfold Sm.fl;show G8 _ _ _
 |.put y p x,l,ks=>by unfold Sm.fl;show G8 _ _ _
 |.add y p x,l,ks=>by unfold Sm.fl;show G8 _ _ _
 |.drop x,l,ks=>by unfold Sm.fl;show G8 _ _ _
 |.say x,l,ks=>by unfold Sm.fl;show G8 _ _ _
 |.call z d ns,l,ks=>by unfold Sm.fl;show G8 _ _ _
 |.fail n,l,ks=>by unfold Sm.fl;show G8 _ _ _
 |.back x,l,ks=>by unfold Sm.fl;show G8 _ _ _
 |.tri a b,l,ks=>by
  rw[Sm.fl,Ii,G8,GV];show(true&&(Bg Ps re W (Cq a++(Cq b++l)) ks).1)=_
  rw[Bd,Kg a (Cq b++l) ks,Kg b l _,AE];show Qj (X:=λk=>(Bg Ps re W l k).1) rfl
 |.same x y a b,l,ks=>by
  rw[Sm.fl,Ii,G8,GV];show((match ks.lookup x,ks.lookup y with|some kx,some ky=>kq kx ky|_,_=>false)&&(Bg Ps re W (Cq a++(Cq b++l)) ks).1)=_
  rw[Kg a (Cq b++l) ks,Kg b l _,AE];cases ks.lookup x with
  |none=>rfl
  |some kx=>
   cases ks.lookup y with
   |none=>rfl
   |some ky=>
    show vj (X:=λk=>(Bg Ps re W l k).1) (Qj (X:=λk=>(Bg Ps re W l k).1) rfl)
theorem Kg:∀(ss l:List Sm) (ks:List (Str×Kd)),(Bg Ps re W (Cq ss++l) ks).1=((Ba Ps re W ss ks).1&&(Bg Ps re W l (Ba Ps re W ss ks).2).1)
 |[],l,ks=>by rw[Cq,Ba];rfl
 |s::r,l,ks=>by
  rw[Cq,GV,xQ s (Cq r++l) ks,Kg r l _,Ba];show Qj (X:=λk=>(Bg Ps re W l k).1) rfl
end
def yo(b:List Sm)(ks:ad):(Bg Ps re W (Cq b) ks).1=(Ba Ps re W b ks).1:=by
 have:=Kg (Ps:=Ps) (re:=re) (W:=W) b [] ks;rw[BN]at this;rw[this,Bg,Gp]
end
def Zf:∀a b:List Sm,Cq (a++b)=Cq a++Cq b
 |[],b=>by rw[Cq];rfl
 |s::a,b=>by rw[Ii,Cq,Cq,Zf a b,GV]
def aT(s:Sm):Cq [s]=s.fl:=by rw[Cq,Cq,BN]
local macro_rules | `(tactic| left)=>`(tactic| repeat (first
 |(with_reducible first|refine W7 ?_|refine kS ?_|refine ZP ?_|refine iy ?_|refine iQ ?_)|((with_reducible apply fL);exact rfl)|(with_reducible first|refine ie ?_|refine XI ?_|refine Ly ?_|refine aa ?_|refine br ?_|refine P6 ?_|refine iL ?_|refine bq ?_|refine bT ?_|refine kV ?_|refine ju ?_|refine dj ?_|refine fH ?_|refine gJ ?_|refine ao ?_|refine bw ?_|refine lZ ?_|refine hU ?_|refine hG ?_|refine bE ?_|refine P5 ?_|refine Zk ?_|refine kQ ?_|refine WZ ?_|refine fK ?_|refine gG ?_|refine iG ?_|refine jz ?_|refine Vd ?_|refine jo ?_|refine kH ?_|refine kF ?_|refine iD ?_|refine jq ?_)|((with_reducible refine mm ?_ ?_);exact rfl)|(with_reducible first|refine ZX ?_|refine eY ?_|refine ar ?_|refine dR ?_|refine gZ ?_|refine VL ?_|refine eL ?_|refine iE ?_|refine ag ?_|refine gU ?_|refine dH ?_|refine mQ ?_|refine ZZ ?_|refine iO ?_|refine di ?_|refine cu ?_|refine Z0 ?_|refine cL ?_|refine Zd ?_|refine bM ?_|refine fO ?_|refine gA ?_|refine UJ ?_)|((with_reducible apply B0);(first|assumption|exact Ae);(first|exact SD|exact Ss))|((with_reducible apply m7);(first|assumption|exact Ae);exact rfl)
 |with_reducible refine And.intro (rfl:T.non=T.non) ?_|(with_reducible first|refine PB ?_|refine UD ?_|refine UI ?_|refine lr ?_)|((with_reducible apply gE);exact rfl;exact rfl;exact rfl)|(with_reducible first|refine cf ?_|refine cI ?_|refine ah ?_|refine fE ?_|refine LB ?_|refine Lz ?_|refine LA ?_|refine bB ?_|refine Wv ?_|refine gj ?_)|((with_reducible apply bZ);(first|assumption|exact Ae);exact rfl)|with_reducible refine dS ?_|((with_reducible apply ZU);(first|assumption|exact Ae);exact rfl)|with_reducible refine PH ?_|((with_reducible apply Lw);(first|assumption|exact Ae);exact rfl)|((with_reducible apply Lx);(first|assumption|exact Ae);exact rfl)
 |with_reducible refine mV ?_|((with_reducible apply ZO);(first|assumption|exact Ae);exact rfl)|(with_reducible first|refine dU ?_|refine UG ?_|refine UE ?_|refine UH ?_)|((with_reducible refine kJ ?_ ?_);exact rfl)
 |((with_reducible refine FR ?_ ?_);(first|exact⟨by decide,by decide,by decide⟩|exact⟨by decide,by decide⟩|exact Or.inl ⟨by decide,by decide⟩|exact Or.inr ⟨by decide,by decide⟩|((show(0:Int)<_);decide)))
 |((with_reducible refine KW ?_ ?_);(first|exact rfl|done))|((with_reducible refine JK ?_ ?_);(first|exact rfl|done))))
inductive Hd where
 |bot|tri|same (x y:Str)
abbrev Hd.tr:Hd→List T
 |.bot=>[]
 |.tri=>[.str "try"]
 |.same x y=>[.str "same",.str x,.str y]
structure Frq where
 hd:Hd
 f1:Option (List Sm)
 b:List Sm
abbrev Hw:Option (List Sm)→T
 |none=>.non
 |some l=>.tup (BG l)
def zj(o:Option (List Sm)):G1 (Hw o)=o.isNone:=by cases o<;>rfl
abbrev Hd.mk:Hd→List Sm→List Sm→Sm
 |.same x y,a,b=>.same x y a b
 |_,a,b=>.tri a b
def pT(n:h≠.bot)(a b:List Sm):T.tup (h.tr++[.tup (BG a),.tup (BG b)])=(h.mk a b).tr:=by
 cases h with
 |bot=>show absurd rfl n
 |tri=>show _=(Sm.tri a b).tr;rw[Sm.tr];rfl
 |same x y=>show _=(Sm.same x y a b).tr;rw[Sm.tr];rfl
abbrev Jh:=List (Addr×Addr×Frq)
abbrev CY(l:Jh):List Addr:=l.flatMap λq=>[q.1,q.2.1]
def Ff(l m:Jh):CY (l++m)=CY l++CY m:=by unfold CY;rw[List.flatMap_append]
def Rg{l:Jh}(h:q∈l):q.1∈CY l∧q.2.1∈CY l:=⟨acH.mpr ⟨q,h,by simp⟩,acH.mpr ⟨q,h,by simp⟩⟩
structure Fz(Γ0 Γ:AJ)(pf:Addr)(l:Jh):Prop where
 le:Le Γ0 Γ
 gf:Γ pf=some (.lst (l.map λq=>T.ref q.1))
 ga:∀q∈l,Γ q.1=some (.lst [.tup q.2.2.hd.tr,Hw q.2.2.f1,.ref q.2.1])∧Γ q.2.1=some (.lst (BG q.2.2.b))
 nd:(pf::CY l).Nodup
 fr:∀a∈pf::CY l,Γ0 a=none
abbrev FO(Γ0 Γ:AJ)(pf:Addr)(fs:List Frq):Prop:=∃l:Jh,Fz Γ0 Γ pf l∧l.map (·.2.2)=fs
def IL(l:Le Γ0 Γ)(h:Γ a=none):Γ0 a=none:=by
 cases e:Γ0 a with
 |none=>rfl
 |some u=>have:=l _ _ e;rw[h]at this;cases this
section
variable {Γ0 Γ: AJ}{pf p pb pb': Addr}{l: Jh}{fr fr': Frq}
def Fz.X2(h:Fz Γ0 Γ pf l)(m:a∈pf::CY l):∃o,Γ a=some o:=by
 rcases aaf.mp m with rfl|m
 ·show⟨_,h.gf⟩
 ·let⟨q,hq,m⟩:=acH.mp m
  let g:=h.ga q hq;simp only[aaf,CE,Di]at m;rcases m with rfl|rfl
  ·show⟨_,g.1⟩
  ·show⟨_,g.2⟩
def Fz.put(h:Fz Γ0 Γ pf (l++[(p,pb,fr)]))(k:Kq [p,pb'] Γ Γ')(hp:Γ' p=some (.lst [.tup fr'.hd.tr,Hw fr'.f1,.ref pb']))(hb:Γ' pb'=some (.lst (BG fr'.b)))(n:pb'=pb∨Γ pb'=none):Fz Γ0 Γ' pf (l++[(p,pb',fr')]):=by
 let nd:=h.nd;rw[Ff]at nd;let KZ:=h.fr;rw[Ff]at KZ;let old:∀a∈pf::CY l,a≠p∧a≠pb∧a≠pb':=λa m=>by
  have:a≠p∧a≠pb:=by
   let tR:((pf::CY l)++[p,pb]).Nodup:=nd;rw[aaK]at tR;show⟨tR.2.2 a m p (by simp),tR.2.2 a m pb (by simp)⟩
  show⟨this.1,this.2,?_⟩;rcases n with rfl|n
  ·show this.2
  ·let hs:∃o,Γ a=some o:=h.X2 (by rw[Ff];show He (bs:=CY [(p,pb,fr)]) (as:=pf::CY l) m)
   let⟨o,ho⟩:=hs;show Bl ho n
 let pne:p≠pb':=by
  rcases n with rfl|n
  ·let tR:((pf::CY l)++[p,pb']).Nodup:=nd
   rw[aaK]at tR;have:=tR.2.1;simp at this;show this
  ·show Bl (h.ga (p,pb,fr) (by simp)).1 n
 let kk:∀a o,a∈pf::CY l→Γ a=some o→Γ' a=some o:=λa o m e=>k a o (by simp;show⟨(old a m).1,(old a m).2.2⟩) e;let XE:Γ0 pb'=none:=by
  rcases n with rfl|n
  ·show KZ pb' (by simp[CY])
  ·show IL h.le n
 let p0:Γ0 p=none:=KZ p (by simp[CY]);show⟨λa o e=>k a o (by simp;show⟨Bl e p0,Bl e XE⟩) (h.le a o e),?_,λq hq=>?_,?_,λa m=>?_⟩
 ·have:=h.gf
  rw[Ad]at this ⊢;show kk pf _ (by simp) this
 ·rcases aaG.mp hq with hq|hq
  ·let g:=h.ga q (He _ hq)
   let m:=Rg hq;show⟨kk _ _ (DT _ m.1) g.1,kk _ _ (DT _ m.2) g.2⟩
  ·rw[aaB]at hq;subst hq
   show⟨hp,hb⟩
 ·rw[Ff]
  show((pf::CY l)++[p,pb']).Nodup
  let tR:((pf::CY l)++[p,pb]).Nodup:=nd;rw[aaK]at tR ⊢;show⟨tR.1,by simp[pne],λa ha b hb e=>?_⟩;subst e;simp only[aaf,CE,Di]at hb;rcases hb with rfl|rfl
  ·show(old _ ha).1 rfl
  ·show(old _ ha).2.2 rfl
 ·rw[Ff]at m
  let m:a∈(pf::CY l)++[p,pb']:=m;rcases aaG.mp m with m|m
  ·show KZ a (He (as:=pf::CY l) _ m)
  ·simp only[aaf,CE,Di]at m
   rcases m with rfl|rfl
   ·show p0
   ·show XE
def Fz.pop(h:Fz Γ0 Γ pf (l++[q])):Fz Γ0 (AA Γ pf (.lst (l.map λq=>T.ref q.1))) pf l:=by
 let nd:=h.nd;rw[Ff]at nd;let tR:((pf::CY l)++[q.1,q.2.1]).Nodup:=nd;rw[aaK]at tR;let KZ:=h.fr;rw[Ff]at KZ;let f0:Γ0 pf=none:=KZ pf (by simp);show⟨λa o e=>by rw[AZ (Bl e f0)];show h.le a o e,Ae,λr hr=>?_,tR.1,λa m=>KZ a (He (as:=pf::CY l) _ m)⟩;let g:=h.ga r (He _ hr);let m:=Rg hr;let n:=(abd.mp tR.1).1;rw[AZ (show r.1≠pf from λe=>n (e ▸ m.1)),AZ (show r.2.1≠pf from λe=>n (e ▸ m.2))];show g
def Fz.push{pb:Addr}(h:Fz Γ0 Γ pf l)(hb:Γ pb=none)(hp:AA Γ pb (.lst (BG fr.b)) p=none):Fz Γ0 (AA (AA (AA Γ pb (.lst (BG fr.b))) p (.lst [.tup fr.hd.tr,Hw fr.f1,.ref pb])) pf (.lst (l.map (λq=>T.ref q.1)++[.ref p]))) pf (l++[(p,pb,fr)]):=by
 let Rq:p≠pb:=λe=>by subst e;rw[Ae]at hp;cases hp
 rw[AZ Rq]at hp;let old:∀a∈pf::CY l,a≠p∧a≠pb:=λa m=>by
  let⟨o,ho⟩:=h.X2 m;show⟨Bl ho hp,Bl ho hb⟩
 let f0:Γ0 pf=none:=h.fr pf (by simp);let XD:=old pf (by simp);show⟨λa o e=>?_,by rw[Ae,Ad];rfl,λq hq=>?_,?_,λa m=>?_⟩
 ·rw[AZ (Bl e f0),AZ (Bl e (IL h.le hp)),AZ (Bl e (IL h.le hb))];show h.le a o e
 ·rcases aaG.mp hq with hq|hq
  ·let g:=h.ga q hq
   let m:=Rg hq;let n:=(abd.mp h.nd).1;let o1:=old _ (DT _ m.1);let o2:=old _ (DT _ m.2);rw[AZ (show q.1≠pf from λe=>n (e ▸ m.1)),AZ (show q.2.1≠pf from λe=>n (e ▸ m.2)),AZ o1.1,AZ o1.2,AZ o2.1,AZ o2.2];show g
  ·rw[aaB]at hq;subst hq
   show⟨by rw[AZ (C3 XD.1)];show Ae,by rw[AZ (C3 XD.2),AZ (C3 Rq)];show Ae⟩
 ·rw[Ff]
  show((pf::CY l)++[p,pb]).Nodup
  rw[aaK];show⟨h.nd,by simp[Rq],λa ha b hb e=>?_⟩;subst e;simp only[aaf,CE,Di]at hb;rcases hb with rfl|rfl
  ·show(old _ ha).1 rfl
  ·show(old _ ha).2 rfl
 ·rw[Ff]at m
  let m:a∈(pf::CY l)++[p,pb]:=m;rcases aaG.mp m with m|m
  ·show h.fr a m
  ·simp only[aaf,CE,Di]at m
   rcases m with rfl|rfl
   ·show IL h.le hp
   ·show IL h.le hb
end
abbrev Lg:Hd→Prop
 |.bot=>False
 |.tri=>True
 |.same x y=>Nm x∧Nm y
structure UL(i:Nat)(fr:Frq):Prop where
 ok:Bc fr.b
 fm:Bq fr.b (i+1)=true
 f1:∀a,fr.f1=some a→Bc a∧Bq a (i+1)=true
 hd:0<i→Lg fr.hd
abbrev NC:Option (List Sm)→Nat
 |none=>0
 |some a=>B7 a
abbrev Frq.sz(fr:Frq):Nat:=NC fr.f1+B7 fr.b+1
abbrev F2(fs:List Frq):Nat:=(fs.map Frq.sz).sum
structure eK(fs:List Frq)(n:Nat):Prop where
 l1:1≤fs.length
 l4:fs.length≤4
 ok:∀i fr,fs[i]?=some fr→UL i fr
 sz:F2 fs≤n
def TZ:∀(a b:List Sm),B7 (a++b)=B7 a+B7 b
 |[],b=>by rw[B7];simp
 |s::a,b=>by rw[Ii,B7,B7,TZ a b];lia
def Kf:∀(a:List Sm),a.length≤B7 a
 |[]=>by simp
 |s::a=>by
  rw[B7,CF];have:=Kf a;have:1≤s.sz:=by cases s<;>(unfold Sm.sz;lia)
  lia
def QX:∀{a b:List Sm},Bc a→Bc b→Bc (a++b)
 |[],b,_,h=>h
 |s::a,b,h,h'=>by
  unfold Bc at h;show Bc (s::(a++b))
  unfold Bc;show⟨h.1,QX h.2 h'⟩
def Zc(a b:List Sm)(d:Nat):Bq (a++b) d=(Bq a d&&Bq b d):=by rw[MV,MV,MV,NJ]
def iP{s:Sm}(h:s.Ok):Bc [s]:=by unfold Bc Bc;show⟨h,trivial⟩
def bH(s:Sm)(d:Nat):Bq [s] d=s.fm d:=by rw[Bq,Bq,Gp]
def rj{a b:List Sm}(hh:Lg h)(ha:Bc a)(hb:Bc b)(fa:Bq a (d+1)=true)(fb:Bq b (d+1)=true)(hd:d≤3)(la:a.length≤1000)(lb:b.length≤1000):(h.mk a b).Ok∧(h.mk a b).fm d=true∧(h.mk a b).sz=B7 a+B7 b+1:=by
 let h4:decide (d+1≤4)=true:=Bi (by lia);cases h with
 |bot=>show hh.elim
 |tri=>show⟨by show(Sm.tri a b).Ok;unfold Sm.Ok;show⟨la,lb,ha,hb⟩,by show(Sm.tri a b).fm d=true;unfold Sm.fm;rw[fa,fb,h4];rfl,by show(Sm.tri a b).sz=_;unfold Sm.sz;rfl⟩
 |same x y=>
  let nx:DP x=true:=JN hh.1;let ny:DP y=true:=JN hh.2;show⟨by show(Sm.same x y a b).Ok;unfold Sm.Ok;show⟨by have:=hh.1.2.1;lia,by have:=hh.2.2.1;lia,la,lb,ha,hb⟩,by show(Sm.same x y a b).fm d=true;unfold Sm.fm;rw[fa,fb,h4,nx,ny];rfl,by show(Sm.same x y a b).sz=_;unfold Sm.sz;rfl⟩
def HS(a b:List Frq):F2 (a++b)=F2 a+F2 b:=by unfold F2;rw[Ad,List.sum_append]
def Hp(f:Frq):F2 [f]=f.sz:=by unfold F2;simp
section
variable {fs: List Frq}{f g: Frq}{n: Nat}
def eK.top(h:eK (fs++[f]) n):UL fs.length f:=h.ok fs.length f (by rw[LP (Ah _),Nat.sub_self];rfl)
def eK.set(h:eK (fs++[f]) n)(hg:UL fs.length g)(hs:F2 fs+g.sz≤m):eK (fs++[g]) m:=by
 let l:=h.l4;rw[BO]at l;show⟨by rw[BO];show 1≤_+1;lia,by rw[BO];show l,λi fr e=>?_,by rw[HS,Hp];show hs⟩;by_cases c:i<fs.length
 ·show h.ok i fr (by rw[Ln c]at e ⊢;show e)
 ·rw[LP (by lia)]at e
  have:i-fs.length=0:=by
   have:=(aaE.mp e).1;rw[Jw]at this;lia
  rw[this]at e;cases e;rw[show i=fs.length by lia];show hg
def eK.init(h:eK (fs++[f,g]) n):eK (fs++[f]) n:=by
 let l:=h.l4;rw[BO]at l;let e:fs++[f,g]=(fs++[f])++[g]:=by simp
 show⟨by rw[BO];show 1≤_+1;lia,by rw[BO];show _+1≤4;have:fs.length+2≤4:=l;lia,λi fr e2=>h.ok i fr ?_,?_⟩
 ·rw[e,Ln (aaE.mp e2).1];show e2
 ·have:=h.sz
  rw[e,HS]at this;lia
def eK.first(h:eK (fs++[f]) n)(e:f.f1=none):eK (fs++[⟨f.hd,some f.b,[]⟩]) n:=by
 let t:=h.top;show h.set ⟨by show Bc [];unfold Bc;trivial,by show Bq [] _=true;rw[Bq],λa ha=>by cases ha;show⟨t.ok,t.fm⟩,t.hd⟩ ?_;have:=h.sz;rw[HS,Hp]at this;unfold Frq.sz at this ⊢;rw[e]at this;show F2 fs+(B7 f.b+B7 []+1)≤n
 rw[B7];have:F2 fs+(0+B7 f.b+1)≤n:=this;lia
def eK.close(h:eK (fs++[f,g]) n){a:List Sm}(e:g.f1=some a)(hn:n≤900):eK (fs++[⟨f.hd,f.f1,f.b++[g.hd.mk a g.b]⟩]) n:=by
 let e2:fs++[f,g]=(fs++[f])++[g]:=by simp
 let hg:=(e2 ▸ h).top;let hf:=h.init.top;rw[BO]at hg;let l:=h.l4;rw[BO]at l;let sz:=h.sz;rw[e2,HS,HS,Hp,Hp]at sz;unfold Frq.sz at sz;rw[e]at sz;let sz:F2 fs+(NC f.f1+B7 f.b+1)+(B7 a+B7 g.b+1)≤n:=sz;let ga:=hg.f1 a e;let la:=Kf a;let lb:=Kf g.b;let mk:=rj (d:=fs.length+1) (hg.hd (by show 0<fs.length+1;lia)) ga.1 hg.ok ga.2 hg.fm (by have:fs.length+2≤4:=l;lia) (by lia) (by lia);show h.init.set ⟨QX hf.ok (iP mk.1),by show Bq (f.b++[g.hd.mk a g.b]) _=true;rw[Zc,hf.fm,bH,mk.2.1];rfl,hf.f1,hf.hd⟩ ?_;show F2 fs+(NC f.f1+B7 (f.b++[g.hd.mk a g.b])+1)≤n
 rw[TZ,B7,B7,mk.2.2];lia
end
abbrev Lv:Option (List Sm)→Nat
 |none=>2
 |some _=>1
abbrev HW(fs:List Frq):Nat:=(fs.map λf=>Lv f.f1).sum
def NI(a b:List Frq):HW (a++b)=HW a+HW b:=by unfold HW;rw[Ad,List.sum_append]
inductive Cl:List Frq→List Frq→Prop
 |first{fs:List Frq}{f:Frq}(e:f.f1=none):Cl (fs++[f]) (fs++[⟨f.hd,some f.b,[]⟩])
 |close{fs:List Frq}{f g:Frq}{a:List Sm}(e:g.f1=some a):Cl (fs++[f,g]) (fs++[⟨f.hd,f.f1,f.b++[g.hd.mk a g.b]⟩])
def Cl.ok(c:Cl fs gs)(h:eK fs n)(hn:n≤900):eK gs n∧HW gs<HW fs:=by
 cases c with
 |@first fs f e=>show⟨h.first e,by rw[NI,NI];show _+(1+0)<_+(Lv f.f1+0);rw[e];show _+(1+0)<_+(2+0);lia⟩
 |@close fs f g a e=>show⟨h.close e hn,by rw[NI,NI];show _+(Lv f.f1+0)<_+(Lv f.f1+(Lv g.f1+0));rw[e];show _<_+(_+(1+0));lia⟩
abbrev Sm.sp:Sm→Sm
 |.same x y _ _=>.same x y [] []
 |.tri _ _=>.tri [] []
 |s=>s
abbrev CS(b:List Sm):List Sm:=(Cq b).map Sm.sp
abbrev Hd.ev:Hd→List Sm
 |.bot=>[]
 |h=>[h.mk [] []]
abbrev Frq.ev(r:Frq):List Sm:=r.hd.ev++(CS (r.f1.getD [])++CS r.b)
abbrev EL(fs:List Frq):List Sm:=fs.flatMap Frq.ev
def kO(a b:List Sm):CS (a++b)=CS a++CS b:=by unfold CS;rw[Zf,Ad]
def nc(n:h≠.bot)(a b:List Sm):CS [h.mk a b]=h.ev++(CS a++CS b):=by
 unfold CS;rw[aT];cases h with
 |bot=>show absurd rfl n
 |tri=>show((Sm.tri a b).fl).map Sm.sp=_;rw[Sm.fl,BU,Ad];rfl
 |same x y=>show((Sm.same x y a b).fl).map Sm.sp=_;rw[Sm.fl,BU,Ad];rfl
def Lc:CS []=[]:=by unfold CS;rw[Cq];rfl
def J4(a b:List Frq):EL (a++b)=EL a++EL b:=by unfold EL;rw[List.flatMap_append]
def HU(r:Frq):EL [r]=r.ev:=by unfold EL;simp
abbrev Bt(fs:List Frq):Prop:=∃b r,fs=⟨.bot,none,b⟩::r
def Cl.ev(c:Cl fs gs)(h:eK fs n)(l:2≤fs.length):EL gs=EL fs∧(Bt fs→Bt gs):=by
 cases c with
 |@first fs f e=>
  show⟨?_,λξ=>Ξ21 ξ λb r eb=>?_⟩
  ·rw[J4,J4,HU,HU]
   unfold Frq.ev;rw[e];show _++(_++(CS f.b++CS []))=_++(_++(CS []++CS f.b))
   rw[Lc,BN,Ri]
  ·cases fs with
   |nil=>simp at l
   |cons g fs=>
    rw[Ii]at eb ⊢;injection eb with e1 e2
    show Ψ2 b _ (by rw[e1])
 |@close fs f g a e=>
  let hg:g.hd≠.bot:=λz=>by
   have:=(h.ok (fs.length+1) g (by simp)).hd (by lia);rw[z]at this;show this
  show⟨?_,λξ=>Ξ21 ξ λb r eb=>?_⟩
  ·rw[J4,J4,HU,show [f,g]=[f]++[g]from rfl,J4,HU,HU]
   unfold Frq.ev;rw[kO,nc hg,e];simp[GV]
  ·cases fs with
   |nil=>
    injection eb with e1 e2
    show Ψ2 _ [] (by rw[e1];rfl)
   |cons g' fs=>
    rw[Ii]at eb ⊢;injection eb with e1 e2
    show Ψ2 b _ (by rw[e1])
section
variable {K: W.Frag}
@[reducible]def Tc:Stmt:=top 74
def mw:Aq ["frames","frame"] ["frames"] (Ac Tc):=nofun
abbrev VH:Av:=λts Γ Z _=>∃(pf:Addr) (Γ0:AJ) (fs:List Frq) (n:Nat),ts=[.ref pf]∧FO Γ0 Γ pf fs∧eK fs n∧n≤900∧2≤fs.length∧∀Γ' gs,Cl fs gs→FO Γ0 Γ' pf gs→Z .non Γ'
def PJ{α:Type}:∀{l:List α},1≤l.length→∃i x,l=i++[x]:=λ{l} h=>Ψ2 l.dropLast (l.getLast (by intro e;rw[e]at h;simp at h)) ((List.dropLast_concat_getLast _).symm)
def yd(F:cJ K "_law_closed" "_law_closed" Tc f fd)(aB:mg "len" = none)(aC:mg "tuple" = none):bc P w K mg am Am 1 f fd ["frames"] (Ak VH):=by
 show B3 F mw (λts Γ Z Y h=>?_) (λcb A outer s H E ts Γ Z Y hr h=>?_)
 ·let⟨_,_,_,_,rfl,_⟩:=h
  rfl
 let⟨pf,Γ0,fs,n,rfl,⟨l,fz,el⟩,fo,n9,l2,q⟩:=h;show⟨_,(A3 (As (i:=1) mw.nd (AO (qv 0) (Aa Im (Ar Bw rfl aB BC (A0 (qv 0) A5)) A9)))
  (A3 (B1 (Ag (B2 M6 (AO (qv 1) A9) FP) (A3 (EK (IK Lo rfl aC Dm (A0 (AO (qv 1) A9) A5)) (jH (qv 1) A9))
  (A3 (EK (DA A5) (jH (qv 1) A9))
  A8)) (A3 (Fq (ab1 HI PySem.F.slot_list_pop PySem.F.type_list_pop oJ (qv 0)))
  (A3 (Fq (E0 HI Hv Hr HY (AO (AO (qv 0) (Aa Im (Ar Bw rfl aB BC (A0 (qv 0) A5)) A9)) A9) (A0 (Aa uB (AO (qv 1) A9) (BM (A0 (AO (qv 1) A9) (A0 (IK Lo rfl aC Dm (A0 (AO (qv 1) A9) A5)) A5)))) A5)))
  A8))))
  A8)),?_⟩
 simp only[Ap];let ll:l.length=fs.length:=by rw[←el,AM]
 let⟨l0,q2,e0⟩:=PJ (l:=l) (by lia);let⟨l1,q1,e1⟩:=PJ (l:=l0) (by rw[e0,BO]at ll;have:l0.length+1=fs.length:=ll;lia);subst e0;subst e1;obtain⟨p2,b2,r2⟩:=q2;obtain⟨p1,b1,r1⟩:=q1;let g2:=fz.ga (p2,b2,r2) (by simp);let g1:=fz.ga (p1,b1,r1) (by simp);let gp:Γ p2=some (.lst [.tup r2.hd.tr,Hw r2.f1,.ref b2]):=g2.1;let gb:Γ b2=some (.lst (BG r2.b)):=g2.2;let hlen:((l1++[(p1,b1,r1)]++[(p2,b2,r2)]).map λq=>T.ref q.1).length=l1.length+2:=by simp
 left;show F8 fz.gf ?_;left;rw[hlen];show B0 (t:=.ref p2) fz.gf (by rw[show((l1.length+2:Nat):Int)-1=((l1.length+1:Nat):Int)by lia];show FA (by simp)) ?_;left;show DD ?_;left;rw[zj];let WM:fs=(l1.map (λq=>q.2.2))++[r1,r2]:=by rw[←el];simp
 cases e2:r2.f1 with
 |none=>
  rw[e2]at gp;left;show B0 gp (by rfl) ?_;left;show Ψ2 (.ref b2) _ ⟨rfl,Bx gb,?_⟩;left;intro D hD;let nD:D≠p2:=λe=>by subst e;rw[Ae]at hD;cases hD
  let hD':Γ D=none:=by rw[AZ nD]at hD;show hD
  left;show Ψ4 p2 _ _ 2 ⟨rfl,rfl,by rw[AZ (C3 nD)];show Ae,rfl,?_⟩;show AB .refl (q _ _ (by rw[WM,show l1.map (λq=>q.2.2)++[r1,r2]=(l1.map (λq=>q.2.2)++[r1])++[r2]by simp];show .first e2) ⟨_,fz.put (fr':=⟨r2.hd,some r2.b,[]⟩) (pb':=D) ?_ Ae ?_ (.inr hD'),by simp⟩)
  ·show(Kq.set (p:=p2) (by simp) _).trans ((Kq.set (p:=D) (by simp) _).trans (Kq.set (p:=p2) (by simp) _))
  ·rw[AZ nD,Ae,BG]
 |some a=>
  rw[e2]at gp;left;show⟨GC fz.gf,?_⟩;left;show Ψ3 pf _ (.ref p2) ⟨rfl,rfl,fz.gf,by rw[hlen];simp,?_⟩;let O6:=fz.pop;let edl:((l1++[(p1,b1,r1)]++[(p2,b2,r2)]).map λq=>T.ref q.1).dropLast=(l1++[(p1,b1,r1)]).map λq=>T.ref q.1:=by rw[Ad];show List.dropLast_concat
  rw[edl];let XM:∀x∈[p2,b2],x≠pf:=λx m e=>by
   let nd:=(abd.mp fz.nd).1;rw[Ff]at nd;show nd (by rw[←e];show CZ _ (by simpa[CY]using m))
  generalize eΓ:AA Γ pf _=Γ1 at O6;let gp1:Γ1 p2=some (.lst [.tup r2.hd.tr,Hw (some a),.ref b2]):=by rw[←eΓ,AZ (XM p2 (by simp))];show gp
  let Wu:Γ1 b2=some (.lst (BG r2.b)):=by rw[←eΓ,AZ (XM b2 (by simp))];show gb
  let h1:=O6.ga (p1,b1,r1) (by simp);let ki:Γ1 p1=some (.lst [.tup r1.hd.tr,Hw r1.f1,.ref b1]):=h1.1;let Ua:Γ1 b1=some (.lst (BG r1.b)):=h1.2;let fg:=fo;rw[WM]at fg;let hdn:r2.hd≠.bot:=λe=>by
   let fg2:eK ((l1.map (λq:Addr×Addr×Frq=>q.2.2)++[r1])++[r2]) n:=by rw[GV];show fg
   let t:=fg2.top.hd (by simp);rw[e]at t;show t
  let lens:r1.b.length≤900:=by
   let sz:=fg.sz;rw[HS]at sz;have:F2 [r1,r2]=r1.sz+(r2.sz+0):=rfl;rw[this]at sz;unfold Frq.sz at sz;have:=Kf r1.b;lia
  left;show F8 O6.gf ?_;left;rw[AM,BO];show B0 (t:=.ref p1) O6.gf (by rw[show((l1.length+[(p1,b1,r1)].length:Nat):Int)-1=((l1.length:Nat):Int)by simp];show FA (by simp)) ?_;left;show B0 (t:=.ref b1) ki (by rfl) ?_;left;show⟨GC Ua,?_⟩;left;show B0 gp1 (by rfl) ?_;left;show Ψ2 (.ref b2) _ ⟨rfl,Bx Wu,?_⟩;left;show Ψ2 _ _ ⟨rfl,rfl,by rw[CN];cases r2.hd<;>simp[Hd.tr],?_⟩
  left;show Ψ3 b1 _ _ ⟨rfl,rfl,Ua,by rw[mY,CN];lia,?_⟩;show AB .refl (q _ _ (by rw[WM];show .close e2) ⟨_,O6.put (fr':=⟨r1.hd,r1.f1,r1.b++[r2.hd.mk a r2.b]⟩) (pb':=b1) (Kq.set (by simp) _) ?_ ?_ (.inl rfl),by simp⟩)
  ·let nd:=O6.nd
   rw[Ff]at nd;let n1:p1≠b1:=by
    let tR:((pf::CY l1)++[p1,b1]).Nodup:=nd;rw[aaK]at tR;have:=tR.2.1;simp at this;show this
   rw[AZ n1];show ki
  ·rw[Ae]
   show some (O.lst (BG r1.b++[T.tup (r2.hd.tr++[.tup (BG a),.tup (BG r2.b)])]))=some (O.lst (BG (r1.b++[r2.hd.mk a r2.b])))
   rw[pT hdn,JV,JV,Ad];rfl
@[reducible]def QP:Stmt:=top 75
def adi:Aq ["frames"] ["frames"] (Ac QP):=nofun
abbrev ZW:Av:=λts Γ Z _=>∃(pf:Addr) (Γ0:AJ) (fs:List Frq) (n:Nat),ts=[.ref pf]∧FO Γ0 Γ pf fs∧eK fs n∧n≤900∧Bt fs∧∀Γ' ss,Le Γ0 Γ'→Bc ss→Bq ss 1=true→B7 ss≤n→CS ss=EL fs→Z (.tup (BG ss)) Γ'
def uI(F:cJ K "_law_ended" "_law_ended" QP f fd)(jV:AY P w K mg am "_law_closed" 1 ["frames"] VH)(aB:mg "len" = none)(aC:mg "tuple" = none):bc P w K mg am Am 2 f fd ["frames"] (Ak ZW):=by
 show B3 F adi (λts Γ Z Y h=>?_) (λcb A outer s H E ts Γ Z Y hr h=>?_)
 ·let⟨_,_,_,_,rfl,_⟩:=h
  rfl
 let⟨pf,Γ0,fs,n,rfl,fz0,fo0,n9,bt0,q⟩:=h;show⟨_,(A3 (adD GJ (B2 JF (Ar Bw rfl aB BC (A0 (qv 0) A5)) A9) (A3 (Fq (Af jV hr (A0 (qv 0) A5)))
  A8))
  (A3 (AN (IK Lo rfl aC Dm (A0 (AO (AO (qv 0) A9) A9) A5)))
  A8)),?_⟩
 simp only[Ap];left;unfold eE;show⟨λm τ Γ'=>∃gs,τ=[some (.ref pf)]∧FO Γ0 Γ' pf gs∧eK gs n∧Bt gs∧EL gs=EL fs∧HW gs=m,Ψ2 _ fs ⟨rfl,fz0,fo0,bt0,rfl,rfl⟩,?_⟩;intro m τ Γ'⟨gs,rfl,⟨l,fz,el⟩,fo,bt,ev,rfl⟩;let ll:l.length=gs.length:=by rw[←el,AM]
 left;show F8 fz.gf ?_;left;rw[AM];show AU (λc=>?_) (λc=>?_)
 ·let c:1<l.length:=by have:=Cc c;lia
  show⟨λτ' Γ''=>∃Gw,τ'=[some (.ref pf)]∧FO Γ0 Γ'' pf Gw∧eK Gw n∧Bt Gw∧EL Gw=EL fs∧HW Gw<HW gs,λτ' Γ'' h=>?_,?_⟩
  ·let⟨Gw,h1,h2,h3,h5,h6,h4⟩:=h
   show⟨HW Gw,h4,Gw,h1,h2,h3,h5,h6,rfl⟩
  ·left
   show Ψ4 pf Γ0 gs n ⟨rfl,⟨l,fz,el⟩,fo,n9,by lia,λΓ'' Gw cl fo'=>?_⟩;let o:=cl.ok fo n9;let c2:=cl.ev fo (by lia);left;show⟨Gw,rfl,fo',o.1,c2.2 bt,by rw[c2.1];show ev,o.2⟩
 ·let c:¬1<l.length:=by have:=Eu c;lia
  let l1:=fo.l1;match l,ll,fz,el with
  |[],ll,_,_=>simp at ll;lia
  |[(p,b,r)],ll,fz,el=>
   let g:=fz.ga (p,b,r) (by simp);let gp:Γ' p=some (.lst [.tup r.hd.tr,Hw r.f1,.ref b]):=g.1;let gb:Γ' b=some (.lst (BG r.b)):=g.2;let gf:Γ' pf=some (.lst [.ref p]):=fz.gf;let eg:gs=[]++[r]:=by rw[←el];rfl
   rw[eg]at fo;let t:=fo.top;let sz:=fo.sz;rw[HS,Hp]at sz;unfold Frq.sz at sz;left;show B0 gp (by rfl) ?_;left;show Ψ2 (.ref b) _ ⟨rfl,Bx gb,?_⟩;show AB .refl (q Γ' r.b fz.le t.ok t.fm (by lia) ?_);let⟨b0,r0,eb⟩:=bt;rw[eg]at eb;injection eb with e1 e2
   rw[←ev,eg,Ri,HU,e1];unfold Frq.ev;show CS b0=[]++(CS []++CS b0)
   rw[Lc];rfl
  |a::b::r,ll,_,_=>simp at c
end
abbrev D0:Nat→Kd
 |0=>.text
 |1=>.num 2
 |_=>.row .text
abbrev Fi:Nat→T
 |0=>.str "a"
 |1=>.int 7
 |_=>.tup []
def Pf(h:n<3):n=0∨n=1∨n=2:=by lia
def Qu(n:Nat):(D0 n).good∧(D0 n).depth≤5:=by
 match n with
 |0=>show⟨by show Kd.text.good;unfold Kd.good;trivial,by show Kd.text.depth≤5;rw[Kd.depth];lia⟩
 |1=>show⟨by show(Kd.num 2).good;rw[Kd.good];lia,by show(Kd.num 2).depth≤5;rw[Kd.depth];lia⟩
 |_+2=>show⟨by show(Kd.row .text).good;rw[Kd.good,Kd.good];trivial,by show(Kd.row .text).depth≤5;rw[Kd.depth,Kd.depth];lia⟩
def O3(n:Nat):CH (D0 n) (Fi n)=true∧∀Γ,Pt Γ (Fi n):=by
 match n with
 |0=>show⟨by done,λ_=>.str (by done)⟩
 |1=>show⟨by done,λ_=>.int 7⟩
 |_+2=>show⟨by show CH (.row .text) (.tup [])=true;done,λ_=>.tup (by simp) λt m=>by cases m⟩
def Pg{a b:Nat}(ha:a<3)(hb:b<3):kq (D0 a) (D0 b)=decide (a=b):=by
 show F3 ?_;rw[MD];rcases Pf ha with rfl|rfl|rfl<;>rcases Pf hb with rfl|rfl|rfl<;>simp[D0,Kd.tr]
abbrev E2:=List (Str×Nat)
@[reducible]def Cz(l:E2):List (A7×T):=EW (λn:Nat=>T.int (n:Int)) l
abbrev kk(l:E2):ad:=l.map λp=>(p.1,D0 p.2)
def IJ(l:E2)(x:Str):(kk l).lookup x=(l.lookup x).map D0:=by
 unfold kk;induction l with
 |nil=>rfl
 |cons p r ih=>
  rw[BU,GZ,GZ];cases x==p.1 with
  |true=>rfl
  |false=>show ih
structure fj(ns:List Str):Prop where
 nl:ns.length=9
 nm:∀z∈ns,Nm z
 nd:ns.Nodup
structure ir(ns:List Str)(l:E2)(m:Nat):Prop where
 nd:(l.map (·.1)).Nodup
 nm:∀p∈l,p.1∈ns∧p.2<3
 ln:l.length≤m
def ir.le{m':Nat}(h:ir ns l m)(e:m≤m'):ir ns l m':=⟨h.nd,h.nm,Cu h.ln e⟩
abbrev putN(l:E2)(x:Str)(n:Nat):E2:=match l.lookup x with|some _=>l|none=>l++[(x,n)]
def ir.put(h:ir ns l m)(hx:x∈ns)(hn:n<3):ir ns (putN l x n) (m+1):=by
 unfold putN;cases e:l.lookup x with
 |some _=>show h.le (BR _)
 |none=>
  show⟨?_,λp hp=>?_,by rw[BO];have:=h.ln;simp;lia⟩
  ·rw[Ad,aaK]
   show⟨h.nd,by simp,λa ha b hb e2=>?_⟩;rw[BU,Hs,aaB]at hb;subst hb;subst e2;show dq.mp e ha
  ·rcases aaG.mp hp with hp|hp
   ·show h.nm p hp
   ·rw[aaB.mp hp];show⟨hx,hn⟩
def vN{α:Type}(g:α→T){l:List (Str×α)}{v:α}(nd:(l.map (·.1)).Nodup)(h:l.lookup x=some v):Dz (EW g l) (.inr x) (g v)=EW g l:=by
 let hm:(x,v)∈l:=Cg h;let inj:∀p∈l,p.1=x→p=(x,v):=λp hp e=>by
  induction l with
  |nil=>cases hp
  |cons a r ih=>
   rw[BU,abd]at nd;rw[GZ]at h;by_cases c:x=a.1
   ·rw[show(x==a.1)=true by simpa using c]at h
    cases h;rcases aaf.mp hp with rfl|hp
    ·show L6 e rfl
    ·show absurd (aam.mpr ⟨p,hp,by rw[e,c]⟩) nd.1
   ·rw[show(x==a.1)=false by simpa using c]at h
    rcases aaf.mp hp with rfl|hp
    ·show absurd e.symm c
    ·show ih nd.2 h (Cg h) hp
 let e:(EW g l).map (λkv=>if kv.1=(Sum.inr x:A7)then(kv.1,g v)else kv)=EW g l:=by
  unfold EW;rw[D2];show List.map_congr_left λp hp=>?_;show(if(Sum.inr p.1:A7)=Sum.inr x then((Sum.inr p.1:A7),g v)else(Sum.inr p.1,g p.2))=_
  by_cases c:p.1=x
  ·rw[inj p hp c,Ab rfl]
  ·rw[AP (λz=>c (Kr z))]
 unfold Dz;rw[Ab,e];show abp.mpr ⟨((Sum.inr x:A7),g v),aam.mpr ⟨(x,v),hm,rfl⟩,Bi rfl⟩
def bx(h:ir ns l m)(e:(l.lookup x).getD n=n):Dz (Cz l) (.inr x) (.int (n:Int))=Cz (putN l x n):=by
 unfold putN;cases e1:l.lookup x with
 |none=>show J9 (λn:Nat=>T.int (n:Int)) (v:=n) e1
 |some v=>
  rw[e1]at e;let e:v=n:=e;subst e;show vN (λn:Nat=>T.int (n:Int)) h.nd e1
def zq:kk (putN l x n)=match l.lookup x with|some _=>kk l|none=>kk l++[(x,D0 n)]:=by
 unfold putN;cases l.lookup x with
 |none=>show kk (l++[(x,n)])=_;unfold kk;rw[Ad];rfl
 |some _=>rfl
def Si(h:ir ns l m)(hn:n<3):(DB [] (kk l) x (D0 n)).1=decide ((l.lookup x).getD n=n)∧((DB [] (kk l) x (D0 n)).1=true→(DB [] (kk l) x (D0 n)).2=kk (putN l x n)):=by
 unfold DB;rw[Ab (show Gd [] x=true from rfl),IJ,zq];cases e:l.lookup x with
 |none=>show⟨by simp,λ_=>rfl⟩
 |some v=>
  let v3:v<3:=(h.nm _ (Cg e)).2;show⟨by show kq (D0 v) (D0 n)=_;rw[Pg v3 hn];rfl,λ_=>rfl⟩
abbrev jt(s:Sm)(l l':E2)(b:Bool):Prop:=∀Ps,(kp Ps none [] s (kk l)).1=b∧(b=true→(kp Ps none [] s (kk l)).2=kk l')
structure Ft(s:Sm):Prop where
 ok:s.Ok
 fm:∀d,s.fm d=true
 sz:s.sz=1
 fl:s.fl=[s]
 sp:s.sp=s
def fj.len(h:fj ns)(hx:x∈ns):x.length≤1000:=by have:=(h.nm x hx).le;lia
def fj.s(h:fj ns)(hx:x∈ns):DP x=true:=JN (h.nm x hx)
section
variable {ns: List Str}{l: E2}{m: Nat}
def acw(h:fj ns)(hy:y∈ns):Ft (.say y):=⟨by unfold Sm.Ok;show h.len hy,λd=>by unfold Sm.fm;show h.s hy,by unfold Sm.sz;rfl,by unfold Sm.fl;rfl,rfl⟩
def abr(h:fj ns)(hy:y∈ns):Ft (.drop y):=⟨by unfold Sm.Ok;show h.len hy,λd=>by unfold Sm.fm;show h.s hy,by unfold Sm.sz;rfl,by unfold Sm.fl;rfl,rfl⟩
def oz(h:fj ns)(hx:x∈ns)(hy:y∈ns):Ft (.copy x y):=⟨by unfold Sm.Ok;show⟨h.len hx,h.len hy⟩,λd=>by unfold Sm.fm;rw[h.s hx,h.s hy];rfl,by unfold Sm.sz;rfl,by unfold Sm.fl;rfl,rfl⟩
def Loc(h:fj ns)(hx:x∈ns)(hy:y∈ns):Ft (.part x y []):=⟨by unfold Sm.Ok;show⟨h.len hx,h.len hy,by simp,λt m=>by cases m⟩,λd=>by unfold Sm.fm;rw[h.s hx,h.s hy];rfl,by unfold Sm.sz;rfl,by unfold Sm.fl;rfl,rfl⟩
def zC(h:fj ns)(hx:x∈ns)(n:Nat):Ft (.new x (D0 n) (Fi n)):=⟨by unfold Sm.Ok;show⟨h.len hx,(Qu n).1,(Qu n).2,(O3 n).2⟩,λd=>by unfold Sm.fm;rw[h.s hx,(O3 n).1];rfl,by unfold Sm.sz;rfl,by unfold Sm.fl;rfl,rfl⟩
def wU:jt (.say y) l l (l.lookup y).isSome:=λPs=>by
 rw[show kp Ps none [] (.say y) (kk l)=AE Ps none [] (.say y) (kk l)from rfl,AE,IJ,Fc];show⟨rfl,λ_=>rfl⟩
def acX:jt (.drop y) l l (l.lookup y).isSome:=λPs=>by
 rw[show kp Ps none [] (.drop y) (kk l)=AE Ps none [] (.drop y) (kk l)from rfl,AE,IJ,Fc,show Gd [] y=true from rfl,Gp];show⟨rfl,λ_=>rfl⟩
def oo(h:ir ns l m)(hn:n<3):jt (.new x (D0 n) (Fi n)) l (putN l x n) (decide ((l.lookup x).getD n=n)):=λPs=>by
 rw[show kp Ps none [] (.new x (D0 n) (Fi n)) (kk l)=AE Ps none [] (.new x (D0 n) (Fi n)) (kk l)from rfl,AE];have:=Si h (x:=x) hn;show⟨this.1,λe=>this.2 (by rw[this.1];show e)⟩
def qy(h:ir ns l m)(e:l.lookup y=some n):jt (.copy x y) l (putN l x n) (decide ((l.lookup x).getD n=n)):=λPs=>by
 rw[show kp Ps none [] (.copy x y) (kk l)=AE Ps none [] (.copy x y) (kk l)from rfl,AE,IJ,e];have:=Si h (x:=x) (h.nm _ (Cg e)).2;show⟨this.1,λe=>this.2 (by rw[this.1];show e)⟩
def rO(e:l.lookup y=none):jt (.copy x y) l l false:=λPs=>by
 rw[show kp Ps none [] (.copy x y) (kk l)=AE Ps none [] (.copy x y) (kk l)from rfl,AE,IJ,e];show⟨rfl,λz=>by cases z⟩
def rC(h:ir ns l m)(e:l.lookup y=some n):jt (.part x y []) l (putN l x n) (decide ((l.lookup x).getD n=n)):=λPs=>by
 rw[show kp Ps none [] (.part x y []) (kk l)=AE Ps none [] (.part x y []) (kk l)from rfl,AE,IJ,e];have:=Si h (x:=x) (h.nm _ (Cg e)).2;show⟨this.1,λe=>this.2 (by rw[←this.1]at e;show e)⟩
def uH(e:l.lookup y=none):jt (.part x y []) l l false:=λPs=>by
 rw[show kp Ps none [] (.part x y []) (kk l)=AE Ps none [] (.part x y []) (kk l)from rfl,AE,IJ,e];show⟨rfl,λz=>by cases z⟩
def jt.no{s:Sm}{l l2:E2}(h:jt s l l' false):jt s l l2 false:=λPs=>⟨(h Ps).1,λz=>by cases z⟩
end
abbrev E8(ns:List Str)(i:Nat):Str:=ns.getD (i%9) ""
section
variable {ns: List Str}
def fj.get(h:fj ns)(i:Nat):ns[i%9]?=some (E8 ns i):=by
 have:i%9<ns.length:=by rw[h.nl];lia
 unfold E8;rw[Hn,Bh this];rfl
def fj.at(h:fj ns)(i:Nat):CG (ns.map T.str) ((i%9:Nat):Int)=some (.str (E8 ns i)):=FA (by rw[FK,h.get i];rfl)
def fj.mem(h:fj ns)(i:Nat):E8 ns i∈ns:=MU (h.get i)
def fj.inj(h:fj ns){i:Nat}(e:E8 ns i=E8 ns j):i%9=j%9:=by
 let hi:i%9<ns.length:=by rw[h.nl];lia
 let hj:j%9<ns.length:=by rw[h.nl];lia
 let e1:=h.get i;let e2:=h.get j;rw[e,←e2,Bh hi,Bh hj]at e1;show(List.getElem_inj h.nd).mp (EJ e1)
def fj.draw(h:fj ns){x:Int}(hx:0≤x):∃z,z∈ns∧CG (ns.map T.str) (x%9)=some (.str z):=by
 show⟨E8 ns x.toNat,h.mem _,?_⟩;rw[show x%9=((x.toNat%9:Nat):Int)by lia];show h.at _
end
abbrev G0(d:Str×Nat):T:=.tup [.str d.1,.int d.2]
abbrev Ei:=List ((Str×Nat)×Nat)
abbrev FX(h:Str×Nat):List A7:=[.inr h.1,.inl (h.2:Int)]
abbrev Ek(hs:Ei):List (List A7×T):=hs.map λh=>(FX h.1,T.int (h.2:Int))
structure K0(ns:List Str)(ds:List (Str×Nat)):Prop where
 l1:1≤ds.length
 l3:ds.length≤3
 ok:∀d∈ds,d.1∈ns∧d.2<2
 nd:(ds.map (·.1)).Nodup
structure Gz(ns:List Str)(hs:Ei):Prop where
 l2:hs.length≤2
 ok:∀h∈hs,h.1.1∈ns∧h.1.2<2∧h.2<3
 nd:(hs.map (·.1)).Nodup
def kT{a b:Str×Nat}(h:FX a=FX b):a=b:=by
 unfold FX at h;injection h with h1 h2
 injection h1 with h1
 injection h2 with h2
 injection h2 with h2
 show L6 h1 (by lia)
def sI{k:Str×Nat}(h:Gz ns hs)(hl:hs.length≤1)(hk:k.1∈ns)(h2:k.2<2)(hn:n<3):∃gM,Ku (Ek hs) (FX k) (.int (n:Int))=Ek gM∧Gz ns gM∧gM.length≤hs.length+1:=by
 cases hs with
 |nil=>show⟨[(k,n)],rfl,⟨by simp,λx m=>by rw[aaB.mp m];show⟨hk,h2,hn⟩,by simp⟩,by simp⟩
 |cons a r=>
  have:r=[]:=by cases r with
   |nil=>rfl
   |cons _ _=>simp at hl
  subst this;let ha:=h.ok a (by simp);unfold Ku Ek;by_cases c:a.1=k
  ·show⟨[(a.1,n)],?_,⟨by simp,λx m=>by rw[aaB.mp m];show⟨ha.1,ha.2.1,hn⟩,by simp⟩,by simp⟩
   simp[c]
  ·let c2:¬FX a.1=FX k:=λe=>c (kT e)
   show⟨[a,(k,n)],?_,⟨by simp,λx m=>?_,by simp[c]⟩,by simp⟩
   ·simp[c2]
   ·rcases aaf.mp m with rfl|m
    ·show ha
    ·rw[aaB.mp m];show⟨hk,h2,hn⟩
def ab3(x:Int):∃m:Nat,CG [T.int 1,.int 2,.int 4] (x%3)=some (.int m)∧(m=1∨m=2∨m=4):=by
 rcases(show x%3=0∨x%3=1∨x%3=2 by lia)with e|e|e<;>rw[e]
 ·show⟨1,rfl,.inl rfl⟩
 ·show⟨2,rfl,.inr (.inl rfl)⟩
 ·show⟨4,rfl,.inr (.inr rfl)⟩
section
variable {K: W.Frag}
@[reducible]def QV:Stmt:=top 76
def hX:Aq ["row","names","doors","shelves","k"] ["row","names"] (Ac QV):=nofun
abbrev cU:Av:=λts Γ Z _=>∃(a b:Addr) (rs:List Int) (ns:List Str),ts=[.ref a,.ref b]∧Γ a=some (.lst (rs.map T.int))∧rs.length=4∧(∀r∈rs,0≤r)∧Γ b=some (.lst (ns.map T.str))∧fj ns∧∀(Γ':AJ) (pd ph:Addr) (ds:List (Str×Nat)) (hs:Ei),Le Γ Γ'→Γ' pd=some (.lst (ds.map G0))→Γ' ph=some (.dT (Ek hs))→K0 ns ds→Gz ns hs→Z (.tup [.ref pd,.ref ph]) Γ'
def acE(F:cJ K "_law_begun" "_law_begun" QV f fd)(cB:mg "range" = none):bc P w K mg am Am 1 f fd ["row","names"] (Ak cU):=by
 show B3 F hX (λts Γ Z Y h=>?_) (λcb A outer s H E ts Γ Z Y hr h=>?_)
 ·let⟨_,_,_,_,rfl,_⟩:=h
  rfl
 let⟨a,b,rs,ns,rfl,ga,rl,rp,gb,no,q⟩:=h;show⟨_,(A3 (dw (i:=2) (own:=["k"]) (cap:=[(1,"names"),(0,"row")]) (Fj rfl (by done) (by done) rfl (⟨rfl,⟨rfl,trivial⟩⟩) rfl (⟨⟨rfl,rfl,rfl⟩,⟨⟨rfl,rfl,rfl⟩,trivial⟩⟩)) rfl (Je rfl cB (A0 (Aa Ez A9 (Aa C0 (AO (qv 0) A9) A9)) A5)) (λ_ _ _ _=>(Bb (i:=0) (show List.Nodup (["k","names","row"]:List Str)from by done) rfl (Or.inl rfl) (Or.inr rfl))) (λ_ _ _ _=>Dv) (λ_ _ _ _=>(BM (A0 (AO (qv 1) (Aa C0 (Aa Ez (Aa HQ (AO (qv 2) A9) A9) (qv 0)) A9)) (A0 (Aa C0 (Aa HQ (AO (qv 2) A9) (AO (DA (A0 A9 (A0 A9 (A0 A9 A5)))) (qv 0))) A9) A5)))) hX.nd rfl rfl)
  (A3 (As (i:=3) hX.nd yD)
  (A3 (Fo GJ rfl (Je rfl cB (A0 (Aa C0 (AO (qv 0) A9) A9) A5)) (Aj (i:=4) hX.nd) (A3 (uw (BA (BP (by decide:1≤64) _) hr.units) (qv 3) (BM (A0 (AO (qv 1) (Aa C0 (Aa Ez (Aa HQ (AO (qv 0) A9) A9) (Aa M7 (qv 4) (Aa C0 (Aa HQ (AO (qv 0) A9) A9) A9))) A9)) (A0 (Aa C0 (Aa HQ (AO (qv 0) A9) (AO (DA (A0 A9 (A0 A9 A5))) (qv 4))) A9) A5))) (Aa C0 (Aa HQ (AO (qv 0) A9) A9) A9))
  A8))
  (A3 (AN (BM (A0 (qv 2) (A0 (qv 3) A5))))
  A8)))),?_⟩
 simp only[Ap];let⟨x0,m0,_,e0⟩:=Dx (ns:=rs) (j:=0) (by lia);let⟨x1,m1,_,e1⟩:=Dx (ns:=rs) (j:=1) (by lia);let⟨x2,m2,_,e2⟩:=Dx (ns:=rs) (j:=2) (by lia);let⟨x3,m3,_,e3⟩:=Dx (ns:=rs) (j:=3) (by lia);let p0:=rp x0 m0;let p1:=rp x1 m1;let p2:=rp x2 m2;let p3:=rp x3 m3;left;show B0 ga e0 ?_;left;obtain⟨dn,edn,dn1,dn3⟩:∃n:Nat,1+x0%3=(n:Int)∧1≤n∧n≤3:=⟨(1+x0%3).toNat,by lia,by lia,by lia⟩;rw[edn];obtain⟨A,eA⟩:∃n:Nat,x0/3=(n:Int):=⟨(x0/3).toNat,by lia⟩;show⟨dn,rfl,by lia,by lia,by rw[JL,CN];simp;lia,λv4 τ ys Γ'=>∃(j c:Nat) (ds:List (Str×Nat)) (o:Option T),τ=[o,some (.ref b),some (.ref a)]∧v4=EB j c∧j+c=dn∧ys=ds.map G0∧ds.map (·.1)=(List.range j).map (λk=>E8 ns (A+k))∧(∀d∈ds,d.2<2)∧Le Γ Γ',?_,?_,?_⟩
 ·show Ψ4 0 dn [] none ⟨rfl,rfl,by lia,rfl,rfl,(λd m=>nomatch m),.refl⟩
 rotate_left
 ·intro x rr τ ys Γ'⟨j,c,ds,o,rfl,e,jc,rfl,dm,d2,le⟩
  let⟨c',rfl,rfl,rfl⟩:=Jn e;left;show B0 (le _ _ ga) e0 ?_;left;rw[eA];rw[show((A:Int)+(j:Int))%9=(((A+j)%9:Nat):Int)by lia];show B0 (le _ _ gb) (no.at (A+j)) ?_;left;show B0 (le _ _ ga) e1 ?_;left;clear p5 Iy f5 Γ5 g5 l5
  left;obtain⟨DB,WL,hmm⟩:∃m:Nat,CG [T.int 1,.int 2,.int 4] (j:Int)=some (.int m)∧(m=1∨m=2∨m=4):=by
   have:=ab3 (j:Int);rw[show(j:Int)%3=j by lia]at this;show this
  show B0 g5 WL ?_;left;show FR (show uA x1 (DB:Int)from⟨by lia,Int.lt_of_lt_of_le (b:=5) (by lia) (by decide)⟩) ?_;left;obtain⟨sd,WK,U0⟩:∃n:Nat,x1/(DB:Int)%2=(n:Int)∧n<2:=⟨(x1/(DB:Int)%2).toNat,by lia,by lia⟩;rw[WK];show Ψ4 (j+1) c' (ds++[(E8 ns (A+j),sd)]) _ ⟨rfl,rfl,by lia,by rw[Ad];rfl,by rw[Ad,dm,Qe,Ad];rfl,λd m=>?_,le.trans l5⟩;rcases aaG.mp m with m|m
  ·show d2 d m
  ·rw[aaB.mp m];show U0
 intro τ ys Γ'⟨j,c,ds,o,rfl,e,jc,rfl,dm,d2,le⟩;let hc:=LO e;let hj:j=dn:=by lia
 subst hj;show⟨trivial,λpd hpd=>?_⟩;revert pd hpd f1 Γ1 g1 l1
 let dl:ds.length=j:=by have:=DV List.length dm;simpa using this
 let Ui:K0 ns ds:=by
  show⟨by lia,by lia,λd m=>⟨?_,d2 d m⟩,?_⟩
  ·have:d.1∈ds.map (·.1):=aam.mpr ⟨d,m,rfl⟩
   rw[dm]at this;let⟨k,_,e⟩:=aam.mp this;rw[←e];show no.mem _
  ·rw[dm]
   show ab5.mpr (QQ (λ{i k} hi hk ne e=>?_) (List.nodup_range (n:=j)));have:=no.inj e;have:=abM.mp hi;have:=abM.mp hk;lia
 left;intro ph Yi;generalize f2:AA _ ph (O.dT _)=Γ2;let g2:=B4 f2;let l2:=B8 f2 Yi
 let Vx:=(le.trans l1).trans l2;left;show B0 (Vx _ _ ga) e2 ?_;left;obtain⟨hn,ehn,RY⟩:∃n:Nat,x2%3=(n:Int)∧n≤2:=⟨(x2%3).toNat,by lia,by lia⟩;rw[ehn];show⟨hn,rfl,by lia,by lia,?_⟩;show⟨λv4 τ Γ'=>∃(i c:Nat) (hs:Ei) (o4:Option T),v4=EB i c∧i+c=hn∧τ=[some (.ref a),some (.ref b),some (.ref pd),some (.ref ph),o4]∧Le Γ Γ'∧Γ' pd=some (.lst (ds.map G0))∧Γ' ph=some (.dT (Ek hs))∧Gz ns hs∧hs.length≤i,?_,?_,?_⟩
 ·show Ψ4 0 hn [] none ⟨rfl,by lia,rfl,Vx,l2 _ _ g1,g2,⟨by simp,(λh m=>nomatch m),by simp⟩,Ah _⟩
 ·intro τ Γ'⟨i,c,hs,o4,er,ic,rfl,Gn,AE,gh,ho,hl⟩
  show⟨trivial,?_⟩;left;show AB .refl (q Γ' pd ph ds hs Gn AE gh Ui ho)
 intro x r τ Γ'⟨i,c,hs,o4,er,ic,rfl,Gn,AE,gh,ho,hl⟩;let⟨c',rfl,rfl,rfl⟩:=Jn er;unfold VN;left;show B0 (Gn _ _ ga) e3 ?_;left;show B0 (Gn _ _ ga) e2 ?_;left;show B0 (Gn _ _ ga) e2 ?_;left;show FR (.inl ⟨by lia,by lia⟩) ?_;left;let⟨z,hz,ez⟩:=no.draw (x:=x2/3+(i:Int)*(x2/27%3)) (by
  have:(0:Int)≤(i:Int)*(x2/27%3):=Int.mul_nonneg (by lia) (by lia);lia)
 show B0 (Gn _ _ gb) ez ?_;left;show B0 (Gn _ _ ga) e3 ?_;left;clear p5 Iy f5 Γ5 g5 l5
 left;let i2:i=0∨i=1:=by lia
 obtain⟨DB,WL,hmm⟩:∃m:Nat,CG [T.int 1,.int 2] (i:Int)=some (.int m)∧(m=1∨m=2):=by
  rcases i2 with rfl|rfl
  ·show⟨1,rfl,.inl rfl⟩
  ·show⟨2,rfl,.inr rfl⟩
 show B0 g5 WL ?_;left;show FR (show uA x3 (DB:Int)from⟨by lia,Int.lt_of_lt_of_le (b:=5) (by lia) (by decide)⟩) ?_;left;obtain⟨sd,WK,U0⟩:∃n:Nat,x3/(DB:Int)%2=(n:Int)∧n<2:=⟨(x3/(DB:Int)%2).toNat,by lia,by lia⟩;obtain⟨nu,enu,nu3⟩:∃n:Nat,x3/4%3=(n:Int)∧n<3:=⟨(x3/4%3).toNat,by lia,by lia⟩;rw[WK,enu];let⟨gM,eh,pZ,Yn⟩:=sI (k:=(z,sd)) ho (by lia) hz U0 nu3;show Ψ3 ph _ (FX (z,sd)) ⟨rfl,rfl,l5 _ _ gh,by unfold Ek;rw[AM,CN];have:=ho.l2;lia,?_⟩;rw[eh];left;let npd:pd≠ph:=Lu (l5 _ _ AE) (l5 _ _ gh) (by simp);show Ψ4 (i+1) c' gM _ ⟨rfl,by lia,rfl,λx o h=>?_,by rw[AZ npd];show l5 _ _ AE,Ae,pZ,by lia⟩;rw[AZ (λe=>by
  let h1:=Vx _ _ h;let h0:=(le.trans l1) _ _ h;rw[e,Yi]at h0;cases h0)]
 show l5 _ _ (Gn _ _ h)
end
abbrev D1(hs:Ei)(sd:Nat):E2:=(hs.filter λh=>decide (h.1.2=sd)).map λh=>(h.1.1,h.2)
def MX(a b:Ei)(sd:Nat):D1 (a++b) sd=D1 a sd++D1 b sd:=by unfold D1;rw[OF,Ad]
def jJ:∀{g:(Str×Nat)×Nat},g∈hs→(hs.map (·.1)).Nodup→G5 (Ek hs) (FX g.1)=some (.int (g.2:Int)):=by
 induction hs with
 |nil=>intro g m;cases m
 |cons a r ih=>
  intro g m nd;rw[BU,abd]at nd;unfold G5 Ek;rw[BU,Et];rcases aaf.mp m with rfl|m
  ·rw[Bi rfl];rfl
  ·let c:¬FX a.1=FX g.1:=λe=>nd.1 (aam.mpr ⟨g,m,(kT e).symm⟩)
   rw[DN c];show ih m nd.2
def cA{sd:Nat}(h:Gz ns hs):ir ns (D1 hs sd) 2:=by
 show⟨?_,λp m=>?_,?_⟩
 ·unfold D1
  rw[D2];show ab5.mpr ?_;let h1:=List.Pairwise.filter (λh=>decide (h.1.2=sd)) (ab5.mp h.nd);show QQ (λ{a b} ha hb ne e=>ne ?_) h1;let ha:=Cc (abw.mp ha).2;let hb:=Cc (abw.mp hb).2;show L6 e (by rw[ha,hb])
 ·unfold D1 at m
  let⟨x,hx,rfl⟩:=aam.mp m;have:=h.ok x (abw.mp hx).1;show⟨this.1,this.2.2⟩
 ·unfold D1
  rw[AM];show Cu (U8 _ _) h.l2
section
variable {K: W.Frag}
@[reducible]def UP:Stmt:=top 77
def iU:Aq ["begun","at","known","name","side"] ["begun","at"] (Ac UP):=nofun
abbrev aD:Av:=λts Γ Z _=>∃(pd ph:Addr) (i:Nat) (d:Str×Nat) (ds:List (Str×Nat)) (hs:Ei) (ns:List Str),ts=[.tup [.ref pd,.ref ph],.int (i:Int)]∧Γ pd=some (.lst (ds.map G0))∧Γ ph=some (.dT (Ek hs))∧Gz ns hs∧ds[i]?=some d∧∀Γ' p,Le Γ Γ'→Γ p=none→Γ' p=some (.dK (Cz (D1 hs d.2)))→Z (.ref p) Γ'
def uL(F:cJ K "_law_here" "_law_here" UP f fd):bc P w K mg am Am 1 f fd ["begun","at"] (Ak aD):=by
 show B3 F iU (λts Γ Z Y h=>?_) (λcb A outer s H E ts Γ Z Y hr h=>?_)
 ·let⟨_,_,_,_,_,_,_,rfl,_⟩:=h
  rfl
 let⟨pd,ph,i,d,ds,hs,ns,rfl,AE,gh,ho,hd,q⟩:=h;show⟨_,(A3 (As (i:=2) iU.nd yY)
  (A3 (iY rfl rfl (Fo GJ rfl (TS rfl rfl (AO (qv 0) A9)) (Bn (n:=2) rfl (AS (Aj (i:=3) iU.nd) (AS (Aj (i:=4) iU.nd) Bu))) (A3 (B1 (Ag (B2 Bm (qv 4) (AO (AO (AO (qv 0) A9) (qv 1)) A9)) (A3 (OC (BA (BP (by decide:1≤64) _) hr.units) (qv 2) (qv 3) (Mf rfl rfl (BA (BP (by decide:1≤64) _) hr.units) (AO (qv 0) A9) (BM (A0 (qv 3) (A0 (qv 4) A5)))))
  A8) A8))
  A8)))
  (A3 (AN (qv 2))
  A8))),?_⟩
 simp only[Ap];left;intro pk Gr;generalize f1:AA _ pk (O.dK _)=Γ1;let g1:=B4 f1;let l1:=B8 f1 Gr
 left;unfold R3;left;unfold Oy;left;let Vq:ph≠pk:=Bl gh Gr;let ndh:pd≠ph:=Lu AE gh (by simp);let ndk:pd≠pk:=Bl AE Gr;show⟨ph,rfl,.inl ⟨_,l1 _ _ gh,λo=>?_⟩⟩;show⟨λv4 τ Γ'=>∃(gs es:Ei) (o3 o4:Option T),v4=gs.map (λh=>T.tup [.str h.1.1,.int (h.1.2:Int)])∧hs=es++gs∧τ=[some (.tup [.ref pd,.ref ph]),some (.int (i:Int)),some (.ref pk),o3,o4]∧(∀x u,Γ x=some u→x≠ph→Γ' x=some u)∧Γ' ph=some (.fzT P w o (Ek hs))∧Γ' pk=some (.dK (Cz (D1 es d.2))),Ψ4 hs [] none none ⟨by unfold Ek;rw[D2];rfl,rfl,rfl,λx u h n=>by rw[AZ n];show l1 _ _ h,Ae,by rw[AZ (C3 Vq)];show g1⟩,?_,?_⟩
 ·intro τ Γ'⟨gs,es,o3,o4,er,ez,rfl,le,gz,gk⟩
  let hg:gs=[]:=by
   cases gs with
   |nil=>rfl
   |cons _ _=>cases er
  subst hg;rw[BN]at ez;subst ez;show⟨gz,_,Ψ2 ph o (.inl ⟨_,gz,rfl⟩),?_⟩;left;show AB .refl (q _ pk (λx u h=>?_) Gr (by rw[AZ (C3 Vq)];show gk));by_cases c:x=ph
  ·subst c;rw[Ae,←gh];show h
  ·rw[AZ c];show le x u h c
 intro x r τ Γ'⟨gs,es,o3,o4,er,ez,rfl,le,gz,gk⟩;cases gs with
 |nil=>cases er
 |cons g gs=>
  injection er with e1 e2
  subst e1 e2;let gm:g∈hs:=by rw[ez];simp
  show⟨gz,?_⟩;left;show⟨λτ Γ''=>∃o3 o4,τ=[some (.tup [.ref pd,.ref ph]),some (.int (i:Int)),some (.ref pk),o3,o4]∧(∀x u,Γ x=some u→x≠ph→Γ'' x=some u)∧Γ'' ph=some (.fzT P w o (Ek hs))∧Γ'' pk=some (.dK (Cz (D1 (es++[g]) d.2))),?_,?_⟩;rotate_left
  ·intro τ Γ''⟨o3,o4,rfl,Gn,gz',N3⟩
   left;show Ψ4 gs (es++[g]) _ _ ⟨rfl,by rw[ez];simp,rfl,Gn,gz',N3⟩
  left;show B0 (le _ _ AE ndh) (FA (v:=G0 d) (by rw[FK,hd];rfl)) ?_;unfold G0;left;let ed:decide (V.int (g.1.2:Int)=V.int (d.2:Int))=decide (g.1.2=d.2):=aba.mpr ⟨λe=>by have:=V.int.inj e;lia,λe=>by rw[e]⟩;rw[ed];show AU (λc=>?_) (λc=>?_)
  ·let c:=Cc c
   left;unfold MW Nv;left;show Ψ3 ph o (.int (g.2:Int)) ⟨rfl,.inr ⟨_,FX g.1,gz,rfl,jJ gm ho.nd⟩,?_⟩;left;let h2:=(cA (sd:=d.2) ho);let hl:(D1 es d.2).length≤2:=by
    have:=h2.ln;rw[ez,MX,BO]at this;lia
   show Ψ3 pk _ (.inr g.1.1) ⟨rfl,rfl,gk,by rw[AM,CN];lia,?_⟩;left;show Ψ2 _ _ ⟨rfl,λx u h n=>?_,by rw[AZ Vq];show gz,?_⟩
   ·rw[AZ (Bl h Gr)];show le x u h n
   ·rw[Ae,MX,show D1 [g] d.2=[(g.1.1,g.2)]by unfold D1;simp[c]]
    show DV (λx=>some (O.dK x)) (J9 (λn:Nat=>T.int (n:Int)) (v:=g.2) (dq.mpr λm=>?_));let nd:=h2.nd;rw[ez,MX,Ad,aaK]at nd;show nd.2.2 _ m g.1.1 ?_ rfl;unfold D1;simp[c]
  ·let c:=Eu c
   left;show Ψ2 _ _ ⟨rfl,le,gz,?_⟩;rw[MX,show D1 [g] d.2=[]by unfold D1;simp[c],BN];show gk
end
def eC(h:(!b)=true):b=false:=by cases b with
 |false=>rfl
 |true=>cases h
def ZS(h:(!b)=false):b=true:=by cases b with
 |true=>rfl
 |false=>cases h
def KY{ts:List (A7×T)}(g:Γ a=some (.dK ts)):EA Γ (.ref a)=some "dict" := by
 show(match Γ a with|some (.lst _)=>some "list" |some (.dK _)=>some "dict" |_=>none)=_
 rw[g]
abbrev Jl:Bool→Str→Str→Sm
 |true,x,y=>.part x y []
 |false,x,y=>.copy x y
section
variable {ns: List Str}{l: E2}{m: Nat}
def qK(h:fj ns)(hx:x∈ns)(hy:y∈ns):Ft (Jl b x y):=by
 cases b with
 |true=>show Loc h hx hy
 |false=>show oz h hx hy
def aaM(h:ir ns l m)(e:l.lookup y=some n):jt (Jl b x y) l (putN l x n) (decide ((l.lookup x).getD n=n)):=by
 cases b with
 |true=>show rC h e
 |false=>show qy h e
def adm(e:l.lookup y=none):jt (Jl b x y) l l false:=by
 cases b with
 |true=>show uH e
 |false=>show rO e
def Jt(l:E2)(x:Str)(n:Nat):(DQ (Cz l) (.inr x)).getD (.int (n:Int))=.int (((l.lookup x).getD n:Nat):Int):=by
 rw[Cb];cases l.lookup x<;>rfl
def cG(l:E2):((Cz l).map λq=>D7 q.1)=(l.map (·.1)).map T.str:=by
 rw[D2,D2];rfl
end
section
variable {K: W.Frag}
@[reducible]def QA:Stmt:=top 78
def cR:Aq ["word","known","names","odd","r","y","x","number","one"] ["word","known","names","odd","r"] (Ac QA):=nofun
abbrev UM:Av:=λts Γ Z _=>∃(wd:Str) (pk pn pr:Addr) (l:E2) (ns:List Str) (od:Bool) (rs:List Int) (m:Nat),ts=[.str wd,.ref pk,.ref pn,.bl od,.ref pr]∧(wd = "say" ∨ wd = "copy" ∨ wd = "part" ∨ wd = "drop")∧Γ pk=some (.dK (Cz l))∧Γ pn=some (.lst (ns.map T.str))∧Γ pr=some (.lst (rs.map T.int))∧rs.length=5∧(∀r∈rs,0≤r)∧fj ns∧ir ns l m∧m≤63∧∀Γ' s l' b,Kq [pk] Γ Γ'→Γ' pk=some (.dK (Cz l'))→ir ns l' (m+1)→Ft s→jt s l l' b→Z (.tup [s.tr,.bl b]) Γ'
def aaL(F:cJ K "_law_using" "_law_using" QA f fd)(aB:mg "len" = none)(ix:mg "sorted" = none)(oE:mg "list" = none):bc P w K mg am Am 1 f fd ["word","known","names","odd","r"] (Ak UM):=by
 show B3 F cR (λts Γ Z Y h=>?_) (λcb A outer s H E ts Γ Z Y hr h=>?_)
 ·let⟨_,_,_,_,_,_,_,_,_,rfl,_⟩:=h
  rfl
 obtain⟨wd,pk,pn,pr,l,ns,od,rs,m,rfl,hw,gk,gn,gr,rl,rp,no,ko,Vt,q⟩:=h;show⟨_,(A3 (B1 (As (i:=5) cR.nd (AO (qv 2) (Aa C0 (AO (qv 4) A9) A9))))
  (A3 (B1 (Ag (PW.pt (Hq (BL (BI (qv 3))) (IM (B2 JF (Ar KD rfl aB BC (A0 (qv 1) A5)) A9)))) (A3 (B1 (As (i:=5) cR.nd (AO (Ar (UR) rfl ix Qi (A0 (IK (iT rfl) rfl oE eG (A0 (qv 1) A5)) A5)) (Aa C0 (AO (qv 4) A9) (Ar KD rfl aB BC (A0 (qv 1) A5))))))
  A8) A8))
  (A3 (Ag (PW.pt (CQ (B2 Bm (qv 0) Al) (D3 (B2 Bm (qv 0) Al)))) (A3 (AN (BM (A0 (BM (A0 (qv 0) (A0 (qv 5) A5))) (A0 (HF (Mb (BA (BP (by decide:1≤64) _) hr.units)) (qv 5) (qv 1) (by with_unfolding_all rfl)) A5))))
  A8) A8)
  (A3 (B1 (As (i:=6) cR.nd (AO (qv 2) (Aa C0 (AO (qv 4) A9) A9))))
  (A3 (B1 (As (i:=7) cR.nd (E0 GI F4 HN (Ja (BA (BP (by decide:1≤64) _) hr.units)) (qv 1) (A0 (qv 5) (A0 A9 A5)))))
  (A3 (B1 (Ag (PW.pt (Hq (BL (BI (qv 3))) (IM (B2 E3 (E0 GI F4 HN (Ja (BA (BP (by decide:1≤64) _) hr.units)) (qv 1) (A0 (qv 6) (A0 (qv 7) A5))) (qv 7))))) (A3 (B1 (As (i:=6) cR.nd (qv 5)))
  A8) A8))
  (A3 (B1 (As (i:=8) cR.nd (BM (A0 Al (A0 (qv 6) (A0 (qv 5) A5))))))
  (A3 (B1 (Ag (B2 Bm (qv 0) Al) (A3 (B1 (As (i:=8) cR.nd (BM (A0 Al (A0 (qv 6) (A0 (qv 5) (A0 (BM A5) A5)))))))
  A8) A8))
  (A3 (Ag (PW.pt (CQ (L0 (eZ (BA (BP (by decide:1≤64) _) hr.units)) (qv 5) (qv 1) (by with_unfolding_all rfl)) (D3 (B2 E3 (E0 GI F4 HN (Ja (BA (BP (by decide:1≤64) _) hr.units)) (qv 1) (A0 (qv 6) (A0 (qv 7) A5))) (qv 7))))) (A3 (AN (BM (A0 (qv 8) (A0 BE A5))))
  A8) A8)
  (A3 (B1 (OC (BA (BP (by decide:1≤64) _) hr.units) (qv 1) (qv 6) (qv 7)))
  (A3 (AN (BM (A0 (qv 8) (A0 BE A5))))
  A8))))))))))),?_⟩
 simp only[Ap];let⟨x1,m1,_,e1⟩:=Dx (ns:=rs) (j:=1) (by lia);let⟨x3,m3,_,e3⟩:=Dx (ns:=rs) (j:=3) (by lia);let p1:=rp x1 m1;let p3:=rp x3 m3;let kl:=ko.ln;left;show⟨λτ Γ'=>∃y,τ=[some (.str wd),some (.ref pk),some (.ref pn),some (.bl od),some (.ref pr),some (.str y),none,none,none]∧Γ=Γ'∧y∈ns,?_,?_⟩
 ·left
  show B0 gr e1 ?_;left;let⟨z,hz,ez⟩:=no.draw p1;show B0 gn ez ?_;left;show⟨z,rfl,rfl,hz⟩
 intro τ Γ'⟨y0,rfl,rfl,T2⟩;left;show⟨λτ Γ'=>∃y,τ=[some (.str wd),some (.ref pk),some (.ref pn),some (.bl od),some (.ref pr),some (.str y),none,none,none]∧Le Γ Γ'∧y∈ns,?_,?_⟩
 ·left
  show AU (λc=>?_) (λc=>?_)
  ·left
   show Ψ2 pk _ ⟨rfl,gk,?_⟩;exists c2
   ·let c2:=Cc c2
    rw[AM]at c2;left;show⟨λτ Γ'=>∃y,τ=[some (.str wd),some (.ref pk),some (.ref pn),some (.bl od),some (.ref pr),some (.str y),none,none,none]∧Le Γ Γ'∧y∈ns,?_,?_⟩
    ·left
     show Ψ2 pk _ ⟨rfl,gk,λp hp=>?_⟩;rw[cG];revert p hp f2 Γ2 g2 l2
     left;show Ψ2 p _ ⟨rfl,g2,by rw[AM];lia,λms a pm _ ha=>?_⟩;revert a ha f3 Γ3 g3 l3
     let le:=l2.trans l3;left;show B0 (le _ _ gr) e1 ?_;left;show Ψ2 pk _ ⟨rfl,le _ _ gk,?_⟩;rw[AM];left;show FR c2 ?_;let ml:ms.length=l.length:=by rw[pm.length_eq,AM]
     let⟨z,ez,hz⟩:=K8 (xs:=ms.map T.str) (r:=x1%(l.length:Int)) (Eh _ (by lia)) (by rw[AM,ml];show FN _ c2);let⟨y,hy,rfl⟩:=aam.mp hz;show B0 g3 ez ?_;left;let⟨p',oZ,e'⟩:=aam.mp (pm.mem_iff.mp hy);show⟨y,rfl,le,by rw[←e'];show(ko.nm p' oZ).1⟩
    intro τ Γ'⟨y,rfl,le,hy⟩;left;show⟨y,rfl,le,hy⟩
   ·left
    show⟨y0,rfl,.refl,T2⟩
  ·left
   show⟨y0,rfl,.refl,T2⟩
 intro τ Γ1⟨y,rfl,l1,hy⟩;let dn:∀Γ' s b,Le Γ Γ'→Ft s→jt s l l b→Z (.tup [s.tr,.bl b]) Γ':=λΓ' s b le h1 hf=>q Γ' s l b (λx o _ h=>le x o h) (le _ _ gk) (ko.le (BR _)) h1 hf;by_cases hs:wd = "say"
 ·subst hs
  left;show Ψ3 pk _ (.inr y) ⟨rfl,rfl,l1 _ _ gk,?_⟩;rw[Cb,Fc];left;have:=dn Γ1 (.say y) _ l1 (acw no hy) wU;rw[Sm.tr]at this;show AB .refl this
 by_cases Wd:wd = "drop"
 ·subst Wd
  left;show Ψ3 pk _ (.inr y) ⟨rfl,rfl,l1 _ _ gk,?_⟩;rw[Cb,Fc];left;have:=dn Γ1 (.drop y) _ l1 (abr no hy) acX;rw[Sm.tr]at this;show AB .refl this
 let hcp:wd = "copy" ∨ wd = "part" := by
  rcases hw with h|h|h|h
  ·show absurd h hs
  ·show .inl h
  ·show .inr h
  ·show absurd h Wd
 let JA:∀{a b:Str},a≠b→decide (V.str a=V.str b)=false:=λh=>DN λe=>h (V.str.inj e);left;show JK (JA hs) ?_;left;show JK (JA Wd) ?_;left;show⟨λτ Γ'=>∃x,τ=[some (.str wd),some (.ref pk),some (.ref pn),some (.bl od),some (.ref pr),some (.str y),some (.str x),none,none]∧Γ1=Γ'∧x∈ns,?_,?_⟩
 ·left
  show B0 (l1 _ _ gr) e3 ?_;left;let⟨z,hz,ez⟩:=no.draw p3;show B0 (l1 _ _ gn) ez ?_;left;show⟨z,rfl,rfl,hz⟩
 intro τ Γ'⟨x0,rfl,rfl,Yf⟩;left;show⟨λτ Γ'=>τ=[some (.str wd),some (.ref pk),some (.ref pn),some (.bl od),some (.ref pr),some (.str y),some (.str x0),some (.int (((l.lookup y).getD 0:Nat):Int)),none]∧Γ1=Γ',?_,?_⟩
 ·left
  show⟨KY (l1 _ _ gk),?_⟩;left;show Ψ4 pk _ (.inr y) _ ⟨rfl,rfl,l1 _ _ gk,?_⟩;rw[show(T.int 0)=T.int ((0:Nat):Int)from rfl,Jt];left;show⟨rfl,rfl⟩
 intro τ Γ'⟨rfl,rfl⟩;generalize RW:(l.lookup y).getD 0=num;left;show⟨λτ Γ'=>∃x,τ=[some (.str wd),some (.ref pk),some (.ref pn),some (.bl od),some (.ref pr),some (.str y),some (.str x),some (.int (num:Int)),none]∧Γ1=Γ'∧x∈ns,?_,?_⟩
 ·left
  show AU (λc=>?_) (λc=>?_)
  ·left
   show⟨KY (l1 _ _ gk),?_⟩;left;show Ψ4 pk _ (.inr x0) _ ⟨rfl,rfl,l1 _ _ gk,?_⟩;rw[Jt];exists c2
   ·left
    show⟨λτ Γ'=>τ=[some (.str wd),some (.ref pk),some (.ref pn),some (.bl od),some (.ref pr),some (.str y),some (.str y),some (.int (num:Int)),none]∧Γ1=Γ',?_,?_⟩
    ·left
     show⟨rfl,rfl⟩
    intro τ Γ'⟨rfl,rfl⟩;left;show⟨y,rfl,rfl,hy⟩
   ·left
    show⟨x0,rfl,rfl,Yf⟩
  ·left
   show⟨x0,rfl,rfl,Yf⟩
 intro τ Γ'⟨x,rfl,rfl,hx⟩;left;show⟨λτ Γ'=>τ=[some (.str wd),some (.ref pk),some (.ref pn),some (.bl od),some (.ref pr),some (.str y),some (.str x),some (.int (num:Int)),some (.tup [.str "copy",.str x,.str y])]∧Γ1=Γ',?_,?_⟩
 ·left
  show⟨rfl,rfl⟩
 intro τ Γ'⟨rfl,rfl⟩;left;show⟨λτ Γ'=>∃b,τ=[some (.str wd),some (.ref pk),some (.ref pn),some (.bl od),some (.ref pr),some (.str y),some (.str x),some (.int (num:Int)),some (Jl b x y).tr]∧Γ1=Γ',?_,?_⟩
 ·rcases hcp with rfl|rfl
  ·left
   show⟨false,by rw[show(Jl false x y).tr=T.tup [.str "copy",.str x,.str y]by show(Sm.copy x y).tr=_;rw[Sm.tr]],rfl⟩
  ·left
   show⟨λτ Γ'=>τ=[some (.str "part"),some (.ref pk),some (.ref pn),some (.bl od),some (.ref pr),some (.str y),some (.str x),some (.int (num:Int)),some (.tup [.str "part",.str x,.str y,.tup []])]∧Γ1=Γ',?_,?_⟩
   ·left
    show⟨rfl,rfl⟩
   intro τ Γ'⟨rfl,rfl⟩;left;show⟨true,by rw[show(Jl true x y).tr=T.tup [.str "part",.str x,.str y,.tup []]by show(Sm.part x y []).tr=_;rw[Sm.tr]],rfl⟩
 intro τ Γ'⟨b,rfl,rfl⟩;let h1:=qK (b:=b) no hx hy;left;show Ψ3 pk _ (.inr y) ⟨rfl,rfl,l1 _ _ gk,?_⟩;rw[Cb,Fc];cases ey:l.lookup y with
 |none=>
  left;show AB .refl (dn _ _ _ l1 h1 (adm ey))
 |some n=>
  let hn:n=num:=by rw[ey]at RW;show RW
  subst hn;let hf:=aaM (b:=b) (x:=x) ko ey;left;show⟨KY (l1 _ _ gk),?_⟩;left;show Ψ4 pk _ (.inr x) _ ⟨rfl,rfl,l1 _ _ gk,?_⟩;rw[Jt];left;let ed:decide (V.int (((l.lookup x).getD n:Nat):Int)=V.int (n:Int))=decide ((l.lookup x).getD n=n):=aba.mpr ⟨λe=>by have:=V.int.inj e;lia,λe=>by rw[e]⟩;rw[ed];show AU (λc=>?_) (λc=>?_)
  ·rw[eC c]at hf
   left;show AB .refl (dn _ _ _ l1 h1 hf.no)
  ·let c:=ZS c
   rw[c]at hf;let hc:=Cc c;left;show⟨λτ Γ'=>τ=[some (.str wd),some (.ref pk),some (.ref pn),some (.bl od),some (.ref pr),some (.str y),some (.str x),some (.int (n:Int)),some (Jl b x y).tr]∧Kq [pk] Γ Γ'∧Γ' pk=some (.dK (Cz (putN l x n))),?_,?_⟩
   ·unfold MW
    left;show Ψ3 pk _ (.inr x) ⟨rfl,rfl,l1 _ _ gk,by rw[AM,CN];lia,?_⟩;rw[bx ko hc];show⟨rfl,λb o nb h=>(Kq.set (l:=[pk]) (by simp) _) b o nb (l1 _ _ h),Ae⟩
   intro τ Γ'⟨rfl,VC,N3⟩;left;show AB .refl (q Γ' _ _ _ VC N3 (ko.put hx (ko.nm _ (Cg ey)).2) h1 hf)
end
def gg(h:n<3):CG [T.tup [.str "text"],.tup [.str "num",.int 2],.tup [.str "row",.tup [.str "text"]]] (n:Int)=some (D0 n).tr:=by
 rcases Pf h with rfl|rfl|rfl
 ·show some _=some (Kd.text).tr;rw[Kd.tr]
 ·show some _=some (Kd.num 2).tr;rw[Kd.tr]
 ·show some _=some (Kd.row .text).tr;rw[Kd.tr,Kd.tr]
def eD(h:n<3):CG [T.str "a",.int 7,.tup []] (n:Int)=some (Fi n):=by
 rcases Pf h with rfl|rfl|rfl<;>rfl
section
variable {K: W.Frag}
@[reducible]def QH:Stmt:=top 79
def cF:Aq ["known","names","odd","r","word","x","number","one"] ["known","names","odd","r"] (Ac QH):=nofun
abbrev bK:Av:=λts Γ Z _=>∃(pk pn pr:Addr) (l:E2) (ns:List Str) (od:Bool) (rs:List Int) (m:Nat),ts=[.ref pk,.ref pn,.bl od,.ref pr]∧Γ pk=some (.dK (Cz l))∧Γ pn=some (.lst (ns.map T.str))∧Γ pr=some (.lst (rs.map T.int))∧rs.length=5∧(∀r∈rs,0≤r)∧fj ns∧ir ns l m∧m≤63∧∀Γ' s l' b,Kq [pk] Γ Γ'→Γ' pk=some (.dK (Cz l'))→ir ns l' (m+1)→Ft s→jt s l l' b→Z (.tup [s.tr,.bl b]) Γ'
def aad(F:cJ K "_law_statement" "_law_statement" QH f fd)(xJ:AY P w K mg am "_law_using" 1 ["word","known","names","odd","r"] UM)(aB:mg "len" = none):bc P w K mg am Am 2 f fd ["known","names","odd","r"] (Ak bK):=by
 show B3 F cF (λts Γ Z Y h=>?_) (λcb A outer s H E ts Γ Z Y hr h=>?_)
 ·let⟨_,_,_,_,_,_,_,_,rfl,_⟩:=h
  rfl
 let⟨pk,pn,pr,l,ns,od,rs,m,rfl,gk,gn,gr,rl,rp,no,ko,Vt,q⟩:=h;show⟨_,(A3 (B1 (As (i:=4) cF.nd (AO (DA (A0 Al (A0 Al (A0 Al (A0 Al (A0 Al (A0 Al A5))))))) (Aa C0 (AO (qv 3) A9) A9))))
  (A3 (B1 (Ag (PW.pt (Hq (B2 E3 (qv 4) Al) (IM (PW.pt (CQ (B2 JF (Ar KD rfl aB BC (A0 (qv 0) A5)) A9) (D3 (BI (qv 2)))))))) (A3 (AN (Af xJ hr (A0 (qv 4) (A0 (qv 0) (A0 (qv 1) (A0 (qv 2) (A0 (qv 3) A5)))))))
  A8) A8))
  (A3 (B1 (As (i:=5) cF.nd (AO (qv 1) (Aa C0 (AO (qv 3) A9) A9))))
  (A3 (B1 (As (i:=6) cF.nd (Aa C0 (AO (qv 3) A9) A9)))
  (A3 (B1 (Ag (BL (BI (qv 2))) (A3 (B1 (As (i:=6) cF.nd (E0 GI F4 HN (Ja (BA (BP (by decide:1≤64) _) hr.units)) (qv 0) (A0 (qv 5) (A0 (qv 6) A5)))))
  A8) A8))
  (A3 (B1 (As (i:=7) cF.nd (BM (A0 Al (A0 (qv 5) (A0 (AO (DA (A0 (BM (A0 Al A5)) (A0 (BM (A0 Al (A0 A9 A5))) (A0 (BM (A0 Al (A0 (BM (A0 Al A5)) A5))) A5)))) (qv 6)) (A0 (AO (DA (A0 Al (A0 A9 (A0 (BM A5) A5)))) (qv 6)) A5)))))))
  (A3 (Ag (B2 E3 (E0 GI F4 HN (Ja (BA (BP (by decide:1≤64) _) hr.units)) (qv 0) (A0 (qv 5) (A0 (qv 6) A5))) (qv 6)) (A3 (AN (BM (A0 (qv 7) (A0 BE A5))))
  A8) A8)
  (A3 (B1 (OC (BA (BP (by decide:1≤64) _) hr.units) (qv 0) (qv 5) (qv 6)))
  (A3 (AN (BM (A0 (qv 7) (A0 BE A5))))
  A8))))))))),?_⟩
 simp only[Ap];let⟨x0,m0,_,e0⟩:=Dx (ns:=rs) (j:=0) (by lia);let⟨x1,m1,_,e1⟩:=Dx (ns:=rs) (j:=1) (by lia);let⟨x2,m2,_,e2⟩:=Dx (ns:=rs) (j:=2) (by lia);let p1:=rp x1 m1;let kl:=ko.ln;left;show⟨λτ Γ'=>∃wd:Str,τ=[some (.ref pk),some (.ref pn),some (.bl od),some (.ref pr),some (.str wd),none,none,none]∧Le Γ Γ'∧(wd = "new" ∨ wd = "say" ∨ wd = "copy" ∨ wd = "part" ∨ wd = "drop"),?_,?_⟩
 ·left
  clear p5 Iy f5 Γ5 g5 l5
  left;show B0 (l5 _ _ gr) e0 ?_;left;let⟨z,ez,hz⟩:=K8 (xs:=[T.str "new",.str "say",.str "copy",.str "part",.str "drop",.str "new"]) (r:=x0%6) (by lia) (by show _<(6:Int);lia);show B0 g5 ez ?_;left;simp only[aaf,CE,Di]at hz;rcases hz with rfl|rfl|rfl|rfl|rfl|rfl
  ·show⟨"new",rfl,l5,by simp⟩
  ·show⟨"say",rfl,l5,by simp⟩
  ·show⟨"copy",rfl,l5,by simp⟩
  ·show⟨"part",rfl,l5,by simp⟩
  ·show⟨"drop",rfl,l5,by simp⟩
  ·show⟨"new",rfl,l5,by simp⟩
 intro τ Γ1⟨wd,rfl,l1,hw⟩;let use:∀Γ' s l' b,Kq [pk] Γ1 Γ'→Γ' pk=some (.dK (Cz l'))→ir ns l' (m+1)→Ft s→jt s l l' b→Z (.tup [s.tr,.bl b]) Γ':=λΓ' s l' b k g VD h1 hf=>q Γ' s l' b (λx o n h=>k x o n (l1 _ _ h)) g VD h1 hf;left;show⟨λτ Γ'=>τ=[some (.ref pk),some (.ref pn),some (.bl od),some (.ref pr),some (.str wd),none,none,none]∧Γ1=Γ',?_,?_⟩
 ·let us:wd ≠ "new" → ∀Z',(∀t Γ',Z t Γ'→Z' t Γ')→UM [.str wd,.ref pk,.ref pn,.bl od,.ref pr] Γ1 Z' λ_ _=>False:=λhn Z' hz=>by
   show Ψ9 wd pk pn pr l ns od rs m ⟨rfl,?_,l1 _ _ gk,l1 _ _ gn,l1 _ _ gr,rl,rp,no,ko,Vt,λΓ' s l' b k g VD h1 hf=>hz _ _ (use Γ' s l' b k g VD h1 hf)⟩;rcases hw with h|h|h|h|h
   ·show absurd h hn
   ·show .inl h
   ·show .inr (.inl h)
   ·show .inr (.inr (.inl h))
   ·show .inr (.inr (.inr h))
  by_cases hn:wd = "new"
  ·subst hn
   left;show⟨rfl,rfl⟩
  left;show KW (by rw[DN λe=>hn (V.str.inj e)];rfl) ?_;left;show Ψ2 pk _ ⟨rfl,l1 _ _ gk,?_⟩;exists c
  ·left
   show us hn _ λt Γ' h=>AB .refl h
  ·left
   show AU (λc2=>?_) (λc2=>?_)
   ·left
    show us hn _ λt Γ' h=>AB .refl h
   ·left
    show⟨rfl,rfl⟩
 intro τ Γ'⟨rfl,rfl⟩;left;show⟨λτ Γ'=>∃x,τ=[some (.ref pk),some (.ref pn),some (.bl od),some (.ref pr),some (.str wd),some (.str x),none,none]∧Γ1=Γ'∧x∈ns,?_,?_⟩
 ·left
  show B0 (l1 _ _ gr) e1 ?_;left;let⟨z,hz,ez⟩:=no.draw p1;show B0 (l1 _ _ gn) ez ?_;left;show⟨z,rfl,rfl,hz⟩
 intro τ Γ'⟨x,rfl,rfl,hx⟩;left;show⟨λτ Γ'=>∃n:Nat,τ=[some (.ref pk),some (.ref pn),some (.bl od),some (.ref pr),some (.str wd),some (.str x),some (.int (n:Int)),none]∧Γ1=Γ'∧n<3,?_,?_⟩
 ·left
  show B0 (l1 _ _ gr) e2 ?_;left;show⟨(x2%3).toNat,by rw[show((x2%3).toNat:Int)=x2%3 by lia];rfl,rfl,by lia⟩
 intro τ Γ'⟨n0,rfl,rfl,Yl⟩;left;show⟨λτ Γ'=>∃n:Nat,τ=[some (.ref pk),some (.ref pn),some (.bl od),some (.ref pr),some (.str wd),some (.str x),some (.int (n:Int)),none]∧Γ1=Γ'∧n<3,?_,?_⟩
 ·left
  show AU (λc=>?_) (λc=>?_)
  ·left
   show⟨λτ Γ'=>∃n:Nat,τ=[some (.ref pk),some (.ref pn),some (.bl od),some (.ref pr),some (.str wd),some (.str x),some (.int (n:Int)),none]∧Γ1=Γ'∧n<3,?_,?_⟩
   ·left
    show⟨KY (l1 _ _ gk),?_⟩;left;show Ψ4 pk _ (.inr x) _ ⟨rfl,rfl,l1 _ _ gk,?_⟩;rw[Jt];left;show⟨_,rfl,rfl,?_⟩;cases e:l.lookup x with
    |none=>show Yl
    |some v=>show(ko.nm _ (Cg e)).2
   intro τ Γ'⟨n,rfl,rfl,hn⟩;left;show⟨n,rfl,rfl,hn⟩
  ·left
   show⟨n0,rfl,rfl,Yl⟩
 intro τ Γ'⟨n,rfl,rfl,hn⟩;let et:(Sm.new x (D0 n) (Fi n)).tr=.tup [.str "new",.str x,(D0 n).tr,Fi n]:=by rw[Sm.tr]
 left;show⟨λτ Γ'=>τ=[some (.ref pk),some (.ref pn),some (.bl od),some (.ref pr),some (.str wd),some (.str x),some (.int (n:Int)),some (Sm.new x (D0 n) (Fi n)).tr]∧Le Γ1 Γ',?_,?_⟩
 ·left
  clear p6 RT f6 Γ6 g6 l6
  left;show B0 g6 (gg hn) ?_;left;clear p7 V1 f7 Γ7 g7 l7
  left;show B0 g7 (eD hn) ?_;left;show⟨by rw[et];rfl,l6.trans l7⟩
 intro τ Γ2⟨rfl,l2⟩;let ze:=l1.trans l2;let h1:=zC no hx n;let hf:=oo ko (x:=x) hn;left;show⟨KY (ze _ _ gk),?_⟩;left;show Ψ4 pk _ (.inr x) _ ⟨rfl,rfl,ze _ _ gk,?_⟩;rw[Jt];left;let ed:decide (V.int (((l.lookup x).getD n:Nat):Int)=V.int (n:Int))=decide ((l.lookup x).getD n=n):=aba.mpr ⟨λe=>by have:=V.int.inj e;lia,λe=>by rw[e]⟩;rw[ed];show AU (λc=>?_) (λc=>?_)
 ·rw[eC c]at hf
  left;show AB .refl (q Γ2 _ l _ (λx o _ h=>ze x o h) (ze _ _ gk) (ko.le (BR _)) h1 hf.no)
 ·let c:=ZS c
  rw[c]at hf;let hc:=Cc c;left;show⟨λτ Γ'=>τ=[some (.ref pk),some (.ref pn),some (.bl od),some (.ref pr),some (.str wd),some (.str x),some (.int (n:Int)),some (Sm.new x (D0 n) (Fi n)).tr]∧Kq [pk] Γ Γ'∧Γ' pk=some (.dK (Cz (putN l x n))),?_,?_⟩
  ·unfold MW
   left;show Ψ3 pk _ (.inr x) ⟨rfl,rfl,ze _ _ gk,by rw[AM,CN];lia,?_⟩;rw[bx ko hc];show⟨rfl,λb o nb h=>(Kq.set (l:=[pk]) (by simp) _) b o nb (ze _ _ h),Ae⟩
  intro τ Γ'⟨rfl,VC,N3⟩;left;show AB .refl (q Γ' _ _ _ VC N3 (ko.put hx hn) h1 hf)
end
def f_C:jt (.tri [] []) l l true:=λPs=>⟨rfl,λ_=>rfl⟩
def nA(h:ir ns l m)(e:l.lookup x=some n):jt (.same x y [] []) l l ((l.lookup y).isSome&&decide (n=(l.lookup y).getD 9)):=λPs=>by
 show(match(kk l).lookup x,(kk l).lookup y with|some kx,some ky=>kq kx ky|_,_=>false)=_∧(_→kk l=kk l)
 rw[IJ,IJ,e];show⟨?_,λ_=>rfl⟩;cases e2:l.lookup y with
 |none=>rfl
 |some k=>
  show kq (D0 n) (D0 k)=(true&&decide (n=k))
  rw[Pg (h.nm _ (Cg e)).2 (h.nm _ (Cg e2)).2,Bd]
section
variable {K: W.Frag}
@[reducible]def RK:Stmt:=top 80
def eF:Aq ["known","names","odd","r","x","some","y"] ["known","names","odd","r"] (Ac RK):=nofun
abbrev jW:Av:=λts Γ Z _=>∃(pk pn pr:Addr) (l:E2) (ns:List Str) (od:Bool) (rs:List Int) (m:Nat),ts=[.ref pk,.ref pn,.bl od,.ref pr]∧Γ pk=some (.dK (Cz l))∧Γ pn=some (.lst (ns.map T.str))∧Γ pr=some (.lst (rs.map T.int))∧rs.length=5∧(∀r∈rs,0≤r)∧fj ns∧ir ns l m∧m≤63∧∀Γ' hd b,Le Γ Γ'→Lg hd→jt (hd.mk [] []) l l b→Z (.tup [.tup hd.tr,.bl b]) Γ'
def aaa(F:cJ K "_law_opened" "_law_opened" RK f fd)(aB:mg "len" = none)(ix:mg "sorted" = none)(oE:mg "list" = none):bc P w K mg am Am 1 f fd ["known","names","odd","r"] (Ak jW):=by
 show B3 F eF (λts Γ Z Y h=>?_) (λcb A outer s H E ts Γ Z Y hr h=>?_)
 ·let⟨_,_,_,_,_,_,_,_,rfl,_⟩:=h
  rfl
 let⟨pk,pn,pr,l,ns,od,rs,m,rfl,gk,gn,gr,rl,rp,no,ko,Vt,q⟩:=h;show⟨_,(A3 (Ag (PW.pt (CQ (B2 Bm (Aa C0 (AO (qv 3) A9) A9) A9) (D3 (B2 Bm (Ar KD rfl aB BC (A0 (qv 0) A5)) A9)))) (A3 (AN (BM (A0 (BM (A0 Al A5)) (A0 BE A5))))
  A8) A8)
  (A3 (B1 (As (i:=4) eF.nd (AO (Ar (UR) rfl ix Qi (A0 (IK (iT rfl) rfl oE eG (A0 (qv 0) A5)) A5)) (Aa C0 (AO (qv 3) A9) (Ar KD rfl aB BC (A0 (qv 0) A5))))))
  (A3 (B1 (As (i:=5) eF.nd (Ar (UR) rfl ix Qi (A0 (adC rfl rfl (EC (own:=["name"]) (cap:=[(0,"known"),(4,"x")]) (Fj rfl (by done) (by done) rfl (⟨rfl,⟨rfl,trivial⟩⟩) rfl (⟨⟨rfl,rfl,rfl⟩,⟨⟨rfl,rfl,rfl⟩,trivial⟩⟩)) rfl (TS rfl rfl (qv 0)) (λ_ _ _ _=>(Bb (i:=0) (show List.Nodup (["name","known","x"]:List Str)from by done) rfl (Or.inl rfl) (Or.inr rfl))) (λ_ _ _ _=>(jP (B2 Bm (Mf rfl rfl (BA (BP (by decide:1≤64) _) hr.units) (qv 1) (qv 0)) (Mf rfl rfl (BA (BP (by decide:1≤64) _) hr.units) (qv 1) (qv 2))))) (λ_ _ _ _=>(qv 0)))) A5))))
  (A3 (B1 (As (i:=6) eF.nd (AO (qv 5) (Aa C0 (AO (qv 3) A9) (Ar Bw rfl aB BC (A0 (qv 5) A5))))))
  (A3 (B1 (Ag (BI (qv 2)) (A3 (B1 (As (i:=6) eF.nd (AO (qv 1) (Aa C0 (AO (qv 3) A9) A9))))
  A8) A8))
  (A3 (AN (BM (A0 (BM (A0 Al (A0 (qv 4) (A0 (qv 6) A5)))) (A0 (CV (HF (Mb (BA (BP (by decide:1≤64) _) hr.units)) (qv 6) (qv 0) (by with_unfolding_all rfl)) (CU (Dh Bm (Fh (BA (BP (by decide:1≤64) _) hr.units) (qv 0) (qv 4)) (E0 GI F4 HN (Ja (BA (BP (by decide:1≤64) _) hr.units)) (qv 0) (A0 (qv 6) (A0 A9 A5)))))) A5))))
  A8)))))),?_⟩
 simp only[Ap];let⟨x1,m1,_,e1⟩:=Dx (ns:=rs) (j:=1) (by lia);let⟨x2,m2,_,e2⟩:=Dx (ns:=rs) (j:=2) (by lia);let⟨x3,m3,_,e3⟩:=Dx (ns:=rs) (j:=3) (by lia);let p3:=rp x3 m3;let kl:=ko.ln;let tri:=q Γ .tri true .refl trivial f_C;left;show B0 gr e1 ?_;exists c
 ·left
  show AB .refl tri
 left;show Ψ2 pk _ ⟨rfl,gk,?_⟩;rw[AM];exists c
 ·left
  show AB .refl tri
 let c2:(0:Int)<(l.length:Int):=by
  have:¬V.int (l.length:Int)=V.int 0:=Eu c;have:¬(l.length:Int)=0:=λe=>this (by rw[e]);lia
 left;show⟨λτ Γ'=>∃x n,τ=[some (.ref pk),some (.ref pn),some (.bl od),some (.ref pr),some (.str x),none,none]∧Le Γ Γ'∧x∈ns∧l.lookup x=some n,?_,?_⟩
 ·left
  show Ψ2 pk _ ⟨rfl,gk,λp hp=>?_⟩;rw[cG];revert p hp f2 Γ2 g2 l2
  left;show Ψ2 p _ ⟨rfl,g2,by rw[AM];lia,λms a pm _ ha=>?_⟩;revert a ha f3 Γ3 g3 l3
  let le:=l2.trans l3;left;show B0 (le _ _ gr) e2 ?_;left;show Ψ2 pk _ ⟨rfl,le _ _ gk,?_⟩;rw[AM];left;show FR c2 ?_;let ml:ms.length=l.length:=by rw[pm.length_eq,AM]
  let⟨z,ez,hz⟩:=K8 (xs:=ms.map T.str) (r:=x2%(l.length:Int)) (Eh _ (by lia)) (by rw[AM,ml];show FN _ c2);let⟨y,hy,rfl⟩:=aam.mp hz;show B0 g3 ez ?_;left;let hk:=pm.mem_iff.mp hy;let⟨p',oZ,e'⟩:=aam.mp hk;cases el:l.lookup y with
  |none=>show absurd hk (dq.mp el)
  |some n=>show Ψ2 y n ⟨rfl,le,by rw[←e'];show(ko.nm p' oZ).1,el⟩
 intro τ Γ1⟨x,n,rfl,l1,hx,ex⟩;left;show⟨λτ Γ'=>∃(ps:Addr) (ms:List Str),τ=[some (.ref pk),some (.ref pn),some (.bl od),some (.ref pr),some (.str x),some (.ref ps),none]∧Le Γ1 Γ'∧Γ' ps=some (.lst (ms.map T.str))∧0<ms.length∧∀z∈ms,z∈ns,?_,?_⟩
 ·left
  unfold Xq;left;unfold Oy;left;show⟨pk,rfl,.inr ⟨_,l1 _ _ gk,λo=>?_⟩⟩;show⟨by rw[AM,AM,CN];lia,?_⟩;let gz:AA Γ1 pk (.fzK P w o (Cz l)) pk=some (.fzK P w o (Cz l)):=Ae;show⟨λv4 τ ys Γ'=>∃(gs es:E2) (o0:Option T),v4=gs.map (λp=>T.str p.1)∧l=es++gs∧τ=[o0,some (.ref pk),some (.str x)]∧ys=((es.filter λp=>decide (p.2=n)).map (·.1)).map T.str∧Γ'=AA Γ1 pk (.fzK P w o (Cz l)),Ψ3 l [] none ⟨by rw[D2];rfl,rfl,rfl,rfl,rfl⟩,?_,?_⟩;rotate_left
  ·intro u r τ ys Γ'⟨gs,es,o0,er,ez,rfl,rfl,rfl⟩
   cases gs with
   |nil=>cases er
   |cons g gs=>
    injection er with e1 e2
    subst e1 e2;let gm:l.lookup g.1=some g.2:=by
     cases el:l.lookup g.1 with
     |none=>show absurd (aam.mpr ⟨g,by rw[ez];simp,rfl⟩) (dq.mp el)
     |some v=>
      let hm:=Cg el;let nd:=ko.nd;rw[ez,Ad,aaK,BU,abd]at nd;rw[ez]at hm;rcases aaG.mp hm with hm|hm
      ·show absurd rfl (nd.2.2 g.1 (aam.mpr ⟨_,hm,rfl⟩) g.1 (by simp))
      ·rcases aaf.mp hm with hm|hm
       ·show DV some (DV Prod.snd hm)
       ·show absurd (aam.mpr ⟨_,hm,rfl⟩) nd.2.1.1
    show⟨gz,?_⟩;left;unfold Nv;left;show Ψ3 pk o (.int (g.2:Int)) ⟨rfl,.inl ⟨_,.inr g.1,gz,rfl,by rw[Cb,gm];rfl⟩,?_⟩;left;show Ψ3 pk o (.int (n:Int)) ⟨rfl,.inl ⟨_,.inr x,gz,rfl,by rw[Cb,ex];rfl⟩,?_⟩;left;let ed:decide (V.int (g.2:Int)=V.int (n:Int))=decide (g.2=n):=aba.mpr ⟨λe=>by have:=V.int.inj e;lia,λe=>by rw[e]⟩;rw[ed];show AU (λc=>?_) (λc=>?_)
    ·left
     show Ψ3 gs (es++[g]) _ ⟨rfl,by rw[ez];simp,rfl,by rw[OF,Ad,Ad,List.filter_cons_of_pos (p:=λp:Str×Nat=>decide (p.2=n)) c];rfl,rfl⟩
    ·show Ψ3 gs (es++[g]) _ ⟨rfl,by rw[ez];simp,rfl,by rw[OF,List.filter_cons_of_neg (p:=λp:Str×Nat=>decide (p.2=n)) (by rw[c];show Bs),List.filter_nil,BN],rfl⟩
  intro τ ys Γ'⟨gs,es,o0,er,ez,rfl,rfl,rfl⟩;let hg:gs=[]:=by
   cases gs with
   |nil=>rfl
   |cons _ _=>cases er
  subst hg;rw[BN]at ez;rw[←ez];show⟨gz,λp2 vB=>?_⟩;let np:pk≠p2:=Bl gz vB;show⟨_,Ψ2 pk o (.inr ⟨_,by rw[AZ np];show gz,rfl⟩),?_⟩;let l2:Le Γ1 (AA (AA (AA Γ1 pk (.fzK P w o (Cz l))) p2 (.lst (((l.filter λp=>decide (p.2=n)).map (·.1)).map T.str))) pk (.dK (Cz l))):=λy u h=>by
   by_cases c:y=pk
   ·subst c;rw[Ae,←l1 _ _ gk];show h
   ·rw[AZ c,AZ (Bl (by rw[AZ c];show h:AA Γ1 pk (.fzK P w o (Cz l)) y=some u) vB),AZ c];show h
  let g2:(AA (AA (AA Γ1 pk (.fzK P w o (Cz l))) p2 (.lst (((l.filter λp=>decide (p.2=n)).map (·.1)).map T.str))) pk (.dK (Cz l))) p2=some (.lst (((l.filter λp=>decide (p.2=n)).map (·.1)).map T.str)):=by rw[AZ (C3 np)];show Ae
  let fl:(l.filter λp=>decide (p.2=n)).length≤l.length:=U8 _ _;generalize (AA (AA (AA Γ1 pk (.fzK P w o (Cz l))) p2 (.lst (((l.filter λp=>decide (p.2=n)).map (·.1)).map T.str))) pk (.dK (Cz l)))=Γ2 at l2 g2 ⊢;left;show Ψ2 p2 _ ⟨rfl,g2,by rw[AM];lia,λms a pm _ ha=>?_⟩;left;let xm:x∈(l.filter λp=>decide (p.2=n)).map (·.1):=aam.mpr ⟨(x,n),abw.mpr ⟨Cg ex,Bi rfl⟩,rfl⟩;show Ψ2 a ms ⟨rfl,l2.trans (Le.new ha),Ae,?_,λz hz=>?_⟩
  ·have:=S2 (pm.mem_iff.mpr xm)
   show this
  ·let⟨p',oZ,e'⟩:=aam.mp (pm.mem_iff.mp hz)
   rw[←e'];show(ko.nm p' (abw.mp oZ).1).1
 intro τ Γ2⟨ps,ms,rfl,l2,gs,ml,mn⟩;let ze:=l1.trans l2;left;show⟨λτ Γ'=>∃y,τ=[some (.ref pk),some (.ref pn),some (.bl od),some (.ref pr),some (.str x),some (.ref ps),some (.str y)]∧Γ2=Γ'∧y∈ns,?_,?_⟩
 ·left
  show B0 (ze _ _ gr) e3 ?_;left;show F8 gs ?_;rw[AM];left;show FR (show(0:Int)<(ms.length:Int)by lia) ?_;let⟨z,ez,hz⟩:=K8 (xs:=ms.map T.str) (r:=x3%(ms.length:Int)) (Eh _ (by lia)) (by rw[AM];show FN _ (by lia));let⟨y,hy,rfl⟩:=aam.mp hz;show B0 gs ez ?_;left;show⟨y,rfl,rfl,mn y hy⟩
 intro τ Γ'⟨y0,rfl,rfl,T2⟩;left;show⟨λτ Γ'=>∃y,τ=[some (.ref pk),some (.ref pn),some (.bl od),some (.ref pr),some (.str x),some (.ref ps),some (.str y)]∧Γ2=Γ'∧y∈ns,?_,?_⟩
 ·left
  show AU (λc=>?_) (λc=>?_)
  ·left
   show⟨λτ Γ'=>∃y,τ=[some (.ref pk),some (.ref pn),some (.bl od),some (.ref pr),some (.str x),some (.ref ps),some (.str y)]∧Γ2=Γ'∧y∈ns,?_,?_⟩
   ·left
    show B0 (ze _ _ gr) e3 ?_;left;let⟨z,hz,ez⟩:=no.draw p3;show B0 (ze _ _ gn) ez ?_;left;show⟨z,rfl,rfl,hz⟩
   intro τ Γ'⟨y,rfl,rfl,hy⟩;left;show⟨y,rfl,rfl,hy⟩
  ·left
   show⟨y0,rfl,rfl,T2⟩
 intro τ Γ'⟨y,rfl,rfl,hy⟩;let fin:=q Γ2 (.same x y) _ ze ⟨no.nm x hx,no.nm y hy⟩ (nA ko (y:=y) ex);left;show Ψ3 pk _ (.inr y) ⟨rfl,rfl,ze _ _ gk,?_⟩;rw[Cb,Fc];exists c
 ·rw[c,Bd]at fin
  left;unfold HH;left;show Ψ4 pk _ (.inr x) (.int (n:Int)) ⟨rfl,rfl,ze _ _ gk,by rw[Cb,ex];rfl,?_⟩;left;show⟨KY (ze _ _ gk),?_⟩;left;show Ψ4 pk _ (.inr y) _ ⟨rfl,rfl,ze _ _ gk,?_⟩;rw[show(T.int 9)=T.int ((9:Nat):Int)from rfl,Jt];left;let ed:decide (V.int (n:Int)=V.int (((l.lookup y).getD 9:Nat):Int))=decide (n=(l.lookup y).getD 9):=aba.mpr ⟨λe=>by have:=V.int.inj e;lia,λe=>by rw[←e]⟩;rw[ed];show AB .refl fin
 ·rw[c,Dw]at fin
  left;show AB .refl fin
end
abbrev GU(b:List Sm):T:=.tup (BG b)
structure JG(m:Nat)(b:List Sm):Prop where
 ok:Bc b
 fm:Bq b 1=true
 sz:B7 b≤m
def FO.mono{Γ':AJ}(h:FO Γ0 Γ pf fs)(l:Le Γ Γ'):FO Γ0 Γ' pf fs:=by
 let⟨q,fz,e⟩:=h;show⟨q,⟨fz.le.trans l,l _ _ fz.gf,λr m=>⟨l _ _ (fz.ga r m).1,l _ _ (fz.ga r m).2⟩,fz.nd,fz.fr⟩,e⟩
def FO.le(h:FO Γ0 Γ pf fs):Le Γ0 Γ:=by let⟨_,fz,_⟩:=h;show fz.le
def FO.start{Γ6:AJ}{b:List Sm}(l:Le Γ0 Γ6)(hp:Γ6 p=some (.lst (BG b)))(h0:Γ0 p=none)(h7:Γ6 p7=none)(h8:AA Γ6 p7 (.lst [.tup [],.non,.ref p]) p8=none):FO Γ0 (AA (AA Γ6 p7 (.lst [.tup [],.non,.ref p])) p8 (.lst [.ref p7])) p8 [⟨.bot,none,b⟩]:=by
 let n7:p≠p7:=Bl hp h7;let n8:p8≠p7:=λe=>by subst e;rw[Ae]at h8;cases h8
 rw[AZ n8]at h8;let n9:p≠p8:=Bl hp h8;show⟨[(p7,p,⟨.bot,none,b⟩)],⟨λa o e=>?_,Ae,λq hq=>?_,?_,λa m=>?_⟩,rfl⟩
 ·rw[AZ (Bl (l _ _ e) h8),AZ (Bl (l _ _ e) h7)];show l _ _ e
 ·rw[aaB]at hq;subst hq
  show⟨by rw[AZ (C3 n8)];show Ae,by show AA (AA Γ6 p7 _) p8 _ p=_;rw[AZ n9,AZ n7];show hp⟩
 ·show [p8,p7,p].Nodup
  simp[n8,C3 n9,C3 n7]
 ·let m:a∈[p8,p7,p]:=m
  simp only[aaf,CE,Di]at m;rcases m with rfl|rfl|rfl
  ·show IL l h8
  ·show IL l h7
  ·show h0
def eK.one{b:List Sm}(h1:Bc b)(h2:Bq b 1=true)(h3:B7 b≤9):eK [⟨.bot,none,b⟩] 10:=by
 show⟨Ah _,(by show 1≤4;decide),λi fr e=>?_,?_⟩
 ·cases i with
  |zero=>cases e;show⟨h1,h2,λa e=>(nomatch e),λh=>absurd h (GK _)⟩
  |succ i=>simp at e
 ·rw[Hp]
  show 0+B7 b+1≤10
  lia
def eK.push(h:eK fs n)(l:fs.length<4)(hh:Lg hd):eK (fs++[⟨hd,none,[]⟩]) (n+1):=by
 show⟨by rw[BO];show 1≤_+1;lia,by rw[BO];show _+1≤4;lia,λi fr e=>?_,?_⟩
 ·by_cases c:i<fs.length
  ·show h.ok i fr (by rw[Ln c]at e;show e)
  ·rw[LP (by lia)]at e
   have:i-fs.length=0:=by
    have:=(aaE.mp e).1;rw[Jw]at this;lia
   rw[this]at e;cases e;show⟨by show Bc [];unfold Bc;trivial,by show Bq [] _=true;rw[Bq],λa e=>(nomatch e),λ_=>hh⟩
 ·rw[HS,Hp]
  have:=h.sz;show F2 fs+(0+B7 []+1)≤n+1
  rw[B7];lia
def eK.more{f:Frq}{s:Sm}(h:eK (fs++[f]) n)(hs:Ft s):eK (fs++[⟨f.hd,f.f1,f.b++[s]⟩]) (n+1):=by
 let t:=h.top;show h.set ⟨QX t.ok (iP hs.ok),by show Bq (f.b++[s]) _=true;rw[Zc,t.fm,bH,hs.fm];rfl,t.f1,t.hd⟩ ?_;have:=h.sz;rw[HS,Hp]at this;unfold Frq.sz at this;show F2 fs+(NC f.f1+B7 (f.b++[s])+1)≤n+1
 rw[TZ,B7,B7,hs.sz];lia
def acJ{a:List Sm}{s:Sm}:BG (a++[s])=BG a++[s.tr]:=by rw[JV,JV,Ad];rfl
section
variable {Γ0 Γ: AJ}{pf pk: Addr}{fs: List Frq}{kv: List (A7×T)}
def FO.rebase(h:FO Γ0 Γ pf fs)(g:Γ pk=some (.dK kv)):FO (AA Γ0 pk (.dK kv)) Γ pf fs:=by
 let⟨l,fz,e⟩:=h;show⟨l,⟨λx o q=>?_,fz.gf,fz.ga,fz.nd,λa m=>?_⟩,e⟩
 ·by_cases c:x=pk
  ·subst c;rw[Ae]at q;cases q;show g
  ·rw[AZ c]at q;show fz.le _ _ q
 ·let na:a≠pk:=λz=>by
   subst z;rcases aaf.mp m with rfl|m
   ·rw[fz.gf]at g;cases g
   ·let⟨q,hq,m⟩:=acH.mp m
    let ga:=fz.ga q hq;simp only[aaf,CE,Di]at m;rcases m with rfl|rfl
    ·rw[ga.1]at g;cases g
    ·rw[ga.2]at g;cases g
  rw[AZ na];show fz.fr a m
def FO.Lp(h:FO (AA Γ0 pk (.dK kv)) Γ pf fs)(n:Γ0 pk=none):FO Γ0 Γ pf fs:=by
 let⟨l,fz,e⟩:=h;show⟨l,⟨λx o q=>fz.le _ _ (by rw[AZ (Bl q n)];show q),fz.gf,fz.ga,fz.nd,λa m=>?_⟩,e⟩;have:=fz.fr a m;by_cases c:a=pk
 ·subst c;rw[Ae]at this;cases this
 ·rw[AZ c]at this;show this
def FO.kq(h:FO Γ0 Γ pf fs)(n:Γ0 pk=none)(g:Γ pk=some (.dK kv))(k:Kq [pk] Γ Γ'):FO Γ0 Γ' pf fs:=by
 let⟨l,fz,e⟩:=h;let ne:∀x ts,Γ x=some (.lst ts)→x∉[pk]:=λx ts q m=>by
  rw[aaB.mp m,g]at q;cases q
 show⟨l,⟨λx o q=>k x o (by simpa using Bl q n) (fz.le _ _ q),k _ _ (ne _ _ fz.gf) fz.gf,λq hq=>⟨k _ _ (ne _ _ (fz.ga q hq).1) (fz.ga q hq).1,k _ _ (ne _ _ (fz.ga q hq).2) (fz.ga q hq).2⟩,fz.nd,fz.fr⟩,e⟩
end
def tN{Ps:List (Str×Pr)}{re:Option Kd}{W:List (Str×Str)}(s:Sm)(ks:ad):kp Ps re W s.sp ks=kp Ps re W s ks:=by cases s<;>rfl
def mW{Ps:List (Str×Pr)}{re:Option Kd}{W:List (Str×Str)}:∀(l:List Sm) (ks:List (Str×Kd)),Bg Ps re W (l.map Sm.sp) ks=Bg Ps re W l ks
 |[],ks=>rfl
 |s::r,ks=>by rw[BU,Bg,Bg,tN,mW r]
def bG{Ps:List (Str×Pr)}{re:Option Kd}{W:List (Str×Str)}(s:Sm):∀(l:List Sm) (ks:List (Str×Kd)),(Bg Ps re W (l++[s]) ks).1=((Bg Ps re W l ks).1&&(kp Ps re W s (Bg Ps re W l ks).2).1)∧(Bg Ps re W (l++[s]) ks).2=(kp Ps re W s (Bg Ps re W l ks).2).2
 |[],ks=>by
  rw[Ri,Bg,Bg,Bg];show⟨by simp,rfl⟩
 |a::r,ks=>by
  let ih:=bG (Ps:=Ps) (re:=re) (W:=W) s r (kp Ps re W a ks).2;rw[Ii,Bg,Bg];show⟨by show(_&&(Bg Ps re W (r++[s]) _).1)=_;rw[ih.1,Kh],ih.2⟩
abbrev Wk(k0:ad)(ev:List Sm)(l:E2)(c:Bool):Prop:=∀Ps,(Bg Ps none [] ev k0).1=c∧(c=true→(Bg Ps none [] ev k0).2=kk l)
def Wk.nil:Wk (kk l) [] l true:=λPs=>⟨by rw[Bg],λ_=>by rw[Bg]⟩
def Wk.more{k0:List (Str×Kd)}{ev:List Sm}{s:Sm}(h:Wk k0 ev l c)(hf:jt s l l' b):Wk k0 (ev++[s]) l' (c&&b):=λPs=>by
 let sn:=bG (Ps:=Ps) (re:=none) (W:=[]) s ev k0;let h1:=h Ps;rw[sn.1,sn.2,h1.1];cases c with
 |false=>show⟨by simp,λz=>by simp at z⟩
 |true=>
  rw[h1.2 rfl];have:=hf Ps;show⟨by rw[this.1],λz=>this.2 (by simpa using z)⟩
def xB{f:Frq}{s:Sm}(h:Ft s):EL (fs++[⟨f.hd,f.f1,f.b++[s]⟩])=EL (fs++[f])++[s]:=by
 rw[J4,J4,HU,HU];unfold Frq.ev;rw[kO,show CS [s]=[s]by unfold CS;rw[aT,h.fl,BU,h.sp];rfl];simp[GV]
def zA(h:Lg hd):EL (fs++[⟨hd,none,[]⟩])=EL fs++[hd.mk [] []]:=by
 rw[J4,HU];unfold Frq.ev;show _++(hd.ev++(CS []++CS []))=_
 rw[Lc];cases hd with
 |bot=>show h.elim
 |tri=>rfl
 |same x y=>rfl
def Bt.app{r:List Frq}(h:Bt fs):Bt (fs++r):=by let⟨b,q,rfl⟩:=h;show Ψ2 b (q++r) rfl
def Bt.more{f:Frq}{s:Sm}(h:Bt (fs++[f])):Bt (fs++[⟨f.hd,f.f1,f.b++[s]⟩]):=by
 let⟨b,q,e⟩:=h;cases fs with
 |nil=>
  injection e with e1 e2
  show Ψ2 _ [] (by rw[e1];rfl)
 |cons a r=>
  injection e with e1 e2
  show Ψ2 b _ (by rw[e1];rfl)
abbrev zU(hs:Ei)(ds:List (Str×Nat))(bs:List (List Sm))(c:Bool):Prop:=∀Ps,((bs.zip ds).all λq=>(Bg Ps none [] (CS q.1) (kk (D1 hs q.2.2))).1)=c
def zU.snoc{c':Bool}{b:List Sm}{d:Str×Nat}(h:zU hs ds bs c)(hd:ds[bs.length]?=some d)(hw:Wk (kk (D1 hs d.2)) (CS b) l c'):zU hs ds (bs++[b]) (c&&c'):=λPs=>by
 let hl:bs.length<ds.length:=(aaE.mp hd).1;let e:(bs++[b]).zip ds=bs.zip ds++[(b,d)]:=by
  have:ds=ds.take bs.length++d::ds.drop (bs.length+1):=by
   let h2:ds[bs.length]=d:=by rw[Bh hl]at hd;show EJ hd
   rw[←h2,←fF hl,List.take_append_drop]
  let tl:(ds.take bs.length).length=bs.length:=by rw[Em];lia
  rw[this,List.zip_append tl.symm];congr 1
  have:bs.zip ds=bs.zip (ds.take bs.length++d::ds.drop (bs.length+1)):=by rw[←this]
  rw[show bs.zip (ds.take bs.length++d::ds.drop (bs.length+1))=(bs++[]).zip (ds.take bs.length++d::ds.drop (bs.length+1))by rw[BN],List.zip_append tl.symm];simp
 rw[e,NJ,h Ps];show(c&&((Bg Ps none [] (CS b) (kk (D1 hs d.2))).1&&true))=_
 rw[(hw Ps).1,Gp]
def jg:∀{a b:List Str},a.Nodup→(∀x∈a,x∈b)→a.length≤b.length
 |[],b,_,_=>EY _
 |x::r,b,h,s=>by
  let hx:=s x (by simp);have:=jg (b:=b.erase x) (abd.mp h).2 (λy hy=>(List.mem_erase_of_ne (λe=>by subst e;show(abd.mp h).1 hy)).mpr (s y (by simp[hy])));rw[jk hx]at this;have:0<b.length:=S2 hx;show r.length+1≤_
  lia
def ir.nine(h:ir ns l m)(n:fj ns):ir ns l 9:=⟨h.nd,h.nm,by
 have:=jg h.nd (b:=ns) λx m=>by let⟨p,hp,rfl⟩:=aam.mp m;show(h.nm p hp).1
 rw[AM,n.nl]at this;show this⟩
def zU.pad(h:zU hs ds bs c):∀k,bs.length+k≤ds.length→zU hs ds (bs++List.replicate k []) c
 |0,_=>by rw[List.replicate_zero,BN];show h
 |k+1,hk=>by
  let ih:=zU.pad h k (by lia);rw[List.replicate_succ',←GV];let e:(bs++List.replicate k []).length=bs.length+k:=by rw[BO,MC]
  have:=zU.snoc (b:=[]) (l:=D1 hs (ds[bs.length+k]'(by lia)).2) ih (d:=ds[bs.length+k]'(by lia)) (by rw[e];show Bh (by lia)) (by rw[Lc];show Wk.nil);rw[Gp]at this;show this
abbrev Cp(Γ Γ':AJ)(pb pk pf:Addr)(ns:List Str)(ds:List (Str×Nat))(hs:Ei)(n:Nat)(jT:Bool):Prop:=∃(Γ0:AJ) (bs:List (List Sm)) (fs:List Frq) (d:Str×Nat) (l:E2) (c cur:Bool),Le Γ Γ0∧Γ0 pb=some (.lst (bs.map GU))∧Γ0 pk=none∧FO Γ0 Γ' pf fs∧Γ' pk=some (.dK (Cz l))∧eK fs n∧Bt fs∧ir ns l 9∧ds[bs.length]?=some d∧Wk (kk (D1 hs d.2)) (EL fs) l cur∧zU hs ds bs c∧jT=(c&&cur)∧∀b∈bs,JG 100 b
def Cp.le{Γ':AJ}(h:Cp Γ Γ' pb pk pf ns ds hs n jT):Le Γ Γ':=by
 let⟨Γ0,bs,fs,d,l,c,cur,l0,_,_,fo,_⟩:=h;show l0.trans fo.le
def Cp.mono{Γ' Γ'':AJ}(h:Cp Γ Γ' pb pk pf ns ds hs n jT)(e:Le Γ' Γ''):Cp Γ Γ'' pb pk pf ns ds hs n jT:=by
 let⟨Γ0,bs,fs,d,l,c,cur,l0,gb,n0,fo,gk,r⟩:=h;show Ψ7 Γ0 bs fs d l c cur ⟨l0,gb,n0,fo.mono e,e _ _ gk,r⟩
def Cp.start{Γ1 Γ2:AJ}{d:Str×Nat}(hn:fj ns)(hh:Gz ns hs)(l1:Le Γ Γ1)(gb:Γ1 pb=some (.lst (bs.map GU)))(nk:Γ1 pk=none)(l2:Le Γ1 Γ2)(gk:Γ2 pk=some (.dK (Cz (D1 hs d.2))))(hp:Γ2 p=none)(h7:AA Γ2 p (.lst []) p7=none)(h8:AA (AA Γ2 p (.lst [])) p7 (.lst [.tup [],.non,.ref p]) p8=none)(hd:ds[bs.length]?=some d)(hb:zU hs ds bs c)(bo:∀b∈bs,JG 100 b):Cp Γ (AA (AA (AA Γ2 p (.lst [])) p7 (.lst [.tup [],.non,.ref p])) p8 (.lst [.ref p7])) pb pk p8 ns ds hs 10 c:=by
 let Ue:([]:List T)=BG []:=by rw[BG]
 let l6:=l2.trans (Le.new (o:=.lst []) hp);show Ψ7 Γ1 bs [⟨.bot,none,[]⟩] d (D1 hs d.2) c true ⟨l1,gb,nk,FO.start (b:=[]) l6 (by rw[Ae,←Ue]) (IL l2 hp) h7 h8,?_,eK.one (by unfold Bc;trivial) (by rw[Bq]) (by rw[B7];lia),Ψ2 [] [] rfl,(cA hh).nine hn,hd,?_,hb,(Gp c).symm,bo⟩
 ·let n8:p8≠p7:=λe=>by subst e;rw[Ae]at h8;cases h8
  let g6:=Le.new (o:=.lst []) hp _ _ gk;let g7:=Le.new (o:=.lst [.tup [],.non,.ref p]) h7 _ _ g6;show Le.new h8 _ _ g7
 ·rw[HU]
  unfold Frq.ev;show Wk _ (Hd.bot.ev++(CS []++CS [])) _ _
  rw[Lc];show Wk.nil
section
variable {K: W.Frag}
@[reducible]def VJ:Stmt:=top 81
def aZ:Aq ["begun","names","cells","due","bodies","known","frames","cell","r","odd","word","fine","head","one"] ["begun","names","cells"] (Ac VJ):=nofun
abbrev af:Av:=λts Γ Z _=>∃(pd ph pn pc:Addr) (ns:List Str) (ds:List (Str×Nat)) (hs:Ei) (cs:List Int),ts=[.tup [.ref pd,.ref ph],.ref pn,.ref pc]∧Γ pd=some (.lst (ds.map G0))∧Γ ph=some (.dT (Ek hs))∧Γ pn=some (.lst (ns.map T.str))∧Γ pc=some (.lst (cs.map T.int))∧cs.length≤63∧fj ns∧K0 ns ds∧Gz ns hs∧∀Γ' p (bs:List (List Sm)) jT,Le Γ Γ'→Γ' p=some (.lst (bs.map GU))→bs.length=ds.length→(∀b∈bs,JG 100 b)→zU hs ds bs jT→Z (.tup [.ref p,.bl jT]) Γ'
def aaA(F:cJ K "_law_built" "_law_built" VJ f fd)(sO:AY P w K mg am "_law_here" 1 ["begun","at"] aD)(lz:AY P w K mg am "_law_draws" 1 ["cell","count"] Qv)(qd:AY P w K mg am "_law_ended" 2 ["frames"] ZW)(jV:AY P w K mg am "_law_closed" 1 ["frames"] VH)(vW:AY P w K mg am "_law_opened" 1 ["known","names","odd","r"] jW)(qF:AY P w K mg am "_law_statement" 2 ["known","names","odd","r"] bK)(aB:mg "len" = none)(cB:mg "range" = none):bc P w K mg am Am 3 f fd ["begun","names","cells"] (Ak af):=by
 show B3 F aZ (λts Γ Z Y h=>?_) (λcb A outer s H E ts Γ Z Y hr h=>?_)
 ·let⟨_,_,_,_,_,_,_,_,rfl,_⟩:=h
  rfl
 let⟨pd,ph,pn,pc,ns,ds,hs,cs,rfl,AE,gh,gn,gc,cl,no,dO,ho,q⟩:=h;show⟨_,(A3 (B1 (As (i:=3) aZ.nd BE))
  (A3 (B1 (As (i:=4) aZ.nd (DA A5)))
  (A3 (B1 (As (i:=5) aZ.nd (Af sO hr (A0 (qv 0) (A0 A9 A5)))))
  (A3 (B1 (As (i:=6) aZ.nd (DA (A0 (DA (A0 (BM A5) (A0 FP (A0 (DA A5) A5)))) A5))))
  (A3 (B1 (Fo GJ rfl (UT (qv 2)) (Aj (i:=7) aZ.nd) (A3 (B1 (As (i:=8) aZ.nd (Af lz hr (A0 (qv 7) (A0 A9 A5)))))
  (A3 (B1 (As (i:=9) aZ.nd (Dh Bm (Aa C0 (AO (qv 8) A9) A9) A9)))
  (A3 (B1 (As (i:=10) aZ.nd (Aa C0 (Aa HQ (AO (qv 8) A9) A9) A9)))
  (A3 (B1 (As (i:=11) aZ.nd BE))
  (A3 (B1 (Ag (PW.pt (Hq (B2 Bm (qv 10) A9) (IM (B2 LK (Aa Ez (Ar Bw rfl aB BC (A0 (qv 4) A5)) A9) (Ar Bw rfl aB BC (A0 (AO (qv 0) A9) A5)))))) (A3 (B1 (Fq (E0 HI Hv Hr HY (qv 4) (A0 (Af qd hr (A0 (qv 6) A5)) A5))))
  (A3 (B1 (As (i:=5) aZ.nd (Af sO hr (A0 (qv 0) (A0 (Ar Bw rfl aB BC (A0 (qv 4) A5)) A5)))))
  (A3 (B1 (As (i:=6) aZ.nd (DA (A0 (DA (A0 (BM A5) (A0 FP (A0 (DA A5) A5)))) A5))))
  A8))) (A3 (B1 (Ag (PW.pt (Hq (PW.pt (CQ (B2 Bm (qv 10) A9) (D3 (B2 Bm (qv 10) A9)))) (IM (B2 LK (Ar Bw rfl aB BC (A0 (qv 6) A5)) A9)))) (A3 (B1 (EK (Af vW hr (A0 (qv 5) (A0 (qv 1) (A0 (qv 9) (A0 (qv 8) A5))))) (Bn (n:=2) rfl (AS (Aj (i:=12) aZ.nd) (AS (Aj (i:=11) aZ.nd) Bu)))))
  (A3 (B1 (Fq (E0 HI Hv Hr HY (qv 6) (A0 (DA (A0 (qv 12) (A0 FP (A0 (DA A5) A5)))) A5))))
  A8)) (A3 (B1 (Ag (PW.pt (Hq (B2 Bm (qv 10) A9) (IM (B2 JF (Ar Bw rfl aB BC (A0 (qv 6) A5)) A9)))) (A3 (B1 (Fq (Af jV hr (A0 (qv 6) A5))))
  A8) (A3 (B1 (EK (Af qF hr (A0 (qv 5) (A0 (qv 1) (A0 (qv 9) (A0 (qv 8) A5))))) (Bn (n:=2) rfl (AS (Aj (i:=13) aZ.nd) (AS (Aj (i:=11) aZ.nd) Bu)))))
  (A3 (B1 (Fq (E0 HI Hv Hr HY (AO (AO (qv 6) (Aa Im (Ar Bw rfl aB BC (A0 (qv 6) A5)) A9)) A9) (A0 (qv 13) A5))))
  A8))))
  A8)))
  A8)))
  (A3 (B1 (As (i:=3) aZ.nd (CV (qv 3) (CU (qv 11)))))
  A8))))))))
  (A3 (B1 (Fq (E0 HI Hv Hr HY (qv 4) (A0 (Af qd hr (A0 (qv 6) A5)) A5))))
  (A3 (AN (BM (A0 (Aa Sg (qv 4) (EC (own:=["k"]) (cap:=[]) F0 rfl (Je rfl cB (A0 (Aa Im (Ar Bw rfl aB BC (A0 (AO (qv 0) A9) A5)) (Ar Bw rfl aB BC (A0 (qv 4) A5))) A5)) (λ_ _ _ _=>II) (λ_ _ _ _=>Dv) (λ_ _ _ _=>(BM A5)))) (A0 (qv 3) A5))))
  A8))))))),?_⟩
 simp only[Ap];let dl1:=dO.l1;let dl3:=dO.l3;generalize hW:T.tup [.ref pd,.ref ph]=W;left;show DD ?_;left;show DD ?_;left;clear pb V0 f1 Γ1 Wu l1
 left;show DD ?_;left;show Ψ7 pd ph 0 (ds[0]'(by lia)) ds hs ns ⟨by rw[hW];rfl,l1 _ _ AE,l1 _ _ gh,ho,Bh (by lia),λΓ2 pk l2 nk gk=>?_⟩;left;show⟨λτ Γ'=>∃pf,τ=[some W,some (.ref pn),some (.ref pc),some (.bl true),some (.ref pb),some (.ref pk),some (.ref pf),none,none,none,none,none,none,none]∧Cp Γ Γ' pb pk pf ns ds hs 10 true,?_,?_⟩
 ·left
  intro p6 h6;left;intro p7 h7;left;intro p8 h8;left;show⟨p8,rfl,Cp.start (bs:=[]) (c:=true) no ho l1 Wu nk l2 gk h6 h7 h8 (Bh (by show 0<ds.length;lia)) (λ_=>rfl) λb m=>(nomatch m)⟩
 intro τ Γ3⟨pf0,rfl,Xw⟩;left;show⟨λτ Γ'=>∃(pk pf:Addr) (n:Nat) (jT:Bool) (o7 o8 o9 AH Nb Ct Cs:Option T),τ=[some W,some (.ref pn),some (.ref pc),some (.bl jT),some (.ref pb),some (.ref pk),some (.ref pf),o7,o8,o9,AH,Nb,Ct,Cs]∧Cp Γ Γ' pb pk pf ns ds hs n jT∧n≤73,?_,?_⟩;rotate_left
 ·rintro τ Γ' ⟨pk,pf,n,jT,o7,o8,o9,AH,Nb,Ct,Cs,rfl,⟨Γ0,bs,fs,d,l,c,cur,l0,gb,n0,fo,gk,ok,bt,kn,hd,hw,hb,rfl,bo⟩,TN⟩
  let bl:bs.length<ds.length:=(aaE.mp hd).1;left;show DD ?_;left;show⟨GC (fo.le _ _ gb),?_⟩;left;show Ψ4 pf Γ0 fs n ⟨rfl,fo,ok,by lia,bt,λΓ3 b l3 ob fb sb eb=>?_⟩;left;show Ψ3 pb _ _ ⟨rfl,rfl,l3 _ _ gb,by rw[AM,CN];lia,?_⟩;generalize f5:AA _ pb (O.lst _)=Γ4;let g5:=B4 f5
  let l4:Le Γ Γ4:=λx o h=>by rw[←f5,AZ (Bl h V0)];show l3 _ _ (l0 _ _ h)
  let Wt:Γ4 pb=some (.lst ((bs++[b]).map GU)):=by rw[g5,Ad];rfl
  let Sd:=zU.snoc hb hd (by rw[eb];show hw);let bl':(bs++[b]).length≤ds.length:=by rw[BO];show _+1≤_;lia
  let Zg:∀x∈bs++[b],JG 100 x:=λx m=>by
   rcases aaG.mp m with m|m
   ·show bo x m
   ·rw[aaB]at m;subst m;show⟨ob,fb,by lia⟩
  generalize bs++[b]=WS at Wt Sd bl' Zg;left;rw[←hW];show jF rfl (by rfl) ?_;rw[hW];left;show F8 (l4 _ _ AE) ?_;left;show F8 Wt ?_;left;rw[AM,AM];obtain⟨k,ek⟩:∃k:Nat,((ds.length:Nat):Int)-((WS.length:Nat):Int)=(k:Int):=⟨ds.length-WS.length,by lia⟩;rw[ek];show⟨k,rfl,by lia,by lia,by rw[JL,CN];lia,λv4 τ ys Γ''=>∃(lo c:Nat) (o:Option T),τ=[o]∧v4=EB lo c∧lo+c=k∧ys=(List.replicate lo ([]:List Sm)).map GU∧Γ4=Γ'',Ψ3 0 k none ⟨rfl,rfl,by lia,rfl,rfl⟩,?_,?_⟩
  ·intro τ ys Γ''⟨lo,c,o,rfl,e,lc,rfl,rfl⟩
   let hc:=LO e;show⟨trivial,λp5 Iy=>?_⟩;revert p5 Iy f5 Γ5 g5 l5
   left;show Ψ4 pb p5 _ _ ⟨rfl,rfl,l5 _ _ Wt,g5,by rw[AM,AM,MC,CN];lia,λp6 RT=>?_⟩;left;show AB .refl (q _ p6 (WS++List.replicate lo []) _ ((l4.trans l5).trans (Le.new RT)) (by rw[Ae,Ad]) (by rw[BO,MC];lia) (λb m=>?_) (Sd.pad lo (by lia)));rcases aaG.mp m with m|m
   ·show Zg b m
   ·rw[(List.mem_replicate.mp m).2]
    show⟨by unfold Bc;trivial,by rw[Bq],by rw[B7];lia⟩
  ·intro x rr τ ys Γ''⟨lo,c,o,rfl,e,lc,rfl,rfl⟩
   let⟨c',rfl,rfl,rfl⟩:=Jn e;left;show Ψ3 (lo+1) c' _ ⟨rfl,rfl,by lia,?_,rfl⟩;rw[List.replicate_succ',Ad];show _=_++[GU []]
   unfold GU;rw[BG]
 left;let gc3:=Xw.le _ _ gc;show Ψ2 pc _ ⟨rfl,Bx gc3,?_⟩;show⟨λv4 τ Γ'=>∃(pk pf:Addr) (n:Nat) (jT:Bool) (r:List Int) (o7 o8 o9 AH Nb Ct Cs:Option T),τ=[some W,some (.ref pn),some (.ref pc),some (.bl jT),some (.ref pb),some (.ref pk),some (.ref pf),o7,o8,o9,AH,Nb,Ct,Cs]∧v4=r.map T.int∧Cp Γ Γ' pb pk pf ns ds hs n jT∧n+r.length≤73∧r.length≤63,?_,?_,?_⟩
 ·show⟨pk,pf0,10,true,cs,none,none,none,none,none,none,none,rfl,rfl,Xw,by lia,cl⟩
 ·rintro τ Γ' ⟨pk,pf,n,jT,r,o7,o8,o9,AH,Nb,Ct,Cs,rfl,e,st,TN,XA⟩
  show⟨Bx (st.le _ _ gc),?_⟩;left;show⟨pk,pf,n,jT,o7,o8,o9,AH,Nb,Ct,Cs,rfl,st,by lia⟩
 rintro x rr τ Γ' ⟨pk,pf,n,jT,r,o7,o8,o9,AH,Nb,Ct,Cs,rfl,e,st,TN,XA⟩;cases r with
 |nil=>cases e
 |cons y r=>
  rw[BU]at e;injection e with e1' e2'
  subst e1' e2';rw[CF]at TN XA;show⟨Bx (st.le _ _ gc),?_⟩;left;show DD ?_;left;show Ψ2 y 5 ⟨rfl,by decide,λpr hpr=>?_⟩;revert pr hpr f3 Γ3 gr l3
  let t7:=st.mono l3;let rl:=UW y 5;let rp:∀z∈FJ y 5,0≤z:=iH;generalize FJ y 5=rs at gr rl rp;let⟨x0,m0,_,e0⟩:=Dx (ns:=rs) (j:=0) (by lia);let⟨x4,m4,_,e4⟩:=Dx (ns:=rs) (j:=4) (by lia);let Vw:=t7.le;left;show DD ?_;left;show B0 gr e4 ?_;left;generalize decide (V.int (x4%40)=V.int 7)=od;show DD ?_;left;show B0 gr e0 ?_;left;generalize x0/6%12=wd;show DD ?_;left;show⟨λτ Γ''=>∃(pk pf:Addr) (n:Nat) (IG:Bool) (Ct Cs:Option T),τ=[some W,some (.ref pn),some (.ref pc),some (.bl jT),some (.ref pb),some (.ref pk),some (.ref pf),some (.int y),some (.ref pr),some (.bl od),some (.int wd),some (.bl IG),Ct,Cs]∧Cp Γ Γ'' pb pk pf ns ds hs n (jT&&IG)∧n+r.length≤73,?_,?_⟩;rotate_left
  ·intro τ Γ''⟨pk,pf,n,IG,Ct,Cs,rfl,st,TN⟩
   left;show DD ?_;left;cases jT with
   |true=>
    rw[Ab rfl];left;show⟨pk,pf,n,IG,r,_,_,_,_,_,Ct,Cs,rfl,rfl,st,by lia,by lia⟩
   |false=>
    rw[AP (by simp)];left;show⟨pk,pf,n,false,r,_,_,_,_,_,Ct,Cs,rfl,rfl,st,by lia,by lia⟩
  obtain⟨Γ0,bs,fs,d,l,c,cur,l0,gb,n0,O7,gk,ok,bt,kn,hd,hw,hb,rfl,bo⟩:=t7;let bl:bs.length<ds.length:=(aaE.mp hd).1;let YH:=O7.le _ _ gb;let⟨fl,fz,K2⟩:=O7;let O7:FO Γ0 Γ3 pf fs:=⟨fl,fz,K2⟩;let Su:fl.length=fs.length:=by rw[←K2,AM]
  let fo4:=O7.rebase gk;left;show(λhE=>AU (λ_=>?_) (λ_=>hE)) ?_
  ·left
   show F8 YH ?_;left;rw[←hW];show jF rfl (by rfl) ?_;rw[hW];left;show F8 (Vw _ _ AE) ?_;left;rw[AM,AM];show AU (λc2=>?_) (λc2=>?_)
   ·let c2:bs.length+1<ds.length:=by have:=Cc c2;lia
    left;show DD ?_;left;show⟨GC YH,?_⟩;left;show Ψ4 pf Γ0 fs n ⟨rfl,O7,ok,by lia,bt,λΓ4 b l4 ob fb sb eb=>?_⟩;left;show Ψ3 pb _ _ ⟨rfl,rfl,l4 _ _ gb,by rw[AM,CN];lia,?_⟩;generalize f5:AA _ pb (O.lst _)=Γ5;let g5:=B4 f5
    let l5:Le Γ Γ5:=λx o h=>by rw[←f5,AZ (Bl h V0)];show l4 _ _ (l0 _ _ h)
    let g5':Γ5 pb=some (.lst ((bs++[b]).map GU)):=by rw[g5,Ad];rfl
    let Sd:=zU.snoc hb hd (by rw[eb];show hw);left;show DD ?_;left;show F8 g5 ?_;left;show Ψ7 pd ph (bs.length+1) (ds[bs.length+1]) ds hs ns ⟨by rw[hW];simp,l5 _ _ AE,l5 _ _ gh,ho,Bh (by lia),λΓ6 pk' l6 nk N3=>?_⟩;left;show DD ?_;left;intro p6 h6;left;intro p7 h7;left;intro p8 h8;left;let Z1:=Cp.start (bs:=bs++[b]) (Γ:=Γ) no ho l5 g5' nk l6 N3 h6 h7 h8 (by rw[BO];show Bh (by omega)) Sd λx m=>by
     rcases aaG.mp m with m|m
     ·show bo x m
     ·rw[aaB]at m;subst m;show⟨ob,fb,by lia⟩
    show Ψ6 pk' p8 10 true _ _ ⟨rfl,?_,by lia⟩;rw[Gp];show Z1
   ·show hE
  left;show DD ?_;left;apply (λ(hR:(_:Prop))=>?ma) ?re
  case ma=>
   show(λhP=>AU (λ_=>hP) (λ_=>?_)) ?_
   ·left
    show AU (λ_=>hP) (λ_=>hR)
   left;show F8 fz.gf ?_;left;rw[AM,Su];show AU (λc4=>?_) (λ_=>hR);let c4:fs.length<4:=by have:=Cc c4;lia
   left;show DD ?_;left;show Ψ8 pk pn pr l ns od rs 9 ⟨rfl,gk,Vw _ _ gn,gr,rl,rp,no,kn,by decide,λΓ5 hh b l5 Yq hf=>?_⟩;left;show DD ?_;let O5:Fz Γ0 Γ5 pf fl:=⟨fz.le.trans l5,l5 _ _ fz.gf,λr m=>⟨l5 _ _ (fz.ga r m).1,l5 _ _ (fz.ga r m).2⟩,fz.nd,fz.fr⟩;left;show⟨GC O5.gf,?_⟩;left;intro pz VY;left;intro pq NL;left;let XJ:pf≠pz:=Bl O5.gf VY;let npq:pf≠pq:=Bl (by rw[AZ XJ];show O5.gf) NL;show Ψ3 pf _ _ ⟨rfl,rfl,by rw[AZ npq,AZ XJ];show O5.gf,by rw[AM,Su,CN];lia,?_⟩;left;let Ue:([]:List T)=BG []:=by rw[BG]
   let XC:=Fz.push (fr:=⟨hh,none,[]⟩) (p:=pq) (pb:=pz) O5 VY (by rw[←Ue];show NL);rw[←Ue]at XC;let gk5:=l5 _ _ gk;let gk6:=Le.new (o:=.lst []) VY _ _ gk5;let OU:pk≠pf:=λe=>by subst e;rw[O5.gf]at gk5;cases gk5
   show Ψ6 pk pf (n+1) b _ _ ⟨rfl,Ψ7 Γ0 bs (fs++[⟨hh,none,[]⟩]) d l c (cur&&b) ⟨l0,gb,n0,⟨_,XC,by rw[Ad,K2];rfl⟩,by rw[AZ OU];show Le.new NL _ _ gk6,ok.push c4 Yq,bt.app,kn,hd,?_,hb,Kh _ _ _,bo⟩,by lia⟩;rw[zA Yq];show hw.more hf
  left;show DD ?_;left;show(λhL=>AU (λ_=>?_) (λ_=>hL)) ?_
  ·left
   show F8 fz.gf ?_;left;rw[AM,Su];show AU (λc2=>?_) (λ_=>hL);let c2:1<fs.length:=by have:=Cc c2;lia
   left;show DD ?_;left;show Ψ4 pf _ fs n ⟨rfl,fo4,ok,by lia,by lia,λΓ5 gs hc YL=>?_⟩;left;let ev:=hc.ev ok (by lia);show Ψ6 pk pf n true _ _ ⟨rfl,Ψ7 Γ0 bs gs d l c cur ⟨l0,gb,n0,YL.Lp n0,YL.le _ _ Ae,(hc.ok ok (by lia)).1,ev.2 bt,kn,hd,by rw[ev.1];show hw,hb,by rw[Gp],bo⟩,by lia⟩
  ·left
   show DD ?_;left;show Ψ8 pk pn pr l ns od rs 9 ⟨rfl,gk,Vw _ _ gn,gr,rl,rp,no,kn,by decide,λΓ5 st l' b kq gk5 kn5 so hf=>?_⟩;left;show DD ?_;clear fz K2 Su;let⟨fl,fz,K2⟩:=O7.kq n0 gk kq;obtain⟨Uc,fr,Sw,p,a,rfl,rfl⟩:∃(Uc:List Frq) (fr:Frq) (TU:Jh) (p b:Addr),fs=Uc++[fr]∧fl=TU++[(p,b,fr)]:=by
    have:=ok.l1;let Su:fl.length=fs.length:=by rw[←K2,AM]
    let⟨TU,t,e⟩:=PJ (l:=fl) (by lia);obtain⟨p,b,fr⟩:=t;show Ψ5 (TU.map (λq=>q.2.2)) fr TU p b ⟨by rw[←K2,e];simp,e⟩
   let gf:Γ5 pf=some (.lst ((Sw++[(p,a,fr)]).map λq=>T.ref q.1)):=fz.gf;let g:=fz.ga (p,a,fr) (by simp);let gp:Γ5 p=some (.lst [.tup fr.hd.tr,Hw fr.f1,.ref a]):=g.1;let Ws:Γ5 a=some (.lst (BG fr.b)):=g.2;left;show F8 gf ?_;left;rw[AM,BO];show B0 (t:=.ref p) gf (by rw[show((Sw.length+[(p,a,fr)].length:Nat):Int)-1=((Sw.length:Nat):Int)by simp];show FA (by simp)) ?_;left;show B0 (t:=.ref a) gp (by rfl) ?_;show⟨GC Ws,?_⟩;left;let sz:=ok.sz;rw[HS,Hp]at sz;unfold Frq.sz at sz;let sl:=Kf fr.b;show Ψ3 a _ _ ⟨rfl,rfl,Ws,by rw[mY,CN];lia,?_⟩;let Rq:p≠a:=by
    let nd:=fz.nd;rw[Ff]at nd;let tR:((pf::CY Sw)++[p,a]).Nodup:=nd;rw[aaK]at tR;have:=tR.2.1;simp at this;show this
   let OU:pk≠a:=λe=>by subst e;rw[Ws]at gk5;cases gk5
   let e:Uc=Sw.map (λq=>q.2.2):=by
    have:=K2;rw[Ad]at this;show(List.append_inj' this rfl).1.symm
   left;show Ψ6 pk pf (n+1) b _ _ ⟨rfl,Ψ7 Γ0 bs (Uc++[⟨fr.hd,fr.f1,fr.b++[st]⟩]) d l' c (cur&&b) ⟨l0,gb,n0,⟨_,fz.put (fr':=⟨fr.hd,fr.f1,fr.b++[st]⟩) (pb':=a) (Kq.set (by simp) _) (by rw[AZ Rq];show gp) (by rw[Ae,acJ]) (.inl rfl),by rw[Ad,←e];rfl⟩,by rw[AZ OU];show gk5,ok.more so,bt.more,kn5.nine no,hd,?_,hb,Kh _ _ _,bo⟩,by lia⟩;rw[xB so];show hw.more hf
end
abbrev Gh(q:List Sm×(Str×Nat)):Dr:=⟨⟨q.2.1,q.2.2,[],none⟩,q.1⟩
abbrev It(h:(Str×Nat)×Nat):Sh:=⟨h.1.1,h.1.2,D0 h.2,Fi h.2⟩
def acQ(hs:Ei)(sd:Nat):Du (hs.map It) sd=kk (D1 hs sd):=by
 unfold Du kk D1;rw[List.filter_map,D2,D2];congr 1
 show List.filter_congr λh _=>aba.mpr ?_;show((h.1.2:Nat):Int)=sd↔_
 lia
def cv(h:n<2):((n:Nat):Int)=0∨((n:Nat):Int)=1:=by lia
section
variable {ns: List Str}{ds: List (Str×Nat)}{hs: Ei}{bs: List (List Sm)}{jT: Bool}
def wA(no:fj ns)(ho:Gz ns hs):∀s∈hs.map It,s.Ok:=λs m=>by
 let⟨h,hm,rfl⟩:=aam.mp m;have:=ho.ok h hm;show⟨no.nm _ this.1,cv this.2.1,Qu _,(O3 _).2⟩
def yX(no:fj ns)(dO:K0 ns ds)(bo:∀b∈bs,JG 100 b):∀d∈(bs.zip ds).map Gh,d.Ok∧B7 d.b≤90000:=λd m=>by
 obtain⟨⟨b,e⟩,hm,rfl⟩:=aam.mp m;let hz:=LW hm;let h1:=dO.ok e hz.2;let h2:=bo b hz.1;let h3:=Kf b;let h4:=h2.sz;show⟨⟨⟨no.nm _ h1.1,cv h1.2,λq m=>(nomatch m),Nq,EY _,λk e=>(nomatch e)⟩,h2.ok,by show b.length≤1000;lia⟩,by show B7 b≤90000;lia⟩
def abG(dO:K0 ns ds)(ho:Gz ns hs)(bl:bs.length=ds.length)(bo:∀b∈bs,JG 100 b)(hb:zU hs ds bs jT):MY ((bs.zip ds).map Gh) (hs.map It)=jT:=by
 unfold MY;let a:(((bs.zip ds).map Gh).all λd=>GN d.b 1)=true:=aa2.mpr λd m=>by
  obtain⟨⟨b,e⟩,hm,rfl⟩:=aam.mp m;show(decide (1≤4)&&Bq b 1)=true
  rw[(bo b (LW hm).1).fm];rfl
 let b:((hs.map It).all λs=>CH s.k s.w)=true:=aa2.mpr λs m=>by
  let⟨h,hm,rfl⟩:=aam.mp m;show(O3 _).1
 let c:(((bs.zip ds).map Gh).map λd=>d.p.nm).Nodup:=by
  rw[D2,show((λd:Dr=>d.p.nm) ∘ Gh)=(λd:Str×Nat=>d.1) ∘ Prod.snd from rfl,←D2,List.map_snd_zip (by lia)];show dO.nd
 let e:((hs.map It).map λs=>(s.nm,s.sd)).Nodup:=by
  rw[D2];show ab5.mpr (List.Pairwise.imp (λ{x y} ne q=>ne ?_) (ab5.mp ho.nd));let q:(x.1.1,((x.1.2:Nat):Int))=(y.1.1,((y.1.2:Nat):Int)):=q;let q1:=DV Prod.fst q;let q2:((x.1.2:Nat):Int)=y.1.2:=DV Prod.snd q;show L6 q1 (by lia)
 rw[a,b,Bi c,Bi e,FY];show((bs.zip ds).all _)=jT
 rw[←hb (HZ ((bs.zip ds).map Gh))];show DV (List.all _) (funext λq=>?_);show Kz _ _ (Gh q).p q.1=_
 unfold Kz;show(true&&(Ba _ none [] q.1 (Du (hs.map It) ((q.2.2:Nat):Int)++[])).1)=_
 rw[Bd,BN,acQ,←yo];unfold CS;rw[mW]
end
section
variable {K: W.Frag}
@[reducible]def Uj:Stmt:=top 82
def gX:Aq ["script","row","names","begun","bodies","due","doors","shelves","name","side","number","found"] ["script"] (Ac Uj):=nofun
abbrev ck(K:W.Frag):Av:=λts Γ Z _=>∃(a:Addr) (ns:List Int),ts=[.scr K a (ns.map T.int)]∧ns.length≤63∧∀Γ',Z (.bl true) Γ'
def up(F:cJ K "law" "law" Uj f fd)(lz:AY P w K mg am "_law_draws" 1 ["cell","count"] Qv)(xK:AY P w K mg am "_law_names" 2 ["row"] lT)(xN:AY P w K mg am "_law_begun" 1 ["row","names"] cU)(xM:AY P w K mg am "_law_built" 3 ["begun","names","cells"] af)(vX:AY P w K mg am "is_program" 41 ["thing"] cq)
  (aB:mg "len" = none) (cB:mg "range" = none) (aC:mg "tuple" = none) (ai:mg "isinstance" = none) (oF:mg "bool" = none):bc P w K mg am Am 42 f fd ["script"] (Ak (ck K)):=by
 show B3 F gX (λts Γ Z Y h=>?_) (λcb A outer s H E ts Γ Z Y hr h=>?_)
 ·let⟨a,ns,rfl,_⟩:=h
  rfl
 let⟨a,cs,rfl,YC,q⟩:=h;show⟨_,(A3 (B1 (As (i:=1) gX.nd (Af lz hr (A0 (AO (Aa yJ (qv 0) (DA (A0 A9 A5))) A9) (A0 A9 A5)))))
  (A3 (B1 (As (i:=2) gX.nd (Af xK hr (A0 (FT JH (qv 1) HM (Ee A9)) A5))))
  (A3 (B1 (As (i:=3) gX.nd (Af xN hr (A0 (FT JH (qv 1) (Ee A9) (Ee A9)) (A0 (qv 2) A5)))))
  (A3 (B1 (EK (Af xM hr (A0 (qv 3) (A0 (qv 2) (A0 (FT xG (qv 0) (Ee A9) HM) A5)))) (Bn (n:=2) rfl (AS (Aj (i:=4) gX.nd) (AS (Aj (i:=5) gX.nd) Bu)))))
  (A3 (B1 (dw (i:=6) (own:=["k"]) (cap:=[(4,"bodies"),(3,"begun")]) (Fj rfl (by done) (by done) rfl (⟨rfl,⟨rfl,trivial⟩⟩) rfl (⟨⟨rfl,rfl,rfl⟩,⟨⟨rfl,rfl,rfl⟩,trivial⟩⟩)) rfl (Je rfl cB (A0 (Ar Bw rfl aB BC (A0 (qv 4) A5)) A5)) (λ_ _ _ _=>(Bb (i:=0) (show List.Nodup (["k","bodies","begun"]:List Str)from by done) rfl (Or.inl rfl) (Or.inr rfl))) (λ_ _ _ _=>Dv) (λ_ _ _ _=>(BM (A0 (BM (A0 (AO (AO (AO (qv 2) A9) (qv 0)) A9) (A0 (AO (AO (AO (qv 2) A9) (qv 0)) A9) (A0 (BM A5) (A0 FP A5))))) (A0 (AO (qv 1) (qv 0)) A5)))) gX.nd rfl rfl))
  (A3 (B1 (As (i:=7) gX.nd (DA A5)))
  (A3 (B1 (iY rfl rfl (Fo GJ rfl (TS rfl rfl (AO (qv 3) A9)) (Bn (n:=2) rfl (AS (Aj (i:=8) gX.nd) (AS (Aj (i:=9) gX.nd) Bu))) (A3 (B1 (As (i:=10) gX.nd (Mf rfl rfl (BA (BP (by decide:1≤64) _) hr.units) (AO (qv 3) A9) (BM (A0 (qv 8) (A0 (qv 9) A5))))))
  (A3 (B1 (Fq (E0 HI Hv Hr HY (qv 7) (A0 (BM (A0 (qv 8) (A0 (qv 9) (A0 (AO (DA (A0 (BM (A0 Al A5)) (A0 (BM (A0 Al (A0 A9 A5))) (A0 (BM (A0 Al (A0 (BM (A0 Al A5)) A5))) A5)))) (qv 10)) (A0 (AO (DA (A0 Al (A0 A9 (A0 (BM A5) A5)))) (qv 10)) A5))))) A5))))
  A8)))))
  (A3 (B1 (As (i:=11) gX.nd (Af vX hr (A0 (BM (A0 (IK Lo rfl aC Dm (A0 (qv 6) A5)) (A0 (IK Lo rfl aC Dm (A0 (qv 7) A5)) A5))) A5))))
  (A3 (AN (CV (D4 rfl ai rfl oF mG (qv 11)) (CU (Dh Bm (qv 11) (qv 5)))))
  A8))))))))),?_⟩
 simp only[Ap];left;show⟨λτ Γ'=>∃(pr:Addr) (c:Int),τ=[some (.scr K a (cs.map T.int)),some (.ref pr),none,none,none,none,none,none,none,none,none,none]∧Γ' pr=some (.lst ((FJ c 24).map T.int)),?_,?_⟩
 ·left
  clear p1 ki e1 Γ1 g1 l1
  left;show Ψ4 a p1 _ _ ⟨rfl,rfl,g1,by rw[AM,CN];show _+1≤_;lia,λp2 vB=>?_⟩;revert p2 vB e2 Γ2 g2 l2
  left;obtain⟨c,ec⟩:∃c:Int,CG (cs.map T.int++[T.int 0]) 0=some (.int c):=by
   cases cs with
   |nil=>show⟨0,rfl⟩
   |cons c r=>show⟨c,FA (j:=0) rfl⟩
  show B0 g2 ec ?_;left;show Ψ2 c 24 ⟨rfl,by decide,λp3 Yj=>?_⟩;left;show Ψ2 p3 c ⟨rfl,Ae⟩
 intro τ Γ1⟨pr,c0,rfl,gr⟩;let rl:(FJ c0 24).length=24:=UW _ _;left;show⟨λτ Γ'=>∃(pn:Addr) (ns:List Str),τ=[some (.scr K a (cs.map T.int)),some (.ref pr),some (.ref pn),none,none,none,none,none,none,none,none,none]∧Le Γ1 Γ'∧Γ' pn=some (.lst (ns.map T.str))∧fj ns,?_,?_⟩
 ·left
  show Ψ2 pr _ ⟨rfl,gr,λp1 ki=>?_⟩;rw[IY];revert p1 ki e1 Γ2 g1 l1
  left;show Ψ2 p1 _ ⟨rfl,g1,?_,λss p2 ls nm nd vB=>?_⟩
  ·rw[cg (by decide),Em,rl];rfl
  left;show Ψ2 p2 ss ⟨rfl,l1.trans (Le.new vB),Ae,ls,nm,nd⟩
 intro τ Γ2⟨pn,ns,rfl,l2,gn,no⟩;let gr2:=l2 _ _ gr;left;show⟨λτ Γ'=>∃(pd ph:Addr) (ds:List (Str×Nat)) (hs:Ei),τ=[some (.scr K a (cs.map T.int)),some (.ref pr),some (.ref pn),some (.tup [.ref pd,.ref ph]),none,none,none,none,none,none,none,none]∧Γ' pn=some (.lst (ns.map T.str))∧Γ' pd=some (.lst (ds.map G0))∧Γ' ph=some (.dT (Ek hs))∧K0 ns ds∧Gz ns hs,?_,?_⟩
 ·left
  show Ψ2 pr _ ⟨rfl,gr2,λp1 ki=>?_⟩;rw[IY];revert p1 ki e1 Γ3 g1 l1
  left;show Ψ4 p1 pn _ ns ⟨rfl,g1,?_,λr m=>iH r (TH m),l1 _ _ gn,no,λΓ' pd ph ds hs le AE gh dO ho=>?_⟩
  ·rw[Qf (by decide) (by decide),Em,GL,rl];rfl
  left;show Ψ4 pd ph ds hs ⟨rfl,le _ _ (l1 _ _ gn),AE,gh,dO,ho⟩
 intro τ Γ3⟨pd,ph,ds,hs,rfl,gn3,AE,gh,dO,ho⟩;left;show⟨λτ Γ'=>∃(pb:Addr) (bs:List (List Sm)) (jT:Bool),τ=[some (.scr K a (cs.map T.int)),some (.ref pr),some (.ref pn),some (.tup [.ref pd,.ref ph]),some (.ref pb),some (.bl jT),none,none,none,none,none,none]∧Le Γ3 Γ'∧Γ' pb=some (.lst (bs.map GU))∧bs.length=ds.length∧(∀b∈bs,JG 100 b)∧zU hs ds bs jT,?_,?_⟩
 ·left
  show Ψ2 a _ ⟨rfl,λp1 ki=>?_⟩;rw[IY];revert p1 ki e1 Γ4 g1 l1
  left;show Ψ8 pd ph pn p1 ns ds hs _ ⟨rfl,l1 _ _ AE,l1 _ _ gh,l1 _ _ gn3,g1,?_,no,dO,ho,λΓ5 pb bs jT l5 gb bl bo hb=>?_⟩
  ·rw[Mr (by decide),GL];lia
  left;show Ψ3 pb bs jT ⟨rfl,l1.trans l5,gb,bl,bo,hb⟩
 intro τ Γ4⟨pb,bs,jT,rfl,l4,gb,bl,bo,hb⟩;let YG:=l4 _ _ AE;let gh4:=l4 _ _ gh;let dl:=dO.l3;left;show⟨λτ Γ'=>∃(pe:Addr),τ=[some (.scr K a (cs.map T.int)),some (.ref pr),some (.ref pn),some (.tup [.ref pd,.ref ph]),some (.ref pb),some (.bl jT),some (.ref pe),none,none,none,none,none]∧Le Γ4 Γ'∧Γ' pe=some (.lst (((bs.zip ds).map Gh).map Dr.tr)),?_,?_⟩
 ·left
  show F8 gb ?_;left;rw[AM];show⟨_,rfl,by lia,by lia,by rw[JL,CN];lia,λv4 τ ys Γ''=>∃(lo c:Nat) (o:Option T),τ=[o,some (.ref pb),some (.tup [.ref pd,.ref ph])]∧v4=EB lo c∧lo+c=bs.length∧ys=(((bs.zip ds).take lo).map Gh).map Dr.tr∧Γ4=Γ'',Ψ3 0 bs.length none ⟨rfl,rfl,by lia,rfl,rfl⟩,?_,?_⟩
  ·intro τ ys Γ''⟨lo,c,o,rfl,e,lc,rfl,rfl⟩
   let hc:=LO e;show⟨trivial,λpe hpe=>?_⟩;show⟨pe,rfl,Le.new hpe,?_⟩;rw[Ae,Ld (by rw[Tu];lia)]
  ·intro x rr τ ys Γ''⟨lo,c,o,rfl,e,lc,rfl,rfl⟩
   let⟨c',rfl,rfl,rfl⟩:=Jn e;let Ua:lo<bs.length:=by lia
   let hd1:lo<ds.length:=by lia
   let ed:CG (ds.map G0) ((lo:Nat):Int)=some (G0 ds[lo]):=FA (by rw[FK,Bh hd1];rfl);let eb:CG (bs.map GU) ((lo:Nat):Int)=some (GU bs[lo]):=FA (by rw[FK,Bh Ua];rfl);left;show B0 YG ed ?_;unfold G0;left;show B0 YG ed ?_;unfold G0;left;show B0 gb eb ?_;left;show Ψ3 (lo+1) c' _ ⟨rfl,rfl,by lia,?_,rfl⟩;let hz:lo<(bs.zip ds).length:=by rw[Tu];lia
   rw[List.take_succ_eq_append_getElem hz,Ad,Ad,List.getElem_zip];rfl
 intro τ Γ5⟨pe,rfl,l5,ge⟩;let Wq:=l5 _ _ gh4;left;show DD ?_;left;clear pq NL f1 Γ6 g6 l6
 left;let gh6:=l6 _ _ Wq;let ge6:=l6 _ _ ge;let Vp:ph≠pq:=Bl Wq NL;let XQ:ph≠pe:=λe=>by subst e;rw[Wq]at ge;cases ge
 let neq:pe≠pq:=Bl ge NL;show⟨λτ Γ'=>∃o8 o9 AH,τ=[some (.scr K a (cs.map T.int)),some (.ref pr),some (.ref pn),some (.tup [.ref pd,.ref ph]),some (.ref pb),some (.bl jT),some (.ref pe),some (.ref pq),o8,o9,AH,none]∧Γ' pe=some (.lst (((bs.zip ds).map Gh).map Dr.tr))∧Γ' pq=some (.lst ((hs.map It).map Sh.tr)),?_,?_⟩
 ·unfold R3
  left;unfold Oy;left;show⟨ph,rfl,.inl ⟨_,gh6,λo=>?_⟩⟩;show⟨λv4 τ Γ'=>∃(gs es:Ei) (o8 o9 AH:Option T),v4=gs.map (λh=>T.tup [.str h.1.1,.int (h.1.2:Int)])∧hs=es++gs∧τ=[some (.scr K a (cs.map T.int)),some (.ref pr),some (.ref pn),some (.tup [.ref pd,.ref ph]),some (.ref pb),some (.bl jT),some (.ref pe),some (.ref pq),o8,o9,AH,none]∧Γ' ph=some (.fzT P w o (Ek hs))∧Γ' pe=some (.lst (((bs.zip ds).map Gh).map Dr.tr))∧Γ' pq=some (.lst ((es.map It).map Sh.tr)),Ψ5 hs [] none none none ⟨by unfold Ek;rw[D2];rfl,rfl,rfl,Ae,by rw[AZ (C3 XQ)];show ge6,by rw[AZ (C3 Vp)];show g6⟩,?_,?_⟩
  ·intro τ Γ'⟨gs,es,o8,o9,AH,er,ez,rfl,gz,Wr,gq⟩
   let hg:gs=[]:=by
    cases gs with
    |nil=>rfl
    |cons _ _=>cases er
   subst hg;rw[BN]at ez;subst ez;show⟨gz,_,Ψ2 ph o (.inl ⟨_,gz,rfl⟩),?_⟩;show Ψ3 _ _ _ ⟨rfl,by rw[AZ (C3 XQ)];show Wr,by rw[AZ (C3 Vp)];show gq⟩
  intro x r τ Γ'⟨gs,es,o8,o9,AH,er,ez,rfl,gz,Wr,gq⟩;cases gs with
  |nil=>cases er
  |cons g gs=>
   injection er with e1 e2
   subst e1 e2;let gm:g∈hs:=by rw[ez];simp
   show⟨gz,?_⟩;left;show DD ?_;left;unfold Nv;left;show Ψ3 ph o (.int (g.2:Int)) ⟨rfl,.inr ⟨_,FX g.1,gz,rfl,jJ gm ho.nd⟩,?_⟩;left;show DD ?_;left;show⟨GC gq,?_⟩;left;clear p8 h8 f8 Γ8 g8 l8
   left;show B0 g8 (gg (ho.ok g gm).2.2) ?_;left;clear p9 h9 f9 Γ9 g9 l9
   left;show B0 g9 (eD (ho.ok g gm).2.2) ?_;left;let Vz:=l8.trans l9;let hl:=ho.l2;rw[ez,BO]at hl;show Ψ3 pq _ _ ⟨rfl,rfl,Vz _ _ gq,by rw[AM,AM,CN];lia,?_⟩;left;show Ψ5 gs (es++[g]) _ _ _ ⟨rfl,by rw[ez];simp,rfl,by rw[AZ Vp];show Vz _ _ gz,by rw[AZ neq];show Vz _ _ Wr,by rw[Ae,Ad,Ad];rfl⟩
 intro τ Γ7⟨o8,o9,AH,rfl,ge7,gq7⟩;let hl:=ho.l2;left;show DD ?_;left;show Ψ2 _ _ ⟨rfl,Bx ge7,?_⟩;left;show Ψ2 _ _ ⟨rfl,Bx gq7,?_⟩;left;let Ui:=yX no dO bo;show Ψ2 _ _ ⟨rfl,by rw[AM,Tu];lia,by rw[AM];lia,λd m=>(Ui d m).1,wA no ho,λd m=>(Ui d m).2,?_⟩;rw[abG dO ho bl bo hb];left;show ET (g0 (.bl _)) ?_;left;show Ψ2 (.bl jT) (.bl jT) ⟨rfl,rfl,rfl,?_⟩;rw[Bi (rfl:V.bl jT=V.bl jT)];show AB .refl (q _)
def W2{f1 f2:Addr}{zw zu:FuncData}(F:cJ K "is_kind_within" "is_kind_within" P9 f fd)(m:mg "is_kind_within" = some (.ref f))(kp:W.keepIn K (.ref f)=true)(b:Binds K fd ["thing","depth"] [])
  (sW:cJ K "is_field" "is_field" N6 f1 zw) (sf:mg "is_field" = some (.ref f1)) (pV:W.keepIn K (.ref f1)=true) (sS:Binds K zw ["thing","depth"] [])
  (oB:cJ K "are_fields" "are_fields" N7 f2 zu) (nN:mg "are_fields" = some (.ref f2)) (my:W.keepIn K (.ref f2)=true) (ow:Binds K zu ["thing","depth"] [])
  (C1:AY P w K mg am "is_whole" 1 ["thing"] Hi) (C2:AY P w K mg am "is_name" 1 ["thing"] Ip) (dW:mg "WIDEST_NUM" = some v1) (ip:D5 v1 (.int 4)) (dk:mg "MOST_FIELDS" = some v2) (gN:D5 v2 (.int 6)) (ai:mg "isinstance" = none) (aC:mg "tuple" = none) (cK:mg "str" = none) (aB:mg "len" = none) (bp:mg "all" = none) :
  ∀n:Nat,AY P w K mg am "is_kind_within" (3*n+1) ["thing","depth"] (MJ n)
 |0=>Ψ2 f fd ⟨NH λts Γ Z Y h=>by obtain⟨_,d,_,h,_⟩:=h;lia,m,kp,b⟩
 |n+1=>by
  let c:=W2 F m kp b sW sf pV sS oB nN my ow C1 C2 dW ip dk gN ai aC cK aB bp n;let c1:AY P w K mg am "is_field" (3*n+2) ["thing","depth"] (Ql n):=Ψ2 f1 zw ⟨adG sW C2 c ai aC aB,sf,pV,sS⟩;let c2:AY P w K mg am "are_fields" (3*n+3) ["thing","depth"] (Qr n):=Ψ2 f2 zu ⟨ox oB dk gN c1 ai aC aB bp,nN,my,ow⟩;show Ψ2 f fd ⟨by rw[show 3*(n+1)+1=3*n+4 by lia];show aai F dW ip C1 c c2 ai aC cK aB,m,kp,b⟩
end
def cY{K:W.Frag}{b:Addr}{od:Option Addr}{it:Array Value}{sl:Array (Option Value)}{xs:List V}(l:K.lookup b=some ⟨.type "tuple",od,.seq it n,sl⟩)(z:it.size≤sizeLine)(v:Vals xs it.toList):ef K b xs:=Ψ3 _ _ _ ⟨l,rfl,rfl,z,v⟩
def LN{P:Program}{w:World}{K:W.Frag}{b4 b5 b6 b7 b8 b9 Ul Uk:Addr}(l:K.lookup a=some ⟨.type "dict",none,.dict es.toArray ep,#[]⟩)(e:qG w es [("new",b0),("copy",b1),("part",b2),("put",b3),("add",b4),("drop",b5),("say",b6),("call",b7),("same",b8),("fail",b9),("try",Ul),("back",Uk)])(hs:(a==sysModules)=false)
  (k0:ef K b0 ([("name" : Str),("kind" : Str),("worth" : Str)].map V.str)) (k1:ef K b1 ([("name" : Str),("name" : Str)].map V.str)) (k2:ef K b2 ([("name" : Str),("name" : Str),("path" : Str)].map V.str)) (k3:ef K b3 ([("name" : Str),("path" : Str),("name" : Str)].map V.str)) (k4:ef K b4 ([("name" : Str),("path" : Str),("name" : Str)].map V.str)) (k5:ef K b5 ([("name" : Str)].map V.str)) (k6:ef K b6 ([("name" : Str)].map V.str)) (k7:ef K b7 ([("name\x20or\x20none" : Str),("name" : Str),("names" : Str)].map V.str)) (k8:ef K b8 ([("name" : Str),("name" : Str),("body" : Str),("body" : Str)].map V.str)) (k9:ef K b9 ([("fail" : Str)].map V.str)) (k10:ef K Ul ([("body" : Str),("body" : Str)].map V.str)) (k11:ef K Uk ([("name" : Str)].map V.str)):Pe P w K a:=by
 show⟨[b0,b1,b2,b3,b4,b5,b6,b7,b8,b9,Ul,Uk],rfl,zf l e (show(["new","copy","part","put","add","drop","say","call","same","fail","try","back"]:List Str).Nodup by done) hs,λi z ss b h1 h2=>?_⟩;let hi:i<12:=(aaE.mp h1).1;have:i=0∨i=1∨i=2∨i=3∨i=4∨i=5∨i=6∨i=7∨i=8∨i=9∨i=10∨i=11:=by lia
 rcases this with rfl|rfl|rfl|rfl|rfl|rfl|rfl|rfl|rfl|rfl|rfl|rfl<;>(cases h1;cases h2;assumption)
def OA{P:Program}{w:World}{K:W.Frag}(l:K.lookup a=some ⟨.type "dict",none,.dict es.toArray ep,#[]⟩)(e:qG w es [("copy",b0),("give",b1),("lend",b2),("lease",b3)])(hs:(a==sysModules)=false)
  (k0:ef K b0 []) (k1:ef K b1 []) (k2:ef K b2 [.str "give",.str "lease"]) (k3:ef K b3 [.str "give"]):Tf P w K a:=Ψ4 b0 b1 b2 b3 ⟨zf l e (show(["copy","give","lend","lease"]:List Str).Nodup by done) hs,k0,k1,k2,k3⟩
abbrev Od(K:W.Frag):Dq:=λvs H Q _=>∃(a:Addr) (ns:List Int),vs=[.ref a]∧Pz H∧lI K H a (ns.map V.int)∧ns.length≤63∧∀H',Q (.bl true) H'
def mi{H:A4}:∀ns:List Int,Rs H (ns.map V.int) (ns.map T.int)
 |[]=>EM
 |n::r=>Dn DZ (mi r)
def qq{K:W.Frag}(vs:List V)(H:A4)(Q:An)(E:BD)(h:Od K vs H Q E):Ak (ck K) vs H Q E:=by
 let⟨a,ns,rfl,hO,hS,YC,q⟩:=h;let sc:Js K H a (ns.map V.int):=by
  rcases hS with(h|⟨o,h⟩)|h
  ·rcases hO a with z|⟨o,xs,z⟩
   ·rw[h]at z;cases z
   ·rw[h]at z;cases z
  ·show .inl ⟨o,h⟩
  ·show .inr h
 show Ψ4 [.scr K a (ns.map T.int)] (λ_=>none) (λx _=>x=.bl true) (λ_ _=>False) ⟨Dn (acx sc (mi ns)) EM,λ_ _ h=>(nomatch h),Ψ2 a ns ⟨rfl,YC,λ_=>rfl⟩,λv x H' Γ' _ _ r z=>?_,λ_ _ _ _ _ z=>z.elim⟩;subst z;rw[GW r];show q H'
def all_mk{l:W.OpenLaw}{w:World}{K:W.Frag}{h:Heap}{mg:KK}{fa f3 f4 f5 f6 f7 f8 f9 O9 O8 f12 f13 f14 f15 f16 f17 f18 f19 f20 f21 f22 f23 f24 f25 f26 f27 f28 f29 Y1 YZ YY f33 YX YW f36 YV YU YT YS YR YQ YO f44 f45 f46 f47 f48 f49 f50 f51 f52 f53 f54 f55:Addr}{g1 g2 g3 g4 g5 g6 g7 g8 g9 O4 Wy g12 g13 g14 g15 g16 g17 g18 g19 g20 g21 g22 g23 g24 g25 g26 g27 g28 g29 g30 g31 g32 g33 g34 g35 g36 g37 g38 g39 g40 g41 g42 g43 g44 g45 g46 g47 g48 g49 g50 g51 g52 g53 g54 YK:FuncData}(X:K.In h)(G:h.Ns mainGlobals mg)(hfa:mg "law" = some (.ref fa))
  (d1:Dg K "is_whole" QR f1 g1) (d2:Dg K "is_name" Rh f2 g2) (d3:Dg K "is_kind" QK f3 g3) (d4:Dg K "is_kind_within" P9 f4 g4) (d5:Dg K "are_fields" N7 f5 g5) (d6:Dg K "is_field" N6 f6 g6) (d7:Dg K "part_kind" TE f7 g7) (d8:Dg K "step_kind" UY f8 g8) (d9:Dg K "field_place" Qp f9 g9) (d10:Dg K "is_worth" Nu O9 O4) (d11:Dg K "is_number" Rk O8 Wy) (d12:Dg K "is_text" S3 f12 g12) (d13:Dg K "is_sign" RJ f13 g13) (d14:Dg K "is_record" Mg f14 g14) (d15:Dg K "is_choice" Ol f15 g15) (d16:Dg K "is_paper" Tb f16 g16) (d17:Dg K "is_side" VE f17 g17) (d18:Dg K "are_places" U4 f18 g18) (d19:Dg K "is_place" Ud f19 g19) (d20:Dg K "has_program_form" UO f20 g20) (d21:Dg K "is_door" Rt f21 g21) (d22:Dg K "is_shelf" UX f22 g22) (d23:Dg K "is_body" Pn f23 g23) (d24:Dg K "is_statement" Q5 f24 g24) (d25:Dg K "is_of_sort" PY f25 g25) (d26:Dg K "is_path" Qc f26 g26) (d27:Dg K "is_program" QW f27 g27) (d28:Dg K "is_good_door" Td f28 g28) (d29:Dg K "is_good_body" Om f29 g29) (d30:Dg K "is_good_new" OI Y1 g30) (d31:Dg K "is_good_copy" Mh YZ g31) (d32:Dg K "is_good_part" PR YY g32) (d33:Dg K "kind_at" RI f33 g33) (d34:Dg K "is_good_put" Mi YX g34) (d35:Dg K "is_good_add" Pm YW g35) (d36:Dg K "is_good_change" Te f36 g36) (d37:Dg K "is_good_drop" N9 YV g37) (d38:Dg K "is_good_say" Oq YU g38) (d39:Dg K "is_good_call" PX YT g39) (d40:Dg K "is_good_same" Ox YS g40) (d41:Dg K "is_good_fail" Nt YR g41) (d42:Dg K "is_good_try" Ot YQ g42) (d43:Dg K "is_good_back" Nw YO g43) (d44:Dg K "_law_draws" Ur f44 g44) (d45:Dg K "_law_word" SO f45 g45) (d46:Dg K "_law_names" U2 f46 g46) (d47:Dg K "_law_closed" Tc f47 g47) (d48:Dg K "_law_ended" QP f48 g48) (d49:Dg K "_law_begun" QV f49 g49) (d50:Dg K "_law_here" UP f50 g50) (d51:Dg K "_law_using" QA f51 g51) (d52:Dg K "_law_statement" QH f52 g52) (d53:Dg K "_law_opened" RK f53 g53) (d54:Dg K "_law_built" VJ f54 g54) (d55:Dg K "law" Uj f55 YK)
  (zs:Zs K ["len","range","tuple","isinstance","int","bool","str","all","any","zip","enumerate","dict","ord","sorted","list"])
  {u1:Value} (gk1:W.nsIn K mainGlobals "LETTERS" = some (some u1)) (q1:RelV (.str Pc) u1)
  {u2:Value} (gk2:W.nsIn K mainGlobals "LONGEST_NAME" = some (some u2)) (q2:RelV (.int 8) u2)
  {u3:Value} (gk3:W.nsIn K mainGlobals "WIDEST_NUM" = some (some u3)) (q3:RelV (.int 4) u3)
  {u4:Value} (gk4:W.nsIn K mainGlobals "MOST_FIELDS" = some (some u4)) (q4:RelV (.int 6) u4)
  {u5:Value} (gk5:W.nsIn K mainGlobals "DEEPEST_KIND" = some (some u5)) (q5:RelV (.int 5) u5)
  {u6:Value} (gk6:W.nsIn K mainGlobals "MOST_ITEMS" = some (some u6)) (q6:RelV (.int 60) u6)
  {u7:Value} (gk7:W.nsIn K mainGlobals "WORD_NUMBERS" = some (some u7)) (q7:RelV (.int 65536) u7)
  {u8:Value} (gk8:W.nsIn K mainGlobals "MOST_SIGNS" = some (some u8)) (q8:RelV (.int 60) u8)
  {u9:Value} (gk9:W.nsIn K mainGlobals "FIRST_SIGN" = some (some u9)) (q9:RelV (.int 32) u9)
  {Xl:Value} (gk10:W.nsIn K mainGlobals "LAST_SIGN" = some (some Xl)) (q10:RelV (.int 126) Xl)
  {Xk:Value} (gk11:W.nsIn K mainGlobals "HUNDREDTH_SIGN" = some (some Xk)) (q11:RelV (.int 37) Xk)
  {Xj:Value} (gk12:W.nsIn K mainGlobals "DEEPEST_BODY" = some (some Xj)) (q12:RelV (.int 4) Xj)
  {Xi:Value} (gk13:W.nsIn K mainGlobals "GREATEST_FAIL" = some (some Xi)) (q13:RelV (.int 999) Xi)
  {qX:Addr} (gcNoPart:W.nsIn K mainGlobals "NoPart" = some (some (.ref qX)))
  {bX:Addr} (gcScope:W.nsIn K mainGlobals "Scope" = some (some (.ref bX)))
  (xNoPart:W.excIn K qX [.type "ValueError",.type "Exception",.type "BaseException",.type "object"] "ValueError.__new__" = true)
  (xm:W.exmOne K (.ref qX) (.ref qX)=some true)
  {zQ:Addr} (gSIDES:W.nsIn K mainGlobals "SIDES" = some (some (.ref zQ))) {Ia:Option Addr} {vz:Array Value} {Ib:Nat} {GP:Array (Option Value)} (klSIDES:K.lookup zQ=some ⟨.type "tuple",Ia,.seq vz Ib,GP⟩) (kzSIDES:vz.size≤sizeLine) (kvSIDES:Vals [.int 0,.int 1] vz.toList)
  {Ge:Addr} (gWAYS:W.nsIn K mainGlobals "WAYS" = some (some (.ref Ge))) {Na:Option Addr} {zi:Array Value} {Nf:Nat} {L8:Array (Option Value)} (klWAYS:K.lookup Ge=some ⟨.type "tuple",Na,.seq zi Nf,L8⟩) (kzWAYS:zi.size≤sizeLine) (kvWAYS:Vals (jX.map V.str) zi.toList)
  {qg:Addr} (gSTATEMENTS:W.nsIn K mainGlobals "STATEMENTS" = some (some (.ref qg))) (h_ST:Pe l.prog w K qg)
  {oy:Addr} (gBARRED_WAYS:W.nsIn K mainGlobals "BARRED_WAYS" = some (some (.ref oy))) (h_BW:Tf l.prog w K oy)
  {Gf:Addr} (gRULES:W.nsIn K mainGlobals "RULES" = some (some (.ref Gf))) (k_RULES:Br l.prog w K Gf [("new",Y1),("copy",YZ),("part",YY),("put",YX),("add",YW),("drop",YV),("say",YU),("call",YT),("same",YS),("fail",YR),("try",YQ),("back",YO)])
  {YM:Addr} {gm1:FuncData} (dm1:Kj K bX "__init__" "Scope.__init__" Qq YM gm1)
  {fm2:Addr} {gm2:FuncData} (dm2:Kj K bX "knows" "Scope.knows" SK fm2 gm2)
  {fm3:Addr} {gm3:FuncData} (dm3:Kj K bX "is_own" "Scope.is_own" TX fm3 gm3)
  {fm4:Addr} {gm4:FuncData} (dm4:Kj K bX "may_make" "Scope.may_make" TY fm4 gm4)
  {fm5:Addr} {gm5:FuncData} (dm5:Kj K bX "may_hand" "Scope.may_hand" Th fm5 gm5)
  (pgScope:W.plainGet K bX Str.empty=true) (hdScope:W.hasDictIn K bX=true) (poScope:W.plainOver K bX=true) (saScope:W.findIn K (.ref bX) "__setattr__" = some (some (.builtin "object.__setattr__"))) (mkScope:W.makesIn K bX=true) (keScope:W.keepIn K (.ref bX)=true)
  (naScope_papers:W.findIn K (.ref bX) "papers" = some none)
  (naScope_result:W.findIn K (.ref bX) "result" = some none)
  (naScope_ways:W.findIn K (.ref bX) "ways" = some none)
  (naScope_kinds:W.findIn K (.ref bX) "kinds" = some none)
  :
  ∃fd:FuncData,(∀(s:Shared) (v:Value),BindsTo s fd ⟨[v],[]⟩ [("script",v)])∧∀am:Heap,K.In am→am.Ns mainGlobals mg→bc l.prog w K mg am Am 42 fa fd ["script"] (Od K):=by
 let d1:=d1.df (ps:=["thing"]) X G λ_ _ _ _ _ _=>L3.uC (λ_=>rfl);let d2:=d2.df (ps:=["thing"]) X G λ_ _ _ _ _ _=>L3.uC (λ_=>rfl);let d3:=d3.df (ps:=["thing"]) X G λ_ _ _ _ _ _=>L3.uC (λ_=>rfl);let d4:=d4.df (ps:=["thing","depth"]) X G λ_ _ _ _ _ _=>L3.kj (λ_ _=>rfl);let d5:=d5.df (ps:=["thing","depth"]) X G λ_ _ _ _ _ _=>L3.kj (λ_ _=>rfl);let d6:=d6.df (ps:=["thing","depth"]) X G λ_ _ _ _ _ _=>L3.kj (λ_ _=>rfl);let d7:=d7.df (ps:=["kind","path"]) X G λ_ _ _ _ _ _=>L3.kj (λ_ _=>rfl);let d8:=d8.df (ps:=["kind","step"]) X G λ_ _ _ _ _ _=>L3.kj (λ_ _=>rfl);let d9:=d9.df (ps:=["kind","name"]) X G λ_ _ _ _ _ _=>L3.kj (λ_ _=>rfl);let d10:=d10.df (ps:=["kind","thing"]) X G λ_ _ _ _ _ _=>L3.kj (λ_ _=>rfl);let d11:=d11.df (ps:=["width","thing"]) X G λ_ _ _ _ _ _=>L3.kj (λ_ _=>rfl);let d12:=d12.df (ps:=["thing"]) X G λ_ _ _ _ _ _=>L3.uC (λ_=>rfl);let d13:=d13.df (ps:=["number"]) X G λ_ _ _ _ _ _=>L3.uC (λ_=>rfl);let d14:=d14.df (ps:=["fields","parts"]) X G λ_ _ _ _ _ _=>L3.kj (λ_ _=>rfl);let d15:=d15.df (ps:=["fields","pair"]) X G λ_ _ _ _ _ _=>L3.kj (λ_ _=>rfl);let d16:=d16.df (ps:=["thing"]) X G λ_ _ _ _ _ _=>L3.uC (λ_=>rfl);let d17:=d17.df (ps:=["thing"]) X G λ_ _ _ _ _ _=>L3.uC (λ_=>rfl);let d18:=d18.df (ps:=["thing"]) X G λ_ _ _ _ _ _=>L3.uC (λ_=>rfl);let d19:=d19.df (ps:=["thing"]) X G λ_ _ _ _ _ _=>L3.uC (λ_=>rfl);let d20:=d20.df (ps:=["thing"]) X G λ_ _ _ _ _ _=>L3.uC (λ_=>rfl);let d21:=d21.df (ps:=["thing"]) X G λ_ _ _ _ _ _=>L3.uC (λ_=>rfl);let d22:=d22.df (ps:=["thing"]) X G λ_ _ _ _ _ _=>L3.uC (λ_=>rfl);let d23:=d23.df (ps:=["thing","depth"]) X G λ_ _ _ _ _ _=>L3.kj (λ_ _=>rfl);let d24:=d24.df (ps:=["thing","depth"]) X G λ_ _ _ _ _ _=>L3.kj (λ_ _=>rfl);let d25:=d25.df (ps:=["sort","thing","depth"]) X G λ_ _ _ _ _ _=>L3.Po (λ_ _ _=>rfl);let d26:=d26.df (ps:=["thing"]) X G λ_ _ _ _ _ _=>L3.uC (λ_=>rfl);let d27:=d27.df (ps:=["thing"]) X G λ_ _ _ _ _ _=>L3.uC (λ_=>rfl);let d28:=d28.df (ps:=["papers","shelves","paper","body"]) X G λ_ _ _ _ _ _=>L3.Tp (λ_ _ _ _=>rfl);let d29:=d29.df (ps:=["scope","body"]) X G λ_ _ _ _ _ _=>L3.kj (λ_ _=>rfl);let d30:=d30.df (ps:=["scope","statement"]) X G λ_ _ _ _ _ _=>L3.kj (λ_ _=>rfl);let d31:=d31.df (ps:=["scope","statement"]) X G λ_ _ _ _ _ _=>L3.kj (λ_ _=>rfl);let d32:=d32.df (ps:=["scope","statement"]) X G λ_ _ _ _ _ _=>L3.kj (λ_ _=>rfl);let d33:=d33.df (ps:=["kind","path"]) X G λ_ _ _ _ _ _=>L3.kj (λ_ _=>rfl);let d34:=d34.df (ps:=["scope","statement"]) X G λ_ _ _ _ _ _=>L3.kj (λ_ _=>rfl);let d35:=d35.df (ps:=["scope","statement"]) X G λ_ _ _ _ _ _=>L3.kj (λ_ _=>rfl);let d36:=d36.df (ps:=["scope","target","name"]) X G λ_ _ _ _ _ _=>L3.Po (λ_ _ _=>rfl);let d37:=d37.df (ps:=["scope","statement"]) X G λ_ _ _ _ _ _=>L3.kj (λ_ _=>rfl);let d38:=d38.df (ps:=["scope","statement"]) X G λ_ _ _ _ _ _=>L3.kj (λ_ _=>rfl);let d39:=d39.df (ps:=["scope","statement"]) X G λ_ _ _ _ _ _=>L3.kj (λ_ _=>rfl);let d40:=d40.df (ps:=["scope","statement"]) X G λ_ _ _ _ _ _=>L3.kj (λ_ _=>rfl);let d41:=d41.df (ps:=["scope","statement"]) X G λ_ _ _ _ _ _=>L3.kj (λ_ _=>rfl);let d42:=d42.df (ps:=["scope","statement"]) X G λ_ _ _ _ _ _=>L3.kj (λ_ _=>rfl);let d43:=d43.df (ps:=["scope","statement"]) X G λ_ _ _ _ _ _=>L3.kj (λ_ _=>rfl);let d44:=d44.df (ps:=["cell","count"]) X G λ_ _ _ _ _ _=>L3.kj (λ_ _=>rfl);let d45:=d45.df (ps:=["numbers"]) X G λ_ _ _ _ _ _=>L3.uC (λ_=>rfl);let d46:=d46.df (ps:=["row"]) X G λ_ _ _ _ _ _=>L3.uC (λ_=>rfl);let d47:=d47.df (ps:=["frames"]) X G λ_ _ _ _ _ _=>L3.uC (λ_=>rfl);let d48:=d48.df (ps:=["frames"]) X G λ_ _ _ _ _ _=>L3.uC (λ_=>rfl);let d49:=d49.df (ps:=["row","names"]) X G λ_ _ _ _ _ _=>L3.kj (λ_ _=>rfl);let d50:=d50.df (ps:=["begun","at"]) X G λ_ _ _ _ _ _=>L3.kj (λ_ _=>rfl);let d51:=d51.df (ps:=["word","known","names","odd","r"]) X G λ_ _ _ _ _ _=>L3.ZE (λ_ _ _ _ _=>rfl);let d52:=d52.df (ps:=["known","names","odd","r"]) X G λ_ _ _ _ _ _=>L3.Tp (λ_ _ _ _=>rfl);let d53:=d53.df (ps:=["known","names","odd","r"]) X G λ_ _ _ _ _ _=>L3.Tp (λ_ _ _ _=>rfl);let d54:=d54.df (ps:=["begun","names","cells"]) X G λ_ _ _ _ _ _=>L3.Po (λ_ _ _=>rfl);let d55:=d55.df (ps:=["script"]) X G λ_ _ _ _ _ _=>L3.uC (λ_=>rfl);let e:=hfa.symm.trans d55.m;cases e;obtain⟨aB,cB,aC,ai,CJ,oF,cK,bp,nh,fS,kC,yf,CI,ix,oE,_⟩:=zs.m X G;show⟨YK,λs v=>?_,λam _ _=>?_⟩
 ·let⟨_,_,_,_,_,_,_,_,_,rfl,_⟩:=d55.F.ex
  show .of_eq rfl
 let oV:=Dk X G gk1;let iJ:=Dk X G gk2;let dW:=Dk X G gk3;let dk:=Dk X G gk4;let iK:=Dk X G gk5;let cE:=Dk X G gk6;let iI:=Dk X G gk7;let jQ:=Dk X G gk8;let jR:=Dk X G gk9;let kZ:=Dk X G gk10;let gv:=Dk X G gk11;let c8:=Dk X G gk12;let cP:=Dk X G gk13;let eI:=Dk X G gcNoPart;let vq:=Dk X G gcScope;let Zr:=dm1.F;let bm1:=Zr.binds (ps:=["self","papers","paper","around"]) λ_ _ _ _ _ _=>L3.Tp (λ_ _ _ _=>rfl);let mt1:=dm1.t;let Zq:=dm2.F;let bm2:=Zq.binds (ps:=["self","name"]) λ_ _ _ _ _ _=>L3.kj (λ_ _=>rfl);let mt2:=dm2.t;let Zp:=dm3.F;let bm3:=Zp.binds (ps:=["self","name"]) λ_ _ _ _ _ _=>L3.kj (λ_ _=>rfl);let mt3:=dm3.t;let Zo:=dm4.F;let bm4:=Zo.binds (ps:=["self","name","kind"]) λ_ _ _ _ _ _=>L3.Po (λ_ _ _=>rfl);let mt4:=dm4.t;let Zn:=dm5.F;let bm5:=Zn.binds (ps:=["self","name","place"]) λ_ _ _ _ _ _=>L3.Po (λ_ _ _=>rfl);let mt5:=dm5.t;let ay:pK K bX:=⟨pgScope,hdScope,poScope,saScope⟩;let E6:Ma K bX YM:=⟨mkScope,dm1.t.1,dm1.t.2,keScope⟩;let bJ:bF K bX "papers" := naScope_papers;let bI:bF K bX "result" := naScope_result;let bL:bF K bX "ways" := naScope_ways;let aw:bF K bX "kinds" := naScope_kinds;let vt:=Dk X G gSIDES;let vw:ef K zQ [.int 0,.int 1]:=Ψ3 _ _ _ ⟨klSIDES,rfl,rfl,kzSIDES,kvSIDES⟩;let zb:=Dk X G gWAYS;let zh:ef K Ge (jX.map V.str):=Ψ3 _ _ _ ⟨klWAYS,rfl,rfl,kzWAYS,kvWAYS⟩;let dX:=Dk X G gSTATEMENTS;let jh:=Dk X G gBARRED_WAYS;let lW:=Dk X G gRULES;let Zw:=d44.cl (ac5 (P:=l.prog) (w:=w) (am:=am) d44.F cB);let C1:=d1.cl (pG (P:=l.prog) (w:=w) (am:=am) d1.F ai CJ oF);let C2:=d2.cl (wg (P:=l.prog) (w:=w) (am:=am) d2.F iJ (gl_int q2) oV (gl_str q1) ai cK aB bp);let Zx:=d17.cl (aaZ (P:=l.prog) (w:=w) (am:=am) d17.F C1 vt vw);let C45:=d45.cl (ac2 (P:=l.prog) (w:=w) (am:=am) d45.F);let C46:=d46.cl (wY (P:=l.prog) (w:=w) (am:=am) d46.F C45 aB cB);let C13:=d13.cl (aaU (P:=l.prog) (w:=w) (am:=am) d13.F jR (gl_int q9) kZ (gl_int q10) gv (gl_int q11));let C11:=d11.cl (sH (P:=l.prog) (w:=w) (am:=am) d11.F C1 iI (gl_int q7) cB);let C12:=d12.cl (v7 (P:=l.prog) (w:=w) (am:=am) d12.F C13 jQ (gl_int q8) ai cK aB bp CI);let C9:=d9.cx (acv (P:=l.prog) (w:=w) (am:=am) d9.F eI xNoPart kC);let C8:=d8.cx (u0 (P:=l.prog) (w:=w) (am:=am) d8.F C1 C9 eI xNoPart cE (gl_int q6));let C7:=d7.cx (aab (P:=l.prog) (w:=w) (am:=am) d7.F C8);let C33:=d33.cl (ug (P:=l.prog) (w:=w) (am:=am) d33.F C7 eI xm);let C26:=d26.cl (acU (P:=l.prog) (w:=w) (am:=am) d26.F C1 ai aC cK bp);let Zy:=ae (P:=l.prog) (w:=w) (am:=am) d10.F d10.m d10.k d10.b d14.F d14.m d14.k d14.b d15.F d15.m d15.k d15.b C11 C12 cE (gl_int q6) ai aC aB bp nh fS cK 6;let W8:DC l.prog w K mg am bX "knows" _ _ _:=Ψ2 _ _ ⟨tB Zq ay aw,ay,mt2,bm2⟩;let Zu:DC l.prog w K mg am bX "is_own" _ _ _:=Ψ2 _ _ ⟨wR Zp ay bL,ay,mt3,bm3⟩;let Cm4:DC l.prog w K mg am bX "may_make" _ _ _:=Ψ2 _ _ ⟨vC Zo ay aw Zu,ay,mt4,bm4⟩;let Cm5:DC l.prog w K mg am bX "may_hand" _ _ _:=Ψ2 _ _ ⟨qZ Zn ay aw bL W8 jh h_BW,ay,mt5,bm5⟩;let Cm1:Uz l.prog w K mg am bX _ _ _:=Ψ2 _ _ ⟨adE Zr ay bJ bI bL aw yf,E6,bm1⟩;let C36:=d36.cl (qP (P:=l.prog) (w:=w) (am:=am) d36.F ay bL W8);let C29:=jd (P:=l.prog) (w:=w) (am:=am) d29.F d29.m d29.k d29.b d30.F d30.k d30.b d31.F d31.k d31.b d32.F d32.k d32.b d34.F d34.k d34.b d35.F d35.k d35.b d37.F d37.k d37.b d38.F d38.k d38.b d39.F d39.k d39.b d40.F d40.k d40.b d41.F d41.k d41.b d42.F d42.k d42.b d43.F d43.k d43.b k_RULES lW ay aw bJ bI W8 Zu Cm4 Cm5 C33 C36 aB bp fS 5;let C28:=d28.cl (zE (P:=l.prog) (w:=w) (am:=am) d28.F vq Cm1 C29 nh);let Zv:=d47.cl (yd (P:=l.prog) (w:=w) (am:=am) d47.F aB aC);let C48:=d48.cl (uI (P:=l.prog) (w:=w) (am:=am) d48.F Zv aB aC);let C49:=d49.cl (acE (P:=l.prog) (w:=w) (am:=am) d49.F cB);let C50:=d50.cl (uL (P:=l.prog) (w:=w) (am:=am) d50.F);let C51:=d51.cl (aaL (P:=l.prog) (w:=w) (am:=am) d51.F aB ix oE);let C52:=d52.cl (aad (P:=l.prog) (w:=w) (am:=am) d52.F C51 aB);let C53:=d53.cl (aaa (P:=l.prog) (w:=w) (am:=am) d53.F aB ix oE);let C54:=d54.cl (aaA (P:=l.prog) (w:=w) (am:=am) d54.F C50 Zw C48 Zv C53 C52 aB cB);let C4:=W2 (P:=l.prog) (w:=w) (am:=am) d4.F d4.m d4.k d4.b d6.F d6.m d6.k d6.b d5.F d5.m d5.k d5.b C1 C2 dW (gl_int q3) dk (gl_int q4) ai aC cK aB bp 6;let BY:=d3.cl (wb (P:=l.prog) (w:=w) (am:=am) d3.F iK (gl_int q5) C4);let C19:=d19.cl (uE (P:=l.prog) (w:=w) (am:=am) d19.F C2 BY zb zh ai aC cK aB);let C18:=d18.cl (xu (P:=l.prog) (w:=w) (am:=am) d18.F C19 ai aC aB bp);let C16:=d16.cl (xg (P:=l.prog) (w:=w) (am:=am) d16.F C2 Zx C18 BY ai aC aB);let C23:=mU (P:=l.prog) (w:=w) (am:=am) d23.F d23.m d23.k d23.b d24.F d24.m d24.k d24.b d25.F d25.m d25.k d25.b C2 C26 BY C1 Zy cP (gl_int q13) c8 (gl_int q12) dX h_ST ai aC cK aB bp fS 6;let C21:=d21.cl (adn (P:=l.prog) (w:=w) (am:=am) d21.F C16 C23 ai aC aB);let C22:=d22.cl (tQ (P:=l.prog) (w:=w) (am:=am) d22.F C2 Zx BY Zy ai aC aB);let C20:=d20.cl (vJ (P:=l.prog) (w:=w) (am:=am) d20.F C21 C22 ai aC aB bp);let C27:=d27.cl (adk (P:=l.prog) (w:=w) (am:=am) d27.F C20 C28 aB bp);show(up d55.F Zw C46 C49 C54 C27 aB cB aC ai oF).imp qq
def walk{l:W.OpenLaw}{q:Program}{loose:List Str}{XP:(KK)→Heap→Prop}{YP:World→Heap→Prop}{d:DefRec}{K:Params→W.Frag}(hn:l.most=some 63)(OZ:d.params.defaults=[])
  (hY:∀(w:World) (h:Heap),YP w h→(K w.params).In h)
  (F:∀(w:World) (mg:KK) (fa:Addr) (h:Heap),(K w.params).In h→h.Ns mainGlobals mg→mg d.name=some (.ref fa)→
   ∃fd:FuncData,(∀(s:Shared) (u:Value),BindsTo s fd ⟨[u],[]⟩ [("script",u)])∧∀am:Heap,(K w.params).In am→am.Ns mainGlobals mg→bc l.prog w (K w.params) mg am Am 42 fa fd ["script"] (Od (K w.params))) :
  W.WalkO q loose XP YP l.row.toRowW d [] (λf vs=>PySem.call f vs):=
 L2.GB (n:=63) (k:=42) (x := "script") (CX:=λ_=>Am) (sp:=λw=>Od (K w.params)) hn (by decide) OZ ⟨rfl,by decide,by decide⟩ hY F (λ_ _ a ns hl hO hS=>Ψ2 a ns ⟨rfl,hO,hS,hl,λ_=>rfl⟩) λ_ _ _ _ _ z=>z
end Tg
open PySem PySem.W PyProof.Rows
namespace PySem.W.Fast
def tw17671028235807023325:=()
def tw14051656063169021337:=()
def tw11268866879857130792:=()
def tw18333277894634384337:=()
def tw3386068368819500487:=()
def tw12192165117532334556:=()
def tw15660098861467842359:=()
def tw339606525589882594:=()
def tw5506752874304777154:=()
def tw6282625952025261096:=()
def tw2393131815950570263:=()
def tw135366529721583962:=()
def tw5689752477837869474:=()
def tw10316067592806868225:=()
def tw8983813159628907094:=()
def tw15228541044095935124:=()
def tw5591482012945758394:=()
def tw2223968492702103369:=()
def tw1012420790690287298:=()
def tw13075388707320240812:=()
def tw4286758471572821054:=()
def tw2786743554597342051:=()
def tw9618706441226026608:=()
def tw6349275557895183516:=()
def tw6170954066742628404:=()
def tw8328484762985936630:=()
def tw5471692785689876835:=()
def tw765346521819749902:=()
def tw8814001690089751118:=()
def tw4495525347971907068:=()
def tw9179611715123957228:=()
def tw16395891180175290327:=()
def tw7934759886475652288:=()
def tw10734517467638294403:=()
def tw16837343976149690566:=()
def tw16718946404599443473:=()
def tw8055995756496232166:=()
def tw5409106896240693869:=()
def tw12741382741558429410:=()
def tw10883023667652083346:=()
def tw11052539868964836348:=()
def tw10236843043619325320:=()
def tw6258395080245959235:=()
def tw17279762371351675321:=()
def tw5327280625267995047:=()
def tw5737619378824110481:=()
def tw15447057885380009516:=()
def tw17795340272597025340:=()
def tw793990812891490205:=()
def tw1476002422630137749:=()
def tw17711383441906168773:=()
def tw14502209022027617211:=()
def tw3420588353376753391:=()
def tw8635571273316069374:=()
def tw6227796998790694321:=()
def tw3610282068153911241:=()
def tw10108403933275521134:=()
def tw9490548727379461473:=()
def tw1792060117408394805:=()
def tw7617773250045782397:=()
def tw10389648161487501849:=()
def tw17159600527067307152:=()
def tw5196479927664202951:=()
def tw8595200654870954873:=()
def tw824492513185574347:=()
def tw4932720736714654628:=()
def tw3163238830181844754:=()
def tw8952134892454801768:=()
def tw10864413794441166176:=()
def tw10059614553375195678:=()
def tw14687250163034921603:=()
def tw9480798705025609919:=()
def tw12089258830224961544:=()
def tw9347104864405056001:=()
def tw17805083515571941681:=()
def tw2870124486770920426:=()
def tw6284401382988848509:=()
def tw6336443381950418435:=()
def tw9824306383246521982:=()
def tw16623090816984799988:=()
def tw4607283630628355070:=()
def tw664239189959377921:=()
def tw9879876901449824286:=()
def tw355855468167602584:=()
def tw2725580162362326900:=()
def tw1831745653674171681:=()
def tw17150227838119761756:=()
def tw11476726794304326059:=()
def tw18025474239418837874:=()
def tw11896512775633937635:=()
def tw1333667139725462831:=()
def tw15127914168792392848:=()
def tw17254682302211672923:=()
def tw3465106699717023374:=()
def tw8793073401966408900:=()
def tw7189257891384287521:=()
def tw11651785199861604482:=()
def tw3961675986343265604:=()
def tw9031099231781332676:=()
def tw7162629169825666214:=()
def tw9527401541147038118:=()
def tw3375598680018795624:=()
def tw3359411836799902184:=()
def tw10185017888225462988:=()
def tw17853380066321803694:=()
def tw79258406765445359:=()
def tw1225657511068454127:=()
def tw7836665155110907472:=()
def tw15014729341629797714:=()
def tw3742954436437740627:=()
def tw7667156148975102163:=()
def tw6107036884936766741:=()
def tw16721705989700520408:=()
def tw6255489039991398202:=()
def tw8988152428783459226:=()
def tw4142681155620825563:=()
def tw2649660546083194844:=()
def tw3952489864026595869:=()
def tw2403594506155094742:=()
def tw7956156007122457176:=()
def tw17178946935366970966:=()
def tw418317780968610417:=()
def tw11952678642348125847:=()
def tw9126109532356578670:=()
def tw6128160985233450588:=()
def tw9793663431357830232:=()
def tw10906096156577005555:=()
def tw5743606535433690645:=()
def tw6181063251945483817:=()
def tw12202465803963482380:=()
def tw14207149632246564026:=()
def tw16828255495705371340:=()
def tw8002120351186748008:=()
def tw4251028302274263795:=()
def tw11047950402735626084:=()
def tw2231995595908046764:=()
def tw5359580065983334124:=()
def tw12576452069109578349:=()
def tw16488657790068397927:=()
def tw1444137761705391:=()
def tw10835194129968222423:=()
def tw3123395428218675266:=()
def tw17062814849563281303:=()
def tw17363945356671063852:=()
def tw18025166869812749730:=()
def tw10797948487978906584:=()
def tw13679280276083814727:=()
def tw3850151355532958683:=()
def tw7497233760022576206:=()
def tw6304084481702990206:=()
def tw5123903442759549905:=()
def tw9303484125298979104:=()
def tw3383733608798502253:=()
def tw10218677891621105521:=()
def tw5188150360056853880:=()
def tw9280205172606403099:=()
def tw16391049610879343880:=()
def tw6695309899468379762:=()
def tw14292648203317916377:=()
def tw16994738477036698327:=()
def tw9432454736956194823:=()
def tw10533891634089370119:=()
def tw5161563518431302183:=()
def tw4324140330103801181:=()
def tw9022809087725224945:=()
def tw12222522288476067600:=()
def tw9252337243915820282:=()
def tw2120552991516434469:=()
def tw15316125373509454220:=()
def tw2624134969574542106:=()
def tw7850086752048638729:=()
def tw8055723889425027505:=()
def tw4864840527763497303:=()
def tw6947883543235102121:=()
def tw8373180919521089913:=()
def tw2290118135228022862:=()
def tw1286863896431922673:=()
def tw5910794788110501259:=()
def tw15787439940363257309:=()
def tw4647018981464300225:=()
def tw3355049520730027009:=()
def tw16863505183893338775:=()
def tw2288801745923774233:=()
def tw610576575604633121:=()
def tw9217318084486982002:=()
def tw4007665099220151935:=()
def tw1543674411718349832:=()
def tw343409534362298322:=()
def tw13272667608561579709:=()
def tw12552360956368012372:=()
def tw9425496280466668300:=()
def tw14250106062334227070:=()
def tw15578807982454457956:=()
def tw18160524091229938320:=()
def tw4494876435503589585:=()
def tw14181803401730455665:=()
def tw8805172808963835890:=()
def tw16497050306361079420:=()
def tw11776175487620891735:=()
def tw8642993557138899147:=()
def tw14542371923475064689:=()
def tw2887025474069089310:=()
def tw12019976631441821135:=()
def tw9704339738666917642:=()
def tw4663987902919536726:=()
def tw12256201890886624791:=()
def tw17463997188856671516:=()
def tw6403134138677105955:=()
def tw17025988137403256389:=()
def tw12974148734428112845:=()
def tw8867189888346515747:=()
def tw8056315774112357265:=()
def tw11806096602245740560:=()
def tw2872440953032324784:=()
def tw6457890277862184318:=()
def tw12304298066673530322:=()
def tw8276451372489864212:=()
def tw17021563658081374576:=()
def tw272205116648793772:=()
def tw11267242919145114349:=()
def tw1027568607002742212:=()
def tw8217381825484714778:=()
def tw2058081770418212100:=()
def tw877154674445670385:=()
def tw3817565215988296871:=()
def tw12692177150421343965:=()
def tw8305602899004469810:=()
def tw10342387960654698643:=()
def tw5139469837875310323:=()
def tw8954422324970112913:=()
def tw3740652758661581394:=()
def tw17611276755865783667:=()
def tw15511779214825536787:=()
def tw16262922497093783321:=()
def tw13920632700067973259:=()
def tw16300150852094437248:=()
def tw6169425139816612191:=()
def tw16808225261799259288:=()
def tw16477052622342370161:=()
def tw17700802990241850607:=()
def tw15606609131028661108:=()
def tw4877158612050886542:=()
def tw3684974813029418111:=()
def tw232210879013087446:=()
def tw1296929154606056120:=()
def tw3693710201432239037:=()
def tw12238830312416216001:=()
def tw18096947546452842478:=()
def tw14027695467373650416:=()
def tw17439184941354767605:=()
def tw2757908415205444313:=()
def tw2429390441462297949:=()
def tw12138926952052754490:=()
def tw14074235659013889450:=()
def tw15065823724918676622:=()
def tw2482081154596113563:=()
def tw17553454637850352929:=()
def tw6774211594937923122:=()
def tw4364046135784842792:=()
def tw11879553954099911087:=()
def tw17657101792335104873:=()
def tw14977168644733199:=()
def tw1085271659705258226:=()
def tw7507915695608893174:=()
def tw884270617731847763:=()
def tw6270291721738862424:=()
def tw11158673812499114602:=()
def tw11156661060443986239:=()
def tw8167010788453021586:=()
def tw16331469706911901174:=()
def tw2584405946351027008:=()
def tw5668127979510052326:=()
def tw1296737278717308472:=()
def tw6260622483262671584:=()
def tw3620136888570805005:=()
def tw12433652457640146241:=()
def tw10741119117248868177:=()
def tw6524664546431966539:=()
def tw988552562535939100:=()
def tw18165697780136675495:=()
def tw10676276165085568814:=()
def tw11549171640912510428:=()
def tw11914051244384828795:=()
def tw14943074804864111719:=()
def tw14185858173978052202:=()
def tw925717971418814903:=()
def tw18227739809158059594:=()
def tw3491545972718930856:=()
def tw4504564687257644310:=()
def tw4757075957466422019:=()
def tw16237858212372560188:=()
def tw14280614829856393093:=()
def tw4634477785042630585:=()
def tw12687179663264127209:=()
def tw11691097042697261789:=()
def tw3726561962995734086:=()
def tw16780927688167785108:=()
def tw6019081624719058838:=()
def tw2160979185126427740:=()
def tw6388187964375141209:=()
def tw5829742057546414754:=()
def tw12963508405119921802:=()
def tw10158641862295303806:=()
def tw16450328429922660136:=()
def tw6859234293846530603:=()
def tw6120152319858838551:=()
def tw6481796827405877167:=()
def tw12597403959922680516:=()
def tw11439083759664444242:=()
def tw13130242849552629491:=()
def tw16125751497148259728:=()
def tw4701322398192908922:=()
def tw16682638437074893316:=()
def tw15006656954668758181:=()
def tw44428174246127640:=()
def tw1115188926258231200:=()
def tw13954515190437840342:=()
def tw5400335133215858949:=()
def tw17516210159280137193:=()
def tw12703315813356487395:=()
def tw6640645264657245781:=()
def tw1820354233648324633:=()
def tw309154089016508556:=()
def tw2720640120263392524:=()
def tw383860742517541759:=()
def tw7158476211310732111:=()
def tw7871652715366996645:=()
def tw3645726748380968045:=()
def tw15067924048975808221:=()
def tw10708010279462588991:=()
def tw1463756652067916256:=()
def tw17766846570868095129:=()
def tw16490539516384245242:=()
def tw10669617350854957220:=()
def tw13408218110171711801:=()
def tw18358649794995214031:=()
def tw4480361601326531240:=()
def tw4921254866752791552:=()
def tw11069208992909513768:=()
def tw1348225227497414142:=()
def tw6278198608946886520:=()
def tw11337775020657964861:=()
def tw6930397280033256440:=()
def tw10730136731043593158:=()
def tw9729085279832884209:=()
def tw6248716564673409373:=()
def tw10351924152730986793:=()
def tw2688501118596168906:=()
def tw7261512464773507627:=()
def tw13032436671412078039:=()
def tw15107492845760870329:=()
def tw15990686189586242421:=()
def tw15197177086313546311:=()
def tw15529047286624473066:=()
def tw6207672484216116311:=()
def tw3045922010592834870:=()
def tw17814844368220260366:=()
def tw10436341504492421468:=()
def tw16491589161550073700:=()
def tw8186757312091203491:=()
def tw16792715234114366732:=()
def tw702773755401020357:=()
def tw10632092142970058800:=()
def tw1752273766490365128:=()
def tw18323847322991769807:=()
def tw14058977888694795296:=()
def tw370512029042227651:=()
def tw4010064358290706332:=()
def tw8682435264269889978:=()
def tw2957104547325401525:=()
def tw4218133191162807792:=()
def tw8626185756958151029:=()
def tw15325399583281110153:=()
def tw3633490897700341856:=()
def tw1822278983202582717:=()
def tw12931895713443084963:=()
def tw17707250669078201311:=()
def tw14675961537478316555:=()
def tw17982361511638909265:=()
def tw10572765366174985946:=()
def tw1332467779889235529:=()
def tw10484742975703817064:=()
def tw3704686603123198343:=()
def tw9904894957988058802:=()
def tw12690803379860232553:=()
def tw6306207072572234651:=()
def tw4553314094206661811:=()
def tw3461714368366411553:=()
def tw6795550734531822066:=()
def tw5919787393264211170:=()
def tw13602314402151088410:=()
def tw15543654776448391232:=()
def tw7393635766453114513:=()
def tw12982427786160766760:=()
def tw10125106997032819724:=()
def tw310786051426235970:=()
def tw7629511887935500780:=()
def tw6453154210349801748:=()
def tw5904408461450145276:=()
def tw9009615162331627506:=()
def tw16455395024521103569:=()
def tw4351569502504771767:=()
def tw14867083579345203998:=()
def tw3211960573232494858:=()
def tw10522487203264630359:=()
def tw9767697346472804573:=()
def tw11908043976148736627:=()
def tw7219186939387323518:=()
def tw1488840881333627328:=()
def tw9061113080796606353:=()
def tw5717759203229095651:=()
def tw11307163160890048528:=()
def tw9164835551700272048:=()
def tw187821555580343754:=()
end PySem.W.Fast
set_option maxRecDepth 100000 in
set_option maxHeartbeats 0 in
theorem PySem.Challenge.cw_tonguegate_k36_names_made_ahead_holds : PySem.Challenge.rw_tonguegate_k36_names_made_ahead.Holds := by
 w_on;o_law;k_head;(case hw=>w_witness2)
 k_fill
 show Tg.walk (l:=PySem.Challenge.rw_tonguegate_k36_names_made_ahead) rfl rfl (λw h Y=>PySem.W.kIn_of Y) ?F
 case F=>
  intro w mg fa h KX G R0;refine' Tg.all_mk KX G R0 ?d1 ?d2 ?d3 ?d4 ?d5 ?d6 ?d7 ?d8 ?d9 ?d10 ?d11 ?d12 ?d13 ?d14 ?d15 ?d16 ?d17 ?d18 ?d19 ?d20 ?d21 ?d22 ?d23 ?d24 ?d25 ?d26 ?d27 ?d28 ?d29 ?d30 ?d31 ?d32 ?d33 ?d34 ?d35 ?d36 ?d37 ?d38 ?d39 ?d40 ?d41 ?d42 ?d43 ?d44 ?d45 ?d46 ?d47 ?d48 ?d49 ?d50 ?d51 ?d52 ?d53 ?d54 ?d55 ?zs ?gk1 ?q1 ?gk2 ?q2 ?gk3 ?q3 ?gk4 ?q4 ?gk5 ?q5 ?gk6 ?q6 ?gk7 ?q7 ?gk8 ?q8 ?gk9 ?q9 ?gk10 ?q10 ?gk11 ?q11 ?gk12 ?q12 ?gk13 ?q13 ?gcNoPart ?gcScope ?xNoPart ?xm ?gSIDES ?klSIDES ?kzSIDES ?kvSIDES ?gWAYS ?klWAYS ?kzWAYS ?kvWAYS  ?gSTATEMENTS ?h_ST ?gBARRED_WAYS ?h_BW ?gRULES ?k_RULES ?dm1 ?dm2 ?dm3 ?dm4 ?dm5 ?pgScope ?hdScope ?poScope ?saScope ?mkScope ?keScope ?naScope_papers ?naScope_result ?naScope_ways ?naScope_kinds
  (case d1|d2|d3|d4|d5|d6|d7|d8|d9|d10|d11|d12|d13|d14|d15|d16|d17|d18|d19|d20|d21|d22|d23|d24|d25|d26|d27|d28|d29|d30|d31|d32|d33|d34|d35|d36|d37|d38|d39|d40|d41|d42|d43|d44|d45|d46|d47|d48|d49|d50|d51|d52|d53|d54|d55=>refine' L3.dg ?a ?l ?c ?k;(case a|l|c|k=>k_is))
  (case zs=>(iterate 15 (show L3.zc ?_ ?_;k_is));show trivial)
  (case gk1=>k_is);(case q1=>show⟨_,rfl⟩)
  (case gk2=>k_is);(case q2=>show⟨_,rfl⟩)
  (case gk3=>k_is);(case q3=>show⟨_,rfl⟩)
  (case gk4=>k_is);(case q4=>show⟨_,rfl⟩)
  (case gk5=>k_is);(case q5=>show⟨_,rfl⟩)
  (case gk6=>k_is);(case q6=>show⟨_,rfl⟩)
  (case gk7=>k_is);(case q7=>show⟨_,rfl⟩)
  (case gk8=>k_is);(case q8=>show⟨_,rfl⟩)
  (case gk9=>k_is);(case q9=>show⟨_,rfl⟩)
  (case gk10=>k_is);(case q10=>show⟨_,rfl⟩)
  (case gk11=>k_is);(case q11=>show⟨_,rfl⟩)
  (case gk12=>k_is);(case q12=>show⟨_,rfl⟩)
  (case gk13=>k_is);(case q13=>show⟨_,rfl⟩)
  (case gcNoPart|gcScope=>k_is)
  (case xNoPart=>k_exc)
  (case xm=>kts_exm)
  (case gSIDES=>k_is);(case klSIDES=>k_is);(case kzSIDES=>decide);(case kvSIDES=>show(.cons ⟨_,rfl⟩ (.cons ⟨_,rfl⟩ .nil)))
  (case gWAYS=>k_is);(case klWAYS=>k_is);(case kzWAYS=>decide);(case kvWAYS=>show(.cons ⟨_,rfl⟩ (.cons ⟨_,rfl⟩ (.cons ⟨_,rfl⟩ (.cons ⟨_,rfl⟩ .nil)))))
  (case gSTATEMENTS=>k_is);(case h_ST=>(refine' Tg.LN ?l ?e ?s ?k0 ?k1 ?k2 ?k3 ?k4 ?k5 ?k6 ?k7 ?k8 ?k9 ?k10 ?k11;(case l=>k_is);(case e=>show(.cons rfl (.cons rfl (.cons rfl (.cons rfl (.cons rfl (.cons rfl (.cons rfl (.cons rfl (.cons rfl (.cons rfl (.cons rfl (.cons rfl .nil)))))))))))));(case s=>rfl);(case k0=>refine' Tg.cY ?l ?z ?v;(case l=>k_is);(case z=>decide);(case v=>show(.cons ⟨_,rfl⟩ (.cons ⟨_,rfl⟩ (.cons ⟨_,rfl⟩ .nil)))));(case k1=>refine' Tg.cY ?l ?z ?v;(case l=>k_is);(case z=>decide);(case v=>show(.cons ⟨_,rfl⟩ (.cons ⟨_,rfl⟩ .nil))));(case k2=>refine' Tg.cY ?l ?z ?v;(case l=>k_is);(case z=>decide);(case v=>show(.cons ⟨_,rfl⟩ (.cons ⟨_,rfl⟩ (.cons ⟨_,rfl⟩ .nil)))));(case k3=>refine' Tg.cY ?l ?z ?v;(case l=>k_is);(case z=>decide);(case v=>show(.cons ⟨_,rfl⟩ (.cons ⟨_,rfl⟩ (.cons ⟨_,rfl⟩ .nil)))));(case k4=>refine' Tg.cY ?l ?z ?v;(case l=>k_is);(case z=>decide);(case v=>show(.cons ⟨_,rfl⟩ (.cons ⟨_,rfl⟩ (.cons ⟨_,rfl⟩ .nil)))));(case k5=>refine' Tg.cY ?l ?z ?v;(case l=>k_is);(case z=>decide);(case v=>show(.cons ⟨_,rfl⟩ .nil)));(case k6=>refine' Tg.cY ?l ?z ?v;(case l=>k_is);(case z=>decide);(case v=>show(.cons ⟨_,rfl⟩ .nil)));(case k7=>refine' Tg.cY ?l ?z ?v;(case l=>k_is);(case z=>decide);(case v=>show(.cons ⟨_,rfl⟩ (.cons ⟨_,rfl⟩ (.cons ⟨_,rfl⟩ .nil)))));(case k8=>refine' Tg.cY ?l ?z ?v;(case l=>k_is);(case z=>decide);(case v=>show(.cons ⟨_,rfl⟩ (.cons ⟨_,rfl⟩ (.cons ⟨_,rfl⟩ (.cons ⟨_,rfl⟩ .nil))))));(case k9=>refine' Tg.cY ?l ?z ?v;(case l=>k_is);(case z=>decide);(case v=>show(.cons ⟨_,rfl⟩ .nil)));(case k10=>refine' Tg.cY ?l ?z ?v;(case l=>k_is);(case z=>decide);(case v=>show(.cons ⟨_,rfl⟩ (.cons ⟨_,rfl⟩ .nil))));(case k11=>refine' Tg.cY ?l ?z ?v;(case l=>k_is);(case z=>decide);(case v=>show(.cons ⟨_,rfl⟩ .nil)))))
  (case gBARRED_WAYS=>k_is);(case h_BW=>(refine' Tg.OA ?l ?e ?s ?k0 ?k1 ?k2 ?k3;(case l=>k_is);(case e=>show(.cons rfl (.cons rfl (.cons rfl (.cons rfl .nil)))));(case s=>rfl);(case k0=>refine' Tg.cY ?l ?z ?v;(case l=>k_is);(case z=>decide);(case v=>show .nil));(case k1=>refine' Tg.cY ?l ?z ?v;(case l=>k_is);(case z=>decide);(case v=>show .nil));(case k2=>refine' Tg.cY ?l ?z ?v;(case l=>k_is);(case z=>decide);(case v=>show(.cons ⟨_,rfl⟩ (.cons ⟨_,rfl⟩ .nil))));(case k3=>refine' Tg.cY ?l ?z ?v;(case l=>k_is);(case z=>decide);(case v=>show(.cons ⟨_,rfl⟩ .nil)))))
  (case gRULES=>k_is);(case k_RULES=>(refine' L2.zf ?l ?e ?n ?s;(case l=>k_is);(case e=>show(.cons rfl (.cons rfl (.cons rfl (.cons rfl (.cons rfl (.cons rfl (.cons rfl (.cons rfl (.cons rfl (.cons rfl (.cons rfl (.cons rfl .nil)))))))))))));(case n=>done);(case s=>rfl)))
  (case dm1|dm2|dm3|dm4|dm5=>refine' L3.dm ?a ?l ?c ?k ?i;(case a|l|c|k|i=>k_is))
  (case pgScope=>k_is);(case hdScope=>k_is);(case poScope=>k_is);(case saScope=>k_is);(case mkScope=>k_is);(case keScope=>k_is)
  (case naScope_papers=>k_is)
  (case naScope_result=>k_is)
  (case naScope_ways=>k_is)
  (case naScope_kinds=>k_is)

import PyProof.Rows.All
import Wide.All
import OpenK.AllK
import Wide.FinOn
import Lean
import PyProof.EqAt
import PyProof.EqKinds
import PyProof.TupleCall
import PySem.Challenge.RW_tonguegate_k38_doors_and_shelves
section
variable{r:Prop}{α β γ δ ε η ι κ μ:Type}
section
variable{A B C D E F G H I J:Prop}
theorem Xi02(h:A∧B)(k:A→B→r):r:=k h.1 h.2
theorem Xi03(h:A∧B∧C)(k:A→B→C→r):r:=k h.1 h.2.1 h.2.2
theorem Xi04(h:A∧B∧C∧D)(k:A→B→C→D→r):r:=k h.1 h.2.1 h.2.2.1 h.2.2.2
theorem Xi05(h:A∧B∧C∧D∧E)(k:A→B→C→D→E→r):r:=k h.1 h.2.1 h.2.2.1 h.2.2.2.1 h.2.2.2.2
theorem Xi06(h:A∧B∧C∧D∧E∧F)(k:A→B→C→D→E→F→r):r:=k h.1 h.2.1 h.2.2.1 h.2.2.2.1 h.2.2.2.2.1 h.2.2.2.2.2
theorem Xi07(h:A∧B∧C∧D∧E∧F∧G)(k:A→B→C→D→E→F→G→r):r:=k h.1 h.2.1 h.2.2.1 h.2.2.2.1 h.2.2.2.2.1 h.2.2.2.2.2.1 h.2.2.2.2.2.2
theorem Xi08(h:A∧B∧C∧D∧E∧F∧G∧H)(k:A→B→C→D→E→F→G→H→r):r:=k h.1 h.2.1 h.2.2.1 h.2.2.2.1 h.2.2.2.2.1 h.2.2.2.2.2.1 h.2.2.2.2.2.2.1 h.2.2.2.2.2.2.2
theorem Xi09(h:A∧B∧C∧D∧E∧F∧G∧H∧I)(k:A→B→C→D→E→F→G→H→I→r):r:=k h.1 h.2.1 h.2.2.1 h.2.2.2.1 h.2.2.2.2.1 h.2.2.2.2.2.1 h.2.2.2.2.2.2.1 h.2.2.2.2.2.2.2.1 h.2.2.2.2.2.2.2.2
theorem Xi010(h:A∧B∧C∧D∧E∧F∧G∧H∧I∧J)(k:A→B→C→D→E→F→G→H→I→J→r):r:=k h.1 h.2.1 h.2.2.1 h.2.2.2.1 h.2.2.2.2.1 h.2.2.2.2.2.1 h.2.2.2.2.2.2.1 h.2.2.2.2.2.2.2.1 h.2.2.2.2.2.2.2.2.1 h.2.2.2.2.2.2.2.2.2
end
section
variable{A B C D E F:α→Prop}
theorem Xi11(h:∃x,A x)(k:∀x,A x→r):r:=h.elim k
theorem Xi12(h:∃x,A x∧B x)(k:∀x,A x→B x→r):r:=Xi11 h λx h=>Xi02 h (k x)
theorem Xi13(h:∃x,A x∧B x∧C x)(k:∀x,A x→B x→C x→r):r:=Xi11 h λx h=>Xi03 h (k x)
theorem Xi14(h:∃x,A x∧B x∧C x∧D x)(k:∀x,A x→B x→C x→D x→r):r:=Xi11 h λx h=>Xi04 h (k x)
theorem Xi15(h:∃x,A x∧B x∧C x∧D x∧E x)(k:∀x,A x→B x→C x→D x→E x→r):r:=Xi11 h λx h=>Xi05 h (k x)
theorem Xi16(h:∃x,A x∧B x∧C x∧D x∧E x∧F x)(k:∀x,A x→B x→C x→D x→E x→F x→r):r:=Xi11 h λx h=>Xi06 h (k x)
end
section
variable{A B C D E F:α→β→Prop}
theorem Xi21(h:∃x y,A x y)(k:∀x y,A x y→r):r:=h.elim λx h=>Xi11 h (k x)
theorem Xi22(h:∃x y,A x y∧B x y)(k:∀x y,A x y→B x y→r):r:=Xi21 h λx y h=>Xi02 h (k x y)
theorem Xi23(h:∃x y,A x y∧B x y∧C x y)(k:∀x y,A x y→B x y→C x y→r):r:=Xi21 h λx y h=>Xi03 h (k x y)
theorem Xi24(h:∃x y,A x y∧B x y∧C x y∧D x y)(k:∀x y,A x y→B x y→C x y→D x y→r):r:=Xi21 h λx y h=>Xi04 h (k x y)
theorem Xi25(h:∃x y,A x y∧B x y∧C x y∧D x y∧E x y)(k:∀x y,A x y→B x y→C x y→D x y→E x y→r):r:=Xi21 h λx y h=>Xi05 h (k x y)
theorem Xi26(h:∃x y,A x y∧B x y∧C x y∧D x y∧E x y∧F x y)(k:∀x y,A x y→B x y→C x y→D x y→E x y→F x y→r):r:=Xi21 h λx y h=>Xi06 h (k x y)
end
section
variable{A B C D E F G H I J:α→β→γ→Prop}
theorem Xi31(h:∃x y z,A x y z)(k:∀x y z,A x y z→r):r:=h.elim λx h=>Xi21 h (k x)
theorem Xi32(h:∃x y z,A x y z∧B x y z)(k:∀x y z,A x y z→B x y z→r):r:=Xi31 h λx y z h=>Xi02 h (k x y z)
theorem Xi33(h:∃x y z,A x y z∧B x y z∧C x y z)(k:∀x y z,A x y z→B x y z→C x y z→r):r:=Xi31 h λx y z h=>Xi03 h (k x y z)
theorem Xi34(h:∃x y z,A x y z∧B x y z∧C x y z∧D x y z)(k:∀x y z,A x y z→B x y z→C x y z→D x y z→r):r:=Xi31 h λx y z h=>Xi04 h (k x y z)
theorem Xi35(h:∃x y z,A x y z∧B x y z∧C x y z∧D x y z∧E x y z)(k:∀x y z,A x y z→B x y z→C x y z→D x y z→E x y z→r):r:=Xi31 h λx y z h=>Xi05 h (k x y z)
theorem Xi36(h:∃x y z,A x y z∧B x y z∧C x y z∧D x y z∧E x y z∧F x y z)(k:∀x y z,A x y z→B x y z→C x y z→D x y z→E x y z→F x y z→r):r:=Xi31 h λx y z h=>Xi06 h (k x y z)
theorem Xi38(h:∃x y z,A x y z∧B x y z∧C x y z∧D x y z∧E x y z∧F x y z∧G x y z∧H x y z)(k:∀x y z,A x y z→B x y z→C x y z→D x y z→E x y z→F x y z→G x y z→H x y z→r):r:=Xi31 h λx y z h=>Xi08 h (k x y z)
theorem Xi310(h:∃x y z,A x y z∧B x y z∧C x y z∧D x y z∧E x y z∧F x y z∧G x y z∧H x y z∧I x y z∧J x y z)(k:∀x y z,A x y z→B x y z→C x y z→D x y z→E x y z→F x y z→G x y z→H x y z→I x y z→J x y z→r):r:=Xi31 h λx y z h=>Xi010 h (k x y z)
end
section
variable{A B C D E F G H:α→β→γ→δ→Prop}
theorem Xi41(h:∃x y z w,A x y z w)(k:∀x y z w,A x y z w→r):r:=h.elim λx h=>Xi31 h (k x)
theorem Xi42(h:∃x y z w,A x y z w∧B x y z w)(k:∀x y z w,A x y z w→B x y z w→r):r:=Xi41 h λx y z w h=>Xi02 h (k x y z w)
theorem Xi44(h:∃x y z w,A x y z w∧B x y z w∧C x y z w∧D x y z w)(k:∀x y z w,A x y z w→B x y z w→C x y z w→D x y z w→r):r:=Xi41 h λx y z w h=>Xi04 h (k x y z w)
theorem Xi45(h:∃x y z w,A x y z w∧B x y z w∧C x y z w∧D x y z w∧E x y z w)(k:∀x y z w,A x y z w→B x y z w→C x y z w→D x y z w→E x y z w→r):r:=Xi41 h λx y z w h=>Xi05 h (k x y z w)
theorem Xi46(h:∃x y z w,A x y z w∧B x y z w∧C x y z w∧D x y z w∧E x y z w∧F x y z w)(k:∀x y z w,A x y z w→B x y z w→C x y z w→D x y z w→E x y z w→F x y z w→r):r:=Xi41 h λx y z w h=>Xi06 h (k x y z w)
theorem Xi47(h:∃x y z w,A x y z w∧B x y z w∧C x y z w∧D x y z w∧E x y z w∧F x y z w∧G x y z w)(k:∀x y z w,A x y z w→B x y z w→C x y z w→D x y z w→E x y z w→F x y z w→G x y z w→r):r:=Xi41 h λx y z w h=>Xi07 h (k x y z w)
theorem Xi48(h:∃x y z w,A x y z w∧B x y z w∧C x y z w∧D x y z w∧E x y z w∧F x y z w∧G x y z w∧H x y z w)(k:∀x y z w,A x y z w→B x y z w→C x y z w→D x y z w→E x y z w→F x y z w→G x y z w→H x y z w→r):r:=Xi41 h λx y z w h=>Xi08 h (k x y z w)
end
section
variable{A B C D E F G:α→β→γ→δ→ε→Prop}
theorem Xi51(h:∃x y z w u,A x y z w u)(k:∀x y z w u,A x y z w u→r):r:=h.elim λx h=>Xi41 h (k x)
theorem Xi52(h:∃x y z w u,A x y z w u∧B x y z w u)(k:∀x y z w u,A x y z w u→B x y z w u→r):r:=Xi51 h λx y z w u h=>Xi02 h (k x y z w u)
theorem Xi54(h:∃x y z w u,A x y z w u∧B x y z w u∧C x y z w u∧D x y z w u)(k:∀x y z w u,A x y z w u→B x y z w u→C x y z w u→D x y z w u→r):r:=Xi51 h λx y z w u h=>Xi04 h (k x y z w u)
theorem Xi55(h:∃x y z w u,A x y z w u∧B x y z w u∧C x y z w u∧D x y z w u∧E x y z w u)(k:∀x y z w u,A x y z w u→B x y z w u→C x y z w u→D x y z w u→E x y z w u→r):r:=Xi51 h λx y z w u h=>Xi05 h (k x y z w u)
theorem Xi56(h:∃x y z w u,A x y z w u∧B x y z w u∧C x y z w u∧D x y z w u∧E x y z w u∧F x y z w u)(k:∀x y z w u,A x y z w u→B x y z w u→C x y z w u→D x y z w u→E x y z w u→F x y z w u→r):r:=Xi51 h λx y z w u h=>Xi06 h (k x y z w u)
theorem Xi57(h:∃x y z w u,A x y z w u∧B x y z w u∧C x y z w u∧D x y z w u∧E x y z w u∧F x y z w u∧G x y z w u)(k:∀x y z w u,A x y z w u→B x y z w u→C x y z w u→D x y z w u→E x y z w u→F x y z w u→G x y z w u→r):r:=Xi51 h λx y z w u h=>Xi07 h (k x y z w u)
end
section
variable{A B C D E F G H:α→β→γ→δ→ε→η→Prop}
theorem Xi61(h:∃x y z w u v,A x y z w u v)(k:∀x y z w u v,A x y z w u v→r):r:=h.elim λx h=>Xi51 h (k x)
theorem Xi62(h:∃x y z w u v,A x y z w u v∧B x y z w u v)(k:∀x y z w u v,A x y z w u v→B x y z w u v→r):r:=Xi61 h λx y z w u v h=>Xi02 h (k x y z w u v)
theorem Xi65(h:∃x y z w u v,A x y z w u v∧B x y z w u v∧C x y z w u v∧D x y z w u v∧E x y z w u v)(k:∀x y z w u v,A x y z w u v→B x y z w u v→C x y z w u v→D x y z w u v→E x y z w u v→r):r:=Xi61 h λx y z w u v h=>Xi05 h (k x y z w u v)
theorem Xi68(h:∃x y z w u v,A x y z w u v∧B x y z w u v∧C x y z w u v∧D x y z w u v∧E x y z w u v∧F x y z w u v∧G x y z w u v∧H x y z w u v)(k:∀x y z w u v,A x y z w u v→B x y z w u v→C x y z w u v→D x y z w u v→E x y z w u v→F x y z w u v→G x y z w u v→H x y z w u v→r):r:=Xi61 h λx y z w u v h=>Xi08 h (k x y z w u v)
end
section
variable{A B C D E F G:α→β→γ→δ→ε→η→ι→Prop}
theorem Xi71(h:∃x y z w u v s,A x y z w u v s)(k:∀x y z w u v s,A x y z w u v s→r):r:=h.elim λx h=>Xi61 h (k x)
theorem Xi72(h:∃x y z w u v s,A x y z w u v s∧B x y z w u v s)(k:∀x y z w u v s,A x y z w u v s→B x y z w u v s→r):r:=Xi71 h λx y z w u v s h=>Xi02 h (k x y z w u v s)
theorem Xi77(h:∃x y z w u v s,A x y z w u v s∧B x y z w u v s∧C x y z w u v s∧D x y z w u v s∧E x y z w u v s∧F x y z w u v s∧G x y z w u v s)(k:∀x y z w u v s,A x y z w u v s→B x y z w u v s→C x y z w u v s→D x y z w u v s→E x y z w u v s→F x y z w u v s→G x y z w u v s→r):r:=Xi71 h λx y z w u v s h=>Xi07 h (k x y z w u v s)
end
section
variable{A B:α→β→γ→δ→ε→η→ι→κ→Prop}
theorem Xi81(h:∃x y z w u v s t,A x y z w u v s t)(k:∀x y z w u v s t,A x y z w u v s t→r):r:=h.elim λx h=>Xi71 h (k x)
theorem Xi82(h:∃x y z w u v s t,A x y z w u v s t∧B x y z w u v s t)(k:∀x y z w u v s t,A x y z w u v s t→B x y z w u v s t→r):r:=Xi81 h λx y z w u v s t h=>Xi02 h (k x y z w u v s t)
end
section
variable{A B C:α→β→γ→δ→ε→η→ι→κ→μ→Prop}
theorem Xi91(h:∃x y z w u v s t p,A x y z w u v s t p)(k:∀x y z w u v s t p,A x y z w u v s t p→r):r:=h.elim λx h=>Xi81 h (k x)
theorem Xi93(h:∃x y z w u v s t p,A x y z w u v s t p∧B x y z w u v s t p∧C x y z w u v s t p)(k:∀x y z w u v s t p,A x y z w u v s t p→B x y z w u v s t p→C x y z w u v s t p→r):r:=Xi91 h λx y z w u v s t p h=>Xi03 h (k x y z w u v s t p)
end
theorem Ps2{P:α→β→Prop}(x:α)(y:β)(h:P x y):∃x y,P x y:=⟨x,y,h⟩
theorem Ps3{P:α→β→γ→Prop}(x:α)(y:β)(z:γ)(h:P x y z):∃x y z,P x y z:=⟨x,y,z,h⟩
theorem Ps4{P:α→β→γ→δ→Prop}(x:α)(y:β)(z:γ)(w:δ)(h:P x y z w):∃x y z w,P x y z w:=⟨x,y,z,w,h⟩
theorem Ps5{P:α→β→γ→δ→ε→Prop}(x:α)(y:β)(z:γ)(w:δ)(u:ε)(h:P x y z w u):∃x y z w u,P x y z w u:=⟨x,y,z,w,u,h⟩
theorem Ps6{P:α→β→γ→δ→ε→η→Prop}(x:α)(y:β)(z:γ)(w:δ)(u:ε)(v:η)(h:P x y z w u v):∃x y z w u v,P x y z w u v:=⟨x,y,z,w,u,v,h⟩
theorem Ps7{P:α→β→γ→δ→ε→η→ι→Prop}(x:α)(y:β)(z:γ)(w:δ)(u:ε)(v:η)(s:ι)(h:P x y z w u v s):∃x y z w u v s,P x y z w u v s:=⟨x,y,z,w,u,v,s,h⟩
theorem Ps8{P:α→β→γ→δ→ε→η→ι→κ→Prop}(x:α)(y:β)(z:γ)(w:δ)(u:ε)(v:η)(s:ι)(t:κ)(h:P x y z w u v s t):∃x y z w u v s t,P x y z w u v s t:=⟨x,y,z,w,u,v,s,t,h⟩
theorem Ps9{P:α→β→γ→δ→ε→η→ι→κ→μ→Prop}(x:α)(y:β)(z:γ)(w:δ)(u:ε)(v:η)(s:ι)(t:κ)(p:μ)(h:P x y z w u v s t p):∃x y z w u v s t p,P x y z w u v s t p:=⟨x,y,z,w,u,v,s,t,p,h⟩
end
open Lean in
local macro_rules
|`(tactic|let ⟨$ps,*⟩:=$h)=>do
 let mut b:Array Term:=#[];let mut t←`(tactic|skip)
 for p in ps.getElems do
  if p.raw.isOfKind ``Parser.Term.anonymousCtor||p.raw.getId==`rfl then
   let z←withFreshMacroScope `(z);b:=b.push z
   if p.raw.isIdent then t←`(tactic|($t;subst $z:term))else t←`(tactic|($t;let $p:term:=$z))
  else b:=b.push p
 unless b.any (·.raw.getId==h.raw.getId)||!h.raw.isIdent do t←`(tactic|((try clear $(⟨h⟩));$t))
 let mut a←`(tactic|fail)
 let g(n m:Nat):=mkIdent (.mkSimple s!"Xi{n}{m}")
 for i in [0:b.size]do
  let m:=b.size-i
  if m*i==0||m==1||[(1,2),(1,3),(1,4),(1,5),(1,6),(2,2),(2,3),(2,4),(2,5),(2,6),(3,2),(3,3),(3,4),(3,5),(3,6),(3,8),(3,10),(4,2),(4,4),(4,5),(4,6),(4,7),(4,8),(5,2),(5,4),(5,5),(5,6),(5,7),(6,2),(6,5),(6,8),(7,2),(7,7),(8,2),(9,3)].contains (i,m)then a←`(tactic|first|refine $(g i m) $h fun $b* =>?_|$a:tactic)
  else a←`(tactic|first|(refine $(g i 1) $h fun $(b[:i])* z=>$(g 0 m) z fun $(b[i:])* =>?_;clear z)|$a:tactic)
 `(tactic|($a;$t))
|`(tactic|intro $ps*)=>do
 unless ps.any fun p=>p.raw.isOfKind ``Parser.Term.anonymousCtor||p.raw.getId==`rfl do Macro.throwUnsupported
 let mut t←`(tactic|skip)
 for p in ps do
  if p.raw.isOfKind ``Parser.Term.anonymousCtor then t←`(tactic|($t;intro z;let $p:term:=z))
  else if p.raw.getId==`rfl then t←`(tactic|($t;intro z;subst z))
  else t←`(tactic|($t;intro $p:term))
 return t
|`(tactic|show $e)=>`(tactic|first|refine $e|change $e)
|`($m:declModifiers def $i $b* :$t $v:declVal)=>do if m.raw.getArgs.any (·.getNumArgs != 0)then Macro.throwUnsupported else`($m:declModifiers theorem $i $b* :$t $v:declVal)
|`($m:declModifiers abbrev $i $b* :$t $v:declVal)=>do if m.raw.getArgs.any (·.getNumArgs != 0)then Macro.throwUnsupported else`(noncomputable def $i $b* :$t $v:declVal)
|`(tactic|let $d:letDecl)=>`(tactic|have $d:letDecl)
noncomputable section
open PySem in abbrev xz:=Value→Shared→Prop
open PySem in abbrev KK:=Str→Option Value
open PySem in abbrev ac:=List (Addr×Obj)
def AF:=@List.length_map
def A9:=@PySem.wpAny_bind
def B1:=@PySem.Heap.get?_push_of_some
def AZ:=@List.map_append
def BV:=@List.getElem?_eq_getElem
def aaf:=@List.mem_cons
def AQ:=@PySem.wpAny_pure
def BP:=@List.length_append
def aai:=@List.mem_map
def CQ:=@List.mem_append_right
def Ap:=@Nat.le_refl
def DJ:=@List.getD_eq_getElem?_getD
def Bb:=@List.length_cons
def BF:=@PySem.boot_len
def Bn:=@List.size_toArray
def BX:=@List.append_nil
def B3:=@PySem.Heap.lt_size
def Cn:=@List.mem_cons_of_mem
def BU:=@decide_eq_true
def CW:=@Nat.lt_of_le_of_lt
def Cc:=@Bool.false_ne_true
def aav:=@List.mem_append
def D1:=@Nat.add_le_add_left
def Bc:=@Bool.true_and
def BO:=@Nat.ne_of_lt
def D8:=@PySem.Heap.get?_push_size
def Ck:=@decide_eq_false
def AL:=@if_neg
def aaC:=@List.mem_singleton
def DN:=@of_decide_eq_true
def DF:=@List.not_mem_nil
def DD:=@List.length_take
def AO:=@if_pos
def Bk:=@Nat.le_succ
def Bm:=@PySem.sizeLine_eq
def EH:=@Int.emod_lt_of_pos
def Cq:=@List.map_cons
def DM:=@Int.emod_nonneg
def EO:=@Nat.lt_of_lt_of_le
def CU:=@List.map_map
def Be:=@PySem.wpAny_mono
def aaP:=@List.mem_range
def FN:=@PyProof.Rows.boot_all
def aaR:=@List.all_eq_true
def EJ:=@Bool.and_eq_true
def Cv:=@Nat.le_of_lt
def Ej:=@List.mem_cons_self
def Dj:=@Bool.false_and
def F7:=@of_decide_eq_false
def D6:=@Nat.le_trans
def Eg:=@List.getElem_mem
def G4:=@List.mem_append_left
def Dq:=@PySem.W.mg_of
def HI:=@PySem.F.plainAttrs_list
def GS:=@List.length_singleton
def FV:=@Nat.le_succ_of_le
def FK:=@List.length_range
def FG:=@List.length_drop
def Hb:=@PySem.F.type_list_append
def Ha:=@PySem.F.slot_list_append
def Fo:=@List.getElem?_map
def aa9:=@List.mem_filter
def aba:=@beq_eq_false_iff_ne
def Ey:=@PySem.PassesOwn.never
def FJ:=@Option.some.inj
def abd:=@decide_eq_decide
def abe:=@List.getElem?_eq_some_iff
def Hi:=@List.mem_of_mem_take
def Hc:=@List.mem_of_mem_drop
def E6:=@Nat.zero_le
def Hw:=@PySem.F.slot_dict_get
def GX:=@Nat.lt_succ_self
def abk:=@PyProof.Rows.slot_tuple_getitem
def abl:=@List.nodup_append
def Fe:=@PySem.Heap.size_push
def HL:=@PySem.wpAny_truthy_bool
def abo:=@Bool.eq_iff_iff
def abp:=@List.any_eq_true
def Hm:=@Nat.lt_succ_of_lt
def FT:=@List.all_map
def HP:=@PySem.W.kia_one
def abu:=@List.nodup_cons
def Gr:=@List.find?_cons
def G7:=@List.any_cons
def Hl:=@List.lookup_cons
def DT:=@congrArg
def GG:=@Nat.lt_irrefl
def Jn:=@List.take_append_drop
def JZ:=@List.getElem?_toArray
def IL:=@PySem.wpAny_newObj_type
def FW:=@PySem.wpAny_field
def Gl:=@PySem.wpAny_holding
def KW:=@List.filter_cons_of_pos
def KG:=@PySem.wpAny_comprehension_free
def Ie:=@PySem.wpAny_Call_Name_kw
def Ku:=@PySem.wpAny_callSpecial?_slot
def Hg:=@PySem.wpAny_seqItems
def J0:=@List.drop_length
def KA:=@List.length_filter_le
def JJ:=@List.filter_append
def LK:=@List.mem_of_getElem?
def Jm:=@PySem.tupleKind_room_in1
def JT:=@decide_eq_true_eq
def Ik:=@Nat.not_lt_zero
def Lr:=@PySem.F.plainAttrs_dict
def Mj:=@List.filter_cons_of_neg
def It:=@List.nodup_nil
def MB:=@PySem.F.entry_dict_get
def abV:=@List.mem_filterMap
def Hy:=@PySem.wpAny_standAt
def Jf:=@PySem.wpAny_call_entry
def Np:=@PyProof.Rows.callWith_type1
def abZ:=@beq_iff_eq
def Ky:=@Option.isSome_map
def ab1:=@List.pairwise_map
def KY:=@List.append_assoc
def Ib:=@List.all_cons
def LL:=@Int.toNat_natCast
def Ic:=@Bool.and_true
def Ka:=@PySem.wpAny_pyIter_tuple
def OC:=@Classical.byContradiction
def Jc:=@Bool.and_false
def Fn:=@or_false
def Kw:=@List.nodup_range
def M7:=@PySem.mem_of_lookup
def acd:=@List.length_pos_iff
def LU:=@List.getElem_of_mem
def QD:=@List.length_erase_of_mem
def Pl:=@List.Pairwise.imp_of_mem
def NY:=@PySem.F.slot_tuple_iterator_next
def Lw:=@PySem.wpAny_newFunctionEnv
def Me:=@PySem.W.callWith_K
def KU:=@List.any_append
def KH:=@List.all_append
def M0:=@PySem.Heap.SameBut.update
def OK:=@List.take_of_length_le
def Nj:=@PySem.AutoSeq1.wpAny_loadPart'
def M5:=@Nat.le_of_lt_succ
def Kr:=@Bool.and_assoc
def NZ:=@PySem.F.type_dict_get
def LX:=@Nat.succ_le_succ
def Ld:=@Nat.le_of_not_lt
def LS:=@PySem.wpAny_setState_of
def Jx:=@PySem.codeAny_mono
def G5:=@Ne.symm
def Mt:=@List.range_succ
def Vf:=@Array.getD_eq_getD_getElem?
def RE:=@PySem.F.excBase_ValueError
def Kf:=@Nat.add_zero
def Kj:=@List.map_nil
def Lp:=@PySem.wpAny_passesOwn
def PL:=@List.any_eq_false
def Ro:=@PySem.F.args_dict_get_2
def M3:=@List.map_take
def Mn:=@List.map_drop
def KN:=@PySem.call_meetsIn
def O7:=@beq_self_eq_true
def Nh:=@Nat.min_eq_right
def OQ:=@Nat.le_add_right
def OM:=@List.isEmpty_map
def OE:=@List.getElem_inj
def acP:=@Option.map_eq_some_iff
def Rl:=@List.length_pos_of_mem
def QV:=@PySem.wpAny_pyIter_list
def Ma:=@Nat.ne_of_gt
def OR:=@Nat.min_eq_left
def Po:=@List.length_nil
def Oa:=@List.forIn_cons
def Su:=@List.mem_erase_of_ne
def IJ:=@if_true
def LP:=@Sum.inr.inj
def U7:=@PySem.W.plainGet_of
def Qy:=@List.filter_sublist
def aP:=@List.filterMap_cons
def Ws:=@Int.toNat_of_nonneg
def SR:=@Array.length_toList
def Qv:=@PySem.Heap.get?_update_self
def PQ:=@PySem.F.slot_zip_next
def OV:=@Bool.or_false
def LC:=@PySem.wpAny_rule
def LB:=@PySem.wpAny_Name
def Xy:=@PySem.wpAny_updateSeq_pair
def au:=@PySem.wpAny_loadName_local
def Qz:=@List.take_sublist
def aV:=@PySem.Calls.evalArgs_plain
def OG:=@Nat.succ_pos
def QH:=@List.any_map
def U0:=@PyProof.Rows.F.plain_set_update_loop
def Sf:=@PySem.wpAny_loadName_cell
def RU:=@Option.bind_some
def XA:=@Nat.succ_ne_self
def Sl:=@List.take_length
def Ut:=@List.ext_getElem
def kS:=@List.eq_nil_of_length_eq_zero
def kC:=@Int.mul_le_mul_of_nonneg_left
def jO:=@PySem.F.slot_dict_setdefault
def Ph:=@PySem.wpAny_onRaise
def Of:=@PySem.Paired.length
def aJ:=@List.of_mem_zip
def R4:=@List.foldl_cons
def dD:=@List.getElem?_append_right
def Lv:=@PySem.typeIs_str
def ady:=@PySem.F.slot_dict_getitem
def dQ:=@List.getLastD_eq_getLast?
def fB:=@List.getElem?_append_left
def Qx:=@List.forIn_nil
def aT:=@List.drop_zero
def kB:=@Array.getElem?_eq_getElem
def OD:=@PySem.wpAny_typeOf
def ON:=@PySem.codeAny_loop
def adG:=@Option.isSome_iff_exists
def Pm:=@Nat.mod_lt
def cI:=@List.filterMap_cons_some
def MX:=@if_false
def cn:=@PySem.F.args_dict_get_3
def UX:=@List.take_nil
def jb:=@List.getElem?_replicate
def ku:=@List.getElem?_cons_succ
def Up:=@Bool.or_assoc
set_option Elab.async false
set_option linter.all false
set_option maxRecDepth 100000
set_option maxHeartbeats 1000000
set_option maxHeartbeats 4000000
local macro_rules|`(tactic|done)=>`(tactic|decide +kernel)
local macro_rules|`(term|nofun)=>`(term|⟨rfl,rfl,rfl,by decide +kernel,rfl,by decide +kernel,by decide +kernel⟩)
namespace L2
open PySem PySem.Spec PyProof.Rows
variable {xs vs:List V}{us:List Value}{H:A5}{a b it C:Addr}{o:HO}{u:Value}{P:Program}{w:World}{h base:Heap}{g':Array GenState}{t' i j k n:Nat}{d':Drawn}{ch fp:List Addr}{x qual:Str}{e tg l:Expr}{N ps:List Str}{M:Model}{A:Around}{E Q:xz}{v y:V}{s' s:Shared}{X: Cx}{t: CY}{pos p: Pos}{v4:ac}{σ:St}{K:W.Frag}{f:Value→Value→Sem Value}{es: List Expr}{te tl:AY}{g:Int→Int→Int}{pos':Pos}{H': A5}{ta tb: AY}{pl:Sem Bool}{body:List Stmt}{r r':EA}{AG:CmpOp}{dx: Addr}{mA mg:KK}{kw:List (Str×Value)}{CX:HB}{fd:FuncData}{sp:Dw}{outer:List Env}{kindOf:Str→Option NameKind}{scope:Scope}{h': Heap}
abbrev AB:=Sum Int Str
abbrev Km:AB→Value→Bool
 |.inl k,v=>Value.isInt k v
 |.inr x,v=>Value.isStrOf x v
abbrev ub(w:World):AB→Int
 |.inl k=>hashInt k
 |.inr x=>hashStr w x
def He:∀{k:AB} {v:Value},Km k v=true→(∃i t,k=Sum.inl i∧v=Value.int i t)∨(∃x t,k=Sum.inr x∧v=Value.str x t)
 |.inl i,v,h=>by
  let⟨t,e⟩:=Value.isInt_shape (k:=i) (v:=v) h;show .inl ⟨i,t,rfl,e⟩
 |.inr x,v,h=>by
  let⟨t,e⟩:=Value.isStrOf_shape (x:=x) (v:=v) h;show .inr ⟨x,t,rfl,e⟩
def aaO(i:Int)(t:Tok):Km (.inl i) (.int i t)=true:=by simp[Km,Value.isInt]
def aca(x:Str)(t:Tok):Km (.inr x) (.str x t)=true:=by simp[Km,Value.isStrOf]
def abL(a b:Int):decide ((Sum.inl a:AB)=Sum.inl b)=(a==b):=by
 by_cases e:a=b
 ·subst e;simp
 ·let h:¬(Sum.inl a:AB)=Sum.inl b:=λq=>e (Sum.inl.inj q)
  rw[Ck h];show(aba.mpr e).symm
def adq(a b:Str):decide ((Sum.inr a:AB)=Sum.inr b)=decide (a=b):=by
 by_cases e:a=b
 ·subst e;simp
 ·let h:¬(Sum.inr a:AB)=Sum.inr b:=λq=>e (LP q)
  rw[Ck h,Ck e]
def nI(a:Int)(b:Str):decide ((Sum.inl a:AB)=Sum.inr b)=false:=Ck (λq=>nomatch q)
def qH(a:Str)(b:Int):decide ((Sum.inr a:AB)=Sum.inl b)=false:=Ck (λq=>nomatch q)
abbrev AP(prog:Program)(w:World):PySem.KeyKind prog w AB where
 is:=Km
 hash:=ub w
 inj:=λv a b ha hb=>by
  rcases He ha with⟨i,t,rfl,rfl⟩|⟨x,t,rfl,rfl⟩
  ·rcases He hb with⟨j,u,rfl,e⟩|⟨y,u,rfl,e⟩
   ·injection e with e1 _;rw[e1]
   ·show nomatch e
  ·rcases He hb with⟨j,u,rfl,e⟩|⟨y,u,rfl,e⟩
   ·show nomatch e
   ·injection e with e1 _;rw[e1]
 byValue:=λk v h=>by
  rcases He h with⟨i,t,rfl,rfl⟩|⟨x,t,rfl,rfl⟩<;>rfl
 pyHash:=λhv h=>by
  rcases He hv with⟨i,t,rfl,rfl⟩|⟨x,t,rfl,rfl⟩
  ·show wpAny_pyHash_int h
  ·show wpAny_pyHash_str h
 eqBool:=λhu hv h=>by
  rcases He hu with⟨i,t,rfl,rfl⟩|⟨x,t,rfl,rfl⟩
  ·rcases He hv with⟨j,u,rfl,rfl⟩|⟨y,u,rfl,rfl⟩
   ·rw[abL]at h;show wpAny_eqBool_int h
   ·rw[nI]at h;show SeqAt.EqAt.int_str i t y u _ _ _ _ h
  ·rcases He hv with⟨j,u,rfl,rfl⟩|⟨y,u,rfl,rfl⟩
   ·rw[qH]at h;show SeqAt.EqAt.str_int x t j u _ _ _ _ h
   ·rw[adq]at h;show wpAny_eqBool_str h
 «strs»:=λk x t v h=>by
  rcases He h with⟨i,u,rfl,e⟩|⟨y,u,rfl,e⟩
  ·show nomatch e
  ·injection e with e1 _
   subst e1;cases v<;>rfl
def nE(prog:Program)(w:World)(i:Int)(t:Tok):(AP prog w).is (.inl i) (.int i t)=true:=aaO i t
def Xu(prog:Program)(w:World)(x:Str)(t:Tok):(AP prog w).is (.inr x) (.str x t)=true:=aca x t
inductive V where
 |non|bl (b:Bool)|int (i:Int)|str (x:Str)|byt (b:Array UInt8)|flt (b:UInt64)|ref (a:Addr)|ty (n:String)
 deriving DecidableEq
abbrev RelV:V→Value→Prop
 |.non,u=>u=Value.none
 |.bl b,u=>u=Value.bool b
 |.int i,u=>∃t,u=Value.int i t
 |.str x,u=>∃t,u=Value.str x t
 |.byt b,u=>∃t,u=Value.bytes b t
 |.flt b,u=>∃t,u=Value.float b t
 |.ref a,u=>u=Value.ref a
 |.ty n,u=>u=Value.type n
noncomputable abbrev Vals:List V→List Value→Prop:=Paired RelV
def Vals.length(r:Vals xs us):xs.length=us.length:=Of r
def Vals.get:∀{xs:List V} {us:List Value} {i:Nat} {x:V},Vals xs us→xs[i]?=some x→∃u,us[i]?=some u∧RelV x u
 |_,_,_,_,.nil,e=>by simp at e
 |_,_,0,_,.cons r _,e=>by simp at e;subst e;show⟨_,rfl,r⟩
 |_,_,i+1,x,.cons _ t,e=>by
  let⟨u,h1,h2⟩:=Vals.get (i:=i) (x:=x) t (by simpa using e);show⟨u,by simpa using h1,h2⟩
def Vals.append:∀{xs ys:List V} {us ws:List Value},Vals xs us→Vals ys ws→Vals (xs++ys) (us++ws)
 |_,_,_,_,.nil,s=>s
 |_,_,_,_,.cons r t,s=>.cons r (Vals.append t s)
def Vals.take:∀{xs:List V} {us:List Value} (n:Nat),Vals xs us→Vals (xs.take n) (us.take n)
 |_,_,0,_=>.nil
 |_,_,_+1,.nil=>.nil
 |_,_,n+1,.cons r t=>.cons r (Vals.take n t)
def Vals.drop:∀{xs:List V} {us:List Value} (n:Nat),Vals xs us→Vals (xs.drop n) (us.drop n)
 |_,_,0,r=>r
 |_,_,_+1,.nil=>.nil
 |_,_,n+1,.cons _ t=>Vals.drop n t
abbrev jY:Option V→Option Value→Prop
 |some v,some u=>RelV v u
 |none,none=>True
 |_,_=>False
abbrev KV{κ:Type}:List (κ×V)→List (κ×Value)→Prop:=Paired λ(p:κ×V) (q:κ×Value)=>p.1=q.1∧RelV p.2 q.2
abbrev BI:AB→V
 |.inl i=>.int i
 |.inr x=>.str x
inductive HO where
 /-- a list -/
 |lst (xs:List V)
 /-- a tuple (never changes) -/
 |tup (xs:List V)
 /-- a dict Jo keys are ints and texts;one Jo keys are tuples of ints and texts (wM empty one is both) -/
 |dK (aA:List (AB×V))|dT (aA:List (List AB×V))
 /-- a set of ints: bp members,bp size -/
 |set (S:Int→Bool) (n:Nat)
 /-- an instance of wM class at C,bp dict at dx,bp attributes -/
 |ins (C dx:Addr) (fs:List (Str×V))
 /-- wM dict of wM instance at x -/
 |own (x:Addr)
 /-- wM dict of an exception -/
 |xd (fs:List (Str×V))
 /-- a bound method,f of x -/
 |met (f x:Addr)
 /-- a range object lo,lo+1,.. below hi -/
 |rng (lo hi:Int)
 /-- a N7 N8 is known to wM object (wM yL;a dict while a loop walks it): read,never written while it is so -/
 |frz (o:Obj) (u:HO)
 /-- a code Pw table -/
 |tbl (ps:Array Value)
 /-- any other N7,by RV is true of bp one object (a def of VG own: SetO a S n:=HO.ext λh=>..) -/
 |ext (φ:Heap→Prop)
abbrev A5:=Addr→Option HO
abbrev AM(H:A5)(a:Addr)(o:HO):A5:=λb=>if b=a then some o else H b
def Bu:AM H a o a=some o:=by unfold AM;rw[AO rfl]
def B0(h:b≠a):AM H a o b=H b:=by unfold AM;rw[AL h]
def acV{u:HO}(h:H a=some o)(h':H b=some u)(d:o≠u):a≠b:=by
 intro e;subst e;rw[h]at h';show d (FJ h')
def Gd(h:H a=some o)(h':H b=none):a≠b:=by
 intro e;subst e;rw[h]at h';cases h'
section
variable (P: Program)(w: World)
abbrev bU(H:A5)(h:Heap)(a:Addr):HO→Prop
 |.lst xs=>xs.length≤sizeLine∧∃(bp:List Value) (n:Nat),Vals xs bp∧h.get? a=some {cls:=.type "list",data:=.seq bp.toArray n}
 |.tup xs=>xs.length≤sizeLine∧∃bp:List Value,Vals xs bp∧IsTup h a bp.toArray
 |.dK aA=>aA.length≤sizeLine∧(a==sysModules)=false∧∃vs,KV aA vs∧h.DictOf (AP P w) a vs
 |.dT aA=>aA.length≤sizeLine∧(a==sysModules)=false∧∃xs:List (List AB×Addr×Value),
   Paired (λ(p:List AB×V) (q:List AB×Addr×Value)=>p.1=q.1∧H q.2.1=some (.tup (p.1.map BI))∧RelV p.2 q.2.2) aA xs∧
   ∃o es ep,h.get? a=some o∧o.ExactDict∧o.data=.dict es ep∧es.toList=xs.map (entryOfKey (tupleKind (AP P w)))∧(xs.map (·.1)).Nodup
 |.set S n=>h.SetOf (intKind P w) a S n
 |.ins C dx fs=>H dx=some (.own a)∧fs.length≤1000∧dx≠a∧h.get? a=some (W.instObj C dx)∧
   ∃mA,h.Ns1 dx mA∧(∀f,jY (fs.lookup f) (mA f))∧PySem.Within mA (fs.map (·.1))
 |.own _=>∃o,h.get? a=some o
 |.xd fs=>∃mA,h.Ns1 a mA∧∀f,jY (fs.lookup f) (mA f)
 |.rng lo hi=>∃t u v,h.get? a=some {cls:=.type "range",data:=.fields #[.int lo t,.int hi u,.int 1 v]}
 |.frz o u=>h.get? a=some o∧bU H h a u
 |.tbl ps=>h.get? a=some {cls:=.none,data:=.fields ps}
 |.met f x=>h.get? a=some (W.methodObj (.ref f) (.ref x))
 |.ext φ=>φ h∧(∃o,h.get? a=some o)∧∀h1 h2:Heap,φ h1→(∀o,h1.get? a=some o→h2.get? a=some o)→φ h2
abbrev mZ(H:A5)(h:Heap):Prop:=∀a o,H a=some o→bU P w H h a o
end
section
variable {P: Program}{w: World}{H: A5}{h: Heap}{a: Addr}{o: HO}
def bU.lt(x:bU P w H h a o):a<h.objs.size:=by
 cases o with
 |lst xs=>let⟨_,⟨_,_,_,e⟩⟩:=x;show B3 e
 |tup xs=>let⟨_,⟨_,_,p⟩⟩:=x;show p.lt
 |dK aA=>let⟨_,_,⟨_,_,⟨o,_,_,e,_⟩⟩⟩:=x;show B3 e
 |dT aA=>let⟨_,_,⟨_,_,⟨o,_,_,e,_⟩⟩⟩:=x;show B3 e
 |set S n=>let⟨o,_,_,_,e,_⟩:=x;show B3 e
 |ins C dx fs=>let⟨_,_,_,e,_⟩:=x;show B3 e
 |own y=>let⟨_,e⟩:=x;show B3 e
 |xd fs=>let⟨_,⟨_,_,_,e,_⟩,_⟩:=x;show B3 e
 |rng lo hi=>let⟨_,_,_,e⟩:=x;show B3 e
 |frz ob u=>let⟨e,_⟩:=x;show B3 e
 |tbl ps=>show B3 (show h.get? a=some _ from x)
 |met f y=>show B3 (show h.get? a=some _ from x)
 |ext φ=>let⟨_,⟨_,e⟩,_⟩:=x;show B3 e
def Paired.L9{α β:Type}{F G:α→β→Prop}:∀{l₁:List α} {l₂:List β},Paired F l₁ l₂→(∀a b,F a b→G a b)→Paired G l₁ l₂
 |_,_,.nil,_=>.nil
 |_,_,.cons r t,f=>.cons (f _ _ r) (Paired.L9 t f)
def bU.t4(x:bU P w H h a o)(k:∀b u,(b=a∨H b=some (.own a))→h.get? b=some u→h'.get? b=some u)
  (ho:∀b,H b=some (.own a)→H' b=some (.own a)) (ht:∀b xs,H b=some (.tup xs)→H' b=some (.tup xs)):bU P w H' h' a o:=by
 induction o with
 |lst xs=>let⟨z,⟨bp,n,r,e⟩⟩:=x;show⟨z,bp,n,r,k _ _ (.inl rfl) e⟩
 |tup xs=>let⟨z,⟨bp,r,⟨ob,e,c⟩⟩⟩:=x;show⟨z,bp,r,ob,k _ _ (.inl rfl) e,c⟩
 |dK aA=>let⟨z,y,⟨vs,r,⟨ob,es,ep,e,c⟩⟩⟩:=x;show⟨z,y,vs,r,ob,es,ep,k _ _ (.inl rfl) e,c⟩
 |dT aA=>
  let⟨z,y,⟨xs,r,⟨ob,es,ep,e,c⟩⟩⟩:=x;show⟨z,y,xs,Paired.L9 r λp q z=>⟨z.1,ht _ _ z.2.1,z.2.2⟩,ob,es,ep,k _ _ (.inl rfl) e,c⟩
 |set S n=>let⟨ob,es,ep,t,e,c⟩:=x;show Ps4 ob es ep t ⟨k _ _ (.inl rfl) e,c⟩
 |ins C dx fs=>
  let⟨d,z,ne,e,⟨mA,⟨od,es,ep,e2,c⟩,r⟩⟩:=x;show⟨ho _ d,z,ne,k _ _ (.inl rfl) e,mA,Ps3 od es ep ⟨k _ _ (.inr d) e2,c⟩,r⟩
 |own y=>let⟨ob,e⟩:=x;show⟨ob,k _ _ (.inl rfl) e⟩
 |xd fs=>let⟨mA,⟨od,es,ep,e,c⟩,r⟩:=x;show⟨mA,Ps3 od es ep ⟨k _ _ (.inl rfl) e,c⟩,r⟩
 |rng lo hi=>let⟨t,u,v,e⟩:=x;show Ps3 t u v (k _ _ (.inl rfl) e)
 |frz ob u ih=>let⟨e,q⟩:=x;show⟨k _ _ (.inl rfl) e,ih q⟩
 |tbl ps=>
  let e:h.get? a=some {cls:=.none,data:=.fields ps}:=x;show h'.get? a=some {cls:=.none,data:=.fields ps}
  show k a _ (.inl rfl) e
 |met f y=>
  let e:h.get? a=some (W.methodObj (.ref f) (.ref y)):=x;show h'.get? a=some (W.methodObj (.ref f) (.ref y))
  show k a _ (.inl rfl) e
 |ext φ=>let⟨p,⟨o,e⟩,st⟩:=x;show⟨st _ _ p λo q=>k _ _ (.inl rfl) q,⟨o,k _ _ (.inl rfl) e⟩,st⟩
def mZ.lt(x:mZ P w H h)(e:H a=some o):a<h.objs.size:=(x a o e).lt
def mZ.fresh(x:mZ P w H h)(e:h.objs.size≤a):H a=none:=by
 cases q:H a with
 |none=>rfl
 |some u=>show absurd (EO (x.lt q) e) (GG _)
def mZ.kept(x:mZ P w H h)(k:∀b u,h.get? b=some u→h'.get? b=some u):mZ P w H h':=λa o e=>
 (x a o e).t4 (λb u _ q=>k b u q) (λ_ q=>q) λ_ _ q=>q
def mZ.laid(x:mZ P w H h)(k:∀b u,h.get? b=some u→h'.get? b=some u)(hp:h.objs.size≤a)(new:bU P w (AM H a o) h' a o):mZ P w (AM H a o) h':=λb u e=>by
 let hn:=x.fresh hp;by_cases hb:b=a
 ·subst hb;rw[Bu]at e;cases e;show new
 ·rw[B0 hb]at e
  show(x b u e).t4 (λc v _ q=>k c v q) (λc q=>by rw[B0 (Gd q hn)];show q) λc xs q=>by rw[B0 (Gd q hn)];show q
end
abbrev Rd(H:A5)(a:Addr)(u:HO):Prop:=H a=some u∨∃o,H a=some (.frz o u)
def Rd.ok{u:HO}(r:Rd H a u)(x:mZ P w H h):bU P w H h a u:=by
 rcases r with r|⟨o,r⟩
 ·show x a u r
 ·let⟨_,q⟩:=x a _ r
  show q
abbrev Mq:Option HO→Prop
 |some (.lst _)=>True
 |some (.dK _)=>True
 |some (.dT _)=>True
 |some (.set _ _)=>True
 |some (.ins _ _ _)=>True
 |some (.ext _)=>True
 |_=>False
section
variable {P: Program}{w: World}{H: A5}{h: Heap}{x e: Addr}{o': HO}
def mZ.write(ok:mZ P w H h)(mu:Mq (H x))(he:e=x∨H e=some (.own x))(k:∀b u,b≠e→h.get? b=some u→h'.get? b=some u)(ND:∃u,h'.get? e=some u)
  (new:bU P w (AM H x o') h' x o'):mZ P w (AM H x o') h':=λb u q=>by
 let PB:∀c y,H c=some (.own y)→c≠x:=λc y r z=>by subst z;rw[r]at mu;show mu
 let S1:∀c xs,H c=some (.tup xs)→c≠x:=λc xs r z=>by subst z;rw[r]at mu;show mu
 by_cases hb:b=x
 ·subst hb;rw[Bu]at q;cases q;show new
 ·rw[B0 hb]at q
  by_cases MK:b=e
  ·let q':H b=some (.own x):=by
    rcases he with z|z
    ·show absurd (MK.trans z) hb
    ·rw[MK];show z
   rw[q]at q';cases q';let⟨v,hv⟩:=ND;show⟨v,by rw[MK];show hv⟩
  ·show(ok b u q).t4 (λc v hc r=>k c v ?_ r) (λc r=>by rw[B0 (PB c b r)];show r) λc xs r=>by rw[B0 (S1 c xs r)];show r
   rcases hc with rfl|hc
   ·show MK
   ·rintro rfl
    rcases he with z|z
    ·show PB c b hc z
    ·rw[hc]at z;cases z;show hb rfl
end
structure Un(fs ex:List Addr)(H H':A5)(h h':Heap):Prop where
 keep:∀b o,h.get? b=some o→H b=none→b∉fs→b∉ex→h'.get? b=some o
 slot:∀b o,h.get? b=some o→H b=none→b∈fs→b∉ex→∃sl,h'.get? b=some {o with slots:=sl}
 free:∀b o,h.get? b=some o→H b=none→b∉ex→H' b=none
 there:∀b o,h.get? b=some o→b∉ex→∃o',h'.get? b=some o'
 nv:∀b xs,H b=some (.tup xs)→H' b=some (.tup xs)
 mT:∀b o u,H b=some (.frz o u)→H' b=some (.frz o u)
 nz:∀b ps,H b=some (.tbl ps)→∃more,H' b=some (.tbl (ps++more))
section
variable {fs ex: List Addr}{H H1: A5}{h h1: Heap}{a x e: Addr}{o: HO}
def Un.any(u:Un fs ex H H1 h h1){ob:Obj}(q:h.get? b=some ob)(n:H b=none)(hx:b∉ex):∃sl,h1.get? b=some {ob with slots:=sl}:=by
 by_cases hb:b∈fs
 ·show u.slot b ob q n hb hx
 ·show⟨ob.slots,u.keep b ob q n hb hx⟩
def Un.kept(k:∀b u,h.get? b=some u→h'.get? b=some u):Un fs ex H H h h':=
 ⟨λb ob q _ _ _=>k b ob q,λb ob q _ _ _=>⟨ob.slots,k b ob q⟩,λ_ _ _ n _=>n,λb ob q _=>⟨ob,k b ob q⟩,λ_ _ q=>q,λ_ _ _ q=>q,λ_ ps q=>⟨#[],by rw[q];simp⟩⟩
def Un.refl:Un fs ex H H h h:=Un.kept λ_ _ q=>q
def Un.laid(k:∀b u,h.get? b=some u→h'.get? b=some u)(hp:h.objs.size≤a)(hn:H a=none):Un fs ex H (AM H a o) h h' where
 keep:=λb u q _ _ _=>k b u q
 slot:=λb u q _ _ _=>⟨u.slots,k b u q⟩
 free:=λb u q n _=>by rw[B0 (BO (EO (B3 q) hp))];show n
 there:=λb u q _=>⟨u,k b u q⟩
 nv:=λb xs q=>by rw[B0 (Gd q hn)];show q
 mT:=λb u xs q=>by rw[B0 (Gd q hn)];show q
 nz:=λb ps q=>⟨#[],by rw[B0 (Gd q hn),q];simp⟩
def Un.write(mu:Mq (H x))(he:e=x∨H e=some (.own x))(k:∀b u,b≠e→h.get? b=some u→h'.get? b=some u)(ND:∃u,h'.get? e=some u):Un fs ex H (AM H x o) h h':=by
 let hx:∀b,H b=none→b≠x:=λb n z=>by subst z;rw[n]at mu;show mu
 let hb:∀b,H b=none→b≠e:=λb n z=>by
  subst z;rcases he with r|r
  ·show hx b n r
  ·rw[n]at r;cases r
 let hm:∀b u,H b=some u→¬Mq (some u)→b≠x:=λb u q nm z=>by subst z;rw[q]at mu;show nm mu
 show⟨λb u q n _ _=>k b u (hb b n) q,λb u q n _ _=>⟨u.slots,k b u (hb b n) q⟩,λb u q n _=>by rw[B0 (hx b n)];show n,λb u q _=>?_,
  λb xs q=>by rw[B0 (hm b _ q λz=>z)];show q,λb u xs q=>by rw[B0 (hm b _ q λz=>z)];show q,λb ps q=>⟨#[],by rw[B0 (hm b _ q λz=>z),q];simp⟩⟩
 by_cases MK:b=e
 ·subst MK;show ND
 ·show⟨u,k b u MK q⟩
end
abbrev PR(h:Heap)(H:A5):List Addr:=(List.range h.objs.size).filter λa=>(H a).isSome
abbrev IF(h:Heap)(H:A5):Heap:=W.hideAll h (PR h H)
def xS(h:Heap)(H:A5):(IF h H).objs.size=h.objs.size:=W.hideAll_size _ _
def qu{o:Obj}(e:h.get? b=some o)(n:H b=none):(IF h H).get? b=some o:=
 W.hideAll_get _ e λhm=>by
  let q:(H b).isSome=true:=(aa9.mp hm).2;rw[n]at q;simp at q
def ve{o:Obj}(e:(IF h H).get? b=some o):h.get? b=some o∧H b=none:=by
 let e':h.get? b=some o:=W.of_hideAll (PR h H) e;show⟨e',?_⟩;cases q:H b with
 |none=>rfl
 |some x=>
  let hm:b∈PR h H:=aa9.mpr ⟨aaP.mpr (B3 e'),by simp[q]⟩;let z:(IF h H).get? b=none:=W.hideAll_none (PR h H) hm;rw[z]at e;cases e
abbrev acj(g h:Heap)(L:Addr):ac:=(List.range h.objs.size).filterMap λa=>if a=L∨(g.get? a).isSome=true then none else(h.get? a).map λo=>(a,o)
abbrev v6(g h:Heap)(L d:Addr):ac:=(acj g h L).filter λp=>decide (p.1≠d)
structure Mod(K:W.Frag)(mg:KK)(base:Heap):Prop where
 JO:K.In base
 glob:base.Ns mainGlobals mg
 blt:∃mb,base.Ns builtinsNs mb∧∀x:Str,x ≠ "__name__" → mb x=bootBuiltins x
 nolimit:base.NoLimit
structure Cx where
 prog:Program
 w:World
 K:W.Frag
 mg:KK
 base:Heap
 A:Around
 N:List Str
 s₀:Shared
 H₀:A5
 env:Env
 outer:List Env
 stack:List Env
 ex:List Addr
 fn:Str→Bool
 calm:Bool
 pn:ac
 xe:xz
abbrev E7(l:List Env):List Addr:=l.filterMap (·.frame)
noncomputable abbrev Cx.fs(X:Cx):List Addr:=E7 X.outer
abbrev K5(sc:Scope)(x:Str):Prop:=sc.names.lookup x=some .local∨sc.names.lookup x=some .cell∨sc.names.lookup x=some .free
abbrev HN(sc:Scope)(x:Str):Prop:=sc.names.lookup x=some .local∨sc.names.lookup x=some .cell
noncomputable abbrev Fk(X:Cx)(x:Str):Prop:=X.fn x=true∨X.env.scope.names.lookup x=some .local
abbrev Look(env:Env)(h:Heap)(m:KK)(x:Str)(u:Value):Prop:=
 (env.kindOf x=some .local∧m x=some u)∨((env.kindOf x=some .cell∨env.kindOf x=some .free)∧∃c,env.cells.lookup x=some c∧h.IsCell c (some u))
structure Cx.Ok(X:Cx):Prop where
 mod:Mod X.K X.mg X.base
 kind:X.env.scope.kind=.function
 glob:X.env.globals=mainGlobals
 blt:X.env.builtins=builtinsNs
 above:X.s₀.heap.objs.size≤X.env.locals
 inj:∀x y c,X.env.cells.lookup x=some c→X.env.cells.lookup y=some c→x=y
 has:∀x,(X.env.kindOf x=some .cell∨X.env.kindOf x=some .free)→∃c,X.env.cells.lookup x=some c
 J8:∀x c,X.fn x=true→X.env.cells.lookup x=some c→X.s₀.heap.objs.size≤c
 hd:X.calm=true→X.A.handled=none
 frames:X.A.frames=some X.stack
 KI:X.stack=X.outer∨(X.stack=X.env::X.outer∧X.env.frame=some X.env.locals)
 Gn:∀b∈X.ex,b≠X.env.locals∧∀x c,X.env.cells.lookup x=some c→c≠b
 bs:∀b o,X.base.get? b=some o→X.s₀.heap.get? b=some o∧X.H₀ b=none
 F0:X.base.objs.size≤X.s₀.heap.objs.size
 xk:∀b o,X.base.get? b=some o→b∉X.ex
 qL:∀b∈X.ex,b∉X.fs
 lY:X.s₀.heap.FunFrames X.base X.outer
 Gm:∀b∈X.fs,X.H₀ b=none
structure Inv(X:Cx)(v4:ac)(σ:List (Option V))(H:A5)(s:Shared):Prop where
 ok:X.Ok
 os:s.os=X.s₀.os
 bare:AllBare s.gens
 base:Un X.fs X.ex X.H₀ H X.s₀.heap s.heap
 loc:∃m,s.heap.Ns X.env.locals m∧∀(i:Nat) (x:Str) (v:V),X.N[i]?=some x→σ[i]?=some (some v)→K5 X.env.scope x→∃u,RelV v u∧Look X.env s.heap m x u
 cell:∀x c,X.env.cells.lookup x=some c→∃v,s.heap.IsCell c v
 free:H X.env.locals=none
 iG:∀x c,X.env.cells.lookup x=some c→H c=none
 pin:∀p∈X.pn++v4,s.heap.get? p.1=some p.2∧H p.1=none∧p.1≠X.env.locals∧p.1∉X.fs∧∀v,p.2.data≠.cell v
 bV:mZ X.prog X.w H s.heap
 len:σ.length=X.N.length
section
variable {v4: List (Addr×Obj)}{σ: List (Option V)}{H: A5}{s: Shared}
def Cx.Ok.S5(ok:X.Ok){o:Obj}(e:X.base.get? b=some o):b∉X.fs:=λhb=>by
 have:=(ok.lY.mem hb).1;rw[e]at this;cases this
def Inv.bs(I:Inv X v4 σ H s):∀b o,X.base.get? b=some o→s.heap.get? b=some o∧H b=none:=λb o e=>
 ⟨I.base.keep b o (I.ok.bs b o e).1 (I.ok.bs b o e).2 (I.ok.S5 e) (I.ok.xk b o e),I.base.free b o (I.ok.bs b o e).1 (I.ok.bs b o e).2 (I.ok.xk b o e)⟩
def Inv.bk(I:Inv X v4 σ H s):∀b o,X.base.get? b=some o→s.heap.get? b=some o:=λb o e=>(I.bs b o e).1
def Inv.mod(I:Inv X v4 σ H s):Mod X.K X.mg X.base:=I.ok.mod
def Inv.nZ(I:Inv X v4 σ H s):X.K.In s.heap:=I.ok.mod.JO.keeps I.bk
def Inv.lt(I:Inv X v4 σ H s):X.env.locals<s.heap.objs.size:=let⟨_,hn,_⟩:=I.loc;hn.lt
def Inv.sz(I:Inv X v4 σ H s):X.s₀.heap.objs.size≤s.heap.objs.size:=D6 I.ok.above (Cv I.lt)
def Inv.S4(I:Inv X v4 σ H s)(h:s.heap.objs.size≤a):a∉X.fs:=λhb=>by
 let⟨_,⟨o,ho,_⟩⟩:=I.ok.lY.mem hb;show absurd (EO (B3 ho) (D6 I.sz h)) (GG _)
def Inv.MZ(I:Inv X v4 σ H s):∀x c,X.env.cells.lookup x=some c→c≠X.env.locals:=λx c e z=>by
 let⟨v,o,ho,hd⟩:=I.cell x c e;let⟨m,⟨o',es,ep,ri,Iw,_⟩,_⟩:=I.loc;rw[z,ri]at ho;cases ho;rw[Iw]at hd;cases hd
def Inv.lY(I:Inv X v4 σ H s):s.heap.FunFrames X.base X.outer:=by
 let all:∀(l:List Env),(∀b∈E7 l,b∈X.fs)→X.s₀.heap.FunFrames X.base l→s.heap.FunFrames X.base l:=by
  intro l;induction l with
  |nil=>intro _ _;trivial
  |cons env r ih=>
   intro hs hl;let⟨hk,⟨L,o,hf,hn,ho,hd⟩,hr⟩:=hl;let hL:L∈X.fs:=hs L (by unfold E7;rw[aP,hf];show Ej);let⟨sl,e⟩:=I.base.slot L o ho (I.ok.Gm L hL) hL λz=>I.ok.qL L z hL;show⟨hk,Ps2 L _ ⟨hf,hn,e,hd⟩,ih (λb hb=>hs b (by unfold E7;rw[aP,hf];show Cn _ hb)) hr⟩
 show all X.outer (λ_ hb=>hb) I.ok.lY
def Inv.stack(I:Inv X v4 σ H s):s.heap.FunFrames X.base X.stack:=by
 rcases I.ok.KI with e|⟨e,hf⟩
 ·rw[e];show I.lY
 ·rw[e]
  let⟨m,hn,_⟩:=I.loc;show .cons (by rw[I.ok.kind];decide) hf hn ?_ I.lY;show Heap.get?_none_of_le (D6 I.ok.F0 I.ok.above)
def Inv.uX(I:Inv X v4 σ H s):∀b∈E7 X.stack,b∈X.env.locals::X.fs:=λb hb=>by
 rcases I.ok.KI with e|⟨e,hf⟩
 ·rw[e]at hb;show Cn _ hb
 ·rw[e]at hb
  unfold E7 at hb;rw[aP,hf]at hb;show hb
def Inv.qU(I:Inv X v4 σ H s):∀b∈E7 X.stack,H b=none:=λb hb=>by
 rcases aaf.mp (I.uX b hb)with e|hb
 ·rw[e];show I.free
 ·let⟨_,⟨o,ho,_⟩⟩:=I.ok.lY.mem hb
  show I.base.free b o ho (I.ok.Gm b hb) λz=>I.ok.qL b z hb
def Inv.step(I:Inv X v4 σ H s)
  (Gi:∀b∈ch,(b∈X.ex∨X.s₀.heap.objs.size≤b)∧b≠X.env.locals∧(∀x c,X.env.cells.lookup x=some c→c≠b)∧∀p∈X.pn++v4,p.1≠b)
  (keep:∀b o,b≠X.env.locals→b∉X.fs→b∉ch→s.heap.get? b=some o→H b=none→h'.get? b=some o)
  (slot:∀b o,b≠X.env.locals→b∈X.fs→b∉ch→s.heap.get? b=some o→H b=none→∃sl,h'.get? b=some {o with slots:=sl}) (free:∀b o,b∉ch→s.heap.get? b=some o→H b=none→H' b=none)
  (there:∀b o,b∉ch→s.heap.get? b=some o→∃o',h'.get? b=some o')
  (nv:∀b xs,H b=some (.tup xs)→H' b=some (.tup xs)) (mT:∀b o u,H b=some (.frz o u)→H' b=some (.frz o u)) (nz:∀b ps,H b=some (.tbl ps)→∃more,H' b=some (.tbl (ps++more)))
  (ns:∀m,s.heap.Ns X.env.locals m→h'.Ns X.env.locals m) (bV:mZ X.prog X.w H' h') (hg:AllBare g') :
  Inv X v4 σ H' {s with heap:=h',gens:=g',drawn:=d',toks:=t'}:=by
 let VN:∀b o,X.s₀.heap.get? b=some o→b≠X.env.locals:=λb o e=>BO (EO (B3 e) I.ok.above);let Rp:∀b o,X.s₀.heap.get? b=some o→b∉X.ex→b∉ch:=λb o e hx hb=>by
  rcases(Gi b hb).1 with z|z
  ·show hx z
  ·show absurd (EO (B3 e) z) (GG _)
 let cellK:∀x c,X.env.cells.lookup x=some c→∀v,s.heap.IsCell c v→h'.IsCell c v:=λx c e v ξ=>Xi12 ξ λo ho hd=>by
  let EM:c∉ch:=λz=>(Gi c z).2.2.1 x c e rfl;by_cases hc:c∈X.fs
  ·let⟨sl,q⟩:=slot c o (I.MZ x c e) hc EM ho (I.iG x c e)
   show⟨_,q,hd⟩
  ·show⟨o,keep c o (I.MZ x c e) hc EM ho (I.iG x c e),hd⟩
 show⟨I.ok,I.os,hg,⟨λb o e n hb hx=>?_,λb o e n hb hx=>?_,λb o e n hx=>?_,λb o e hx=>?_,λb xs e=>nv b xs (I.base.nv b xs e),λb o xs e=>mT b o xs (I.base.mT b o xs e),λb ps e=>?_⟩,?_,λx c e=>?_,?_,λx c e=>?_,λp hp=>?_,bV,I.len⟩
 ·show keep b o (VN b o e) hb (Rp b o e hx) (I.base.keep b o e n hb hx) (I.base.free b o e n hx)
 ·let⟨sl,e1⟩:=I.base.slot b o e n hb hx
  let⟨XG,e2⟩:=slot b _ (VN b o e) hb (Rp b o e hx) e1 (I.base.free b o e n hx);show⟨XG,e2⟩
 ·let⟨o',e1⟩:=I.base.there b o e hx
  show free b o' (Rp b o e hx) e1 (I.base.free b o e n hx)
 ·let⟨o',e1⟩:=I.base.there b o e hx
  show there b o' (Rp b o e hx) e1
 ·let⟨m1,e1⟩:=I.base.nz b ps e
  let⟨m2,e2⟩:=nz b _ e1;show⟨m1++m2,by rw[e2,Array.append_assoc]⟩
 ·let⟨m,hn,hl⟩:=I.loc
  show⟨m,ns m hn,λi x v e1 e2 e3=>?_⟩;let⟨u,r,l⟩:=hl i x v e1 e2 e3;show⟨u,r,?_⟩;rcases l with l|⟨k,c,e,z⟩
  ·show .inl l
  ·show .inr ⟨k,c,e,cellK x c e _ z⟩
 ·let⟨v,z⟩:=I.cell x c e
  show⟨v,cellK x c e v z⟩
 ·let⟨m,⟨o,_,_,ho,_⟩,_⟩:=I.loc
  show free _ o (λz=>(Gi _ z).2.1 rfl) ho I.free
 ·let⟨v,o,ho,hd⟩:=I.cell x c e
  show free c o (λz=>(Gi c z).2.2.1 x c e rfl) ho (I.iG x c e)
 ·let⟨e,n,ne,nf,d⟩:=I.pin p hp
  let EM:p.1∉ch:=λz=>(Gi p.1 z).2.2.2 p hp rfl;show⟨keep p.1 p.2 ne nf EM e n,free p.1 p.2 EM e n,ne,nf,d⟩
def Inv.un(I:Inv X v4 σ H s)(u:Un X.fs [] H H' s.heap h')(bV:mZ X.prog X.w H' h'):Inv X v4 σ H' {s with heap:=h',toks:=t'}:=by
 let⟨m,⟨o,es,ep,ho,r⟩,_⟩:=id I.loc;let⟨sl,hL⟩:=u.any ho I.free (by simp);show I.step (g':=s.gens) (d':=s.drawn) (ch:=[]) (λ_ z=>nomatch z) (λb o _ hb _ e n=>u.keep b o e n hb (by simp)) (λb o _ hb _ e n=>u.slot b o e n hb (by simp)) (λb o _ e n=>u.free b o e n (by simp)) (λb o _ e=>u.there b o e (by simp)) u.nv u.mT u.nz (λm' hm=>by
  let⟨o',Gq,UG,ri,r'⟩:=hm;rw[ho]at ri;cases ri;show Ps3 _ Gq UG ⟨hL,r'⟩) bV I.bare
def Inv.call(I:Inv X v4 σ H s)(u:Un (E7 X.stack) ch H H' s.heap h')(bV:mZ X.prog X.w H' h')(hg:AllBare g')
  (Gi:∀b∈ch,(b∈X.ex∨X.s₀.heap.objs.size≤b)∧b≠X.env.locals∧(∀x c,X.env.cells.lookup x=some c→c≠b)∧∀p∈X.pn++v4,p.1≠b) :
  Inv X v4 σ H' {s with heap:=h',gens:=g',drawn:=d',toks:=t'}:=by
 let⟨m,⟨o,es,ep,ho,r⟩,_⟩:=id I.loc;let⟨sl,hL⟩:=u.any ho I.free λz=>(Gi _ z).2.1 rfl;show I.step (ch:=ch) Gi (λb o hL hb hc e n=>u.keep b o e n (λz=>(aaf.mp (I.uX b z)).elim hL hb) hc) (λb o _ _ hc e n=>u.any e n hc) (λb o hc e n=>u.free b o e n hc) (λb o hc e=>u.there b o e hc) u.nv u.mT u.nz (λm' hm=>by
  let⟨o',Gq,UG,ri,r'⟩:=hm;rw[ho]at ri;cases ri;show Ps3 _ Gq UG ⟨hL,r'⟩) bV hg
def Inv.turned(I:Inv X v4 σ H s)(k:∀b o,b≠it→s.heap.get? b=some o→h'.get? b=some o)(hn:H it=none)(hL:it≠X.env.locals)
  (h1:it∈X.ex∨X.s₀.heap.objs.size≤it) (h2:∀x c,X.env.cells.lookup x=some c→c≠it) (h3:∀p∈X.pn++v4,p.1≠it):Inv X v4 σ H {s with heap:=h',toks:=t'}:=by
 let VM:∀b u,H b=some u→b≠it:=λb u e z=>by rw[z,hn]at e;cases e
 show I.step (g':=s.gens) (d':=s.drawn) (ch:=[it]) (λb hb=>?_) (λb o _ _ hc e _=>k b o (λz=>hc (by simp[z])) e) (λb o _ _ hc e _=>⟨o.slots,k b o (λz=>hc (by simp[z])) e⟩) (λ_ _ _ _ n=>n)
  (λb o hc e=>⟨o,k b o (λz=>hc (by simp[z])) e⟩) (λ_ _ e=>e) (λ_ _ _ e=>e) (λb ps e=>⟨#[],by rw[e];simp⟩) (λm hm=>?_) (λb u e=>?_) I.bare
 ·let e:b=it:=by simpa using hb
  subst e;show⟨h1,hL,h2,h3⟩
 ·let⟨o,es,ep,ho,r⟩:=hm
  show Ps3 o es ep ⟨k _ o (G5 hL) ho,r⟩
 ·show(I.bV b u e).t4 (λc v hc q=>k c v ?_ q) (λ_ q=>q) λ_ _ q=>q
  rcases hc with z|z
  ·rw[z];show VM b u e
  ·show VM c _ z
def Inv.tok(I:Inv X v4 σ H s)(t:Nat):Inv X v4 σ H {s with toks:=t}:=I.un (h':=s.heap) (t':=t) Un.refl I.bV
def Inv.kept(I:Inv X v4 σ H s)(k:∀b u,s.heap.get? b=some u→h'.get? b=some u):Inv X v4 σ H {s with heap:=h',toks:=t'}:=I.un (Un.kept k) (I.bV.kept k)
def Inv.laid(I:Inv X v4 σ H s)(k:∀b u,s.heap.get? b=some u→h'.get? b=some u)(hp:s.heap.objs.size≤a)(new:bU X.prog X.w (AM H a o) h' a o):
  Inv X v4 σ (AM H a o) {s with heap:=h',toks:=t'}:=I.un (Un.laid k hp (I.bV.fresh hp)) (I.bV.laid k hp new)
def Inv.write{x e:Addr}(I:Inv X v4 σ H s)(mu:Mq (H x))(he:e=x∨H e=some (.own x))(k:∀b u,b≠e→s.heap.get? b=some u→h'.get? b=some u)(ND:∃u,h'.get? e=some u)
  (new:bU X.prog X.w (AM H x o) h' x o):Inv X v4 σ (AM H x o) {s with heap:=h',toks:=t'}:=I.un (Un.write mu he k ND) (I.bV.write mu he k ND new)
def Inv.AA{sg:ac}(I:Inv X v4 σ H s)(h:∀p∈sg,s.heap.get? p.1=some p.2∧H p.1=none∧p.1≠X.env.locals∧p.1∉X.fs∧∀v,p.2.data≠.cell v):Inv X sg σ H s:=
 ⟨I.ok,I.os,I.bare,I.base,I.loc,I.cell,I.free,I.iG,λp hp=>(aav.mp hp).elim (λz=>I.pin p (G4 _ z)) (h p),I.bV,I.len⟩
def hV(hN:N.Nodup)(a:N[i]?=some x)(b:N[j]?=some x):i=j:=by
 obtain⟨h1,e1⟩:=abe.mp a;obtain⟨h2,e2⟩:=abe.mp b;show(OE hN).mp (e1.trans e2.symm)
def kV{Q:Unit→Shared→Prop}(I:Inv X v4 σ H s)(hN:X.N.Nodup)(hi:X.N[i]?=some x)(hx:HN X.env.scope x)(r:RelV v u)
  (h:∀s',Inv X v4 (σ.set i (some v)) H s'→(∃a,Heap.SameBut a s.heap s'.heap∧(a=X.env.locals∨X.env.cells.lookup x=some a))→Q () s') (hf:Fk X x:=by first|show .inl rfl|show .inr rfl|assumption):wpAny M A (storeName X.env x u) Q E s:=by
 let⟨m,hn,hl⟩:=id I.loc;have Ug:(X.env.scope.kind == .class||(X.env.scope.kind == .module&&X.env.locals != X.env.globals))=false:=by rw[I.ok.kind];rfl
 let Wa:i<σ.length:=by rw[I.len];show(abe.mp hi).1
 let MZ:=I.MZ;let tracked:∀{a:Addr} {h':Heap},(∃o,s.heap.get? a=some o∧H a=none)→Heap.SameBut a s.heap h'→mZ X.prog X.w H h':=λ{a h'} ha hs b ob e=>by
  let⟨_,_,JV⟩:=ha;show(I.bV b ob e).t4 (λc w' hc q=>(hs.2 c ?_).trans q) (λ_ q=>q) λ_ _ q=>q;rintro rfl;rcases hc with rfl|hc
  ·rw[JV]at e;cases e
  ·rw[JV]at hc;cases hc
 rcases hx with hk|hk
 ·show wpAny_storeName_local hk hn (λh' T4 hs=>?_) Ug
  let⟨oL,_,_,YU,_⟩:=id hn;show h _ ⟨I.ok,I.os,I.bare,⟨λb o e n hb hx=>?_,λb o e n hb hx=>?_,I.base.free,λb o e hx=>?_,I.base.nv,I.base.mT,I.base.nz⟩,⟨_,T4,λj y v' e1 e2 e3=>?_⟩,λy c e=>?_,I.free,I.iG,λp hp=>?_,tracked ⟨oL,YU,I.free⟩ hs,by simpa using I.len⟩ ⟨_,hs,.inl rfl⟩
  ·show(hs.2 b (BO (EO (B3 e) I.ok.above))).trans (I.base.keep b o e n hb hx)
  ·let⟨sl,e1⟩:=I.base.slot b o e n hb hx
   show⟨sl,(hs.2 b (BO (EO (B3 e) I.ok.above))).trans e1⟩
  ·let⟨o',e1⟩:=I.base.there b o e hx
   show⟨o',(hs.2 b (BO (EO (B3 e) I.ok.above))).trans e1⟩
  ·by_cases hj:j=i
   ·subst hj
    rw[hi]at e1;cases e1;rw[List.getElem?_set_self Wa]at e2;cases e2;show⟨u,r,.inl ⟨hk,by simp⟩⟩
   ·rw[List.getElem?_set_ne (G5 hj)]at e2
    let⟨u',r',q⟩:=hl j y v' e1 e2 e3;show⟨u',r',?_⟩;rcases q with⟨k,e⟩|⟨k,c,e,z⟩
    ·show .inl ⟨k,?_⟩
     have:y≠x:=λe=>hj (hV hN e1 (e ▸ hi));simp[this,e]
    ·show .inr ⟨k,c,e,z.sameBut hs (MZ y c e)⟩
  ·let⟨w',z⟩:=I.cell y c e
   show⟨w',z.sameBut hs (MZ y c e)⟩
  ·let⟨e,n,ne,nf,d⟩:=I.pin p hp
   show⟨(hs.2 p.1 ne).trans e,n,ne,nf,d⟩
 ·let Ua:X.fn x=true:=by
   rcases hf with z|z
   ·show z
   ·rw[z]at hk;cases hk
  let⟨c,hc⟩:=I.ok.has x (.inl hk);let⟨w',z⟩:=I.cell x c hc;show wpAny_storeName_cell I.ok.kind hk hc z (λh' Gj hs=>?_);let⟨oc,Rv,T1⟩:=id z;show h {s with heap:=h'} ⟨I.ok,I.os,I.bare,⟨λb o e n hb hx=>?_,λb o e n hb hx=>?_,I.base.free,λb o e hx=>?_,I.base.nv,I.base.mT,I.base.nz⟩,⟨m,hn.sameBut hs (G5 (MZ x c hc)),λj y v' e1 e2 e3=>?_⟩,λy c' e=>?_,I.free,I.iG,λp hp=>?_,tracked ⟨oc,Rv,I.iG x c hc⟩ hs,by simpa using I.len⟩ ⟨c,hs,.inr hc⟩
  ·show(hs.2 b (BO (EO (B3 e) (I.ok.J8 x c Ua hc)))).trans (I.base.keep b o e n hb hx)
  ·let⟨sl,e1⟩:=I.base.slot b o e n hb hx
   show⟨sl,(hs.2 b (BO (EO (B3 e) (I.ok.J8 x c Ua hc)))).trans e1⟩
  ·let⟨o',e1⟩:=I.base.there b o e hx
   show⟨o',(hs.2 b (BO (EO (B3 e) (I.ok.J8 x c Ua hc)))).trans e1⟩
  ·by_cases hj:j=i
   ·subst hj
    rw[hi]at e1;cases e1;rw[List.getElem?_set_self Wa]at e2;cases e2;show⟨u,r,.inr ⟨.inl hk,c,hc,Gj⟩⟩
   ·rw[List.getElem?_set_ne (G5 hj)]at e2
    let⟨u',r',q⟩:=hl j y v' e1 e2 e3;show⟨u',r',?_⟩;rcases q with q|⟨k,c',e,z'⟩
    ·show .inl q
    ·show .inr ⟨k,c',e,z'.sameBut hs ?_⟩
     rintro rfl;show hj (hV hN e1 (I.ok.inj _ _ _ e hc ▸ hi))
  ·by_cases Wi:c'=c
   ·subst Wi;show⟨_,Gj⟩
   ·let⟨w2,z2⟩:=I.cell y c' e
    show⟨w2,z2.sameBut hs Wi⟩
  ·let⟨e,n,ne,nf,d⟩:=I.pin p hp
   show⟨(hs.2 p.1 ?_).trans e,n,ne,nf,d⟩;intro q;rw[q,Rv]at e;let q':oc=p.2:=FJ e;show d w' (by rw[←q'];show T1)
def Xn{Q:Unit→Shared→Prop}(I:Inv X v4 σ H s)(hN:X.N.Nodup)(hi:X.N[i]?=some x)(hx:HN X.env.scope x)(r:RelV v u)
  (h:∀s',Inv X v4 (σ.set i (some v)) H s'→Q () s') (hf:Fk X x:=by first|show .inl rfl|show .inr rfl|assumption):wpAny M A (storeName X.env x u) Q E s:=
 kV I hN hi hx r (λs' I' _=>h s' I') hf
def Inv.J7(I:Inv X v4 σ H s)(ho:s'.os=s.os)(u:Un (E7 X.stack) ch H H' s.heap s'.heap)(bV:mZ X.prog X.w H' s'.heap)(hg:AllBare s'.gens)
  (Gi:∀b∈ch,(b∈X.ex∨X.s₀.heap.objs.size≤b)∧b≠X.env.locals∧(∀x c,X.env.cells.lookup x=some c→c≠b)∧∀p∈X.pn++v4,p.1≠b):Inv X v4 σ H' s':=by
 obtain⟨h',g',d',t',o'⟩:=s';let e:o'=s.os:=ho;subst e;show I.call (g':=g') (t':=t') (d':=d') u bV hg Gi
end
abbrev BG:=Value→Option Addr→A5→Prop
abbrev St:=List (Option V)
abbrev Ar:=V→A5→Prop
abbrev AY:=St→A5→Ar→Prop
abbrev Ci:=St→A5→(Bool→A5→Prop)→Prop
abbrev CY:=St→A5→(List V→A5→Prop)→Prop
structure Ends where
 nx:St→A5→Prop
 rt:Ar
 bk:St→A5→Prop:=λ_ _=>False
 ct:St→A5→Prop:=λ_ _=>False
abbrev CM:=Ends→St→A5→Prop
abbrev Bl(X:Cx)(v4:ac)(σ:St)(Q:Ar)(u:Value)(s':Shared):Prop:=∃v H',Inv X v4 σ H' s'∧RelV v u∧Q v H'
abbrev K8(X:Cx)(v4:ac)(σ:St)(Q:Bool→A5→Prop)(b:Bool)(s':Shared):Prop:=∃H',Inv X v4 σ H' s'∧Q b H'
abbrev Nl(X:Cx)(v4:ac)(σ:St)(Q:List V→A5→Prop)(us:List Value)(s':Shared):Prop:=∃vs H',Inv X v4 σ H' s'∧Vals vs us∧Q vs H'
abbrev SP(X:Cx)(v4:ac)(D:Ends)(f:Flow)(s':Shared):Prop:=
 match f with
 |.next=>∃σ' H',Inv X v4 σ' H' s'∧D.nx σ' H'
 |.brk=>∃σ' H',Inv X v4 σ' H' s'∧D.bk σ' H'
 |.cont=>∃σ' H',Inv X v4 σ' H' s'∧D.ct σ' H'
 |.ret u=>∃v σ' H',Inv X v4 σ' H' s'∧RelV v u∧D.rt v H'
structure PE(X:Cx)(e:Expr)(t:AY):Prop where
 run:∀v4 s σ H (Q:Ar),Inv X v4 σ H s→t σ H Q→wpAny (model X.prog X.w) X.A (eval e X.env) (Bl X v4 σ Q) X.xe s
instance {X:Cx}{e:Expr}{t:AY}:CoeFun (PE X e t) λ_=>∀v4 s σ H (Q:Ar),Inv X v4 σ H s→t σ H Q→wpAny (model X.prog X.w) X.A (eval e X.env) (Bl X v4 σ Q) X.xe s:=⟨PE.run⟩
structure PT(X:Cx)(e:Expr)(t:Ci):Prop where
 run:∀v4 s σ H (Q:Bool→A5→Prop),Inv X v4 σ H s→t σ H Q→wpAny (model X.prog X.w) X.A (isTrue e X.env (eval e X.env)) (K8 X v4 σ Q) X.xe s
instance {X:Cx}{e:Expr}{t:Ci}:CoeFun (PT X e t) λ_=>∀v4 s σ H (Q:Bool→A5→Prop),Inv X v4 σ H s→t σ H Q→wpAny (model X.prog X.w) X.A (isTrue e X.env (eval e X.env)) (K8 X v4 σ Q) X.xe s:=⟨PT.run⟩
structure PW(X:Cx)(e:Expr)(t:Ci):Prop where
 run:∀(whole:Sem Value) v4 s σ H (Q:Bool→A5→Prop),Inv X v4 σ H s→t σ H Q→wpAny (model X.prog X.w) X.A (isTrue e X.env whole) (K8 X v4 σ Q) X.xe s
instance {X:Cx}{e:Expr}{t:Ci}:CoeFun (PW X e t) λ_=>∀(whole:Sem Value) v4 s σ H (Q:Bool→A5→Prop),Inv X v4 σ H s→t σ H Q→wpAny (model X.prog X.w) X.A (isTrue e X.env whole) (K8 X v4 σ Q) X.xe s:=⟨PW.run⟩
def PW.pt{X:Cx}{t:Ci}(h:PW X e t):PT X e t:=⟨h.run _⟩
structure PA(X:Cx)(es:List Expr)(t:CY):Prop where
 run:∀(pos:Pos) v4 s σ H (Q:List V→A5→Prop),Inv X v4 σ H s→t σ H Q→wpAny (model X.prog X.w) X.A (spliced (backTo pos (starEach es X.env))) (Nl X v4 σ Q) X.xe s
instance {X:Cx}{es:List Expr}{t:CY}:CoeFun (PA X es t) λ_=>∀(pos:Pos) v4 s σ H (Q:List V→A5→Prop),Inv X v4 σ H s→t σ H Q→wpAny (model X.prog X.w) X.A (spliced (backTo pos (starEach es X.env))) (Nl X v4 σ Q) X.xe s:=⟨PA.run⟩
structure PS(X:Cx)(st:Stmt)(t:CM):Prop where
 run:∀v4 s σ H (D:Ends),Inv X v4 σ H s→t D σ H→wpAny (model X.prog X.w) X.A (exec st X.env) (SP X v4 D) X.xe s
instance {X:Cx}{st:Stmt}{t:CM}:CoeFun (PS X st t) λ_=>∀v4 s σ H (D:Ends),Inv X v4 σ H s→t D σ H→wpAny (model X.prog X.w) X.A (exec st X.env) (SP X v4 D) X.xe s:=⟨PS.run⟩
structure mY(X:Cx)(st:List Stmt)(t:CM):Prop where
 run:∀v4 s σ H (D:Ends),Inv X v4 σ H s→t D σ H→wpAny (model X.prog X.w) X.A (execs st X.env) (SP X v4 D) X.xe s
instance {X:Cx}{st:List Stmt}{t:CM}:CoeFun (mY X st t) λ_=>∀v4 s σ H (D:Ends),Inv X v4 σ H s→t D σ H→wpAny (model X.prog X.w) X.A (execs st X.env) (SP X v4 D) X.xe s:=⟨mY.run⟩
def AI{α:Type}{t:Sem α}{Q Q':α→Shared→Prop}(h:wpAny M A t Q E s)(hQ:∀a s,Q a s→Q' a s):wpAny M A t Q' E s:=Be h hQ λ_ _ x=>x
section
abbrev mX(i:Nat):AY:=λσ H Q=>∃v,σ[i]?=some (some v)∧Q v H
abbrev JA(v:V):AY:=λ_ H Q=>Q v H
def rE{pos:Pos}(hN:X.N[i]?=some x)(hv:K5 X.env.scope x)(hd:(x ==("__debug__" : Str))=false:=by decide)(xC:(x ==("__classdict__" : Str))=false:=by decide):PE X (.Name x pos) (mX i):=by
 show .mk ?_;intro v4 s σ H Q I h;obtain⟨v,e,h⟩:=h;let⟨m,hn,hl⟩:=I.loc;let⟨u,r,l⟩:=hl i x v hN e hv;let fin:Bl X v4 σ Q u s:=Ps2 v H ⟨I,r,h⟩;rcases l with⟨hk,hm⟩|⟨hk,c,hc,sV⟩
 ·show LB (au I.ok.kind hk hn hm fin) hd
 ·rcases hk with hk|hk
  ·show LB (Sf I.ok.kind hk hc sV fin) hd
  ·show LB (wpAny_loadName_free I.ok.kind hk hc sV fin xC) hd
def aab{i j pos}:PE X (.Constant (.int i) j pos) (JA (.int i)):=.mk λ_ _ _ H _ I h=>wpAny_Constant_int ⟨.int i,H,I.tok _,⟨_,rfl⟩,h⟩
def acr{b j pos}:PE X (.Constant (.bool b) j pos) (JA (.bl b)):=.mk λ_ _ _ H _ I h=>Constant_bool ⟨.bl b,H,I,rfl,h⟩
def sW{j pos}:PE X (.Constant .none j pos) (JA .non):=.mk λ_ _ _ H _ I h=>Constant_none ⟨.non,H,I,rfl,h⟩
def oq{x j pos}:PE X (.Constant (.str x) j pos) (JA (.str x)):=.mk λ_ _ _ H _ I h=>Calls.Constant_str ⟨.str x,H,I.tok _,⟨_,rfl⟩,h⟩
abbrev Bs(X:Cx)(x:Str):Prop:=X.env.kindOf x=some .globalImplicit
def Kc{pos:Pos}(I:Inv X v4 σ H s)(hg:Bs X x)(hm:X.mg x=some u)(h:Q u s)
  (hd:(x ==("__debug__" : Str))=false:=by decide):wpAny (model X.prog X.w) X.A (eval (.Name x pos) X.env) Q E s:=
 Calls.Name_function_global I.ok.kind hg (Calls.loadGlobal_global (by rw[I.ok.glob];show I.mod.glob.keeps I.bk) hm h) hd
def Kx{pos:Pos}(I:Inv X v4 σ H s)(hg:Bs X x)(hm:X.mg x=none)(hv:bootBuiltins x=some u)(h:Q u s)
  (hn:x ≠ "__name__" := by decide) (hd:(x ==("__debug__" : Str))=false:=by decide):wpAny (model X.prog X.w) X.A (eval (.Name x pos) X.env) Q E s:=by
 let⟨mb,h1,h2⟩:=I.mod.blt;show Calls.Name_function_global I.ok.kind hg (Calls.loadGlobal_builtin (by rw[I.ok.glob];show I.mod.glob.keeps I.bk) hm (by rw[I.ok.blt];show h1.keeps I.bk) ((h2 x hn).trans hv) h) hd
def oI{pos:Pos}(hg:Bs X x)(hm:X.mg x=some u)(r:RelV v u)(hd:(x ==("__debug__" : Str))=false:=by decide):PE X (.Name x pos) (JA v):=
 .mk λ_ _ _ H _ I h=>Kc I hg hm ⟨v,H,I,r,h⟩ hd
def zd{pos:Pos}(hg:Bs X x)(hm:X.mg x=none)(hv:bootBuiltins x=some u)(r:RelV v u)(hn:x ≠ "__name__" := by decide)(hd:(x ==("__debug__" : Str))=false:=by decide):PE X (.Name x pos) (JA v):=
 .mk λ_ _ _ H _ I h=>Kx I hg hm hv ⟨v,H,I,r,h⟩ hn hd
variable {a b: Expr}
structure PC(X:Cx)(op:CmpOp)(a b:Expr)(t:AY):Prop where
 run:∀v4 s σ H (Q:Ar),Inv X v4 σ H s→t σ H Q→
  wpAny (model X.prog X.w) X.A (eval a X.env) (λv s₁=>wpAny (model X.prog X.w) X.A (eval b X.env) (λu s₂=>wpAny (model X.prog X.w) X.A (compareOp op v u) (Bl X v4 σ Q) X.xe s₂) X.xe s₁) X.xe s
instance {X:Cx}{op:CmpOp}{a b:Expr}{t:AY}:CoeFun (PC X op a b t) λ_=>∀v4 s σ H (Q:Ar),Inv X v4 σ H s→t σ H Q→wpAny (model X.prog X.w) X.A (eval a X.env) (λv s₁=>wpAny (model X.prog X.w) X.A (eval b X.env) (λu s₂=>wpAny (model X.prog X.w) X.A (compareOp op v u) (Bl X v4 σ Q) X.xe s₂) X.xe s₁) X.xe s:=⟨PC.run⟩
abbrev KO(t:AY):Ci:=λσ H Q=>t σ H λx H1=>∃c,x=.bl c∧Q c H1
def yT{t:AY}(h:PE X e t)(he:∀whole,isTrue e X.env whole=(do let v ←whole;standAt e.pos;holding [v] (truthy v)):=by intro _;rfl):PT X e (KO t):=by
 show .mk ?_;intro v4 s σ H Q I hw;show isTrue_plain (AI (h v4 s σ H _ I hw) λv s1 ξ=>Xi23 ξ λx H1 I1 r1 q1=>?_) (he _);let⟨d,rfl,q⟩:=q1;cases r1;show HL ⟨H1,I1,q⟩
variable {tA Q5: Ci}{v6: List Expr}
abbrev zZ(t u:Ci):Ci:=λσ H Q=>t σ H λc H1=>if c=true then u σ H1 Q else Q false H1
abbrev aat(t u:Ci):Ci:=λσ H Q=>t σ H λc H1=>if c=true then Q true H1 else u σ H1 Q
abbrev tH(t:Ci):Ci:=λσ H Q=>t σ H λc H1=>Q (!c) H1
def qN(ha:PT X a tA):PW X (.BoolOp .And [a] pos) tA:=by
 show .mk ?_;intro wh v4 s σ H Q I h;show isTrue_and (AI (ha v4 s σ H Q I h) λc s1 e=>?_);cases c with
 |true=>show isTrue_and_nil e
 |false=>show e
def zM(ha:PT X a tA):PW X (.BoolOp .Or [a] pos) tA:=by
 show .mk ?_;intro wh v4 s σ H Q I h;show isTrue_or (AI (ha v4 s σ H Q I h) λc s1 e=>?_);cases c with
 |false=>show isTrue_or_nil e
 |true=>show e
def aa2(ha:PT X a tA)(hb:PW X (.BoolOp .And (b::v6) pos) Q5):PW X (.BoolOp .And (a::b::v6) pos) (zZ tA Q5):=by
 show .mk ?_;intro wh v4 s σ H Q I h;show isTrue_and (AI (ha v4 s σ H _ I h) λc s1 ξ=>Xi12 ξ λH1 I1 q1=>?_);cases c with
 |true=>show hb wh v4 s1 σ H1 Q I1 q1
 |false=>show⟨H1,I1,q1⟩
def rC(ha:PT X a tA)(hb:PW X (.BoolOp .Or (b::v6) pos) Q5):PW X (.BoolOp .Or (a::b::v6) pos) (aat tA Q5):=by
 show .mk ?_;intro wh v4 s σ H Q I h;show isTrue_or (AI (ha v4 s σ H _ I h) λc s1 ξ=>Xi12 ξ λH1 I1 q1=>?_);cases c with
 |true=>show⟨H1,I1,q1⟩
 |false=>show hb wh v4 s1 σ H1 Q I1 q1
def acA(ha:PT X a tA):PT X (.UnaryOp .Not a pos) (tH tA):=by
 show .mk ?_;intro v4 s σ H Q I h;show isTrue_not (ha v4 s σ H (λc H1=>Q (!c) H1) I h)
abbrev ab4(ta tb:AY):AY:=λσ H Q=>ta σ H λx H1=>∃c,x=.bl c∧if c=true then tb σ H1 Q else Q (.bl false) H1
abbrev ac2(ta tb:AY):AY:=λσ H Q=>ta σ H λx H1=>∃c,x=.bl c∧if c=true then Q (.bl true) H1 else tb σ H1 Q
abbrev yy(ta:AY):AY:=λσ H Q=>ta σ H λx H1=>∃c,x=.bl c∧Q (.bl (!c)) H1
def w5{op}{t:AY}(h:PE X a t):PE X (.BoolOp op [a] pos) t:=.mk λv4 s σ H Q I hw=>BoolOp_one (h v4 s σ H Q I hw)
def qf(ha:PE X a ta)(hb:PE X (.BoolOp .And (b::v6) pos) tb):PE X (.BoolOp .And (a::b::v6) pos) (ab4 ta tb):=by
 show .mk ?_;intro v4 s σ H Q I h;show BoolOp_and (AI (ha v4 s σ H _ I h) λv s1 ξ=>Xi23 ξ λx H1 I1 r1 q1=>?_);obtain⟨c,rfl,q1⟩:=q1;cases r1;show HL ?_;cases c with
 |true=>show hb v4 s1 σ H1 Q I1 q1
 |false=>show Ps2 (.bl false) H1 ⟨I1,rfl,q1⟩
def za(ha:PE X a ta)(hb:PE X (.BoolOp .Or (b::v6) pos) tb):PE X (.BoolOp .Or (a::b::v6) pos) (ac2 ta tb):=by
 show .mk ?_;intro v4 s σ H Q I h;show BoolOp_or (AI (ha v4 s σ H _ I h) λv s1 ξ=>Xi23 ξ λx H1 I1 r1 q1=>?_);obtain⟨c,rfl,q1⟩:=q1;cases r1;show HL ?_;cases c with
 |false=>show hb v4 s1 σ H1 Q I1 q1
 |true=>show Ps2 (.bl true) H1 ⟨I1,rfl,q1⟩
def yO(ha:PE X a ta):PE X (.UnaryOp .Not a pos) (yy ta):=by
 show .mk ?_;intro v4 s σ H Q I h;show UnaryOp_ (AI (ha v4 s σ H _ I h) λv s1 ξ=>Xi23 ξ λx H1 I1 r1 q1=>?_);obtain⟨c,rfl,q1⟩:=q1;cases r1;show not_of (HL ⟨.bl (!c),H1,I1,rfl,q1⟩)
end
abbrev jI(K:W.Frag)(H:A5)(a:Addr)(xs:List V):Prop:=
 Rd H a (.lst xs) ∨
  ∃(o:Obj) (bp:Array Value) (n:Nat),K.lookup a=some o∧o.cls=.type "list" ∧ o.dict=none∧o.data=.seq bp n∧bp.size≤sizeLine∧Vals xs bp.toList
abbrev eP(K:W.Frag)(H:A5)(a:Addr)(xs:List V):Prop:=
 Rd H a (.tup xs) ∨
  ∃(o:Obj) (bp:Array Value) (n:Nat),K.lookup a=some o∧o.cls=.type "tuple" ∧ o.data=.seq bp n∧bp.size≤sizeLine∧Vals xs bp.toList
abbrev acu:Value→Option V
 |.none=>some .non
 |.bool b=>some (.bl b)
 |.int i _=>some (.int i)
 |.str x _=>some (.str x)
 |.bytes b _=>some (.byt b)
 |.float b _=>some (.flt b)
 |.ref a=>some (.ref a)
 |.type n=>some (.ty n)
 |_=>none
def RelV.abs{x:V}(r:RelV x u):acu u=some x:=by
 cases x with
 |non=>cases r;rfl
 |bl _=>cases r;rfl
 |int _=>let⟨t,rfl⟩:=r;rfl
 |str _=>let⟨t,rfl⟩:=r;rfl
 |byt _=>let⟨t,rfl⟩:=r;rfl
 |flt _=>let⟨t,rfl⟩:=r;rfl
 |ref _=>cases r;rfl
 |ty _=>cases r;rfl
def RelV.inj{x:V}(r:RelV x u)(q:RelV y u):x=y:=FJ (r.abs.symm.trans q.abs)
def Vals.inj:∀{xs ys:List V} {us:List Value},Vals xs us→Vals ys us→xs=ys
 |_,_,_,.nil,.nil=>rfl
 |_,_,_,.cons r t,.cons r' t'=>by rw[r.inj r',Vals.inj t t']
section
variable {v4: List (Addr×Obj)}{σ: St}{H: A5}{s: Shared}{a: Addr}{xs ys: List V}
def jI.of(h:H a=some (.lst xs)):jI K H a xs:=.inl (.inl h)
def eP.of(h:H a=some (.tup xs)):eP K H a xs:=.inl (.inl h)
def Inv.list(I:Inv X v4 σ H s)(h:jI X.K H a xs):∃bp:List Value,Vals xs bp∧PlainL s.heap a bp.toArray∧xs.length≤sizeLine:=by
 rcases h with h|⟨o,bp,n,hk,hc,hd,hs,hz,r⟩
 ·let⟨z,⟨bp,n,r,e⟩⟩:=h.ok I.bV
  show⟨bp,r,Ps2 _ n ⟨e,rfl,rfl,rfl⟩,z⟩
 ·show⟨bp.toList,r,Ps2 o n ⟨I.nZ a o hk,hc,hd,by simpa using hs⟩,?_⟩
  let e:=r.length;simp only[SR]at e;lia
def Inv.tuple(I:Inv X v4 σ H s)(h:eP X.K H a xs):∃bp:List Value,Vals xs bp∧IsTup s.heap a bp.toArray∧xs.length≤sizeLine:=by
 rcases h with h|⟨o,bp,n,hk,hc,hs,hz,r⟩
 ·let⟨z,⟨bp,r,p⟩⟩:=h.ok I.bV
  show⟨bp,r,p,z⟩
 ·show⟨bp.toList,r,⟨o,I.nZ a o hk,hc,n,by simpa using hs⟩,?_⟩
  let e:=r.length;simp only[SR]at e;lia
def Inv.EV(I:Inv X v4 σ H s)(h:jI X.K H a xs)(h':jI X.K H a ys):xs=ys:=by
 let⟨bp,r,⟨o,n,e,_,_,d⟩,_⟩:=I.list h;let⟨t3',r',⟨o',n',e',_,_,d'⟩,_⟩:=I.list h';rw[e]at e';cases e';rw[d]at d';injection d' with d1 _
 have:bp=t3':=by simpa using DT Array.toList d1
 subst this;show r.inj r'
def Inv.lI(I:Inv X v4 σ H s)(h:eP X.K H a xs)(h':eP X.K H a ys):xs=ys:=by
 let⟨bp,r,⟨o,e,_,⟨n,d⟩⟩,_⟩:=I.tuple h;let⟨t3',r',⟨o',e',_,⟨n',d'⟩⟩,_⟩:=I.tuple h';rw[e]at e';cases e';rw[d]at d';injection d' with d1 _
 have:bp=t3':=by simpa using DT Array.toList d1
 subst this;show r.inj r'
end
noncomputable abbrev Cx.tZ(X:Cx)(E:xz):Cx:={X with xe:=E}
noncomputable abbrev Cx.iR(X:Cx):Cx:=X.tZ λ_ _=>False
def Cx.Ok.tZ{X:Cx}(ok:X.Ok)(E:xz):(X.tZ E).Ok:=
 ⟨ok.mod,ok.kind,ok.glob,ok.blt,ok.above,ok.inj,ok.has,ok.J8,ok.hd,ok.frames,ok.KI,ok.Gn,ok.bs,ok.F0,ok.xk,ok.qL,ok.lY,ok.Gm⟩
def Cx.Ok.j5{X:Cx}(ok:(X.tZ E).Ok):X.Ok:=
 ⟨ok.mod,ok.kind,ok.glob,ok.blt,ok.above,ok.inj,ok.has,ok.J8,ok.hd,ok.frames,ok.KI,ok.Gn,ok.bs,ok.F0,ok.xk,ok.qL,ok.lY,ok.Gm⟩
section
variable {v4: List (Addr×Obj)}{σ: St}{H: A5}{s: Shared}{E: Value→Shared→Prop}
def Inv.tZ(I:Inv X v4 σ H s)(E:xz):Inv (X.tZ E) v4 σ H s:=⟨I.ok.tZ E,I.os,I.bare,I.base,I.loc,I.cell,I.free,I.iG,I.pin,I.bV,I.len⟩
def Inv.j5(I:Inv (X.tZ E) v4 σ H s):Inv X v4 σ H s:=⟨I.ok.j5,I.os,I.bare,I.base,I.loc,I.cell,I.free,I.iG,I.pin,I.bV,I.len⟩
def SP.j5{D:Ends}{f:Flow}(h:SP (X.tZ E) v4 D f s'):SP X v4 D f s':=by
 cases f with
 |next=>let⟨σ',H',I,q⟩:=h;show Ps2 σ' H' ⟨I.j5,q⟩
 |brk=>let⟨σ',H',I,q⟩:=h;show Ps2 σ' H' ⟨I.j5,q⟩
 |cont=>let⟨σ',H',I,q⟩:=h;show Ps2 σ' H' ⟨I.j5,q⟩
 |ret u=>let⟨v,σ',H',I,r,q⟩:=h;show Ps3 v σ' H' ⟨I.j5,r,q⟩
def mY.iR{st:List Stmt}{t:CM}(h:mY X.iR st t):mY X st t:=.mk λv4 s σ H D I hw=>
 Be (h v4 s σ H D (I.tZ _) hw) (λ_ _ q=>q.j5) λ_ _ z=>False.elim z
end
section
variable {st: Stmt}{v6: List Stmt}{t u: CM}{e: Expr}{te: AY}
abbrev sN:CM:=λD σ H=>D.nx σ H
abbrev zG(t u:CM):CM:=λD σ H=>t {D with nx:=u D} σ H
def mf:mY X [] sN:=.mk λ_ _ σ H _ I h=>wpAny_execs_nil ⟨σ,H,I,h⟩
def aa6(h1:PS X st t)(h2:mY X v6 u):mY X (st::v6) (zG t u):=by
 show .mk ?_;intro v4 s σ H D I h;show wpAny_execs_cons (AI (h1 v4 s σ H {D with nx:=u D} I h) λf s1 q=>?_);cases f with
 |next=>
  obtain⟨σ',H',I',q⟩:=q;show h2 v4 s1 σ' H' D I' q
 |ret v=>show q
 |brk=>show q
 |cont=>show q
def Inv.quiet(I:Inv X v4 σ H s):interactive X.env=false:=by simp[interactive,I.ok.kind]
abbrev sM(te:AY):CM:=λD σ H=>te σ H λ_ H1=>D.nx σ H1
def aaL(he:PE X e te)(hs:swapsWith e none pos.line X.env=pure false:=by rfl):PS X (.Expr e pos) (sM te):=by
 show .mk ?_;intro v4 s σ H D I h;show wpAny_Expr_any (AI (he v4 s σ H _ I h) λv s1 ξ=>Xi23 ξ λx H1 I1 r1 q1=>Ps2 σ H1 ⟨I1,q1⟩) I.quiet hs
abbrev yx(te:AY):CM:=λD σ H=>te σ H D.rt
def ua(he:PE X e te):PS X (.Return (some e) pos) (yx te):=by
 show .mk ?_;intro v4 s σ H D I h;show wpAny_Return_some (AI (he v4 s σ H _ I h) λv s1 ξ=>Xi23 ξ λx H1 I1 r1 q1=>Ps3 x σ H1 ⟨I1,r1,q1⟩)
abbrev wW(c:Ci)(t u:CM):CM:=λD σ H=>c σ H λb H1=>if b=true then t D σ H1 else u D σ H1
def ab3{c:Expr}{a b:List Stmt}{tc:Ci}(hc:PT X c tc)(ha:mY X a t)(hb:mY X b u):PS X (.If c a b pos) (wW tc t u):=by
 show .mk ?_;intro v4 s σ H D I h;show wpAny_If (AI (hc v4 s σ H _ I h) λd s1 ξ=>Xi12 ξ λH1 I1 q1=>?_);cases d with
 |true=>show ha v4 s1 σ H1 D I1 q1
 |false=>show hb v4 s1 σ H1 D I1 q1
end
abbrev DV:=V→St→A5→(St→A5→Prop)→Prop
abbrev HM:=List V→St→A5→(St→A5→Prop)→Prop
structure PG(X:Cx)(target:Expr)(t:DV):Prop where
 run:∀v4 s σ H (v:V) (u:Value) (Q:St→A5→Prop),Inv X v4 σ H s→RelV v u→t v σ H Q→
  wpAny (model X.prog X.w) X.A (assign target X.env u) (λ_ s'=>∃σ' H',Inv X v4 σ' H' s'∧Q σ' H') X.xe s
instance {X:Cx}{target:Expr}{t:DV}:CoeFun (PG X target t) λ_=>∀v4 s σ H (v:V) (u:Value) (Q:St→A5→Prop),Inv X v4 σ H s→RelV v u→t v σ H Q→wpAny (model X.prog X.w) X.A (assign target X.env u) (λ_ s'=>∃σ' H',Inv X v4 σ' H' s'∧Q σ' H') X.xe s:=⟨PG.run⟩
structure Bo(X:Cx)(ts:List Expr)(t:HM):Prop where
 run:∀v4 s σ H (vs:List V) (us:List Value) (Q:St→A5→Prop),Inv X v4 σ H s→Vals vs us→t vs σ H Q→
  wpAny (model X.prog X.w) X.A (assignInOrder ((assignEach ts X.env).map (·.2)) us) (λ_ s'=>∃σ' H',Inv X v4 σ' H' s'∧Q σ' H') X.xe s
instance {X:Cx}{ts:List Expr}{t:HM}:CoeFun (Bo X ts t) λ_=>∀v4 s σ H (vs:List V) (us:List Value) (Q:St→A5→Prop),Inv X v4 σ H s→Vals vs us→t vs σ H Q→wpAny (model X.prog X.w) X.A (assignInOrder ((assignEach ts X.env).map (·.2)) us) (λ_ s'=>∃σ' H',Inv X v4 σ' H' s'∧Q σ' H') X.xe s:=⟨Bo.run⟩
abbrev Yz:=V→V→A5→Ar→Prop
abbrev vq(X:Cx)(op:Operator)(t:Yz):Prop:=
 ∀v4 s σ H (x y:V) (v u:Value) (Q:Ar),Inv X v4 σ H s→RelV x v→RelV y u→t x y H Q→
  wpAny (model X.prog X.w) X.A (inplaceOp op v u) (Bl X v4 σ Q) X.xe s
section
abbrev hX(i:Nat):DV:=λv σ H Q=>Q (σ.set i (some v)) H
def abR(hN:X.N.Nodup)(hi:X.N[i]?=some x)(hx:HN X.env.scope x)(hf:Fk X x:=by first|show .inl rfl|show .inr rfl|assumption):PG X (.Name x pos) (hX i):=by
 show .mk ?_;intro v4 s σ H v u Q I r h;show wpAny_assign_Name (Xn I hN hi hx r (λs' I'=>Ps2 _ H ⟨I',h⟩) hf)
abbrev acJ:HM:=λvs σ H Q=>vs=[]∧Q σ H
abbrev rg(t:DV)(u:HM):HM:=λvs σ H Q=>∃v r,vs=v::r∧t v σ H λσ' H'=>u r σ' H' Q
def yE:Bo X [] acJ:=by
 show .mk ?_;intro v4 s σ H vs us Q I r h;obtain⟨e,h⟩:=h;subst e;cases r;show assignInOrder_nil ⟨σ,H,I,h⟩
def uM{es:List Expr}{t:DV}{u:HM}(h1:PG X e t)(h2:Bo X es u)
  (hs:(assignEach (e::es) X.env).map (·.2)=assign e X.env::(assignEach es X.env).map (·.2):=by rfl):Bo X (e::es) (rg t u):=by
 show .mk ?_;intro v4 s σ H vs us Q I r h;obtain⟨v,vr,e1,h⟩:=h;subst e1;cases r with
 |cons r rr=>
  rw[hs];show assignInOrder_cons (AI (h1 v4 s σ H _ _ _ I r h) λ_ s1 ξ=>Xi22 ξ λσ1 H1 I1 q1=>?_);show h2 v4 s1 σ1 H1 _ _ Q I1 rr q1
abbrev uu(K:W.Frag)(n:Nat)(t:HM):DV:=λv σ H Q=>∃a xs,v=.ref a∧eP K H a xs∧xs.length=n∧t xs σ H Q
def abT{es:List Expr}{t:HM}(hc:X.calm=true)(h:Bo X es t)
  (hn:(assignEach es X.env).length=n:=by rfl) (ym:(assignEach es X.env).findIdx? (·.1)=none:=by rfl):PG X (.Tuple es k pos) (uu X.K n t):=by
 show .mk ?_;intro v4 s σ H v u Q I r hw;obtain⟨a,xs,e1,hq,hl,hw⟩:=hw;subst e1;cases r;let⟨bp,rv,ht,hz⟩:=I.tuple hq;show assign_Tuple_tuple (I.ok.hd hc) ht (by simp[hn,←hl,rv.length]) ym λh' hx=>?_;let I1:Inv X v4 σ H {s with heap:=h'}:=I.kept (t':=s.toks) λb o e=>hx b o (BO (B3 e)) e;show h v4 _ σ H xs _ Q I1 (by simpa using rv) hw
abbrev SO(te:AY)(g:DV):CM:=λD σ H=>te σ H λx H1=>g x σ H1 D.nx
def rQ{g:DV}(he:PE X e te)(hg:PG X tg g)(hs:swapsWithSole [tg] e pos.line X.env=pure false:=by rfl)(hw:swappedStores [tg] e X.env=pure none:=by rfl)
  (h1:(assignEach [tg] X.env).map (·.2)=[assign tg X.env]:=by rfl):PS X (.Assign [tg] e pos) (SO te g):=by
 show .mk ?_;intro v4 s σ H D I h;show wpAny_Assign_stores (AI (he v4 s σ H _ I h) λv s1 ξ=>Xi23 ξ λx H1 I1 r1 q1=>?_) hs hw;rw[h1];show AI (hg v4 s1 σ H1 x v _ I1 r1 q1) λ_ s2 q=>q
def zf(hN:X.N.Nodup)(hi:X.N[i]?=some x)(hx:HN X.env.scope x)(he:PE X e te)(hs:swapsWith e (some (.Name x pos')) pos.line X.env=pure false:=by rfl)(hf:Fk X x:=by first|show .inl rfl|show .inr rfl|assumption):
  PS X (.Assign [.Name x pos'] e pos) (SO te (hX i)):=by
 show .mk ?_;intro v4 s σ H D I h;show wpAny_Assign_Name (AI (he v4 s σ H _ I h) λv s1 ξ=>Xi23 ξ λy H1 I1 r1 q1=>?_) hs;show Xn I1 hN hi hx r1 (λs2 I2=>Ps2 _ H1 ⟨I2,q1⟩) hf
abbrev FzT(i:Nat)(te:AY)(ti:Yz):CM:=λD σ H=>∃x,σ[i]?=some (some x)∧te σ H λy H1=>ti x y H1 λz H2=>D.nx (σ.set i (some z)) H2
def abx{op:Operator}{ti:Yz}(hN:X.N.Nodup)(hi:X.N[i]?=some x)(hx:HN X.env.scope x)(he:PE X e te)(ho:vq X op ti)(hf:Fk X x:=by first|show .inl rfl|show .inr rfl|assumption):
  PS X (.AugAssign (.Name x pos') op e pos) (FzT i te ti):=by
 show .mk ?_;intro v4 s σ H D I h;obtain⟨v,e1,h⟩:=h;let⟨m,hn,hl⟩:=I.loc;have Xd:K5 X.env.scope x:=by rcases hx with k|k;show .inl k;show .inr (.inl k)
 let⟨u,r,l⟩:=hl i x v hi e1 Xd;show wpAny_AugAssign_Name ?_;let go:wpAny (model X.prog X.w) X.A (eval e X.env) (λw s₂=>wpAny (model X.prog X.w) X.A (inplaceOp op u w) (λr s₃=>wpAny (model X.prog X.w) X.A (storeName X.env x r) (λ_=>SP X v4 D .next) X.xe s₃) X.xe s₂) X.xe s:=by
  show AI (he v4 s σ H _ I h) λw s1 ξ=>Xi23 ξ λy H1 I1 r1 q1=>?_;show AI (ho v4 s1 σ H1 v y u w _ I1 r r1 q1) λz s2 ξ=>Xi23 ξ λzv H2 I2 r2 q2=>?_;show Xn I2 hN hi hx r2 (λs3 I3=>Ps2 _ H2 ⟨I3,q2⟩) hf
 rcases l with⟨hk,hm⟩|⟨hk,c,hc,sV⟩
 ·show au I.ok.kind hk hn hm go
 ·rcases hk with hk|hk
  ·show Sf I.ok.kind hk hc sV go
  ·rcases hx with k|k
   ·have:X.env.scope.names.lookup x=some .free:=hk
    rw[k]at this;cases this
   ·have:X.env.scope.names.lookup x=some .free:=hk
    rw[k]at this;cases this
end
structure FX where
 go:Nat→A5→Prop
 qR:Nat→A5→V→A5→Prop
 stop:Nat→A5→Prop
abbrev DP(X:Cx)(v4:ac)(H:A5)(b:Addr):Prop:=
 H b=none∧b≠X.env.locals∧b∉X.fs∧(b∈X.ex∨X.s₀.heap.objs.size≤b)∧(∀x c,X.env.cells.lookup x=some c→c≠b)∧∀p∈X.pn++v4,p.1≠b
def Inv.zO{X:Cx}{H':A5}(I:Inv X v4 σ H s)(hb:s.heap.objs.size≤b)(hn:H' b=none):DP X v4 H' b:=by
 show⟨hn,Ma (EO I.lt hb),I.S4 hb,.inr (D6 I.sz hb),λx c e z=>?_,λp hp z=>?_⟩
 ·let⟨v,q⟩:=I.cell x c e
  show absurd (EO q.lt (by rw[z];show hb)) (GG _)
 ·show absurd (EO (B3 (I.pin p hp).1) (by rw[z];show hb)) (GG _)
structure Turn(P:Program)(w:World)(K:W.Frag)(tg:Expr)(J:FX)(fp:List Addr)(it:Addr)(tn:Nat→Heap→Prop):Prop where
 mem:it∈fp
 obj:∀i h,tn i h→∀b∈fp,∃o,h.get? b=some o∧∀v,o.data≠.cell v
 keep:∀i h h',tn i h→(∀b∈fp,∀o,h.get? b=some o→h'.get? b=some o)→tn i h'
 item:∀(X:Cx),X.prog=P→X.w=w→X.K=K→X.calm=true→∀(i:Nat) v4 s σ H (E:xz),Inv X v4 σ H s→(∀b∈fp,DP X v4 H b)→tn i s.heap→J.go i H→
  wpAny (model P w) X.A (pyNext (.ref it)) (λr s1=>∃u,r=some u∧
   wpAny (model P w) X.A (letOwnedTupleGo tg (.ref it) u) (λ_ s2=>∃x H',Inv X v4 σ H' s2∧RelV x u∧J.qR i H x H'∧tn (i+1) s2.heap∧∀b∈fp,H' b=none) E s1) E s
 done:∀(X:Cx),X.prog=P→X.w=w→X.K=K→X.calm=true→∀(i:Nat) v4 s σ H (E:xz),Inv X v4 σ H s→(∀b∈fp,DP X v4 H b)→tn i s.heap→J.stop i H→
  wpAny (model P w) X.A (pyNext (.ref it)) (λr s1=>r=none∧Inv X v4 σ H s1) E s
 self:∀(A:Around) (i:Nat) (s:Shared) (Q:xz) (E:xz),tn i s.heap→Q (.ref it) s→wpAny (model P w) A (pyIter (.ref it)) Q E s
abbrev DW:=St→A5→(FX→A5→Prop)→Prop
abbrev Ob(X:Cx)(v4:ac)(σ:St)(tg:Expr)(R:FX→A5→Prop)(JS:Value)(s2:Shared):Prop:=
 ∃(it:Addr) (fp:List Addr) (tn:Nat→Heap→Prop) (J:FX) (H':A5),JS=.ref it∧Inv X v4 σ H' s2∧Turn X.prog X.w X.K tg J fp it tn∧tn 0 s2.heap∧(∀b∈fp,DP X v4 H' b)∧R J H'
structure PI(X:Cx)(tg iter:Expr)(wi:DW):Prop where
 run:∀v4 s σ H (R:FX→A5→Prop),Inv X v4 σ H s→wi σ H R→
  wpAny (model X.prog X.w) X.A (eval iter X.env) (λv s1=>wpAny (model X.prog X.w) X.A (pyIter v) (Ob X v4 σ tg R) X.xe s1) X.xe s
instance {X:Cx}{tg iter:Expr}{wi:DW}:CoeFun (PI X tg iter wi) λ_=>∀v4 s σ H (R:FX→A5→Prop),Inv X v4 σ H s→wi σ H R→wpAny (model X.prog X.w) X.A (eval iter X.env) (λv s1=>wpAny (model X.prog X.w) X.A (pyIter v) (Ob X v4 σ tg R) X.xe s1) X.xe s:=⟨PI.run⟩
def OL{o:Obj}{n:String}{vs:Array Value}{Q:Unit→Shared→Prop}(ho:s.heap.get? it=some o)(hc:o.cls=.type n)(hd:o.data=.fields vs)
    (hn:["enumerate","zip","dict_itemiterator","dict_reverseitemiterator","odict_iterator","itertools.zip_longest","itertools.pairwise"].contains n=false) (hQ:Q () s):wpAny M A (letOwnedTupleGo tg (.ref it) u) Q E s:=by
  unfold letOwnedTupleGo;cases tg<;>first
    |show AQ hQ
    | (cases u<;>first
        |show AQ hQ
        | (show A9 (wpAny_load ho ?_)
           rw[hc,hd];show wpAny M A (if(["enumerate","zip","dict_itemiterator","dict_reverseitemiterator","odict_iterator","itertools.zip_longest","itertools.pairwise"].contains n&&vs[0]? == some (rawInt _))=true then _ else _) Q E s
           rw[AL (by intro h;rw[hn,Dj]at h;cases h)];show AQ hQ))
abbrev Qs(K:W.Frag)(a:Addr):FX:=
 ⟨λi H=>∃xs x,jI K H a xs∧xs[i]?=some x,λi H x H'=>H'=H∧∀xs,jI K H a xs→xs[i]?=some x,λi H=>∃xs,jI K H a xs∧xs.length≤i⟩
abbrev X3(K:W.Frag)(a:Addr):FX:=
 ⟨λi H=>∃xs x,eP K H a xs∧xs[i]?=some x,λi H x H'=>H'=H∧∀xs,eP K H a xs→xs[i]?=some x,λi H=>∃xs,eP K H a xs∧xs.length≤i⟩
abbrev Oh(lo:Int)(n:Nat):FX:=⟨λi _=>i<n,λi H x H'=>H'=H∧x=.int (lo+i),λi _=>n≤i⟩
def pJ(a it:Addr):Turn P w K tg (Qs K a) [it] it (λi h=>h.IsListIter it a i) where
 mem:=by simp
 obj:=λi h st b hb=>by
  let e:b=it:=by simpa using hb
  subst e;let⟨o,e,c,d⟩:=st;show⟨o,e,λv z=>by rw[d]at z;cases z⟩
 keep:=λi h h' st k=>st.at λo e=>k it (by simp) o e
 item:=by
  intro X hP hw hK hc i v4 s σ H E I hf st hg;subst hP hw hK;let⟨xs,x,hq,hx⟩:=hg;let⟨bp,rv,p,hz⟩:=I.list hq;let⟨u,hu,ru⟩:=rv.get hx;let⟨f0,f1,f2,f3,f4,f5⟩:=hf it (by simp);show wpAny_pyNext_list_item st p.isList (x:=u) (by simpa using hu) λh' Du sb=>?_;let I1:Inv X v4 σ H {s with heap:=h'}:=I.turned (t':=s.toks) (λb o hb e=>(sb.2 b hb).trans e) f0 f1 f3 f4 f5;let⟨o,e,c,d⟩:=id Du;show⟨u,rfl,OL (s:={s with heap:=h'}) e c d (by decide) ⟨x,H,I1,ru,⟨rfl,λys hy=>by rw[I.EV hy hq];show hx⟩,Du,λb hb=>(hf b hb).1⟩⟩
 done:=by
  intro X hP hw hK hc i v4 s σ H E I hf st hg;subst hP hw hK;let⟨xs,hq,hx⟩:=hg;let⟨bp,rv,p,hz⟩:=I.list hq;let⟨f0,f1,f2,f3,f4,f5⟩:=hf it (by simp);let hl:=rv.length;show wpAny_pyNext_list_end (I.ok.hd hc) st p.isList (by simp;lia) λh' eb=>⟨rfl,I.turned (t':=s.toks) (λb o hb e=>eb b o hb e) f0 f1 f3 f4 f5⟩
 self:=λ_ _ _ _ _ st h=>wpAny_pyIter_listiter st h
def adf(a it:Addr):Turn P w K tg (X3 K a) [it] it (λi h=>h.IsTupleIter it a i) where
 mem:=by simp
 obj:=λi h st b hb=>by
  let e:b=it:=by simpa using hb
  subst e;let⟨o,e,c,d⟩:=st;show⟨o,e,λv z=>by rw[d]at z;cases z⟩
 keep:=λi h h' st k=>st.at λo e=>k it (by simp) o e
 item:=by
  intro X hP hw hK hc i v4 s σ H E I hf st hg;subst hP hw hK;let⟨xs,x,hq,hx⟩:=hg;let⟨bp,rv,p,hz⟩:=I.tuple hq;let⟨u,hu,ru⟩:=rv.get hx;let⟨f0,f1,f2,f3,f4,f5⟩:=hf it (by simp);show wpAny_pyNext_tuple_item st (show s.heap.IsTuple a bp.toArray from p) (x:=u) (by simpa using hu) λh' Du sb=>?_;let I1:Inv X v4 σ H {s with heap:=h'}:=I.turned (t':=s.toks) (λb o hb e=>(sb.2 b hb).trans e) f0 f1 f3 f4 f5;let⟨o,e,c,d⟩:=id Du;show⟨u,rfl,OL (s:={s with heap:=h'}) e c d (by decide) ⟨x,H,I1,ru,⟨rfl,λys hy=>by rw[I.lI hy hq];show hx⟩,Du,λb hb=>(hf b hb).1⟩⟩
 done:=by
  intro X hP hw hK hc i v4 s σ H E I hf st hg;subst hP hw hK;let⟨xs,hq,hx⟩:=hg;let⟨bp,rv,p,hz⟩:=I.tuple hq;let⟨f0,f1,f2,f3,f4,f5⟩:=hf it (by simp);let hl:=rv.length;show wpAny_pyNext_tuple_end (I.ok.hd hc) st (show s.heap.IsTuple a bp.toArray from p) (by simp;lia) λh' eb=>⟨rfl,I.turned (t':=s.toks) (λb o hb e=>eb b o hb e) f0 f1 f3 f4 f5⟩
 self:=λ_ _ _ _ _ st h=>wpAny_pyIter_tupleiter st h
def aae(it:Addr)(lo:Int)(n:Nat):Turn P w K tg (Oh lo n) [it] it (λi h=>IsRangeIter h it (lo+(i:Nat)*1) ((n:Int)-(i:Nat)) 1) where
 mem:=by simp
 obj:=λi h st b hb=>by
  let e:b=it:=by simpa using hb
  subst e;show⟨_,st,λv z=>by
   let z':Data.fields _=Data.cell v:=z;cases z'⟩
 keep:=λi h h' st k=>k it (by simp) _ st
 item:=by
  intro X hP hw hK hc i v4 s σ H E I hf st hg;subst hP hw hK;let⟨f0,f1,f2,f3,f4,f5⟩:=hf it (by simp);let W:=Walks.range (prog:=X.prog) (w:=X.w) (I.ok.hd hc) it lo 1 n;show W.item i s _ _ hg st λv h' tk hv Du kk=>?_;let⟨t,rfl⟩:=hv;let I1:Inv X v4 σ H {s with heap:=h',toks:=tk}:=I.turned (λb o hb e=>kk b o (by simpa using hb) e) f0 f1 f3 f4 f5;show⟨_,rfl,OL (s:={s with heap:=h',toks:=tk}) (n := "range_iterator") Du rfl rfl (by decide) ⟨.int (lo+i),H,I1,⟨t,?_⟩,⟨rfl,rfl⟩,Du,λb hb=>(hf b hb).1⟩⟩;rw[Int.mul_one]
 done:=by
  intro X hP hw hK hc i v4 s σ H E I hf st hg;subst hP hw hK;let⟨f0,f1,f2,f3,f4,f5⟩:=hf it (by simp);show wpAny_pyNext_range_end (I.ok.hd hc) st (by have:n≤i:=hg;lia) λh' eb=>⟨rfl,I.turned (t':=s.toks) (λb o hb e=>eb b o hb e) f0 f1 f3 f4 f5⟩
 self:=λ_ _ _ _ _ st h=>wpAny_pyIter_rangeiter st h
section
variable {tg: Expr}
abbrev acB(K:W.Frag)(tl:AY):DW:=λσ H R=>tl σ H λx H1=>∃a,x=.ref a∧(∃xs,jI K H1 a xs)∧R (Qs K a) H1
abbrev pv(K:W.Frag)(tl:AY):DW:=λσ H R=>tl σ H λx H1=>∃a,x=.ref a∧(∃xs,eP K H1 a xs)∧R (X3 K a) H1
def ac1(hl:PE X l tl):PI X tg l (acB X.K tl):=by
 show .mk ?_;intro v4 s σ H R I h;show AI (hl v4 s σ H _ I h) λv s1 ξ=>Xi23 ξ λx H1 I1 r1 q1=>?_;let⟨a,e,⟨xs,hq⟩,q⟩:=q1;subst e;cases r1;let⟨bp,rv,p,hz⟩:=I1.list hq;show QV p.isList ?_;show Ps5 s1.heap.objs.size [s1.heap.objs.size] _ _ H1 ⟨rfl,I1.kept (t':=s1.toks) λb o e=>B1 _ e,pJ a _,⟨_,D8 _ rfl,rfl,rfl⟩,λb hb=>?_,q⟩;let e:b=s1.heap.objs.size:=by simpa using hb
 subst e;show I1.zO (Ap _) (I1.bV.fresh (Ap _))
def we(hl:PE X l tl):PI X tg l (pv X.K tl):=by
 show .mk ?_;intro v4 s σ H R I h;show AI (hl v4 s σ H _ I h) λv s1 ξ=>Xi23 ξ λx H1 I1 r1 q1=>?_;let⟨a,e,⟨xs,hq⟩,q⟩:=q1;subst e;cases r1;let⟨bp,rv,p,hz⟩:=I1.tuple hq;show Ka (show s1.heap.IsTuple a bp.toArray from p) ?_;show Ps5 s1.heap.objs.size [s1.heap.objs.size] _ _ H1 ⟨rfl,I1.kept (t':=s1.toks) λb o e=>B1 _ e,adf a _,⟨_,D8 _ rfl,rfl,rfl⟩,λb hb=>?_,q⟩;let e:b=s1.heap.objs.size:=by simpa using hb
 subst e;show I1.zO (Ap _) (I1.bV.fresh (Ap _))
def mP{R:FX→A5→Prop}{lo hi:Int}{t u v:Tok}{tk:Nat}(I:Inv X v4 σ H s)(h1:-(2^62)≤lo)(h2:lo<2^62)(h3:-(2^62)≤hi)(h4:hi<2^62)
  (q:R (Oh lo (hi-lo).toNat) H):wpAny (model X.prog X.w) X.A (pyIter (.ref s.heap.objs.size)) (Ob X v4 σ tg R) E {s with heap:=s.heap.push {cls:=.type "range",data:=.fields #[.int lo t,.int hi u,.int 1 v]},toks:=tk}:=by
 show wpAny_pyIter_range (IsRange.new ..) (small_one h1 h2 h3 h4) ?_;let I1:Inv X v4 σ H {s with heap:=s.heap.push {cls:=.type "range",data:=.fields #[.int lo t,.int hi u,.int 1 v]},toks:=tk}:=I.kept λb o e=>B1 _ e;show Ps5 ((s.heap.push {cls:=.type "range",data:=.fields #[.int lo t,.int hi u,.int 1 v]}).objs.size) ([(s.heap.push {cls:=.type "range",data:=.fields #[.int lo t,.int hi u,.int 1 v]}).objs.size]) _ _ H ⟨rfl,
  I1.kept (t':=tk) λb o e=>B1 _ e,aae _ lo (hi-lo).toNat,?_,λb hb=>?_,q⟩
 ·let e1:lo+((0:Nat):Int)*1=lo:=by simp
  let e2:(((hi-lo).toNat:Nat):Int)-((0:Nat):Int)=Builtin.Range.rangeSize lo hi 1:=by rw[rangeSize_one];split<;>lia
  show IsRangeIter _ _ (lo+((0:Nat):Int)*1) ((((hi-lo).toNat:Nat):Int)-((0:Nat):Int)) 1
  rw[e1,e2];show D8 _ rfl
 ·let e:b=(s.heap.push {cls:=.type "range",data:=.fields #[.int lo t,.int hi u,.int 1 v]}).objs.size:=by simpa using hb
  subst e;show I1.zO (Ap _) (I1.bV.fresh (Ap _))
abbrev adC(ta:CY):DW:=λσ H R=>ta σ H λvs H1=>∃j:Int,vs=[.int j]∧-(2^62)≤j∧j<2^62∧R (Oh 0 j.toNat) H1
def xa{a:Expr}{ta:CY}{p pos:Pos}(hg:Bs X "range")(hm:X.mg "range" = none)(ha:PA X [a] ta)(hs:starEach [a] X.env=[(false,eval a X.env)]:=by rfl):PI X tg (.Call (.Name "range" p) [a] [] pos) (adC ta):=by
 show .mk ?_;intro v4 s σ H R I h;show Call_ (Kx I hg hm boot_range (Np (AI (ha pos v4 s σ H _ I h) λus s1 ξ=>Xi23 ξ λvs H1 I1 r1 q1=>?_) hs rfl));obtain⟨j,e,q1,q2,q⟩:=q1;subst e;cases r1 with
 |cons r rr=>
  cases rr;let⟨t,rfl⟩:=r;show call_range_1 (mP I1 (by lia) (by lia) q1 q2 (by simpa using q))
abbrev vf(wi:DW)(g:DV)(tb:CM):CM:=λD σ H=>wi σ H λJ H1=>∃W:Nat→Nat→St→A5→Prop,(∃m,W 0 m σ H1)∧∀i m σ H,W i m σ H→
 (J.stop i H∧D.nx σ H)∨(J.go i H∧∃N:St→A5→Prop,(∀σ' H',N σ' H'→∃m',m' < m∧W (i+1) m' σ' H')∧∀x H',J.qR i H x H'→g x σ H' λσ2 H2=>tb {D with nx:=N,ct:=N,bk:=D.nx} σ2 H2)
abbrev Hs(fp:List Addr)(h:Heap):ac:=fp.filterMap λb=>(h.get? b).map λo=>(b,o)
def GP{o:Obj}(hb:b∈fp)(e:h.get? b=some o):(b,o)∈Hs fp h:=abV.mpr ⟨b,hb,by rw[e];rfl⟩
def aci{p:Addr×Obj}(hp:p∈Hs fp h):p.1∈fp∧h.get? p.1=some p.2:=by
 let⟨b,hb,e⟩:=abV.mp hp;cases q:h.get? b with
 |none=>rw[q]at e;cases e
 |some o=>
  rw[q]at e;let e':(b,o)=p:=FJ e;subst e';show⟨hb,q⟩
def Inv.pinned(I:Inv X v4 σ H s)(hf:∀b∈fp,DP X v4 H b)(ho:∀b∈fp,∃o,s.heap.get? b=some o∧∀v,o.data≠.cell v):Inv X (v4++Hs fp s.heap) σ H s:=
 I.AA λp hp=>(aav.mp hp).elim (λz=>I.pin p (CQ _ z)) λz=>by
  let⟨hb,e⟩:=aci z;let⟨f0,f1,f2,_⟩:=hf p.1 hb;let⟨o,e',d⟩:=ho p.1 hb;rw[e]at e';cases e';show⟨e,f0,f1,f2,d⟩
def Inv.gJ{pl:ac}(I:Inv X (v4++pl) σ H s):Inv X v4 σ H s:=I.AA λp hp=>I.pin p (CQ _ (G4 _ hp))
def adE{iter:Expr}{wi:DW}{g:DV}{tb:CM}{pos:Pos}(hp:PassesOwn (model X.prog X.w) X.A X.env X.xe)(hc:X.calm=true)(hi:PI X tg iter wi)(hg:PG X tg g)(hb:mY X body tb)
  (hs:∀x,foldedSetIterable iter X.env x=pure x:=by intro _;rfl):PS X (.For tg iter body [] pos) (vf wi g tb):=by
 show .mk ?_;intro v4 s σ H D I h;show wpAny_For (AI (hi v4 s σ H _ I h) λv s1 h1=>AI h1 λJS s2 h2=>?_) hs;let⟨it,fp,tn,J,H2,e,I2,T,oO,f2,⟨W,⟨m0,w0⟩,turn⟩⟩:=h2;subst e
 -- RV stays true of wM Mp objects through wM loop
 let KJ:∀{H':A5},(∀b∈fp,H' b=none)→∀b∈fp,DP X v4 H' b:=λhn b hb=>⟨hn b hb,(f2 b hb).2⟩;show codeAny_forLoop_any (λn s'=>∃i σ' H',Inv X v4 σ' H' s'∧tn i s'.heap∧(∀b∈fp,H' b=none)∧W i n σ' H') ?_ m0 ⟨0,σ,H2,I2,oO,λb hb=>(f2 b hb).1,w0⟩;intro n s3⟨i,σ3,H3,I3,wN,xI,w3⟩;rcases turn i n σ3 H3 w3 with⟨stop,qn⟩|⟨go,N,hN,step⟩
 ·show Lp hp (AI (T.done X rfl rfl rfl hc i v4 s3 σ3 H3 X.xe I3 (KJ xI) wN stop) λr s4 ξ=>Xi02 ξ λhr I4=>?_)
  subst hr;show wpAny_execs_nil ⟨σ3,H3,I4,qn⟩
 ·show Lp hp (AI (T.item X rfl rfl rfl hc i v4 s3 σ3 H3 X.xe I3 (KJ xI) wN go) λr s4 ξ=>Xi12 ξ λu hr h4=>?_)
  subst hr;show Lp hp (AI h4 λ_ s5 ξ=>Xi25 ξ λx H5 I5 r5 y5 rK Fu=>?_);let Gb:=I5.pinned (KJ Fu) (T.obj _ _ rK);show Lp hp (AI (hg _ s5 σ3 H5 x u _ Gb r5 (step x H5 y5)) λ_ s6 ξ=>Xi22 ξ λσ6 H6 I6 q6=>?_);show Lp hp (AI (hb _ s6 σ6 H6 _ I6 q6) λf s7 q7=>?_);let again:∀{σ7:St} {H7:A5},Inv X (v4++Hs fp s5.heap) σ7 H7 s7→N σ7 H7→∃m,m<n∧∃i σ' H',Inv X v4 σ' H' s7∧tn i s7.heap∧(∀b∈fp,H' b=none)∧W i m σ' H':=λ{σ7 H7} I7 n7=>by
   let⟨m',hm,w7⟩:=hN σ7 H7 n7;show⟨m',hm,i+1,σ7,H7,I7.gJ,T.keep _ _ _ rK λb hb o e=>(I7.pin (b,o) (CQ _ (CQ _ (GP hb e)))).1,λb hb=>?_,w7⟩;let⟨o,e,d⟩:=T.obj _ _ rK b hb;show(I7.pin (b,o) (CQ _ (CQ _ (GP hb e)))).2.1
  cases f with
  |next=>let⟨σ7,H7,I7,n7⟩:=q7;show again I7 n7
  |cont=>let⟨σ7,H7,I7,n7⟩:=q7;show again I7 n7
  |brk=>obtain⟨σ7,H7,I7,q7⟩:=q7;show Ps2 σ7 H7 ⟨I7.gJ,q7⟩
  |ret v=>obtain⟨x7,σ7,H7,I7,r7,q7⟩:=q7;show Ps3 x7 σ7 H7 ⟨I7.gJ,r7,q7⟩
end
abbrev EA:=V→V→A5→Ar→Prop
abbrev iL(X:Cx)(f:Value→Value→Sem Value)(r:EA):Prop:=
 ∀v4 s σ H (x y:V) (v u:Value) (Q:Ar),Inv X v4 σ H s→RelV x v→RelV y u→r x y H Q→
  wpAny (model X.prog X.w) X.A (f v u) (Bl X v4 σ Q) X.xe s
abbrev SJ(X:Cx)(f:Value→Sem Value)(r:V→A5→Ar→Prop):Prop:=
 ∀v4 s σ H (x:V) (v:Value) (Q:Ar),Inv X v4 σ H s→RelV x v→r x H Q→
  wpAny (model X.prog X.w) X.A (f v) (Bl X v4 σ Q) X.xe s
abbrev Fb(X:Cx)(f:Value)(r:List V→A5→Ar→Prop):Prop:=
 ∀v4 s σ H (xs:List V) (us:List Value) (Q:Ar),Inv X v4 σ H s→Vals xs us→r xs H Q→
  wpAny (model X.prog X.w) X.A (call f us) (Bl X v4 σ Q) X.xe s
abbrev pq(X:Cx)(r:V→A5→(Bool→A5→Prop)→Prop):Prop:=
 ∀v4 s σ H (x:V) (v:Value) (Q:Bool→A5→Prop),Inv X v4 σ H s→RelV x v→r x H Q→
  wpAny (model X.prog X.w) X.A (truthy v) (K8 X v4 σ Q) X.xe s
abbrev Md(r:EA)(ta tb:AY):AY:=λσ H Q=>ta σ H λx H1=>tb σ H1 λy H2=>r x y H2 Q
abbrev Key(r:V→A5→Ar→Prop)(ta:AY):AY:=λσ H Q=>ta σ H λx H1=>r x H1 Q
abbrev Jz(C:Int→Int→Prop)(g:Int→Int→V):EA:=λx y H Q=>∃i j,x=.int i∧y=.int j∧C i j∧Q (g i j) H
abbrev IZ(g:Int→Int→V):EA:=λx y H Q=>∃i j,x=.int i∧y=.int j∧Q (g i j) H
abbrev eV(g:Int→V):V→A5→Ar→Prop:=λx H Q=>∃i,x=.int i∧Q (g i) H
section
variable {a b: Expr}
def Ur(ha:PE X a ta)(hb:PE X b tb){R:V→V→A5→Prop}(I:Inv X v4 σ H s)
  (h:ta σ H λx H1=>tb σ H1 λy H2=>R x y H2)  
  (hf:∀v u s2 x y H2,Inv X v4 σ H2 s2→RelV x v→RelV y u→R x y H2→wpAny (model X.prog X.w) X.A (f v u) Q X.xe s2) :
  wpAny (model X.prog X.w) X.A (eval a X.env) (λv s₁=>wpAny (model X.prog X.w) X.A (eval b X.env) (λu s₂=>wpAny (model X.prog X.w) X.A (f v u) Q X.xe s₂) X.xe s₁) X.xe s:=by
 show AI (ha v4 s σ H _ I h) λv s1 ξ=>Xi23 ξ λx H1 I1 r1 q1=>?_;show AI (hb v4 s1 σ H1 _ I1 q1) λu s2 ξ=>Xi23 ξ λy H2 I2 r2 q2=>?_;show hf v u s2 x y H2 I2 r1 r2 q2
def sA{op:Operator}(ho:iL X (binaryOp op) r)(ha:PE X a ta)(hb:PE X b tb):PE X (.BinOp a op b pos) (Md r ta tb):=by
 show .mk ?_;intro v4 s σ H Q I h;show wpAny_BinOp (Ur ha hb I h λv u s2 x y H2 I2 rx ry q=>ho v4 s2 σ H2 x y v u Q I2 rx ry q)
def sG{op:UnaryOp}{r:V→A5→Ar→Prop}(ho:SJ X (unaryOp op) r)(ha:PE X a ta):PE X (.UnaryOp op a pos) (Key r ta):=by
 show .mk ?_;intro v4 s σ H Q I h;show UnaryOp_ (AI (ha v4 s σ H _ I h) λv s1 ξ=>Xi23 ξ λx H1 I1 r1 q1=>ho v4 s1 σ H1 x v Q I1 r1 q1)
def Lg{C:Int→Int→Prop}
  (rule:∀(i j:Int) (t u:Tok) (s:Shared) (Q:xz) (E:xz),C i j→Q (.int (g i j) s.toks) {s with toks:=s.toks+1}→wpAny (model X.prog X.w) X.A (f (.int i t) (.int j u)) Q E s) :
  iL X f (Jz C λi j=>.int (g i j)):=by
 intro v4 s σ H x y v u Q I rx ry h;let⟨i,j,rfl,rfl,hc,q⟩:=h;let⟨t,rfl⟩:=rx;let⟨t',rfl⟩:=ry;show rule i j t t' s _ _ hc ⟨.int (g i j),H,I.tok _,⟨_,rfl⟩,q⟩
def gE
  (rule:∀(i j:Int) (t u:Tok) (s:Shared) (Q:xz) (E:xz),Q (.int (g i j) s.toks) {s with toks:=s.toks+1}→wpAny (model X.prog X.w) X.A (f (.int i t) (.int j u)) Q E s) :
  iL X f (IZ λi j=>.int (g i j)):=by
 intro v4 s σ H x y v u Q I rx ry h;let⟨i,j,rfl,rfl,q⟩:=h;let⟨t,rfl⟩:=rx;let⟨t',rfl⟩:=ry;show rule i j t t' s _ _ ⟨.int (g i j),H,I.tok _,⟨_,rfl⟩,q⟩
def XK{g:Int→Int→Bool}
  (rule:∀(i j:Int) (t u:Tok) (s:Shared) (Q:xz) (E:xz),Q (.bool (g i j)) s→wpAny (model X.prog X.w) X.A (f (.int i t) (.int j u)) Q E s) :
  iL X f (IZ λi j=>.bl (g i j)):=by
 intro v4 s σ H x y v u Q I rx ry h;let⟨i,j,rfl,rfl,q⟩:=h;let⟨t,rfl⟩:=rx;let⟨t',rfl⟩:=ry;show rule i j t t' s _ _ ⟨.bl (g i j),H,I,rfl,q⟩
abbrev lR(i j:Int):Prop:=0≤j∧j≤1000000∧i.natAbs<2^64
abbrev Cs(i j:Int):Prop:=(-(2^64)<i∧i<2^64)∨(-(2^64)<j∧j<2^64)
def Cs.ok{i j:Int}(h:Cs i j):IntMulOk i j:=by
 rcases h with⟨h1,h2⟩|⟨h1,h2⟩
 ·show .of_left (intBits_le_64 h1 h2)
 ·show .of_right (intBits_le_64 h1 h2)
def vC:iL X (binaryOp .Add) (IZ λi j=>.int (i+j)):=gE λ_ _ _ _ _ _ _ q=>add_int q
def t9:iL X (binaryOp .Sub) (IZ λi j=>.int (i-j)):=gE λ_ _ _ _ _ _ _ q=>sub_int q
def qD:iL X (binaryOp .Mult) (Jz Cs λi j=>.int (i*j)):=Lg λ_ _ _ _ _ _ _ hc q=>mul_int q hc.ok
def xx:iL X (binaryOp .Mod) (Jz (λ_ j=>0<j) λi j=>.int (i%j)):=Lg λi j _ _ _ _ _ hc q=>by
 let h1:(0:Int)<j:=hc;show mod_int' (by lia) (by rw[Int.fmod_eq_emod_of_nonneg i (by lia)];show q)
def abD:iL X (binaryOp .Pow) (Jz lR λi j=>.int (i^j.toNat)):=Lg λ_ _ _ _ _ _ _ hc q=>pow_int_small hc.1 hc.2.1 hc.2.2 q
def xE:iL X (inplaceOp .Mult) (Jz Cs λi j=>.int (i*j)):=Lg λ_ _ _ _ _ _ _ hc q=>imul_int q hc.ok
def lx{f:Value→Sem Value}{g:Int→Int}
  (rule:∀(i:Int) (t:Tok) (s:Shared) (Q:xz) (E:xz),Q (.int (g i) s.toks) {s with toks:=s.toks+1}→wpAny (model X.prog X.w) X.A (f (.int i t)) Q E s) :
  SJ X f (eV λi=>.int (g i)):=by
 intro v4 s σ H x v Q I rx h;let⟨i,rfl,q⟩:=h;let⟨t,rfl⟩:=rx;show rule i t s _ _ ⟨.int (g i),H,I.tok _,⟨_,rfl⟩,q⟩
def ab7:SJ X (unaryOp .USub) (eV λi=>.int (-i)):=lx λ_ _ _ _ _ q=>neg_int q
end
abbrev Pu:V→V→Bool
 |.non,.non=>true|.non,.int _=>true|.int _,.non=>true|.non,.bl _=>true|.bl _,.non=>true|.non,.str _=>true|.str _,.non=>true
 |.int _,.int _=>true|.bl _,.bl _=>true|.str _,.str _=>true|.byt _,.byt _=>true
 |.int _,.str _=>true|.str _,.int _=>true|.bl _,.str _=>true|.str _,.bl _=>true
 |_,_=>false
abbrev xo:EA:=λx y H Q=>Pu x y=true∧Q (.bl (decide (x=y))) H
abbrev ac0:EA:=λx y H Q=>Pu x y=true∧Q (.bl (!decide (x=y))) H
def fR{i j:Int}:decide (V.int i=V.int j)=(i==j):=by
 rw[abo];simp
def jj{i j:Bool}:decide (V.bl i=V.bl j)=(i==j):=by
 rw[abo];simp
def jq{i j:Str}:decide (V.str i=V.str j)=(i==j):=by
 rw[abo];simp
def eT{i j:Array UInt8}:decide (V.byt i=V.byt j)=(i.toList==j.toList):=by
 rw[abo];cases i;cases j;simp
section
variable {a b c: Expr}{tc: AY}
def CL{Q:Ar}{k k':Bool}(I:Inv X v4 σ H s)(q:Q (.bl k) H)(e:k=k'):Bl X v4 σ Q (.bool k') s:=by
 subst e;show Ps2 (.bl k) H ⟨I,rfl,q⟩
def zW:iL X (compareOp .Eq) xo:=by
 intro v4 s σ H x y v u Q I rx ry h;let⟨hs,q⟩:=h;cases x with
 |non=>
  cases rx;cases y with
  |non=>cases ry;show PySem.EqNone.eq_none_none (CL I q (by simp))
  |bl j=>cases ry;show PySem.EqNone.eq_none_bool (CL I q (by simp))
  |int j=>let⟨t',rfl⟩:=ry;show PySem.EqNone.eq_none_int (CL I q (by simp))
  |str j=>let⟨t',rfl⟩:=ry;show PySem.EqNone.eq_none_str (CL I q (by simp))
  |_=>show absurd (show false=true from hs) Cc
 |bl i=>
  cases rx;cases y with
  |non=>cases ry;show PySem.EqNone.eq_bool_none (CL I q (by simp))
  |bl j=>cases ry;show eq_bool (CL I q jj)
  |str j=>let⟨t',rfl⟩:=ry;show PySem.EqMixed.eq_bool_str (CL I q (by simp))
  |_=>show absurd (show false=true from hs) Cc
 |int i=>
  let⟨t,rfl⟩:=rx;cases y with
  |non=>cases ry;show PySem.EqNone.eq_int_none (CL I q (by simp))
  |int j=>let⟨t',rfl⟩:=ry;show eq_int (CL I q fR)
  |str j=>let⟨t',rfl⟩:=ry;show PySem.EqMixed.eq_int_str (CL I q (by simp))
  |_=>show absurd (show false=true from hs) Cc
 |str i=>
  let⟨t,rfl⟩:=rx;cases y with
  |non=>cases ry;show PySem.EqNone.eq_str_none (CL I q (by simp))
  |bl j=>cases ry;show PySem.EqMixed.eq_str_bool (CL I q (by simp))
  |int j=>let⟨t',rfl⟩:=ry;show PySem.EqMixed.eq_str_int (CL I q (by simp))
  |str j=>let⟨t',rfl⟩:=ry;show eq_str (CL I q jq)
  |_=>show absurd (show false=true from hs) Cc
 |byt i=>
  let⟨t,rfl⟩:=rx;cases y with
  |byt j=>let⟨t',rfl⟩:=ry;show W.eq_bytes (CL I q eT)
  |_=>show absurd (show false=true from hs) Cc
 |_=>cases y<;>show absurd (show false=true from hs) Cc
def vt:iL X (compareOp .NotEq) ac0:=by
 intro v4 s σ H x y v u Q I rx ry h;let⟨hs,q⟩:=h;cases x with
 |non=>
  cases rx;cases y with
  |non=>cases ry;show PySem.EqNone.ne_none_none (CL I q (by simp))
  |bl j=>cases ry;show PySem.EqNone.ne_none_bool (CL I q (by simp))
  |int j=>let⟨t',rfl⟩:=ry;show PySem.EqNone.ne_none_int (CL I q (by simp))
  |str j=>let⟨t',rfl⟩:=ry;show PySem.EqNone.ne_none_str (CL I q (by simp))
  |_=>show absurd (show false=true from hs) Cc
 |bl i=>
  cases rx;cases y with
  |non=>cases ry;show PySem.EqNone.ne_bool_none (CL I q (by simp))
  |bl j=>cases ry;show ne_bool (CL I q (DT not jj))
  |str j=>let⟨t',rfl⟩:=ry;show PySem.EqMixed.ne_bool_str (CL I q (by simp))
  |_=>show absurd (show false=true from hs) Cc
 |int i=>
  let⟨t,rfl⟩:=rx;cases y with
  |non=>cases ry;show PySem.EqNone.ne_int_none (CL I q (by simp))
  |int j=>let⟨t',rfl⟩:=ry;show ne_int (CL I q (DT not fR))
  |str j=>let⟨t',rfl⟩:=ry;show PySem.EqMixed.ne_int_str (CL I q (by simp))
  |_=>show absurd (show false=true from hs) Cc
 |str i=>
  let⟨t,rfl⟩:=rx;cases y with
  |non=>cases ry;show PySem.EqNone.ne_str_none (CL I q (by simp))
  |bl j=>cases ry;show PySem.EqMixed.ne_str_bool (CL I q (by simp))
  |int j=>let⟨t',rfl⟩:=ry;show PySem.EqMixed.ne_str_int (CL I q (by simp))
  |str j=>let⟨t',rfl⟩:=ry;show ne_str (CL I q (DT not jq))
  |_=>show absurd (show false=true from hs) Cc
 |byt i=>
  let⟨t,rfl⟩:=rx;cases y with
  |byt j=>let⟨t',rfl⟩:=ry;show W.ne_bytes (CL I q (DT not eT))
  |_=>show absurd (show false=true from hs) Cc
 |_=>cases y<;>show absurd (show false=true from hs) Cc
def rD:iL X (compareOp .Lt) (IZ λi j=>.bl (decide (i<j))):=XK λ_ _ _ _ _ _ _ q=>lt_int q
def aaA:iL X (compareOp .LtE) (IZ λi j=>.bl (decide (i≤j))):=XK λ_ _ _ _ _ _ _ q=>le_int q
def ab2:iL X (compareOp .Gt) (IZ λi j=>.bl (decide (j<i))):=XK λ_ _ _ _ _ _ _ q=>gt_int q
def zU:iL X (compareOp .In) (λx y H Q=>∃i j,x=.str i∧y=.str j∧Q (.bl (!(Builtin.Str.occurrences j i 0 j.length 1).isEmpty)) H):=by
 intro v4 s σ H x y v u Q I rx ry h;let⟨i,j,rfl,rfl,q⟩:=h;let⟨t,rfl⟩:=rx;let⟨t',rfl⟩:=ry;show in_str (CL I q rfl)
def nH:iL X (compareOp .Is) (λx y H Q=>y=.non∧Q (.bl (decide (x=.non))) H):=by
 intro v4 s σ H x y v u Q I rx ry h;let⟨rfl,q⟩:=h;cases ry;show is_none_gen (CL I q ?_);cases x<;>first
  |(cases rx;rfl)
  |(let⟨t,rfl⟩:=rx;rfl)
def qM:iL X (compareOp .IsNot) (λx y H Q=>y=.non∧Q (.bl (!decide (x=.non))) H):=by
 intro v4 s σ H x y v u Q I rx ry h;let⟨rfl,q⟩:=h;cases ry;show isnot_none_gen (CL I q ?_);cases x<;>first
  |(cases rx;rfl)
  |(let⟨t,rfl⟩:=rx;rfl)
def iL.or(h:iL X f r)(h':iL X f r'):iL X f (λx y H Q=>r x y H Q∨r' x y H Q):=by
 intro v4 s σ H x y v u Q I rx ry q;rcases q with q|q
 ·show h v4 s σ H x y v u Q I rx ry q
 ·show h' v4 s σ H x y v u Q I rx ry q
def lO(b:Expr){op:CmpOp}(h:op≠.In:=by decide)(h2:op≠.NotIn:=by decide):behindInMarks op b=false:=by
 let e1:(op==CmpOp.In)=false:=by cases op<;>first|rfl|show absurd rfl h
 let e2:(op==CmpOp.NotIn)=false:=by cases op<;>first|rfl|show absurd rfl h2
 cases b<;>simp[behindInMarks,e1,e2]
def yi{op:CmpOp}(ho:iL X (compareOp op) r)(ha:PE X a ta)(hb:PE X b tb)(hm:behindInMarks op b=false):PE X (.Compare a [op] [b] pos) (Md r ta tb):=by
 show .mk ?_;intro v4 s σ H Q I h;show wpAny_Compare1 (Ur ha hb I h λv u s2 x y H2 I2 rx ry q=>ho v4 s2 σ H2 x y v u Q I2 rx ry q) hm
abbrev Vt(t:AY):Ci:=λσ H Q=>t σ H λx H'=>∃k,x=.bl k∧Q k H'
def uG{op:CmpOp}(ho:iL X (compareOp op) r)(ha:PE X a ta)(hb:PE X b tb)(hm:behindInMarks op b=false):PT X (.Compare a [op] [b] pos) (Vt (Md r ta tb)):=by
 show .mk ?_;intro v4 s σ H Q I h;show wpAny_isTrue_Compare1 (AI (ha v4 s σ H _ I h) λv s1 ξ=>Xi23 ξ λx H1 I1 r1 q1=>AI (hb v4 s1 σ H1 _ I1 q1) λu s2 ξ=>Xi23 ξ λy H2 I2 r2 q2=>
  AI (ho v4 s2 σ H2 x y v u _ I2 r1 r2 q2) λc s3⟨z,H3,I3,r3,k,e,q3⟩=>?_) hm
 subst e;cases r3;show HL ⟨H3,I3,q3⟩
abbrev Sg(r r':EA)(ta tb tc:AY):AY:=λσ H Q=>ta σ H λx H1=>tb σ H1 λy H2=>r x y H2 λz H3=>∃k,z=.bl k∧
 (if k=true then tc σ H3 λw' H4=>r' y w' H4 Q else Q (.bl false) H3)
def t6{op:CmpOp}(ho:iL X (compareOp op) r)(ri:iL X (compareOp AG) r')(ha:PE X a ta)(hb:PE X b tb)(hc:PE X c tc)
  (hm:lastMarks [op,AG] [b,c]=false:=by with_unfolding_all rfl):PE X (.Compare a [op,AG] [b,c] pos) (Sg r r' ta tb tc):=by
 show .mk ?_;intro v4 s σ H Q I h;show Compare_chain (AI (ha v4 s σ H _ I h) λv s1 ξ=>Xi23 ξ λx H1 I1 r1 q1=>chain_link (AI (hb v4 s1 σ H1 _ I1 q1) λu s2 ξ=>Xi23 ξ λy H2 I2 r2 q2=>
  AI (ho v4 s2 σ H2 x y v u _ I2 r1 r2 q2) λd s3⟨z,H3,I3,r3,k,e,q3⟩=>?_)) hm
 subst e;cases r3;show HL ?_;cases k with
 |false=>show ite_ff ⟨.bl false,H3,I3,rfl,q3⟩
 |true=>show ite_tt (chain_last (AI (hc v4 s3 σ H3 _ I3 q3) λw' s4 ξ=>Xi23 ξ λz' H4 I4 r4 q4=>ri v4 s4 σ H4 y z' u w' Q I4 r2 r4 q4))
def oB{op:CmpOp}(ho:iL X (compareOp op) r)(ri:iL X (compareOp AG) r')(ha:PE X a ta)(hb:PE X b tb)(hc:PE X c tc)
  (hm:lastMarks [op,AG] [b,c]=false:=by with_unfolding_all rfl):PT X (.Compare a [op,AG] [b,c] pos) (Vt (Sg r r' ta tb tc)):=by
 show .mk ?_;intro v4 s σ H Q I h;show isTrue_chain (AI (ha v4 s σ H _ I h) λv s1 ξ=>Xi23 ξ λx H1 I1 r1 q1=>test_link (AI (hb v4 s1 σ H1 _ I1 q1) λu s2 ξ=>Xi23 ξ λy H2 I2 r2 q2=>
  AI (ho v4 s2 σ H2 x y v u _ I2 r1 r2 q2) λd s3⟨z,H3,I3,r3,k,e,q3⟩=>?_)) hm
 subst e;cases r3;show HL ?_;cases k with
 |false=>
  let⟨k',e',q'⟩:=q3;cases e';show ite_ff ⟨H3,I3,q'⟩
 |true=>
  show ite_tt (test_last (AI (hc v4 s3 σ H3 _ I3 q3) λw' s4 ξ=>Xi23 ξ λz' H4 I4 r4 q4=>AI (ri v4 s4 σ H4 y z' u w' _ I4 r2 r4 q4) λd' s5⟨z2,H5,I5,r5,k2,e2,q5⟩=>?_));subst e2;cases r5;show HL ⟨H5,I5,q5⟩
abbrev Us(K:W.Frag)(x:V)(H:A5)(k:Bool):Prop:=
 match x with
 |.non=>k=false
 |.bl b=>k=b
 |.int i=>k=(i != 0)
 |.str y=>y.length≤sizeLine∧k=((y.length:Int) != 0)
 |.byt y=>y.size≤sizeLine∧k=((y.size:Int) != 0)
 |.ref p=>(∃xs,jI K H p xs∧k=!xs.isEmpty)∨(∃xs,eP K H p xs∧k=!xs.isEmpty)∨∃aA,H p=some (.dK aA)∧k=!aA.isEmpty
 |_=>False
def pL{κ:Type}{aA:List (κ×V)}{vs:List (κ×Value)}(r:KV aA vs):(!vs.isEmpty)=!aA.isEmpty:=by
 cases r<;>rfl
def fC{bp:List Value}(r:Vals xs bp):(!bp.toArray.isEmpty)=!xs.isEmpty:=by
 cases r<;>simp
def Kh:(sizeLine:Nat)<2^63:=by rw[Bm];decide
def abn:pq X (λx H Q=>∃k,Us X.K x H k∧Q k H):=by
 intro v4 s σ H x v Q I rx h;let⟨k,e,q⟩:=h;let hl:=Kh;let hs:sizeLine=16777216:=Bm;cases x with
 |non=>
  cases rx;let e':k=false:=e;subst e';show truthy_none ⟨H,I,q⟩
 |bl b=>
  cases rx;let e':k=b:=e;subst e';show HL ⟨H,I,q⟩
 |int i=>
  let⟨t,rfl⟩:=rx;let e':k=(i != 0):=e;subst e';show PySem.P.truthy_int ⟨H,I,q⟩
 |str y=>
  let⟨t,rfl⟩:=rx;obtain⟨hy,e'⟩:y.length≤sizeLine∧k=((y.length:Int) != 0):=e;subst e';show PySem.P.truthy_str (by lia) ⟨H,I.tok _,q⟩
 |byt y=>
  let⟨t,rfl⟩:=rx;obtain⟨hy,e'⟩:y.size≤sizeLine∧k=((y.size:Int) != 0):=e;subst e';show W.truthy_bytes (by lia) ⟨H,I.tok _,q⟩
 |ref p=>
  cases rx;let e':(∃xs,jI X.K H p xs∧k=!xs.isEmpty)∨(∃xs,eP X.K H p xs∧k=!xs.isEmpty)∨∃aA,H p=some (.dK aA)∧k=!aA.isEmpty:=e;rcases e' with⟨xs,hx,e'⟩|⟨xs,hx,e'⟩|⟨aA,hx,e'⟩
  ·subst e'
   let⟨bp,r,pl,hz⟩:=I.list hx;let hlen:=r.length;show wpAny_truthy_list pl.isList (by simp only[Bn];lia) ⟨H,I.tok _,by rw[fC r];show q⟩
  ·subst e'
   let⟨bp,r,pl,hz⟩:=I.tuple hx;let hlen:=r.length;show truthy_tuple pl (by simp only[Bn];lia) ⟨H,I.tok _,by rw[fC r];show q⟩
  ·subst e'
   obtain⟨hz,hS,vs,r,m⟩:aA.length≤sizeLine∧(p==sysModules)=false∧∃vs,KV aA vs∧s.heap.DictOf (AP X.prog X.w) p vs:=I.bV p _ hx;let hlen:aA.length=vs.length:=Of r;show wpAny_truthy_dict hS m (by lia) ⟨H,I.tok _,by rw[pL r];show q⟩
 |_=>show(show False from e).elim
def yI(ha:PE X a ta)(he:∀whole,isTrue a X.env whole=(do let v ←whole;standAt a.pos;holding [v] (truthy v))):
  PT X a (λσ H Q=>ta σ H λx H'=>∃k,Us X.K x H' k∧Q k H'):=by
 show .mk ?_;intro v4 s σ H Q I h;show isTrue_plain (AI (ha v4 s σ H _ I h) λv s1 ξ=>Xi23 ξ λx H1 I1 r1 q1=>abn v4 s1 σ H1 x v Q I1 r1 q1) (he _)
def uI:iL X (binaryOp .Add) (λx y H Q=>∃i j,x=.str i∧y=.str j∧i.length+j.length≤sizeLine∧Q (.str (i++j)) H):=by
 intro v4 s σ H x y v u Q I rx ry h;let⟨i,j,rfl,rfl,hz,q⟩:=h;let⟨t,rfl⟩:=rx;let⟨t',rfl⟩:=ry;show add_str (λt' tk=>Ps2 (.str (i++j)) H ⟨I.tok _,⟨_,rfl⟩,q⟩) hz
def vals1{x:V}(r:Vals [x] us):∃u,us=[u]∧RelV x u:=by
 cases r with
 |cons r1 r2=>cases r2;show⟨_,rfl,r1⟩
def vals2{x:V}(r:Vals [x,y] us):∃u w',us=[u,w']∧RelV x u∧RelV y w':=by
 cases r with
 |cons r1 r2=>
  cases r2 with
  |cons r3 r4=>cases r4;show Ps2 _ _ ⟨rfl,r1,r3⟩
def mJ:Fb X (.builtin "ord") (λxs H Q=>∃x,xs=[.str x]∧x.length=1∧Q (.int (x.cps.getD 0 0:Nat)) H):=by
 intro v4 s σ H xs us Q I r h;let⟨x,rfl,hz,q⟩:=h;let⟨u,rfl,⟨t,rfl⟩⟩:=vals1 r;show ord_of_one hz ⟨.int _,H,I.tok _,⟨_,rfl⟩,q⟩
end
structure Ah(h:Heap)(x dx C:Addr)(mA:KK):Prop where
 obj:h.get? x=some (W.instObj C dx)
 ns:h.Ns1 dx mA
 ne:dx≠x
def zX{dx:Addr}(n:h.Ns1 dx mA):∃od,h.get? dx=some od∧∀name,W.lookIn name od=some (mA name):=by
 let⟨o,es,ep,ho,hd,hk,_,hm⟩:=n;show⟨o,ho,λname=>?_⟩;let e:=hm name;unfold nsFind findBy at e;rw[←Array.find?_toList]at e;unfold W.lookIn;rw[hd];dsimp only;split
 ·rename_i y q
  rw[q]at e;show DT some e
 ·rename_i q
  rw[q]at e;let a:es.toList.any (·.refKey)=false:=by
   rw[PL];intro y hy;let⟨z,t,T7⟩:=hk y (Array.mem_toList_iff.mp hy);simp[DictEntry.refKey,T7]
  let a':¬es.toList.any (·.refKey)=true:=by rw[a];show Cc
  rw[AL a'];show DT some e
def Ah.look{x dx:Addr}(I:Ah h x dx C mA):∃od,W.InstAt h x (W.instObj C dx) C (some od)∧∀name,W.lookIn name od=some (mA name):=
 let⟨od,ho,hl⟩:=zX I.ns
 ⟨od,⟨I.obj,rfl,rfl,ho⟩,hl⟩
section
variable {prog: Program}{w: World}{A: Around}{E: Value→Shared→Prop}{s: Shared}{K: W.Frag}{x C f: Addr}{mA: Str→Option Value}{name: Str}{v: Value}
def get_map{expr:Bool}(X:K.In s.heap)(I:Ah s.heap x dx C mA)(hg:W.plainGet K C name=true)(hh:W.hasDictIn K C=true)
  (ha:W.findIn K (.ref C) name=some none) (hv:mA name=some v) (B4:W.handedIn v=true) (h:Q v {s with toks:=s.toks+1}) :
  wpAny (model prog w) A (getAttr (.ref x) name expr) Q E s:=by
 let⟨od,J,hl⟩:=I.look;show W.get_value X J (U7 hg).1 (W.findObj_own hh ha rfl (by rw[hl,hv])) B4 h
def mx{Q:Value×List Value→Shared→Prop}(X:K.In s.heap)(I:Ah s.heap x dx C mA)(hg:W.plainGet K C name=true)
  (hf:W.findIn K (.ref C) name=some (some (.ref f))) (ht:W.isFn K (.ref f)=true) (hv:mA name=none) (h:Q (.ref f,[.ref x]) s) :
  wpAny (model prog w) A (getMethod (.ref x) name pl) Q E s:=by
 let⟨od,J,hl⟩:=I.look;show W.method_fn X J (U7 hg).1 (U7 hg).2 hf (abZ.mp ht) (by show(W.lookIn name od).map (·.isSome)=some false;rw[hl,hv];rfl) h
def qV{ns:List Str}{Q:Unit→Shared→Prop}(X:K.In s.heap)(I:Ah s.heap x dx C mA)
  (hs:W.findIn K (.ref C) "__setattr__" = some (some (.builtin "object.__setattr__"))) (hp:W.plainOver K C=true) (ht:W.takerIn K C name=some none) (hh:W.hasDictIn K C=true)
  (hw:PySem.Within mA ns) (hsz:ns.length≤sizeLine)
  (h:∀h',Ah h' x dx C (λy=>if y=name then some v else mA y)→Heap.SameBut dx s.heap h'→Q () {s with heap:=h',toks:=s.toks+2}) :
  wpAny (model prog w) A (setAttr (.ref x) name v) Q E s:=by
 let⟨od,J,hl⟩:=I.look;show W.set_plain X J hs (W.osa_open (s:={s with toks:=s.toks+1}) (r:=none) X J hp ht λb=>?_);let⟨cd,hc,Iw⟩:=W.any_some hh;let hx:s.heap.get? x=some ⟨.ref C,some dx,.plain,#[]⟩:=I.obj;show A9 (AQ (A9 (A9 (wpAny_loadPart hx (A9 (W.Looks.here (s:={s with toks:=s.toks+1}) (W.looks_clsIn X hc) ?_))))));rw[Iw];show AQ (a:=some dx) (A9 (AQ (A9 ?_)));show wpAny_nsSet1 (s:={s with toks:=s.toks+1}) I.ns λh' Ry vO=>?_;let⟨oD,esD,epD,YV,Y8,Za⟩:=Ry.count (PySem.Within.cons name v hw);show A9 (wpAny_lookBehind YV (by rw[Y8];show pastItsLine_dict (D6 Za (by rw[Bb];lia))) ?_);show AQ (h _ ⟨(vO.2 _ (G5 I.ne)).trans I.obj,Ry,I.ne⟩ vO)
def yA{R:Result→Shared→Prop}{vs:List Value}(X:K.In s.heap)(hm:W.makesIn K C=true)
  (hi:W.findIn K (.ref C) "__init__" = some (some (.ref f))) (hf:W.typeIn K (.ref f)=some (.type "function"))
  (h:codeAny (model prog w) (A.under (.builtin "type.__call__" ⟨.ref C::vs,kw⟩)) (.call (.ref f) ⟨.ref (s.heap.objs.size+1)::vs,kw⟩) (W.InitBack (s.heap.objs.size+1) R)
   {s with heap:=(s.heap.push W.emptyDict).push (W.instObj C s.heap.objs.size)}) :
  codeAny (model prog w) A (.call (.ref C) ⟨vs,kw⟩) R s:=by
 obtain⟨hh,g,d,t,os⟩:=s;show W.make_core (W.makes_of X hm) (W.looks_findIn X hi) (λself=>W.bind_fn X self hf) (.inl rfl) h
end
abbrev EY(f:Str)(v:V):List (Str×V)→List (Str×V)
 |[]=>[(f,v)]
 |(g,x)::r=>if g=f then(g,v)::r else(g,x)::EY f v r
def fN(f g:Str)(v:V):∀fs:List (Str×V),(EY f v fs).lookup g=if g=f then some v else fs.lookup g
 |[]=>by
  show List.lookup g [(f,v)]=_
  by_cases h:g=f
  ·let hb:(g==f)=true:=abZ.mpr h
   simp only[List.lookup,hb,AO h]
  ·let hb:(g==f)=false:=aba.mpr h
   simp only[List.lookup,hb,AL h]
 |(k,x)::r=>by
  let ih:=fN f g v r;rw[show EY f v ((k,x)::r)=(if k=f then(k,v)::r else(k,x)::EY f v r)from rfl];by_cases hk:k=f
  ·rw[AO hk]
   by_cases h:g=k
   ·let hb:(g==k)=true:=abZ.mpr h
    simp only[List.lookup,hb,AO (h.trans hk)]
   ·let hb:(g==k)=false:=aba.mpr h
    simp only[List.lookup,hb,AL (λe:g=f=>h (e.trans hk.symm))]
  ·rw[AL hk]
   by_cases h:g=k
   ·let hb:(g==k)=true:=abZ.mpr h
    simp only[List.lookup,hb,AL (λe:g=f=>hk (h.symm.trans e))]
   ·let hb:(g==k)=false:=aba.mpr h
    simp only[List.lookup,hb];show ih
def TP(f:Str)(v:V):∀fs:List (Str×V),f∈(EY f v fs).map (·.1)∧∀g,g∈fs.map (·.1)→g∈(EY f v fs).map (·.1)
 |[]=>⟨by simp[EY],λg h=>by simp at h⟩
 |(k,x)::r=>by
  let⟨i1,i2⟩:=TP f v r;rw[show EY f v ((k,x)::r)=(if k=f then(k,v)::r else(k,x)::EY f v r)from rfl];by_cases hk:k=f
  ·rw[AO hk]
   subst hk;show⟨by simp,λg h=>by simpa using h⟩
  ·rw[AL hk]
   show⟨?_,λg h=>?_⟩
   ·rw[Cq]
    show Cn _ i1
   ·rw[Cq]at h ⊢
    rcases aaf.mp h with e|e
    ·show aaf.mpr (.inl e)
    ·show Cn _ (i2 g e)
def c8(f:Str)(v:V):∀fs:List (Str×V),(EY f v fs).length≤fs.length+1
 |[]=>by simp[EY]
 |(k,x)::r=>by
  let ih:=c8 f v r;rw[show EY f v ((k,x)::r)=(if k=f then(k,v)::r else(k,x)::EY f v r)from rfl];by_cases hk:k=f
  ·rw[AO hk,Bb,Bb];lia
  ·rw[AL hk,Bb,Bb];lia
def jY.some_of{o:Option Value}(r:jY (some v) o):∃u,o=some u∧RelV v u:=by
 cases o with
 |none=>show(show False from r).elim
 |some u=>show⟨u,rfl,r⟩
def jY.none_of{o:Option Value}(r:jY none o):o=none:=by
 cases o with
 |none=>rfl
 |some u=>show(show False from r).elim
def aaK(r:RelV v u):W.handedIn u=true:=by
 cases v with
 |non=>cases(show u=Value.none from r);rfl
 |bl b=>cases(show u=Value.bool b from r);rfl
 |int i=>let⟨t,e⟩:=(show ∃t,u=Value.int i t from r);cases e;rfl
 |str x=>let⟨t,e⟩:=(show ∃t,u=Value.str x t from r);cases e;rfl
 |byt b=>let⟨t,e⟩:=(show ∃t,u=Value.bytes b t from r);cases e;rfl
 |flt b=>let⟨t,e⟩:=(show ∃t,u=Value.float b t from r);cases e;rfl
 |ref a=>cases(show u=Value.ref a from r);rfl
 |ty n=>cases(show u=Value.type n from r);rfl
section
variable {P: Program}{w: World}{H: A5}{h: Heap}{a C: Addr}{fs: List (Str×V)}
def Pf(bV:mZ P w H h)(e:H a=some (.ins C dx fs)):∃mA,Ah h a dx C mA∧(∀f,jY (fs.lookup f) (mA f))∧PySem.Within mA (fs.map (·.1))∧fs.length≤1000∧H dx=some (.own a):=by
 let⟨d,z,ne,ob,⟨mA,n,r,q⟩⟩:=(show bU P w H h a (.ins C dx fs)from bV a _ e);show⟨mA,⟨ob,n,ne⟩,r,q,z,d⟩
end
structure pR(K:W.Frag)(C:Addr):Prop where
 pg:W.plainGet K C Str.empty=true
 hd:W.hasDictIn K C=true
 po:W.plainOver K C=true
 sa:W.findIn K (.ref C) "__setattr__" = some (some (.builtin "object.__setattr__"))
def pR.get(c:pR K C)(f:Str):W.plainGet K C f=true:=c.pg
abbrev bJ(K:W.Frag)(C:Addr)(f:Str):Prop:=W.findIn K (.ref C) f=some none
def bJ.N9{f:Str}(n:bJ K C f):W.takerIn K C f=some none:=by
 unfold W.takerIn;rw[show W.findIn K (.ref C) f=some none from n];rfl
structure Meth(K:W.Frag)(C:Addr)(m:Str)(f:Addr):Prop where
 at_:W.findIn K (.ref C) m=some (some (.ref f))
 fn:W.isFn K (.ref f)=true
 kp:W.keepIn K (.ref f)=true
section
variable {v4: List (Addr×Obj)}{σ: St}{H: A5}{s: Shared}{a C: Addr}{fs: List (Str×V)}{f: Str}{v: V}{A: Around}{E: Value→Shared→Prop}
def qT{b:Bool}(I:Inv X v4 σ H s)(e:H a=some (.ins C dx fs))(c:pR X.K C)(n:bJ X.K C f)(l:fs.lookup f=some v)
  (h:∀u s',Inv X v4 σ H s'→RelV v u→Q u s'):wpAny (model X.prog X.w) A (getAttr (.ref a) f b) Q E s:=by
 let⟨mA,O,r,_,_,_⟩:=Pf I.bV e;let⟨u,hu,ru⟩:=jY.some_of (v:=v) (o:=mA f) (by rw[←l];show r f);show get_map I.nZ O (c.get f) c.hd n hu (aaK ru) (h u _ (I.tok _) ru)
def nV{m:Str}{g:Addr}{Q:Value×List Value→Shared→Prop}(I:Inv X v4 σ H s)(e:H a=some (.ins C dx fs))(c:pR X.K C)(k:Meth X.K C m g)(l:fs.lookup m=none)
  (h:Q (.ref g,[.ref a]) s):wpAny (model X.prog X.w) A (getMethod (.ref a) m pl) Q E s:=by
 let⟨mA,O,r,_,_,_⟩:=Pf I.bV e;let hn:mA m=none:=jY.none_of (by rw[←l];show r m);show mx I.nZ O (c.get m) k.at_ k.fn hn h
def vP{Q:Unit→Shared→Prop}(I:Inv X v4 σ H s)(e:H a=some (.ins C dx fs))(c:pR X.K C)(n:bJ X.K C f)(hl:fs.length<1000)(ry:RelV y u)
  (h:∀s',Inv X v4 σ (AM H a (.ins C dx (EY f y fs))) s'→Q () s'):wpAny (model X.prog X.w) A (setAttr (.ref a) f u) Q E s:=by
 let⟨mA,O,r,wi,_,ho⟩:=Pf I.bV e;let hz:(fs.map (·.1)).length≤sizeLine:=by rw[AF,Bm];lia
 show qV I.nZ O c.sa c.po n.N9 c.hd wi hz λh' O' sb=>h _ ?_;let hd:∃o,h'.get? dx=some o:=let⟨o,_,_,e',_⟩:=O'.ns;⟨o,e'⟩
 show I.write (x:=a) (e:=dx) (by rw[e];show True.intro) (.inr ho) (λb q hb z=>(sb.2 b hb).trans z) hd ?_;show⟨by rw[B0 O.ne];show ho,?_,O.ne,O'.obj,_,O'.ns,λg=>?_,λg hg=>?_⟩
 ·have:=c8 f y fs;lia
 ·show jY ((EY f y fs).lookup g) (if g=f then some u else mA g)
  rw[fN];by_cases q:g=f
  ·rw[AO q,AO q];show ry
  ·rw[AL q,AL q];show r g
 ·by_cases q:g=f
  ·rw[q];show(TP f y fs).1
  ·show(TP f y fs).2 g (wi g λz=>hg ?_)
   show(if g=f then some u else mA g)=none
   rw[AL q];show z
def Inv.made(I:Inv X v4 σ H s):Inv X v4 σ (AM (AM H s.heap.objs.size (.own (s.heap.objs.size+1))) (s.heap.objs.size+1) (.ins C s.heap.objs.size []))
  {s with heap:=(s.heap.push W.emptyDict).push (W.instObj C s.heap.objs.size)}:=by
 let e1:(s.heap.push W.emptyDict).get? s.heap.objs.size=some W.emptyDict:=D8 s.heap rfl;let e2:((s.heap.push W.emptyDict).push (W.instObj C s.heap.objs.size)).get? (s.heap.objs.size+1)=some (W.instObj C s.heap.objs.size):=by
  have:=D8 (s.heap.push W.emptyDict) (o:=W.instObj C s.heap.objs.size) rfl;rwa[Fe]at this
 let e3:(s.heap.push W.emptyDict).Ns s.heap.objs.size (λ_=>none):=Ps3 W.emptyDict (#[]) _ ⟨e1,rfl,(λe he=>absurd he (by simp)),λ_=>rfl⟩;let I1:=I.laid (a:=s.heap.objs.size) (o:=.own (s.heap.objs.size+1)) (h':=s.heap.push W.emptyDict) (t':=s.toks) (λb u q=>B1 _ q) (Ap _) ⟨_,e1⟩;show I1.laid (a:=s.heap.objs.size+1) (o:=.ins C s.heap.objs.size []) (t':=s.toks) (λb u q=>B1 _ q) (Nat.le_of_eq (Fe _ _)) ?_;let ne:s.heap.objs.size≠s.heap.objs.size+1:=BO (GX _);show⟨by rw[B0 ne,Bu],E6 _,ne,e2,λ_=>none,(Heap.Ns1.of_empty e3).at λo q=>B1 _ q,λ_=>True.intro,λy hy=>absurd rfl hy⟩
def sU{prog:Program}{env:Env}{f:Str}{pos:Pos}{s:Shared}(hb:attributeBase e f env (eval e env)=eval e env)
  (h:wpAny (model prog w) A (eval e env) (λo s₁=>wpAny (model prog w) A (getAttr o f true) Q E s₁) E s):wpAny (model prog w) A (eval (.Attribute e f pos) env) Q E s:=
 Attribute_any_ h (by rw[arm_eval_Attribute,hb])
end
abbrev qr(K:W.Frag)(ta:AY)(f:Str):AY:=λσ H Q=>ta σ H λx H1=>∃a C dx fs v,x=.ref a∧H1 a=some (.ins C dx fs)∧pR K C∧bJ K C f∧fs.lookup f=some v∧Q v H1
abbrev n6(K:W.Frag)(ta tv:AY)(f:Str):CM:=λD σ H=>tv σ H λy H1=>ta σ H1 λx H2=>∃a C dx fs,x=.ref a∧H2 a=some (.ins C dx fs)∧pR K C∧bJ K C f∧fs.length<1000∧
 D.nx σ (AM H2 a (.ins C dx (EY f y fs)))
section
variable {o e value: Expr}{f: Str}{pos': Pos}{tv: AY}
def sO(he:PE X e ta)(hb:attributeBase e f X.env (eval e X.env)=eval e X.env):PE X (.Attribute e f pos) (qr X.K ta f):=by
 show .mk ?_;intro v4 s σ H Q I h;show sU hb (AI (he v4 s σ H _ I h) λu s1⟨x,H1,I1,rx,a,C,dx,fs,v,ex,ea,c,n,l,q⟩=>?_);subst ex;obtain rfl:u=Value.ref a:=rx;show qT I1 ea c n l λu' s2 I2 ru=>Ps2 v H1 ⟨I2,ru,q⟩
def acy(ha:PE X o ta)(hv:PE X value tv)(hs:swapsWith value (some (.Attribute o f pos')) pos.line X.env=pure false):PS X (.Assign [.Attribute o f pos'] value pos) (n6 X.K ta tv f):=by
 show .mk ?_;intro v4 s σ H D I h;show plainObj_wpAny_Assign_Attribute (AI (hv v4 s σ H _ I h) λu s1 ξ=>Xi23 ξ λy H1 I1 ry q=>AI (ha v4 s1 σ H1 _ I1 q) λov s2⟨x,H2,I2,rx,a,C,dx,fs,ex,ea,c,n,l,q2⟩=>?_) hs;subst ex;obtain rfl:ov=Value.ref a:=rx;show vP I2 ea c n l ry λs3 I3=>Ps2 σ _ ⟨I3,q2⟩
end
section
variable {v4: List (Addr×Obj)}{σ: St}{H: A5}{s: Shared}{A: Around}{E: Value→Shared→Prop}{Q: Value→Shared→Prop}{c: Value}{b: Bool}
inductive FH(K:W.Frag)(H:A5):V→Value→Prop where
 |non:FH K H .non (.type "NoneType")
 |bl (x:Bool):FH K H (.bl x) (.type "bool")
 |int (i:Int):FH K H (.int i) (.type "int")
 |str (x:Str):FH K H (.str x) (.type "str")
 |flt (x:UInt64):FH K H (.flt x) (.type "float")
 |lst {a:Addr} {xs:List V} (e:H a=some (.lst xs)):FH K H (.ref a) (.type "list")
 |frz {a:Addr} {o:Obj} {xs:List V} (e:H a=some (.frz o (.lst xs))):FH K H (.ref a) (.type "list")
 |tup {a:Addr} {xs:List V} (e:H a=some (.tup xs)):FH K H (.ref a) (.type "tuple")
 |dK {a:Addr} {aA:List (AB×V)} (e:H a=some (.dK aA)):FH K H (.ref a) (.type "dict")
 |dT {a:Addr} {aA:List (List AB×V)} (e:H a=some (.dT aA)):FH K H (.ref a) (.type "dict")
 |ins {a C dx:Addr} {fs:List (Str×V)} (e:H a=some (.ins C dx fs)) (cl:pR K C) (ha:W.findIn K (.ref C) "__class__" = some (some (.builtin "object.__class__")))
   (hn:W.specialIn K (.builtin "object.__class__") "__get__" = some (some (.builtin "getset_descriptor.__get__"))) (V5:W.takesIn K (.builtin "object.__class__")=some true)
   (hm:W.mroIn K C (.type "object")=some true):FH K H (.ref a) (.ref C)
def rU{x:V}{t:Value}(I:Inv X v4 σ H s)(rx:RelV x u)(ty:FH X.K H x t)(e:W.kitOne X.K t c=some b)(h:∀tk,Q (.bool b) {s with toks:=tk}):
  wpAny (model X.prog X.w) A (call (.builtin "isinstance") [u,c]) Q E s:=by
 cases ty with
 |non=>cases(show u=Value.none from rx);show HP W.kitx_none I.nZ True.intro e (λz=>nomatch z) h
 |bl y=>cases(show u=Value.bool y from rx);show HP W.kitx_bool I.nZ True.intro e (λz=>nomatch z) h
 |int i=>let⟨t,q⟩:=(show ∃t,u=Value.int i t from rx);cases q;show HP W.kitx_int I.nZ True.intro e (λz=>nomatch z) h
 |str y=>let⟨t,q⟩:=(show ∃t,u=Value.str y t from rx);cases q;show HP W.kitx_str I.nZ True.intro e (λz=>nomatch z) h
 |flt y=>let⟨t,q⟩:=(show ∃t,u=Value.float y t from rx);cases q;show HP W.kitx_float I.nZ True.intro e (λz=>nomatch z) h
 |@lst a xs ea=>
  cases(show u=Value.ref a from rx);let⟨_,⟨_,n,_,h1⟩⟩:=(show bU X.prog X.w H s.heap a (.lst xs)from I.bV a _ ea);show HP W.kitx_list I.nZ ⟨_,h1,rfl⟩ e (λz=>nomatch z) h
 |@frz a ob xs ea=>
  cases(show u=Value.ref a from rx);let⟨_,_,⟨_,n,_,h1⟩⟩:=(show bU X.prog X.w H s.heap a (.frz ob (.lst xs))from I.bV a _ ea);show HP W.kitx_list I.nZ ⟨_,h1,rfl⟩ e (λz=>nomatch z) h
 |@tup a xs ea=>
  cases(show u=Value.ref a from rx);let⟨_,⟨_,_,p⟩⟩:=(show bU X.prog X.w H s.heap a (.tup xs)from I.bV a _ ea);let⟨o,h1,h2,_⟩:=p;show HP W.kitx_tuple I.nZ ⟨o,h1,h2⟩ e (λz=>nomatch z) h
 |@dK a aA ea=>
  cases(show u=Value.ref a from rx);let⟨_,_,⟨vs,_,p⟩⟩:=(show bU X.prog X.w H s.heap a (.dK aA)from I.bV a _ ea);let⟨o,es,ep,h1,h2,_⟩:=p;show HP W.kitx_dict I.nZ ⟨o,h1,h2.1⟩ e (λz=>nomatch z) h
 |@dT a aA ea=>
  cases(show u=Value.ref a from rx);let⟨_,_,⟨xs,_,⟨o,es,ep,h1,h2,_⟩⟩⟩:=(show bU X.prog X.w H s.heap a (.dT aA)from I.bV a _ ea);show HP W.kitx_dict I.nZ ⟨o,h1,h2.1⟩ e (λz=>nomatch z) h
 |@ins a C dx fs ea cl ha hn V5 hm=>
  cases(show u=Value.ref a from rx);let⟨mA,O,_⟩:=Pf I.bV ea;let⟨od,J,_⟩:=O.look;show HP (W.kitx_own (cl.get _) cl.hd ha hn V5 hm) I.nZ J e (λz=>nomatch z) h
end
structure dA(k:Nat)(A:Around):Prop where
 hd:A.handled=none
 dp:A.depth+3*k+5<recursionLimit
 un:A.units+16*k+200<cLine
def dA.mono(r:dA k A)(h:j≤k):dA j A:=⟨r.hd,by have:=r.dp;lia,by have:=r.un;lia⟩
def dA.deeper(r:dA (k+1) A)(env:Env):dA k (A.deeper env):=
 ⟨r.hd,by have:=r.dp;show A.depth+1+3*k+5<_;lia,by have:=r.un;show A.units+3+16*k+200<_;lia⟩
def nQ:(A.under (.builtin "type.__call__" ⟨.ref C::us,kw⟩)).depth=A.depth+1:=by
 first|rfl|simp[Around.under,Code.weight,Code.isCreation,Code.isGuard,Code.isCaller,Code.frames,Code.isFrame,guardIds]
def aaW:(A.under (.builtin "type.__call__" ⟨.ref C::us,kw⟩)).units=A.units+1:=by
 first|rfl|simp[Around.under,Code.cUnits,Code.frames,Code.isFrame]
def dA.make(r:dA (k+1) A)(C:Addr)(us:List Value)(kw:List (Str×Value)):dA k (A.under (.builtin "type.__call__" ⟨.ref C::us,kw⟩)):=
 ⟨r.hd,by have:=r.dp;rw[nQ];lia,by have:=r.un;rw[aaW];lia⟩
def dA.depth(r:dA k A):A.depth<recursionLimit:=by have:=r.dp;lia
def dA.units(r:dA k A):A.units+64<cLine:=by have:=r.un;lia
def dA.uV(r:dA k A):A.units<cLine:=by have:=r.un;lia
abbrev bx:CY:=λ_ H Q=>Q [] H
abbrev SM(ta:AY)(tr:CY):CY:=λσ H Q=>ta σ H λx H1=>tr σ H1 λxs H2=>Q (x::xs) H2
section
variable {e: Expr}{te: AY}
def fT:PA X [] bx:=.mk λ_ _ _ _ H Q I h=>Calls.spliced_nil ⟨[],H,I,.nil,h⟩
def aj(ha:PE X e te)(hr:PA X es t)(hs:starEach (e::es) X.env=(false,eval e X.env)::starEach es X.env:=by rfl):PA X (e::es) (SM te t):=by
 show .mk ?_;intro pos v4 s σ H Q I h;rw[hs];show wpAny _ _ (spliced ((false,eval e X.env)::backTo pos (starEach es X.env))) _ _ s
 show Calls.spliced_cons (AI (ha v4 s σ H _ I h) λu s1 ξ=>Xi23 ξ λx H1 I1 r1 q1=>?_);show AI (hr pos v4 s1 σ H1 _ I1 q1) λus s2 ξ=>Xi23 ξ λxs H2 I2 r2 q2=>Ps2 (x::xs) H2 ⟨I2,.cons r1 r2,q2⟩
abbrev adn(t:CY):AY:=λσ H Q=>t σ H λxs H1=>xs.length≤sizeLine∧∀p,H1 p=none→Q (.ref p) (AM H1 p (.tup xs))
abbrev adL(t:CY):AY:=λσ H Q=>t σ H λxs H1=>xs.length≤sizeLine∧∀p,H1 p=none→Q (.ref p) (AM H1 p (.lst xs))
def adz{x1}(h:PA X es t):PE X (.Tuple es x1 pos) (adn t):=by
 show .mk ?_;intro v4 s σ H Q I hq;show wpAny_Tuple_spliced (AI (h pos v4 s σ H _ I hq) λus s1 ξ=>Xi24 ξ λxs H1 I1 r z q=>⟨by rw[←r.length];show z,?_⟩);let hf:H1 s1.heap.objs.size=none:=I1.bV.fresh (Ap _);show Ps2 (.ref s1.heap.objs.size) (AM H1 s1.heap.objs.size (.tup xs)) ⟨I1.laid (t':=s1.toks) (λb u e=>B1 _ e) (Ap _) ?_,rfl,q _ hf⟩;show⟨z,us,r,⟨_,D8 _ rfl,rfl,_,rfl⟩⟩
def yd(h:PA X es t):PE X (.List es pos) (adL t):=by
 show .mk ?_;intro v4 s σ H Q I hq;show wpAny_List_spliced (AI (h pos v4 s σ H _ I hq) λus s1 ξ=>Xi24 ξ λxs H1 I1 r z q=>⟨by rw[←r.length];show z,?_⟩);let hf:H1 s1.heap.objs.size=none:=I1.bV.fresh (Ap _);show Ps2 (.ref s1.heap.objs.size) (AM H1 s1.heap.objs.size (.lst xs)) ⟨I1.laid (t':=s1.toks) (λb u e=>B1 _ e) (Ap _) ?_,rfl,q _ hf⟩;show⟨z,us,0,r,D8 _ rfl⟩
end
abbrev Dw:=List V→A5→Ar→BG→Prop
abbrev HB:=List Env→A5→Shared→BG→xz
structure Ai(P:Program)(w:World)(K:W.Frag)(mg:KK)(base:Heap)(A:Around)(outer:List Env)(s:Shared)(H:A5):Prop where
 frames:A.frames=some outer
 mod:Mod K mg base
 bs:∀b o,base.get? b=some o→s.heap.get? b=some o∧H b=none
 F0:base.objs.size≤s.heap.objs.size
 lY:s.heap.FunFrames base outer
 Gm:∀b∈E7 outer,H b=none
 bV:mZ P w H s.heap
 bare:AllBare s.gens
abbrev Sj(outer:List Env)(P:Program)(w:World)(H:A5)(s:Shared)(Q:Ar)(u:Value)(s':Shared):Prop:=
 ∃v H',s'.os=s.os∧AllBare s'.gens∧Un (E7 outer) [] H H' s.heap s'.heap∧mZ P w H' s'.heap∧RelV v u∧Q v H'
abbrev wy(CX:HB)(outer:List Env)(P:Program)(w:World)(H:A5)(s:Shared)(Q:Ar)(E:BG)(r:Result)(s':Shared):Prop:=
 match r with
 |.ok (.ret u)=>Sj outer P w H s Q u s'
 |.ok _=>False
 |.error e=>CX outer H s E e s'
structure bj(P:Program)(w:World)(K:W.Frag)(mg:KK)(base:Heap)(CX:HB)(k:Nat)(f:Addr)(fd:FuncData)(ps:List Str)(sp:Dw):Prop where
 len:∀vs H Q E,sp vs H Q E→vs.length=ps.length
 run:∀(A:Around) (outer:List Env) (s:Shared) (H:A5) (args:Args) (us:List Value) (vs:List V) (Q:Ar) (E:BG),dA k A→Ai P w K mg base A outer s H→BindsTo s fd args (ps.zip us)→Vals vs us→sp vs H Q E→
  codeAny (model P w) A (.call (.ref f) args) (wy CX outer P w H s Q E) s
def bj.mono{f:Addr}(F:bj P w K mg base CX j f fd ps sp)(h:j≤k):
  bj P w K mg base CX k f fd ps sp:=⟨F.len,λA outer s H args us vs Q E hr=>F.run A outer s H args us vs Q E (hr.mono h)⟩
def bj.imp{f:Addr}{VB:Dw}(F:bj P w K mg base CX k f fd ps sp)
  (h:∀vs H Q E,VB vs H Q E→sp vs H Q E):bj P w K mg base CX k f fd ps VB:=
 ⟨λvs H Q E q=>F.len vs H Q E (h _ _ _ _ q),λA outer s H args us vs Q E hr he hb hv hs=>F.run A outer s H args us vs Q E hr he hb hv (h _ _ _ _ hs)⟩
def Ai.make(e:Ai P w K mg base A outer s H)(C:Addr)(us:List Value)(kw:List (Str×Value)):
  Ai P w K mg base (A.under (.builtin "type.__call__" ⟨.ref C::us,kw⟩)) outer s H:=⟨by first|show e.frames|(simpa[Around.under,Code.envs,Code.isFrame,pushEnvs]using e.frames),e.mod,e.bs,e.F0,e.lY,e.Gm,e.bV,e.bare⟩
section
variable {v4: List (Addr×Obj)}{σ: St}{H: A5}{s s': Shared}
def Inv.MU(I:Inv X v4 σ H s):Ai X.prog X.w X.K X.mg X.base X.A X.stack s H:=
 ⟨I.ok.frames,I.ok.mod,I.bs,D6 I.ok.F0 I.sz,I.stack,I.qU,I.bV,I.bare⟩
def Inv.after{Q:Ar}(I:Inv X v4 σ H s)(h:Sj X.stack X.prog X.w H s Q u s'):Bl X v4 σ Q u s':=by
 let⟨v,H',os,bare,un,bV,r,q⟩:=h;obtain⟨hh,g,d,t,X1⟩:=s';obtain rfl:X1=s.os:=os;show Ps2 v H' ⟨I.call (h':=hh) (g':=g) (d':=d) (t':=t) (ch:=[]) un bV bare (λb z=>absurd z (by simp)),r,q⟩
end
abbrev g0(sp:Dw)(vY:List V)(E:BG)(t:CY):AY:=λσ H Q=>t σ H λvs H1=>sp (vs++vY) H1 Q E
abbrev abH(C:Addr)(m:Str)(sp:Dw)(vY:List V)(E:BG)(ta:AY)(t:CY):AY:=λσ H Q=>ta σ H λx H1=>∃a dx fs,x=.ref a∧H1 a=some (.ins C dx fs)∧fs.lookup m=none∧
 t σ H1 λvs H2=>sp (x::(vs++vY)) H2 Q E
abbrev adj(C:Addr)(sp:Dw)(vY:List V)(E:BG)(t:CY):AY:=λσ H Q=>t σ H λvs H1=>∀x dx,H1 x=none→H1 dx=none→dx≠x→
 sp (.ref x::(vs++vY)) (AM (AM H1 dx (.own x)) x (.ins C dx [])) (λv H2=>v=.non∧Q (.ref x) H2) E
abbrev Binds(K:W.Frag)(fd:FuncData)(ps:List Str)(ds:List Value):Prop:=
 ∀(s:Shared) (us:List Value),K.In s.heap→(us++ds).length=ps.length→BindsTo s fd ⟨us,[]⟩ (ps.zip (us++ds))
def Binds.all(h:∀us:List Value,us.length=ps.length→bindArgs fd ⟨us,[]⟩=pure (ps.zip us)):Binds K fd ps []:=λs us _ hl=>by
 rw[BX]at hl ⊢;show .of_eq (h us hl)
abbrev Passes(CX:HB)(X:Cx)(E:BG):Prop:=∀(v4:ac) (σ:St) (H:A5) (s:Shared) (e:Value) (s':Shared),Inv X v4 σ H s→CX X.stack H s E e s'→X.xe e s'
section
variable {CX: HB}{k: Nat}{f C: Addr}{fd: FuncData}{ps: List Str}{sp: Dw}{vY: List V}{ds: List Value}{E: BG}{x m: Str}{apos: Pos}{e o: Expr}
def Yx{Q:Ar}(F:bj X.prog X.w X.K X.mg X.base CX k f fd ps sp)(hr:dA k X.A)(hb:Binds X.K fd ps ds)(hd:Vals vY ds)(hx:Passes CX X E)
  (I:Inv X v4 σ H s) (r:Vals vs us) (h:sp (vs++vY) H Q E):wpAny (model X.prog X.w) X.A (call (.ref f) us) (Bl X v4 σ Q) X.xe s:=by
 let r2:Vals (vs++vY) (us++ds):=r.append hd;let hl:(us++ds).length=ps.length:=by rw[←r2.length];show F.len _ _ _ _ h
 show wpAny_call (Jx (F.run X.A X.stack s H ⟨us,[]⟩ (us++ds) (vs++vY) Q E hr I.MU (hb s us I.nZ hl) r2 h) λr s' hq=>?_);cases r with
 |error e=>show hx v4 σ H s e s' I hq
 |ok fl=>
  cases fl with
  |ret u=>show I.after hq
  |next=>show False.elim hq
  |brk=>show False.elim hq
  |cont=>show False.elim hq
def mm(F:bj X.prog X.w X.K X.mg X.base CX k f fd ps sp)(hr:dA k X.A)(hg:Bs X x)(hm:X.mg x=some (.ref f))(hk:W.keepIn X.K (.ref f)=true)(hb:Binds X.K fd ps ds)(hd:Vals vY ds)(hx:Passes CX X E)
  (ha:PA X (e::es) t) (qK:(x ==("__debug__" : Str))=false:=by decide) (he:starEach (e::es) X.env=(false,eval e X.env)::starEach es X.env:=by rfl) (iE:(backTo pos (starEach es X.env)).any (·.1)=false:=by rfl) :
  PE X (.Call (.Name x p) (e::es) [] pos) (g0 sp vY E t):=by
 show .mk ?_;intro v4 s σ H Q I h;show Ie (Kc I hg hm ?_ qK);show Me (h₀:=X.base) I.ok.mod.JO hk (AI (ha pos v4 s σ H _ I h) λus s1 ξ=>Xi23 ξ λvs H1 I1 r q=>⟨I1.nZ,?_⟩) he iE;show Yx F hr hb hd hx I1 r q
def zj(he:PE X o ta)(c:pR X.K C)(hm:Meth X.K C m f)(F:bj X.prog X.w X.K X.mg X.base CX k f fd ps sp)(hr:dA k X.A)(hb:Binds X.K fd ps ds)(hd:Vals vY ds)(hx:Passes CX X E)(ha:PA X (e::es) t)
  (ym:starEach (e::es) X.env=(false,eval e X.env)::starEach es X.env:=by rfl) (iE:(backTo pos (starEach es X.env)).any (·.1)=false:=by rfl)
  (ht:eval (.Call (.Attribute o m apos) (e::es) [] pos) X.env=(do
   let ov ←eval o X.env
   standAt apos.atName
   let(f,first) ←holding [ov] (getMethod ov m pl)
   callWith pos f first (backTo pos (starEach (e::es) X.env)) (backToKw pos (keywordEach [] X.env))):=by rfl) :
  PE X (.Call (.Attribute o m apos) (e::es) [] pos) (abH C m sp vY E ta t):=by
 show .mk ?_;intro v4 s σ H Q I h;show W.methodCall_KW (pl:=pl) (AI (he v4 s σ H _ I h) λu s1⟨x,H1,I1,rx,a,dx,fs,ex,ea,l,q⟩=>?_) ht;subst ex;obtain rfl:u=Value.ref a:=rx;show nV I1 ea c hm l ?_;show Me (first:=[.ref a]) (h₀:=X.base) I.ok.mod.JO hm.kp (AI (ha pos v4 s1 σ H1 _ I1 q) λus s2 ξ=>Xi23 ξ λvs H2 I2 r q2=>⟨I2.nZ,?_⟩) ym iE;show Yx (us:=.ref a::us) (vs:=.ref a::vs) F hr hb hd hx I2 (.cons rfl r) q2
structure OS(K:W.Frag)(C f:Addr):Prop where
 makes:W.makesIn K C=true
 init:W.findIn K (.ref C) "__init__" = some (some (.ref f))
 fn:W.isFn K (.ref f)=true
 kp:W.keepIn K (.ref C)=true
def uH{Q:Ar}(M:OS X.K C f)(F:bj X.prog X.w X.K X.mg X.base CX k f fd ps sp)(hr:dA (k+1) X.A)(hb:Binds X.K fd ps ds)(hd:Vals vY ds)
  (hx:Passes CX X E) (I:Inv X v4 σ H s) (r:Vals vs us)
  (h:∀x dx,H x=none→H dx=none→dx≠x→sp (.ref x::(vs++vY)) (AM (AM H dx (.own x)) x (.ins C dx [])) (λv H2=>v=.non∧Q (.ref x) H2) E) :
  wpAny (model X.prog X.w) X.A (call (.ref C) us) (Bl X v4 σ Q) X.xe s:=by
 let hq:=h (s.heap.objs.size+1) s.heap.objs.size (I.bV.fresh (Bk _)) (I.bV.fresh (Ap _)) (BO (GX _));let I2:=Inv.made (C:=C) I;let r2:Vals (V.ref (s.heap.objs.size+1)::(vs++vY)) (Value.ref (s.heap.objs.size+1)::(us++ds)):=.cons rfl (r.append hd);let hl:(Value.ref (s.heap.objs.size+1)::us++ds).length=ps.length:=by
  let e:=r2.length;rw[F.len _ _ _ _ hq]at e;show e.symm
 show wpAny_call (yA (f:=f) I.nZ M.makes M.init (abZ.mp M.fn) (Jx (F.run _ X.stack _ _ ⟨Value.ref (s.heap.objs.size+1)::us,[]⟩ (Value.ref (s.heap.objs.size+1)::(us++ds)) _ _ E (hr.make C us [])
  (I2.MU.make C us []) (hb _ (Value.ref (s.heap.objs.size+1)::us) I2.nZ hl) r2 hq) λr s' P6=>?_))
 cases r with
 |error e=>show hx v4 σ _ _ e s' I2 P6
 |ok fl=>
  cases fl with
  |ret u=>
   let⟨v,H',I3,rv,ev,q3⟩:=I2.after P6;subst ev;show⟨rv,Ps2 (V.ref (s.heap.objs.size+1)) H' ⟨I3,rfl,q3⟩⟩
  |next=>show False.elim P6
  |brk=>show False.elim P6
  |cont=>show False.elim P6
def aa0(M:OS X.K C f)(F:bj X.prog X.w X.K X.mg X.base CX k f fd ps sp)(hr:dA (k+1) X.A)(hg:Bs X x)(hm:X.mg x=some (.ref C))(hb:Binds X.K fd ps ds)(hd:Vals vY ds)(hx:Passes CX X E)
  (ha:PA X (e::es) t) (qK:(x ==("__debug__" : Str))=false:=by decide) (he:starEach (e::es) X.env=(false,eval e X.env)::starEach es X.env:=by rfl) (iE:(backTo pos (starEach es X.env)).any (·.1)=false:=by rfl) :
  PE X (.Call (.Name x p) (e::es) [] pos) (adj C sp vY E t):=by
 show .mk ?_;intro v4 s σ H Q I h;show Ie (Kc I hg hm ?_ qK);show Me (h₀:=X.base) I.ok.mod.JO M.kp (AI (ha pos v4 s σ H _ I h) λus s1 ξ=>Xi23 ξ λvs H1 I1 r q=>⟨I1.nZ,?_⟩) he iE;show uH M F hr hb hd hx I1 r q
end
structure PK(X:Cx)(Rt:List Keyword)(t:CY):Prop where
 run:∀(pos:Pos) v4 s σ H (Q:List V→A5→Prop),Inv X v4 σ H s→t σ H Q→wpAny (model X.prog X.w) X.A (evalAll ((backToKw pos (keywordEach Rt X.env)).map (·.2))) (Nl X v4 σ Q) X.xe s
instance {X:Cx}{Rt:List Keyword}{t:CY}:CoeFun (PK X Rt t) λ_=>∀(pos:Pos) v4 s σ H (Q:List V→A5→Prop),Inv X v4 σ H s→t σ H Q→wpAny (model X.prog X.w) X.A (evalAll ((backToKw pos (keywordEach Rt X.env)).map (·.2))) (Nl X v4 σ Q) X.xe s:=⟨PK.run⟩
structure Av(N P:List Str)(sc:Scope):Prop where
 kind:sc.kind=.function
 co:sc.isCoroutine=false
 gen:sc.isGenerator=false
 nd:N.Nodup
 pre:N.take P.length=P
 par:∀x∈P,sc.names.lookup x=some .local∨sc.names.lookup x=some .cell
 L4:∀y∈sc.names,y.2≠.free
def cp{kindOf:Str→Option NameKind}{x:Str}:∀{binds:List (Str×Value)} {m:KK},(∀v,(x,v)∉binds)→bindL kindOf binds m x=m x
 |[],_,_=>rfl
 |(n,v)::r,m,h=>by
  unfold bindL;rw[cp λw hw=>h w (Cn _ hw)];split
  ·have:x≠n:=by rintro rfl;show h v Ej
   simp[this]
  ·rfl
def gZ{kindOf:Str→Option NameKind}{x:Str}:∀{binds:List (Str×Value)} {m:KK},(∀v,(x,v)∉binds)→bindC kindOf binds m x=m x
 |[],_,_=>rfl
 |(n,v)::r,m,h=>by
  unfold bindC;rw[gZ λw hw=>h w (Cn _ hw)];split
  ·rfl
  ·have:x≠n:=by rintro rfl;show h v Ej
   simp[this]
def jv{kindOf:Str→Option NameKind}{x:Str}{v:Value}:∀{P:List Str} {vs:List Value} {i:Nat} {m:KK},P.Nodup→P[i]?=some x→vs[i]?=some v→kindOf x=some .local→
  bindL kindOf (P.zip vs) m x=some v
 |[],_,_,_,_,h,_,_=>by simp at h
 |_::_,[],_,_,_,_,h,_=>by simp at h
 |p::P,w::vs,0,m,nd,h1,h2,hk=>by
  simp at h1 h2;subst h1;subst h2;show bindL kindOf ((p,w)::P.zip vs) m p=_
  unfold bindL;rw[cp λv hv=>(abu.mp nd).1 (aJ hv).1,AO hk];simp
 |p::P,w::vs,i+1,m,nd,h1,h2,hk=>by
  show bindL kindOf ((p,w)::P.zip vs) m x=_
  unfold bindL;show jv (i:=i) (abu.mp nd).2 (by simpa using h1) (by simpa using h2) hk
def kf{kindOf:Str→Option NameKind}{x:Str}{v:Value}:∀{P:List Str} {vs:List Value} {i:Nat} {m:KK},P.Nodup→P[i]?=some x→vs[i]?=some v→kindOf x≠some .local→
  bindC kindOf (P.zip vs) m x=some v
 |[],_,_,_,_,h,_,_=>by simp at h
 |_::_,[],_,_,_,_,h,_=>by simp at h
 |p::P,w::vs,0,m,nd,h1,h2,hk=>by
  simp at h1 h2;subst h1;subst h2;show bindC kindOf ((p,w)::P.zip vs) m p=_
  unfold bindC;rw[gZ λv hv=>(abu.mp nd).1 (aJ hv).1,AL hk];simp
 |p::P,w::vs,i+1,m,nd,h1,h2,hk=>by
  show bindC kindOf ((p,w)::P.zip vs) m x=_
  unfold bindC;show kf (i:=i) (abu.mp nd).2 (by simpa using h1) (by simpa using h2) hk
abbrev start(N:List Str)(vs:List V):St:=vs.map some++List.replicate (N.length-vs.length) none
abbrev J4(CX:HB)(P:Program)(w:World)(K:W.Frag)(mg:KK)(base:Heap)(N:List Str)(qual:Str)(scope:Scope)(f:Addr)(cd:Value)(A:Around)(outer:List Env)(s:Shared)(H:A5)(E:BG):Cx where
 prog:=P
 w:=w
 K:=K
 mg:=mg
 base:=base
 A:=A.deeper (envOfC qual scope s.heap.objs.size f cd)
 N:=N
 s₀:=s
 H₀:=H
 env:=envOfC qual scope s.heap.objs.size f cd
 outer:=outer
 stack:=envOfC qual scope s.heap.objs.size f cd::outer
 ex:=[]
 calm:=true
 fn:=λ_=>true
 pn:=[]
 xe:=λe s'=>wpAny (model P w) (A.deeper (envOfC qual scope s.heap.objs.size f cd)) (leaving (envOfC qual scope s.heap.objs.size f cd) e) (λ_ Q9=>CX outer H s E e Q9) (λe' Q9=>CX outer H s E e' Q9) s'
def iY{sc:Scope}(h:sc.names.lookup x=some .cell):∃c,(cellsFrom n sc.names []).lookup x=some c:=by
 let q:=W.cellsFrom_some sc.names n [] (.inl h);show adG.mp q
def oR{f:Addr}{cd:Value}{s1:Shared}{E:BG}
  (S:Av N ps scope) (hd:A.handled=none) (e0:Ai P w K mg base A outer s H) (hl:vs.length=ps.length) (r:Vals vs us)
  (x:InCallC s s.heap.objs.size (bindL (envOfC qual scope s.heap.objs.size f cd).kindOf (ps.zip us) λ_=>none) (cellsFrom (s.heap.objs.size+1) scope.names []) (bindC (envOfC qual scope s.heap.objs.size f cd).kindOf (ps.zip us) λ_=>none) s1) :
  Inv (J4 CX P w K mg base N qual scope f cd A outer s H E) [] (start N vs) H s1:=by
 let iE:ps.length≤N.length:=by have:=DT List.length S.pre;rw[DD]at this;lia
 let⟨h1,tk,rfl,hk⟩:=x.done;let PD:∀b:Addr,b∉(J4 CX P w K mg base N qual scope f cd A outer s H E).ex:=λb z=>absurd (show b∈([]:List Addr)from z) (by simp);show⟨⟨e0.mod,S.kind,rfl,rfl,Ap _,λy z c h1 h2=>?_,λy hy=>?_,λy c _ h=>?_,λ_=>hd,Around.frames_deeper e0.frames,.inr ⟨rfl,rfl⟩,λb z=>absurd z (PD b),e0.bs,e0.F0,λb _ _=>PD b,λb z=>absurd z (PD b),e0.lY,e0.Gm⟩,
  rfl,e0.bare,Un.kept hk,⟨_,x.toInCall.ns,λi y v h1 h2 h3=>?_⟩,λy c h=>⟨_,x.cell y c h⟩,e0.bV.fresh (Ap _),λy c h=>?_,λp hp=>absurd (show p∈([]:ac)from hp) (by simp),e0.bV.kept hk,?_⟩
 ·show name_of_addr x.apart (M7 h1) (M7 h2)
 ·let hy:scope.names.lookup y=some .cell∨scope.names.lookup y=some .free:=hy
  rcases hy with hy|hy
  ·show iY hy
  ·show absurd rfl (S.L4 _ (M7 hy))
 ·show Cv (x.above y c (M7 h))
 ·let hi:i<vs.length:=by
   unfold start at h2;by_cases hi:i<vs.length
   ·show hi
   ·rw[dD (by simpa using hi)]at h2
    rw[jb]at h2;split at h2<;>cases h2
  let ha:vs[i]?=some v:=by
   unfold start at h2;rw[fB (by simpa using hi),Fo]at h2;cases e:vs[i]? with
   |none=>rw[e]at h2;cases h2
   |some a=>rw[e]at h2;cases h2;rfl
  let⟨u,hu,rv⟩:=r.get ha;let hp:ps[i]?=some y:=by
   rw[←S.pre,List.getElem?_take_of_lt (by lia)];show h1
  let VS:ps.Nodup:=by rw[←S.pre];show S.nd.sublist (Qz _ _)
  show⟨u,rv,?_⟩;rcases S.par y (LK hp)with k|k
  ·show .inl ⟨k,jv VS hp hu k⟩
  ·let⟨c,e⟩:=iY (n:=s.heap.objs.size+1) k
   show .inr ⟨.inl k,c,e,?_⟩;let q:=x.cell y c e;rw[kf VS hp hu (by show scope.names.lookup y≠_;rw[k];decide)]at q;show q
 ·show e0.bV.fresh (Cv (x.above y c (M7 h)))
 ·unfold start
  show _=N.length
  rw[BP,AF,List.length_replicate];lia
def dW{f:Addr}{name:Str}{params:Arguments}{dV BI doc pm cq ct oc:Value}{an od:Option Addr}
  {BS:Array (Option Value)}   (lk:K.lookup f=some ⟨oc,od,.func (W.fnOf name qual params body scope dV BI doc pm an cq ct),BS⟩) (xC:W.codeIn K cq qual=true) (S:Av N ps scope)
  (len:∀vs H Q E,sp vs H Q E→vs.length=ps.length)
  (oh:∀(A:Around) (outer:List Env) (s:Shared) (H:A5) (vs:List V) (Q:Ar) (E:BG),dA k (A.deeper (envOfC qual scope s.heap.objs.size f cq))→sp vs H Q E→
   ∃t,mY (J4 CX P w K mg base N qual scope f cq A outer s H E) body t∧t {nx:=λ_ H'=>Q .non H',rt:=Q} (start N vs) H) :
  bj P w K mg base CX (k+1) f (W.fnOf name qual params body scope dV BI doc pm an cq ct) ps sp:=by
 show⟨len,λA outer s H args us vs Q E hr e0 hb r yn=>?_⟩;let hl:=len _ _ _ _ yn;let KX:K.In s.heap:=e0.mod.JO.keeps λb o e=>(e0.bs b o e).1;let lim:s.heap.NoLimit:=e0.mod.nolimit.keeps λb o e=>(e0.bs b o e).1;let Qg:∀y∈ps.zip us,scope.names.lookup y.1=some .local∨(scope.names.lookup y.1=some .cell∧((cellsFrom (s.heap.objs.size+1) scope.names []).lookup y.1).isSome=true):=λ⟨n,v⟩ hy=>by
  rcases S.par n (aJ hy).1 with q|q
  ·show .inl q
  ·show .inr ⟨q,W.cellsFrom_some _ _ _ (.inl q)⟩
 show codeAny_call_function hr.depth (KX _ _ lk) rfl S.co S.gen rfl (W.codeRec_of KX xC) (hb _ _ _ _ ?_);show wpAny_newFunctionEnv_cells S.kind Qg λenv he s1 x=>?_;subst he;show⟨lim.keeps x.toInCall.keep,codeAny_func ?_⟩;let⟨t,ht,hq⟩:=oh A outer s H vs Q E (hr.deeper _) yn;let I:Inv (J4 CX P w K mg base N qual scope f cq A outer s H E) [] (start N vs) H s1:=oR S hr.hd e0 hl r x;show Be (ht [] s1 (start N vs) H _ I hq) (λfl s' hs=>?_) λe s' hs=>hs;let fin:∀{σ':St} {H':A5} {v:V} {u:Value},Inv (J4 CX P w K mg base N qual scope f cq A outer s H E) [] σ' H' s'→RelV v u→Q v H'→Sj outer P w H s Q u s':=
  λ{σ' H' v u} J rv q=>Ps2 v H' ⟨J.os,J.bare,J.base,J.bV,rv,q⟩
 cases fl with
 |ret u=>
  let⟨v,σ',H',J,rv,q⟩:=hs;show fin J rv q
 |next=>
  let⟨σ',H',J,q⟩:=hs;show fin (v:=V.non) (u:=Value.none) J rfl q
 |brk=>
  let⟨_,_,_,q⟩:=hs;show False.elim q
 |cont=>
  let⟨_,_,_,q⟩:=hs;show False.elim q
section
variable {x: Str}{e: Expr}{id T: String}{r: List V→A5→Ar→Prop}
abbrev QZ(r:List V→A5→Ar→Prop)(t:CY):AY:=λσ H Q=>t σ H λvs H1=>r vs H1 Q
def jy(hc:Fb X (.builtin id) r)(hg:Bs X x)(hm:X.mg x=none)(hv:bootBuiltins x=some (.builtin id))(ha:PA X (e::es) t)(hn:x ≠ "__name__" := by decide)(qK:(x ==("__debug__" : Str))=false:=by decide)
  (he:starEach (e::es) X.env=(false,eval e X.env)::starEach es X.env:=by rfl) (iE:(backTo pos (starEach es X.env)).any (·.1)=false:=by rfl):PE X (.Call (.Name x p) (e::es) [] pos) (QZ r t):=by
 show .mk ?_;intro v4 s σ H Q I h;show Ie (Kx I hg hm hv ?_ hn qK);show PyProof.Rows.callWith_builtin1 (AI (ha pos v4 s σ H _ I h) λus s1 ξ=>Xi23 ξ λvs H1 I1 r1 q1=>hc v4 s1 σ H1 vs us Q I1 r1 q1) he iE
def adu(hc:Fb X (.type T) r)(hg:Bs X x)(hm:X.mg x=none)(hv:bootBuiltins x=some (.type T))(ha:PA X (e::es) t)(hn:x ≠ "__name__" := by decide)(qK:(x ==("__debug__" : Str))=false:=by decide)
  (he:starEach (e::es) X.env=(false,eval e X.env)::starEach es X.env:=by rfl) (iE:(backTo pos (starEach es X.env)).any (·.1)=false:=by rfl):PE X (.Call (.Name x p) (e::es) [] pos) (QZ r t):=by
 show .mk ?_;intro v4 s σ H Q I h;show Ie (Kx I hg hm hv ?_ hn qK);show Np (AI (ha pos v4 s σ H _ I h) λus s1 ξ=>Xi23 ξ λvs H1 I1 r1 q1=>hc v4 s1 σ H1 vs us Q I1 r1 q1) he iE
end
end L2
namespace HT
open PySem PyProof.Rows
variable {sl:Addr}{vl vu:Value}{lo hi:Option Int}
section
open PySem.SeqAt
open PySem.AutoSeq1 (wpAny_loadPart')
open PySem.MeetsSeq PySem.MeetsSeq2 PySem.MeetsSeq3
end
section
variable {prog: Program}{w: World}{A: Around}{E: Value→Shared→Prop}{s: Shared}
abbrev da(n d:Nat):Option Int→Nat
 |none=>d
 |some v=>if v<0 then(v+(n:Int)).toNat else min v.toNat n
def rR(n d:Nat):da n d none=d:=rfl
def vi(n d:Nat)(hd:d≤n)(o:Option Int):da n d o≤n:=by
 cases o with
 |none=>show hd
 |some v=>
  show(if v<0 then(v+(n:Int)).toNat else min v.toNat n)≤n
  by_cases hv:v<0
  ·rw[AO hv];lia
  ·rw[AL hv];show Nat.min_le_right _ _
def bO(v:Int)(n d:Nat):(if v<0 then max (v+(n:Int)) 0 else min v (n:Int))=((da n d (some v):Nat):Int):=by
 show(if v<0 then max (v+(n:Int)) 0 else min v (n:Int))=(((if v<0 then(v+(n:Int)).toNat else min v.toNat n):Nat):Int)
 by_cases hv:v<0
 ·simp only[AO hv];lia
 ·simp only[AL hv];lia
def vZ(lo hi:Option Int)(n:Nat):Builtin.Slice.sliceAdjust lo hi 1 (n:Int)=(((da n 0 lo:Nat):Int),((da n n hi:Nat):Int)):=by
 let h1:¬((1:Int)<0):=by lia
 unfold Builtin.Slice.sliceAdjust;simp only[h1,MX];show Prod.ext ?_ ?_
 ·cases lo with
  |none=>rfl
  |some v=>show bO v n 0
 ·cases hi with
  |none=>rfl
  |some v=>show bO v n n
def ue(i j:Nat):Builtin.Slice.slicePlaces (i:Int) (j:Int) 1=j-i:=by
 unfold Builtin.Slice.slicePlaces;let h1:(1:Int)>0:=by lia
 simp only[h1,IJ,Int.ediv_one];split<;>lia
def gb{v:Value}{o:Option Int}{Q:Option Int→Shared→Prop}(p:IsPart v o)(h:Q o s):wpAny (model prog w) A (Builtin.Slice.slicePartIndex v) Q E s:=by
 cases p with
 |none=>show slicePart_none h
 |int i t=>show slicePart_int h
def i9{n:Nat}{Q:Int×Int×Nat→Shared→Prop}(hs:s.heap.IsSliceOf sl vl vu .none)(pl:IsPart vl lo)(pu:IsPart vu hi)
  (h:Q (((da n 0 lo:Nat):Int),1,da n n hi-da n 0 lo) s):wpAny (model prog w) A (Builtin.Slice.sliceApplied (.ref sl) (pure (n:Int))) Q E s:=by
 let⟨os,Mz,NG,MJ⟩:=id hs;unfold Builtin.Slice.sliceApplied Builtin.Slice.sliceFields;show A9 (A9 (FW Mz MJ (x:=vl) rfl (A9 (FW Mz MJ (x:=vu) rfl (A9 (FW Mz MJ (x:=.none) rfl (AQ ?_)))))));show A9 (slicePart_none ?_);show wpAny _ _ (if((1:Int)==0)=true then _ else _) _ _ s
 rw[AL (by decide)];show A9 (gb pl (A9 (gb pu (A9 (AQ ?_)))));show wpAny _ _ (match Builtin.Slice.sliceAdjust lo hi 1 (n:Int)with|(lo,hi)=>pure (lo,(1:Int),Builtin.Slice.slicePlaces lo hi 1)) _ _ s
 rw[vZ lo hi n];show wpAny _ _ (pure (((da n 0 lo:Nat):Int),(1:Int),Builtin.Slice.slicePlaces ((da n 0 lo:Nat):Int) ((da n n hi:Nat):Int) 1)) _ _ s
 rw[ue];show AQ h
def rV(xs:Array Value)(i k:Nat):((List.range k).filterMap λ(m:Nat)=>xs[((i:Int)+(m:Int)*1).toNat]?).toArray=((xs.toList.drop i).take k).toArray:=by
 let e:(λ(m:Nat)=>xs[((i:Int)+(m:Int)*1).toNat]?)=λm=>xs[i+m]? := by
  funext m
  have:((i:Int)+(m:Int)*1).toNat=i+m:=by lia
  rw[this]
 rw[e];have:=pick_run xs i k;rw[List.filterMap_map]at this;let e2:((λx=>xs[x]?) ∘ λx=>i+x)=λm=>xs[i+m]? := rfl;rw[e2]at this;rw[this]
def oi{t:Addr}{items:Array Value}{Q:xz}(ht:IsTup s.heap t items)(hs:s.heap.IsSliceOf sl vl vu .none)(pl:IsPart vl lo)(pu:IsPart vu hi)
  (hw:¬(da items.size 0 lo=0∧da items.size items.size hi=items.size))
  (h:Q (.ref s.heap.objs.size) {s with heap:=s.heap.push {cls:=.type "tuple",data:=.seq ((items.toList.drop (da items.size 0 lo)).take (da items.size items.size hi-da items.size 0 lo)).toArray}})
  (hsz:items.size≤sizeLine):wpAny (model prog w) A (getItem (.ref t) (.ref sl)) Q E s:=by
 let AW:sizeOk (.seq ((items.toList.drop (da items.size 0 lo)).take (da items.size items.size hi-da items.size 0 lo)).toArray):=by
  show((items.toList.drop (da items.size 0 lo)).take (da items.size items.size hi-da items.size 0 lo)).toArray.size≤sizeLine
  rw[Bn,DD,FG,SR];lia
 let hj:da items.size items.size hi≤items.size:=vi _ _ (Ap _) hi;let⟨os,Mz,NG,MJ⟩:=id hs;let Uj:s.TypeIs (.ref sl) "slice" :=⟨os,Mz,NG⟩;unfold getItem
 try with_reducible refine Gl ?_
 first|refine A9 (AQ ?_)|skip
 show A9 (wpAny_sequenceKey ht.typeIs (by decide) ?_);show A9 (Ku (name:=Str.ofString "__getitem__") ht.typeIs abk
  (Jf abk ht.typeIs entry_tuple_getitem ?_ (args_tuple_getitem _ _)))
 show wpAny _ _ (Builtin.Tuple.tupleItemsOf (.ref t) >>= _) _ _ s
 show A9 (tupleItemsOf_ ht ?_);show A9 (OD Uj ?_);rw[AO (by decide)];show A9 (i9 hs pl pu ?_);let Rx:¬((((da items.size 0 lo:Nat):Int)==0&&(1:Int)==1&&(da items.size items.size hi-da items.size 0 lo)==items.size)=true):=by
  intro q;rw[EJ,EJ]at q;let q1:((da items.size 0 lo:Nat):Int)=0:=eq_of_beq q.1.1;let q2:da items.size items.size hi-da items.size 0 lo=items.size:=eq_of_beq q.2;show hw ⟨by lia,by lia⟩
 show wpAny _ _ (if(((da items.size 0 lo:Nat):Int)==0&&(1:Int)==1&&(da items.size items.size hi-da items.size 0 lo)==items.size)=true then _ else _) _ _ s
 rw[AL Rx,rV];first
  |show A9 (m:=Builtin.Tuple.tupleExact _) (IL (AQ ⟨_,rfl,AQ h⟩) AW)
  |show A9 (m:=Builtin.Tuple.tupleExact _) (IL (A9 (AQ (AQ ⟨_,rfl,AQ h⟩))) AW)
  |show A9 (A9 (m:=Builtin.Tuple.tupleExact _) (IL (AQ (AQ ⟨_,rfl,AQ h⟩)) AW))
  |show A9 (A9 (m:=Builtin.Tuple.tupleExact _) (IL (AQ ⟨_,rfl,AQ h⟩) AW))
end
end HT
namespace L2
open PySem PySem.Spec PyProof.Rows
variable {n j t':Nat}{i:Int}{A:Around}{s:Shared}{y x:V}{u v:Value}{bp:List Value}{X: Cx}{e: Expr}{pos: Pos}
abbrev IE:=St→A5→(Option Int→A5→Prop)→Prop
structure PO(X:Cx)(e:Option Expr)(t:IE):Prop where
 run:∀v4 s σ H (Q:Option Int→A5→Prop),Inv X v4 σ H s→t σ H Q→
  wpAny (model X.prog X.w) X.A (evalPart e X.env) (λu s'=>∃o H',Inv X v4 σ H' s'∧IsPart u o∧Q o H') X.xe s
instance {X:Cx}{e:Option Expr}{t:IE}:CoeFun (PO X e t) λ_=>∀v4 s σ H (Q:Option Int→A5→Prop),Inv X v4 σ H s→t σ H Q→wpAny (model X.prog X.w) X.A (evalPart e X.env) (λu s'=>∃o H',Inv X v4 σ H' s'∧IsPart u o∧Q o H') X.xe s:=⟨PO.run⟩
abbrev qg:IE:=λ_ H Q=>Q none H
abbrev abC(t:AY):IE:=λσ H Q=>t σ H λx H1=>∃i,x=.int i∧Q (some i) H1
section
variable {te: AY}{lo hi: Option Expr}{tl th: IE}{p2: Pos}
def vU:PO X none qg:=by
 show .mk ?_;intro v4 s σ H Q I h;rw[evalPart_none];show AQ ⟨none,H,I,.none,h⟩
def ads(h:PE X e te):PO X (some e) (abC te):=by
 show .mk ?_;intro v4 s σ H Q I hw;rw[evalPart_some];show AI (h v4 s σ H _ I hw) λu s1 ξ=>Xi23 ξ λx H1 I1 r1 q1=>?_;let⟨i,rfl,q⟩:=q1;let⟨t,rfl⟩:=r1;show Ps2 (some i) H1 ⟨I1,.int i t,q⟩
abbrev JP(X:Cx)(r:V→Option Int→Option Int→A5→Ar→Prop):Prop:=
 ∀v4 s σ H (x:V) (v vl vu:Value) (lo hi:Option Int) (sl:Addr) (Q:Ar),Inv X v4 σ H s→RelV x v→s.heap.IsSliceOf sl vl vu .none→IsPart vl lo→IsPart vu hi→r x lo hi H Q→
  ∃T id,typeLookup (.type T) "__getitem__" = pure (some (.builtin id))∧s.TypeIs v T∧wpAny (model X.prog X.w) X.A (getItem v (.ref sl)) (Bl X v4 σ Q) X.xe s
abbrev yM(r:V→Option Int→Option Int→A5→Ar→Prop)(te:AY)(tl th:IE):AY:=λσ H Q=>te σ H λx H1=>tl σ H1 λl H2=>th σ H2 λu H3=>r x l u H3 Q
def xO{r:V→Option Int→Option Int→A5→Ar→Prop}(hr:JP X r)(he:PE X e te)(hl:PO X lo tl)(hu:PO X hi th):PE X (.Subscript e (.Slice lo hi none p2) pos) (yM r te tl th):=by
 show .mk ?_;intro v4 s σ H Q I h;show Subscript_ (AI (he v4 s σ H _ I h) λv s1 ξ=>Xi23 ξ λx H1 I1 r1 q1=>?_);show wpAny_Slice (AI (hl v4 s1 σ H1 _ I1 q1) λvl s2 ξ=>Xi23 ξ λl H2 I2 pl q2=>AI (hu v4 s2 σ H2 _ I2 q2) λvu s3 ξ=>Xi23 ξ λu H3 I3 pu q3=>?_);rw[evalPart_none];show AQ ?_;let I4:Inv X v4 σ H3 {s3 with heap:=s3.heap.push {cls:=.type "slice",data:=.fields #[vl,vu,.none]}}:=I3.kept (t':=s3.toks) λb ob q=>B1 _ q;let⟨T,id,hT,ht,hg⟩:=hr v4 {s3 with heap:=s3.heap.push {cls:=.type "slice",data:=.fields #[vl,vu,.none]}} σ H3 x v vl vu l u s3.heap.objs.size Q I4 r1 (Heap.IsSliceOf.new ..) pl pu q3;show wpAny (model X.prog X.w) X.A (subscriptTail e (.Slice lo hi none p2) v (.ref s3.heap.objs.size)) (Bl X v4 σ Q) X.xe {s3 with heap:=s3.heap.push {cls:=.type "slice",data:=.fields #[vl,vu,.none]}}
 show tail_any (ops:=[.ref s3.heap.objs.size,v]) ht hT hg (by with_unfolding_all rfl)
abbrev GJ(xs:List V)(lo hi:Option Int):List V:=(xs.drop (HT.da xs.length 0 lo)).take (HT.da xs.length xs.length hi-HT.da xs.length 0 lo)
def c6(xs:List V)(lo hi:Option Int):(GJ xs lo hi).length≤xs.length:=by
 unfold GJ;rw[DD,FG];lia
abbrev xg(K:W.Frag):V→Option Int→Option Int→A5→Ar→Prop:=λx lo hi H Q=>∃a xs,x=.ref a∧eP K H a xs∧
 ¬(HT.da xs.length 0 lo=0∧HT.da xs.length xs.length hi=xs.length)∧∀p,H p=none→Q (.ref p) (AM H p (.tup (GJ xs lo hi)))
def oz:JP X (xg X.K):=by
 intro v4 s σ H x v vl vu lo hi sl Q I rx hs pl pu h;let⟨a,xs,rfl,hx,hw,q⟩:=h;cases rx;let⟨bp,r,ht,hz⟩:=I.tuple hx;let hlen:bp.toArray.size=xs.length:=by rw[Bn];show r.length.symm
 show Ps2 ("tuple") _ ⟨abk.lookup,ht.typeIs,?_⟩;show HT.oi ht hs pl pu (by rw[hlen];show hw) ?_ (by rw[hlen];show hz);rw[hlen];show Ps2 (.ref s.heap.objs.size) _ ⟨I.laid (t':=s.toks) (o:=.tup (GJ xs lo hi)) (λb ob q=>B1 _ q) (Ap _) ?_,rfl,q _ (I.bV.fresh (Ap _))⟩;show⟨D6 (c6 xs lo hi) hz,_,(r.drop (HT.da xs.length 0 lo)).take (HT.da xs.length xs.length hi-HT.da xs.length 0 lo),IsTup.new _ _⟩
end
abbrev JM(n:Nat)(i:Int):Option Nat:=if 0≤i then(if i<n then some i.toNat else none)else if -(n:Int)≤i then some (i+n).toNat else none
abbrev CR{α:Type}(xs:List α)(i:Int):Option α:=(JM xs.length i).bind λj=>xs[j]?
def rX(h:JM n i=some j):seqIndex? i n=some j∧j<n∧-(n:Int)≤i∧i<n:=by
 unfold JM at h;by_cases h0:0≤i
 ·rw[AO h0]at h
  by_cases h1:i<n
  ·rw[AO h1]at h
   let e:i.toNat=j:=FJ h;show⟨by rw[seqIndex_of h0 h1,e],by lia,by lia,h1⟩
  ·rw[AL h1]at h;cases h
 ·rw[AL h0]at h
  by_cases h1:-(n:Int)≤i
  ·rw[AO h1]at h
   let e:(i+n).toNat=j:=FJ h;show⟨by rw[seqIndex_neg (by lia) h1,e],by lia,h1,by lia⟩
  ·rw[AL h1]at h;cases h
def ah{α:Type}{xs:List α}{v:α}(h:CR xs i=some v):∃j,seqIndex? i xs.length=some j∧xs[j]?=some v∧j<xs.length∧-(xs.length:Int)≤i∧i<xs.length:=by
 unfold CR at h;cases e:JM xs.length i with
 |none=>rw[e]at h;cases h
 |some j=>
  rw[e]at h;let⟨h1,h2,h3,h4⟩:=rX e;show⟨j,h1,h,h2,h3,h4⟩
def HS{α:Type}{xs:List α}{v:α}(h:xs[j]?=some v):CR xs (j:Int)=some v:=by
 let hj:j<xs.length:=(abe.mp h).1;let e:JM xs.length (j:Int)=some j:=by
  unfold JM;rw[AO (by lia),AO (by lia)];simp
 unfold CR;rw[e];show h
abbrev LR(b:Expr):Prop:=∀o i,subscripted b false o i=operate [o,i] (getItem o i)
abbrev Ji(X:Cx)(r:EA):Prop:=
 ∀(value slice:Expr) v4 s σ H (x y:V) (v u:Value) (Q:Ar),Inv X v4 σ H s→RelV x v→RelV y u→r x y H Q→
  subscripted slice false v u=operate [v,u] (getItem v u)→wpAny (model X.prog X.w) X.A (subscriptTail value slice v u) (Bl X v4 σ Q) X.xe s
abbrev LH(X:Cx)(id:String)(r:V→List V→A5→Ar→Prop):Prop:=
 ∀v4 s σ H (x:V) (xs:List V) (v:Value) (us:List Value) (Q:Ar),Inv X v4 σ H s→RelV x v→Vals xs us→r x xs H Q→
  wpAny (model X.prog X.w) X.A (call (.builtin id) (v::us)) (Bl X v4 σ Q) X.xe s
section
variable {a b: Expr}{ta tb: AY}
def Ji.or{r r':EA}(h:Ji X r)(h':Ji X r'):Ji X (λx y H Q=>r x y H Q∨r' x y H Q):=by
 intro value slice v4 s σ H x y v u Q I rx ry q hs;rcases q with q|q
 ·show h value slice v4 s σ H x y v u Q I rx ry q hs
 ·show h' value slice v4 s σ H x y v u Q I rx ry q hs
def jg{r:EA}(hr:Ji X r)(ha:PE X a ta)(hb:PE X b tb)(hs:LR b):PE X (.Subscript a b pos) (Md r ta tb):=by
 show .mk ?_;intro v4 s σ H Q I h;show Subscript_ (Ur ha hb I h λv u s2 x y H2 I2 rx ry q=>hr a b v4 s2 σ H2 x y v u Q I2 rx ry q (hs _ _))
abbrev bD(K:W.Frag):EA:=λx y H Q=>∃p xs i v,x=.ref p∧y=.int i∧jI K H p xs∧CR xs i=some v∧Q v H
abbrev dE(K:W.Frag):EA:=λx y H Q=>∃p xs i v,x=.ref p∧y=.int i∧eP K H p xs∧CR xs i=some v∧Q v H
abbrev gi:EA:=λx y H Q=>∃z i c,x=.str z∧y=.int i∧z.length≤sizeLine∧CR z.cps.toList i=some c∧Q (.str ⟨#[c]⟩) H
def Ij:Ji X (bD X.K):=by
 intro value slice v4 s σ H x y v u Q I rx ry h hs;let⟨p,xs,i,z,rfl,rfl,hq,he,q⟩:=h;cases rx;let⟨t,rfl⟩:=ry;let⟨bp,r,pl,hz⟩:=I.list hq;let⟨j,h1,h2,h3,h4,h5⟩:=ah he;let⟨w,ew,rT⟩:=r.get h2;let hl:=r.length;let hn:=Kh;let fin:Bl X v4 σ Q w s:=Ps2 z H ⟨I,rT,q⟩;by_cases h0:0≤i
 ·let hj:i.toNat=j:=by
   rw[seqIndex_of h0 h5]at h1;show FJ h1
  show item_listR pl.isList h0 (by lia) (by rw[hj];simpa using ew) fin hs
 ·let hj:(i+(bp.toArray.size:Int)).toNat=j:=by
   rw[seqIndex_neg (by lia) h4]at h1;rw[Bn,←hl];show FJ h1
  show subscriptTail_builtinR (x:=w) pl.isList.typeIs slot_list_getitem.lookup
   (wpAny_getItem_list_neg (Q:=λr s'=>r=w∧Bl X v4 σ Q r s') pl.isList (by lia) (by rw[Bn]<;>lia) (by lia) (by rw[hj];simpa using ew) ⟨rfl,fin⟩) hs
def Mm:Ji X (dE X.K):=by
 intro value slice v4 s σ H x y v u Q I rx ry h hs;let⟨p,xs,i,z,rfl,rfl,hq,he,q⟩:=h;cases rx;let⟨t,rfl⟩:=ry;let⟨bp,r,pl,hz⟩:=I.tuple hq;let⟨j,h1,h2,h3,h4,h5⟩:=ah he;let⟨w,ew,rT⟩:=r.get h2;let hl:=r.length;let hn:=Kh;let fin:Bl X v4 σ Q w s:=Ps2 z H ⟨I,rT,q⟩;show subscriptTail_builtinR (x:=w) pl.typeIs slot_tuple_getitem.lookup
  (getItem_tuple (j:=j) (Q:=λr s'=>r=w∧Bl X v4 σ Q r s') pl (by lia) (by lia) (by rw[Bn,←hl];show h1) (by simpa using ew) ⟨rfl,fin⟩) hs
def cE:Ji X gi:=by
 intro value slice v4 s σ H x y v u Q I rx ry h hs;let⟨z,i,c,rfl,rfl,hz,he,q⟩:=h;let⟨t,rfl⟩:=rx;let⟨t',rfl⟩:=ry;let⟨j,h1,h2,h3,h4,h5⟩:=ah he;let hl:z.cps.toList.length=z.length:=by simp[Str.length]
 rw[hl]at h1 h4 h5;let hn:=Kh;show tail_any (Lv s z t) slot_str_getitem.lookup (getItem_str (c:=c) (by
  let e1:decide (i < -(2^63:Int))=false:=Ck (by lia);let e2:decide (i ≥ 2^63)=false:=Ck (by lia);rw[e1,e2,OV]) (by rw[h1];simpa using h2) ⟨.str ⟨#[c]⟩,H,I.tok _,⟨_,rfl⟩,q⟩) hs
abbrev nD(K:W.Frag):EA:=λx y H Q=>bD K x y H Q∨dE K x y H Q∨gi x y H Q
def abJ:Ji X (nD X.K):=Ij.or (Mm.or cE)
def abN(lo hi:Option Int)(n:Nat):(sliceBounds lo hi none n).1=((HT.da n 0 lo:Nat):Int)∧(sliceBounds lo hi none n).2.1=((HT.da n n hi:Nat):Int)∧(sliceBounds lo hi none n).2.2=1:=by
 show⟨?_,?_,rfl⟩
 ·cases lo with
  |none=>simp[sliceBounds,HT.da]
  |some i=>
   simp only[sliceBounds,HT.da,Option.getD_none,show(1:Int)>0 by decide,IJ];by_cases h:i<0
   ·simp only[h,IJ]<;>lia
   ·simp only[h,MX]<;>lia
 ·cases hi with
  |none=>simp[sliceBounds,HT.da]
  |some i=>
   simp only[sliceBounds,HT.da,Option.getD_none,show(1:Int)>0 by decide,IJ];by_cases h:i<0
   ·simp only[h,IJ]<;>lia
   ·simp only[h,MX]<;>lia
def qC(bp:List Value)(lo hi:Option Int):slicePick bp.toArray lo hi none=((bp.drop (HT.da bp.length 0 lo)).take (HT.da bp.length bp.length hi-HT.da bp.length 0 lo)).toArray:=by
 let⟨h1,h2,h3⟩:=abN lo hi bp.toArray.size;unfold slicePick;rw[h1,h2,h3];simp only[sliceRange_one,pick_run,Bn]<;>rfl
abbrev yw(K:W.Frag):V→Option Int→Option Int→A5→Ar→Prop:=λx lo hi H Q=>∃a xs,x=.ref a∧jI K H a xs∧∀p,H p=none→Q (.ref p) (AM H p (.lst (GJ xs lo hi)))
def ab8:JP X (yw X.K):=by
 intro v4 s σ H x v vl vu lo hi sl Q I rx hs pl pu h;let⟨a,xs,rfl,hx,q⟩:=h;cases rx;let⟨bp,r,ht,hz⟩:=I.list hx;let hlen:=r.length;show Ps2 ("list") _ ⟨slot_list_getitem.lookup,ht.isList.typeIs,?_⟩;show wpAny_getItem_list_slice ht.isList hs pl pu .none (by simp) ?_ (by rw[Bn]<;>lia)
 rw[qC,←hlen];show Ps2 (.ref s.heap.objs.size) _ ⟨I.laid (t':=s.toks) (o:=.lst (GJ xs lo hi)) (λb ob q=>B1 _ q) (Ap _) ?_,rfl,q _ (I.bV.fresh (Ap _))⟩;show⟨D6 (c6 xs lo hi) hz,_,0,(r.drop (HT.da xs.length 0 lo)).take (HT.da xs.length xs.length hi-HT.da xs.length 0 lo),D8 _ rfl⟩
abbrev EN:V→Bool
 |.non=>true
 |.bl _=>true
 |.int _=>true
 |.str _=>true
 |_=>false
abbrev Ea:V→V→Bool
 |.non,.non=>true
 |.bl a,.bl b=>a==b
 |.bl a,.int b=>(if a then 1 else 0)==b
 |.int a,.bl b=>a ==(if b then 1 else 0)
 |.int a,.int b=>a==b
 |.str a,.str b=>a==b
 |_,_=>false
def Lx(ry:RelV y u)(rx:RelV x v)(fy:EN y=true)(fx:EN x=true):SeqAt.EqAt A s u v (Ea y x):=by
 cases y with
 |non=>
  cases ry;cases x with
  |non=>cases rx;show SeqAt.EqAt.same _
  |bl b=>cases rx;show SeqAt.EqAt.none_bool b
  |int b=>let⟨t,rfl⟩:=rx;show SeqAt.EqAt.none_int b t
  |str b=>let⟨t,rfl⟩:=rx;show SeqAt.EqAt.none_str b t
  |_=>show absurd (show false=true from fx) Cc
 |bl a=>
  cases ry;cases x with
  |non=>cases rx;show SeqAt.EqAt.bool_none a
  |bl b=>cases rx;show SeqAt.EqAt.bool_bool a b
  |int b=>let⟨t,rfl⟩:=rx;show SeqAt.EqAt.bool_int a b t
  |str b=>let⟨t,rfl⟩:=rx;show SeqAt.EqAt.bool_str a b t
  |_=>show absurd (show false=true from fx) Cc
 |int a=>
  let⟨t',rfl⟩:=ry;cases x with
  |non=>cases rx;show SeqAt.EqAt.int_none a t'
  |bl b=>cases rx;show SeqAt.EqAt.int_bool a t' b
  |int b=>let⟨t,rfl⟩:=rx;show SeqAt.EqAt.int_int a t' b t
  |str b=>let⟨t,rfl⟩:=rx;show SeqAt.EqAt.int_str a t' b t
  |_=>show absurd (show false=true from fx) Cc
 |str a=>
  let⟨t',rfl⟩:=ry;cases x with
  |non=>cases rx;show SeqAt.EqAt.str_none a t'
  |bl b=>cases rx;show SeqAt.EqAt.str_bool a t' b
  |int b=>let⟨t,rfl⟩:=rx;show SeqAt.EqAt.str_int a t' b t
  |str b=>let⟨t,rfl⟩:=rx;show SeqAt.EqAt.str_str a t' b t
  |_=>show absurd (show false=true from fx) Cc
 |_=>show absurd (show false=true from fy) Cc
abbrev FZ(x:V)(u:Value):Bool:=match u with
 |.none=>Ea .non x
 |.bool b=>Ea (.bl b) x
 |.int i _=>Ea (.int i) x
 |.str z _=>Ea (.str z) x
 |_=>false
def iT(r:RelV y u)(f:EN y=true):FZ x u=Ea y x:=by
 cases y with
 |non=>cases r;rfl
 |bl b=>cases r;rfl
 |int i=>let⟨t,rfl⟩:=r;rfl
 |str z=>let⟨t,rfl⟩:=r;rfl
 |_=>show absurd (show false=true from f) Cc
def MN{x:V}:∀{xs:List V} {us:List Value},Vals xs us→xs.all EN=true→us.any (FZ x)=xs.any λy=>Ea y x
 |_,_,.nil,_=>rfl
 |y::xs,u::us,.cons r t,f=>by
  rw[Ib,EJ]at f;rw[G7,G7,iT r f.1,MN t f.2]
def M8{A:Around}{s:Shared}{x:V}{v:Value}(rx:RelV x v)(fx:EN x=true):∀{xs:List V} {us:List Value},Vals xs us→xs.all EN=true→∀u∈us,SeqAt.EqAt A s u v (FZ x u)
 |_,_,.nil,_=>λu hu=>by cases hu
 |y::xs,u::us,.cons r t,f=>λu' hu=>by
  rw[Ib,EJ]at f;rcases aaf.mp hu with rfl|hu
  ·rw[iT r f.1];show Lx r rx f.1 fx
  ·show M8 rx fx t f.2 u' hu
abbrev Dk(x:V)(xs:List V):Bool:=xs.any λy=>Ea y x
abbrev XS(K:W.Frag)(neg:Bool):EA:=λx y H Q=>∃p xs,y=.ref p∧(jI K H p xs∨eP K H p xs)∧EN x=true∧xs.all EN=true∧Q (.bl (if neg then !Dk x xs else Dk x xs)) H
def dM:iL X (compareOp .In) (XS X.K false):=by
 intro v4 s σ H x y v u Q I rx ry h;let⟨p,xs,rfl,hq,fx,fs,q⟩:=h;cases ry;rcases hq with hq|hq
 ·let⟨bp,r,pl,hz⟩:=I.list hq
  show SeqAt.in_listAt (FZ x) pl.isList (λw hw=>M8 rx fx r fs w (by simpa using hw)) ⟨.bl _,H,I,rfl,?_⟩;rw[show bp.toArray.any (FZ x)=bp.any (FZ x)by simp,MN r fs];show q
 ·let⟨bp,r,pl,hz⟩:=I.tuple hq
  show SeqAt.in_tupleAt (FZ x) pl (λw hw=>M8 rx fx r fs w (by simpa using hw)) ⟨.bl _,H,I,rfl,?_⟩;rw[show bp.toArray.any (FZ x)=bp.any (FZ x)by simp,MN r fs];show q
def iP:iL X (compareOp .NotIn) (XS X.K true):=by
 intro v4 s σ H x y v u Q I rx ry h;let⟨p,xs,rfl,hq,fx,fs,q⟩:=h;cases ry;rcases hq with hq|hq
 ·let⟨bp,r,pl,hz⟩:=I.list hq
  show SeqAt.notIn_listAt (FZ x) pl.isList (λw hw=>M8 rx fx r fs w (by simpa using hw)) ⟨.bl _,H,I,rfl,?_⟩;rw[show bp.toArray.any (FZ x)=bp.any (FZ x)by simp,MN r fs];show q
 ·let⟨bp,r,pl,hz⟩:=I.tuple hq
  show SeqAt.notIn_tupleAt (FZ x) pl (λw hw=>M8 rx fx r fs w (by simpa using hw)) ⟨.bl _,H,I,rfl,?_⟩;rw[show bp.toArray.any (FZ x)=bp.any (FZ x)by simp,MN r fs];show q
def Wx:Fb X (.builtin "len") (λxs H Q=>∃p ys,xs=[.ref p]∧(jI X.K H p ys∨eP X.K H p ys)∧Q (.int ys.length) H):=by
 intro v4 s σ H xs us Q I r h;let⟨p,ys,rfl,hq,q⟩:=h;let⟨u,rfl,rx⟩:=vals1 r;cases rx;let hn:=Kh;rcases hq with hq|hq
 ·let⟨bp,r',pl,hz⟩:=I.list hq
  let hlen:=r'.length;show Calls.call_len_list pl.isList (by simp only[Bn]<;>lia) ⟨.int ys.length,H,I.tok _,⟨s.toks+1,by rw[Bn,hlen]⟩,q⟩
 ·let⟨bp,r',pl,hz⟩:=I.tuple hq
  let hlen:=r'.length;show len_tuple pl (by simp only[Bn]<;>lia) ⟨.int ys.length,H,I.tok _,⟨s.toks+1,by rw[Bn,hlen]⟩,q⟩
def abA:Fb X (.builtin "len") (λxs H Q=>∃z,xs=[.str z]∧z.length≤sizeLine∧Q (.int z.length) H):=by
 intro v4 s σ H xs us Q I r h;let⟨z,rfl,hz,q⟩:=h;let⟨u,rfl,⟨t,rfl⟩⟩:=vals1 r;let hn:=Kh;show len_str (by lia) ⟨.int z.length,H,I.tok _,⟨_,rfl⟩,q⟩
def xi:Fb X (.type "tuple") (λxs H Q=>∃p ys,xs=[.ref p]∧((jI X.K H p ys∧∀l,H l=none→Q (.ref l) (AM H l (.tup ys)))∨(eP X.K H p ys∧Q (.ref p) H))):=by
 intro v4 s σ H xs us Q I r h;obtain⟨p,ys,rfl,h⟩:=h;let⟨u,rfl,rx⟩:=vals1 r;cases rx;rcases h with⟨hq,q⟩|⟨hq,q⟩
 ·let⟨bp,r',pl,hz⟩:=I.list hq
  let hlen:=r'.length;show call_tuple_list pl.isList (λh' kp=>?_) (by simp only[Bn]<;>lia)
  let I1:Inv X v4 σ H {s with heap:=h'}:=I.kept (t':=s.toks) kp;let I2:Inv X v4 σ (AM H h'.objs.size (.tup ys)) {s with heap:=h'.push {cls:=.type "tuple",data:=.seq bp.toArray}}:=
   I1.laid (t':=s.toks) (λb o e=>B1 _ e) (Ap _) (show bU X.prog X.w _ _ _ (.tup ys)from⟨hz,bp,r',IsTup.new _ _⟩)
  show Ps2 (.ref h'.objs.size) _ ⟨I2,rfl,q _ (I1.bV.fresh (Ap _))⟩
 ·let⟨bp,r',pl,hz⟩:=I.tuple hq
  show call_tuple_same pl ⟨.ref p,H,I,rfl,q⟩
abbrev TM(K:W.Frag)(T:String)(x:V)(H:A5):Prop:=match x with
 |.str _=>T = "str"
 |.int _=>T = "int"
 |.ref p=>(T = "list" ∧ ∃xs,jI K H p xs)∨(T = "tuple" ∧ ∃o,K.lookup p=some o∧o.cls=.type "tuple" ∧ o.dict=none) ∨
   (T = "dict" ∧((∃aA,H p=some (.dK aA))∨∃aA,H p=some (.dT aA)))∨(T = "set" ∧ ∃S n,H p=some (.set S n))
 |_=>False
def zH{v4:ac}{σ:St}{H:A5}{T:String}(I:Inv X v4 σ H s)(r:RelV x v)(ty:TM X.K T x H):
  s.TypeIs v T∧∀a,v=.ref a→∃ob,s.heap.get? a=some ob∧ob.dict=none:=by
 cases x with
 |str z=>
  let⟨t,rfl⟩:=r;cases(show T = "str" from ty);show⟨Lv s z t,λ_ e=>nomatch e⟩
 |int i=>
  let⟨t,rfl⟩:=r;cases(show T = "int" from ty);show⟨typeIs_int s i t,λ_ e=>nomatch e⟩
 |ref p=>
  cases r;rcases ty with⟨rfl,xs,hq⟩|⟨rfl,o,hk,hc,hd⟩|⟨rfl,hk⟩|⟨rfl,S,n,hk⟩
  ·let⟨bp,_,pl,_⟩:=I.list hq
   show⟨pl.isList.typeIs,λa e=>?_⟩;cases e;let⟨o,n,e,c,hd,_⟩:=pl;show⟨o,e,hd⟩
  ·show⟨⟨o,I.nZ p o hk,hc⟩,λa e=>?_⟩
   cases e;show⟨o,I.nZ _ o hk,hd⟩
  ·let z:∃o,s.heap.get? p=some o∧o.ExactDict:=by
    rcases hk with⟨aA,hk⟩|⟨aA,hk⟩
    ·let⟨_,_,⟨_,_,⟨o,_,_,e,ex,_⟩⟩⟩:=I.bV p _ hk
     show⟨o,e,ex⟩
    ·let⟨_,_,⟨_,_,⟨o,_,_,e,ex,_⟩⟩⟩:=I.bV p _ hk
     show⟨o,e,ex⟩
   let⟨o,e,ex⟩:=z;show⟨⟨o,e,ex.1⟩,λa e2=>?_⟩;cases e2;show⟨o,e,ex.2.1⟩
  ·let⟨o,_,_,_,e,ex,_⟩:=I.bV p _ hk
   show⟨⟨o,e,ex.1⟩,λa e2=>?_⟩;cases e2;show⟨o,e,ex.2.1⟩
 |_=>show False.elim ty
abbrev sy(K:W.Frag)(T:String)(r:V→List V→A5→Ar→Prop)(to:AY)(t:CY):AY:=λσ H Q=>to σ H λx H1=>TM K T x H1∧t σ H1 λxs H2=>r x xs H2 Q
variable {o: Expr}{es: List Expr}{to: AY}{t: CY}{name: Str}{apos eX: Pos}{T id: String}{r: V→List V→A5→Ar→Prop}
def uS(pa:PlainAttrs T)(slot:Slot T name id)(Gh:typeOf (.builtin id)=pure (.type "method_descriptor"))(hm:LH X id r)(ho:PE X o to)(ha:PA X (e::es) t)
  (Fl:attributeBase o name X.env (eval o X.env)=eval o X.env:=by rfl)
  (MF:((backTo eX (starEach (e::es) X.env)).all (λx=>!x.1)&&(backToKw eX (keywordEach [] X.env)).all (λx=>x.1.isSome)
   && decide ((e::es).length+([]:List Keyword).length+(if([]:List Keyword).isEmpty then 0 else 1)<30))=true:=by rfl)
  (Fh:(apos.endLine==eX.line)=true:=by rfl) (hs:starEach (e::es) X.env=(false,eval e X.env)::starEach es X.env:=by rfl) (zK:(backTo eX (starEach es X.env)).any (·.1)=false:=by rfl) :
  PE X (.Call (.Attribute o name apos) (e::es) [] eX) (sy X.K T r to t):=by
 show .mk ?_;intro v4 s σ H Q I h;show wpAny_Call_method_late Fl MF Fh rfl (AI (ho v4 s σ H _ I h) λv s1 ξ=>Xi24 ξ λx H1 I1 r1 ty q1=>?_);let⟨h1,h2⟩:=zH I1 r1 ty;show Ps2 T id ⟨pa,slot,Gh,h1,h2,?_⟩;let hA:=ha eX v4 s1 σ H1 _ I1 q1;rw[hs]at hA ⊢;show Calls.callWith_builtin (by show(false||(backTo eX (starEach es X.env)).any (·.1))=false;rw[zK]<;>rfl) (aV ?_)
 show AI hA λus s2 ξ=>Xi23 ξ λvs H2 I2 r2 q2=>hm v4 s2 σ H2 x vs v us Q I2 r1 r2 q2
end
abbrev jr(X:Cx)(id:String)(r:V→List V→A5→Ar→Prop):Prop:=
 ∀v4 s σ H (x:V) (xs:List V) (v:Value) (us:List Value) (Q:Ar),Inv X v4 σ H s→RelV x v→Vals xs us→r x xs H Q→
  wpAny (model X.prog X.w) X.A (call (.builtin id) (v::us)) (Bl X v4 σ Q) X.xe s
def Vals.one:∀{x:V} {us:List Value},Vals [x] us→∃u,us=[u]∧RelV x u
 |_,_,.cons r .nil=>⟨_,rfl,r⟩
def Vals.two:∀{x y:V} {us:List Value},Vals [x,y] us→∃u v,us=[u,v]∧RelV x u∧RelV y v
 |_,_,_,.cons r (.cons q .nil)=>Ps2 _ _ ⟨rfl,r,q⟩
section
variable {v4: List (Addr×Obj)}{σ: St}{H: A5}{s: Shared}{l: Addr}{xs ys: List V}
def Inv.PM{t3':List Value}{f:Array Value→Array Value}(I:Inv X v4 σ H s)(hH:H l=some (.lst xs))
  (e:s.heap.get? l=some {cls:=.type "list",data:=.seq bp.toArray n}) (hf:f bp.toArray=t3'.toArray) (hv:Vals ys t3') (hz:ys.length≤sizeLine) :
  Inv X v4 σ (AM H l (.lst ys)) {s with heap:=s.heap.update l (Obj.mapSeq f),toks:=t'}:=by
 let q:=PySem.IsL.update e f;rw[hf]at q;show I.write (x:=l) (e:=l) (by rw[hH];show trivial) (.inl rfl) (λb' u hb hu=>(Heap.get?_update_other s.heap (Obj.mapSeq f) (G5 hb)).trans hu) ⟨_,q⟩ ?_;show⟨hz,t3',_,hv,q⟩
def Inv.PN(I:Inv X v4 σ H s)(hv:Vals ys bp)(hz:ys.length≤sizeLine):
  Inv X v4 σ (AM H s.heap.objs.size (.lst ys)) {s with heap:=s.heap.push {cls:=.type "list",data:=.seq bp.toArray},toks:=t'}:=
 I.laid (λ_ _ q=>B1 _ q) (Ap _) ⟨hz,bp,0,hv,D8 _ rfl⟩
def Inv.fresh(I:Inv X v4 σ H s):H s.heap.objs.size=none:=I.bV.fresh (Ap _)
def Inv.ET(I:Inv X v4 σ H s)(hH:H l=some (.lst xs)):xs.length≤sizeLine∧∃(bp:List Value) (n:Nat),Vals xs bp∧xs.length=bp.length∧s.heap.get? l=some {cls:=.type "list",data:=.seq bp.toArray n}:=by
 let⟨z,⟨bp,n,r,e⟩⟩:=I.bV l _ hH;show⟨z,bp,n,r,r.length,e⟩
def zg(h:n≤sizeLine):Builtin.List.listTooLong n=false:=by
 unfold Builtin.List.listTooLong;show Ck (by lia)
end
section
abbrev Gap:V→List V→A5→Ar→Prop:=λx vs H Q=>∃l xs y,x=.ref l∧vs=[y]∧H l=some (.lst xs)∧xs.length<sizeLine∧Q .non (AM H l (.lst (xs++[y])))
def c7:jr X "list.append" Gap:=by
 intro v4 s σ H x vs v us Q I rx rv h;let⟨l,xs,y,rfl,rfl,hH,hz,q⟩:=h;cases rx;let⟨u,rfl,ru⟩:=rv.one;let⟨z,⟨bp,n,r,hl,e⟩⟩:=I.ET hH;show call_meets F.slot_list_append ⟨_,e,rfl⟩ F.entry_list_append (F.args_list_append_2 _ _) (PySem.list_append l bp.toArray n u (by rw[Bn];lia)) ⟨e,?_⟩;show Ps2 (.non) _ ⟨I.PM (t3':=bp++[u]) hH e (by simp) (r.append (.cons ru .nil)) ?_,rfl,q⟩;rw[BP,GS];lia
abbrev aam:V→List V→A5→Ar→Prop:=λx vs H Q=>∃l b xs zs,x=.ref l∧vs=[.ref b]∧H l=some (.lst xs)∧H b=some (.lst zs)∧xs.length+zs.length≤sizeLine∧Q .non (AM H l (.lst (xs++zs)))
def nA:jr X "list.extend" aam:=by
 intro v4 s σ H x vs v us Q I rx rv h;let⟨l,b,xs,zs,rfl,rfl,hH,hB,hz,q⟩:=h;cases rx;let⟨u,rfl,ru⟩:=rv.one;cases ru;let⟨z,⟨bp,n,r,hl,e⟩⟩:=I.ET hH;let⟨z2,⟨iM,n2,r2,NC,e2⟩⟩:=I.ET hB;let hsz:bp.toArray.size+iM.toArray.size≤sizeLine:=by rw[Bn,Bn];lia
 let Qe:¬(!bp.toArray.isEmpty&&Builtin.List.listTooLong (bp.toArray.size+iM.toArray.size))=true:=by
  rw[zg hsz,Jc];show Cc
 show call_meets F.slot_list_extend ⟨_,e,rfl⟩ F.entry_list_extend (F.args_list_extend_2 _ _)
  (AutoSeq1.list_extend_list_list_0 l bp.toArray n b iM.toArray n2 Qe (by rw[Bn];lia) (by lia)) ⟨e,e2,?_⟩
 show Ps2 (.non) _ ⟨I.PM (t3':=bp++iM) hH e (by simp) (r.append r2) ?_,rfl,q⟩;rw[BP];lia
abbrev xn:EA:=λx y H Q=>∃l b xs zs,x=.ref l∧y=.ref b∧H l=some (.lst xs)∧H b=some (.lst zs)∧xs.length+zs.length≤sizeLine∧∀p,H p=none→Q (.ref p) (AM H p (.lst (xs++zs)))
def sT:iL X (binaryOp .Add) xn:=by
 intro v4 s σ H x y v u Q I rx ry h;let⟨l,b,xs,zs,rfl,rfl,hH,hB,hz,q⟩:=h;cases rx;cases ry;let⟨z,⟨bp,n,r,hl,e⟩⟩:=I.ET hH;let⟨z2,⟨iM,n2,r2,NC,e2⟩⟩:=I.ET hB;show PySem.P.add_list e e2 ?_ (by rw[Bn,Bn];lia);let ea:bp.toArray++iM.toArray=(bp++iM).toArray:=by simp
 rw[ea];show Ps2 (.ref _) _ ⟨I.PN (t':=s.toks) (r.append r2) (by rw[BP];lia),rfl,q _ I.fresh⟩
end
section
set_option maxRecDepth 100000 in
end
end L2
namespace RO
open PySem PySem.W PySem.Calls PyProof.Rows
variable {P:Params}{h:Heap}{l:OpenLaw}{n:Nat}
def yj:∀(ns:List Int) (vs:List Value),WellAll P h vs (ns.map WData.int)→IntsAre vs ns:=by
 intro ns;induction ns with
 |nil=>
  intro vs w;rw[Kj]at w;cases w;show .nil
 |cons n ns ih=>
  intro vs w;rw[Cq]at w;cases w with
  |cons a b=>
   cases a;show .cons _ _ (ih _ b)
def yz(hn:l.most=some n){args:List WData}{vals:List Value}
  (Iq:l.row.toRowW.claim.pre args=true) (TK:WellAll P h vals args) :
  ∃a vs ns,vals=[Value.ref a]∧args=[WData.list (ns.map WData.int)]∧h.get? a=some {cls:=.type "list",data:=.seq vs.toArray}∧IntsAre vs ns∧ns.length≤n:=by
 let TU:WShape.hasAll [] args [.list .int]=true:=(pre_splitW Iq).1;let hc:l.pre.holds [] {args:=args}=true:=(pre_splitW Iq).2;let⟨d,r,rfl,h1,h2⟩:=hasAllW_cons TU;obtain rfl:=hasAllW_nil h2;let⟨xs,rfl,h3⟩:=hasW_list h1;let⟨ns,rfl⟩:=items_int h3;let hlen:ns.length≤n:=by
  unfold OpenLaw.pre at hc;let h4:(WTm.not (.lt (.lit (.int (n:Int))) (.len (.arg 0)))).holds [] {args:=[.list (ns.map .int)]}=true:=by
   let h4:=(holds_andW hc).1;rw[hn]at h4;show h4
  let h5:=condW_of h4 (w_not (w_lt w_lit (w_len_list (w_arg rfl))));rw[AF]at h5;show Ld λq=>?_;let q':(n:Int)<((ns.length:Nat):Int):=by lia
  first
   |(rw[BU q']at h5;show absurd h5 (by decide))
   |(simp at h5;lia)
 cases TK with
 |cons w1 w2=>
  cases w2;cases w1 with
  |list ho vQ=>show Ps3 _ _ ns ⟨rfl,rfl,ho,yj ns _ vQ,hlen⟩
def yt(l:OpenLaw)(args:List WData):l.row.toRowW.claim.post args (.bool true) args=true:=
 postW_of (r:=l.row.toRowW) (X:=(true==true))
  (show WShape.has [] (.bool true) .bool=true by first|rfl|decide|simp[WShape.has,WShape.arms,WShape.armsAll])
  (show(WTm.eq .res (.lit (.bool true))).value [] {args:=args,res:=some (.bool true),after:=args}=some (.bool (true==true))from w_eq_bool (w_res rfl) w_lit) rfl
def yf{q:Program}{loose:List Str}{XP:(KK)→Heap→Prop}{YP:World→Heap→Prop}{d:DefRec}
  (hn:l.most=some n) (NF:d.params.defaults=[])
  (call:∀(w:World) (s₀ s₁:Shared) (mg mb:KK) (fa:Addr) (o:Obj) (pm cd doc:Value) (a:Addr) (vs:List Value) (ns:List Int),
   Ground q loose [] XP w s₀ mg mb s₁.heap→YP w s₁.heap→
   s₁.heap.get? fa=some o→o.data=.func (docDef d.name d.params d.body d.scope pm cd doc)→s₁.heap.CodeRec cd d.name→mg d.name=some (.ref fa)→
   s₁.heap.get? a=some {cls:=.type "list",data:=.seq vs.toArray}→IntsAre vs ns→ns.length≤n→s₁.gens=#[]→
   codeAny (model l.prog w) callerA (.call (.ref fa) ⟨[.ref a],[]⟩) (λr s'=>r=.ok (.ret (.bool true))∧OldK s₁.heap s'.heap∧s'.os=s₁.os∧AllBare s'.gens) s₁) :
  WalkO q loose XP YP l.row.toRowW d [] (λf vs=>PySem.call f vs):=by
 intro w s₀ s₁ mg mb G Y fa o pm cd doc dV BI ho hd xC hD Qc hg args vals as Iq YZ hrd TK hlo;obtain rfl:dV=.none:=Dflts.none hD NF;obtain rfl:BI=.none:=Dflts.noKw hD;let⟨a,vs,ns,rfl,rfl,MA,hints,hlen⟩:=yz hn Iq TK;show enter_call (Jx (call w s₀ s₁ mg mb fa o pm cd doc a vs ns G Y ho (fd_plain hd) xC Qc MA hints hlen hg) λr s' hq=>?_);let⟨rfl,h2,h3,h4⟩:=hq;show⟨.inl ⟨.bool true,.bool true,[],rfl,λ_=>rfl,.bool true,yt l _,λ_=>⟨List.Pairwise.nil,λ_ hm=>(nomatch hm)⟩⟩,h2,h3,h4⟩
end RO
namespace L2
open PySem PySem.Spec PyProof.Rows
variable {w:World}{k n i:Nat}{fd:FuncData}{x qual:Str}{sp:Dw}{l:List Addr}{X: Cx}{st:Stmt}{f C:Addr}{ps:List Str}{scope: Scope}{pos p: Pos}{env:Env}{own: List Str}{cap: List (Nat×Str)}{σ:St}{s2:Shared}{cl: List (Str×Addr)}{te: AY}
def j9:∀{vs:List Value} {ns:List Int},IntsAre vs ns→Vals (ns.map V.int) vs
 |_,_,.nil=>.nil
 |_,_,.cons n t h=>.cons ⟨t,rfl⟩ (j9 h)
abbrev Oz(H:A5):Prop:=∀b,H b=none∨∃o xs,H b=some (.frz o (.lst xs))
def pO{P:Program}{K:W.Frag}{mg mb:KK}{CX:HB}{fa a:Addr}{s₁:Shared}{vs:List Value}{ns:List Int}
  (KX:K.In s₁.heap) (V7:s₁.heap.Ns mainGlobals mg) (hb:s₁.heap.Ns builtinsNs mb) (Zd:∀x:Str,x ≠ "__name__" → mb x=bootBuiltins x) (T5:s₁.heap.NoLimit) (hg:s₁.gens=#[])
  (ha:s₁.heap.get? a=some {cls:=.type "list",data:=.seq vs.toArray}) (hi:IntsAre vs ns) (hl:ns.length≤sizeLine) (hr:dA k callerA)
  (F:∀base:Heap,K.In base→base.Ns mainGlobals mg→bj P w K mg base CX k fa fd [x] sp) (Qm:∀(s:Shared) (u:Value),BindsTo s fd ⟨[u],[]⟩ [(x,u)])
  (yn:∀H:A5,Oz H→jI K H a (ns.map V.int)→sp [.ref a] H (λv _=>v=.bl true) λ_ _ _=>False)
  (Ul:∀H e s',CX [] H s₁ (λ_ _ _=>False) e s'→False) :
  codeAny (model P w) callerA (.call (.ref fa) ⟨[.ref a],[]⟩) (λr s'=>r=.ok (.ret (.bool true))∧OldK s₁.heap s'.heap∧s'.os=s₁.os∧AllBare s'.gens) s₁:=by
 let rv:=j9 hi;let Tb:=hi.length
 -- from an abstract heap in Vk nothing but wM yL may be tracked
 let core:∀H:A5,Oz H→jI K H a (ns.map V.int)→mZ P w H s₁.heap→(∀b,H b≠none→b=a)→(H a≠none→K.lookup a=none)→
   codeAny (model P w) callerA (.call (.ref fa) ⟨[.ref a],[]⟩) (λr s'=>r=.ok (.ret (.bool true))∧OldK s₁.heap s'.heap∧s'.os=s₁.os∧AllBare s'.gens) s₁:=by
  intro H hO hS bV hA hK;let Bj:∀{b:Addr} {o:Obj},s₁.heap.get? b=some o→H b=none→(IF s₁.heap H).get? b=some o:=λe n=>qu e n;let PD:∀{b:Addr} {o:Obj} {es:Array DictEntry} {ep:Nat},s₁.heap.get? b=some o→o.data=.dict es ep→H b=none:=λ{b o es ep} e d=>by
   cases q:H b with
   |none=>rfl
   |some u=>
    let e':b=a:=hA b (by rw[q];simp);subst e';rw[ha]at e;cases e;let d':Data.seq vs.toArray _=Data.dict es ep:=d;cases d'
  let Rn:∀{b:Addr} {m:KK},s₁.heap.Ns b m→(IF s₁.heap H).Ns b m:=λ{b m} ⟨o,es,ep,e,d,r⟩=>Ps3 o es ep ⟨Bj e (PD e d),d,r⟩;let Wn:K.In (IF s₁.heap H):=λb o e=>Bj (KX b o e) (by
   cases q:H b with
   |none=>rfl
   |some u=>
    let e':b=a:=hA b (by rw[q];simp);subst e';rw[hK (by rw[q];simp)]at e;cases e)
  let hM:Mod K mg (IF s₁.heap H):=⟨Wn,Rn V7,⟨mb,Rn hb,Zd⟩,let⟨mc,h1,h2⟩:=T5;⟨mc,Rn h1,h2⟩⟩;let e0:Ai P w K mg (IF s₁.heap H) callerA [] s₁ H:=⟨rfl,hM,λb o e=>ve e,Nat.le_of_eq (xS _ _),trivial,λb hb=>absurd (show b∈([]:List Addr)from hb) (by simp),bV,.of_eq hg⟩;show Jx ((F _ Wn (Rn V7)).run callerA [] s₁ H ⟨[.ref a],[]⟩ [.ref a] [.ref a] _ _ hr e0 (Qm s₁ (.ref a)) (.cons rfl .nil) (yn H hO hS)) λr s' h=>?_;cases r with
  |error e=>show(Ul H e s' h).elim
  |ok fl=>
   cases fl with
   |next=>show False.elim h
   |brk=>show False.elim h
   |cont=>show False.elim h
   |ret u=>
    let⟨v,H',os,bare,un,TZ,r',q⟩:=h;let q':v=.bl true:=q;subst q';obtain rfl:u=Value.bool true:=r';show⟨rfl,OldK.of_keep λb o e=>?_,os,bare⟩;cases q:H b with
    |none=>show un.keep b o e q (by intro z;show absurd (show b∈([]:List Addr)from z) (by simp)) (by simp)
    |some u=>
     rcases hO b with z|⟨ob,xs,z⟩
     ·rw[q]at z;cases z
     ·let z2:=un.mT b ob _ z
      let⟨e1,_⟩:=bV b _ z;let⟨e2,_⟩:=TZ b _ z2;rw[e]at e1;cases e1;show e2
 cases hk:K.lookup a with
 |some o=>
  -- wM yL is one of wM PJ own objects
  let e:=KX a o hk;rw[ha]at e;cases e;show core (λ_=>none) (λ_=>.inl rfl) (.inr ⟨_,vs.toArray,_,hk,rfl,rfl,rfl,by rw[Bn,Tb];show hl,by simpa using rv⟩) (λb u z=>by have z':(none:Option HO)=some u:=z;cases z') (λb z=>absurd rfl z) λz=>absurd rfl z
 |none=>
  show core (λb=>if b=a then some (.frz {cls:=.type "list",data:=.seq vs.toArray} (.lst (ns.map V.int)))else none) (λb=>?_) (.inl (.inr ⟨{cls:=.type "list",data:=.seq vs.toArray},AO rfl⟩)) (λb u z=>?_) (λb z=>?_) λ_=>hk
  ·by_cases hb:b=a
   ·show .inr ⟨_,_,AO hb⟩
   ·show .inl (AL hb)
  ·by_cases hb:b=a
   ·let z':=(AO hb).symm.trans z
    cases z';subst hb;show⟨ha,by rw[AF];show hl,vs,_,rv,ha⟩
   ·let z':=(AL hb).symm.trans z
    cases z'
  ·by_cases hb:b=a
   ·show hb
   ·show absurd (AL hb) z
def Gw{l:W.OpenLaw}{q:Program}{loose:List Str}{XP:(KK)→Heap→Prop}{YP:World→Heap→Prop}{d:DefRec}{K:Params→W.Frag}{CX:World→HB}{sp:World→Dw}
  (hn:l.most=some n) (Ry:n≤sizeLine) (NF:d.params.defaults=[]) (hr:dA k callerA)
  (hY:∀(w:World) (h:Heap),YP w h→(K w.params).In h)
  (F:∀(w:World) (mg:KK) (fa:Addr) (h:Heap),(K w.params).In h→h.Ns mainGlobals mg→mg d.name=some (.ref fa)→
   ∃fd:FuncData,(∀(s:Shared) (u:Value),BindsTo s fd ⟨[u],[]⟩ [(x,u)])∧
    ∀base:Heap,(K w.params).In base→base.Ns mainGlobals mg→bj l.prog w (K w.params) mg base (CX w) k fa fd [x] (sp w))
  (yn:∀(w:World) (H:A5) (a:Addr) (ns:List Int),ns.length≤n→Oz H→jI (K w.params) H a (ns.map V.int)→sp w [.ref a] H (λv _=>v=.bl true) λ_ _ _=>False)
  (Ul:∀(w:World) (H:A5) (s:Shared) (e:Value) (s':Shared),CX w [] H s (λ_ _ _=>False) e s'→False) :
  W.WalkO q loose XP YP l.row.toRowW d [] (λf vs=>PySem.call f vs):=by
 show RO.yf hn NF λw s₀ s₁ mg mb fa o pm cd doc a vs ns G Y ho hd xC Qc MA hints hlen hg=>?_;let KX:=hY w _ Y;let⟨fd,hb,hF⟩:=F w mg fa _ KX G.T.g Qc;show pO KX G.T.g G.T.b G.T.builtins G.T.nolimit hg MA hints (D6 hlen Ry) hr hF hb (λH hO hS=>yn w H a ns hlen hO hS) λH e s'=>Ul w H s₁ e s'
abbrev IB(s:Stmt):Arguments:=match s with
 |.FunctionDef _ a _ _ _ _ _ _ _ _=>a
 |_=>{posonlyargs:=[],args:=[],vararg:=none,kwonlyargs:=[],kw_defaults:=[],kwarg:=none,defaults:=[]}
abbrev G0(s:Stmt):List Stmt:=match s with
 |.FunctionDef _ _ b _ _ _ _ _ _ _=>b
 |_=>[]
abbrev Ag(s:Stmt):Scope:=match s with
 |.FunctionDef _ _ _ _ _ _ sc _ _ _=>sc
 |_=>{kind:=.function,names:=[],isGenerator:=false,isCoroutine:=false}
noncomputable abbrev Ao:HB:=λ_ _ _ _ _ _=>False
noncomputable abbrev J3:BG:=λ_ _ _=>False
def iS{X:Cx}:Passes Ao X J3:=λ_ _ _ _ _ _ _ h=>h.elim
structure cT(K:W.Frag)(x qual:Str)(st:Stmt)(f:Addr)(fd:FuncData):Prop where
 ex:∃(oc:Value) (od:Option Addr) (BI doc pm:Value) (an:Option Addr) (cq ct:Value) (BS:Array (Option Value)),
  fd=W.fnOf x qual (IB st) (G0 st) (Ag st) .none BI doc pm an cq ct∧K.lookup f=some ⟨oc,od,.func fd,BS⟩∧W.codeIn K cq qual=true
 kp:W.keepIn K (.ref f)=true
section
variable {P: Program}{w: World}{K: W.Frag}{mg: Str→Option Value}{base: Heap}
def cT.ok{N:List Str}(F:cT K x qual st f fd)(S:Av N ps (Ag st))(len:∀vs H Q E,sp vs H Q E→vs.length=ps.length)
  (oh:∀(cq:Value) (A:Around) (outer:List Env) (s:Shared) (H:A5) (vs:List V) (Q:Ar) (E:BG),dA k (A.deeper (envOfC qual (Ag st) s.heap.objs.size f cq))→sp vs H Q E→
   ∃t,mY (J4 Ao P w K mg base N qual (Ag st) f cq A outer s H E).iR (G0 st) t∧t {nx:=λ_ H'=>Q .non H',rt:=Q} (start N vs) H):bj P w K mg base Ao (k+1) f fd ps sp:=by
 let⟨oc,od,BI,doc,pm,an,cq,ct,BS,rfl,lk,xC⟩:=F.ex;show dW lk xC S len λA outer s H vs Q E hr yn=>?_;let⟨t,h,q⟩:=oh cq A outer s H vs Q E hr yn;show⟨t,h.iR,q⟩
def cT.binds(F:cT K x qual st f fd)
  (h:∀(BI doc pm:Value) (an:Option Addr) (cq ct:Value) (us:List Value),us.length=ps.length→bindArgs (W.fnOf x qual (IB st) (G0 st) (Ag st) .none BI doc pm an cq ct) ⟨us,[]⟩=pure (ps.zip us)):Binds K fd ps []:=by
 let⟨oc,od,BI,doc,pm,an,cq,ct,BS,rfl,lk,xC⟩:=F.ex;show .all (h BI doc pm an cq ct)
def ji{oc:Value}{od an:Option Addr}{BS:Array (Option Value)}{BI doc pm cq ct:Value}(l:K.lookup f=some ⟨oc,od,.func (W.fnOf x qual (IB st) (G0 st) (Ag st) .none BI doc pm an cq ct),BS⟩)
  (c:W.codeIn K cq qual=true) (k:W.keepIn K (.ref f)=true):cT K x qual st f (W.fnOf x qual (IB st) (G0 st) (Ag st) .none BI doc pm an cq ct):=⟨Ps9 oc od BI doc pm an cq ct BS ⟨rfl,l,c⟩,k⟩
end
def D3(h:n≤1000):n<sizeLine:=CW h (by decide)
def abg{prog:Program}{A:Around}{R:Result→Shared→Prop}{s:Shared}{elt target iter:Expr}{ifs:List Expr}{scope:Scope}{pos:Pos}{it acc:Value}(I:Nat→Shared→Prop)
  (turn:∀n s,I n s→wpAny (model prog w) A (pyNext it) (λr s₁=>match r with
   |none=>R (.ok .next) s₁
   |some v=>wpAny (model prog w) A (letOwnedTupleGo target it v) (λ_ Ds=>wpAny (model prog w) A (assign target env v) (λ_ s₂=>
     wpAny (model prog w) A (forIn ifs true λc r=>if r=true then do let ok ←isTrue c env (eval c env);pure (ForInStep.yield ok)else pure (ForInStep.yield r)) (λok s₃=>
      if ok=true then wpAny (model prog w) A (eval elt env) (λx s₄=>
       wpAny (model prog w) A (call (.builtin "list.append") [acc,x]) (λ_ s₅=>∃m,m<n∧I m s₅) (notedBy (model prog w) A env λe s'=>R (.error e) s') s₄) (notedBy (model prog w) A env λe s'=>R (.error e) s') s₃
      else ∃m,m<n∧I m s₃) (notedBy (model prog w) A env λe s'=>R (.error e) s') s₂) (notedBy (model prog w) A env λe s'=>R (.error e) s') Ds) (notedBy (model prog w) A env λe s'=>R (.error e) s') s₁) (notedBy (model prog w) A env λe s'=>R (.error e) s') s)
  (n:Nat) (h:I n s) :
  codeAny (model prog w) A (.compLoop (.ListComp elt [⟨target,iter,ifs,0⟩] scope pos) 0 it acc env) R s:=by
 show ON rfl I (λn s hI=>?_) n h;show wpAny _ A ((compTurn (.ListComp elt [⟨target,iter,ifs,0⟩] scope pos) 0 it acc env).onRaise (λx=>do noteFrame x env;theTreesLotGoes x)) _ _ s
 show wpAny_noted ?_;rw[compTurn_list];show A9 (Hy (A9 (Be (turn n s hI) (λr s₁ h₁=>?_) λ_ _ h'=>h')));cases r with
 |none=>show AQ h₁
 |some v=>
  show A9 (Be h₁ (λ_ Ds Mv=>?_) λ_ _ h'=>h');show A9 (Be Mv (λ_ s₂ h₂=>A9 (Be h₂ (λok s₃ h₃=>?_) λ_ _ h'=>h')) λ_ _ h'=>h');cases ok with
  |false=>show AQ ⟨rfl,h₃⟩
  |true=>
   show A9 (A9 (Be h₃ (λx s₄ h₄=>A9 (Be h₄ (λ_ s₅ h₅=>AQ (AQ ⟨rfl,h₅⟩)) λ_ _ h'=>h')) λ_ _ h'=>h'))
structure wK(X:Cx)(ifs:List Expr)(t:Ci):Prop where
 run:∀v4 s σ H (Q:Bool→A5→Prop),Inv X v4 σ H s→t σ H Q→
  wpAny (model X.prog X.w) X.A (forIn ifs true λc r=>if r=true then do let ok ←isTrue c X.env (eval c X.env);pure (ForInStep.yield ok)else pure (ForInStep.yield r)) (K8 X v4 σ Q) X.xe s
instance {X:Cx}{ifs:List Expr}{t:Ci}:CoeFun (wK X ifs t) λ_=>∀v4 s σ H (Q:Bool→A5→Prop),Inv X v4 σ H s→t σ H Q→wpAny (model X.prog X.w) X.A (forIn ifs true λc r=>if r=true then do let ok ←isTrue c X.env (eval c X.env);pure (ForInStep.yield ok)else pure (ForInStep.yield r)) (K8 X v4 σ Q) X.xe s:=⟨wK.run⟩
abbrev adO:Ci:=λ_ H Q=>Q true H
def PIp{X:Cx}:wK X [] adO:=.mk λ_ _ _ H _ I h=>wpAny_tests_nil ⟨H,I,h⟩
def adF{X:Cx}{c:Expr}{t:Ci}(h:PT X c t):wK X [c] t:=.mk λv4 s σ H Q I q=>wpAny_tests_one (h v4 s σ H Q I q)
abbrev BK(X:Cx)(Nc:List Str)(scope:Scope)(cl:List (Str×Addr))(C:Addr)(s:Shared)(H:A5)(fp:List Addr)(E:xz):Cx where
 prog:=X.prog
 w:=X.w
 K:=X.K
 mg:=X.mg
 base:=X.base
 A:=X.A
 N:=Nc
 s₀:=s
 H₀:=H
 env:=compEnvC scope cl C X.env
 outer:=X.stack
 stack:=X.stack
 ex:=fp
 calm:=X.calm
 fn:=λ_=>false
 pn:=[]
 xe:=E
abbrev yB(X:Cx)(scope:Scope)(cl:List (Str×Addr))(j:Nat)(x:Str):Prop:=
 X.N[j]?=some x∧K5 X.env.scope x∧X.env.kindOf x≠some .local∧(relabel scope X.env).names.lookup x≠some .local∧((relabel scope X.env).names.lookup x=some .cell∨(relabel scope X.env).names.lookup x=some .free)
structure c9(X:Cx)(scope:Scope)(cl:List (Str×Addr))(own:List Str)(cap:List (Nat×Str)):Prop where
 xQ:closureFor scope X.env=pure cl
 cell:∀y∈scope.names,y.2≠.cell
 kind:scope.kind=.function
 names:∀y∈scope.names,y.2=.local→scope.names.lookup y.1=some .local
 sub:∀x c,cl.lookup x=some c→X.env.cells.lookup x=some c
 has:∀p∈(relabel scope X.env).names,p.2=.cell∨p.2=.free→(cl.lookup p.1).isSome=true
 IM:∀p∈cap,yB X scope cl p.1 p.2
abbrev FO(own:List Str)(cap:List (Nat×Str))(σ:St):St:=List.replicate own.length none++cap.map λp=>(σ[p.1]?).getD none
def lookup_mem{α:Type}:∀{l:List (Str×α)} {n:Str} {c:α},l.lookup n=some c→(n,c)∈l:=λh=>mem_of_lookup h
section
variable {v4: List (Addr×Obj)}{σ: St}{H: A5}{s: Shared}{fp: List Addr}{E: Value→Shared→Prop}
def c9.ML(c:c9 X scope cl own cap)(x:Str)(h:(relabel scope X.env).names.lookup x=some .cell∨(relabel scope X.env).names.lookup x=some .free):∃a,cl.lookup x=some a:=by
 have:(cl.lookup x).isSome=true:=by
  rcases h with h|h
  ·show c.has (x,.cell) (lookup_mem h) (.inl rfl)
  ·show c.has (x,.free) (lookup_mem h) (.inr rfl)
 show adG.mp this
def GI(c:c9 X scope cl own cap)(I:Inv X v4 σ H s)(hf:∀b∈fp,DP X v4 H b)(d0:∀b∈fp,b<s.heap.objs.size)(hC:s.heap.objs.size≤C):
  (BK X (own++cap.map (·.2)) scope cl C s H fp E).Ok where
 mod:=I.ok.mod
 kind:=c.kind
 glob:=I.ok.glob
 blt:=I.ok.blt
 above:=hC
 inj:=λx y a h1 h2=>I.ok.inj x y a (c.sub x a h1) (c.sub y a h2)
 has:=λx h=>c.ML x h
 J8:=λx a h=>absurd h (by intro z;show Bool.noConfusion z)
 hd:=I.ok.hd
 frames:=I.ok.frames
 KI:=.inl rfl
 Gn:=λb hb=>⟨λz=>by
   have:=d0 b hb;rw[z]at this;show absurd (EO this hC) (GG _),λx a h=>(hf b hb).2.2.2.2.1 x a (c.sub x a h)⟩
 bs:=I.bs
 F0:=D6 I.ok.F0 I.sz
 xk:=λb o e hb=>by
  rcases(hf b hb).2.2.2.1 with z|z
  ·show I.ok.xk b o e z
  ·show absurd (EO (B3 (I.ok.bs b o e).1) z) (GG _)
 qL:=λb hb hs=>by
  rcases aaf.mp (I.uX b hs)with z|z
  ·show(hf b hb).2.1 z
  ·show(hf b hb).2.2.1 z
 lY:=I.stack
 Gm:=I.qU
def lU{own:List Str}{cap:List (Nat×Str)}{σ:St}{v:V}(h1:(own++cap.map (·.2))[i]?=some x)(h2:(FO own cap σ)[i]?=some (some v)):∃p∈cap,p.2=x∧σ[p.1]?=some (some v):=by
 unfold FO at h2;by_cases hi:i<own.length
 ·rw[fB (by simpa using hi),jb]at h2
  split at h2<;>cases h2
 ·rw[dD (by simpa using hi)]at h2 h1
  rw[List.length_replicate,Fo]at h2;rw[Fo]at h1;cases e:cap[i-own.length]? with
  |none=>rw[e]at h2;cases h2
  |some p=>
   rw[e]at h1 h2;show⟨p,LK e,FJ h1,?_⟩;let h3:(σ[p.1]?).getD none=some v:=FJ h2;cases q:σ[p.1]? with
   |none=>rw[q]at h3;cases h3
   |some z=>rw[q]at h3;show DT some h3
def nw(c:c9 X scope cl own cap)(I:Inv X v4 σ H s)(hf:∀b∈fp,DP X v4 H b)(d0:∀b∈fp,b<s.heap.objs.size){h₁:Heap}{tk:Nat}{m:KK}
  (hk:∀b o,s.heap.get? b=some o→h₁.get? b=some o) (hD:h₁.get? s.heap.objs.size=some {cls:=.type "list",data:=.seq ([]:List Value).toArray}) (hn:h₁.Ns (s.heap.objs.size+1) m) :
  Inv (BK X (own++cap.map (·.2)) scope cl (s.heap.objs.size+1) s H fp E) [] (FO own cap σ) (AM H s.heap.objs.size (.lst [])) {s with heap:=h₁,toks:=tk}:=by
 have Iv  := I.fresh;have ME  := I.bV.fresh (Bk _);let MC:bU X.prog X.w (AM H s.heap.objs.size (.lst [])) h₁ s.heap.objs.size (.lst []):=⟨E6 _,[],0,.nil,hD⟩;show⟨GI c I hf d0 (Bk _),rfl,I.bare,Un.laid hk (Ap _) Iv,⟨m,hn,λi x v e1 e2 _=>?_⟩,λx a e=>?_,?_,λx a e=>?_,λp hp=>absurd (show p∈([])from hp) (by simp),I.bV.laid hk (Ap _) MC,?_⟩
 ·let⟨p,hp,ex,es⟩:=lU e1 e2
  let⟨q1,q2,q3,q4,q5⟩:=c.IM p hp;rw[ex]at q1 q2 q3 q4 q5;let⟨m',T4,hl⟩:=I.loc;let⟨u,r,l⟩:=hl p.1 x v q1 es q2;show⟨u,r,?_⟩;rcases l with l|⟨k,a,e,z⟩
  ·show absurd l.1 q3
  ·let⟨a',e'⟩:=c.ML x q5
   let ea:=c.sub x a' e';rw[e]at ea;cases ea;show .inr ⟨q5,a,e',z.keeps hk⟩
 ·let⟨v,z⟩:=I.cell x a (c.sub x a e)
  show⟨v,z.keeps hk⟩
 ·show AM H s.heap.objs.size (.lst []) (s.heap.objs.size+1)=none
  rw[B0 (XA _)];show ME
 ·let⟨v,z⟩:=I.cell x a (c.sub x a e)
  rw[B0 (BO z.lt)];show I.iG x a (c.sub x a e)
 ·show(FO own cap σ).length=(own++cap.map (·.2)).length
  simp[FO]
def N0{H':A5}{σ':St}{Nc:List Str}{sg:ac}(I:Inv X v4 σ H s)(hf:∀b∈fp,DP X v4 H b)(hC:s.heap.objs.size≤C)(J:Inv (BK X Nc scope cl C s H fp E) sg σ' H' s2):
  Inv X v4 σ H' s2∧DP X v4 H' C:=by
 have os  := J.os;have un  := J.base;show⟨I.J7 os un J.bV J.bare λb hb=>⟨(hf b hb).2.2.2.1,(hf b hb).2.1,(hf b hb).2.2.2.2.1,(hf b hb).2.2.2.2.2⟩,I.zO hC J.free⟩
end
abbrev Se(wi:DW)(g:DV)(tc:Ci)(te:AY)(own:List Str)(cap:List (Nat×Str)):AY:=λσ H Q=>wi σ H λJ H1=>∀D,H1 D=none→
 ∃W:Nat→Nat→St→List V→A5→Prop,(∃m,W 0 m (FO own cap σ) [] (AM H1 D (.lst [])))∧∀i m σ' ys H',W i m σ' ys H'→H' D=some (.lst ys)∧
  ((J.stop i H'∧Q (.ref D) H')∨(J.go i H'∧ys.length<sizeLine∧∃N:St→List V→A5→Prop,(∀σ ys H,N σ ys H→∃m',m' < m∧W (i+1) m' σ ys H)∧∀x H2,J.qR i H' x H2→g x σ' H2 λσ3 H3=>tc σ3 H3 λb H4=>if b=true then te σ3 H4 λy H5=>H5 D=some (.lst ys)∧N σ3 (ys++[y]) (AM H5 D (.lst (ys++[y])))
   else N σ3 ys H4))
section
variable {tg iter elt: Expr}{ifs: List Expr}{wi: DW}{g: DV}{tc: Ci}
def cb{v4:ac}{H2:A5}{it:Addr}{fp:List Addr}{tn:Nat→Heap→Prop}{J:FX}{Q:Ar}{RR:Value→Addr→Result→Shared→Prop}{E':xz}
  (c:c9 X scope cl own cap) (hc:X.calm=true)
  (hg:∀C s H fp,PG (BK X (own++cap.map (·.2)) scope cl C s H fp λ_ _=>False) tg g) (ht:∀C s H fp,wK (BK X (own++cap.map (·.2)) scope cl C s H fp λ_ _=>False) ifs tc)
  (he:∀C s H fp,PE (BK X (own++cap.map (·.2)) scope cl C s H fp λ_ _=>False) elt te)
  (I2:Inv X v4 σ H2 s2) (T:Turn X.prog X.w X.K tg J fp it tn) (oO:tn 0 s2.heap) (f2:∀b∈fp,DP X v4 H2 b)
  (hw:∀D,H2 D=none→∃W:Nat→Nat→St→List V→A5→Prop,(∃m,W 0 m (FO own cap σ) [] (AM H2 D (.lst [])))∧∀i m σ' ys H',W i m σ' ys H'→H' D=some (.lst ys)∧
   ((J.stop i H'∧Q (.ref D) H')∨(J.go i H'∧ys.length<sizeLine∧∃N:St→List V→A5→Prop,(∀σ ys H,N σ ys H→∃m',m' < m∧W (i+1) m' σ ys H)∧∀x H2,J.qR i H' x H2→g x σ' H2 λσ3 H3=>tc σ3 H3 λb H4=>if b=true then te σ3 H4 λy H5=>H5 D=some (.lst ys)∧N σ3 (ys++[y]) (AM H5 D (.lst (ys++[y])))
    else N σ3 ys H4)))
  (Iy:∀D C s' H' m,Inv X v4 σ H' s'→DP X v4 H' C→s'.heap.Ns C m→Q (.ref D) H'→RR (.ref D) C (.ok .next) s') :
  wpAny (model X.prog X.w) X.A (newList []) (λacc s₃=>wpAny (model X.prog X.w) X.A (newFunctionEnv scope X.env.globals cl [] X.env.qual none .none (some X.env)) (λQG s₄=>
   codeAny (model X.prog X.w) X.A (.compStart (.ListComp elt [⟨tg,iter,ifs,0⟩] scope pos) 0 (.ref it) acc {QG with scope:=relabel scope X.env}) (RR acc QG.locals) s₄) E' s₃) E' s2:=by
 show IL (Lw c.cell (by intro y hy;simp at hy) (λh₁ iF gY=>?_) c.kind);dsimp only at iF gY ⊢;let hsz:(s2.heap.push {cls:=.type "list",dict:=none,data:=.seq ([]).toArray}).objs.size=s2.heap.objs.size+1:=Fe _ _;have kk  := λb o e=>gY.extBut b o (by rw[hsz];show BO (Hm (B3 e))) (B1 _ (B1 _ e));have hD  :=
  gY.extBut _ _ (by rw[hsz];show BO (GX _)) (B1 _ (D8 _ rfl))
 rw[hsz]at iF ⊢;let d0:∀b∈fp,b<s2.heap.objs.size:=λb hb=>by
  let⟨o,e,_⟩:=T.obj _ _ oO b hb;show B3 e
 let⟨W,⟨m0,w0⟩,turn⟩:=hw s2.heap.objs.size I2.fresh;let J1:=nw (E:=λ_ _=>False) c I2 f2 d0 (tk:=s2.toks+([]:List (Str×Value)).length) kk hD iF;generalize fi:BK X (own++cap.map (·.2)) scope cl (s2.heap.objs.size+1) s2 H2 fp (λ_ _=>False)=X' at J1;have Iu  := fi ▸ hg _ _ _ _;have TN  := fi ▸ ht _ _ _ _;have Qk  := fi ▸ he _ _ _ _;let pX:X'.prog=X.prog:=by rw[←fi];rfl
 let wX:X'.w=X.w:=by rw[←fi];rfl
 let kX:X'.K=X.K:=by rw[←fi];rfl
 let aX:X'.A=X.A:=by rw[←fi];rfl
 let cX:X'.calm=true:=by rw[←fi];show hc
 let nX:X'.env=compEnvC scope cl (s2.heap.objs.size+1) X.env:=by rw[←fi];rfl
 let xX:X'.xe=λ_ _=>False:=by rw[←fi];rfl
 let fX:∀b∈fp,∀{H':A5},H' b=none→DP X' [] H' b:=λb hb {H'} hn=>by
  let o1:=(GI (E:=λ_ _=>False) c I2 f2 d0 (C:=s2.heap.objs.size+1) (Bk _)).Gn b hb;let o2:=(GI (E:=λ_ _=>False) c I2 f2 d0 (C:=s2.heap.objs.size+1) (Bk _)).qL b hb;rw[←fi];show⟨hn,o1.1,o2,.inl hb,o1.2,λp hp=>absurd (show p∈([]:ac)from hp) (by simp)⟩
 let fin:∀{σ':St} {H':A5} {s':Shared},Inv X' [] σ' H' s'→Q (.ref s2.heap.objs.size) H'→RR (.ref s2.heap.objs.size) (s2.heap.objs.size+1) (.ok .next) s':=λ{σ' H' s'} J' q=>by
  rw[←fi]at J';let⟨A1,A2⟩:=N0 I2 f2 (Bk _) J';let⟨m,hm,_⟩:=J'.loc;show Iy _ _ s' H' m A1 A2 hm q
 let loop:codeAny (model X.prog X.w) X.A (.compLoop (.ListComp elt [⟨tg,iter,ifs,0⟩] scope pos) 0 (.ref it) (.ref s2.heap.objs.size) (compEnvC scope cl (s2.heap.objs.size+1) X.env)) (RR (.ref s2.heap.objs.size) (s2.heap.objs.size+1))
   {s2 with heap:=h₁,toks:=s2.toks+([]:List (Str×Value)).length}:=by
  show abg (λn s'=>∃i σ' ys H',Inv X' [] σ' H' s'∧tn i s'.heap∧(∀b∈fp,H' b=none)∧W i n σ' ys H') ?_ m0
   ⟨0,_,[],_,J1,T.keep _ _ _ oO λb _ o e=>kk b o e,λb hb=>by rw[B0 (BO (d0 b hb))];show(f2 b hb).1,w0⟩
  intro n s3⟨i,σ3,ys,H3,I3,wN,xI,w3⟩;let⟨NJ,w4⟩:=turn i n σ3 ys H3 w3;rw[←nX,←aX,←pX,←wX];let iR:∀{α:Type} {t:Sem α} {Q1:α→Shared→Prop} {E1:xz} {s:Shared},wpAny (model X'.prog X'.w) X'.A t Q1 X'.xe s→wpAny (model X'.prog X'.w) X'.A t Q1 E1 s:=λ{α t Q1 E1 s} h=>by
   rw[xX]at h;show Be h (λ_ _ q=>q) λ_ _ f=>f.elim
  rcases w4 with⟨stop,qn⟩|⟨go,NA,N,hN,step⟩
  ·let d:=T.done X' pX wX kX cX i [] s3 σ3 H3 X'.xe I3 (λb hb=>fX b hb (xI b hb)) wN stop
   rw[←pX,←wX]at d;show iR (AI d λr s4 ξ=>Xi02 ξ λhr I4=>?_);subst hr;show fin I4 qn
  ·let d:=T.item X' pX wX kX cX i [] s3 σ3 H3 X'.xe I3 (λb hb=>fX b hb (xI b hb)) wN go
   rw[←pX,←wX]at d;show iR (AI d λr s4 ξ=>Xi12 ξ λu hr h4=>?_);subst hr;show iR (AI h4 λ_ s5 ξ=>Xi25 ξ λx H5 I5 r5 y5 rK Fu=>?_);let Gb:=I5.pinned (λb hb=>fX b hb (Fu b hb)) (T.obj _ _ rK);let again:∀{σ7:St} {H7:A5} {s7:Shared} {RQ:List V},Inv X' ([]++Hs fp s5.heap) σ7 H7 s7→N σ7 RQ H7→
     ∃m,m<n∧∃i σ' ys H',Inv X' [] σ' H' s7∧tn i s7.heap∧(∀b∈fp,H' b=none)∧W i m σ' ys H':=λ{σ7 H7 s7 RQ} I7 n7=>by
    let⟨m',hm,w7⟩:=hN _ _ _ n7;show⟨m',hm,i+1,σ7,RQ,H7,I7.gJ,T.keep _ _ _ rK λb hb o e=>(I7.pin (b,o) (CQ _ (CQ _ (GP hb e)))).1,λb hb=>?_,w7⟩;let⟨o,e,d⟩:=T.obj _ _ rK b hb;show(I7.pin (b,o) (CQ _ (CQ _ (GP hb e)))).2.1
   show iR (AI (Iu _ s5 σ3 H5 x u _ Gb r5 (step x H5 y5)) λ_ s6 ξ=>Xi22 ξ λσ6 H6 I6 q6=>?_);show iR (AI (TN _ s6 σ6 H6 _ I6 q6) λb s7 ξ=>Xi12 ξ λH7 I7 q7=>?_);cases b with
   |false=>
    rw[AL Cc]at q7 ⊢;show again I7 q7
   |true=>
    rw[AO rfl]at q7 ⊢;show iR (AI (Qk _ s7 σ6 H7 _ I7 q7) λu8 s8 ξ=>Xi24 ξ λy8 H8 I8 r8 d8 q8=>?_);show iR (AI (c7 _ s8 σ6 H8 (.ref s2.heap.objs.size) [y8] (.ref s2.heap.objs.size) [u8] (λ_ H9=>N σ6 (ys++[y8]) H9) I8 rfl (.cons r8 .nil) ⟨_,ys,y8,rfl,rfl,d8,NA,q8⟩) λ_ s9 ξ=>Xi23 ξ λ_ H9 I9 _ q9=>?_);show again I9 q9
 show codeAny_compStart_list loop (T.self X.A 0 _ _ _ (T.keep _ _ _ oO λb _ o e=>kk b o e) loop)
def oW(c:c9 X scope cl own cap)(hc:X.calm=true)(hi:PI X tg iter wi)
  (hg:∀C s H fp,PG (BK X (own++cap.map (·.2)) scope cl C s H fp λ_ _=>False) tg g) (ht:∀C s H fp,wK (BK X (own++cap.map (·.2)) scope cl C s H fp λ_ _=>False) ifs tc)
  (he:∀C s H fp,PE (BK X (own++cap.map (·.2)) scope cl C s H fp λ_ _=>False) elt te) (hs:∀x,foldedSetIterable iter X.env x=pure x:=by intro _;rfl) :
  PE X (.ListComp elt [⟨tg,iter,ifs,0⟩] scope pos) (Se wi g tc te own cap):=by
 show .mk ?_;intro v4 s σ H Q I h;show KG  rfl hs c.xQ c.kind c.names (AI (hi v4 s σ H _ I h) λv s1 h1=>AI h1 λJS s2 h2=>?_);let⟨it,fp,tn,J,H2,e,I2,T,oO,f2,hw⟩:=h2;subst e;show cb   c hc hg ht he I2 T oO f2 hw ?_;intro D C s' H' m I' hC hm q;show⟨m,hm,λh' fV=>Ps2 (.ref D) H' ⟨?_,rfl,q⟩⟩;show I'.turned  (λb o hb e=>(fV.2 b hb).trans e) hC.1 hC.2.1 hC.2.2.2.1 hC.2.2.2.2.1 hC.2.2.2.2.2
abbrev ach(i:Nat)(t:AY):CM:=λD σ H=>t σ H λx H1=>D.nx (σ.set i (some x)) H1
def uw{y:Str}{py Dv:Pos}(c:c9 X scope cl own cap)(hc:X.calm=true)(hi:PI X tg iter wi)
  (hg:∀C s H fp,PG (BK X (own++cap.map (·.2)) scope cl C s H fp λ_ _=>False) tg g) (ht:∀C s H fp,wK (BK X (own++cap.map (·.2)) scope cl C s H fp λ_ _=>False) ifs tc)
  (he:∀C s H fp,PE (BK X (own++cap.map (·.2)) scope cl C s H fp λ_ _=>False) elt te)
  (hN:X.N.Nodup) (hy:X.N[i]?=some y) (hl:X.env.scope.names.lookup y=some .local)
  (TQ:swapsWith (.ListComp elt [⟨tg,iter,ifs,0⟩] scope pos) (some (.Name y py)) Dv.line X.env=pure true:=by rfl) (hs:∀x,foldedSetIterable iter X.env x=pure x:=by intro _;rfl) :
  PS X (.Assign [.Name y py] (.ListComp elt [⟨tg,iter,ifs,0⟩] scope pos) Dv) (ach i (Se wi g tc te own cap)):=by
 show .mk ?_;intro v4 s σ H D I h;rw[exec_Assign_Name_used _ _ _ _ TQ];show A9 (Hy (A9 ?_));show A9 (Be (KG   rfl hs c.xQ c.kind c.names (AI (hi v4 s σ H _ I h) λv s1 h1=>AI h1 λJS s2 h2=>?_)) (λ_ s' hq=>AQ (AQ hq)) λ_ _ e=>e);let⟨it,fp,tn,J,H2,e,I2,T,oO,f2,hw⟩:=h2;subst e;show cb (Q:=λx H1=>D.nx (σ.set i (some x)) H1)  c hc hg ht he I2 T oO f2 hw ?_;intro D' C s' H' m I' hC hm q;show wpAny_assign_Name (kV (v:=.ref D') I' hN hy (.inl hl) rfl (λQ9 I'' ch=>?_) (.inr hl));let⟨a,sb,ha⟩:=ch;let Zi:C≠a:=by
  rcases ha with ha|ha
  ·rw[ha];show hC.2.1
  ·exactλz=>hC.2.2.2.2.1 _ _ ha z.symm
 show⟨m,hm.sameBut sb Zi,λh' fV=>Ps2 _ H' ⟨?_,q⟩⟩;show I''.turned  (λb o hb e=>(fV.2 b hb).trans e) hC.1 hC.2.1 hC.2.2.2.1 hC.2.2.2.2.1 hC.2.2.2.2.2
end
abbrev eO:List Int→Int
 |[]=>0
 |[x]=>x
 |x::y::r=>max x (eO (y::r))
section
def adK(hu:X.A.units<cLine):iL X (compareOp .NotEq) (λx y H Q=>∃a b xs,x=.ref a∧y=.ref b∧jI X.K H a xs∧jI X.K H b []∧Q (.bl (!xs.isEmpty)) H):=by
 intro v4 s σ H x y v u Q I rx ry h;let⟨a,b,xs,rfl,rfl,ha,hb,q⟩:=h;cases rx;cases ry;let⟨bp,rv,pl,hz⟩:=I.list ha;let⟨iM,vj,sf,Nz⟩:=I.list hb;cases vj;cases xs with
 |nil=>
  cases rv;show SeqAt.RcNeAt.lists (e:=λ_=>true) pl.isList sf.isList rfl hu (λj h1 _=>absurd h1 (by simp)) _ _ _ _ ⟨.bl false,H,I,rfl,q⟩
 |cons x r=>
  cases rv with
  |cons r1 r2=>show SeqAt.RcNeAt.lists_lengths pl.isList sf.isList (by simp) hu _ _ _ _ ⟨.bl true,H,I,rfl,q⟩
end
abbrev Cu{α:Type}(xs:List α)(lo hi:Option Int):List α:=(xs.drop (HT.da xs.length 0 lo)).take (HT.da xs.length xs.length hi-HT.da xs.length 0 lo)
def NW{α:Type}(xs:List α)(lo hi:Option Int):(Cu xs lo hi).length≤xs.length:=by
 unfold Cu;rw[DD,FG];lia
def O6(v:Int)(n d:Nat):max (0:Int) (min (if v<0 then v+(n:Int)else v) (n:Int))=((HT.da n d (some v):Nat):Int):=by
 show _=(((if v<0 then(v+(n)).toNat else min v.toNat n):Nat):Int)
 by_cases hv:v<0
 ·rw[AO hv,AO hv];lia
 ·rw[AL hv,AL hv];lia
def iz(lo hi:Option Int)(n:Nat):Builtin.Str.strSliceIndices lo hi 1 n=Builtin.Str.strSliceIndices (some ((HT.da n 0 lo:Nat):Int)) (some ((HT.da n n hi:Nat):Int)) 1 n:=by
 let a1:=HT.vi n 0 (E6 _) lo;let a2:=HT.vi n n (Ap _) hi;let n1:¬(((HT.da n 0 lo):Int)<0):=by lia
 let n2:¬(((HT.da n n hi):Int)<0):=by lia
 let e1:max (0) (min ((HT.da n 0 lo):Int) (n))=((HT.da n 0 lo)):=by lia
 let e2:max (0) (min ((HT.da n n hi):Int) (n))=((HT.da n n hi)):=by lia
 let p1:((1:Int)>0)=True:=by simp
 simp only[Builtin.Str.strSliceIndices,n1,n2,MX,e1,e2,p1,IJ];cases lo with
 |none=>
  cases hi with
  |none=>rfl
  |some v=>simp only[O6 v n n];rfl
 |some u=>
  cases hi with
  |none=>simp only[O6 u n 0];rfl
  |some v=>simp only[O6 u n 0,O6 v n n]
def n5{a b:Nat}(h:b≤a):Builtin.Str.strSliceIndices (some (a:Int)) (some (b:Int)) 1 n=[]:=by
 let n1:¬((a:Int)<0):=by lia
 let n2:¬((b:Int)<0):=by lia
 let p1:((1:Int)>0)=True:=by simp
 let p2:¬(max (0) (min (a:Int) (n))<max (0) (min (b:Int) (n))):=by lia
 simp only[Builtin.Str.strSliceIndices,PySem.sliceRange,n1,n2,MX,p1,IJ,p2];rfl
def zL(x:Str)(lo hi:Option Int):(StrLaws.sliceText x lo hi).cps.toList=Cu x.cps.toList lo hi:=by
 let hn:x.cps.toList.length=x.length:=by simp[Str.length]
 unfold Cu;rw[hn];let a2:=HT.vi x.length x.length (Ap _) hi;by_cases h:HT.da x.length 0 lo≤HT.da x.length x.length hi
 ·let q:=StrLaws.sliceText_nat x h a2
  let e:StrLaws.sliceText x lo hi=StrLaws.sliceText x (some ((HT.da x.length 0 lo))) (some ((HT.da x.length x.length hi))):=by
   unfold StrLaws.sliceText;rw[iz lo hi x.length]
  rw[e,q]
 ·let z:HT.da x.length x.length hi-HT.da x.length 0 lo=0:=by lia
  rw[z];unfold StrLaws.sliceText;rw[iz lo hi x.length,n5 (by lia)];split
  ·rename_i c
   have c'  := by simpa using c
   show kS (by show c'.symm)
  ·rfl
abbrev adH:V→Option Int→Option Int→A5→Ar→Prop:=λx lo hi H Q=>∃z:Str,x=.str z∧z.length≤sizeLine∧∀y:Str,y.cps.toList=Cu z.cps.toList lo hi→Q (.str y) H
def eqT{X:Cx}:JP X adH:=by
 intro v4 s σ H x v vl vu lo hi sl Q I rx hs pl pu h;let⟨z,rfl,hz,q⟩:=h;let⟨t,rfl⟩:=rx;show Ps2 ("str") _ ⟨F.slot_str_getitem.lookup,Lv _ z t,?_⟩;let fin:∀l u,l.map (·.1)=lo→u.map (·.1)=hi→s.heap.IsSlice sl l u none→wpAny (model X.prog X.w) X.A (getItem (.str z t) (.ref sl)) (Bl X v4 σ Q) X.xe s:=λl u el eu hq=>by
  show wpAny_getItem_str_slice hq rfl ?_;let hc:=zL z lo hi;unfold StrLaws.sliceText at hc;unfold sliceMade slicePicked;rw[el,eu];show(if((1)==1&&(Builtin.Str.strSliceIndices lo hi 1 z.length).length==z.length)=true then Made.val (.str z t)else .str ⟨((Builtin.Str.strSliceIndices lo hi 1 z.length).filterMap (z.cps[·]?)).toArray⟩).post (Bl X v4 σ Q) s
  split
  ·rename_i c
   rw[AO c]at hc;show Ps2 (.str z) H ⟨I,⟨t,rfl⟩,q z hc⟩
  ·rename_i c
   rw[AL c]at hc;have hl  := by
    let e:=NW z.cps.toList lo hi;rw[←hc]at e;simpa[Str.length]using e
   show⟨D6 hl hz,.str ⟨((Builtin.Str.strSliceIndices lo hi 1 z.length).filterMap (z.cps[·]?)).toArray⟩,H,I.tok _,⟨_,rfl⟩,q _ hc⟩
 cases pl with
 |none=>
  cases pu with
  |none=>show fin none none rfl rfl hs
  |int j t'=>show fin none (some (j,t')) rfl rfl hs
 |int i Vx=>
  cases pu with
  |none=>show fin (some (i,Vx)) none rfl rfl hs
  |int j t'=>show fin (some (i,Vx)) (some (j,t')) rfl rfl hs
section
variable {x: Expr}{p2: Pos}{T: Str}{Ty: String}
abbrev tN(K:W.Frag)(Ty:String)(te:AY):AY:=λσ H Q=>te σ H λv H1=>∃v',[v,V.ty Ty]=[v',V.ty Ty]∧∃t b,FH K H1 v' t∧W.kitOne K t (.type Ty)=some b∧Q (.bl b) H1
def mI(hg:Bs X "isinstance")(hm:X.mg "isinstance" = none)(Qh:Bs X T)(Qd:X.mg T=none)(P5:bootBuiltins T=some (.type Ty))(he:PE X x te)(hn:T ≠ "__name__" := by decide)(Ql:(T ==("__debug__" : Str))=false:=by decide)
  (hs:starEach [x,.Name T p2] X.env=(false,eval x X.env)::starEach [.Name T p2] X.env:=by rfl) (vO:starEach [.Name T p2] X.env=[(false,eval (.Name T p2) X.env)]:=by rfl)
  (iE:(backTo pos (starEach [.Name T p2] X.env)).any (·.1)=false:=by rfl) :
  PE X (.Call (.Name "isinstance" p) [x,.Name T p2] [] pos) (tN X.K Ty te):=by
 let c:Fb X (.builtin "isinstance") (λxs H Q=>∃v,xs=[v,.ty Ty]∧∃t b,FH X.K H v t∧W.kitOne X.K t (.type Ty)=some b∧Q (.bl b) H):=by
  intro v4 s σ H xs us Q I r h;let⟨v,rfl,⟨t,b,ty,e,q⟩⟩:=h;let⟨u,w',rfl,ru,rT⟩:=vals2 r;cases(rT);show rU I ru ty e λtk=>Ps2 (.bl b) H ⟨I.tok tk,rfl,q⟩
 let pa:PA X [x,.Name T p2] (SM te (SM (JA (.ty Ty)) bx)):=aj he (aj (zd Qh Qd P5 rfl hn Ql) fT vO) hs;show jy   c hg hm PyProof.Rows.boot_isinstance pa (by decide) (by decide) hs iE
end
abbrev Callee(P:Program)(w:World)(K:W.Frag)(mg:KK)(base:Heap)(x:Str)(k:Nat)(ps:List Str)(sp:Dw):Prop:=
 ∃f fd,bj P w K mg base Ao k f fd ps sp∧mg x=some (.ref f)∧W.keepIn K (.ref f)=true∧Binds K fd ps []
section
variable {x: Str}{k j: Nat}{ps: List Str}{sp: Dw}{e: Expr}{es: List Expr}{t: CY}
def nK(c:Callee X.prog X.w X.K X.mg X.base x k ps sp)(hr:dA j X.A)(hk:k≤j)(hg:Bs X x)(ha:PA X (e::es) t)(qK:(x ==("__debug__" : Str))=false:=by decide)
  (he:starEach (e::es) X.env=(false,eval e X.env)::starEach es X.env:=by rfl) (iE:(backTo pos (starEach es X.env)).any (·.1)=false:=by rfl):PE X (.Call (.Name x p) (e::es) [] pos) (g0 sp [] J3 t):=by
 let⟨f,fd,F,m,kp,b⟩:=c;show mm F (hr.mono hk) hg m kp b .nil iS ha qK he iE
end
section
def nb{p:Str×NameKind}(h:p∈(relabel scope env).names):∃q∈scope.names,q.1=p.1∧(p.2=q.2∨(q.2=.free∧p.2=.cell)):=by
 let⟨q,hq,e⟩:=aai.mp (show p∈scope.names.map _ from h);show⟨q,hq,?_⟩;obtain⟨n,k⟩:=q;dsimp only at e;split at e
 ·rename_i c
  subst e;show⟨rfl,.inr ⟨?_,rfl⟩⟩;simp only[EJ,abZ]at c;show c.1.1
 ·subst e
  show⟨rfl,.inl rfl⟩
def jm(hk:scope.kind=.function)(hn:∀y∈scope.names,y.2≠.free∧y.2≠.cell)(hl:∀y∈scope.names,y.2=.local→scope.names.lookup y.1=some .local):c9 X scope [] own [] where
 xQ:=closureFor_none λy hy=>(hn y hy).1
 cell:=λy hy=>(hn y hy).2
 kind:=hk
 names:=hl
 sub:=λx c h=>nomatch h
 has:=λp hp h=>by
  let⟨q,hq,e1,e2⟩:=nb hp;let n:=hn q hq;rcases e2 with e2|⟨e2,_⟩
  ·rw[e2]at h
   rcases h with h|h
   ·show absurd h n.2
   ·show absurd h n.1
  ·show absurd e2 n.1
 IM:=λp hp=>nomatch hp
abbrev yh(cells:List (Str×Addr)):List (Str×Addr)→Prop
 |[]=>True
 |p::r=>cells.lookup p.1=some p.2∧yh cells r
def yh.mem{cells:List (Str×Addr)}:∀{cl:List (Str×Addr)},yh cells cl→∀p∈cl,cells.lookup p.1=some p.2
 |[],_,p,h=>nomatch h
 |q::r,h,p,hp=>by
  rcases aaf.mp hp with rfl|hp
  ·show h.1
  ·show yh.mem h.2 p hp
abbrev tU(X:Cx)(scope:Scope):List (Nat×Str)→Prop
 |[]=>True
 |p::r=>(X.N[p.1]?=some p.2∧X.env.kindOf p.2=some .cell∧(relabel scope X.env).names.lookup p.2=some .cell)∧tU X scope r
def tU.mem:∀{cap:List (Nat×Str)},tU X scope cap→∀p∈cap,X.N[p.1]?=some p.2∧X.env.kindOf p.2=some .cell∧(relabel scope X.env).names.lookup p.2=some .cell
 |[],_,p,h=>nomatch h
 |q::r,h,p,hp=>by
  rcases aaf.mp hp with rfl|hp
  ·show h.1
  ·show tU.mem h.2 p hp
def Fp{cl:List (Str×Addr)}{cap:List (Nat×Str)}(hk:scope.kind=.function)(hn:∀y∈scope.names,y.2≠.cell)(hl:∀y∈scope.names,y.2=.local→scope.names.lookup y.1=some .local)
  (hc:closureFor scope X.env=pure cl) (ha:yh X.env.cells cl) (hh:((relabel scope X.env).names.all λp=>!(p.2 == .cell||p.2 == .free)||(cl.lookup p.1).isSome)=true) (Uh:tU X scope cap):c9 X scope cl own cap where
 xQ:=hc
 cell:=hn
 kind:=hk
 names:=hl
 sub:=λx c h=>ha.mem _ (mem_of_lookup h)
 has:=λp hp h=>by
  let q:=aaR.mp hh p hp;rcases h with h|h<;>· rw[h]at q;simpa using q
 IM:=λp hp=>by
  let⟨h1,h2,h3⟩:=Uh.mem p hp;show⟨h1,.inr (.inl h2),by rw[h2];decide,by rw[h3];decide,.inl h3⟩
end
def Ta:bootBuiltins "bool" = some (.type "bool"):=by done
def hU:bootBuiltins "int" = some (.type "int"):=by done
def JF:bootBuiltins "str" = some (.type "str"):=by done
def E9:bootBuiltins "tuple" = some (.type "tuple"):=by done
def acb:bootBuiltins "dict" = some (.type "dict"):=by done
abbrev Kp(l:List Addr)(H H':A5):Prop:=∀b o,b∉l→H b=some o→H' b=some o
def Kp.refl(H:A5):Kp l H H:=λ_ _ _ h=>h
def Kp.new{H:A5}{p:Addr}(h:H p=none)(o:HO):Kp l H (AM H p o):=λb u _ q=>by rw[B0 (Gd q h)];show q
end L2
namespace L2
open PySem PySem.Spec PyProof.Rows PySem.W
variable {h:Heap}{H: A5}{v4:ac}{σ:St}{H1:A5}{s1:Shared}{b:Addr}{o:Obj}{P:Program}{w:World}{x: Str}{X: Cx}{np pos: Pos}{t: CY}{E: BG}{s: Shared}
def uv{K:Frag}{C:Addr}{Kb:List Value}{newId:String}(X:K.In h)(q:excIn K C Kb newId=true):
  ∃bm N nm q bs hdct sn sub ab col dd k0 k1 k2 k3 k5 mN,h.get? C=some (excClassObj nm q C N bs bm hdct sn sub ab col dd k0 k1 k2 k3 k5 newId)∧h.Ns N mN∧mN "__init__" = none∧OwnTail h Kb bm:=by
 unfold excIn at q;split at q
 ·rename_i dd cd sl ho
  split at q
  ·rename_i C' bm k0 k1 k2 k3 n k5 hm hs
   simp only[EJ,abZ,Bool.not_eq_true']at q;let⟨⟨⟨⟨⟨rfl,rfl⟩,Ud⟩,ht⟩,bV⟩,T2⟩:=q;obtain⟨nm,bs,mro,ns,qn,hd,sn,sub,ab,col,del⟩:=cd;subst hm Ud;let YH:sl=#[k0,k1,k2,k3,some (.builtin n),k5]:=by
    obtain⟨l⟩:=sl;simp only at hs;rw[hs]
   subst YH;show⟨bm,ns,nm,qn,bs,hd,sn,sub,ab,col,dd,k0,k1,k2,k3,k5,_,X _ _ ho,.of_isNs (isNs_of_in X bV),nsMap_none_of_in X bV T2,tail_of_in X ht⟩
  ·cases q
 ·cases q
structure RI(fs:List Addr)(H H':A5)(h B h':Heap):Prop where
 keep:∀b o,h.get? b=some o→H b=none→b∉fs→B.get? b=some o
 slot:∀b o,h.get? b=some o→H b=none→b∈fs→∃sl,h'.get? b=some {o with slots:=sl}
 free:∀b o,h.get? b=some o→H b=none→H' b=none
 there:∀b o,h.get? b=some o→b∉fs→∃o',B.get? b=some o'
 nv:∀b xs,H b=some (.tup xs)→H' b=some (.tup xs)
 mT:∀b o u,H b=some (.frz o u)→H' b=some (.frz o u)
 nz:∀b ps,H b=some (.tbl ps)→∃more,H' b=some (.tbl (ps++more))
def RI.un{fs:List Addr}{H H':A5}{B h':Heap}(u:RI fs H H' h B h')(st:B.StaysIn h')(hf:∀b∈fs,H b=none):Un fs [] H H' h h':=
 ⟨λb o e n hb _=>st b o (u.keep b o e n hb),λb o e n hb _=>u.slot b o e n hb,λb o e n _=>u.free b o e n,λb o e _=>by
  by_cases hb:b∈fs
  ·let⟨sl,q⟩:=u.slot b o e (hf b hb) hb
   show⟨_,q⟩
  ·let⟨o',q⟩:=u.there b o e hb
   show⟨o',st b o' q⟩,u.nv,u.mT,u.nz⟩
abbrev G6(P:Program)(w:World):HB:=λouter H s E e s'=>∃(x:Addr) (C a0:Value) (H':A5) (B:Heap),e=.ref x∧s'.os=s.os∧AllBare s'.gens∧
 Heap.FlyingW B outer x C a0 s'.heap∧mZ P w H' B∧RI (E7 outer) H H' s.heap B s'.heap∧E C none H'
abbrev Raises(X:Cx)(E:BG):Prop:=∀(v4:ac) (σ:St) (H:A5) (s:Shared) (h':Heap) (x:Addr) (C:Value) (vs:List Value),Inv X v4 σ H s→Heap.MadeExcOf s.heap h' x C vs→E C none H→X.xe (.ref x) {s with heap:=h'}
section
variable {C: Addr}{Kb: List Value}{B newId zI: String}{eX: Pos}{e₀: Expr}{v6: List Expr}
abbrev tE(E:BG)(C:Addr)(t:CY):CM:=λ_ σ H=>t σ H λvs H1=>vs.length≤sizeLine∧E (.ref C) none H1
def vh(hc:X.calm=true)(hg:Bs X x)(hm:X.mg x=some (.ref C))(hx:excIn X.K C Kb newId=true)(FB:ExcBaseFacts B newId zI Kb)(ha:PA X (e₀::v6) t)(hE:Raises X E)
  (hd:(x ==("__debug__" : Str))=false:=by decide) (he:starEach (e₀::v6) X.env=(false,eval e₀ X.env)::starEach v6 X.env:=by rfl) (iE:(backTo eX (starEach v6 X.env)).any (·.1)=false:=by rfl) :
  PS X (.Raise (some (.Call (.Name x np) (e₀::v6) [] eX)) none pos) (tE E C t):=by
 show .mk ?_;intro v4 s σ H D I h;obtain⟨bm,N,nm,q,bs,hdct,sn,sub,ab,col,dd,k0,k1,k2,k3,k5,mN,hC,hN,T2,T⟩:=uv I.mod.JO hx;show wpAny_Raise_call_subT  (nm:=nm) (q:=q) (N:=N) (bs:=bs)  (hdct:=hdct) (sn:=sn) (sub:=sub) (ab:=ab) (col:=col) (dd:=dd) (k0:=k0) (k1:=k1) (k2:=k2) (k3:=k3) (k5:=k5)
  FB  (T.hasType FB.hasBase) (I.ok.hd hc) (by rw[he];show(false||(backTo eX (starEach v6 X.env)).any (·.1))=false;rw[iE];rfl) T2 (Kc I hg hm ⟨rfl,?_⟩ hd)
 let hA:=ha eX v4 s σ H _ I h;rw[he]at hA ⊢;show aV (AI hA λus s2 ξ=>Xi24 ξ λvs H1 I1 r1 hz q1=>?_);show⟨rfl,by rw[←r1.length];show hz,I1.bk _ _ hC,hN.keeps I1.bk,T.keeps I1.bk,λh' e hM=>hE v4 σ H1 s2 h' e _ _ I1 hM q1⟩
end
section
variable {P: Program}{w: World}{K: W.Frag}{mg: Str→Option Value}{base: Heap}{N: List Str}{qual: Str}{scope: Scope}{f: Addr}{cd: Value}{A: Around}{outer: List Env}
noncomputable abbrev II(P:Program)(w:World)(K:W.Frag)(mg:KK)(base:Heap)(N:List Str)(qual:Str)(scope:Scope)(f:Addr)(cd:Value)(A:Around)(outer:List Env)(s:Shared)(H:A5)(E:BG):Cx:=
 J4 (G6 P w) P w K mg base N qual scope f cd A outer s H E
def Pq(I:Inv (II P w K mg base N qual scope f cd A outer s H E) v4 σ H1 s1)(e:s.heap.get? b=some o)(hb:b∉E7 outer):
  b∉E7 (envOfC qual scope s.heap.objs.size f cd::outer):=λhm=>by
 rcases aaf.mp (I.uX b hm)with z|z
 ·show absurd (B3 e) (by rw[z];show GG _)
 ·show hb z
def gI(I:Inv (II P w K mg base N qual scope f cd A outer s H E) v4 σ H1 s1)(e:s.heap.get? b=some o)(hb:b∈E7 outer):∀vs,o.data≠.fields vs:=by
 let⟨_,⟨o',ri,Iw⟩⟩:=I.ok.lY.mem hb;let e':s.heap.get? b=some o':=ri;rw[e]at e';cases e';show Iw
def RF:Raises (II P w K mg base N qual scope f cd A outer s H E) E:=by
 intro v4 σ H1 s1 h' x C vs I M hE;let Wb:∀FC∈envOfC qual scope s.heap.objs.size f cd::outer,∀a,FC.frame=some a→a∈E7 (envOfC qual scope s.heap.objs.size f cd::outer):=λFC he a ha=>abV.mpr ⟨FC,he,ha⟩;show wpAny_leaves_madeW   I.ok.frames rfl (λb o q=>of_hideAll _ q) (funFrames_hide I.stack Wb) M λh2 t x1 x2 x3 x4=>?_;let nf:∀b u,H1 b=some u→b∉E7 (envOfC qual scope s.heap.objs.size f cd::outer):=λb u q hm=>by
  let z:=I.qU b hm;rw[q]at z;cases z
 show Ps5 x C (.ref t) H1 _ ⟨rfl,I.os,I.bare,x1,λa o q=>?_,⟨λb o q n hb=>?_,λb o q n hb=>?_,λb o q n=>?_,λb o q hb=>?_,I.base.nv,I.base.mT,I.base.nz⟩,hE⟩
 ·show(I.bV a o q).t4 (λb u hb z=>hideAll_get _ z ?_) (λ_ z=>z) λ_ _ z=>z
  rcases hb with rfl|hb
  ·show nf _ _ q
  ·show nf _ _ hb
 ·show hideAll_get _ (I.base.keep b o q n hb (DF)) (Pq I q hb)
 ·let⟨sl,z⟩:=I.base.slot b o q n hb (DF)
  let⟨Nq,z2⟩:=x4 b _ (M.keeps _ _ z) (have fd:=gI I q hb;λvs=>fd vs);show⟨Nq,z2⟩
 ·show I.base.free b o q n (DF)
 ·let⟨o',z⟩:=I.base.there b o q (DF)
  show⟨o',hideAll_get _ z (Pq I q hb)⟩
def fQ:Passes (G6 P w) (II P w K mg base N qual scope f cd A outer s H E) E:=by
 intro v4 σ H1 s1 e s2 I h;let⟨x,C,a0,H',B,rfl,os,bare,fl,bV,u,hE⟩:=h;show wpAny_leaves_onW I.ok.frames rfl fl λh2 f2 up=>?_;show Ps5 x C a0 H' B ⟨rfl,os.trans I.os,bare,f2,bV,⟨λb o q n hb=>?_,λb o q n hb=>?_,λb o q n=>?_,λb o q hb=>?_,λb xs q=>u.nv b xs (I.base.nv b xs q),λb o v q=>u.mT b o v (I.base.mT b o v q),λb ps q=>?_⟩,hE⟩
 ·show u.keep b o (I.base.keep b o q n hb (DF)) (I.base.free b o q n (DF)) (Pq I q hb)
 ·let⟨sl,z⟩:=I.base.slot b o q n hb (DF)
  let hm:b∈E7 (envOfC qual scope s.heap.objs.size f cd::outer):=by
   let⟨FC,he,ha⟩:=abV.mp hb;show abV.mpr ⟨FC,Cn _ he,ha⟩
  let⟨Nq,z2⟩:=u.slot b _ z (I.base.free b o q n (DF)) hm;let⟨XF,z3⟩:=up b _ z2 (have fd:=gI I q hb;λvs=>fd vs);show⟨XF,z3⟩
 ·let⟨o',z⟩:=I.base.there b o q (DF)
  show u.free b o' z (I.base.free b o q n (DF))
 ·let⟨o',z⟩:=I.base.there b o q (DF)
  show u.there b o' z (Pq I q hb)
 ·let⟨m1,z1⟩:=I.base.nz b ps q
  let⟨m2,z2⟩:=u.nz b _ z1;show⟨m1++m2,by rw[z2,Array.append_assoc]⟩
def dw:PassesOwn (model P w) (II P w K mg base N qual scope f cd A outer s H E).A (II P w K mg base N qual scope f cd A outer s H E).env (II P w K mg base N qual scope f cd A outer s H E).xe:=PassesOwn.leaving
end
def cT.X4{K:W.Frag}{mg:KK}{base:Heap}{x qual:Str}{st:Stmt}{f:Addr}{fd:FuncData}{N ps:List Str}{k:Nat}{sp:Dw}(F:cT K x qual st f fd)(S:Av N ps (Ag st))(len:∀vs H Q E,sp vs H Q E→vs.length=ps.length)
  (oh:∀(cq:Value) (A:Around) (outer:List Env) (s:Shared) (H:A5) (vs:List V) (Q:Ar) (E:BG),dA k (A.deeper (envOfC qual (Ag st) s.heap.objs.size f cq))→sp vs H Q E→
   ∃t,mY (II P w K mg base N qual (Ag st) f cq A outer s H E) (G0 st) t∧t {nx:=λ_ H'=>Q .non H',rt:=Q} (start N vs) H):bj P w K mg base (G6 P w) (k+1) f fd ps sp:=by
 let⟨oc,od,BI,doc,pm,an,cq,ct,BS,rfl,lk,xC⟩:=F.ex;show dW lk xC S len λA outer s H vs Q E hr yn=>oh cq A outer s H vs Q E hr yn
abbrev av(P:Program)(w:World)(K:W.Frag)(mg:KK)(base:Heap)(x:Str)(k:Nat)(ps:List Str)(sp:Dw):Prop:=
 ∃f fd,bj P w K mg base (G6 P w) k f fd ps sp∧mg x=some (.ref f)∧W.keepIn K (.ref f)=true∧Binds K fd ps []
def bU.got{H:A5}{a:Addr}{o:HO}(x:bU P w H h a o):∃u,h.get? a=some u:=by
 cases o with
 |lst xs=>let⟨_,⟨_,_,_,e⟩⟩:=x;show⟨_,e⟩
 |tup xs=>let⟨_,⟨_,_,⟨o,e,_⟩⟩⟩:=x;show⟨_,e⟩
 |dK aA=>let⟨_,_,⟨_,_,⟨o,_,_,e,_⟩⟩⟩:=x;show⟨_,e⟩
 |dT aA=>let⟨_,_,⟨_,_,⟨o,_,_,e,_⟩⟩⟩:=x;show⟨_,e⟩
 |set S n=>let⟨o,_,_,_,e,_⟩:=x;show⟨_,e⟩
 |ins C dx fs=>let⟨_,_,_,e,_⟩:=x;show⟨_,e⟩
 |own y=>show x
 |xd fs=>let⟨_,⟨_,_,_,e,_⟩,_⟩:=x;show⟨_,e⟩
 |rng lo hi=>let⟨_,_,_,e⟩:=x;show⟨_,e⟩
 |frz ob u=>let⟨e,_⟩:=x;show⟨_,e⟩
 |tbl ps=>show⟨_,(show h.get? a=some _ from x)⟩
 |met f y=>show⟨_,(show h.get? a=some _ from x)⟩
 |ext φ=>let⟨_,e,_⟩:=x;show e
section
variable {v4: List (Addr×Obj)}{σ: St}
noncomputable abbrev Cx.tr(X:Cx)(E':xz)(pn:ac):Cx:={X with xe:=E',pn:=pn}
noncomputable abbrev Cx.su(X:Cx)(x:Addr):Cx:={X with A:=X.A.mark (some (.ref x)),calm:=false,xe:=λ_ _=>False}
def Cx.Ok.tr(ok:X.Ok)(E':xz)(pn:ac):(X.tr E' pn).Ok:=
 ⟨ok.mod,ok.kind,ok.glob,ok.blt,ok.above,ok.inj,ok.has,ok.J8,ok.hd,ok.frames,ok.KI,ok.Gn,ok.bs,ok.F0,ok.xk,ok.qL,ok.lY,ok.Gm⟩
def Cx.Ok.su(ok:X.Ok)(x:Addr):(X.su x).Ok:=
 ⟨ok.mod,ok.kind,ok.glob,ok.blt,ok.above,ok.inj,ok.has,ok.J8,(λz=>absurd (show false=true from z) (by decide)),ok.frames,ok.KI,ok.Gn,ok.bs,ok.F0,ok.xk,ok.qL,ok.lY,ok.Gm⟩
def Inv.tr(I:Inv X v4 σ H s)(E':xz):Inv (X.tr E' (X.pn++v4)) [] σ H s:=
 ⟨I.ok.tr E' _,I.os,I.bare,I.base,I.loc,I.cell,I.free,I.iG,λp hp=>I.pin p (by simpa using hp),I.bV,I.len⟩
def Inv.C6{E':xz}{sg:ac}(ok:X.Ok)(I:Inv (X.tr E' (X.pn++v4)) sg σ H s):Inv X v4 σ H s:=
 ⟨ok,I.os,I.bare,I.base,I.loc,I.cell,I.free,I.iG,λp hp=>I.pin p (G4 _ hp),I.bV,I.len⟩
def Inv.su(I:Inv X v4 σ H s)(x:Addr):Inv (X.su x) v4 σ H s:=⟨I.ok.su x,I.os,I.bare,I.base,I.loc,I.cell,I.free,I.iG,I.pin,I.bV,I.len⟩
def Inv.GA{x:Addr}(ok:X.Ok)(I:Inv (X.su x) v4 σ H s):Inv X v4 σ H s:=⟨ok,I.os,I.bare,I.base,I.loc,I.cell,I.free,I.iG,I.pin,I.bV,I.len⟩
end
section
abbrev fh(X:Cx)(v4:ac)(D:Ends)(hs:List ExceptHandler):xz:=λe s₁=>
 wpAny (model X.prog X.w) X.A (noteFrame e X.env) (λ_ s₂=>wpAny (model X.prog X.w) X.A (setFlight e none) (λ_ s₃=>wpAny (model X.prog X.w) X.A (handleBy e X.env hs) (SP X v4 D) X.xe s₃) X.xe s₂) X.xe s₁
end
section
variable {k j: Nat}{ps: List Str}{sp: Dw}{p: Pos}{e: Expr}{es: List Expr}{W: St→BG}
abbrev pK(sp:Dw)(W:St→BG)(t:CY):AY:=λσ H Q=>t σ H λvs H1=>sp vs H1 Q (W σ)
abbrev Sd(X:Cx)(W:St→BG):Prop:=∀(v4:ac) (σ:St) (H:A5) (s:Shared) (e:Value) (s':Shared),Inv X v4 σ H s→G6 X.prog X.w X.stack H s (W σ) e s'→X.xe e s'
def mL(c:av X.prog X.w X.K X.mg X.base x k ps sp)(hr:dA j X.A)(hk:k≤j)(hg:Bs X x)(hx:Sd X W)(ha:PA X (e::es) t)(qK:(x ==("__debug__" : Str))=false:=by decide)
  (he:starEach (e::es) X.env=(false,eval e X.env)::starEach es X.env:=by rfl) (iE:(backTo pos (starEach es X.env)).any (·.1)=false:=by rfl):PE X (.Call (.Name x p) (e::es) [] pos) (pK sp W t):=by
 show .mk ?_;let⟨f,fd,F,m,kp,b⟩:=c;intro v4 s σ H Q I h;show Ie (Kc I hg m ?_ qK);show Me  I.ok.mod.JO kp (AI (ha pos v4 s σ H _ I h) λus s1 ξ=>Xi23 ξ λvs H1 I1 r q=>⟨I1.nZ,?_⟩) he iE;let hl:us.length=ps.length:=by rw[←r.length];show F.len _ _ _ _ q
 let hb:=b s1 us I1.nZ (by rw[BX];show hl);rw[BX]at hb;show wpAny_call (Jx (F.run X.A X.stack s1 H1 ⟨us,[]⟩ us vs Q (W σ) (hr.mono hk) I1.MU hb r q) λr' s' hq=>?_);cases r' with
 |error e=>show hx v4 σ H1 s1 e s' I1 hq
 |ok fl=>
  cases fl with
  |ret u=>show I1.after hq
  |next=>show False.elim hq
  |brk=>show False.elim hq
  |cont=>show False.elim hq
end
section
variable {body pS: List Stmt}{b₀: Stmt}{y: Str}{zJ: Pos}{Cy: Addr}{tb:(St→BG)→CM}{ts: CM}
abbrev UN(K:W.Frag)(Cy:Addr)(ts:CM)(D:Ends):St→BG:=λσ C _ H'=>exmOne K C (.ref Cy)=some true∧ts D σ H'
abbrev qv(K:W.Frag)(Cy:Addr)(tb:(St→BG)→CM)(ts:CM):CM:=λD σ H=>tb (UN K Cy ts D) D σ H
def ab9{D:Ends}(ok:X.Ok)(ym:X.stack=X.env::X.outer)(Iv:X.env.frame=some X.env.locals)(hy:Bs X y)(Qb:X.mg y=some (.ref Cy))
  (hs:∀x,mY (X.su x) (b₀::pS) ts) (hd:(y ==("__debug__" : Str))=false) {σ1:St}   {e:Value} {s2:Shared} (J1:Inv X v4 σ1 H1 s1) (Ue:G6 X.prog X.w X.stack H1 s1 (UN X.K Cy ts D σ1) e s2) :
  fh X v4 D [.ExceptHandler (some (.Name y np)) none (b₀::pS) zJ] e s2:=by
 let⟨x,C,a0,H',B,rfl,os,bare,fl,bV,u,hm,hw⟩:=Ue;let T9:X.A.frames=some (X.env::X.outer):=by rw[←ym];show ok.frames
 let Wz:Heap.FlyingW B (X.env::X.outer) x C a0 s2.heap:=by rw[←ym];show fl
 let data:∀b∈E7 X.stack,∀o,s1.heap.get? b=some o→∀vs,o.data≠.fields vs:=λb hb o q=>by
  let⟨_,⟨o',ri,Iw⟩⟩:=J1.stack.mem hb;rw[q]at ri;cases ri;show Iw
 let VV:∀h5 ,B.StaysIn h5→s2.heap.UpToSlots h5→Inv X v4 σ1 H' {s2 with heap:=h5}:=λh5 st up=>by
  let u5:RI (E7 X.stack) H1 H' s1.heap B h5:=⟨u.keep,λb o q n' hb=>by
   let⟨sl,z⟩:=u.slot b o q n' hb;let⟨Nq,z2⟩:=up b _ z (have dd:=data b hb o q;λvs=>dd vs);show⟨Nq,z2⟩,u.free,u.there,u.nv,u.mT,u.nz⟩
  show J1.J7   os (u5.un st J1.qU) (bV.kept st) bare (λb hb=>nomatch hb)
 have YD  := Wz.2.1;let Hx:H' x=none:=by
  cases q:H' x with
  |none=>rfl
  |some o=>
   let⟨z,hz⟩:=(bV x o q).got;rw[YD]at hz;cases hz
 show wpAny_looks_onW T9 Iv Wz λh4 Qj Vm=>?_;show wpAny_landsW Qj λh5 Uu Vl=>?_;let I5:=VV h5 Uu.1 (Vm.trans Vl);let⟨ob,YT,Rv⟩:=Uu.there;let LT:Looks (model X.prog X.w) h5 (typeOf (.ref x)) C:=by rw[←Rv];show(Looks.ld YT).andThen .now
 show wpAny_handleBy_cons (codeAny_handlers_test (Kc  (I5.su x) hy Qb ?_ hd)) (by intro q;cases q);show(exm_one I5.nZ LT hm).here ?_;show codeAny_handlers_suite ?_;show lands_againW Uu λh6 fl6 Xf=>?_;let I6:=VV h6 fl6.1 ((Vm.trans Vl).trans Xf);show Be ((hs x).run v4 {s2 with heap:=h6} _ _ _ (I6.su x) hw) (λf s8 q=>?_) (λ_ _ z=>z.elim);cases f with
 |next=>obtain⟨σ2,H2,I8,q⟩:=q;show Ps2 _ _ ⟨Inv.GA ok I8,q⟩
 |brk=>obtain⟨σ2,H2,I8,q⟩:=q;show Ps2 _ _ ⟨Inv.GA ok I8,q⟩
 |cont=>obtain⟨σ2,H2,I8,q⟩:=q;show Ps2 _ _ ⟨Inv.GA ok I8,q⟩
 |ret v=>obtain⟨v',σ2,H2,I8,r,q⟩:=q;show Ps3 v' _ _ ⟨Inv.GA ok I8,r,q⟩
def oS(ym:X.stack=X.env::X.outer)(Iv:X.env.frame=some X.env.locals)(hy:Bs X y)(Qb:X.mg y=some (.ref Cy))
  (hb:∀(E':xz) (pn:ac) (W:St→BG),(∀v4 σ H s e s',Inv (X.tr E' pn) v4 σ H s→G6 X.prog X.w X.stack H s (W σ) e s'→E' e s')→mY (X.tr E' pn) body (tb W))
  (hs:∀x,mY (X.su x) (b₀::pS) ts) (hd:(y ==("__debug__" : Str))=false:=by decide) :
  PS X (.Try body [.ExceptHandler (some (.Name y np)) none (b₀::pS) zJ] [] [] pos) (qv X.K Cy tb ts):=by
 show .mk ?_;intro v4 s σ H D I h;let ok:=I.ok;show wpAny_Try_except ?_;let fin:=(hb (fh X v4 D [.ExceptHandler (some (.Name y np)) none (b₀::pS) zJ]) (X.pn++v4) (UN X.K Cy ts D) (λsg σ1 H1 s1 e s2 J Ue=>ab9 ok ym Iv hy Qb hs hd (Inv.C6 ok J) Ue)).run [] s σ H D (I.tr _) h;show Be fin (λf s1 q=>?_) λe s1 q=>q;cases f with
 |next=>
  obtain⟨σ',H',I',q⟩:=q;show wpAny_execs_nil ⟨σ',H',Inv.C6 ok I',q⟩
 |brk=>obtain⟨σ',H',I',q⟩:=q;show Ps2 σ' H' ⟨Inv.C6 ok I',q⟩
 |cont=>obtain⟨σ',H',I',q⟩:=q;show Ps2 σ' H' ⟨Inv.C6 ok I',q⟩
 |ret v=>obtain⟨v',σ',H',I',r,q⟩:=q;show Ps3 v' σ' H' ⟨Inv.C6 ok I',r,q⟩
end
end L2
namespace L2
open PySem PySem.Spec PyProof.Rows
variable {i t':Nat}{j t a u z p j1 j2 u1 u2:Addr}{pos:Pos}{bs:List Bool}{s:Shared}{prog P:Program}{w:World}{A:Around}{E Q:xz}{ss:List Str}{ch:List Addr}{K:W.Frag}{vs ws:Array Value}{b:Value}{X: Cx}
section
abbrev Bt(i j:Int):Prop:=0<j∧j<2^200
def Bt.S7{i j:Int}(h:Bt i j):Builtin.divisionGoesByPylong i j=false:=by
 show PyProof.noPylong_of_log2 ?_;let h1:j.natAbs<2^200:=by have:=h.1;have:=h.2;lia
 let h2:j.natAbs≠0:=by have:=h.1;lia
 have:=(Nat.log2_lt h2).mpr h1;lia
def acL:iL X (binaryOp .FloorDiv) (Jz Bt λi j=>.int (i/j)):=Lg λi j _ _ _ _ _ hc q=>by
 have h1  := hc.1;show floordiv_int (by lia) (by rw[Int.fdiv_eq_ediv_of_nonneg i (by lia)];show q) (.inl hc.S7)
abbrev jz(X:Cx)(r:V→A5→Ar→Prop):Prop:=
 ∀v4 s σ H (x:V) (v vs:Value) (sl:Addr) (Q:Ar),Inv X v4 σ H s→RelV x v→s.heap.IsSliceOf sl .none .none vs→IsPart vs (some (-1))→r x H Q→
  ∃T id,typeLookup (.type T) "__getitem__" = pure (some (.builtin id))∧s.TypeIs v T∧wpAny (model X.prog X.w) X.A (getItem v (.ref sl)) (Bl X v4 σ Q) X.xe s
def wB{r:V→A5→Ar→Prop}{e st:Expr}{te ts:AY}{p2:Pos}(hr:jz X r)(he:PE X e te)(hs:PE X st ts):
  PE X (.Subscript e (.Slice none none (some st) p2) pos) (λσ H Q=>te σ H λx H1=>ts σ H1 λy H2=>y=.int (-1)∧r x H2 Q):=by
 show .mk ?_;intro v4 s σ H Q I h;show Subscript_ (AI (he v4 s σ H _ I h) λv s1 ξ=>Xi23 ξ λx H1 I1 r1 q1=>?_);show wpAny_Slice ?_;show AQ ?_;show AQ ?_;show AI (hs v4 s1 σ H1 _ I1 q1) λvs s2 ξ=>Xi23 ξ λy H2 I2 r2 q2=>?_;let⟨rfl,q3⟩:=q2;let⟨t,rfl⟩:=r2;let I4:Inv X v4 σ H2 {s2 with heap:=s2.heap.push {cls:=.type "slice",data:=.fields #[.none,.none,.int (-1) t]}}:=I2.kept  λb ob q=>B1 _ q;let⟨T,id,hT,ht,hg⟩:=hr v4 {s2 with heap:=s2.heap.push {cls:=.type "slice",data:=.fields #[.none,.none,.int (-1) t]}} σ H2 x v _ s2.heap.objs.size Q I4 r1 (Heap.IsSliceOf.new ..) (.int (-1) t) q3;show tail_any  ht hT hg (by with_unfolding_all rfl)
def fU:∀{us:List Value},Vals (bs.map V.bl) us→us=bs.map Value.bool:=by
 induction bs with
 |nil=>intro us r;cases r;rfl
 |cons n ns ih=>
  intro us r;cases r with
  |cons r1 r2=>
   rw[ih r2];cases r1;rfl
def range_all:(List.range bs.length).all (λi=>bs.getD i true)=bs.all id:=by
 rw[abo,aaR,aaR];constructor
 ·intro h b hb
  obtain⟨i,hi,rfl⟩:=LU hb;have:=h i (aaP.mpr hi);simpa[BV hi]using this
 ·intro h i hi
  let Ir:=aaP.mp hi;have:=h bs[i] (Eg Ir);simpa[BV Ir]using this
def ja{o₀:Obj}{h':Heap}(hk:∀b o,b∉[s.heap.objs.size]→(s.heap.push o₀).get? b=some o→h'.get? b=some o):∀b o,s.heap.get? b=some o→h'.get? b=some o:=λb o e=>by
 show hk b o (λhm=>?_) (B1 _ e);show absurd ((aaC.mp hm) ▸ B3 e) (GG _)
def acp(hc:X.calm=true):Fb X (.builtin "all") (λxs H Q=>∃(p:Addr) (bs:List Bool),xs=[.ref p]∧jI X.K H p (bs.map V.bl)∧Q (.bl (bs.all id)) H):=by
 intro v4 s σ H xs us Q I r h;let⟨p,bs,rfl,hq,q⟩:=h;let⟨u,rfl,ru⟩:=vals1 r;cases ru;let⟨bp,rv,pl,hz⟩:=I.list hq;let eb:=fU rv;have hl  := pl.isList;let d0:p<s.heap.objs.size:=by let⟨_,e,_⟩:=hl;show B3 e
 show call_all_walk (QV hl ?_);show Ps7 s.heap.objs.size _ _ _ _ _ (λi=>bs.getD i true) ⟨rfl,Walks.list   (A:=X.A.in1) (I.ok.hd hc) s.heap.objs.size p (BO d0) bp.toArray,⟨⟨_,D8 _ rfl,rfl,rfl⟩,hl.push _⟩,?_,?_⟩
 ·intro i v s' Q' E' hP hQ
  let e:v=.bool (bs.getD i true):=by
   rw[eb]at hP;simp only[JZ,Fo,acP]at hP;let⟨b,hb,rfl⟩:=hP;simp[List.getD,hb]
  rw[e];show HL hQ
 ·intro h' tk hk
  show Ps2 (.bl (bs.all id)) H ⟨I.kept (ja hk),?_,q⟩;let e2:bp.toArray.size=bs.length:=by rw[eb];simp
  rw[e2,range_all];rfl
def Vals.at{xs:List V}{us:List Value}(r:Vals xs us):∀{j:Nat} (h:j<us.length),RelV (xs.getD j .non) us[j]:=by
 induction r with
 |nil=>intro j h;show absurd h (Ik _)
 |cons r1 r2 ih=>
  intro j h;cases j with
  |zero=>show r1
  |succ j=>show ih (Nat.lt_of_succ_lt_succ h)
def tB{sl:Addr}{items:Array Value}{vl vu:Value}{lo hi:Option Int}(ht:IsTup s.heap t items)(hs:s.heap.IsSliceOf sl vl vu .none)(pl:IsPart vl lo)(pu:IsPart vu hi)
  (h0:HT.da items.size 0 lo=0) (h1:HT.da items.size items.size hi=items.size) (h:Q (.ref t) s):wpAny (model prog w) A (getItem (.ref t) (.ref sl)) Q E s:=by
 let⟨os,Mz,NG,MJ⟩:=id hs;let Uj:s.TypeIs (.ref sl) "slice" :=⟨os,Mz,NG⟩;unfold getItem
 try with_reducible refine Gl ?_
 first|refine A9 (AQ ?_)|skip
 show A9 (wpAny_sequenceKey ht.typeIs (by decide) ?_);show A9 (Ku  ht.typeIs abk
  (Jf abk ht.typeIs entry_tuple_getitem ?_ (args_tuple_getitem _ _)))
 show wpAny _ _ (Builtin.Tuple.tupleItemsOf (.ref t) >>= _) _ _ s
 show A9 (tupleItemsOf_ ht ?_);show A9 (OD Uj ?_);show A9 (HT.i9 hs pl pu ?_);let TF:((((HT.da items.size 0 lo):Int)==0&&(1:Int)==1&&(HT.da items.size items.size hi-HT.da items.size 0 lo)==items.size)=true):=by
  rw[h0,h1];simp
 show wpAny _ _ (if(((HT.da items.size 0 lo):Int)==0&&(1)==1&&(HT.da items.size items.size hi-HT.da items.size 0 lo)==items.size)=true then _ else _) _ _ s
 rw[AO TF];show A9 (A9 (OD ht.typeIs ?_));show AQ ?_;show A9 (LC ?_);show AQ ⟨_,rfl,AQ h⟩
abbrev ack(K:W.Frag):V→Option Int→Option Int→A5→Ar→Prop:=λx lo hi H Q=>∃a xs,x=.ref a∧eP K H a xs∧
 ((HT.da xs.length 0 lo=0∧HT.da xs.length xs.length hi=xs.length)→Q (.ref a) H)∧(¬(HT.da xs.length 0 lo=0∧HT.da xs.length xs.length hi=xs.length)→∀p,H p=none→Q (.ref p) (AM H p (.tup (GJ xs lo hi))))
def vE:JP X (ack X.K):=by
 intro v4 s σ H x v vl vu lo hi sl Q I rx hs pl pu h;let⟨a,xs,rfl,hx,q1,q2⟩:=h;by_cases hw:HT.da xs.length 0 lo=0∧HT.da xs.length xs.length hi=xs.length
 ·cases rx
  let⟨bp,r,ht,hz⟩:=I.tuple hx;let hlen:bp.toArray.size=xs.length:=by show r.length.symm
  show Ps2 ("tuple") _ ⟨abk.lookup,ht.typeIs,?_⟩;show tB ht hs pl pu (by rw[hlen];show hw.1) (by rw[hlen];show hw.2) ⟨.ref a,H,I,rfl,q1 hw⟩
 ·show oz v4 s σ H _ v vl vu lo hi sl Q I rx hs pl pu ⟨a,xs,rfl,hx,hw,q2 hw⟩
end
section
def range_any:(List.range bs.length).any (λi=>bs.getD i true)=bs.any id:=by
 rw[abo,abp,abp];constructor
 ·intro⟨i,hi,h⟩
  let Ir:=aaP.mp hi;show⟨bs[i],Eg Ir,?_⟩;simpa[BV Ir]using h
 ·intro⟨b,hb,h⟩
  obtain⟨i,hi,rfl⟩:=LU hb;show⟨i,aaP.mpr hi,?_⟩;simpa[BV hi]using h
def vG(hc:X.calm=true):Fb X (.builtin "any") (λxs H Q=>∃(p:Addr) (bs:List Bool),xs=[.ref p]∧jI X.K H p (bs.map V.bl)∧Q (.bl (bs.any id)) H):=by
 intro v4 s σ H xs us Q I r h;let⟨p,bs,rfl,hq,q⟩:=h;let⟨u,rfl,ru⟩:=vals1 r;cases ru;let⟨bp,rv,pl,hz⟩:=I.list hq;let eb:=fU rv;have hl  := pl.isList;let d0:p<s.heap.objs.size:=by let⟨_,e,_⟩:=hl;show B3 e
 show call_any_walk (QV hl ?_);show Ps7 s.heap.objs.size _ _ _ _ _ (λi=>bs.getD i true) ⟨rfl,Walks.list   (A:=X.A.in1) (I.ok.hd hc) s.heap.objs.size p (BO d0) bp.toArray,⟨⟨_,D8 _ rfl,rfl,rfl⟩,hl.push _⟩,?_,?_⟩
 ·intro i v s' Q' E' hP hQ
  let e:v=.bool (bs.getD i true):=by
   rw[eb]at hP;simp only[JZ,Fo,acP]at hP;let⟨b,hb,rfl⟩:=hP;simp[List.getD,hb]
  rw[e];show HL hQ
 ·intro h' tk hk
  show Ps2 (.bl (bs.any id)) H ⟨I.kept (ja hk),?_,q⟩;let e2:bp.toArray.size=bs.length:=by rw[eb];simp
  rw[e2,range_any];rfl
abbrev abi:V→Option Int→Option Int→A5→Ar→Prop:=λx lo hi H Q=>∃a xs,x=.ref a∧H a=some (.tup xs)∧∀c H',Kp [] H H'→H' c=some (.tup (GJ xs lo hi))→Q (.ref c) H'
def adA:JP X abi:=by
 intro v4 s σ H x v vl vu lo hi sl Q I rx hs pl pu h;let⟨a,xs,rfl,ha,q⟩:=h;show vE v4 s σ H _ v vl vu lo hi sl Q I rx hs pl pu ⟨a,xs,rfl,eP.of ha,λz=>q a H (Kp.refl _) ?_,λ_ p hp=>q p _ (Kp.new hp _) Bu⟩;unfold GJ;rw[z.1,z.2,aT,Nat.sub_zero,Sl];show ha
def aag:∀{us:List Value},Vals (ss.map V.str) us→∃l:List (Str×Tok),us=strValues l∧l.map (·.1)=ss:=by
 induction ss with
 |nil=>intro us r;cases r;show⟨[],rfl,rfl⟩
 |cons x r ih=>
  intro us rv;cases rv with
  |cons r1 r2=>
   let⟨t,rfl⟩:=r1;let⟨l,rfl,e⟩:=ih r2;show⟨(x,t)::l,rfl,by rw[Cq,e]⟩
abbrev Ih(ss:List Str):Str:=⟨(ss.map (·.cps.toList)).flatten.toArray⟩
def iI:∀(ss:List Str) (x:Array Nat),ss.foldl (λacc (p:Str)=>acc++(Str.empty).cps++p.cps) x=(x.toList++(ss.map (·.cps.toList)).flatten).toArray
 |[],x=>by simp
 |y::r,x=>by
  rw[R4,iI r];simp[Str.empty,Array.toList_append,KY]
def pH:∀ss:List Str,Builtin.Str.glued Str.empty ss=Ih ss
 |[]=>rfl
 |y::r=>by
  show(⟨r.foldl (λacc (p)=>acc++(Str.empty).cps++p.cps) y.cps⟩:Str)=_
  rw[iI];rfl
def kz(sep:Nat):∀(ss:List Str) (n B:Nat),(∀y∈ss,y.length≤B)→ss.foldl (λa (p:Str)=>a+p.length+sep) n≤n+ss.length*(B+sep)
 |[],n,B,_=>by simp
 |y::r,n,B,h=>by
  rw[R4];let h1:=kz sep r (n+y.length+sep) B λz hz=>h z (Cn _ hz);let h2:=h y Ej;rw[Bb,Nat.succ_mul];lia
def iN{α:Type}(B:Nat):∀ls:List (List α),(∀l∈ls,l.length≤B)→ls.flatten.length≤ls.length*B
 |[],_=>by simp
 |l::r,h=>by
  rw[List.flatten_cons,BP,Bb,Nat.succ_mul];let h1:=iN B r λz hz=>h z (Cn _ hz);let h2:=h l Ej;lia
def rF{B:Nat}(h:∀y∈ss,y.length≤B):(Ih ss).length≤ss.length*B:=by
 have:=iN B (ss.map (·.cps.toList)) λl hl=>by
  let⟨y,hy,rfl⟩:=aai.mp hl;show h y hy
 rwa[AF]at this
def yF:LH X "str.join" (λx vs H Q=>∃(p:Addr) (ss:List Str),x=.str Str.empty∧vs=[.ref p]∧jI X.K H p (ss.map V.str)∧ss.length≤1000∧(∀y∈ss,y.length≤1000)∧Q (.str (Ih ss)) H):=by
 intro v4 s σ H x vs v us Q I rx rv h;let⟨p,ss,rfl,rfl,hq,l1,l2,q⟩:=h;let⟨t,rfl⟩:=rx;let⟨u,rfl,ru⟩:=rv.one;cases ru;let⟨bp,r,pl,hz⟩:=I.list hq;let⟨l,rfl,rfl⟩:=aag r;let hs:(1000*1000)≤sizeLine:=by decide
 let hlen:(l.map (·.1)).foldl (λa (p)=>a+p.length+(Str.empty).length) 0≤1000*1000:=by
  let h1:=kz (Str.empty).length (l.map (·.1)) 0 1000 l2;let h2:(Str.empty).length=0:=rfl;rw[h2]at h1 ⊢;let h3:(l.map (·.1)).length*(1000+0)≤1000*1000:=Nat.mul_le_mul l1 (by lia);lia
 let hl:Builtin.Str.tooLong ((l.map (·.1)).toArray.foldl (· + ·.length+(Str.empty).length) 0)=false:=by
  unfold Builtin.Str.tooLong;rw[List.foldl_toArray];show Ck (by lia)
 show call_meets F.slot_str_join (Lv s _ t) F.entry_str_join (F.args_str_join_2 _ _) (meets_str_join_list Str.empty t p l hl) ⟨pl.isList,?_⟩;let fin:∀z ,z=Ih (l.map (·.1))→Q (.str z) H:=λz e=>by rw[e];show q
 match l,pH (l.map (·.1)),fin,l1,l2 with
 |[],_,fin,_,_=>show⟨by decide,.str Str.empty,H,I.tok _,⟨_,rfl⟩,fin _ rfl⟩
 |[y],_,fin,_,_=>show Ps2 (.str y.1) H ⟨I,⟨y.2,rfl⟩,fin _ (by simp[Ih])⟩
 |y::z::r,e,fin,l1,l2=>
  show⟨?_,.str (Builtin.Str.glued Str.empty ((y::z::r).map (·.1))),H,I.tok _,⟨_,rfl⟩,fin _ e⟩;show(Builtin.Str.glued Str.empty ((y::z::r).map (·.1))).length≤sizeLine
  rw[e];let h1:=rF  l2;let h2:((y::z::r).map (·.1)).length*1000≤1000*1000:=Nat.mul_le_mul l1 (Ap _);lia
end
section
variable {v4: List (Addr×Obj)}{σ: St}{H: A5}{s: Shared}{h': Heap}
def Inv.uq{o:HO}(I:Inv X v4 σ H s)(k:∀b u,b∉ch→s.heap.get? b=some u→h'.get? b=some u)(hf:∀b∈ch,DP X v4 H b)(ha:s.heap.objs.size≤a)
  (new:bU X.prog X.w (AM H a o) h' a o):Inv X v4 σ (AM H a o) {s with heap:=h',toks:=t'}:=by
 have hn  := I.bV.fresh ha;let EM:∀b u,H b=some u→b∉ch:=λb u e z=>by rw[(hf b z).1]at e;cases e
 show I.step    (λb hb=>?_) (λb o _ _ hc e _=>k b o hc e) (λb o _ _ hc e _=>⟨o.slots,k b o hc e⟩) (λb o _ e n=>?_)
  (λb o hc e=>⟨o,k b o hc e⟩) (λb xs e=>by rw[B0 (Gd e hn)];show e) (λb u v e=>by rw[B0 (Gd e hn)];show e) (λb ps e=>⟨#[],by rw[B0 (Gd e hn),e];simp⟩) (λm hm=>?_) (λb u e=>?_) I.bare
 ·let⟨f0,f1,f2,f3,f4,f5⟩:=hf b hb
  show⟨f3,f1,f4,f5⟩
 ·rw[B0 (BO (EO (B3 e) ha))]
  show n
 ·let⟨o,es,ep,ho,r⟩:=hm
  show Ps3 o es ep ⟨k _ o (λz=>(hf _ z).2.1 rfl) ho,r⟩
 ·by_cases hb:b=a
  ·subst hb;rw[Bu]at e;cases e;show new
  ·rw[B0 hb]at e
   show(I.bV b u e).t4 (λc v hc q=>k c v ?_ q) (λc q=>by rw[B0 (Gd q hn)];show q) λc xs q=>by rw[B0 (Gd q hn)];show q
   rcases hc with z|z
   ·rw[z];show EM b u e
   ·show EM c _ z
def Inv.By(I:Inv X v4 σ H s)(k:∀b u,b∉ch→s.heap.get? b=some u→h'.get? b=some u)(hf:∀b∈ch,DP X v4 H b):Inv X v4 σ H {s with heap:=h',toks:=t'}:=by
 let EM:∀b u,H b=some u→b∉ch:=λb u e z=>by rw[(hf b z).1]at e;cases e
 show I.step    (λb hb=>?_) (λb o _ _ hc e _=>k b o hc e) (λb o _ _ hc e _=>⟨o.slots,k b o hc e⟩) (λb o _ e n=>n)
  (λb o hc e=>⟨o,k b o hc e⟩) (λb xs e=>e) (λb u v e=>e) (λb ps e=>⟨#[],by rw[e];simp⟩) (λm hm=>?_) (λb u e=>?_) I.bare
 ·let⟨f0,f1,f2,f3,f4,f5⟩:=hf b hb
  show⟨f3,f1,f4,f5⟩
 ·let⟨o,es,ep,ho,r⟩:=hm
  show Ps3 o es ep ⟨k _ o (λz=>(hf _ z).2.1 rfl) ho,r⟩
 ·show(I.bV b u e).t4 (λc v hc q=>k c v ?_ q) (λ_ q=>q) λ_ _ q=>q
  rcases hc with z|z
  ·rw[z];show EM b u e
  ·show EM c _ z
end
abbrev fW(c:Nat):V:=.str ⟨#[c]⟩
abbrev O9(x:Str):FX:=⟨λi _=>i<x.cps.size,λi H v H'=>H'=H∧∃c,x.cps[i]?=some c∧v=fW c,λi _=>x.cps.size≤i⟩
def acX{tg:Expr}(it:Addr)(x:Str)(t:Tok)(ty:String)(Gh:ty = "str_ascii_iterator" ∨ ty = "str_iterator"):Turn P w K tg (O9 x) [it] it (λi h=>h.IsStrIter it ty x t i) where
 mem:=by simp
 obj:=λi h st b hb=>by
  have e  := by simpa using hb
  subst e;let⟨o,e,c,d⟩:=st;show⟨o,e,λv z=>by rw[d]at z;cases z⟩
 keep:=λi h h' st k=>by
  let⟨o,e,r⟩:=st;show⟨o,k it (by simp) o e,r⟩
 item:=by
  intro X hP hw hK hc i v4 s σ H E I hf st hg;subst hP hw hK;let⟨f0,f1,f2,f3,f4,f5⟩:=hf it (by simp);let key:∀v h' tk,SignAt x i v→h'.IsStrIter it ty x t (i+1)→(∀b o,b∉[it]→s.heap.get? b=some o→h'.get? b=some o)→∃u,some v=some u∧
    wpAny (model X.prog X.w) X.A (letOwnedTupleGo tg (.ref it) u) (λ_ s2=>∃y H',Inv X v4 σ H' s2∧RelV y u∧(O9 x).qR i H y H'∧s2.heap.IsStrIter it ty x t (i+1)∧∀b∈[it],H' b=none) E {s with heap:=h',toks:=tk}:=by
   intro v h' tk hv Du kk;let⟨c,u,Gj,rfl⟩:=hv;let I1:Inv X v4 σ H {s with heap:=h',toks:=tk}:=I.turned (λb o hb e=>kk b o (by simpa using hb) e) f0 f1 f3 f4 f5;let⟨o,e,ec,ed⟩:=id Du;show⟨_,rfl,OL  e ec ed (by rcases Gh with rfl|rfl<;>decide) ⟨fW c,H,I1,⟨u,rfl⟩,⟨rfl,c,Gj,rfl⟩,Du,λb hb=>(hf b hb).1⟩⟩
  rcases Gh with rfl|rfl
  ·show(Walks.strAscii   (I.ok.hd hc) it x t).item i s _ _ hg st key
  ·show(Walks.strWide   (I.ok.hd hc) it x t).item i s _ _ hg st key
 done:=by
  intro X hP hw hK hc i v4 s σ H E I hf st hg;let⟨f0,f1,f2,f3,f4,f5⟩:=hf it (by simp);have hx  := Array.getElem?_eq_none hg;rcases Gh with rfl|rfl
  ·show wpAny_pyNext_ascii_end (I.ok.hd hc) st hx λh' eb=>⟨rfl,I.turned  (λb o hb e=>eb b o hb e) f0 f1 f3 f4 f5⟩
  ·show wpAny_pyNext_wide_end (I.ok.hd hc) st hx λh' eb=>⟨rfl,I.turned  (λb o hb e=>eb b o hb e) f0 f1 f3 f4 f5⟩
 self:=λ_ _ _ _ _ st h=>by
  rcases Gh with rfl|rfl
  ·show wpAny_pyIter_striter_ascii st h
  ·show wpAny_pyIter_striter_wide st h
section
variable {tg: Expr}
abbrev uO(tl:AY):DW:=λσ H R=>tl σ H λx H1=>∃z,x=.str z∧R (O9 z) H1
def ade{l:Expr}{tl:AY}(hl:PE X l tl):PI X tg l (uO tl):=by
 show .mk ?_;intro v4 s σ H R I h;show AI (hl v4 s σ H _ I h) λv s1 ξ=>Xi23 ξ λx H1 I1 r1 q1=>?_;let⟨z,e,q⟩:=q1;subst e;let⟨t,rfl⟩:=r1;let fin:∀ty ,(ty = "str_ascii_iterator" ∨ ty = "str_iterator")→Ob X v4 σ tg R (.ref s1.heap.objs.size) {s1 with heap:=s1.heap.push {cls:=.type ty,data:=.fields #[.str z t,.int 0 0]}}:=by
  intro ty Gh;show Ps5 s1.heap.objs.size [s1.heap.objs.size] _ _ H1 ⟨rfl,I1.kept  λb o e=>B1 _ e,acX s1.heap.objs.size z t ty Gh,⟨_,D8 _ rfl,rfl,rfl⟩,λb hb=>?_,q⟩;have e  := by simpa using hb
  subst e;show I1.zO (Ap _) (I1.bV.fresh (Ap _))
 cases ha:z.cps.all (· < 128)
 ·show wpAny_pyIter_wide ha (fin _ (.inr rfl))
 ·show wpAny_pyIter_ascii ha (fin _ (.inl rfl))
end
section
variable {prog: Program}{w: World}{A: Around}{E: Value→Shared→Prop}{s: Shared}
def QK{v:Value}(hj:s.heap.IsTupleIter j u i)(hu:s.heap.IsTuple u vs)(hv:vs[i]?=some v)
  (q:∀h',h'.IsTupleIter j u (i+1)→Heap.SameBut j s.heap h'→Q v {s with heap:=h'}):wpAny (model prog w) A (Builtin.SmallTypes.nextOf (.ref j)) Q E s:=by
 let⟨ob,b1,b2,b3⟩:=id hj;let⟨ou,c1,_,⟨nu,c3⟩⟩:=hu;show A9 (Ku  hj.typeIs NY (Jf NY hj.typeIs F.entry_tuple_iterator_next ?_ (F.args_tuple_iterator_next_1 _)));show wpAny _ _ (field (.ref j) 0 >>= _) _ _ s
 show A9 (FW b1 b3 (x:=.ref u) rfl ?_);show A9 (FW b1 b3  rfl ?_);show A9 (Hg c1 c3 ?_);simp only[LL,hv];show A9 (wpAny_setField b1 b3 (by simp) (AQ ⟨v,rfl,AQ (q _ ?_ (M0 ..))⟩));show⟨_,Qv _ b1 (Obj.isFreed_of_fields (Obj.data_mapFields b3 _)),(Obj.cls_mapFields ..).trans b2,by rw[Obj.data_mapFields b3];simp[rawInt]⟩
def Tz(hh:A.handled=none)(hj:s.heap.IsTupleIter j u i)(hu:s.heap.IsTuple u vs)(hv:vs[i]?=none)
  (q:∀h' e,Heap.ExtBut j s.heap h'→(∃o,h'.get? e=some o∧o.cls=.type "StopIteration")→E (.ref e) {s with heap:=h'}):wpAny (model prog w) A (Builtin.SmallTypes.nextOf (.ref j)) Q E s:=by
 let⟨ob,b1,b2,b3⟩:=id hj;let⟨ou,c1,_,⟨nu,c3⟩⟩:=hu;show A9 (Ku  hj.typeIs NY (Jf NY hj.typeIs F.entry_tuple_iterator_next ?_ (F.args_tuple_iterator_next_1 _)));show wpAny _ _ (field (.ref j) 0 >>= _) _ _ s
 show A9 (FW b1 b3  rfl ?_);show A9 (FW b1 b3  rfl ?_);show A9 (Hg c1 c3 ?_);simp only[LL,hv];show A9 (LC (A9 (wpAny_setField b1 b3 (by simp) ?_)));show A9 ?_;show A9 (IL ?_ (by show E6 _));show A9  (wpAny_of_eq (a:=Value.none) (by first|rfl|(simp only[firstArgMember]<;>rfl)) ?_)
 show IL ?_ (by size_fits);show A9 (wpAny_handled ?_);first|rw[hh]|rw[hh]
 show A9 (AQ (wpAny_throw ?_));show q _ _ (((M0 ..).extBut.push _).push _) ⟨_,D8 _ rfl,rfl⟩
structure Apart(z p r j1 j2 u1 u2:Addr):Prop where
 pz:p≠z
 rz:r≠z
 JR:j1≠z
 Ny:j2≠z
 pr:p≠r
 X0:p≠j1
 XZ:p≠j2
 Rc:r≠j1
 Rb:r≠j2
 Tr:j1≠j2
 RY:u1≠z
 u1r:u1≠r
 Xj:u1≠j1
 Xi:u1≠j2
 Vn:u2≠z
 Vo:u2≠r
 N5:u2≠j1
 Xh:u2≠j2
def Jb{h h':Heap}(x:h.IsTupleIter a t i)(e:∀o,h.get? a=some o→h'.get? a=some o):h'.IsTupleIter a t i:=let⟨o,ho,r⟩:=x;⟨o,e o ho,r⟩
def abv{r:Addr}{x y a:Value}(D:Apart z p r j1 j2 u1 u2)
  (hz:IsZip s.heap z p r .none) (hp:IsPair s.heap p (.ref j1) (.ref j2)) (hr:IsPair s.heap r a b)
  (h1:s.heap.IsTupleIter j1 u1 i) (h2:s.heap.IsTupleIter j2 u2 i) (l1:s.heap.IsTuple u1 vs) (l2:s.heap.IsTuple u2 ws) (hx:vs[i]?=some x) (hy:ws[i]?=some y)
  (q:∀h',IsZip h' z p r (rawInt s.heap.objs.size)→IsPair h' r x y→h'.IsTupleIter j1 u1 (i+1)→h'.IsTupleIter j2 u2 (i+1)→IsPair h' s.heap.objs.size x y→h'.objs.size=s.heap.objs.size+1→
   (∀c o,c≠z→c≠r→c≠j1→c≠j2→s.heap.get? c=some o→h'.get? c=some o)→Q (.ref s.heap.objs.size) {s with heap:=h'}) :
  wpAny (model prog w) A (Builtin.«zip.__next__» ⟨[.ref z],[]⟩) (λfin s'=>∃v,fin=.done (.ret v)∧Q v s') E s:=by
 show wpAny _ _ (field (.ref z) 2 >>= _) _ _ _
 show A9 (FW hz rfl (x:=.bool false) rfl ?_);show wpAny _ _ (field (.ref z) 3 >>= _) _ _ _
 show A9 (FW hz rfl  rfl ?_);show A9 (Hg hp rfl ?_);show wpAny _ _ (Builtin.SmallTypes.ownedTupleIsFree (.ref z) >>= _) _ _ _
 show A9 ?_;unfold Builtin.SmallTypes.ownedTupleIsFree;show A9 (FW hz rfl  rfl (AQ ?_));simp only[IJ];show A9 (LC ?_);show A9 (FW hz rfl  rfl ?_);show A9 (wpAny_setField_rec hz (by simp) λg1 z1 e1=>?_)
 replace z1  := z1
 show A9 ?_;simp only[List.zipIdx_cons,List.zipIdx_nil,Oa,Qx];show A9 (A9 (Ph ?_));show wpAny _ _ (Builtin.SmallTypes.nextOf (.ref j1) >>= _) _ _ _
 show A9 (QK (h1.extBut e1.extBut D.JR) (l1.extBut e1.extBut D.RY) hx λg2 a2 e2=>AQ ?_);have r2  := e2.extBut _ _ D.Rc (e1.extBut _ _ D.rz hr);show A9 (Hg r2 rfl ?_);show A9 (Xy r2 λg3 r3 e3=>?_)
 replace r3  := r3
 show A9 (wpAny_letGo (AQ ?_));show A9 (A9 (Ph ?_));show wpAny _ _ (Builtin.SmallTypes.nextOf (.ref j2) >>= _) _ _ _
 show A9 (QK (((h2.extBut e1.extBut D.Ny).extBut e2.extBut D.Tr.symm).extBut e3.extBut D.Rb.symm) (((l2.extBut e1.extBut D.Vn).extBut e2.extBut D.N5).extBut e3.extBut D.Vo) hy λg4 a4 e4=>AQ ?_);have r4  := e4.extBut _ _ D.Rb r3;show A9 (Hg r4 rfl ?_);show A9 (Xy r4 λg5 r5 e5=>?_)
 replace r5:IsPair g5 r x y:=r5
 show A9 (wpAny_letGo (AQ (AQ ?_)));show A9 (Hg r5 rfl ?_);show A9 (wpAny_newTuple ?_);let sz:g5.objs.size=s.heap.objs.size:=by rw[e5.1,e4.1,e3.1,e2.1,e1.1]
 let z5:IsZip g5 z p r .ellipsis:=e5.extBut _ _ D.rz.symm (e4.extBut _ _ D.Ny.symm (e3.extBut _ _ D.rz.symm (e2.extBut _ _ D.JR.symm z1)));let k5:∀c o,c≠z→c≠r→c≠j1→c≠j2→s.heap.get? c=some o→g5.get? c=some o:=λc o n1 n2 n3 n4 e=>
  e5.extBut _ _ n2 (e4.extBut _ _ n4 (e3.extBut _ _ n2 (e2.extBut _ _ n3 (e1.extBut _ _ n1 e))))
 let b1:g5.IsTupleIter j1 u1 (i+1):=((a2.extBut e3.extBut D.Rc.symm).extBut e4.extBut D.Tr).extBut e5.extBut D.Rc.symm;let b2:g5.IsTupleIter j2 u2 (i+1):=a4.extBut e5.extBut D.Rb.symm;let zl:z<g5.objs.size:=B3 z5;show wpAny _ _ (Builtin.SmallTypes.ownedTupleHandOut (.ref z) (.ref g5.objs.size) >>= _) _ _ _
 show A9 ?_;unfold Builtin.SmallTypes.ownedTupleHandOut;let z6:IsZip (g5.push {cls:=.type "tuple",data:=.seq #[x,y]}) z p r .ellipsis:=B1 _ z5;show A9 (wpAny_setField_rec z6 (by simp) λg7 z7 e7=>?_)
 replace z7:IsZip g7 z p r (rawInt g5.objs.size):=z7
 show wpAny_setField_rec z7 (by simp) λg8 z8 e8=>?_
 replace z8:IsZip g8 z p r (rawInt g5.objs.size):=z8
 let up:∀c o,c≠z→g5.get? c=some o→g8.get? c=some o:=λc o n1 e=>e8.extBut _ _ n1 (e7.extBut _ _ n1 (B1 _ e));let t8:IsPair g8 g5.objs.size x y:=e8.extBut _ _ (Ma zl) (e7.extBut _ _ (Ma zl) (D8 _ rfl));let s8:g8.objs.size=g5.objs.size+1:=by rw[e8.1,e7.1,Fe]
 rw[sz]at z8 t8 s8;show AQ ⟨_,rfl,?_⟩;show Q (.ref g5.objs.size) _
 rw[sz];show q g8 z8 (up _ _ D.rz r5) (Jb b1 λo e=>up _ o D.JR e) (Jb b2 λo e=>up _ o D.Ny e) t8 s8 λc o n1 n2 n3 n4 e=>up c o n1 (k5 c o n1 n2 n3 n4 e)
def vL{r:Addr}{a:Value}{Q:Fin→Shared→Prop}(hh:A.handled=none)(D:Apart z p r j1 j2 u1 u2)
  (hz:IsZip s.heap z p r .none) (hp:IsPair s.heap p (.ref j1) (.ref j2)) (hr:IsPair s.heap r a b)
  (h1:s.heap.IsTupleIter j1 u1 i) (h2:s.heap.IsTupleIter j2 u2 i) (l1:s.heap.IsTuple u1 vs) (l2:s.heap.IsTuple u2 ws) (MG:vs[i]?=none∨ws[i]?=none)
  (q:∀h' e,(∀c o,c≠z→c≠r→c≠j1→c≠j2→s.heap.get? c=some o→h'.get? c=some o)→(∃o,h'.get? e=some o∧o.cls=.type "StopIteration")→E (.ref e) {s with heap:=h'}) :
  wpAny (model prog w) A (Builtin.«zip.__next__» ⟨[.ref z],[]⟩) Q E s:=by
 show wpAny _ _ (field (.ref z) 2 >>= _) _ _ _
 show A9 (FW hz rfl (x:=.bool false) rfl ?_);show wpAny _ _ (field (.ref z) 3 >>= _) _ _ _
 show A9 (FW hz rfl  rfl ?_);show A9 (Hg hp rfl ?_);show wpAny _ _ (Builtin.SmallTypes.ownedTupleIsFree (.ref z) >>= _) _ _ _
 show A9 ?_;unfold Builtin.SmallTypes.ownedTupleIsFree;show A9 (FW hz rfl  rfl (AQ ?_));simp only[IJ];show A9 (LC ?_);show A9 (FW hz rfl  rfl ?_);show A9 (wpAny_setField_rec hz (by simp) λg1 z1 e1=>?_)
 replace z1  := z1
 show A9 ?_;simp only[List.zipIdx_cons,List.zipIdx_nil,Oa,Qx];show A9 (A9 (Ph ?_));show wpAny _ _ (Builtin.SmallTypes.nextOf (.ref j1) >>= _) _ _ _
 cases hx:vs[i]? with
 |none=>
  show A9 (Tz hh (h1.extBut e1.extBut D.JR) (l1.extBut e1.extBut D.RY) hx λg2 e e2 he=>?_);let⟨oe,MI,MH⟩:=he;have z2  := e2 _ _ D.JR.symm z1;let S9:e≠z:=λx=>by subst x;rw[z2]at MI;cases MI;simp at MH
  show wpAny_setField_rec z2 (by simp) λg3 _ e3=>q g3 e (λc o n1 _ n3 _ x=>e3.extBut _ _ n1 (e2 _ _ n3 (e1.extBut _ _ n1 x))) ⟨oe,e3.extBut _ _ S9 MI,MH⟩
 |some x=>
  have hy:ws[i]?=none:=by rcases MG with h|h;rw[hx]at h;cases h;show h
  show A9 (QK (h1.extBut e1.extBut D.JR) (l1.extBut e1.extBut D.RY) hx λg2 a2 e2=>AQ ?_);have r2  := e2.extBut _ _ D.Rc (e1.extBut _ _ D.rz hr);show A9 (Hg r2 rfl ?_);show A9 (Xy r2 λg3 r3 e3=>?_);show A9 (wpAny_letGo (AQ ?_));show A9 (A9 (Ph ?_));show wpAny _ _ (Builtin.SmallTypes.nextOf (.ref j2) >>= _) _ _ _
  show A9 (Tz hh (((h2.extBut e1.extBut D.Ny).extBut e2.extBut D.Tr.symm).extBut e3.extBut D.Rb.symm) (((l2.extBut e1.extBut D.Vn).extBut e2.extBut D.N5).extBut e3.extBut D.Vo) hy λg4 e e4 he=>?_);let⟨oe,MI,MH⟩:=he;have z4  := e4 _ _ D.Ny.symm (e3.extBut _ _ D.rz.symm (e2.extBut _ _ D.JR.symm z1));let S9:e≠z:=λx=>by subst x;rw[z4]at MI;cases MI;simp at MH
  show wpAny_setField_rec z4 (by simp) λg5 _ e5=>q g5 e (λc o n1 n2 n3 n4 x=>e5.extBut _ _ n1 (e4 _ _ n4 (e3.extBut _ _ n2 (e2.extBut _ _ n3 (e1.extBut _ _ n1 x))))) ⟨oe,e5.extBut _ _ S9 MI,MH⟩
end
abbrev Q0(K:W.Frag)(a b:Addr):FX:=
  ⟨λi H=>∃xs ys x y,eP K H a xs∧eP K H b ys∧xs[i]?=some x∧ys[i]?=some y,
   λi H v H'=>∃p x y,H p=none∧v=.ref p∧H'=AM H p (.tup [x,y])∧(∀xs,eP K H a xs→xs[i]?=some x)∧(∀ys,eP K H b ys→ys[i]?=some y),
   λi H=>∃xs ys,eP K H a xs∧eP K H b ys∧(xs.length≤i∨ys.length≤i)⟩
def ur{elts:List Expr}{kk:Nat}(a b z p r j1 j2:Addr)(D:Apart z p r j1 j2 a b):
  Turn P w K (.Tuple elts kk pos) (Q0 K a b) [z,p,r,j1,j2] z (λi h=>IsZip h z p r .none∧IsPair h p (.ref j1) (.ref j2)∧(∃u v,IsPair h r u v)∧h.IsTupleIter j1 a i∧h.IsTupleIter j2 b i) where
 mem:=by simp
 obj:=λi h st c hc=>by
  let⟨hz,hp,⟨u,v,hr⟩,⟨o1,e1,_,d1⟩,⟨o2,e2,_,d2⟩⟩:=st;simp only[aaf,DF,Fn]at hc;rcases hc with rfl|rfl|rfl|rfl|rfl
  ·show⟨_,hz,λv z=>by have z'  := z;cases z'⟩
  ·show⟨_,hp,λv z=>by have z'  := z;cases z'⟩
  ·show⟨_,hr,λv z=>by have z'  := z;cases z'⟩
  ·show⟨o1,e1,λv z=>by rw[d1]at z;cases z⟩
  ·show⟨o2,e2,λv z=>by rw[d2]at z;cases z⟩
 keep:=λi h h' st k=>by
  let⟨hz,hp,⟨u,v,hr⟩,h1,h2⟩:=st;show⟨k z (by simp) _ hz,k p (by simp) _ hp,Ps2 u v (k r (by simp) _ hr),Jb h1 λo e=>k j1 (by simp) o e,Jb h2 λo e=>k j2 (by simp) o e⟩
 item:=by
  intro X hP hw hK hc i v4 s σ H E I hf st hg;subst hP hw hK;let⟨hz,hp,⟨u,v,hr⟩,h1,h2⟩:=st;let⟨xs,ys,x,y,Ip,NA,hx,hy⟩:=hg;let⟨bp,rv,pl,_⟩:=I.tuple Ip;let⟨iM,vj,sf,_⟩:=I.tuple NA;let⟨Cf,ex,rx⟩:=rv.get hx;let⟨vy,ey,ry⟩:=vj.get hy;let hT:s.TypeIs (.ref z) "zip" :=⟨_,hz,rfl⟩;have n0  := I.bV.fresh (Ap _);unfold pyNext;show A9 (wpAny_attempt (Ku  hT PQ (Jf PQ hT F.entry_zip_next
   (abv D hz hp hr h1 h2 pl sf (by simpa using ex) (by simpa using ey) λg a1 a2 a3 a4 a5 a6 a7=>AQ ?_) (F.args_zip_next_1 _))))
  show⟨_,rfl,?_⟩;show wpAny_letOwnedTupleGo_zip a1 λg2 b1 b2=>?_;have zl  := B3 hz;let lt:∀c∈[z,p,r,j1,j2],c<s.heap.objs.size:=λc hc=>by
   simp only[aaf,DF,Fn]at hc;let⟨_,q1,_⟩:=h1;let⟨_,q2,_⟩:=h2;rcases hc with rfl|rfl|rfl|rfl|rfl
   ·show zl
   ·show B3 hp
   ·show B3 hr
   ·show B3 q1
   ·show B3 q2
  show Ps2 (.ref s.heap.objs.size) (AM H s.heap.objs.size (.tup [x,y])) ⟨?_,rfl,Ps3 _ x y ⟨n0,rfl,rfl,λzs P4=>by rw[I.lI P4 Ip];show hx,λzs P4=>by rw[I.lI P4 NA];show hy⟩,⟨b1,?_,Ps2 Cf vy ?_,?_,?_⟩,λc hc=>?_⟩
  ·show I.uq  (ch:=[z,r,j1,j2]) (λc o hc e=>?_) (λc hc=>hf c ?_) (Ap _) ⟨by show 2≤sizeLine;decide,[Cf,vy],.cons rx (.cons ry .nil),?_⟩
   ·simp only[aaf,DF,Fn,not_or]at hc
    show b2.extBut _ _ hc.1 (a7 c o hc.1 hc.2.1 hc.2.2.1 hc.2.2.2 e)
   ·simp only[aaf,DF,Fn]at hc ⊢
    rcases hc with rfl|rfl|rfl|rfl<;>simp
   ·show⟨_,b2.extBut _ _ (Ma zl) a5,rfl,0,rfl⟩
  ·show b2.extBut _ _ D.pz (a7 _ _ D.pz D.pr D.X0 D.XZ hp)
  ·show b2.extBut _ _ D.rz a2
  ·show a3.extBut b2.extBut D.JR
  ·show a4.extBut b2.extBut D.Ny
  ·rw[B0 (BO (lt c hc))]
   show(hf c hc).1
 done:=by
  intro X hP hw hK hc i v4 s σ H E I hf st hg;subst hP hw hK;let⟨hz,hp,⟨u,v,hr⟩,h1,h2⟩:=st;let⟨xs,ys,Ip,NA,he⟩:=hg;let⟨bp,rv,pl,_⟩:=I.tuple Ip;let⟨iM,vj,sf,_⟩:=I.tuple NA;let l1:=rv.length;let l2:=vj.length;let MG:bp.toArray[i]?=none∨iM.toArray[i]?=none:=he.imp (λe=>by simp;lia) (λe=>by simp;lia);let hT:s.TypeIs (.ref z) "zip" :=⟨_,hz,rfl⟩;show A9 (wpAny_attempt (Ku  hT PQ (Jf PQ hT F.entry_zip_next
   (vL (I.ok.hd hc) D hz hp hr h1 h2 pl sf MG λg e kk he=>?_) (F.args_zip_next_1 _))))
  let⟨o,ho,Y9⟩:=he;show A9 (wpAny_isInstance   ⟨o,ho,Y9⟩ isSubtype_stop ?_);show AQ ⟨rfl,I.By  (ch:=[z,r,j1,j2]) (λc o hc e=>?_) (λc hc=>hf c ?_)⟩
  ·simp only[aaf,DF,Fn,not_or]at hc
   show kk c o hc.1 hc.2.1 hc.2.2.1 hc.2.2.2 e
  ·simp only[aaf,DF,Fn]at hc ⊢
   rcases hc with rfl|rfl|rfl|rfl<;>simp
 self:=λ_ _ _ _ _ st h=>wpAny_pyIter_zip st.1 h
noncomputable abbrev Nf(h:Heap)(a:Addr):Heap:=h.push {cls:=.type "tuple_iterator",data:=.fields #[.ref a,.int 0 0]}
noncomputable abbrev O5(h:Heap)(a b:Addr):Heap:=(Nf h a).push {cls:=.type "tuple_iterator",data:=.fields #[.ref b,.int 0 0]}
noncomputable abbrev Q3(h:Heap)(a b:Addr):Heap:=(O5 h a b).push {cls:=.type "tuple",data:=.seq #[.ref h.objs.size,.ref (Nf h a).objs.size]}
noncomputable abbrev OI(h:Heap)(a b:Addr):Heap:=(Q3 h a b).push {cls:=.type "tuple",data:=.seq #[.none,.none]}
noncomputable abbrev Kg(h:Heap)(a b:Addr):Heap:=(OI h a b).push {cls:=.type "zip",data:=.fields #[.none,.bool false,.bool false,.ref (O5 h a b).objs.size,.ref (Q3 h a b).objs.size]}
def qx(a b:Addr)(vs ws:Array Value):
  Meets (Builtin.«zip.__new__» ⟨[.type "zip",.ref a,.ref b],[]⟩) (λ_ R s=>s.heap.IsTuple a vs∧s.heap.IsTuple b ws∧R (.ok (.ret (.ref (OI s.heap a b).objs.size))) {s with heap:=Kg s.heap a b}):=
 .of_wp λprog w A R s h=>by
  obtain⟨hp,g,d,tk,os⟩:=s;obtain⟨la,lb,h⟩:=h;let TR:=sub_zip;have L1  := la;let L2:Heap.IsTuple (Shared.heap ⟨hp.push {cls:=.type "tuple_iterator",data:=.fields #[.ref a,.int 0 0]},g,d,tk,os⟩) b ws:=Heap.IsTuple.push lb _
  wp_walk using Ka L1,Ka L2
  show⟨_,rfl,h⟩
def aac{b:Addr}(la:s.heap.IsTuple a vs)(lb:s.heap.IsTuple b ws)
  (q:∀h',IsZip h' (s.heap.objs.size+4) (s.heap.objs.size+2) (s.heap.objs.size+3) .none→IsPair h' (s.heap.objs.size+2) (.ref s.heap.objs.size) (.ref (s.heap.objs.size+1))→
   IsPair h' (s.heap.objs.size+3) .none .none→h'.IsTupleIter s.heap.objs.size a 0→h'.IsTupleIter (s.heap.objs.size+1) b 0→(∀c o,s.heap.get? c=some o→h'.get? c=some o)→Q (.ref (s.heap.objs.size+4)) {s with heap:=h'}) :
  wpAny (model prog w) A (call (.type "zip") [.ref a,.ref b]) Q E s:=by
 show callType_new F.called_zip (by decide) (F.typeCall_zip_2 _ _) (F.newCall_zip_2 _ _) (λobj=>F.args_object_init_3 obj _ _) F.entry_zip_new (qx a b vs ws) ⟨la,lb,?_⟩;let z1:(Nf s.heap a).objs.size=s.heap.objs.size+1:=Fe ..;let z2:(O5 s.heap a b).objs.size=s.heap.objs.size+2:=by rw[Fe,z1]
 let z3:(Q3 s.heap a b).objs.size=s.heap.objs.size+3:=by rw[Fe,z2]
 let z4:(OI s.heap a b).objs.size=s.heap.objs.size+4:=by rw[Fe,z3]
 let g5:(Kg s.heap a b).get? (OI s.heap a b).objs.size=some _:=D8 _ rfl;let g4:(Kg s.heap a b).get? (Q3 s.heap a b).objs.size=some _:=B1 _ (D8 _ rfl);let g3:(Kg s.heap a b).get? (O5 s.heap a b).objs.size=some _:=B1 _ (B1 _ (D8 _ rfl));let g2:(Kg s.heap a b).get? (Nf s.heap a).objs.size=some _:=B1 _ (B1 _ (B1 _ (D8 _ rfl)));let g1:(Kg s.heap a b).get? s.heap.objs.size=some _:=B1 _ (B1 _ (B1 _ (B1 _ (D8 _ rfl))));show _∧_
 rw[z2,z3,z4]at g5;rw[z1,z2]at g3;rw[z3]at g4;rw[z1]at g2;rw[z4];show⟨⟨_,g5,rfl⟩,q _ g5 g3 g4 ⟨_,g1,rfl,rfl⟩ ⟨_,g2,rfl,rfl⟩ λc o x=>B1 _ (B1 _ (B1 _ (B1 _ (B1 _ x))))⟩
def apart_new{n b:Addr}(ha:a<n)(hb:b<n):Apart (n+4) (n+2) (n+3) n (n+1) a b:=by
 let ne:∀i j ,i≠j→(Nat.add n i)≠Nat.add n j:=λi j h e=>h (Nat.add_left_cancel e);let lo:∀c i,c<n→c≠Nat.add n i:=λc i h=>BO (EO h (OQ n i));show⟨ne 2 4 (by decide),ne 3 4 (by decide),ne 0 4 (by decide),ne 1 4 (by decide),ne 2 3 (by decide),ne 2 0 (by decide),ne 2 1 (by decide),ne 3 0 (by decide),ne 3 1 (by decide),ne 0 1 (by decide),
  lo a 4 ha,lo a 3 ha,lo a 0 ha,lo a 1 ha,lo b 4 hb,lo b 3 hb,lo b 0 hb,lo b 1 hb⟩
section
variable {elts: List Expr}{kk: Nat}{uW: Pos}
abbrev yc(K:W.Frag)(ta:CY):DW:=λσ H R=>ta σ H λvs H1=>∃a b xs ys,vs=[.ref a,.ref b]∧eP K H1 a xs∧eP K H1 b ys∧R (Q0 K a b) H1
def jF{a b:Expr}{ta:CY}{p:Pos}(hg:Bs X "zip")(hm:X.mg "zip" = none)(ha:PA X [a,b] ta)(hs:starEach [a,b] X.env=[(false,eval a X.env),(false,eval b X.env)]:=by rfl)(vO:starEach [b] X.env=[(false,eval b X.env)]:=by rfl):
  PI X (.Tuple elts kk uW) (.Call (.Name "zip" p) [a,b] [] pos) (yc X.K ta):=by
 show .mk ?_;intro v4 s σ H R I h;show Call_ (Kx I hg hm boot_zip (Np (AI (ha pos v4 s σ H _ I h) λus s1 ξ=>Xi23 ξ λvs H1 I1 r1 q1=>?_) (by rw[hs,vO]) (by rw[vO];rfl)));let⟨u1,u2,xs,ys,e,hx,hy,q⟩:=q1;subst e;cases r1 with
 |cons r rr=>
  cases rr with
  |cons r' rr=>
   cases rr;cases r;cases r';let⟨bp,rv,pl,_⟩:=I1.tuple hx;let⟨iM,vj,sf,_⟩:=I1.tuple hy;let⟨o1,e1,_⟩:=id pl;let⟨o2,e2,_⟩:=id sf;show aac pl sf λh' hz hp hr j1 j2 k=>?_;show wpAny_pyIter_zip hz ?_;show Ps5 (s1.heap.objs.size+4) [s1.heap.objs.size+4,s1.heap.objs.size+2,s1.heap.objs.size+3,s1.heap.objs.size,s1.heap.objs.size+1] _ _ H1 ⟨rfl,I1.kept  k,ur u1 u2 _ _ _ _ _ (apart_new (B3 e1) (B3 e2)),⟨hz,hp,Ps2 _ _ hr,j1,j2⟩,λc hc=>?_,q⟩;let Gj:s1.heap.objs.size≤c:=by
    simp only[aaf,DF,Fn]at hc;rcases hc with rfl|rfl|rfl|rfl|rfl<;>first|show Ap _|show OQ _ _
   show I1.zO Gj (I1.bV.fresh Gj)
end
end L2
namespace L2
open PySem PySem.Spec PyProof.Rows
variable {prog P:Program}{w:World}{A:Around}{s:Shared}{scope: Scope}{pos:Pos}{X: Cx}{cl: List (Str×Addr)}{own: List Str}{cap: List (Nat×Str)}
def rZ(elt target iter:Expr)(ifs:List Expr)(scope:Scope)(pos:Pos)(it acc:Value)(env:Env):
  compTurn (.SetComp elt [⟨target,iter,ifs,0⟩] scope pos) 0 it acc env=(do
   standAt iter.pos
   match ←pyNext it with
   |none=>pure (.done .next)
   |some v=>
    letOwnedTupleGo target it v
    assign target env v
    let mut ok:=true
    for c in ifs do
     if ok then ok ←isTrue c env (eval c env)
    if ok then
     (do let v ←eval elt env;standAt elt.pos;let _ ←call (.builtin "set.add") [acc,v])
    again (.compLoop (.SetComp elt [⟨target,iter,ifs,0⟩] scope pos) 0 it acc env)):=by rfl
def fD{R:Result→Shared→Prop}{elt target iter ifs v6 scope pos it acc env}
  (h0:codeAny (model prog w) A (.compLoop (.SetComp elt (⟨target,iter,ifs,0⟩::v6) scope pos) 0 it acc env) R s)
  (h:wpAny (model prog w) A (pyIter it) (λV1 s'=>codeAny (model prog w) A (.compLoop (.SetComp elt (⟨target,iter,ifs,0⟩::v6) scope pos) 0 V1 acc env) R s')
   (notedBy (model prog w) A env λx s'=>R (.error x) s') s) :
  codeAny (model prog w) A (.compStart (.SetComp elt (⟨target,iter,ifs,0⟩::v6) scope pos) 0 it acc env) R s:=by
 show codeAny_of_tree ?_;show wpAny_notedAt ?_;show A9 (wpAny_askSetting (wpAny_ite ?_));split
 ·first
   |show A9 (AQ (AQ (And.intro rfl h0)))
   |show AQ (And.intro rfl h0)
 ·first
   |show A9 (LC (A9 (Hy (A9 (Be h (λV1 s' h'=>AQ (And.intro rfl h')) λ_ _ x=>x)))))
   |(show A9 (LC ?_);)
def iU{R:Result→Shared→Prop}{elt target iter:Expr}{scope:Scope}{it acc:Value}{env:Env}(I:Nat→Shared→Prop)
  (turn:∀n s,I n s→wpAny (model prog w) A (pyNext it) (λr s₁=>match r with
   |none=>R (.ok .next) s₁
   |some v=>wpAny (model prog w) A (letOwnedTupleGo target it v) (λ_ Ds=>wpAny (model prog w) A (assign target env v) (λ_ s₂=>
      wpAny (model prog w) A (eval elt env) (λx s₄=>
       wpAny (model prog w) A (call (.builtin "set.add") [acc,x]) (λ_ s₅=>∃m,m<n∧I m s₅) (notedBy (model prog w) A env λe s'=>R (.error e) s') s₄) (notedBy (model prog w) A env λe s'=>R (.error e) s') s₂) (notedBy (model prog w) A env λe s'=>R (.error e) s') Ds) (notedBy (model prog w) A env λe s'=>R (.error e) s') s₁) (notedBy (model prog w) A env λe s'=>R (.error e) s') s)
  (n:Nat) (h:I n s) :
  codeAny (model prog w) A (.compLoop (.SetComp elt [⟨target,iter,[],0⟩] scope pos) 0 it acc env) R s:=by
 show ON rfl I (λn s hI=>?_) n h;show wpAny _ A ((compTurn (.SetComp elt [⟨target,iter,[],0⟩] scope pos) 0 it acc env).onRaise (λx=>do noteFrame x env;theTreesLotGoes x)) _ _ s
 show wpAny_noted ?_;rw[rZ];show A9 (Hy (A9 (Be (turn n s hI) (λr s₁ h₁=>?_) λ_ _ h'=>h')));cases r with
 |none=>show AQ h₁
 |some v=>
  show A9 (Be h₁ (λ_ Ds Mv=>?_) λ_ _ h'=>h');show A9 (Be Mv (λ_ s₂ h₂=>A9 (wpAny_tests_nil ?_)) λ_ _ h'=>h');show A9 (A9 (Be h₂ (λx s₄ h₄=>A9 (Hy (A9 (Be h₄ (λ_ s₅ h₅=>AQ (AQ ⟨rfl,h₅⟩)) λ_ _ h'=>h')))) λ_ _ h'=>h'))
abbrev setAt(P:Program)(w:World)(a:Addr)(S:Str→Bool)(n:Nat):Heap→Prop:=λh=>h.SetOf (strKind P w) a S n
def XQ{H:A5}{h:Heap}{a:Addr}{S:Str→Bool}{n:Nat}(q:h.SetOf (strKind P w) a S n):bU P w H h a (.ext (setAt P w a S n)):=by
 show⟨q,?_,λh1 h2 q1 k=>?_⟩
 ·let⟨o,_,_,_,e,_⟩:=q
  show⟨o,e⟩
 ·let⟨o,es,ep,t,e,r⟩:=q1
  show Ps4 o es ep t ⟨k o e,r⟩
section
variable {v4: List (Addr×Obj)}{σ: St}{H: A5}{s: Shared}{fp: List Addr}{E: Value→Shared→Prop}
def NX{o:HO}(c:c9 X scope cl own cap)(I:Inv X v4 σ H s)(hf:∀b∈fp,DP X v4 H b)(d0:∀b∈fp,b<s.heap.objs.size){h₁:Heap}{tk:Nat}{m:KK}
  (hk:∀b o,s.heap.get? b=some o→h₁.get? b=some o) (MC:bU X.prog X.w (AM H s.heap.objs.size o) h₁ s.heap.objs.size o) (hn:h₁.Ns (s.heap.objs.size+1) m) :
  Inv (BK X (own++cap.map (·.2)) scope cl (s.heap.objs.size+1) s H fp E) [] (FO own cap σ) (AM H s.heap.objs.size o) {s with heap:=h₁,toks:=tk}:=by
 have Iv  := I.fresh;have ME  := I.bV.fresh (Bk _);show⟨GI c I hf d0 (Bk _),rfl,I.bare,Un.laid hk (Ap _) Iv,⟨m,hn,λi x v e1 e2 _=>?_⟩,λx a e=>?_,?_,λx a e=>?_,λp hp=>absurd (show p∈([])from hp) (by simp),I.bV.laid hk (Ap _) MC,?_⟩
 ·let⟨p,hp,ex,es⟩:=lU e1 e2
  let⟨q1,q2,q3,q4,q5⟩:=c.IM p hp;rw[ex]at q1 q2 q3 q4 q5;let⟨m',T4,hl⟩:=I.loc;let⟨u,r,l⟩:=hl p.1 x v q1 es q2;show⟨u,r,?_⟩;rcases l with l|⟨k,a,e,z⟩
  ·show absurd l.1 q3
  ·let⟨a',e'⟩:=c.ML x q5
   let ea:=c.sub x a' e';rw[e]at ea;cases ea;show .inr ⟨q5,a,e',z.keeps hk⟩
 ·let⟨v,z⟩:=I.cell x a (c.sub x a e)
  show⟨v,z.keeps hk⟩
 ·show AM H s.heap.objs.size o (s.heap.objs.size+1)=none
  rw[B0 (XA _)];show ME
 ·let⟨v,z⟩:=I.cell x a (c.sub x a e)
  rw[B0 (BO z.lt)];show I.iG x a (c.sub x a e)
 ·show(FO own cap σ).length=(own++cap.map (·.2)).length
  simp[FO]
end
abbrev more(S:Str→Bool)(n:Nat)(k:Str):Nat:=if S k then n else n+1
abbrev ft(P:Program)(w:World)(wi:DW)(g:DV)(te:AY)(own:List Str)(cap:List (Nat×Str)):AY:=λσ H Q=>wi σ H λJ H1=>∀D,H1 D=none→
 ∃W:Nat→Nat→St→(Str→Bool)→Nat→A5→Prop,(∃m,W 0 m (FO own cap σ) (λ_=>false) 0 (AM H1 D (.ext (setAt P w D (λ_=>false) 0))))∧∀i m σ' S n H',W i m σ' S n H'→H' D=some (.ext (setAt P w D S n))∧
  ((J.stop i H'∧Q (.ref D) H')∨(J.go i H'∧n<1000∧∃N:St→(Str→Bool)→Nat→A5→Prop,(∀σ S n H,N σ S n H→∃m',m' < m∧W (i+1) m' σ S n H)∧∀x H2,J.qR i H' x H2→g x σ' H2 λσ3 H3=>te σ3 H3 λy H5=>∃k,y=.str k∧H5 D=some (.ext (setAt P w D S n))∧
   N σ3 (λk'=>S k'||decide (k'=k)) (more S n k) (AM H5 D (.ext (setAt P w D (λk'=>S k'||decide (k'=k)) (more S n k))))))
section
variable {tg iter elt: Expr}{wi: DW}{g: DV}{te: AY}{pos: Pos}
def abW(c:c9 X scope cl own cap)(hc:X.calm=true)(hi:PI X tg iter wi)
  (hg:∀C s H fp,PG (BK X (own++cap.map (·.2)) scope cl C s H fp λ_ _=>False) tg g)
  (he:∀C s H fp,PE (BK X (own++cap.map (·.2)) scope cl C s H fp λ_ _=>False) elt te) (hs:∀x,foldedSetIterable iter X.env x=pure x:=by intro _;rfl) :
  PE X (.SetComp elt [⟨tg,iter,[],0⟩] scope pos) (ft X.prog X.w wi g te own cap):=by
 show .mk ?_;intro v4 s σ H Q I h;show wpAny _ X.A (comprehension (.SetComp elt [⟨tg,iter,[],0⟩] scope pos) scope X.env _ (newSet (.type "set")) false (eval iter X.env)) _ _ s
 show KG  rfl hs c.xQ c.kind c.names (AI (hi v4 s σ H _ I h) λv s1 h1=>AI h1 λJS s2 h2=>?_);let⟨it,fp,tn,J,H2,e,I2,T,oO,f2,hw⟩:=h2;subst e;show wpAny_newSet_of (knd:=strKind X.prog X.w) λled hS=>Lw c.cell (by intro y hy;simp at hy) (λh₁ iF gY=>?_) c.kind;dsimp only at iF gY ⊢;generalize hO:({cls:=.type "set",dict:=none,data:=.set #[] 0 (.fresh 0 0 led)}:Obj)=O at hS iF gY ⊢;let hsz:(s2.heap.push O).objs.size=s2.heap.objs.size+1:=Fe _ _;have kk  := λb o e=>gY.extBut b o (by rw[hsz];show BO (Hm (B3 e))) (B1 _ (B1 _ e));let MM:h₁.SetOf (strKind X.prog X.w) s2.heap.objs.size (λ_=>false) 0:=by
  let⟨o,es,ep,t,e,r⟩:=hS;show Ps4 o es ep t ⟨gY.extBut _ _ (by rw[hsz];show BO (GX _)) (B1 _ e),r⟩
 rw[hsz]at iF ⊢;let d0:∀b∈fp,b<s2.heap.objs.size:=λb hb=>by
  let⟨o,e,_⟩:=T.obj _ _ oO b hb;show B3 e
 let⟨W,⟨m0,w0⟩,turn⟩:=hw s2.heap.objs.size I2.fresh;let J1:=NX (E:=λ_ _=>False) c I2 f2 d0 (tk:=s2.toks+([]:List (Str×Value)).length) kk (XQ MM) iF;generalize fi:BK X (own++cap.map (·.2)) scope cl (s2.heap.objs.size+1) s2 H2 fp (λ_ _=>False)=X' at J1;have Iu  := fi ▸ hg _ _ _ _;have Qk  := fi ▸ he _ _ _ _;let pX:X'.prog=X.prog:=by rw[←fi];rfl
 let wX:X'.w=X.w:=by rw[←fi];rfl
 let kX:X'.K=X.K:=by rw[←fi];rfl
 let aX:X'.A=X.A:=by rw[←fi];rfl
 let cX:X'.calm=true:=by rw[←fi];show hc
 let nX:X'.env=compEnvC scope cl (s2.heap.objs.size+1) X.env:=by rw[←fi];rfl
 let xX:X'.xe=λ_ _=>False:=by rw[←fi];rfl
 let fX:∀b∈fp,∀{H':A5},H' b=none→DP X' [] H' b:=λb hb {H'} hn=>by
  let o1:=(GI (E:=λ_ _=>False) c I2 f2 d0 (C:=s2.heap.objs.size+1) (Bk _)).Gn b hb;let o2:=(GI (E:=λ_ _=>False) c I2 f2 d0 (C:=s2.heap.objs.size+1) (Bk _)).qL b hb;rw[←fi];show⟨hn,o1.1,o2,.inl hb,o1.2,λp hp=>absurd (show p∈([]:ac)from hp) (by simp)⟩
 let Iy:∀D C s' H' m,Inv X v4 σ H' s'→DP X v4 H' C→s'.heap.Ns C m→Q (.ref D) H'→compPost (model X.prog X.w) X.A X.xe none (Bl X v4 σ Q) (.ref D) C (.ok .next) s':=by
  intro D C s' H' m I' hC hm q;show⟨m,hm,λh' fV=>Ps2 (.ref D) H' ⟨?_,rfl,q⟩⟩;show I'.turned (t':=s'.toks) (λb o hb e=>(fV.2 b hb).trans e) hC.1 hC.2.1 hC.2.2.2.1 hC.2.2.2.2.1 hC.2.2.2.2.2
 let fin:∀{σ':St} {H':A5} {s':Shared},Inv X' [] σ' H' s'→Q (.ref s2.heap.objs.size) H'→compPost (model X.prog X.w) X.A X.xe none (Bl X v4 σ Q) (.ref s2.heap.objs.size) (s2.heap.objs.size+1) (.ok .next) s':=λ{σ' H' s'} J' q=>by
  rw[←fi]at J';let⟨A1,A2⟩:=N0 I2 f2 (Bk _) J';let⟨m,hm,_⟩:=J'.loc;show Iy _ _ s' H' m A1 A2 hm q
 let loop:codeAny (model X.prog X.w) X.A (.compLoop (.SetComp elt [⟨tg,iter,[],0⟩] scope pos) 0 (.ref it) (.ref s2.heap.objs.size) (compEnvC scope cl (s2.heap.objs.size+1) X.env)) (compPost (model X.prog X.w) X.A X.xe none (Bl X v4 σ Q) (.ref s2.heap.objs.size) (s2.heap.objs.size+1))
   {s2 with heap:=h₁,toks:=s2.toks+([]:List (Str×Value)).length}:=by
  show iU (λn s'=>∃i σ' S z H',Inv X' [] σ' H' s'∧tn i s'.heap∧(∀b∈fp,H' b=none)∧W i n σ' S z H') ?_ m0
   ⟨0,_,_,0,_,J1,T.keep _ _ _ oO λb _ o e=>kk b o e,λb hb=>by rw[B0 (BO (d0 b hb))];show(f2 b hb).1,w0⟩
  intro n s3⟨i,σ3,S,z,H3,I3,wN,xI,w3⟩;let⟨NJ,w4⟩:=turn i n σ3 S z H3 w3;rw[←nX,←aX,←pX,←wX];let iR:∀{α:Type} {t:Sem α} {Q1:α→Shared→Prop} {E1:xz} {s:Shared},wpAny (model X'.prog X'.w) X'.A t Q1 X'.xe s→wpAny (model X'.prog X'.w) X'.A t Q1 E1 s:=λ{α t Q1 E1 s} h=>by
   rw[xX]at h;show Be h (λ_ _ q=>q) λ_ _ f=>f.elim
  rcases w4 with⟨stop,qn⟩|⟨go,hz,N,hN,step⟩
  ·let d:=T.done X' pX wX kX cX i [] s3 σ3 H3 X'.xe I3 (λb hb=>fX b hb (xI b hb)) wN stop
   rw[←pX,←wX]at d;show iR (AI d λr s4 ξ=>Xi02 ξ λhr I4=>?_);subst hr;let f4:=fin I4 qn;rw[←pX,←wX,←aX]at f4;show f4
  ·let d:=T.item X' pX wX kX cX i [] s3 σ3 H3 X'.xe I3 (λb hb=>fX b hb (xI b hb)) wN go
   rw[←pX,←wX]at d;show iR (AI d λr s4 ξ=>Xi12 ξ λu hr h4=>?_);subst hr;show iR (AI h4 λ_ s5 ξ=>Xi25 ξ λx H5 I5 r5 y5 rK Fu=>?_);let Gb:=I5.pinned (λb hb=>fX b hb (Fu b hb)) (T.obj _ _ rK);let again:∀{σ7:St} {H7:A5} {s7:Shared} {S':Str→Bool} {z':Nat},Inv X' ([]++Hs fp s5.heap) σ7 H7 s7→N σ7 S' z' H7→
     ∃m,m<n∧∃i σ' S z H',Inv X' [] σ' H' s7∧tn i s7.heap∧(∀b∈fp,H' b=none)∧W i m σ' S z H':=λ{σ7 H7 s7 S' z'} I7 n7=>by
    let⟨m',hm,w7⟩:=hN _ _ _ _ n7;show⟨m',hm,i+1,σ7,S',z',H7,I7.gJ,T.keep _ _ _ rK λb hb o e=>(I7.pin (b,o) (CQ _ (CQ _ (GP hb e)))).1,λb hb=>?_,w7⟩;let⟨o,e,d⟩:=T.obj _ _ rK b hb;show(I7.pin (b,o) (CQ _ (CQ _ (GP hb e)))).2.1
   show iR (AI (Iu _ s5 σ3 H5 x u _ Gb r5 (step x H5 y5)) λ_ s6 ξ=>Xi22 ξ λσ6 H6 I6 q6=>?_);show iR (AI (Qk _ s6 σ6 H6 _ I6 q6) λu8 s8⟨y8,H8,I8,r8,k8,e8,d8,q8⟩=>?_);subst e8;let⟨t8,rfl⟩:=r8;let SX:=(I8.bV _ _ d8).1;let X5:s8.heap.SetOf (strKind X'.prog X'.w) s2.heap.objs.size S z:=by rw[pX,wX];show SX
   show iR (call_set_add (k:=k8) (knd:=strKind X'.prog X'.w) (by show Value.isStrOf k8 (.str k8 t8)=true;simp[Value.isStrOf]) rfl X5 (CW (Nat.succ_le_of_lt hz) (by decide)) λh' TV NI=>?_);show again (I8.write (x:=s2.heap.objs.size) (e:=s2.heap.objs.size) (o:=.ext (setAt X.prog X.w s2.heap.objs.size (λk'=>S k'||decide (k'=k8)) (more S z k8))) (by rw[d8];show trivial) (.inl rfl) (λb' u hb hu=>(TV.2 b' hb).trans hu) ?_ ?_) q8
   ·let⟨o,_,_,_,e,_⟩:=NI
    show⟨o,e⟩
   ·rw[←pX,←wX]
    show XQ NI
 show fD loop (T.self X.A 0 _ _ _ (T.keep _ _ _ oO λb _ o e=>kk b o e) loop)
def zm:Fb X (.builtin "len") (λxs H Q=>∃(p:Addr) (S:Str→Bool) (n:Nat),xs=[.ref p]∧H p=some (.ext (setAt X.prog X.w p S n))∧Q (.int n) H):=by
 intro v4 s σ H vs us Q I rv h;let⟨p,S,n,rfl,hp,q⟩:=h;let⟨u,rfl,ru⟩:=rv.one;cases ru;let⟨o,es,ep,t,e,ex,d,hel,hm,hb,hf,hn⟩:=(I.bV p _ hp).1;let hb':es.size<4096:=hb;show call_len_set e ex d hf (by lia) ⟨.int n,H,I.tok _,⟨s.toks+1,by rw[hn]⟩,q⟩
end
def ff(hh:A.handled=none)(it l:Addr)(YY:l≠it)(items:Array Value):
  Draws prog w A it [it,l] items.size (λi v=>items[i]?=some v) (λi h=>h.IsTupleIter it l i∧h.IsTuple l items) where
 live:=λ_ _ st=>let⟨o,ho,_⟩:=st.1;⟨o,ho⟩
 frame:=λ_ _ _ st hk=>⟨Jb st.1 λo e=>hk it (by simp) o e,st.2.at λo e=>hk l (by simp) o e⟩
 item:=λi s Q E hi st hQ=>by
  show QK st.1 st.2 (v:=items[i]) (by simp[hi]) λh' T8 fV=>?_;show hQ _ h' s.toks (by simp[hi]) ⟨T8,st.2.extBut fV.extBut YY⟩ fV
 done:=λs Q E st hE=>Tz hh st.1 st.2 (by simp) hE
abbrev SV(K:W.Frag)(a:Addr):FX:=
  ⟨λi H=>∃xs x,eP K H a xs∧xs[i]?=some x,
   λi H v H'=>∃p x,H p=none∧v=.ref p∧H'=AM H p (.tup [.int i,x])∧(∀xs,eP K H a xs→xs[i]?=some x),
   λi H=>∃xs,eP K H a xs∧xs.length=i⟩
def abX{K:W.Frag}{elts:List Expr}{kk:Nat}(a e it:Addr)(Ub:e≠it)(Ze:a≠e)(Wm:a≠it):
  Turn P w K (.Tuple elts kk pos) (SV K a) [e,it] e (λi h=>(∃old,IsEnum h e it i old)∧h.IsTupleIter it a i) where
 mem:=by simp
 obj:=λi h st c hc=>by
  let⟨⟨old,he⟩,⟨o1,e1,_,d1⟩⟩:=st;simp only[aaf,DF,Fn]at hc;rcases hc with rfl|rfl
  ·show⟨_,he,λv z=>by have z'  := z;cases z'⟩
  ·show⟨o1,e1,λv z=>by rw[d1]at z;cases z⟩
 keep:=λi h h' st k=>by
  let⟨⟨old,he⟩,h1⟩:=st;show⟨⟨old,k e (by simp) _ he⟩,Jb h1 λo q=>k it (by simp) o q⟩
 item:=by
  intro X hP hw hK hc i v4 s σ H E I hf st hg;subst hP hw hK;let⟨⟨old,he⟩,h1⟩:=st;let⟨xs,x,Ip,hx⟩:=hg;let⟨bp,rv,pl,_⟩:=I.tuple Ip;let⟨Cf,ex,rx⟩:=rv.get hx;have n0  := I.bV.fresh (Ap _);have hi  := by
   have:=(abe.mp ex).1;simpa using this
  show wpAny_pyNext_enum_itemD (ff   (A:=X.A.in1) (I.ok.hd hc) it a Wm bp.toArray) he ⟨h1,pl⟩ hi Ub (by simp[Ub,Ze.symm]) λv h' tk hv ho fV ht hsz kk=>?_;have YE  := by
   have B4  := by simpa using hv
   rw[ex]at B4;show(FJ B4).symm
  subst YE;show⟨_,rfl,wpAny_letOwnedTupleGo_enum ho λg2 MH vO=>?_⟩;have el  := B3 he;let il:it<s.heap.objs.size:=by let⟨_,q,_⟩:=h1;show B3 q
  show Ps2 (.ref s.heap.objs.size) (AM H s.heap.objs.size (.tup [.int i,x])) ⟨?_,rfl,Ps2 _ x ⟨n0,rfl,rfl,λzs P4=>by rw[I.lI P4 Ip];show hx⟩,⟨⟨v,?_⟩,?_⟩,λc hc=>?_⟩
  ·show I.uq   (λc o hc q=>?_) (λc hc=>hf c hc) (Ap _) ⟨by show 2≤sizeLine;decide,[.int i tk,v],.cons ⟨tk,rfl⟩ (.cons rx .nil),?_⟩
   ·simp only[aaf,DF,Fn,not_or]at hc
    show(vO.2 c hc.1).trans (kk c o hc.1 hc.2 q)
   ·show⟨_,(vO.2 _ (Ma el)).trans ht,rfl,0,rfl⟩
  ·have:((i+1))=(i)+1:=by lia
   rw[this];show MH
  ·show Jb fV.1 λo q=>(vO.2 it Ub.symm).trans q
  ·have:c<s.heap.objs.size:=by
    simp only[aaf,DF,Fn]at hc;rcases hc with rfl|rfl
    ·show el
    ·show il
   rw[B0 (BO this)];show(hf c hc).1
 done:=by
  intro X hP hw hK hc i v4 s σ H E I hf st hg;subst hP hw hK;let⟨⟨old,he⟩,h1⟩:=st;let⟨xs,Ip,hl⟩:=hg;let⟨bp,rv,pl,_⟩:=I.tuple Ip;let l1:=rv.length;let ei:i=bp.toArray.size:=by simp;lia
  subst ei;show wpAny_pyNext_enum_endD (ff (prog:=X.prog) (w:=X.w) (A:=X.A.in1) (I.ok.hd hc) it a Wm bp.toArray) he ⟨h1,pl⟩ λh' hx=>⟨rfl,?_⟩;let⟨f0,f1,f2,f3,f4,f5⟩:=hf it (by simp);show I.turned (t':=s.toks) (λb o hb q=>hx b o hb q) f0 f1 f3 f4 f5
 self:=λ_ _ _ _ _ st h=>by
  let⟨⟨old,he⟩,_⟩:=st;show wpAny_pyIter_enum he h
def aau(l:Addr)(items:Array Value)(n:Nat)(dct:Option Addr)(sl:Array (Option Value)):
  Meets (Builtin.«enumerate.__new__» ⟨[.type "enumerate",.ref l],[]⟩) (λ_ R s=>s.heap.get? l=some {cls:=.type "tuple",dict:=dct,data:=.seq items n,slots:=sl}∧
   R (.ok (.ret (.ref (s.heap.push {cls:=.type "tuple_iterator",data:=.fields #[.ref l,.int 0 0]}).objs.size)))
    {s with heap:=(s.heap.push {cls:=.type "tuple_iterator",data:=.fields #[.ref l,.int 0 0]}).push {cls:=.type "enumerate",data:=.fields #[.none,.bool false,.ref s.heap.objs.size,rawInt 0,.none,.none]}}):=
 .of_wp λprog w A R s h=>by
  obtain⟨hp,g,d,tk,os⟩:=s;obtain⟨hl,h⟩:=h;let TR:=sub_enumerate;let hL:Heap.IsTuple (Shared.heap ⟨hp,g,d,tk,os⟩) l items:=⟨_,hl,rfl,n,rfl⟩
  wp_walk using Nj hl
  show wpAny_stack_any λst=>AQ ?_;split
  ·rename_i c _ _ _ _ _
   cases(c==Value.type "enumerate")
   ·wp_walk using Nj hl,Ka hL
    show⟨_,rfl,h⟩
   ·wp_walk using Nj hl,Ka hL
    show⟨_,rfl,h⟩
  ·wp_walk using Nj hl,Ka hL
   show⟨_,rfl,h⟩
def ace{E:xz}{l:Addr}{items:Array Value}{Q:xz}(hL:s.heap.IsTuple l items)
  (h:∀h',IsEnum h' (s.heap.objs.size+1) s.heap.objs.size 0 .none→h'.IsTupleIter s.heap.objs.size l 0→(∀b o,s.heap.get? b=some o→h'.get? b=some o)→Q (.ref (s.heap.objs.size+1)) {s with heap:=h'}) :
  wpAny (model prog w) A (call (.type "enumerate") [.ref l]) Q E s:=by
 obtain⟨⟨c,dct,dt,sl⟩,hl,hc,n,hd⟩:=hL
 replace hc  := hc
 replace hd  := hd
 subst hc hd;show callType_new F.called_enumerate (by decide) (F.typeCall_enumerate_1 _) (F.newCall_enumerate_1 _) (λobj=>F.args_object_init_2 obj _) F.entry_enumerate_new
  (aau l items n dct sl) ⟨hl,?_⟩
 let hz:(s.heap.push {cls:=.type "tuple_iterator",data:=.fields #[.ref l,.int 0 0]}).objs.size=s.heap.objs.size+1:=Fe ..;rw[hz];have he  := by
  have:=D8 (s.heap.push {cls:=.type "tuple_iterator",data:=.fields #[.ref l,.int 0 0]})
   (o:={cls:=.type "enumerate",data:=.fields #[.none,.bool false,.ref s.heap.objs.size,rawInt 0,.none,.none]}) rfl
  rw[hz]at this;show this
 show⟨⟨_,he,rfl⟩,h _ he ⟨_,B1 _ (D8 _ rfl),rfl,rfl⟩ λb o y=>B1 _ (B1 _ y)⟩
section
variable {elts: List Expr}{kk: Nat}{uW: Pos}
abbrev pE(K:W.Frag)(ta:CY):DW:=λσ H R=>ta σ H λvs H1=>∃(a:Addr) (xs:List V),vs=[.ref a]∧eP K H1 a xs∧R (SV K a) H1
def vD{a:Expr}{ta:CY}{p:Pos}(hg:Bs X "enumerate")(hm:X.mg "enumerate" = none)(ha:PA X [a] ta)(hs:starEach [a] X.env=[(false,eval a X.env)]:=by rfl):
  PI X (.Tuple elts kk uW) (.Call (.Name "enumerate" p) [a] [] pos) (pE X.K ta):=by
 show .mk ?_;intro v4 s σ H R I h;show Call_ (Kx I hg hm boot_enumerate (Np (AI (ha pos v4 s σ H _ I h) λus s1 ξ=>Xi23 ξ λvs H1 I1 r1 q1=>?_) hs rfl));let⟨u1,xs,e,hx,q⟩:=q1;subst e;cases r1 with
 |cons r rr=>
  cases rr;cases r;let⟨bp,rv,pl,_⟩:=I1.tuple hx;let⟨o1,e1,_⟩:=id pl;let l1:=B3 e1;show ace pl λh' he hi k=>?_;show wpAny_pyIter_enum he ?_;show Ps5 (s1.heap.objs.size+1) [s1.heap.objs.size+1,s1.heap.objs.size] _ _ H1 ⟨rfl,I1.kept  k,abX u1 _ _ (XA _) (BO (Hm l1)) (BO l1),⟨⟨.none,he⟩,hi⟩,λc hc=>?_,q⟩;let Gj:s1.heap.objs.size≤c:=by
   simp only[aaf,DF,Fn]at hc;rcases hc with rfl|rfl
   ·show Bk _
   ·show Ap _
  show I1.zO Gj (I1.bV.fresh Gj)
end
section
def abM(hu:X.A.units<cLine):iL X (compareOp .Eq) (λx y H Q=>∃a b xs,x=.ref a∧y=.ref b∧H a=some (.tup xs)∧H b=some (.tup [])∧Q (.bl xs.isEmpty) H):=by
 intro v4 s σ H x y v u Q I rx ry h;let⟨a,b,xs,rfl,rfl,ha,hb,q⟩:=h;cases rx;cases ry;let⟨bp,rv,pl,hz⟩:=I.tuple (eP.of (K:=X.K) ha);let⟨iM,vj,sf,Nz⟩:=I.tuple (eP.of (K:=X.K) hb);cases vj;show SeqAt.eq_tupleAt (e:=λ_=>true) pl sf hu (λj h1 h2=>absurd h2 (by simp)) ⟨.bl xs.isEmpty,H,I,?_,q⟩;show _=Value.bool _
 congr 1
 cases xs with
 |nil=>cases rv;rfl
 |cons x r=>cases rv with|cons r1 r2=>simp
end
abbrev abb(H:A5)(P:Addr)(q:Str)(pos:Pos):Prop:=H P=some (.tbl #[])∨∃(c':Addr) (oc:Obj) (vs:Array Value) (t:Tok) (u:HO),
 H P=some (.tbl #[rawInt pos.line,rawInt pos.col,.ref c'])∧H c'=some (.frz oc u)∧oc.data=.fields vs∧vs[1]?=some (.str q t)
abbrev fq(a:Addr)(o:Obj)(h:Heap):Prop:=h.get? a=some o
abbrev acG(P:Program)(w:World)(H:A5)(a:Addr)(o:Obj)(us:List (List AB×V)):Prop:=H a=some (.ext (fq a o))∧∀h:Heap,h.get? a=some o→bU P w H h a (.dT us)
abbrev adi(P:Program)(w:World)(H:A5)(a:Addr)(o:Obj)(us:List (AB×V)):Prop:=H a=some (.ext (fq a o))∧∀h:Heap,h.get? a=some o→bU P w H h a (.dK us)
end L2
namespace L2
open PySem PySem.Spec PyProof.Rows
abbrev eN(K:W.Frag)(a:Addr)(xs:List V):Prop:=∃(o:Obj) (bp:Array Value) (n:Nat),K.lookup a=some o∧o.cls=.type "tuple" ∧ o.data=.seq bp n∧bp.size≤sizeLine∧Vals xs bp.toList
def eN.sq{K:W.Frag}{H:A5}{a:Addr}{xs:List V}(h:eN K a xs):eP K H a xs:=.inr h
end L2
namespace L2
open PySem PySem.Spec PyProof.Rows
variable {ss:List Str}{n:Nat}{X: Cx}
abbrev zo(P:Program)(w:World)(K:W.Frag)(mg:KK)(base:Heap)(C:Addr)(m:Str)(k:Nat)(ps:List Str)(sp:Dw):Prop:=
 ∃f fd,bj P w K mg base Ao k f fd ps sp∧pR K C∧Meth K C m f∧Binds K fd ps []
abbrev acS(P:Program)(w:World)(K:W.Frag)(mg:KK)(base:Heap)(C:Addr)(k:Nat)(ps:List Str)(sp:Dw):Prop:=
 ∃f fd,bj P w K mg base Ao k f fd ps sp∧OS K C f∧Binds K fd ps []
section
def aaq:iL X (binaryOp .Add) (λx y H Q=>∃l b xs zs,x=.ref l∧y=.ref b∧jI X.K H l xs∧jI X.K H b zs∧xs.length+zs.length≤sizeLine∧∀p,H p=none→Q (.ref p) (AM H p (.lst (xs++zs)))):=by
 intro v4 s σ H x y v u Q I rx ry h;let⟨l,b,xs,zs,rfl,rfl,hH,hB,hz,q⟩:=h;cases rx;cases ry;let⟨bp,r,pl,z⟩:=I.list hH;let⟨iM,r2,sf,z2⟩:=I.list hB;let l1:=r.length;let l2:=r2.length;obtain⟨⟨cls,dd,data,sl⟩,ho,hc,n,hd⟩:=pl.isList;obtain⟨⟨cls2,dd2,data2,Nq⟩,Rw,Zb,n2,hd2⟩:=sf.isList;subst hc hd Zb hd2;let e:bp.toArray++iM.toArray=(bp++iM).toArray:=by simp
 show concat_meets ⟨_,ho,rfl⟩ ⟨_,Rw,rfl⟩ noFill_list_add seq_list_add PySem.F.slot_list_add PySem.F.entry_list_add (PySem.F.args_list_add_2 _ _) (list_addW l b bp.toArray iM.toArray n n2 dd dd2 sl Nq (by simp only[Bn];lia)) ⟨ho,Rw,?_⟩;rw[e];show Ps2 (.ref _) _ ⟨I.PN  (r.append r2) (by rw[BP];lia),rfl,q _ I.fresh⟩
abbrev S(l:List Nat):Str:=⟨l.toArray⟩
def yN(l:List Nat):(S l).length=l.length:=by simp[S,Str.length]
abbrev fY(ss:List Str)(S:Str→Bool)(n:Nat):Prop:=(∀k,S k=true↔k∈ss)∧((ss.Nodup∧n=ss.length)∨(¬ss.Nodup∧n<ss.length))
def fY.nil:fY [] (λ_=>false) 0:=⟨λk=>by simp,.inl ⟨It,rfl⟩⟩
def fY.le{S:Str→Bool}(h:fY ss S n):n≤ss.length:=by
 rcases h.2 with⟨_,h⟩|⟨_,h⟩<;>lia
def fY.snoc{S:Str→Bool}{k:Str}(h:fY ss S n):fY (ss++[k]) (λk'=>S k'||decide (k'=k)) (more S n k):=by
 let⟨h1,h2⟩:=h;show⟨λk'=>by rw[Bool.or_eq_true,JT,h1 k',aav,aaC],?_⟩;let e:(ss++[k]).Nodup↔ss.Nodup∧k∉ss:=by
  rw[abl];constructor
  ·intro⟨a,_,b⟩
   show⟨a,λm=>b k m k (by simp) rfl⟩
  ·intro⟨a,b⟩
   show⟨a,by simp,λx hx y hy e=>b ?_⟩;rw[aaC]at hy;rw[←hy,←e];show hx
 rw[e,BP];show(_∧(if S k=true then n else n+1)=_)∨(_∧(if S k=true then n else n+1)<_)
 by_cases c:S k=true
 ·rw[AO c]
  let m:=(h1 k).mp c;rcases h2 with⟨a,b⟩|⟨a,b⟩
  ·show .inr ⟨λz=>z.2 m,by rw[b];show GX _⟩
  ·show .inr ⟨λz=>z.2 m,Hm b⟩
 ·rw[AL c]
  have m  := λz=>c ((h1 k).mpr z);rcases h2 with⟨a,b⟩|⟨a,b⟩
  ·show .inl ⟨⟨a,m⟩,by rw[b];rfl⟩
  ·show .inr ⟨λz=>a z.1,Nat.succ_lt_succ b⟩
end
section
def zi:jz X (λx H Q=>∃z:Str,x=.str z∧z.length≤sizeLine∧∀y:Str,y.length≤z.length→(∀c∈y.cps.toList,c∈z.cps.toList)→Q (.str y) H):=by
 intro v4 s σ H x v vs sl Q I rx hs ps h;let⟨z,rfl,hz,q⟩:=h;let⟨t,rfl⟩:=rx;show Ps2 ("str") _ ⟨F.slot_str_getitem.lookup,Lv _ z t,?_⟩;let⟨o,h1,h2,h3⟩:=hs;cases ps with
 |int j t'=>
  show wpAny_getItem_str_slice (l:=none) (u:=none) (st:=some (-1,t')) ⟨o,h1,h2,h3⟩ rfl ?_;unfold sliceMade slicePicked;show(if((-1:Int)==1&&(Builtin.Str.strSliceIndices none none (-1) z.length).length==z.length)=true then Made.val (.str z t)else .str ⟨((Builtin.Str.strSliceIndices none none (-1) z.length).filterMap (z.cps[·]?)).toArray⟩).post _ _
  rw[AL (by rw[show((-1:Int)==1)=false from rfl,Dj];show Cc)];let hl:(Str.mk ((Builtin.Str.strSliceIndices none none (-1) z.length).filterMap (z.cps[·]?)).toArray).length≤z.length:=by
   show((Builtin.Str.strSliceIndices none none (-1) z.length).filterMap (z.cps[·]?)).toArray.size≤z.length
   rw[Bn];show D6 (List.length_filterMap_le _ _) ?_;rw[picked_rev,AF,FK];show Ap _
  show⟨D6 hl hz,.str _,H,I.tok _,⟨_,rfl⟩,q _ hl λc hc=>?_⟩;let hc:c∈(Builtin.Str.strSliceIndices none none (-1) z.length).filterMap (z.cps[·]?):=by simpa using hc
  let⟨i,_,e⟩:=abV.mp hc;show Array.mem_toList_iff.mpr (Array.mem_of_getElem? e)
end
abbrev top:=St→A5→(St→A5→Prop)→Prop
end L2
namespace L2
open PySem PySem.Spec PyProof.Rows
variable {o:Option V}{u:Value}{y:V}{P:Program}{w:World}{H H':A5}{aA:List (List AB×V)}{xs:List (List AB×Addr×Value)}{a: Addr}{Q:xz}{h':Heap}{A: Around}{E: Value→Shared→Prop}{s: Shared}{X: Cx}{v4: List (Addr×Obj)}{σ: St}{r: Value}
section
variable {κ: Type}[DecidableEq κ]
abbrev EP(aA:List (κ×V))(k:κ):Option V:=(aA.find? λkv=>decide (kv.1=k)).map (·.2)
abbrev putK(aA:List (κ×V))(k:κ)(v:V):List (κ×V):=
 if(aA.any λkv=>decide (kv.1=k))=true then aA.map (λkv=>if kv.1=k then(kv.1,v)else kv)else aA++[(k,v)]
def QI{p:κ×V}{r:List (κ×V)}{k:κ}(e:p.1=k):EP (p::r) k=some p.2:=by simp[EP,Gr,e]
def Lc{p:κ×V}{r:List (κ×V)}{k:κ}(e:¬p.1=k):EP (p::r) k=EP r k:=by simp[EP,Gr,e]
def iu(k:κ):∀aA:List (κ×V),(aA.any λkv=>decide (kv.1=k))=(EP aA k).isSome
 |[]=>rfl
 |p::r=>by
  rw[G7];by_cases e:p.1=k
  ·simp only[QI e,BU e,Bool.true_or,Option.isSome_some]
  ·rw[Lc e,Ck e,Bool.false_or];show iu k r
def Ow(aA:List (κ×V))(k:κ)(v:V):(putK aA k v).length≤aA.length+1:=by
 unfold putK;split
 ·rw[AF];lia
 ·rw[BP,Bb,Po];lia
def jY.jc{u:Option Value}(r:jY o u):o.isSome=u.isSome:=by
 cases o with
 |none=>cases u with
  |none=>rfl
  |some _=>show(show False from r).elim
 |some _=>cases u with
  |none=>show(show False from r).elim
  |some _=>rfl
def jY.getD{u:Option Value}{d:V}{d':Value}(r:jY o u)(rd:RelV d d'):RelV (o.getD d) (u.getD d'):=by
 cases o with
 |none=>cases u with
  |none=>show rd
  |some _=>show(show False from r).elim
 |some _=>cases u with
  |none=>show(show False from r).elim
  |some _=>show r
def KV.val{aA:List (κ×V)}{vs:List (κ×Value)}(r:KV aA vs)(k:κ):jY (EP aA k) (valueAt vs k):=by
 unfold KV at r;induction r with
 |nil=>show True.intro
 |@cons p q ps qs h t ih=>
  let⟨h1,h2⟩:=h;by_cases e:p.1=k
  ·let e':q.1=k:=h1.symm.trans e
   let b:valueAt (q::qs) k=some q.2:=by simp[valueAt,Gr,e']
   rw[QI e,b];show h2
  ·let e':¬q.1=k:=λz=>e (h1.trans z)
   let b:valueAt (q::qs) k=valueAt qs k:=by simp[valueAt,Gr,e']
   rw[Lc e,b];show ih
def KV.any{aA:List (κ×V)}{vs:List (κ×Value)}(r:KV aA vs)(k:κ):(aA.any λkv=>decide (kv.1=k))=vs.any λkv=>decide (kv.1=k):=by
 unfold KV at r;induction r with
 |nil=>rfl
 |cons h t ih=>rw[G7,G7,ih,h.1]
def KV.K4{aA:List (κ×V)}{vs:List (κ×Value)}(r:KV aA vs)(k:κ)(ry:RelV y u):
  KV (aA.map λkv=>if kv.1=k then(kv.1,y)else kv) (vs.map λkv=>if kv.1=k then(kv.1,u)else kv):=by
 unfold KV at r ⊢;induction r with
 |nil=>show .nil
 |@cons p q ps qs h t ih=>
  rw[Cq,Cq];show .cons ?_ ih;let⟨h1,h2⟩:=h;by_cases e:p.1=k
  ·rw[AO e,AO (h1.symm.trans e)];show⟨h1,ry⟩
  ·rw[AL e,AL (λz=>e (h1.trans z))];show⟨h1,h2⟩
def KV.put{aA:List (κ×V)}{vs:List (κ×Value)}(r:KV aA vs)(k:κ)(ry:RelV y u):KV (putK aA k y) (stored vs k u):=by
 unfold putK stored;rw[r.any k];by_cases e:(vs.any λkv=>decide (kv.1=k))=true
 ·rw[AO e,AO e];show r.K4 k ry
 ·rw[AL e,AL e];show Paired.snoc r ⟨rfl,ry⟩
def KV.length{aA:List (κ×V)}{vs:List (κ×Value)}(r:KV aA vs):aA.length=vs.length:=Of r
end
def Gp{k:AB}(r:RelV (BI k) u):(AP P w).is k u=true:=by
 cases k with
 |inl i=>let⟨t,e⟩:=(show ∃t,u=Value.int i t from r);subst e;show nE P w i t
 |inr x=>let⟨t,e⟩:=(show ∃t,u=Value.str x t from r);subst e;show Xu P w x t
def jN{P:Program}{w:World}:∀{ks:List AB} {us:List Value},Vals (ks.map BI) us→ItemsAre (AP P w) ks us
 |[],_,r=>by rw[Kj]at r;cases r;show .nil
 |k::ks,_,r=>by
  rw[Cq]at r;cases r with
  |cons h t=>show .cons (Gp h) (jN t)
noncomputable abbrev KT(H:A5):List (List AB×V)→List (List AB×Addr×Value)→Prop:=Paired λp q=>p.1=q.1∧H q.2.1=some (.tup (p.1.map BI))∧RelV p.2 q.2.2
def KT.val(r:KT H aA xs)(k:List AB):jY (EP aA k) ((atKey xs k).map (·.2)):=by
 induction r with
 |nil=>show True.intro
 |@cons p q ps qs h t ih=>
  let⟨h1,_,h2⟩:=h;by_cases e:p.1=k
  ·let e':q.1=k:=h1.symm.trans e
   let b:atKey (q::qs) k=some q.2:=by simp[atKey,Gr,e']
   rw[QI e,b];show h2
  ·let e':¬q.1=k:=λz=>e (h1.trans z)
   let b:atKey (q::qs) k=atKey qs k:=by simp[atKey,Gr,e']
   rw[Lc e,b];show ih
def KT.K4(r:KT H aA xs)(k:List AB)(ry:RelV y u):
  KT H (aA.map λkv=>if kv.1=k then(kv.1,y)else kv) (xs.map (putAt k u)):=by
 induction r with
 |nil=>show .nil
 |@cons p q ps qs h t ih=>
  rw[Cq,Cq];show .cons ?_ ih;let⟨h1,h2,h3⟩:=h;unfold putAt;by_cases e:p.1=k
  ·rw[AO e,AO (h1.symm.trans e)];show⟨h1,h2,ry⟩
  ·rw[AL e,AL (λz=>e (h1.trans z))];show⟨h1,h2,h3⟩
def KT.put(r:KT H aA xs)(k:List AB){b:Addr}(hb:H b=some (.tup (k.map BI)))(ry:RelV y u):
  KT H (putK aA k y) (storedH xs k b u):=by
 let e:(aA.any λkv=>decide (kv.1=k))=(atKey xs k).isSome:=by
  rw[iu,(r.val k).jc,Ky]
 unfold putK storedH;rw[e];by_cases q:(atKey xs k).isSome=true
 ·rw[AO q,AO q];show r.K4 k ry
 ·rw[AL q,AL q];show Paired.snoc r ⟨rfl,hb,ry⟩
def KT.keeps(r:KT H aA xs)(ht:∀b ys,H b=some (.tup ys)→H' b=some (.tup ys)):KT H' aA xs:=
 Paired.L9 r λ_ _ z=>⟨z.1,ht _ _ z.2.1,z.2.2⟩
section
variable {P: Program}{w: World}{H: A5}{h: Heap}
def lQ{u:HO}(ok:mZ P w H h)(e:Rd H a u):bU P w H h a u:=e.ok ok
def IV{aA:List (AB×V)}(ok:mZ P w H h)(e:Rd H a (.dK aA)):aA.length≤sizeLine∧(a==sysModules)=false∧∃vs,KV aA vs∧h.DictOf (AP P w) a vs:=
 show bU P w H h a (.dK aA)from lQ ok e
def UU{aA:List (AB×V)}(ok:mZ P w H h)(e:H a=some (.dK aA)):aA.length≤sizeLine∧(a==sysModules)=false∧∃vs,KV aA vs∧h.DictOf (AP P w) a vs:=IV ok (.inl e)
def Hv{ks:List AB}(ok:mZ P w H h)(e:H a=some (.tup (ks.map BI))):(tupleKind (AP P w)).is h ks a:=by
 let⟨_,⟨bp,r,⟨o,h1,h2,⟨n,h3⟩⟩⟩⟩:=(show bU P w H h a (.tup (ks.map BI))from ok a _ e);show Ps3 o bp.toArray n ⟨h1,h2,h3,by simpa using jN r⟩
def Jd(ok:mZ P w H h)(e:Rd H a (.dT aA)):aA.length≤sizeLine∧(a==sysModules)=false∧
  ∃xs,KT H aA xs∧h.DictOfH (tupleKind (AP P w)) a xs:=by
 let⟨z,y,⟨xs,r,⟨o,es,ep,h1,h2,h3,h4,h5⟩⟩⟩:=(show bU P w H h a (.dT aA)from lQ ok e);show⟨z,y,xs,r,o,es,ep,h1,h2,h3,h4,λx hx=>?_,h5⟩;let all:∀{l:List (List AB×V)} {m:List (List AB×Addr×Value)},KT H l m→∀x∈m,(tupleKind (AP P w)).is h x.1 x.2.1:=by
  intro l m q;induction q with
  |nil=>intro x hx;show nomatch hx
  |@cons p q ps qs hq t ih=>
   intro x hx;rcases aaf.mp hx with e|hx
   ·subst e
    show Hv ok (by rw[←hq.1];show hq.2.1)
   ·show ih x hx
 show all r x hx
def xN(ok:mZ P w H h)(e:H a=some (.dT aA)):aA.length≤sizeLine∧(a==sysModules)=false∧
  ∃xs,KT H aA xs∧h.DictOfH (tupleKind (AP P w)) a xs:=Jd ok (.inl e)
end
abbrev jZ(H:A5)(a:Addr)(y:V)(r:Option V):Prop:=
 (∃aA k,Rd H a (.dK aA)∧y=BI k∧r=EP aA k)∨∃aA k b,Rd H a (.dT aA)∧y=.ref b∧H b=some (.tup (k.map BI))∧r=EP aA k
abbrev Ge(H:A5)(a:Addr)(y v:V)(H':A5):Prop:=
 (∃aA k,H a=some (.dK aA)∧y=BI k∧aA.length<sizeLine∧H'=AM H a (.dK (putK aA k v))) ∨
 ∃aA k b,H a=some (.dT aA)∧y=.ref b∧H b=some (.tup (k.map BI))∧aA.length<sizeLine∧H'=AM H a (.dT (putK aA k v))
def jZ.k{H:A5}{a:Addr}{aA:List (AB×V)}{k:AB}(e:H a=some (.dK aA)):jZ H a (BI k) (EP aA k):=.inl ⟨aA,k,.inl e,rfl,rfl⟩
def Ge.k{H:A5}{a:Addr}{aA:List (AB×V)}{k:AB}{v:V}(e:H a=some (.dK aA))(hl:aA.length<sizeLine):Ge H a (BI k) v (AM H a (.dK (putK aA k v))):=.inl ⟨aA,k,e,rfl,hl,rfl⟩
section
variable {H: A5}{y v: V}{u: Value}{o: Option V}
def Inv.big(I:Inv X v4 σ H s):sysModules<s.heap.objs.size:=by
 let h:mainGlobals<s.heap.objs.size:=(I.mod.glob.keeps I.bk).lt;show Nat.lt_trans (by decide) h
def rj(hu:A.units+1<cLine)(I:Inv X v4 σ H s)(g:jZ H a y (some v))(ry:RelV y u)(h:∀w' s',Inv X v4 σ H s'→RelV v w'→Q w' s'):
  wpAny (model X.prog X.w) A (getItem (.ref a) u) Q E s:=by
 rcases g with⟨aA,k,e,ey,l⟩|⟨aA,k,b,e,ey,eb,l⟩
 ·subst ey
  let⟨z,hd,⟨vs,rel,dd⟩⟩:=IV I.bV e;let⟨w',hw,rT⟩:=jY.some_of (v:=v) (o:=valueAt vs k) (by rw[l];show rel.val k);show wpAny_getItem_of (Gp ry) dd.mapOf hw (h w' _ (I.tok _) rT)
 ·subst ey
  cases(show u=Value.ref b from ry);let⟨z,hd,⟨xs,rel,dd⟩⟩:=Jd I.bV e;let⟨w',hw,rT⟩:=jY.some_of (v:=v) (o:=(atKey xs k).map (·.2)) (by rw[l];show rel.val k);let⟨p,hp,mS⟩:=acP.mp hw;show wpAny_getItem_heap (Jm hu) (Hv I.bV eb) dd hp ?_;rw[mS];show h w' _ (I.tok _) rT
def acT(hu:A.units+1<cLine)(I:Inv X v4 σ H s)(g:jZ H a y o)(ry:RelV y u)(h:∀s',Inv X v4 σ H s'→Q (.bool o.isSome) s'):
  wpAny (model X.prog X.w) A (compareOp .In u (.ref a)) Q E s:=by
 rcases g with⟨aA,k,e,ey,l⟩|⟨aA,k,b,e,ey,eb,l⟩
 ·subst ey
  let⟨z,hd,⟨vs,rel,dd⟩⟩:=IV I.bV e;show wpAny_in_of (Gp ry) hd dd.mapOf ?_;rw[←(rel.val k).jc,←l];show h _ (I.tok _)
 ·subst ey
  cases(show u=Value.ref b from ry);let⟨z,hd,⟨xs,rel,dd⟩⟩:=Jd I.bV e;show wpAny_in_heap (Jm hu) (Hv I.bV eb) hd dd ?_;let q:=(rel.val k).jc;rw[Ky]at q;rw[←q,←l];show h _ (I.tok _)
def aaI(hu:A.units+1<cLine)(I:Inv X v4 σ H s)(g:jZ H a y o)(ry:RelV y u)(h:∀s',Inv X v4 σ H s'→Q (.bool (!o.isSome)) s'):
  wpAny (model X.prog X.w) A (compareOp .NotIn u (.ref a)) Q E s:=by
 rcases g with⟨aA,k,e,ey,l⟩|⟨aA,k,b,e,ey,eb,l⟩
 ·subst ey
  let⟨z,hd,⟨vs,rel,dd⟩⟩:=IV I.bV e;show wpAny_notIn_of (Gp ry) hd dd.mapOf ?_;rw[←(rel.val k).jc,←l];show h _ (I.tok _)
 ·subst ey
  cases(show u=Value.ref b from ry);let⟨z,hd,⟨xs,rel,dd⟩⟩:=Jd I.bV e;show wpAny_notIn_heap (Jm hu) (Hv I.bV eb) hd dd ?_;let q:=(rel.val k).jc;rw[Ky]at q;rw[←q,←l];show h _ (I.tok _)
def QB{t':Nat}{ob:HO}(I:Inv X v4 σ H s)(mu:Mq (H a))(hs:Heap.SameBut a s.heap h')(he:∃q,h'.get? a=some q)(new:bU X.prog X.w (AM H a ob) h' a ob):
  Inv X v4 σ (AM H a ob) {s with heap:=h',toks:=t'}:=
 I.write (x:=a) (e:=a) mu (.inl rfl) (λb q hb z=>(hs.2 b hb).trans z) he new
def P1{aA:List (AB×V)}{vs:List (AB×Value)}(z:aA.length≤sizeLine)(hd:(a==sysModules)=false)(rel:KV aA vs)(dd:h'.DictOf (AP P w) a vs):
  bU P w H' h' a (.dK aA):=⟨z,hd,vs,rel,dd⟩
def uQ{Q:Unit→Shared→Prop}(hu:A.units+1<cLine)(I:Inv X v4 σ H s)(g:Ge H a y v H')(ry:RelV y u)(rv:RelV v r)(h:∀s',Inv X v4 σ H' s'→Q () s'):
  wpAny (model X.prog X.w) A (setItem (.ref a) u r) Q E s:=by
 rcases g with⟨aA,k,e,ey,l,eH⟩|⟨aA,k,b,e,ey,eb,l,eH⟩
 ·subst ey eH
  let⟨z,hd,⟨vs,rel,dd⟩⟩:=UU I.bV e;let hz:vs.length≤sizeLine:=by rw[←rel.length];show z
  let hl:(putK aA k v).length≤sizeLine:=by have:=Ow aA k v;lia
  show wpAny_setItem_pairs (hsz:=hz) (Gp ry) dd λh' CC hs=>h _ ?_;let he:∃q,h'.get? a=some q:=let⟨q,_,_,hq,_⟩:=CC;⟨q,hq⟩
  show QB I (by rw[e];show True.intro) hs he (P1 hl hd (rel.put k rv) CC)
 ·subst ey eH
  cases(show u=Value.ref b from ry);let⟨z,hd,⟨xs,rel,dd⟩⟩:=xN I.bV e;let hz:xs.length≤sizeLine:=by rw[←Of rel];show z
  let hl:(putK aA k v).length≤sizeLine:=by have:=Ow aA k v;lia
  show wpAny_setItem_heap (hsz:=hz) (Jm hu) (Hv I.bV eb) dd λh' CC hs=>h _ ?_;let⟨q,es,ep,hq,h2,h3,h4,_,h5⟩:=CC;show QB I (by rw[e];show True.intro) hs ⟨q,hq⟩ ⟨hl,hd,_,(rel.put k eb rv).keeps λc ys ec=>?_,q,es,ep,hq,h2,h3,h4,h5⟩;rw[B0 (acV ec e (λz=>nomatch z))];show ec
end
section
variable {H: A5}{aA: List (AB×V)}
def yG(I:Inv X v4 σ H s)(e:Rd H a (.dK aA))(h:∀t s',Inv X v4 σ H s'→Q (.int aA.length t) s'):wpAny (model X.prog X.w) A (call (.builtin "len") [.ref a]) Q E s:=by
 let⟨z,hd,⟨vs,rel,dd⟩⟩:=IV I.bV e;show call_len_dict hd dd (by rw[←rel.length];rw[Bm]at z;lia) ?_;rw[←rel.length];show h _ _ (I.tok _)
end
abbrev Mb(i:Expr):Prop:=∀ov iv,subscripted i false ov iv=operate [ov,iv] (getItem ov iv)
def i7{prog:Program}{A:Around}{E:xz}{s:Shared}{env:Env}{value slice:Expr}{pos:Pos}{T id:String}
  (hl:typeLookup (.type T) "__getitem__" = pure (some (.builtin id))) (hs:Mb slice)
  (h:wpAny (model prog w) A (eval value env) (λo s₁=>wpAny (model prog w) A (eval slice env) (λi s₂=>s₂.TypeIs o T∧wpAny (model prog w) A (getItem o i) Q E s₂) E s₁) E s) :
  wpAny (model prog w) A (eval (.Subscript value slice pos) env) Q E s:=by
 show Subscript_ (Be h (λo s₁ h₁=>Be h₁ (λi s₂ h₂=>?_) λ_ _ x=>x) λ_ _ x=>x);obtain⟨hT,h₂⟩:=h₂;unfold subscriptTail;show A9 ?_;rw[getitemInPython_of_ne hT.not_modules];show A9 (wpAny_specialOf hT hl ?_);let fin:wpAny (model prog w) A (subscripted slice false o i) (λr s₃=>wpAny (model prog w) A (letTemporaryGo value o r >>= λ_=>pure r) Q E s₃) E s₂:=by
  rw[hs o i];show wpAny_operating (Be h₂ (λr s₃ h₃=>A9 (wpAny_letTemporaryGo (AQ h₃))) λ_ _ x=>x)
 first
  |show AQ (A9 fin)
  |show A9 (AQ (A9 fin))
  |show A9 fin
def sv{X:Cx}{v4:ac}{σ:St}{s:Shared}{a:Addr}(I:Inv X v4 σ H s)(g:jZ H a y o):s.TypeIs (.ref a) "dict" := by
 rcases g with⟨aA,k,e,_,_⟩|⟨aA,k,b,e,_,_,_⟩
 ·let⟨_,_,⟨vs,_,dd⟩⟩:=IV I.bV e
  show dd.typeIs
 ·let⟨_,_,⟨xs,_,dd⟩⟩:=Jd I.bV e
  show dd.typeIs
abbrev vm(td ty:AY):AY:=λσ H Q=>td σ H λx H1=>ty σ H1 λy H2=>∃a v,x=.ref a∧jZ H2 a y (some v)∧Q v H2
abbrev uj(td ty tv:AY):CM:=λD σ H=>tv σ H λv H1=>td σ H1 λx H2=>ty σ H2 λy H3=>∃a H4,x=.ref a∧Ge H3 a y v H4∧D.nx σ H4
section
variable {o i value: Expr}{pos pos': Pos}{td ty tv: AY}
def acN(hu:X.A.units+1<cLine)(ho:PE X o td)(hi:PE X i ty)(hs:Mb i):PE X (.Subscript o i pos) (vm td ty):=by
 show .mk ?_;intro v4 s σ H Q I h;show i7 ady.lookup hs (AI (ho v4 s σ H _ I h) λu s1 ξ=>Xi23 ξ λx H1 I1 rx q1=>AI (hi v4 s1 σ H1 _ I1 q1) λiv s2⟨y,H2,I2,ry,a,v,ex,g,q2⟩=>?_);subst ex;obtain rfl:u=Value.ref a:=rx;show⟨sv I2 g,rj hu I2 g ry λw' s3 I3 rT=>Ps2 v H2 ⟨I3,rT,q2⟩⟩
def rm(hu:X.A.units+1<cLine)(ho:PE X o td)(hi:PE X i ty)(hv:PE X value tv)(hs:swapsWith value (some (.Subscript o i pos')) pos.line X.env=pure false):
  PS X (.Assign [.Subscript o i pos'] value pos) (uj td ty tv):=by
 show .mk ?_;intro v4 s σ H D I h;show wpAny_Assign_Subscript (AI (hv v4 s σ H _ I h) λr s1 ξ=>Xi23 ξ λv H1 I1 rv q1=>AI (ho v4 s1 σ H1 _ I1 q1) λu s2 ξ=>Xi23 ξ λx H2 I2 rx q2=>AI (hi v4 s2 σ H2 _ I2 q2) λiv s3⟨y,H3,I3,ry,a,H4,ex,g,q3⟩=>?_) hs;subst ex;obtain rfl:u=Value.ref a:=rx;show uQ hu I3 g ry rv λs4 I4=>Ps2 σ H4 ⟨I4,q3⟩
end
def fK(h:Heap)(hb:sysModules<h.objs.size):bU P w H (h.push {cls:=.type "dict",data:=.dict #[]}) h.objs.size (.dK []):=
 ⟨E6 _,aba.mpr (G5 (BO hb)),[],.nil,Heap.DictOf.new h⟩
structure bS(X:Cx)(o:Expr)(m:Str)(apos:Pos)(e:Expr)(eX:Pos):Prop where
 base:attributeBase o m X.env (eval o X.env)=eval o X.env
 few:((backTo eX (starEach [e] X.env)).all (λx=>!x.1)&&(backToKw eX (keywordEach [] X.env)).all (λx=>x.1.isSome)
  && decide (([e]:List Expr).length+([]:List Keyword).length+(if([]:List Keyword).isEmpty then 0 else 1)<30))=true
 line:(apos.endLine==eX.line)=true
 trees:backTo eX (starEach [e] X.env)=[(false,eval e X.env)]
section
variable {H: A5}{y d: V}{u: Value}{o: Option V}
def uz(hu:A.units+1<cLine)(I:Inv X v4 σ H s)(g:jZ H a y o)(ry:RelV y u)(h:∀w' s',Inv X v4 σ H s'→RelV (o.getD .non) w'→Q w' s'):
  wpAny (model X.prog X.w) A (call (.builtin "dict.get") [.ref a,u]) Q E s:=by
 rcases g with⟨aA,k,e,ey,l⟩|⟨aA,k,b,e,ey,eb,l⟩
 ·subst ey
  let⟨z,hd,⟨vs,rel,dd⟩⟩:=IV I.bV e;show KN Hw dd.typeIs MB (Ro _ _) (meets_dict_get (AP X.prog X.w) a (Gp ry) hd) ⟨_,dd.mapOf,h _ _ (I.tok _) ?_⟩;rw[l];show(rel.val k).getD rfl
 ·subst ey
  cases(show u=Value.ref b from ry);let⟨z,hd,⟨xs,rel,dd⟩⟩:=Jd I.bV e;show KN Hw dd.typeIs MB (Ro _ _) (meetsH_dict_get (tupleKind (AP X.prog X.w)) a b hd) ⟨Jm hu,k,xs,Hv I.bV eb,dd,h _ _ (I.tok _) ?_⟩;rw[l];show(rel.val k).getD rfl
def wH(hu:A.units+1<cLine)(I:Inv X v4 σ H s)(g:jZ H a y o)(ry:RelV y u)(rd:RelV d r)(h:∀w' s',Inv X v4 σ H s'→RelV (o.getD d) w'→Q w' s'):
  wpAny (model X.prog X.w) A (call (.builtin "dict.get") [.ref a,u,r]) Q E s:=by
 rcases g with⟨aA,k,e,ey,l⟩|⟨aA,k,b,e,ey,eb,l⟩
 ·subst ey
  let⟨z,hd,⟨vs,rel,dd⟩⟩:=IV I.bV e;show KN Hw dd.typeIs MB (cn _ _ _) (meets_dict_get_default (AP X.prog X.w) a (Gp ry) hd r) ⟨_,dd.mapOf,h _ _ (I.tok _) ?_⟩;rw[l];show(rel.val k).getD rd
 ·subst ey
  cases(show u=Value.ref b from ry);let⟨z,hd,⟨xs,rel,dd⟩⟩:=Jd I.bV e;show KN Hw dd.typeIs MB (cn _ _ _) (meetsH_dict_get_default (tupleKind (AP X.prog X.w)) a b hd r) ⟨Jm hu,k,xs,Hv I.bV eb,dd,h _ _ (I.tok _) ?_⟩;rw[l];show(rel.val k).getD rd
end
section
variable {H: A5}{aA: List (AB×V)}
def aa4(I:Inv X v4 σ H s)(e:Rd H a (.dK aA))(h:∀p s',H p=none→Inv X v4 σ (AM H p (.dK aA)) s'→Q (.ref p) s'):wpAny (model X.prog X.w) A (call (.type "dict") [.ref a]) Q E s:=by
 let⟨z,hd,⟨vs,rel,dd⟩⟩:=IV I.bV e;show kt_call_dict hd dd (by rw[←rel.length];show z) λh' CC hs=>?_;show h _ _ (I.bV.fresh (Ap _)) (I.laid (a:=s.heap.objs.size) (o:=.dK aA) (t':=s.toks) (λb q hq=>?_) (Ap _) (P1 z (aba.mpr (G5 (BO I.big))) rel CC));show(hs.2 b (BO (B3 hq))).trans (B1 _ hq)
end
end L2
namespace L2
open PySem PySem.Spec PyProof.Rows
variable {X: Cx}
section
def vW:Fb X (.builtin "len") (λxs H Q=>∃a aA,xs=[V.ref a]∧H a=some (.dK aA)∧Q (.int aA.length) H):=by
 intro v4 s σ H xs us Q I r h;let⟨a,aA,rfl,ha,q⟩:=h;let⟨u,rfl,ru⟩:=vals1 r;cases ru;show yG I (.inl ha) λt s' I'=>Ps2 (.int aA.length) H ⟨I',⟨t,rfl⟩,q⟩
end
section
variable {κ: Type}[DecidableEq κ]
end
section
variable {o: Expr}
def yk(hu:X.A.units+1<cLine):iL X (compareOp .In) (λy x H Q=>∃a o,x=.ref a∧jZ H a y o∧Q (.bl o.isSome) H):=by
 intro v4 s σ H y x u v Q I ry rx h;let⟨a,o,rfl,g,q⟩:=h;cases rx;show acT hu I g ry λs3 I3=>Ps2 (.bl o.isSome) H ⟨I3,rfl,q⟩
def mH(hu:X.A.units+1<cLine):iL X (compareOp .NotIn) (λy x H Q=>∃a o,x=.ref a∧jZ H a y o∧Q (.bl (!o.isSome)) H):=by
 intro v4 s σ H y x u v Q I ry rx h;let⟨a,o,rfl,g,q⟩:=h;cases rx;show aaI hu I g ry λs3 I3=>Ps2 (.bl (!o.isSome)) H ⟨I3,rfl,q⟩
end
end L2
namespace Sr
open PySem PyProof.Rows
section
variable {Kk: Type}[DecidableEq Kk]
end
end Sr
namespace Sr
open PySem PyProof.Rows
section
variable {K: Type}[DecidableEq K]
end
end Sr
namespace Sr
open PySem PyProof.Rows
section
variable {Kk: Type}[DecidableEq Kk]
end
end Sr
namespace Sr
open PySem PyProof.Rows
section
variable {st: SortSt}
abbrev setG(st:SortSt)(g:Nat):SortSt:=SortSt.mk' (kindOf st) (arrOf st) (pendingOf st) g (failedOf st)
end
noncomputable abbrev rv(out:Array Keyed):List Keyed:=out.toList.reverse
end Sr
namespace Sr
open PySem PyProof.Rows
section
variable {Kk: Type}[DecidableEq Kk]
end
end Sr
namespace L2
open PySem PySem.Spec PyProof.Rows
def wO{prog:Program}{w:World}{A:Around}{R:Result→Shared→Prop}{s:Shared}{kx Cf target iter:Expr}{scope:Scope}{pos:Pos}{it:Value}{D:Addr}{env:Env}(I:Nat→Shared→Prop)
  (turn:∀n s,I n s→wpAny (model prog w) A (pyNext it) (λr s₁=>match r with
   |none=>R (.ok .next) s₁
   |some v=>wpAny (model prog w) A (letOwnedTupleGo target it v) (λ_ Ds=>wpAny (model prog w) A (assign target env v) (λ_ s₂=>
      wpAny (model prog w) A (eval kx env) (λkv s₃=>wpAny (model prog w) A (eval Cf env) (λvv s₄=>
       wpAny (model prog w) A (dictSet D kv vv) (λ_ s₅=>∃m,m<n∧I m s₅) (notedBy (model prog w) A env λe s'=>R (.error e) s') s₄) (notedBy (model prog w) A env λe s'=>R (.error e) s') s₃) (notedBy (model prog w) A env λe s'=>R (.error e) s') s₂) (notedBy (model prog w) A env λe s'=>R (.error e) s') Ds) (notedBy (model prog w) A env λe s'=>R (.error e) s') s₁) (notedBy (model prog w) A env λe s'=>R (.error e) s') s)
  (n:Nat) (h:I n s) :
  codeAny (model prog w) A (.compLoop (.DictComp kx Cf [⟨target,iter,[],0⟩] scope pos) 0 it (.ref D) env) R s:=by
 show ON rfl I (λn s hI=>?_) n h;show wpAny _ A ((compTurn (.DictComp kx Cf [⟨target,iter,[],0⟩] scope pos) 0 it (.ref D) env).onRaise (λx=>do noteFrame x env;theTreesLotGoes x)) _ _ s
 show wpAny_noted ?_;rw[compTurn_dict];show A9 (Hy (A9 (Be (turn n s hI) (λr s₁ h₁=>?_) λ_ _ h'=>h')));cases r with
 |none=>show AQ h₁
 |some v=>
  show A9 (Be h₁ (λ_ Ds Mv=>?_) λ_ _ h'=>h');show A9 (Be Mv (λ_ s₂ h₂=>A9 (wpAny_tests_nil ?_)) λ_ _ h'=>h');show A9 (A9 (Be h₂ (λkv s₃ h₃=>A9 (Gl (Be h₃ (λvv s₄ h₄=>A9 (Hy (Gl (Be h₄ (λ_ s₅ h₅=>AQ ⟨rfl,h₅⟩) λ_ _ h'=>h')))) λ_ _ h'=>h'))) λ_ _ h'=>h'))
section
variable {X: Cx}{v4: List (Addr×Obj)}{σ: St}{H: A5}{s: Shared}{A: Around}{E: Value→Shared→Prop}{a: Addr}{aA: List (AB×V)}{k: AB}{v: V}{u r: Value}
def gT{Q:Unit→Shared→Prop}(I:Inv X v4 σ H s)(e:H a=some (.dK aA))(l:aA.length<sizeLine)(ry:RelV (BI k) u)(rv:RelV v r)(h:∀s',Inv X v4 σ (AM H a (.dK (putK aA k v))) s'→Q () s'):
  wpAny (model X.prog X.w) A (dictSet a u r) Q E s:=by
 let⟨z,hd,⟨vs,rel,dd⟩⟩:=UU I.bV e;let hz:vs.length≤sizeLine:=by rw[←rel.length];show z
 let hl:(putK aA k v).length≤sizeLine:=by have:=Ow aA k v;lia
 unfold dictSet
 try with_reducible refine Gl ?_
 show A9 ((AP X.prog X.w).pyHash (Gp ry) ?_);let I1:=I.tok (s.toks+1);show wpAny_dictSetHashed_pairs   (Gp ry) dd (λh' CC hs=>h _ ?_) hz;let he:∃q,h'.get? a=some q:=let⟨q,_,_,hq,_⟩:=CC;⟨q,hq⟩
 show QB I1 (by rw[e];show True.intro) hs he (P1 hl hd (rel.put k rv) CC)
end
abbrev cJ(wi:DW)(g:DV)(tk tv:AY)(own:List Str)(cap:List (Nat×Str)):AY:=λσ H Q=>wi σ H λJ H1=>∀D,H1 D=none→
 ∃W:Nat→Nat→St→List (AB×V)→A5→Prop,(∃m,W 0 m (FO own cap σ) [] (AM H1 D (.dK [])))∧∀i m σ' aA H',W i m σ' aA H'→H' D=some (.dK aA)∧
  ((J.stop i H'∧Q (.ref D) H')∨(J.go i H'∧aA.length<sizeLine∧∃N:St→List (AB×V)→A5→Prop,(∀σ aA H,N σ aA H→∃m',m' < m∧W (i+1) m' σ aA H)∧∀x H2,J.qR i H' x H2→g x σ' H2 λσ3 H3=>tk σ3 H3 λy H4=>tv σ3 H4 λz H5=>∃k,y=BI k∧H5 D=some (.dK aA)∧
   N σ3 (putK aA k z) (AM H5 D (.dK (putK aA k z)))))
section
variable {X: Cx}{scope: Scope}{cl: List (Str×Addr)}{own: List Str}{cap: List (Nat×Str)}{tg iter kx Cf: Expr}{wi: DW}{g: DV}{tk tv: AY}{pos: Pos}
def mR(c:c9 X scope cl own cap)(hc:X.calm=true)(hi:PI X tg iter wi)
  (hg:∀C s H fp,PG (BK X (own++cap.map (·.2)) scope cl C s H fp λ_ _=>False) tg g)
  (hk:∀C s H fp,PE (BK X (own++cap.map (·.2)) scope cl C s H fp λ_ _=>False) kx tk)
  (hv:∀C s H fp,PE (BK X (own++cap.map (·.2)) scope cl C s H fp λ_ _=>False) Cf tv) (hs:∀x,foldedSetIterable iter X.env x=pure x:=by intro _;rfl) :
  PE X (.DictComp kx Cf [⟨tg,iter,[],0⟩] scope pos) (cJ wi g tk tv own cap):=by
 show .mk ?_;intro v4 s σ H Q I h;show wpAny _ X.A (comprehension (.DictComp kx Cf [⟨tg,iter,[],0⟩] scope pos) scope X.env _ newDict false (eval iter X.env)) _ _ s
 show KG  rfl hs c.xQ c.kind c.names (AI (hi v4 s σ H _ I h) λv s1 h1=>AI h1 λJS s2 h2=>?_);let⟨it,fp,tn,J,H2,e,I2,T,oO,f2,hw⟩:=h2;subst e;show IL (Lw c.cell (by intro y hy;simp at hy) (λh₁ iF gY=>?_) c.kind) (by size_fits);dsimp only at iF gY ⊢;let hO:=fK (P:=X.prog) (w:=X.w) (H:=AM H2 s2.heap.objs.size (.dK [])) s2.heap I2.big;generalize Zg:({cls:=.type "dict",data:=.dict #[]}:Obj)=O at hO iF gY ⊢;let hsz:(s2.heap.push O).objs.size=s2.heap.objs.size+1:=Fe _ _;have kk  := λb o e=>gY.extBut b o (by rw[hsz];show BO (Hm (B3 e))) (B1 _ (B1 _ e));let MM:bU X.prog X.w (AM H2 s2.heap.objs.size (.dK [])) h₁ s2.heap.objs.size (.dK []):=by
  show hO.t4 (λb u hb q=>?_) (λ_ q=>q) λ_ _ q=>q;rcases hb with rfl|hb
  ·show gY.extBut _ _ (by rw[hsz];show BO (GX _)) (B1 _ q)
  ·by_cases z:b=s2.heap.objs.size
   ·subst z;rw[Bu]at hb;cases hb
   ·rw[B0 z]at hb
    have lt  := I2.bV.lt hb;show gY.extBut _ _ (by rw[hsz];show BO (Hm lt)) (B1 _ q)
 rw[hsz]at iF ⊢;let d0:∀b∈fp,b<s2.heap.objs.size:=λb hb=>by
  let⟨o,e,_⟩:=T.obj _ _ oO b hb;show B3 e
 let⟨W,⟨m0,w0⟩,turn⟩:=hw s2.heap.objs.size I2.fresh;let J1:=NX (E:=λ_ _=>False) c I2 f2 d0 (tk:=s2.toks+([]:List (Str×Value)).length) kk MM iF;generalize fi:BK X (own++cap.map (·.2)) scope cl (s2.heap.objs.size+1) s2 H2 fp (λ_ _=>False)=X' at J1;let Iu:PG X' tg g:=fi ▸ hg _ _ _ _;let hk':PE X' kx tk:=fi ▸ hk _ _ _ _;let B4:PE X' Cf tv:=fi ▸ hv _ _ _ _;let pX:X'.prog=X.prog:=by rw[←fi];rfl
 let wX:X'.w=X.w:=by rw[←fi];rfl
 let kX:X'.K=X.K:=by rw[←fi];rfl
 let aX:X'.A=X.A:=by rw[←fi];rfl
 let cX:X'.calm=true:=by rw[←fi];show hc
 let nX:X'.env=compEnvC scope cl (s2.heap.objs.size+1) X.env:=by rw[←fi];rfl
 let xX:X'.xe=λ_ _=>False:=by rw[←fi];rfl
 let fX:∀b∈fp,∀{H':A5},H' b=none→DP X' [] H' b:=λb hb {H'} hn=>by
  let o1:=(GI (E:=λ_ _=>False) c I2 f2 d0 (C:=s2.heap.objs.size+1) (Bk _)).Gn b hb;let o2:=(GI (E:=λ_ _=>False) c I2 f2 d0 (C:=s2.heap.objs.size+1) (Bk _)).qL b hb;rw[←fi];show⟨hn,o1.1,o2,.inl hb,o1.2,λp hp=>absurd (show p∈([]:ac)from hp) (by simp)⟩
 let Iy:∀D C s' H' m,Inv X v4 σ H' s'→DP X v4 H' C→s'.heap.Ns C m→Q (.ref D) H'→compPost (model X.prog X.w) X.A X.xe none (Bl X v4 σ Q) (.ref D) C (.ok .next) s':=by
  intro D C s' H' m I' hC hm q;show⟨m,hm,λh' fV=>Ps2 (.ref D) H' ⟨?_,rfl,q⟩⟩;show I'.turned (t':=s'.toks) (λb o hb e=>(fV.2 b hb).trans e) hC.1 hC.2.1 hC.2.2.2.1 hC.2.2.2.2.1 hC.2.2.2.2.2
 let fin:∀{σ':St} {H':A5} {s':Shared},Inv X' [] σ' H' s'→Q (.ref s2.heap.objs.size) H'→compPost (model X.prog X.w) X.A X.xe none (Bl X v4 σ Q) (.ref s2.heap.objs.size) (s2.heap.objs.size+1) (.ok .next) s':=λ{σ' H' s'} J' q=>by
  rw[←fi]at J';let⟨A1,A2⟩:=N0 I2 f2 (Bk _) J';let⟨m,hm,_⟩:=J'.loc;show Iy _ _ s' H' m A1 A2 hm q
 let loop:codeAny (model X.prog X.w) X.A (.compLoop (.DictComp kx Cf [⟨tg,iter,[],0⟩] scope pos) 0 (.ref it) (.ref s2.heap.objs.size) (compEnvC scope cl (s2.heap.objs.size+1) X.env)) (compPost (model X.prog X.w) X.A X.xe none (Bl X v4 σ Q) (.ref s2.heap.objs.size) (s2.heap.objs.size+1))
   {s2 with heap:=h₁,toks:=s2.toks+([]:List (Str×Value)).length}:=by
  show wO (λn s'=>∃i σ' aA H',Inv X' [] σ' H' s'∧tn i s'.heap∧(∀b∈fp,H' b=none)∧W i n σ' aA H') ?_ m0
   ⟨0,_,_,_,J1,T.keep _ _ _ oO λb _ o e=>kk b o e,λb hb=>by rw[B0 (BO (d0 b hb))];show(f2 b hb).1,w0⟩
  intro n s3⟨i,σ3,aA,H3,I3,wN,xI,w3⟩;let⟨NJ,w4⟩:=turn i n σ3 aA H3 w3;rw[←nX,←aX,←pX,←wX];let iR:∀{α:Type} {t:Sem α} {Q1:α→Shared→Prop} {E1:xz} {s:Shared},wpAny (model X'.prog X'.w) X'.A t Q1 X'.xe s→wpAny (model X'.prog X'.w) X'.A t Q1 E1 s:=λ{α t Q1 E1 s} h=>by
   rw[xX]at h;show Be h (λ_ _ q=>q) λ_ _ f=>f.elim
  rcases w4 with⟨stop,qn⟩|⟨go,hz,N,hN,step⟩
  ·let d:=T.done X' pX wX kX cX i [] s3 σ3 H3 X'.xe I3 (λb hb=>fX b hb (xI b hb)) wN stop
   rw[←pX,←wX]at d;show iR (AI d λr s4 ξ=>Xi02 ξ λhr I4=>?_);subst hr;let f4:=fin I4 qn;rw[←pX,←wX,←aX]at f4;show f4
  ·let d:=T.item X' pX wX kX cX i [] s3 σ3 H3 X'.xe I3 (λb hb=>fX b hb (xI b hb)) wN go
   rw[←pX,←wX]at d;show iR (AI d λr s4 ξ=>Xi12 ξ λu hr h4=>?_);subst hr;show iR (AI h4 λ_ s5 ξ=>Xi25 ξ λx H5 I5 r5 y5 rK Fu=>?_);let Gb:=I5.pinned (λb hb=>fX b hb (Fu b hb)) (T.obj _ _ rK);let again:∀{σ7:St} {H7:A5} {s7:Shared} {mQ:List (AB×V)},Inv X' ([]++Hs fp s5.heap) σ7 H7 s7→N σ7 mQ H7→
     ∃m,m<n∧∃i σ' aA H',Inv X' [] σ' H' s7∧tn i s7.heap∧(∀b∈fp,H' b=none)∧W i m σ' aA H':=λ{σ7 H7 s7 mQ} I7 n7=>by
    let⟨m',hm,w7⟩:=hN _ _ _ n7;show⟨m',hm,i+1,σ7,mQ,H7,I7.gJ,T.keep _ _ _ rK λb hb o e=>(I7.pin (b,o) (CQ _ (CQ _ (GP hb e)))).1,λb hb=>?_,w7⟩;let⟨o,e,d⟩:=T.obj _ _ rK b hb;show(I7.pin (b,o) (CQ _ (CQ _ (GP hb e)))).2.1
   show iR (AI (Iu _ s5 σ3 H5 x u _ Gb r5 (step x H5 y5)) λ_ s6 ξ=>Xi22 ξ λσ6 H6 I6 q6=>?_);show iR (AI (hk' _ s6 σ6 H6 _ I6 q6) λu7 s7 ξ=>Xi23 ξ λy7 H7 I7 r7 q7=>?_);show iR (AI (B4 _ s7 σ6 H7 _ I7 q7) λu8 s8⟨y8,H8,I8,r8,k8,e8,d8,q8⟩=>?_);subst e8;show iR (gT I8 d8 hz r7 r8 λs9 I9=>again I9 q8)
 show codeAny_compStart_dict loop (T.self X.A 0 _ _ _ (T.keep _ _ _ oO λb _ o e=>kk b o e) loop)
end
end L2
namespace L2
open PySem PySem.Spec PyProof.Rows
variable {P:Program}{w:World}{s: Shared}{pos: Pos}{X: Cx}{e: Expr}
abbrev Bp(P:Program)(w:World)(K:W.Frag)(a:Addr)(aA:List (Str×Addr)):Prop:=
 ∃(o:Obj) (es:Array DictEntry) (ep:Nat),K.lookup a=some o∧o.ExactDict∧o.data=.dict es ep∧KeysOf (AP P w) es∧Pairs (AP P w) es.toList (aA.map λp=>((Sum.inr p.1:AB),Value.ref p.2))∧(aA.map (·.1)).Nodup∧(a==sysModules)=false
inductive qP(w:World):List DictEntry→List (Str×Addr)→Prop
 |nil:qP w [] []
 |cons {z:Str} {t:Tok} {a:Addr} {es:List DictEntry} {aA:List (Str×Addr)} {hh:Int} (e:hh=hashStr w z) (r:qP w es aA):qP w (⟨hh,.str z t,.ref a⟩::es) ((z,a)::aA)
def qP.keys:∀{es:List DictEntry} {aA:List (Str×Addr)},qP w es aA→∀e∈es,∃k,(AP P w).is k e.key=true∧e.hash=(AP P w).hash k
 |_,_,.nil,e,h=>by simp at h
 |_,_,.cons e1 r,e,h=>by
  rcases aaf.mp h with rfl|h
  ·show⟨.inr _,Xu _ _ _ _,e1⟩
  ·show qP.keys r e h
def qP.pairs:∀{es:List DictEntry} {aA:List (Str×Addr)},qP w es aA→Pairs (AP P w) es (aA.map λp=>((Sum.inr p.1:AB),Value.ref p.2))
 |_,_,.nil=>.nil
 |_,_,.cons e1 r=>.cons (Xu _ _ _ _) rfl (qP.pairs r)
def zB{K:W.Frag}{a:Addr}{aA:List (Str×Addr)}{es:List DictEntry}{ep:Nat}(l:K.lookup a=some ⟨.type "dict",none,.dict es.toArray ep,#[]⟩)(h:qP w es aA)(nd:(aA.map (·.1)).Nodup)(hs:(a==sysModules)=false):Bp P w K a aA:=
 ⟨_,_,_,l,⟨rfl,rfl,rfl⟩,rfl,λe he=>h.keys e (by simpa using he),h.pairs,nd,hs⟩
def SE:∀(aA:List (Str×Addr)) (z:Str),valueAt (aA.map λp=>((Sum.inr p.1:AB),Value.ref p.2)) (.inr z)=(aA.lookup z).map Value.ref
 |[],z=>rfl
 |(y,b)::r,z=>by
  let ih:=SE r z;unfold valueAt at ih ⊢;rw[Cq,Gr,Hl];by_cases h:y=z
  ·subst h;simp
  ·let h1:¬((Sum.inr y:AB)=Sum.inr z):=λe=>h (LP e)
   let h2:(z==y)=false:=by rw[aba];exactλe=>h e.symm
   rw[h2];simp only[h1,decide_false];show ih
section
variable {v4: List (Addr×Obj)}{σ: St}{H: A5}{a: Addr}{aA: List (Str×Addr)}
def rk:∀{l:List (Str×Addr)},(l.map (·.1)).Nodup→((l.map λp=>((Sum.inr p.1:AB),Value.ref p.2)).map (·.1)).Nodup:=λ{l} h=>by
 rw[CU];have:(l.map ((·.1) ∘ λp  => ((Sum.inr p.1),Value.ref p.2)))=(l.map (·.1)).map (Sum.inr:Str→AB):=by rw[CU];rfl
 rw[this];show List.Pairwise.map _ (λa b h e=>h (LP e)) h
def Bp.at(k:Bp X.prog X.w X.K a aA)(I:Inv X v4 σ H s):(a==sysModules)=false∧s.heap.DictOf (AP X.prog X.w) a (aA.map λp=>((Sum.inr p.1:AB),Value.ref p.2)):=by
 let⟨o,es,ep,l,ex,d,ko,pr,nd,hs⟩:=k;show⟨hs,o,es,ep,I.nZ _ _ l,ex,d,ko,pr,rk nd⟩
end
abbrev ye(P:Program)(w:World)(K:W.Frag)(td ty:AY):AY:=λσ H Q=>td σ H λx H1=>ty σ H1 λy H2=>∃a aA z b,x=.ref a∧Bp P w K a aA∧y=.str z∧aA.lookup z=some b∧Q (.ref b) H2
abbrev aaj(P:Program)(w:World)(K:W.Frag)(td ty:AY):AY:=λσ H Q=>td σ H λx H1=>∃a aA,x=.ref a∧Bp P w K a aA∧ty σ H1 λy H2=>∃z,y=.str z∧(∀b,aA.lookup z=some b→Q (.ref b) H2)∧(aA.lookup z=none→Q .non H2)
section
variable {o i: Expr}{apos eX: Pos}{td ty: AY}
def aaa(ho:PE X o td)(hi:PE X i ty)(hs:Mb i):PE X (.Subscript o i pos) (ye X.prog X.w X.K td ty):=by
 show .mk ?_;intro v4 s σ H Q I h;show i7 ady.lookup hs (AI (ho v4 s σ H _ I h) λu s1 ξ=>Xi23 ξ λx H1 I1 rx q1=>AI (hi v4 s1 σ H1 _ I1 q1) λiv s2⟨y,H2,I2,ry,a,aA,z,b,ex,kd,ey,l,q2⟩=>?_);subst ex ey;obtain rfl:u=Value.ref a:=rx;let⟨hd,dd⟩:=kd.at I2;let hw:valueAt (aA.map λp=>((Sum.inr p.1:AB),Value.ref p.2)) (.inr z)=some (Value.ref b):=by rw[SE,l];rfl
 show⟨dd.typeIs,wpAny_getItem_of (Gp (k:=.inr z) ry) dd.mapOf hw ⟨.ref b,H2,I2.tok _,rfl,q2⟩⟩
def aaV(ho:PE X o td)(he:PE X e ty)(m:bS X o "get" apos e eX):PE X (.Call (.Attribute o "get" apos) [e] [] eX) (aaj X.prog X.w X.K td ty):=by
 show .mk ?_;intro v4 s σ H Q I h;show wpAny_Call_method m.base m.few m.line Lr Hw NZ (AI (ho v4 s σ H _ I h) λu s1⟨x,H1,I1,rx,a,aA,ex,kd,q1⟩=>?_);subst ex;obtain rfl:u=Value.ref a:=rx;let⟨hd,dd⟩:=kd.at I1;show⟨dd.typeIs,dd.mapOf.noDict,?_⟩;rw[m.trees];show Calls.callWith_builtin rfl (aV (Calls.spliced_cons (AI (he v4 s1 σ H1 _ I1 q1) λiv s2⟨y,H2,I2,ry,z,ey,q2,q3⟩=>Calls.spliced_nil ?_)));subst ey;let⟨hd,dd⟩:=kd.at I2;show KN Hw dd.typeIs MB (Ro _ _) (meets_dict_get (AP X.prog X.w) a (Gp (k:=.inr z) ry) hd) ⟨_,dd.mapOf,?_⟩;rw[SE];cases l:aA.lookup z with
 |none=>show Ps2 (.non) H2 ⟨I2.tok _,rfl,q3 l⟩
 |some b=>show Ps2 (.ref b) H2 ⟨I2.tok _,rfl,q2 b l⟩
end
section
def xJ(hu:X.A.units+1<cLine):LH X "dict.get" (λx vs H Q=>∃a y o,x=.ref a∧vs=[y]∧jZ H a y o∧Q (o.getD .non) H):=by
 intro v4 s σ H x vs u us Q I rx rv h;let⟨a,y,o,rfl,rfl,g,q⟩:=h;cases rx;let⟨iv,rfl,ry⟩:=vals1 rv;show uz hu I g ry λw' s3 I3 rT=>Ps2 _ H ⟨I3,rT,q⟩
def xc(hu:X.A.units+1<cLine):LH X "dict.get" (λx vs H Q=>∃a y z o,x=.ref a∧vs=[y,z]∧jZ H a y o∧Q (o.getD z) H):=by
 intro v4 s σ H x vs u us Q I rx rv h;let⟨a,y,z,o,rfl,rfl,g,q⟩:=h;cases rx;let⟨iv,zv,rfl,ry,rz⟩:=rv.two;show wH hu I g ry rz λw' s3 I3 rT=>Ps2 _ H ⟨I3,rT,q⟩
def cIf:LH X "dict.setdefault" (λx vs H Q=>∃a k z aA,x=.ref a∧vs=[BI k,z]∧H a=some (.dK aA)∧aA.length<sizeLine∧(∀v,EP aA k=some v→Q v H)∧(EP aA k=none→Q z (AM H a (.dK (putK aA k z))))):=by
 intro v4 s σ H x vs u us Q I rx rv h;let⟨a,k,z,aA,rfl,rfl,e,hl,q1,q2⟩:=h;cases rx;let⟨iv,zv,rfl,ry,rz⟩:=rv.two;let⟨hz,hd,⟨vs,rel,dd⟩⟩:=UU I.bV e;let YB:vs.length≤sizeLine:=by rw[←rel.length];show hz
 show KN jO dd.typeIs PySem.F.entry_dict_setdefault (PySem.F.args_dict_setdefault_3 _ _ _) (kt_meets_setdefault (AP X.prog X.w) a (Gp ry) hd zv) ⟨vs,dd,YB,λv hv=>?_,λhn h' CC fV=>?_⟩
 ·let rr:=rel.val k
  rw[hv]at rr;cases l:EP aA k with
  |none=>rw[l]at rr;show rr.elim
  |some v'=>rw[l]at rr;show Ps2 v' H ⟨I.tok _,rr,q1 v' l⟩
 ·let rr:=rel.val k
  rw[hn]at rr;cases l:EP aA k with
  |some v'=>rw[l]at rr;show rr.elim
  |none=>
   let Y1:(putK aA k z).length≤sizeLine:=by have:=Ow aA k z;lia
   let he:∃q,h'.get? a=some q:=let⟨q,_,_,hq,_⟩:=CC;⟨q,hq⟩
   show Ps2 z _ ⟨QB  I (by rw[e];show True.intro) fV he (P1 Y1 hd (rel.put k rz) CC),rz,q2 l⟩
def yW:Fb X (.type "dict") (λxs H Q=>∃a aA,xs=[V.ref a]∧H a=some (.dK aA)∧∀p,H p=none→Q (.ref p) (AM H p (.dK aA))):=by
 intro v4 s σ H xs us Q I r h;let⟨a,aA,rfl,ha,q⟩:=h;let⟨u,rfl,ru⟩:=vals1 r;cases ru;show aa4 I (.inl ha) λp s' hp I'=>Ps2 (.ref p) _ ⟨I',rfl,q p hp⟩
end
abbrev gC(P:Program)(w:World)(K:W.Frag)(mg:KK)(base:Heap)(f:Addr)(k:Nat)(ps:List Str)(sp:Dw):Prop:=
 ∃fd,bj P w K mg base Ao k f fd ps sp∧W.keepIn K (.ref f)=true∧Binds K fd ps []
abbrev ac4(P:Program)(w:World)(K:W.Frag)(mg:KK)(base:Heap)(k:Nat)(ps:List Str)(i:Nat)(t:CY):AY:=λσ H Q=>∃f sp,σ[i]?=some (some (.ref f))∧gC P w K mg base f k ps sp∧t σ H λvs H1=>sp vs H1 Q J3
section
variable {x: Str}{k j i: Nat}{ps: List Str}{p: Pos}{es: List Expr}{t: CY}
def uB(hr:dA j X.A)(hk:k≤j)(hN:X.N[i]?=some x)(hv:K5 X.env.scope x)(ha:PA X (e::es) t)(hd:(x ==("__debug__" : Str))=false:=by decide)(xC:(x ==("__classdict__" : Str))=false:=by decide)
  (he:starEach (e::es) X.env=(false,eval e X.env)::starEach es X.env:=by rfl) (iE:(backTo pos (starEach es X.env)).any (·.1)=false:=by rfl):PE X (.Call (.Name x p) (e::es) [] pos) (ac4 X.prog X.w X.K X.mg X.base k ps i t):=by
 show .mk ?_;intro v4 s σ H Q I h;obtain⟨f,sp,ex,⟨fd,F,kp,b⟩,h⟩:=h;let⟨m,hn,hl⟩:=I.loc;let⟨u,r,l⟩:=hl i x _ hN ex hv;cases r;let fin:wpAny (model X.prog X.w) X.A (callWith pos (.ref f) [] (backTo pos (starEach (e::es) X.env)) (backToKw pos (keywordEach [] X.env))) (Bl X v4 σ Q) X.xe s:=by
  show Me  I.ok.mod.JO kp (AI (ha pos v4 s σ H _ I h) λus s1 ξ=>Xi23 ξ λvs H1 I1 r q=>⟨I1.nZ,?_⟩) he iE;show Yx F (hr.mono hk) b .nil iS I1 r (by rw[BX];show q)
 rcases l with⟨hk',hm⟩|⟨hk',c,hc,sV⟩
 ·show Ie (LB (au I.ok.kind hk' hn hm fin) hd)
 ·rcases hk' with hk'|hk'
  ·show Ie (LB (Sf I.ok.kind hk' hc sV fin) hd)
  ·show Ie (LB (wpAny_loadName_free I.ok.kind hk' hc sV fin xC) hd)
end
def zD{prog:Program}{A:Around}{R:Result→Shared→Prop}{s:Shared}{kx Cf target iter:Expr}{ifs:List Expr}{scope:Scope}{pos:Pos}{it:Value}{D:Addr}{env:Env}(I:Nat→Shared→Prop)
  (turn:∀n s,I n s→wpAny (model prog w) A (pyNext it) (λr s₁=>match r with
   |none=>R (.ok .next) s₁
   |some v=>wpAny (model prog w) A (letOwnedTupleGo target it v) (λ_ Ds=>wpAny (model prog w) A (assign target env v) (λ_ s₂=>
      wpAny (model prog w) A (forIn ifs true λc r=>if r=true then do let ok ←isTrue c env (eval c env);pure (ForInStep.yield ok)else pure (ForInStep.yield r)) (λok Sy=>if ok=true then wpAny (model prog w) A (eval kx env) (λkv s₃=>wpAny (model prog w) A (eval Cf env) (λvv s₄=>
       wpAny (model prog w) A (dictSet D kv vv) (λ_ s₅=>∃m,m<n∧I m s₅) (notedBy (model prog w) A env λe s'=>R (.error e) s') s₄) (notedBy (model prog w) A env λe s'=>R (.error e) s') s₃) (notedBy (model prog w) A env λe s'=>R (.error e) s') Sy else ∃m,m<n∧I m Sy) (notedBy (model prog w) A env λe s'=>R (.error e) s') s₂) (notedBy (model prog w) A env λe s'=>R (.error e) s') Ds) (notedBy (model prog w) A env λe s'=>R (.error e) s') s₁) (notedBy (model prog w) A env λe s'=>R (.error e) s') s)
  (n:Nat) (h:I n s) :
  codeAny (model prog w) A (.compLoop (.DictComp kx Cf [⟨target,iter,ifs,0⟩] scope pos) 0 it (.ref D) env) R s:=by
 show ON rfl I (λn s hI=>?_) n h;show wpAny _ A ((compTurn (.DictComp kx Cf [⟨target,iter,ifs,0⟩] scope pos) 0 it (.ref D) env).onRaise (λx=>do noteFrame x env;theTreesLotGoes x)) _ _ s
 show wpAny_noted ?_;rw[compTurn_dict];show A9 (Hy (A9 (Be (turn n s hI) (λr s₁ h₁=>?_) λ_ _ h'=>h')));cases r with
 |none=>show AQ h₁
 |some v=>
  show A9 (Be h₁ (λ_ Ds Mv=>?_) λ_ _ h'=>h');show A9 (Be Mv (λ_ s₂ h₂=>A9 (Be h₂ (λok Sy V2=>?_) λ_ _ h'=>h')) λ_ _ h'=>h');cases ok with
  |false=>show AQ ⟨rfl,V2⟩
  |true=>
   show A9 (A9 (Be V2 (λkv s₃ h₃=>A9 (Gl (Be h₃ (λvv s₄ h₄=>A9 (Hy (Gl (Be h₄ (λ_ s₅ h₅=>AQ ⟨rfl,h₅⟩) λ_ _ h'=>h')))) λ_ _ h'=>h'))) λ_ _ h'=>h'))
abbrev j8(wi:DW)(g:DV)(tt:Ci)(tk tv:AY)(own:List Str)(cap:List (Nat×Str)):AY:=λσ H Q=>wi σ H λJ H1=>∀D,H1 D=none→
 ∃W:Nat→Nat→St→List (AB×V)→A5→Prop,(∃m,W 0 m (FO own cap σ) [] (AM H1 D (.dK [])))∧∀i m σ' aA H',W i m σ' aA H'→H' D=some (.dK aA)∧
  ((J.stop i H'∧Q (.ref D) H')∨(J.go i H'∧aA.length<sizeLine∧∃N:St→List (AB×V)→A5→Prop,(∀σ aA H,N σ aA H→∃m',m' < m∧W (i+1) m' σ aA H)∧∀x H2,J.qR i H' x H2→g x σ' H2 λσ3 H3=>tt σ3 H3 λok H3=>if ok=true then tk σ3 H3 λy H4=>tv σ3 H4 λz H5=>∃k,y=BI k∧H5 D=some (.dK aA)∧
   N σ3 (putK aA k z) (AM H5 D (.dK (putK aA k z)))else N σ3 aA H3))
section
variable {scope: Scope}{cl: List (Str×Addr)}{own: List Str}{cap: List (Nat×Str)}{tg iter kx Cf: Expr}{ifs: List Expr}{tt: Ci}{wi: DW}{g: DV}{tk tv: AY}
def mw(c:c9 X scope cl own cap)(hc:X.calm=true)(hi:PI X tg iter wi)
  (hg:∀C s H fp,PG (BK X (own++cap.map (·.2)) scope cl C s H fp λ_ _=>False) tg g)
  (ht:∀C s H fp,wK (BK X (own++cap.map (·.2)) scope cl C s H fp λ_ _=>False) ifs tt)
  (hk:∀C s H fp,PE (BK X (own++cap.map (·.2)) scope cl C s H fp λ_ _=>False) kx tk)
  (hv:∀C s H fp,PE (BK X (own++cap.map (·.2)) scope cl C s H fp λ_ _=>False) Cf tv) (hs:∀x,foldedSetIterable iter X.env x=pure x:=by intro _;rfl) :
  PE X (.DictComp kx Cf [⟨tg,iter,ifs,0⟩] scope pos) (j8 wi g tt tk tv own cap):=by
 show .mk ?_;intro v4 s σ H Q I h;show wpAny _ X.A (comprehension (.DictComp kx Cf [⟨tg,iter,ifs,0⟩] scope pos) scope X.env _ newDict false (eval iter X.env)) _ _ s
 show KG  rfl hs c.xQ c.kind c.names (AI (hi v4 s σ H _ I h) λv s1 h1=>AI h1 λJS s2 h2=>?_);let⟨it,fp,tn,J,H2,e,I2,T,oO,f2,hw⟩:=h2;subst e;show IL (Lw c.cell (by intro y hy;simp at hy) (λh₁ iF gY=>?_) c.kind) (by size_fits);dsimp only at iF gY ⊢;let hO:=fK (P:=X.prog) (w:=X.w) (H:=AM H2 s2.heap.objs.size (.dK [])) s2.heap I2.big;generalize Zg:({cls:=.type "dict",data:=.dict #[]}:Obj)=O at hO iF gY ⊢;let hsz:(s2.heap.push O).objs.size=s2.heap.objs.size+1:=Fe _ _;have kk  := λb o e=>gY.extBut b o (by rw[hsz];show BO (Hm (B3 e))) (B1 _ (B1 _ e));let MM:bU X.prog X.w (AM H2 s2.heap.objs.size (.dK [])) h₁ s2.heap.objs.size (.dK []):=by
  show hO.t4 (λb u hb q=>?_) (λ_ q=>q) λ_ _ q=>q;rcases hb with rfl|hb
  ·show gY.extBut _ _ (by rw[hsz];show BO (GX _)) (B1 _ q)
  ·by_cases z:b=s2.heap.objs.size
   ·subst z;rw[Bu]at hb;cases hb
   ·rw[B0 z]at hb
    have lt  := I2.bV.lt hb;show gY.extBut _ _ (by rw[hsz];show BO (Hm lt)) (B1 _ q)
 rw[hsz]at iF ⊢;let d0:∀b∈fp,b<s2.heap.objs.size:=λb hb=>by
  let⟨o,e,_⟩:=T.obj _ _ oO b hb;show B3 e
 let⟨W,⟨m0,w0⟩,turn⟩:=hw s2.heap.objs.size I2.fresh;let J1:=NX (E:=λ_ _=>False) c I2 f2 d0 (tk:=s2.toks+([]:List (Str×Value)).length) kk MM iF;generalize fi:BK X (own++cap.map (·.2)) scope cl (s2.heap.objs.size+1) s2 H2 fp (λ_ _=>False)=X' at J1;let Iu:PG X' tg g:=fi ▸ hg _ _ _ _;let TN:wK X' ifs tt:=fi ▸ ht _ _ _ _;let hk':PE X' kx tk:=fi ▸ hk _ _ _ _;let B4:PE X' Cf tv:=fi ▸ hv _ _ _ _;let pX:X'.prog=X.prog:=by rw[←fi];rfl
 let wX:X'.w=X.w:=by rw[←fi];rfl
 let kX:X'.K=X.K:=by rw[←fi];rfl
 let aX:X'.A=X.A:=by rw[←fi];rfl
 let cX:X'.calm=true:=by rw[←fi];show hc
 let nX:X'.env=compEnvC scope cl (s2.heap.objs.size+1) X.env:=by rw[←fi];rfl
 let xX:X'.xe=λ_ _=>False:=by rw[←fi];rfl
 let fX:∀b∈fp,∀{H':A5},H' b=none→DP X' [] H' b:=λb hb {H'} hn=>by
  let o1:=(GI (E:=λ_ _=>False) c I2 f2 d0 (C:=s2.heap.objs.size+1) (Bk _)).Gn b hb;let o2:=(GI (E:=λ_ _=>False) c I2 f2 d0 (C:=s2.heap.objs.size+1) (Bk _)).qL b hb;rw[←fi];show⟨hn,o1.1,o2,.inl hb,o1.2,λp hp=>absurd (show p∈([]:ac)from hp) (by simp)⟩
 let Iy:∀D C s' H' m,Inv X v4 σ H' s'→DP X v4 H' C→s'.heap.Ns C m→Q (.ref D) H'→compPost (model X.prog X.w) X.A X.xe none (Bl X v4 σ Q) (.ref D) C (.ok .next) s':=by
  intro D C s' H' m I' hC hm q;show⟨m,hm,λh' fV=>Ps2 (.ref D) H' ⟨?_,rfl,q⟩⟩;show I'.turned (t':=s'.toks) (λb o hb e=>(fV.2 b hb).trans e) hC.1 hC.2.1 hC.2.2.2.1 hC.2.2.2.2.1 hC.2.2.2.2.2
 let fin:∀{σ':St} {H':A5} {s':Shared},Inv X' [] σ' H' s'→Q (.ref s2.heap.objs.size) H'→compPost (model X.prog X.w) X.A X.xe none (Bl X v4 σ Q) (.ref s2.heap.objs.size) (s2.heap.objs.size+1) (.ok .next) s':=λ{σ' H' s'} J' q=>by
  rw[←fi]at J';let⟨A1,A2⟩:=N0 I2 f2 (Bk _) J';let⟨m,hm,_⟩:=J'.loc;show Iy _ _ s' H' m A1 A2 hm q
 let loop:codeAny (model X.prog X.w) X.A (.compLoop (.DictComp kx Cf [⟨tg,iter,ifs,0⟩] scope pos) 0 (.ref it) (.ref s2.heap.objs.size) (compEnvC scope cl (s2.heap.objs.size+1) X.env)) (compPost (model X.prog X.w) X.A X.xe none (Bl X v4 σ Q) (.ref s2.heap.objs.size) (s2.heap.objs.size+1))
   {s2 with heap:=h₁,toks:=s2.toks+([]:List (Str×Value)).length}:=by
  show zD (λn s'=>∃i σ' aA H',Inv X' [] σ' H' s'∧tn i s'.heap∧(∀b∈fp,H' b=none)∧W i n σ' aA H') ?_ m0
   ⟨0,_,_,_,J1,T.keep _ _ _ oO λb _ o e=>kk b o e,λb hb=>by rw[B0 (BO (d0 b hb))];show(f2 b hb).1,w0⟩
  intro n s3⟨i,σ3,aA,H3,I3,wN,xI,w3⟩;let⟨NJ,w4⟩:=turn i n σ3 aA H3 w3;rw[←nX,←aX,←pX,←wX];let iR:∀{α:Type} {t:Sem α} {Q1:α→Shared→Prop} {E1:xz} {s:Shared},wpAny (model X'.prog X'.w) X'.A t Q1 X'.xe s→wpAny (model X'.prog X'.w) X'.A t Q1 E1 s:=λ{α t Q1 E1 s} h=>by
   rw[xX]at h;show Be h (λ_ _ q=>q) λ_ _ f=>f.elim
  rcases w4 with⟨stop,qn⟩|⟨go,hz,N,hN,step⟩
  ·let d:=T.done X' pX wX kX cX i [] s3 σ3 H3 X'.xe I3 (λb hb=>fX b hb (xI b hb)) wN stop
   rw[←pX,←wX]at d;show iR (AI d λr s4 ξ=>Xi02 ξ λhr I4=>?_);subst hr;let f4:=fin I4 qn;rw[←pX,←wX,←aX]at f4;show f4
  ·let d:=T.item X' pX wX kX cX i [] s3 σ3 H3 X'.xe I3 (λb hb=>fX b hb (xI b hb)) wN go
   rw[←pX,←wX]at d;show iR (AI d λr s4 ξ=>Xi12 ξ λu hr h4=>?_);subst hr;show iR (AI h4 λ_ s5 ξ=>Xi25 ξ λx H5 I5 r5 y5 rK Fu=>?_);let Gb:=I5.pinned (λb hb=>fX b hb (Fu b hb)) (T.obj _ _ rK);let again:∀{σ7:St} {H7:A5} {s7:Shared} {mQ:List (AB×V)},Inv X' ([]++Hs fp s5.heap) σ7 H7 s7→N σ7 mQ H7→
     ∃m,m<n∧∃i σ' aA H',Inv X' [] σ' H' s7∧tn i s7.heap∧(∀b∈fp,H' b=none)∧W i m σ' aA H':=λ{σ7 H7 s7 mQ} I7 n7=>by
    let⟨m',hm,w7⟩:=hN _ _ _ n7;show⟨m',hm,i+1,σ7,mQ,H7,I7.gJ,T.keep _ _ _ rK λb hb o e=>(I7.pin (b,o) (CQ _ (CQ _ (GP hb e)))).1,λb hb=>?_,w7⟩;let⟨o,e,d⟩:=T.obj _ _ rK b hb;show(I7.pin (b,o) (CQ _ (CQ _ (GP hb e)))).2.1
   show iR (AI (Iu _ s5 σ3 H5 x u _ Gb r5 (step x H5 y5)) λ_ s6 ξ=>Xi22 ξ λσ6 H6 I6 q6=>?_);show iR (AI (TN _ s6 σ6 H6 _ I6 q6) λok s6 ξ=>Xi12 ξ λH6 I6 q6=>?_);cases ok with
   |false=>show again I6 q6
   |true=>
   show iR (AI (hk' _ s6 σ6 H6 _ I6 q6) λu7 s7 ξ=>Xi23 ξ λy7 H7 I7 r7 q7=>?_);show iR (AI (B4 _ s7 σ6 H7 _ I7 q7) λu8 s8⟨y8,H8,I8,r8,k8,e8,d8,q8⟩=>?_);subst e8;show iR (gT I8 d8 hz r7 r8 λs9 I9=>again I9 q8)
 show codeAny_compStart_dict loop (T.self X.A 0 _ _ _ (T.keep _ _ _ oO λb _ o e=>kk b o e) loop)
end
section
variable {P: Program}{w: World}{A: Around}{E: Value→Shared→Prop}
def jG{Q:Option Bool×Unit→Shared→Prop}:∀{l:List Value} {ks:List AB},ItemsAre (AP P w) ks l→(∀r,Q r s)→wpAny (model P w) A (forIn l ((none:Option Bool),()) λx __s=>do
      let __do_lift ←hashByValue 7 x
      if(!__do_lift)=true then pure (ForInStep.done (some false,()))else pure (ForInStep.yield (none,()))) Q E s
 |_,_,.nil,h=>by rw[Qx];show AQ (h _)
 |_,_,.cons e r,h=>by
  rw[Oa];rcases He e with⟨i,t,rfl,rfl⟩|⟨x,t,rfl,rfl⟩
  ·show A9 (A9 ?_)
   rw[show hashByValue 7 (.int i t)=pure true from by simp[hashByValue]];show AQ ?_;rw[AL (by simp)];show AQ (jG r h)
  ·show A9 (A9 ?_)
   rw[show hashByValue 7 (.str x t)=pure false from by simp[hashByValue]];show AQ ?_;rw[AO (by simp)];show AQ (AQ (h _))
def qc{b:Addr}{ks:List AB}{Q:Bool→Shared→Prop}(hk:(tupleKind (AP P w)).is s.heap ks b)(h:∀r,Q r s):wpAny (model P w) A (hashByValue 8 (.ref b)) Q E s:=by
 let⟨o,items,n,ho,hc,hd,hi⟩:=hk;unfold hashByValue;show A9 (wpAny_specialOf ⟨o,ho,hc⟩ PySem.F.slot_tuple_hash.lookup ?_);split
 ·show A9 (Hg ho hd ?_)
  show A9 ?_;show wpAny _ _ (forIn items _ _) _ _ s
  rw[←Array.forIn_toList];show jG hi λr=>?_;dsimp only;split
  ·show AQ (h _)
  ·show AQ (h _)
 all_goals (rename_i e;first|(show absurd rfl e)|(exfalso;simp at e;done)|(exfalso;simp_all))
end
def oX{X:Cx}(hu:X.A.units<cLine):iL X (compareOp .Eq) (λx y H Q=>∃a vs,x=.non∧y=.ref a∧H a=some (.tup vs)∧Q (.bl false) H):=by
 intro v4 s σ H x y v u Q I rx ry h;let⟨a,vs,rfl,rfl,hp,q⟩:=h;cases rx;cases ry;let⟨bp,rv,pl,hz⟩:=I.tuple (eP.of (K:=X.K) hp);show SeqAt.RcAt.none_tuple pl hu _ _ _ _ ⟨.bl false,H,I,rfl,q⟩
end L2
namespace L2
open PySem PySem.Spec PyProof.Rows
variable {Q:Bool→Shared→Prop}{b:Addr}{ks:List AB}
section
variable {P: Program}{w: World}{A: Around}{E: Value→Shared→Prop}{s: Shared}
def kF{Q:Option Bool×Unit→Shared→Prop}{d:Nat}:∀{l:List Value} {ks:List AB},ItemsAre (AP P w) ks l→Q (none,()) s→wpAny (model P w) A (forIn l ((none:Option Bool),()) λx __s=>do
      let __do_lift ←ofAClassStatement d x
      if __do_lift=true then pure (ForInStep.done (some true,()))else pure (ForInStep.yield (none,()))) Q E s
 |_,_,.nil,h=>by show AQ h
 |_,_,.cons e r,h=>by
  rw[Oa];let ee:∀v ,carriedByValue v=true→ofAClassStatement d v=pure false:=λv hv=>by cases v<;>first|(cases hv;done)|(cases d<;>rfl)|(unfold ofAClassStatement)
  rw[ee _ ((AP P w).byValue _ _ e)];show A9 (A9 (AQ ?_));show AQ (kF r h)
def kL(hk:(tupleKind (AP P w)).is s.heap ks b)(h:Q false s):wpAny (model P w) A (ofAClassStatement 8 (.ref b)) Q E s:=by
 let hT:=IsTupleKey.typeIs hk;let⟨o,items,n,ho,hc,hd,hi⟩:=hk;unfold ofAClassStatement;show A9 (OD hT ?_);show A9 (AQ ?_);show A9 (Hg ho hd ?_);show A9 ?_;rw[←Array.forIn_toList];show kF hi ?_;show AQ h
def yJ(hk:(tupleKind (AP P w)).is s.heap ks b){l:List Value}(hl:∀y∈l,∃c Gg,y=.ref c∧(tupleKind (AP P w)).is s.heap Gg c)(h:Q false s):
  wpAny (model P w) A (searchCouldBeSeen (.ref b) l) Q E s:=by
 show A9 ?_;show wpAny_forIn_list _ (λv6 r s'=>r.1=none∧s'=s∧∀y∈v6,y∈l) _ ?_ ?_ _ _ ⟨rfl,rfl,λy hy=>hy⟩
 ·intro y v6 r s'⟨hr,rfl,vQ⟩
  let⟨c,Gg,rfl,hc⟩:=hl y (vQ y Ej);have hn  := λu hu=>vQ u (Cn _ hu);dsimp only;split
  ·show AQ ⟨rfl,rfl,hn⟩
  ·show A9 ((tupleKind (AP P w)).quiet hk ?_)
   show A9 ((tupleKind (AP P w)).quiet hc ?_);show A9 (kL hk ?_);show A9 (kL hc ?_);show AQ ⟨rfl,rfl,hn⟩
 ·rintro⟨r1,r2⟩ s' ⟨hr,rfl,_⟩
  subst hr;show AQ h
end
abbrev GK(a:Addr)(n:Nat)(h:Heap):Prop:=∃o es ep t,h.get? a=some o∧o.ExactSet∧o.data=.set es ep t∧t.fits es.size=true∧es.size=n
def vk{P:Program}{w:World}{H:A5}{h:Heap}{a:Addr}{n:Nat}(q:GK a n h):bU P w H h a (.ext (GK a n)):=by
 show⟨q,?_,λh1 h2 q1 k=>?_⟩
 ·let⟨o,_,_,_,e,_⟩:=q;show⟨o,e⟩
 ·let⟨o,es,ep,t,e,r⟩:=q1;show Ps4 o es ep t ⟨k o e,r⟩
abbrev Ex(L:List (Addr×List AB))(q:Addr×List AB):List (Addr×List AB):=if L.any (λp=>decide (p.2=q.2))=true then L else q::L
abbrev Ga(g:Nat→Addr×List AB)(j:Nat)(q:Addr×List AB):Nat→Addr×List AB:=λi=>if i=j then q else g i
def eR{α:Type}(f:Nat→Addr×List AB→α){g:Nat→Addr×List AB}{j:Nat}{q:Addr×List AB}{l:List Nat}(h:j∉l):l.map (λi=>f i (Ga g j q i))=l.map λi=>f i (g i):=
 List.map_congr_left λi hi=>by unfold Ga;rw[AL (λe=>h (by rw[←e];show hi))]
section
variable {Kk: Type}[DecidableEq Kk]
end
end L2
namespace L2
open PySem
variable {pl:List Nat}{j i M K:Nat}{h:Int}
abbrev Bh(pl:List Nat)(j:Nat):Nat:=(pl.filter λi=>decide (i<j)).length
noncomputable abbrev Hj(pl:List Nat):Prop:=pl.Pairwise (· < ·)
def jk(pl:List Nat)(j:Nat):Bh pl j≤pl.length:=KA _ _
def KZ:∀{pl:List Nat} {j i:Nat} (s:Hj pl) (h:i<pl.length),pl[i]<j↔i<Bh pl j
 |x::r,j,i,s,h=>by
  let⟨s1,s2⟩:=List.pairwise_cons.mp s;unfold Bh;by_cases c:x<j
  ·rw[KW (by simpa using c),Bb]
   cases i with
   |zero=>show⟨λ_=>by lia,λ_=>c⟩
   |succ i=>
    have:=KZ (j:=j) (i:=i) s2 (by simpa using h);unfold Bh at this;rw[List.getElem_cons_succ,this];lia
  ·let e:(x::r).filter (λi=>decide (i<j))=[]:=List.filter_eq_nil_iff.mpr λy hy=>by
    rcases aaf.mp hy with rfl|hy
    ·simpa using c
    ·have:=s1 y hy
     simp;lia
   rw[e,Po];show⟨λz=>?_,λz=>by lia⟩;have:x≤(x::r)[i]:=by
    cases i with
    |zero=>show Ap _
    |succ i=>rw[List.getElem_cons_succ];show Cv (s1 _ (Eg _))
   lia
def R2{pl:List Nat}{j:Nat}(s:Hj pl):∀(fuel lo hi:Nat),lo≤Bh pl j→Bh pl j≤hi→hi≤pl.length→hi-lo≤fuel→SetTable.below.go pl.toArray j fuel lo hi=Bh pl j
 |0,lo,hi,h1,h2,h3,h4=>by rw[SetTable.below.go];lia
 |fuel+1,lo,hi,h1,h2,h3,h4=>by
  rw[SetTable.below.go];by_cases c:lo<hi
  ·rw[AO c]
   dsimp only;let hm:(lo+hi)/2<pl.length:=by lia
   let e:pl.toArray.getD ((lo+hi)/2) j=pl[(lo+hi)/2]:=by
    rw[Vf,JZ,BV hm];rfl
   rw[e];let k:=KZ (j:=j) s hm;by_cases d:pl[(lo+hi)/2]<j
   ·rw[AO d]
    show R2 s fuel _ hi (by have:=k.mp d;lia) h2 h3 (by lia)
   ·rw[AL d]
    show R2 s fuel lo _ h1 (Ld λz=>d (k.mpr z)) (by lia) (by lia)
  ·rw[AL c];lia
def cg(s:Hj pl):SetTable.below pl.toArray j=Bh pl j:=by
 unfold SetTable.below;rw[Bn];show R2 s _ 0 _ (E6 _) (jk _ _) (Ap _) (by lia)
def ka(s:Hj pl):pl[Bh pl j]?=some j↔j∈pl:=by
 show⟨λh=>LK h,λh=>?_⟩;obtain⟨i,hi,e⟩:=LU h;let k:=KZ (j:=j) s hi;let h1:Bh pl j≤i:=Ld λz=>by have:=k.mpr z;lia
 let h2:i≤Bh pl j:=Ld λz=>by
  let hr:Bh pl j<pl.length:=by lia
  have:=(List.pairwise_iff_getElem.mp s) _ _ hr hi z;have:=(KZ (j:=j) s hr).mp (by lia);lia
 have:i=Bh pl j:=by lia
 subst this;rw[BV hi,e]
abbrev E0(pl:List Nat)(j:Nat):List Nat:=pl.take (Bh pl j)++j::pl.drop (Bh pl j)
def nR:i∈E0 pl j↔i=j∨i∈pl:=by
 unfold E0;rw[aav,aaf];constructor
 ·rintro(h|h|h)
  ·show .inr (Hi h)
  ·show .inl h
  ·show .inr (Hc h)
 ·rintro(h|h)
  ·show .inr (.inl h)
  ·rw[←Jn (Bh pl j) pl]at h
   rcases aav.mp h with h|h
   ·show .inl h
   ·show .inr (.inr h)
def acv(pl:List Nat)(j:Nat):(E0 pl j).length=pl.length+1:=by
 have:=jk pl j;unfold E0;rw[BP,Bb,DD,FG];lia
def yq(s:Hj pl)(h:j∉pl):Hj (E0 pl j):=by
 unfold E0;let tk:∀a∈pl.take (Bh pl j),a<j:=λa ha=>by
  obtain⟨i,hi,e⟩:=LU ha;rw[DD]at hi;rw[List.getElem_take]at e;rw[←e];show(KZ s (by lia)).mpr (by lia)
 let dr:∀a∈pl.drop (Bh pl j),j<a:=λa ha=>by
  obtain⟨i,hi,e⟩:=LU ha;rw[FG]at hi;rw[List.getElem_drop]at e;have:=(KZ (j:=j) s (i:=Bh pl j+i) (by lia));let ne:a≠j:=λz=>h (by rw[←z];show Hc ha);rw[e]at this;lia
 show List.pairwise_append.mpr ⟨s.sublist (Qz _ _),List.pairwise_cons.mpr ⟨dr,s.sublist (List.drop_sublist _ _)⟩,λa ha b hb=>?_⟩;let h1:=tk a ha;rcases aaf.mp hb with rfl|hb
 ·show h1
 ·show Nat.lt_trans h1 (dr b hb)
abbrev Gy(M:Nat):SetTable:={SetTable.fresh 0 0 true with mask:=M}
abbrev Bd(M:Nat)(h:Int):Nat→SetTable.Probe
 |0=>(Gy M).probeStart h
 |k+1=>(Gy M).advance (Bd M h k)
abbrev road(M:Nat)(h:Int)(k:Nat):Nat:=(Bd M h k).j
def Nb(h:i≤M):SetTable.runEnd M i≤M∧i≤SetTable.runEnd M i∧SetTable.runEnd M i≤i+9:=by
 unfold SetTable.runEnd;split<;>lia
def aL(M:Nat)(h:Int):∀k,(Bd M h k).j+(Bd M h k).more≤M∧(Bd M h k).i≤M∧(Bd M h k).dummy=none
 |0=>by
  let hi:SetTable.bits h%(M+1)≤M:=M5 (Pm _ (OG _));have:=Nb hi;show⟨?_,hi,rfl⟩;show SetTable.bits h%(M+1)+(SetTable.runEnd M (SetTable.bits h%(M+1))-SetTable.bits h%(M+1))≤M
  lia
 |k+1=>by
  let⟨a,b,c⟩:=aL M h k;show((Gy M).advance (Bd M h k)).j+((Gy M).advance (Bd M h k)).more≤M∧((Gy M).advance (Bd M h k)).i≤M∧((Gy M).advance (Bd M h k)).dummy=none
  unfold SetTable.advance;split
  ·show⟨by show(Bd M h k).j+1+((Bd M h k).more-1)≤M;lia,b,c⟩
  ·let hi:((Bd M h k).i*5+1+(Bd M h k).perturb/32)%(M+1)≤M:=M5 (Pm _ (OG _))
   have:=Nb hi;show⟨?_,hi,c⟩;show((Bd M h k).i*5+1+(Bd M h k).perturb/32)%(M+1)+(SetTable.runEnd M (((Bd M h k).i*5+1+(Bd M h k).perturb/32)%(M+1))-((Bd M h k).i*5+1+(Bd M h k).perturb/32)%(M+1))≤M
   lia
def lK(M:Nat)(h:Int)(k:Nat):road M h k≤M:=by have:=(aL M h k).1;unfold road;lia
abbrev BE(M:Nat)(h:Int):Nat→Nat×Nat
 |0=>(SetTable.bits h%(M+1),SetTable.bits h)
 |r+1=>SetTable.leap M (BE M h r).1 (BE M h r).2
abbrev To(M:Nat)(x:Nat×Nat):SetTable.Probe:={j:=x.1,more:=SetTable.runEnd M x.1-x.1,i:=x.1,perturb:=x.2,dummy:=none}
def OT(M:Nat)(h:Int){k:Nat}{x:Nat×Nat}(e:Bd M h k=To M x):∀m,m≤SetTable.runEnd M x.1-x.1→Bd M h (k+m)={j:=x.1+m,more:=SetTable.runEnd M x.1-x.1-m,i:=x.1,perturb:=x.2,dummy:=none}
 |0,_=>by rw[Kf,e];rfl
 |m+1,hm=>by
  have:=OT M h e m (by lia);show(Gy M).advance (Bd M h (k+m))=_
  rw[this];unfold SetTable.advance;rw[AO (show SetTable.runEnd M x.1-x.1-m>0 by lia)];dsimp only;rw[show SetTable.runEnd M x.1-x.1-m-1=SetTable.runEnd M x.1-x.1-(m+1)by lia];rfl
def K0(M:Nat)(h:Int):∀r,(BE M h r).1≤M∧∃k,k≤10*r∧Bd M h k=To M (BE M h r)
 |0=>⟨M5 (Pm _ (OG _)),0,Ap _,rfl⟩
 |r+1=>by
  let⟨hi,⟨k,hk,e⟩⟩:=K0 M h r;let re:=Nb hi;let e2:=OT M h e (SetTable.runEnd M (BE M h r).1-(BE M h r).1) (Ap _);show⟨M5 (Pm _ (OG _)),k+(SetTable.runEnd M (BE M h r).1-(BE M h r).1)+1,by lia,?_⟩;show(Gy M).advance (Bd M h (k+(SetTable.runEnd M (BE M h r).1-(BE M h r).1)))=_
  rw[e2,Nat.sub_self];unfold SetTable.advance;rw[AL (show ¬(0:Nat)>0 from GG 0)];rfl
def cB(M:Nat)(h:Int):∀r,(BE M h r).2=SetTable.bits h/32^r
 |0=>by show SetTable.bits h=_;rw[Nat.pow_zero,Nat.div_one]
 |r+1=>by show(BE M h r).2/32=_;rw[cB M h r,Nat.div_div_eq_div_mul,Nat.pow_succ]
def wg(h:Int):SetTable.bits h<2^64:=by unfold SetTable.bits;lia
abbrev J6(M:Nat):Nat→Nat→Nat
 |0,i=>i
 |r+1,i=>(J6 M r i*5+1)%(M+1)
def wU:∀i<8,∀j<8,∃r<32,J6 7 r i=j:=by done
def TI:∀i<32,∀j<32,∃r<32,J6 31 r i=j:=by done
def Kz(M:Nat)(h:Int):∀r,BE M h (13+r)=(J6 M r (BE M h 13).1,0)
 |0=>Prod.ext rfl (by rw[cB,Nat.div_eq_of_lt (EO (wg h) (by decide))])
 |r+1=>by
  show SetTable.leap M (BE M h (13+r)).1 (BE M h (13+r)).2=_
  rw[Kz M h r];unfold SetTable.leap;rw[J6];simp
noncomputable abbrev HF(M:Nat):Prop:=M=7∨M=31
def nJ(hM:HF M)(h:Int)(hj:j≤M):∃r<45,(BE M h r).1=j:=by
 let hi:=(K0 M h 13).1;have:∃r<32,J6 M r (BE M h 13).1=j:=by
  rcases hM with rfl|rfl
  ·show wU _ (by lia) _ (by lia)
  ·show TI _ (by lia) _ (by lia)
 let⟨r,hr,e⟩:=this;show⟨13+r,by lia,by rw[Kz];show e⟩
def qA(hM:HF M)(h:Int)(hj:j≤M):∃k,k<441∧road M h k=j:=by
 let⟨r,hr,e⟩:=nJ hM h hj;let⟨_,⟨k,hk,e2⟩⟩:=K0 M h r;show⟨k,by lia,by unfold road;rw[e2];show e⟩
def gR{p:Nat→Bool}:∀{n:Nat},p n=true→∃k,k≤n∧p k=true∧∀i<k,p i=false
 |0,h=>⟨0,Ap _,h,λi hi=>absurd hi (Ik _)⟩
 |n+1,h=>by
  by_cases c:∃i,i≤n∧p i=true
  ·let⟨i,hi,pi⟩:=c
   let⟨k,hk,a,b⟩:=gR pi;show⟨k,by lia,a,b⟩
  ·show⟨n+1,Ap _,h,λi hi=>by cases e:p i with|false=>rfl|true=>show absurd ⟨i,by lia,e⟩ c⟩
def jd(s:Hj pl)(l:pl.length≤M):∃j,j≤M∧j∉pl:=by
 show OC λz=>?_;have:∀j≤M,j∈pl:=λj hj=>OC λq=>z ⟨j,hj,q⟩;let key:∀(n:Nat) (xs:List Nat),(∀j<n,j∈xs)→n≤xs.length:=λn=>by
  induction n with
  |zero=>exactλxs _=>E6 _
  |succ n ih=>
   intro xs q;let h1:=ih (xs.erase n) λj hj=>(Su (by lia)).mpr (q j (by lia));rw[QD (q n (GX _))]at h1;have:=Rl (q n (GX _));lia
 have:=key (M+1) pl λj hj=>this j (by lia);lia
structure qO(t:SetTable)(M:Nat)(pl:List Nat):Prop where
 mask:t.mask=M
 place:t.place=pl.toArray
 dm:t.dummies=#[]
 up:Hj pl
 le:∀j∈pl,j≤M
section
variable {t: SetTable}{M: Nat}{pl: List Nat}
def qO.adv(T:qO t M pl)(p:SetTable.Probe):t.advance p=(Gy M).advance p:=by
 unfold SetTable.advance;rw[T.mask];rfl
def qO.start(T:qO t M pl)(h:Int):t.probeStart h=Bd M h 0:=by
 show _=(Gy M).probeStart h
 unfold SetTable.probeStart;rw[T.mask];rfl
def qO.slot(T:qO t M pl)(j:Nat):t.slot j=if j∈pl then .live (Bh pl j)else .empty:=by
 unfold SetTable.slot;rw[T.place,T.dm,cg T.up];dsimp only;rw[JZ];let g:=ka (j:=j) T.up;by_cases e:j∈pl
 ·rw[g.mpr e,AO (by simp),AO e]
 ·rw[AL (λz=>e (g.mp (by simpa using z))),AL (λz=>by simp[SetTable.has]at z),AL e]
def gG(T:qO t M pl){h:Int}{f:Nat→Int}{K:Nat}(hK:road M h K∉pl)(hb:∀i<K,road M h i∈pl):
  ∀(d k fuel:Nat),k+d=K→d<fuel→
   (SetTable.probe.go t f h fuel (Bd M h k)=some (.empty (road M h K) none)∧∀i,k≤i→i<K→f (Bh pl (road M h i))≠h) ∨
   ∃i,k≤i∧i<K∧f (Bh pl (road M h i))=h∧(∀i',k≤i'→i' < i→f (Bh pl (road M h i'))≠h)∧
    SetTable.probe.go t f h fuel (Bd M h k)=some (.candidate (road M h i) (Bh pl (road M h i)) (Bd M h (i+1)))
 |_,_,0,_,hf=>absurd hf (Ik _)
 |0,k,fuel+1,e,_=>by
  obtain rfl:k=K:=by lia
  show .inl ⟨?_,λi a b=>absurd b (by lia)⟩;rw[SetTable.probe.go];show(match t.slot (road M h k)with|.empty=>some (SetTable.Met.empty (road M h k) (Bd M h k).dummy)|.dummy=>_|.live i=>_)=_
  rw[T.slot,AL hK,(aL M h k).2.2]
 |d+1,k,fuel+1,e,hf=>by
  let hk:k<K:=by lia
  let step:SetTable.probe.go t f h (fuel+1) (Bd M h k)=if(f (Bh pl (road M h k))==h)=true then some (.candidate (road M h k) (Bh pl (road M h k)) (Bd M h (k+1)))else SetTable.probe.go t f h fuel (Bd M h (k+1)):=by
   rw[SetTable.probe.go];show(match t.slot (road M h k)with|.empty=>_|.dummy=>_|.live i=>_)=_
   rw[T.slot,AO (hb k hk)];dsimp only;rw[T.adv (Bd M h k)];rfl
  by_cases c:f (Bh pl (road M h k))=h
  ·show .inr ⟨k,Ap _,hk,c,λi a b=>absurd b (by lia),by rw[step,AO (by rw[c];show O7 _)]⟩
  ·rw[step,AL (by simpa using c)]
   rcases gG T hK hb d (k+1) fuel (by lia) (by lia)with⟨a,b⟩|⟨i,a,b,c1,d1,e1⟩
   ·show .inl ⟨a,λi x y=>by by_cases z:i=k;(subst z;show c);show b i (by lia) y⟩
   ·show .inr ⟨i,by lia,b,c1,λi' x y=>by by_cases z:i'=k;(subst z;show c);show d1 i' (by lia) y,e1⟩
def qO.put(T:qO t M pl)(hj:j≤M)(hf:j∉pl):qO (t.put j).1 M (E0 pl j)∧(t.put j).2=Bh pl j:=by
 unfold SetTable.put;rw[T.place,T.dm,cg T.up];show⟨⟨T.mask,?_,?_,yq T.up hf,λi hi=>?_⟩,rfl⟩
 ·apply Array.ext'
  rw[SetTable.toList_insertAt];rfl
 ·rfl
 ·rcases nR.mp hi with rfl|hi
  ·show hj
  ·show T.le i hi
def qO.fits(T:qO t M pl)(l:pl.length≤M):t.fits pl.length=true:=by
 unfold SetTable.fits SetTable.fill;rw[T.place,T.dm,T.mask];simp;show l
def qO.full(T:qO t M pl):t.tooFull=decide (M*3≤pl.length*5):=by
 unfold SetTable.tooFull SetTable.fill;rw[T.place,T.dm,T.mask];simp
def qO.first(T:qO t M pl)(hM:HF M)(l:pl.length≤M)(h:Int):∃K,K<441∧road M h K∉pl∧∀i<K,road M h i∈pl:=by
 let⟨j,hj,hf⟩:=jd T.up l;let⟨k,hk,e⟩:=qA hM h hj;let⟨q,hq,a,b⟩:=gR (p:=λi=>decide (road M h i∉pl)) (n:=k) (by rw[e];simpa using hf);show⟨q,by lia,by simpa using a,λi hi=>by simpa using b i hi⟩
def qZ(hM:HF M)(hK:road M h K∉pl)(hb:∀i<K,road M h i∈pl)(l:pl.length≤M)(s:Hj pl):K<10*SetTable.turns M:=by
 let⟨j,hj,hf⟩:=jd s l;have:∃r,r≤M+13∧(BE M h r).1=j:=by
  let hi:=(K0 M h 13).1;rcases hM with rfl|rfl
  ·let⟨r,hr,e⟩:=(by done:∀i<8,∀j<8,∃r<8,J6 7 r i=j) _ (show(BE 7 h 13).1<8 by lia) j (by lia)
   show⟨13+r,by lia,by rw[Kz];show e⟩
  ·let⟨r,hr,e⟩:=TI _ (show(BE 31 h 13).1<32 by lia) j (by lia)
   show⟨13+r,by lia,by rw[Kz];show e⟩
 let⟨r,hr,e⟩:=this;let⟨_,⟨k,hk,e2⟩⟩:=K0 M h r;have:road M h k=j:=by unfold road;rw[e2];show e
 have:K≤k:=Ld λz=>hf (by rw[←this];show hb k z);unfold SetTable.turns;lia
end
end L2
namespace L2
open PySem PySem.Spec PyProof.Rows
variable {pl:List Nat}{t:SetTable}{M K k:Nat}{g:Nat→Addr×List AB}{hf:List AB→Int}{h:Int}{f:Nat→Int}
section
variable {P: Program}{w: World}{A: Around}{E: Value→Shared→Prop}{s: Shared}
abbrev CS(hf:List AB→Int)(pl:List Nat)(g:Nat→Addr×List AB):Array (Int×Value):=(pl.map λj=>(hf (g j).2,Value.ref (g j).1)).toArray
def P0(hf:List AB→Int)(g:Nat→Addr×List AB)(s:Hj pl){j:Nat}(hj:j∈pl):(CS hf pl g)[Bh pl j]?=some (hf (g j).2,Value.ref (g j).1):=by
 unfold CS;rw[JZ,Fo,(ka s).mpr hj];rfl
def HK(hf:List AB→Int)(pl:List Nat)(g:Nat→Addr×List AB):(CS hf pl g).size=pl.length:=by unfold CS;simp
abbrev LV(hf:List AB→Int)(M:Nat)(pl:List Nat)(g:Nat→Addr×List AB):Prop:=∀j∈pl,∃k,road M (hf (g j).2) k=j∧∀i<k,road M (hf (g j).2) i∈pl
def kj{r:Option SetTable.Met}(ep:t.probe f h (Bd M h k)=r)(ht:qO t M pl)(hM:HF M)(hl:pl.length≤M)(hK:road M h K∉pl)(hb:∀i<K,road M h i∈pl)(hk:k≤K)
  (he:∀j∈pl,f (Bh pl j)=hf (g j).2):(r=some (.empty (road M h K) none)∧∀i,k≤i→i<K→hf (g (road M h i)).2≠h) ∨
   ∃i,k≤i∧i<K∧hf (g (road M h i)).2=h∧(∀i',k≤i'→i' < i→hf (g (road M h i')).2≠h)∧r=some (.candidate (road M h i) (Bh pl (road M h i)) (Bd M h (i+1))):=by
 have MD  := hb;subst ep;rcases gG ht hK hb (K-k) k (10*SetTable.turns t.mask) (by lia) (by rw[ht.mask];have:=qZ hM hK hb hl ht.up;lia)with⟨e,n⟩|⟨i,a,b,c,d,e⟩
 ·show .inl ⟨e,λi x y=>by rw[←he _ (MD i y)];show n i x y⟩
 ·show .inr ⟨i,a,b,by rw[←he _ (MD i b)];show c,λi' x y=>by rw[←he _ (MD i' (by lia))];show d i' x y,e⟩
def nG(hn:∀q,t.probe f h (Bd M h k)=some q→False)(ht:qO t M pl)(hM:HF M)(hl:pl.length≤M)(hK:road M h K∉pl)(hb:∀i<K,road M h i∈pl)(hk:k≤K)
  (he:∀j∈pl,f (Bh pl j)=hf (g j).2):False:=by
 rcases kj     rfl ht hM hl hK hb hk he with⟨e,n⟩|⟨i,i1,i2,i3,i4,e⟩
 ·show hn _ e
 ·show hn _ e
def mW{a b:Addr}{ks:List AB}{o:Obj}{ep:Nat}{Q:SetFound→Shared→Prop}(hu:A.units<cLine)
  (hg:s.heap.get? a=some o) (hd:o.data=.set (CS (tupleKind (AP P w)).hash pl g) ep t) (ht:qO t M pl) (hM:HF M) (hl:pl.length≤M) (hr:LV (tupleKind (AP P w)).hash M pl g)
  (AX:∀j∈pl,(tupleKind (AP P w)).is s.heap (g j).2 (g j).1) (hx:(tupleKind (AP P w)).is s.heap ks b)
  (hK:road M ((tupleKind (AP P w)).hash ks) K∉pl) (hb:∀i<K,road M ((tupleKind (AP P w)).hash ks) i∈pl)
  (hF:(∀j∈pl,(g j).2≠ks)→Q (.free (road M ((tupleKind (AP P w)).hash ks) K) false) s) (hT:(∃j∈pl,(g j).2=ks)→Q (.there none) s) :
  ∀(d k fuel:Nat) (Dt:Option SetTable.Probe),k+d=K→d<fuel→Dt.getD (t.probeStart ((tupleKind (AP P w)).hash ks))=Bd M ((tupleKind (AP P w)).hash ks) k→
   (∀i<k,(g (road M ((tupleKind (AP P w)).hash ks) i)).2≠ks)→wpAny (model P w) A (setSearchFrom a (.ref b) ((tupleKind (AP P w)).hash ks) true fuel Dt) Q E s:=by
 let Fj:t.fits (CS (tupleKind (AP P w)).hash pl g).size=true:=by rw[HK];show ht.fits hl
 intro d;induction d using Nat.strongRecOn with
 |ind d ih=>
  intro k fuel Dt hkd NF ym Rx;cases fuel with
  |zero=>lia
  |succ fuel=>
   unfold setSearchFrom;show A9 (LS hg hd Fj ?_);dsimp only;rw[AL (λe=>by unfold SetTable.gaveWay at e;rw[ht.mask]at e;rcases hM with rfl|rfl<;>simp at e),ym]
   split
   ·rename_i hp
    rcases kj  (hf:=(tupleKind (AP P w)).hash) hp ht hM hl hK hb (by lia) (λj hj=>show(((CS (tupleKind (AP P w)).hash pl g)[Bh pl j]?).map (·.1)).getD 0=_ from by rw[P0 _ g ht.up hj];rfl)with⟨e,n⟩|⟨i,i1,i2,i3,i4,e⟩
    ·cases e
     dsimp only;show AQ (hF λj hj e=>?_);let⟨k0,e0,b0⟩:=hr j hj;rw[e]at e0 b0;let h1:k0<K:=by
      show Nat.lt_of_not_le λz=>?_;have:road M ((tupleKind (AP P w)).hash ks) K∈pl:=by
       rcases Nat.lt_or_eq_of_le z with z|z
       ·show b0 K z
       ·rw[z,e0];show hj
      show hK this
     by_cases c:k0<k
     ·show Rx k0 c (by rw[e0];show e)
     ·show n k0 (by lia) h1 (by rw[e0,e])
    ·cases e
     dsimp only;let hj:road M ((tupleKind (AP P w)).hash ks) i∈pl:=hb i i2;let lst:∀y∈List.map (λx=>x.snd) (Array.filter (λx=>x.fst ==(tupleKind (AP P w)).hash ks) (CS (tupleKind (AP P w)).hash pl g)).toList,∃c Gg,y=.ref c∧(tupleKind (AP P w)).is s.heap Gg c:=λy hy=>by
      let⟨e,he,rfl⟩:=aai.mp hy;let he:=(aa9.mp (by rwa[Array.toList_filter]at he)).1;unfold CS at he;let⟨j,hj,rfl⟩:=aai.mp he;show Ps2 _ _ ⟨rfl,AX j hj⟩
     by_cases Qf:(!t.led)=true
     rw[AO Qf];show A9 (yJ hx lst ?_);rw[AL (by simp)];rotate_left;rw[AL Qf]
     all_goals
      rw[P0 _ g ht.up hj];dsimp only;show A9 (Gl ((tupleKind (AP P w)).eqBool hu (AX _ hj) hx ?_));show A9 (LS hg hd Fj ?_);dsimp only;by_cases c:(g (road M ((tupleKind (AP P w)).hash ks) i)).2=ks
      ·rw[BU c,AO (by simp)];show AQ (hT ⟨_,hj,c⟩)
      ·rw[Ck c,AL (by simp)]
       let sm:t.sameMemory t.moves t.mask=some true:=by unfold SetTable.sameMemory;rw[AO (O7 _)]
       rw[sm];dsimp only;rw[AO rfl,ht.slot,AO hj];dsimp only;rw[P0 _ g ht.up hj];dsimp only;show A9 (wpAny_isSame_ref_self ?_);rw[AO rfl];show A9 (AQ ?_);dsimp only;rw[AL (by simp)];show ih (K-(i+1)) (by lia) (i+1) fuel _ (by lia) (by lia) rfl (λi' Ir=>?_);by_cases c1:i' < k
       ·show Rx i' c1
       by_cases c2:i'=i
       ·rw[c2];show c
       ·exactλz=>i4 i' (by lia) (by lia) (by rw[z])
   ·rename_i hn
    show(nG (g:=g) (hf:=(tupleKind (AP P w)).hash) hn ht hM hl hK hb (by lia) (λj hj=>show(((CS (tupleKind (AP P w)).hash pl g)[Bh pl j]?).map (·.1)).getD 0=_ from by rw[P0 _ g ht.up hj];rfl)).elim
end
end L2
namespace L2
open PySem
variable {M k:Nat}{h:Int}{owner:Array (Option Nat)}{hs:List Int}
abbrev D7(M:Nat)(h:Int):Nat→Nat
 |0=>0
 |r+1=>D7 M h r+(SetTable.runEnd M (BE M h r).1-(BE M h r).1)+1
def jA(M:Nat)(h:Int):∀r,Bd M h (D7 M h r)=To M (BE M h r)
 |0=>rfl
 |r+1=>by
  let e2:=OT M h (jA M h r) (SetTable.runEnd M (BE M h r).1-(BE M h r).1) (Ap _);show(Gy M).advance (Bd M h (D7 M h r+(SetTable.runEnd M (BE M h r).1-(BE M h r).1)))=_
  rw[e2,Nat.sub_self];unfold SetTable.advance;rw[AL (show ¬(0:Nat)>0 from GG 0)];rfl
def eS(M:Nat)(h:Int){a:Nat}:∀{b:Nat},a<b→D7 M h a<D7 M h b
 |0,z=>absurd z (Ik _)
 |b+1,z=>by
  show D7 M h a<D7 M h b+_+1
  rcases Nat.lt_or_eq_of_le (M5 z)with q|q
  ·have:=eS M h q;lia
  ·rw[q];lia
def RZ(M:Nat)(h:Int)(r:Nat){m:Nat}(hm:m≤SetTable.runEnd M (BE M h r).1-(BE M h r).1):road M h (D7 M h r+m)=(BE M h r).1+m:=by
 unfold road;rw[OT M h (jA M h r) m hm]
noncomputable abbrev Fy(owner:Array (Option Nat))(j:Nat):Prop:=∃i,owner[j]?=some (some i)
def iW{M:Nat}{h:Int}{owner:Array (Option Nat)}(hs:owner.size=M+1):∀(fuel r:Nat),(∀q<D7 M h r,Fy owner (road M h q))→(∃q,q<D7 M h (r+fuel)∧¬Fy owner (road M h q))→
  ∃q,SetTable.layClean.free M owner fuel (BE M h r).1 (BE M h r).2=some (road M h q)∧¬Fy owner (road M h q)∧∀q' < q,Fy owner (road M h q')
 |0,r,h1,h2=>by let⟨q,hq,n⟩:=h2;show absurd (h1 q hq) n
 |fuel+1,r,h1,h2=>by
  let hi:=(K0 M h r).1;let re:=Nb hi;let iso:∀k,k≤SetTable.runEnd M (BE M h r).1-(BE M h r).1→((owner.getD ((BE M h r).1+k) (some 0)).isNone=true↔¬Fy owner (road M h (D7 M h r+k))):=λk hk=>by
   rw[RZ M h r hk];let lt:(BE M h r).1+k<owner.size:=by lia
   rw[Vf,kB lt,Option.getD_some];unfold Fy;rw[kB lt];cases owner[(BE M h r).1+k]with
   |none=>show⟨λ_ ξ=>Xi11 ξ λi z=>(nomatch z),λ_=>rfl⟩
   |some i=>show⟨λz=>(nomatch z),λz=>absurd ⟨i,rfl⟩ z⟩
  rw[SetTable.layClean.free];cases e:(List.range (SetTable.runEnd M (BE M h r).1+1-(BE M h r).1)).find? λk=>(owner.getD ((BE M h r).1+k) (some 0)).isNone with
  |some k=>
   let⟨p1,p2,p3⟩:=List.find?_range_eq_some.mp e;let hk:k≤SetTable.runEnd M (BE M h r).1-(BE M h r).1:=by have:=aaP.mp p2;lia
   show⟨D7 M h r+k,by dsimp only;rw[RZ M h r hk],(iso k hk).mp p1,λq' hq=>?_⟩;by_cases c:q' < D7 M h r
   ·show h1 q' c
   ·have:=p3 (q'-D7 M h r) (by lia)
    let z:=mt (iso (q'-D7 M h r) (by lia)).mpr λy=>by rw[y]at this;cases this
    rw[show D7 M h r+(q'-D7 M h r)=q' by lia]at z;show Classical.not_not.mp z
  |none=>
   let p:=List.find?_range_eq_none.mp e;show iW hs fuel (r+1) (λq hq=>?_) (by let⟨q,hq,n⟩:=h2;show⟨q,by rw[show r+1+fuel=r+(fuel+1)by lia];show hq,n⟩);by_cases c:q<D7 M h r
   ·show h1 q c
   ·let hq:q<D7 M h r+(SetTable.runEnd M (BE M h r).1-(BE M h r).1)+1:=hq
    have:=p (q-D7 M h r) (by lia);let z:=mt (iso (q-D7 M h r) (by lia)).mpr λy=>by rw[y]at this;cases this
    rw[show D7 M h r+(q-D7 M h r)=q by lia]at z;show Classical.not_not.mp z
structure JQ(M:Nat)(hs:List Int)(k:Nat)(owner:Array (Option Nat)):Prop where
 size:owner.size=M+1
 at_:∀(j i:Nat),owner[j]?=some (some i)→i<k∧∃h,hs[i]?=some h∧∃q,road M h q=j∧∀r<q,Fy owner (road M h r)
 all:∀i<k,∃j:Nat,owner[j]?=some (some i)
 one:∀(j j' i:Nat),owner[j]?=some (some i)→owner[j']?=some (some i)→j=j'
def rL(M:Nat)(hs:List Int):JQ M hs 0 (Array.replicate (M+1) none):=by
 let no:∀(j i:Nat),¬(Array.replicate (M+1) (none:Option Nat))[j]?=some (some i):=λj i z=>by
  rw[Array.getElem?_replicate]at z;split at z<;>cases z
 show⟨by simp,λj i z=>absurd z (no j i),λi hi=>absurd hi (Ik _),λj j' i z=>absurd z (no j i)⟩
def tJ(o:JQ M hs k owner)(l:k≤M):∃j,j≤M∧¬Fy owner j:=by
 show OC λz=>?_;let q:∀j≤M,Fy owner j:=λj hj=>OC λw=>z ⟨j,hj,w⟩;let key:∀(n:Nat) (f:Nat→Nat),(∀j<n,f j<k)→(∀a<n,∀b<n,f a=f b→a=b)→n≤k:=λn f h1 h2=>by
  let nd:((List.range n).map f).Nodup:=by
   show ab1.mpr ((Kw (n:=n)).imp_of_mem λ{a b} ha hb ne e=>ne (h2 a (aaP.mp ha) b (aaP.mp hb) e))
  let gen:∀(m:Nat) {xs:List Nat},xs.Nodup→(∀x∈xs,x<m)→xs.length≤m:=λm=>by
   induction m with
   |zero=>intro xs _ h;cases xs with|nil=>show Ap _|cons x r=>have:=h x Ej;lia
   |succ m ih=>
    intro xs nd h;let h1:=ih (xs:=xs.erase m) (nd.erase _) λx hx=>by
     let⟨ne,hx⟩:=nd.mem_erase_iff.mp hx;have:=h x hx;lia
    have:xs.length≤(xs.erase m).length+1:=by
     by_cases c:m∈xs
     ·rw[QD c];lia
     ·rw[List.erase_of_not_mem c];lia
    lia
  have:=gen k nd λx hx=>by
   let⟨a,ha,rfl⟩:=aai.mp hx;show h1 a (aaP.mp ha)
  rwa[AF,FK]at this
 have:=key (M+1) (λj=>(owner[j]?.getD none).getD 0) (λj hj=>by
  let⟨i,e⟩:=q j (by lia);show(owner[j]?.getD none).getD 0<k
  rw[e];show(o.at_ j i e).1) λa ha b hb e=>by
  let⟨i,ea⟩:=q a (by lia);let⟨i',eb⟩:=q b (by lia);let e:(owner[a]?.getD none).getD 0=(owner[b]?.getD none).getD 0:=e;rw[ea,eb]at e;let e:i=i':=e;subst e;show o.one _ _ _ ea eb
 lia
def abO(hM:HF M)(o:JQ M hs k owner)(l:k≤M)(hh:hs[k]?=some h):∃j,SetTable.layClean.free M owner (SetTable.turns M) (SetTable.bits h%(M+1)) (SetTable.bits h)=some j∧JQ M hs (k+1) (owner.setIfInBounds j (some k)):=by
 let⟨j0,hj0,f0⟩:=tJ o l;have:∃r,r≤M+13∧(BE M h r).1=j0:=by
  let hi:=(K0 M h 13).1;rcases hM with rfl|rfl
  ·let⟨r,hr,e⟩:=(by done:∀i<8,∀j<8,∃r<8,J6 7 r i=j) _ (show(BE 7 h 13).1<8 by lia) j0 (by lia)
   show⟨13+r,by lia,by rw[Kz];show e⟩
  ·let⟨r,hr,e⟩:=TI _ (show(BE 31 h 13).1<32 by lia) j0 (by lia)
   show⟨13+r,by lia,by rw[Kz];show e⟩
 let⟨r,hr,er⟩:=this;let e0:road M h (D7 M h r)=j0:=by have:=RZ M h r (m:=0) (E6 _);rw[Kf]at this;rw[this,Kf,er]
 let⟨q,e1,nf,bf⟩:=iW (M:=M) (h:=h) o.size (SetTable.turns M) 0 (λq hq=>absurd hq (Ik _)) ⟨D7 M h r,eS M h (by unfold SetTable.turns;lia),by rw[e0];show f0⟩;show⟨road M h q,e1,?_⟩;let jl:=lK M h q;let js:road M h q<owner.size:=by rw[o.size];lia
 let eq:∀j,(owner.setIfInBounds (road M h q) (some k))[j]?=if road M h q=j then some (some k)else owner[j]? := λj=>by
  rw[Array.getElem?_setIfInBounds];by_cases c:road M h q=j
  ·rw[AO c,AO c,AO (by lia)]
  ·rw[AL c,AL c]
 let up:∀j,Fy owner j→Fy (owner.setIfInBounds (road M h q) (some k)) j:=λj ξ=>Xi11 ξ λi e=>by
  unfold Fy;rw[eq j];by_cases c:road M h q=j
  ·rw[AO c];show⟨k,rfl⟩
  ·rw[AL c];show⟨i,e⟩
 let VO:∀j i,owner[j]?=some (some i)→i≠k:=λj i e=>BO (o.at_ j i e).1;show⟨by rw[Array.size_setIfInBounds,o.size],λj i e=>?_,λi hi=>?_,λj j' i e e'=>?_⟩
 ·rw[eq j]at e
  by_cases c:road M h q=j
  ·rw[AO c]at e
   cases e;show⟨GX _,h,hh,q,c,λr hr=>up _ (bf r hr)⟩
  ·rw[AL c]at e
   let⟨a,⟨h',b,⟨q',e2,f⟩⟩⟩:=o.at_ j i e;show⟨by lia,h',b,q',e2,λr hr=>up _ (f r hr)⟩
 ·by_cases c:i=k
  ·show⟨road M h q,by rw[eq,AO rfl,c]⟩
  ·let⟨j,e⟩:=o.all i (by lia)
   show⟨j,?_⟩;rw[eq j,AL λz=>nf (by rw[z];show⟨i,e⟩),e]
 ·rw[eq j]at e
  rw[eq j']at e';by_cases c:road M h q=j<;>by_cases c':road M h q=j'
  ·lia
  ·rw[AO c]at e;rw[AL c']at e'
   cases e;show absurd rfl (VO _ _ e')
  ·rw[AL c]at e;rw[AO c']at e'
   cases e';show absurd rfl (VO _ _ e)
  ·rw[AL c]at e;rw[AL c']at e'
   show o.one _ _ _ e e'
def oQ(hM:HF M)(l:hs.length≤M+1):∃owner,SetTable.layClean M hs.toArray=some owner∧JQ M hs hs.length owner:=by
 let key:∀(r:List Int) (k:Nat) (owner:Array (Option Nat)),JQ M hs k owner→k+r.length=hs.length→(∀i,r[i]?=hs[k+i]?)→∃Ek,r.foldl (λacc h=>do
  let(owner,k) ←acc
  let j ←SetTable.layClean.free M owner (SetTable.turns M) (SetTable.bits h%(M+1)) (SetTable.bits h)
  pure (owner.setIfInBounds j (some k),k+1)) (some (owner,k))=some (Ek,hs.length)∧JQ M hs hs.length Ek:=λr=>by
  induction r with
  |nil=>
   intro k owner o hl _;rw[Po,Kf]at hl;show⟨owner,by rw[←hl];rfl,by rw[←hl];show o⟩
  |cons h r ih=>
   intro k owner o hl hr;rw[Bb]at hl;let hh:=hr 0;let⟨j,e,o'⟩:=abO hM (h:=h) o (by lia) (by rw[Kf]at hh;rw[←hh];rfl);let⟨ow,e2,o2⟩:=ih (k+1) _ o' (by lia) λi=>by
    have:=hr (i+1);rw[show k+(i+1)=k+1+i by lia]at this;rw[←this];rfl
   show⟨ow,?_,o2⟩;rw[R4];have:(do
    let(owner,k) ←(some (owner,k):Option (Array (Option Nat)×Nat))
    let j ←SetTable.layClean.free M owner (SetTable.turns M) (SetTable.bits h%(M+1)) (SetTable.bits h)
    pure (owner.setIfInBounds j (some k),k+1))=some (owner.setIfInBounds j (some k),k+1):=by
    simp only[Option.bind_eq_bind,RU];rw[e];rfl
   rw[this];show e2
 let⟨ow,e,o⟩:=key hs 0 _ (rL M hs) (by lia) λi=>by rw[Nat.zero_add]
 show⟨ow,?_,o⟩;unfold SetTable.layClean;rw[←Array.foldl_toList,List.toList_toArray]at *
 rw[e];rfl
end L2
namespace L2
open PySem PySem.Spec PyProof.Rows
variable {t:SetTable}{wanted M j:Nat}{a:Addr}{P: Program}{w: World}{h:Heap}{hf:List AB→Int}{L:List (Addr×List AB)}{g:Nat→Addr×List AB}{pl:List Nat}{q:Addr×List AB}{A: Around}{E: Value→Shared→Prop}{s: Shared}
def TB(f:Nat→Option Nat):∀l:List Nat,l.filterMap (λj=>(f j).map λi=>(j,i))=(l.filter λj=>(f j).isSome).map λj=>(j,(f j).getD 0)
 |[]=>rfl
 |x::r=>by
  cases e:f x with
  |none=>rw[List.filterMap_cons_none (by rw[e];rfl),Mj (by rw[e];decide),TB f r]
  |some i=>rw[cI (b:=(x,i)) (by rw[e];rfl),KW (by rw[e];rfl),TB f r,Cq,e];rfl
def vH(hw:SetTable.sizeAbove wanted=32){hs:List Int}(l:hs.length≤31):
  ∃(t':SetTable) (pl:List Nat) (own:Nat→Nat),t.relaid hs.toArray wanted=some (t',(pl.map own).toArray)∧qO t' 31 pl∧(pl.map own).Perm (List.range hs.length)∧∀j∈pl,∃h,hs[own j]?=some h∧∃q,road 31 h q=j∧∀r<q,road 31 h r∈pl:=by
 let⟨owner,e,o⟩:=oQ (M:=31) (.inr rfl) (hs:=hs) (by lia);let gd:∀j,owner.getD j none=owner[j]?.getD none:=λj=>by rw[Vf]
 let mem:∀j,j∈(List.range 32).filter (λj=>(owner.getD j none).isSome)↔Fy owner j:=λj=>by
  rw[aa9,aaP,gd];constructor
  ·intro⟨_,h⟩
   cases c:owner[j]? with
   |none=>rw[c]at h;cases h
   |some x=>cases x with
    |none=>rw[c]at h;cases h
    |some i=>show⟨i,c⟩
  ·intro⟨i,c⟩
   show⟨?_,by rw[c];rfl⟩;have:=(Array.getElem?_eq_some_iff.mp c).1;rw[o.size]at this;show this
 let own:∀j i,owner[j]?=some (some i)→(owner.getD j none).getD 0=i:=λj i c=>by rw[gd,c];rfl
 show Ps3 ({mask:=31,place:=((List.range 32).filter (λj=>(owner.getD j none).isSome)).toArray,dummies:=#[],finger:=t.finger,led:=t.led,moves:=t.movedTo 31,plain:=t.plain}) ((List.range 32).filter (λj=>(owner.getD j none).isSome)) (λj=>(owner.getD j none).getD 0) ⟨?_,⟨rfl,rfl,rfl,?_,λj hj=>?_⟩,?_,λj hj=>?_⟩
 ·unfold SetTable.relaid SetTable.laid
  rw[hw];show(do let owner ←SetTable.layClean 31 hs.toArray;_)=_
  rw[e];show some _=some _
  have:=TB (λj=>owner.getD j none) (List.range (31+1));rw[this,CU,CU];let e1:((List.range (31+1)).filter λj=>(owner.getD j none).isSome).map (Prod.fst ∘ λj=>(j,(owner.getD j none).getD 0))=(List.range (31+1)).filter λj=>(owner.getD j none).isSome:=by
   show List.map (λj=>j) _=_
   show List.map_id' _
  rw[e1];rfl
 ·show List.pairwise_lt_range.sublist Qy
 ·have:=aaP.mp (aa9.mp hj).1;lia
 ·show(List.perm_ext_iff_of_nodup ?_ Kw).mpr λi=>?_
  ·show ab1.mpr (((Kw (n:=32)).sublist Qy).imp_of_mem λ{a b} ha hb ne z=>?_)
   let⟨i,ea⟩:=(mem a).mp ha;let⟨i',eb⟩:=(mem b).mp hb;rw[own _ _ ea,own _ _ eb]at z;subst z;show ne (o.one _ _ _ ea eb)
  ·rw[aai,aaP]
   constructor
   ·intro⟨j,hj,rfl⟩
    let⟨i,c⟩:=(mem j).mp hj;rw[own _ _ c];show(o.at_ _ _ c).1
   ·intro hi
    let⟨j,c⟩:=o.all i hi;show⟨j,(mem j).mpr ⟨i,c⟩,own _ _ c⟩
 ·let⟨i,c⟩:=(mem j).mp hj
  let⟨_,⟨h,hh,⟨q,e2,f⟩⟩⟩:=o.at_ _ _ c;show⟨h,by show hs[(owner.getD j none).getD 0]?=_;rw[own _ _ c];show hh,q,e2,λr hr=>(mem _).mpr (f r hr)⟩
def abt(a:Addr)(wanted:Nat):setRelay a wanted=(do
  let(es,_,t) ←setState a
  if SetTable.sizeAbove wanted>sizeLine then unsupported "set:memory"
  let(es,t) ←(do
     let some (t,order):=t.relaid (es.map (·.1)) wanted|unsupported "internal:set-table-without-room"
     let Gq:=order.filterMap (es[·]?)
     if Gq.size != es.size then unsupported "internal:set-table-lost-an-element"
     pure (Gq,t))
  storeSet a es t):=rfl
section
def yY{o:Obj}{es Gq:Array (Int×Value)}{ep:Nat}{t':SetTable}{order:Array Nat}{Q:Unit→Shared→Prop}(hg:s.heap.get? a=some o)(hd:o.data=.set es ep t)(hf:t.fits es.size=true)
  (hw:¬SetTable.sizeAbove wanted>sizeLine) (hr:t.relaid (es.map (·.1)) wanted=some (t',order)) (he:order.filterMap (es[·]?)=Gq) (hz:Gq.size=es.size) (h:wpAny (model P w) A (storeSet a Gq t') Q E s):wpAny (model P w) A (setRelay a wanted) Q E s:=by
 rw[abt];show A9 (LS hg hd hf ?_);dsimp only;rw[AL hw];show A9 ?_;rw[hr];dsimp only;rw[he,hz,AL (by simp)];show AQ ?_;show h
end
abbrev setG(hf:List AB→Int)(a:Addr)(L:List (Addr×List AB))(h:Heap):Prop:=∃(o:Obj) (ep:Nat) (t:SetTable) (M:Nat) (pl:List Nat) (g:Nat→Addr×List AB),
 h.get? a=some o∧o.ExactSet∧o.data=.set (CS hf pl g) ep t∧qO t M pl∧HF M∧(M=7→pl.length≤4)∧pl.length≤18∧LV hf M pl g∧(pl.map g).Perm L
def de{P:Program}{w:World}{H:A5}(q:setG hf a L h):bU P w H h a (.ext (setG hf a L)):=by
 show⟨q,?_,λh1 h2 q1 k=>?_⟩
 ·let⟨o,_,_,_,_,_,e,_⟩:=q;show⟨o,e⟩
 ·let⟨o,ep,t,M,pl,g,e,r⟩:=q1;show Ps6 o ep t M pl g ⟨k o e,r⟩
def bQ{n:Nat}(hM:HF M)(h7:M=7→n≤4)(RA:n≤18):n≤M:=by rcases hM with rfl|rfl<;>lia
def setG.Vv(q:setG hf a L h):GK a L.length h:=by
 let⟨o,ep,t,M,pl,g,e,x,d,ht,hM,h7,RA,hr,hp⟩:=q;let hl:pl.length=L.length:=by rw[←hp.length_eq,AF]
 show Ps4 o _ ep t ⟨e,x,d,by rw[HK];show ht.fits (bQ hM h7 RA),by rw[HK,hl]⟩
def tD{led:Bool}(e:h.get? a=some {cls:=.type "set",dict:=none,data:=.set #[] 0 (.fresh 0 0 led)}):setG hf a [] h:=
 ⟨_,0,_,7,[],λ_=>(0,[]),e,⟨rfl,rfl,rfl⟩,rfl,⟨rfl,rfl,rfl,List.Pairwise.nil,λ_ h=>(nomatch h)⟩,.inl rfl,λ_=>E6 _,E6 _,λ_ h=>(nomatch h),.nil⟩
def gF{α:Type}(f:Nat→Addr×List AB→α)(hf:j∉pl):
  (E0 pl j).map (λi=>f i (Ga g j q i))=(pl.map λi=>f i (g i)).take (Bh pl j)++f j q::(pl.map λi=>f i (g i)).drop (Bh pl j):=by
 unfold E0;rw[AZ,Cq,eR f (λe=>hf (Hi e)),eR f (λe=>hf (Hc e)),M3,Mn];unfold Ga;rw[AO rfl]
def wQ(hb:j∉pl):
  SetTable.insertAt (CS hf pl g) (Bh pl j) (hf q.2,.ref q.1)=CS hf (E0 pl j) (Ga g j q):=by
 apply Array.ext'
 rw[SetTable.toList_insertAt];unfold CS;rw[gF (λ_ p=>(hf p.2,Value.ref p.1)) hb]
def sQ{K:Nat}(hr:LV hf M pl g)(hK:road M (hf q.2) K∉pl)(hb:∀i<K,road M (hf q.2) i∈pl):
  LV hf M (E0 pl (road M (hf q.2) K)) (Ga g (road M (hf q.2) K) q):=by
 intro j hj;unfold Ga;by_cases c:j=road M (hf q.2) K
 ·rw[AO c]
  show⟨K,c.symm,λi hi=>nR.mpr (.inr (hb i hi))⟩
 ·rw[AL c]
  let⟨k,e,r⟩:=hr j ((nR.mp hj).resolve_left c);show⟨k,e,λi hi=>nR.mpr (.inr (r i hi))⟩
def xf(hb:j∉pl)(hp:(pl.map g).Perm L):((E0 pl j).map (Ga g j q)).Perm (q::L):=by
 let e:=gF (λ_ p=>p) (g:=g) (q:=q) hb;rw[e];show List.perm_middle.trans (.cons _ ?_);rw[Jn];show hp
def fA{α β:Type}{f:α→Option β}{g:α→β}:∀{l:List α},(∀x∈l,f x=some (g x))→l.filterMap f=l.map g
 |[],_=>rfl
 |x::r,h=>by rw[cI (h x Ej),Cq,fA λy hy=>h y (Cn _ hy)]
def vA(hw:SetTable.sizeAbove wanted=32)(l:pl.length≤18)(hp:(pl.map g).Perm L):
  ∃(t':SetTable) (order:Array Nat) (BM:List Nat) (g':Nat→Addr×List AB),t.relaid ((CS hf pl g).map (·.1)) wanted=some (t',order)∧order.filterMap ((CS hf pl g)[·]?)=CS hf BM g'∧qO t' 31 BM∧BM.length=pl.length∧LV hf 31 BM g'∧(BM.map g').Perm L:=by
 let e0:(CS hf pl g).map (·.1)=(pl.map λj=>hf (g j).2).toArray:=by
  unfold CS;rw[List.map_toArray,CU];rfl
 let⟨t',BM,own,e,T,p,q⟩:=vH (t:=t) hw (hs:=pl.map λj=>hf (g j).2) (by rw[AF];lia);rw[AF]at p;let lt:∀j∈BM,own j<pl.length:=λj hj=>aaP.mp (p.mem_iff.mp (List.mem_map_of_mem hj));show Ps4 t' _ BM (λj=>g (pl.getD (own j) 0)) ⟨by rw[e0];show e,?_,T,?_,λj hj=>?_,?_⟩
 ·apply Array.ext'
  rw[Array.toList_filterMap,List.toList_toArray,List.filterMap_map];unfold CS;show(fA λj hj=>?_);have:=lt j hj;show((pl.map λj=>(hf (g j).2,Value.ref (g j).1)).toArray)[own j]?=_
  let Zr:pl.getD (own j) 0=pl[own j]:=by rw[DJ,BV this];rfl
  rw[JZ,Fo,BV this];show some _=some (hf (g (pl.getD (own j) 0)).2,Value.ref (g (pl.getD (own j) 0)).1)
  rw[Zr]
 ·have:=p.length_eq
  rwa[AF,FK]at this
 ·let⟨h,hh,⟨k,r1,r2⟩⟩:=q j hj
  have:=lt j hj;rw[Fo,BV this]at hh;cases hh;show⟨k,?_,λi hi=>?_⟩
  ·show road 31 (hf (g (pl.getD (own j) 0)).2) k=j
   rw[DJ,BV this];show r1
  ·show road 31 (hf (g (pl.getD (own j) 0)).2) i∈BM
   rw[DJ,BV this];show r2 i hi
 ·show List.Perm.trans ?_ hp
  let h1:=p.map λi=>g (pl.getD i 0);rw[CU]at h1;show h1.trans (List.Perm.of_eq ?_);show Ut (by rw[AF,AF,FK]) λi h1 h2=>?_;rw[AF]at h2;rw[List.getElem_map,List.getElem_map,List.getElem_range,DJ,BV h2];rfl
section
def qI{D b:Addr}{ks:List AB}{Q:xz}(hu:A.units+1<cLine)(hS:setG (tupleKind (AP P w)).hash D L s.heap)(hL:L.length≤17)
  (hk:(tupleKind (AP P w)).is s.heap ks b) (Y2:∀q∈L,(tupleKind (AP P w)).is s.heap q.2 q.1)
  (h:∀h' t',Heap.SameBut D s.heap h'→setG (tupleKind (AP P w)).hash D (Ex L (b,ks)) h'→Q .none {s with heap:=h',toks:=t'}):wpAny (model P w) A (call (.builtin "set.add") [.ref D,.ref b]) Q E s:=by
 let Zf:=hS;let⟨o,ep,t,M,pl,g,e,x,d,ht,hM,h7,RA,hr,hp⟩:=hS;let T6:=bQ hM h7 RA;let hl:pl.length=L.length:=by rw[←hp.length_eq,AF]
 let Fj:t.fits (CS (tupleKind (AP P w)).hash pl g).size=true:=by rw[HK];show ht.fits T6
 have AX  := λj hj=>Y2 _ (hp.mem_iff.mp (aai.mpr ⟨j,hj,rfl⟩));let Wb:ks∈L.map Prod.snd↔∃j∈pl,(g j).2=ks:=by
  constructor
  ·intro z
   let⟨q,hq,e⟩:=aai.mp z;let⟨j,hj,rfl⟩:=aai.mp (hp.mem_iff.mpr hq);show⟨j,hj,e⟩
  ·intro⟨j,hj,e⟩
   show aai.mpr ⟨g j,hp.mem_iff.mp (aai.mpr ⟨j,hj,rfl⟩),e⟩
 let⟨K,hK1,hK,hb⟩:=ht.first hM T6 ((tupleKind (AP P w)).hash ks);show Jf PySem.F.slot_set_add ⟨_,e,x.1⟩ PySem.F.entry_set_add ?_ (PySem.F.args_set_add_2 _ _);unfold Builtin.«set.add» Builtin.Frozenset.oneOther;simp only[List.isEmpty_nil,bind_assoc];unfold Builtin.Frozenset.addrOf setAdd;show A9 (AQ ?_)
 try dsimp only
 show A9 (AQ ?_)
 try dsimp only
 show A9 ?_;show Gl ?_;show A9 ((tupleKind (AP P w)).pyHash (Jm hu) hk ?_);unfold setAddHashed setAddHashedIn;show Gl (A9 (LS  e d Fj ?_));dsimp only;rw[AL (show ¬byScan (Value.ref b) (CS (tupleKind (AP P w)).hash pl g)=true from Cc)];unfold setSearch;show A9 (mW (s:={s with toks:=s.toks+_})    (hu) e d ht hM T6 hr AX hk hK hb ?_ ?_ K 0 100000 none (by lia) (by lia) (ht.start _) (λi hi=>absurd hi (Ik _)))
 ·intro hn
  dsimp only;show A9 (LS  e d Fj ?_);dsimp only;let⟨NH,zJ⟩:=ht.put (lK M ((tupleKind (AP P w)).hash ks) K) hK;let Wj:∀(r:Bool),qO (if r=true then(t.put (road M ((tupleKind (AP P w)).hash ks) K)).1 else {(t.put (road M ((tupleKind (AP P w)).hash ks) K)).1 with plain:=false}) M (E0 pl (road M ((tupleKind (AP P w)).hash ks) K)):=λr=>by
   cases r
   ·show⟨NH.1,NH.2,NH.3,NH.4,NH.5⟩
   ·show NH
  let NC:(E0 pl (road M ((tupleKind (AP P w)).hash ks) K)).length=L.length+1:=by rw[acv,hl]
  let en:Ex L (b,ks)=(b,ks)::L:=by
   unfold Ex;rw[AL];intro z;let⟨q,hq,eq⟩:=abp.mp z;let⟨j,hj,rfl⟩:=aai.mp (hp.mem_iff.mpr hq);show hn j hj (DN eq)
  rw[zJ,show(SetTable.insertAt (CS (tupleKind (AP P w)).hash pl g) (Bh pl (road M ((tupleKind (AP P w)).hash ks) K)) ((tupleKind (AP P w)).hash ks,Value.ref b))=_ from wQ (q:=(b,ks)) hK];let pm:=xf (q:=(b,ks)) hK hp;let fin:∀t2:SetTable,qO t2 M (E0 pl (road M ((tupleKind (AP P w)).hash ks) K))→∀tk,wpAny (model P w) A.in1 (do
    storeSet D (CS (tupleKind (AP P w)).hash (E0 pl (road M ((tupleKind (AP P w)).hash ks) K)) (Ga g (road M ((tupleKind (AP P w)).hash ks) K) (b,ks))) t2
    if(!false&&t2.tooFull)=true then do setRelay D (SetTable.grown ((CS (tupleKind (AP P w)).hash pl g).size+1));pure true else pure true) (λr s'=>∃h',Heap.SameBut D s.heap h'∧setG (tupleKind (AP P w)).hash D (Ex L (b,ks)) h'∧s'={s with heap:=h',toks:=tk}) E {s with toks:=tk}:=by
   intro t2 h2 tk;show A9 (wpAny_storeSet_of (s:={s with toks:=tk}) e d ?_ (by rw[HK,NC];show D6 (by lia:L.length+1≤18) (by decide)));let Qi:=Qv (Obj.putSet (CS (tupleKind (AP P w)).hash (E0 pl (road M ((tupleKind (AP P w)).hash ks) K)) (Ga g (road M ((tupleKind (AP P w)).hash ks) K) (b,ks))) t2) e (by rw[putSet_of _ t2 d];rfl);rw[putSet_of _ t2 d]at Qi;rw[h2.full,en];by_cases c5:M*3≤(E0 pl (road M ((tupleKind (AP P w)).hash ks) K)).length*5
   ·let Zh:M=7∧L.length=4:=by
     rcases hM with rfl|rfl
     ·have:=h7 rfl;lia
     ·lia
    let⟨m7,l4⟩:=Zh;rw[BU c5,AO (by simp)];let⟨t',order,BM,g',r1,r2,T',l',R',p'⟩:=vA (hf:=(tupleKind (AP P w)).hash) (t:=t2) (wanted:=SetTable.grown ((CS (tupleKind (AP P w)).hash pl g).size+1)) (by rw[HK,hl,l4];decide) (by lia) pm;let sz:(CS (tupleKind (AP P w)).hash BM g').size=(CS (tupleKind (AP P w)).hash (E0 pl (road M ((tupleKind (AP P w)).hash ks) K)) (Ga g (road M ((tupleKind (AP P w)).hash ks) K) (b,ks))).size:=by rw[HK,HK,l']
    show A9 (yY Qi rfl (by rw[HK];show h2.fits (by lia)) (by rw[HK,hl,l4];decide) r1 r2 sz ?_);show wpAny_storeSet_of Qi rfl ?_ (by rw[HK,l',NC,l4];decide);let Wd:=Qv (Obj.putSet (CS (tupleKind (AP P w)).hash BM g') t') Qi (by rw[putSet_of _ t' rfl];rfl);rw[putSet_of _ t' rfl]at Wd;show AQ ⟨_,(M0 s.heap D _).trans (M0 _ D _),?_,rfl⟩;show Ps6 _ _ t' 31 BM g' ⟨Wd,⟨x.1,x.2.1,x.2.2⟩,rfl,T',.inr rfl,λz=>(nomatch z),by lia,R',p'⟩
   ·rw[Ck c5,AL (by simp)]
    show AQ ⟨_,M0 s.heap D _,?_,rfl⟩;show Ps6 _ _ t2 M _ _ ⟨Qi,⟨x.1,x.2.1,x.2.2⟩,rfl,h2,hM,λz=>by subst z;lia,by lia,sQ (q:=(b,ks)) hr hK hb,pm⟩
  let fin2:∀t2:SetTable,qO t2 M (E0 pl (road M ((tupleKind (AP P w)).hash ks) K))→∀tk,wpAny (model P w) A.in1 (do
    storeSet D (CS (tupleKind (AP P w)).hash (E0 pl (road M ((tupleKind (AP P w)).hash ks) K)) (Ga g (road M ((tupleKind (AP P w)).hash ks) K) (b,ks))) t2
    if(!false&&t2.tooFull)=true then do setRelay D (SetTable.grown ((CS (tupleKind (AP P w)).hash pl g).size+1));pure true else pure true)
    (λa s'=>wpAny (model P w) A.in1 (ret Value.none) (λfin s'=>∃v,fin=Fin.done (Flow.ret v)∧Q v s') E s') E {s with toks:=tk}:=
   λt2 h2 tk=>Be (fin t2 h2 tk) (λr s' ξ=>Xi13 ξ λh' a b c=>by subst c;show AQ ⟨_,rfl,h _ _ a b⟩) λ_ _ q=>q
  split
  ·show A9 (qc hk λr=>?_)
   show fin2 _ (Wj r) _
  ·show A9 (AQ ?_)
   show fin2 _ (Wj true) _
 ·intro hy
  dsimp only;let en:Ex L (b,ks)=L:=by
   unfold Ex;let⟨j,hj,eq⟩:=hy;rw[AO (abp.mpr ⟨g j,hp.mem_iff.mp (aai.mpr ⟨j,hj,rfl⟩),BU eq⟩)]
  show AQ (AQ ⟨_,rfl,h s.heap _ ⟨rfl,λb _=>rfl⟩ (by rw[en];show Zf)⟩)
end
abbrev eY(hf:List AB→Int)(wi:DW)(g:DV)(te:AY)(own:List Str)(cap:List (Nat×Str)):AY:=λσ H Q=>wi σ H λJ H1=>∀D,H1 D=none→
 ∃W:Nat→Nat→St→List (Addr×List AB)→A5→Prop,(∃m,W 0 m (FO own cap σ) [] (AM H1 D (.ext (setG hf D []))))∧∀i m σ' L H',W i m σ' L H'→H' D=some (.ext (setG hf D L))∧
  ((J.stop i H'∧L.length≤18∧Q (.ref D) (AM H' D (.ext (GK D L.length))))∨(J.go i H'∧L.length≤17∧∃N:List (Addr×List AB)→St→A5→Prop,(∀L' σ H,N L' σ H→∃m',m' < m∧W (i+1) m' σ L' H)∧
   ∀x H2,J.qR i H' x H2→g x σ' H2 λσ3 H3=>te σ3 H3 λy H5=>∃(b:Addr) (ks:List AB),y=.ref b∧H5 b=some (.tup (ks.map BI))∧(∀q∈L,H5 q.1=some (.tup (q.2.map BI)))∧H5 D=some (.ext (setG hf D L))∧
   N (Ex L (b,ks)) σ3 (AM H5 D (.ext (setG hf D (Ex L (b,ks)))))))
section
variable {X: Cx}{scope: Scope}{cl: List (Str×Addr)}{own: List Str}{cap: List (Nat×Str)}{tg iter elt: Expr}{wi: DW}{g: DV}{te: AY}{pos: Pos}
def adB(hu:X.A.units+1<cLine)(c:c9 X scope cl own cap)(hc:X.calm=true)(hi:PI X tg iter wi)
  (hg:∀C s H fp,PG (BK X (own++cap.map (·.2)) scope cl C s H fp λ_ _=>False) tg g)
  (he:∀C s H fp,PE (BK X (own++cap.map (·.2)) scope cl C s H fp λ_ _=>False) elt te) (hs:∀x,foldedSetIterable iter X.env x=pure x:=by intro _;rfl) :
  PE X (.SetComp elt [⟨tg,iter,[],0⟩] scope pos) (eY (tupleKind (AP X.prog X.w)).hash wi g te own cap):=by
 show .mk ?_;intro v4 s σ H Q I h;show wpAny _ X.A (comprehension (.SetComp elt [⟨tg,iter,[],0⟩] scope pos) scope X.env _ (newSet (.type "set")) false (eval iter X.env)) _ _ s
 show KG  rfl hs c.xQ c.kind c.names (AI (hi v4 s σ H _ I h) λv s1 h1=>AI h1 λJS s2 h2=>?_);let⟨it,fp,tn,J,H2,e,I2,T,oO,f2,hw⟩:=h2;subst e;show wpAny_newSet_of (knd:=strKind X.prog X.w) λled hS=>Lw c.cell (by intro y hy;simp at hy) (λh₁ iF gY=>?_) c.kind;dsimp only at iF gY ⊢;generalize hO:({cls:=.type "set",dict:=none,data:=.set #[] 0 (.fresh 0 0 led)}:Obj)=O at hS iF gY ⊢;let hsz:(s2.heap.push O).objs.size=s2.heap.objs.size+1:=Fe _ _;have kk  := λb o e=>gY.extBut b o (by rw[hsz];show BO (Hm (B3 e))) (B1 _ (B1 _ e));let MM:setG (tupleKind (AP X.prog X.w)).hash s2.heap.objs.size [] h₁:=tD  (by rw[hO];show gY.extBut _ _ (by rw[hsz];show BO (GX _)) (B1 _ (D8 _ (by rw[←hO];rfl))));rw[hsz]at iF ⊢;let d0:∀b∈fp,b<s2.heap.objs.size:=λb hb=>by
  let⟨o,e,_⟩:=T.obj _ _ oO b hb;show B3 e
 let⟨W,⟨m0,w0⟩,turn⟩:=hw s2.heap.objs.size I2.fresh;let J1:=NX (E:=λ_ _=>False) c I2 f2 d0 (tk:=s2.toks+([]:List (Str×Value)).length) kk (de MM) iF;generalize fi:BK X (own++cap.map (·.2)) scope cl (s2.heap.objs.size+1) s2 H2 fp (λ_ _=>False)=X' at J1;have Iu  := fi ▸ hg _ _ _ _;have Qk  := fi ▸ he _ _ _ _;let pX:X'.prog=X.prog:=by rw[←fi];rfl
 let wX:X'.w=X.w:=by rw[←fi];rfl
 let kX:X'.K=X.K:=by rw[←fi];rfl
 let aX:X'.A=X.A:=by rw[←fi];rfl
 let cX:X'.calm=true:=by rw[←fi];show hc
 let nX:X'.env=compEnvC scope cl (s2.heap.objs.size+1) X.env:=by rw[←fi];rfl
 let xX:X'.xe=λ_ _=>False:=by rw[←fi];rfl
 let fX:∀b∈fp,∀{H':A5},H' b=none→DP X' [] H' b:=λb hb {H'} hn=>by
  let o1:=(GI (E:=λ_ _=>False) c I2 f2 d0 (C:=s2.heap.objs.size+1) (Bk _)).Gn b hb;let o2:=(GI (E:=λ_ _=>False) c I2 f2 d0 (C:=s2.heap.objs.size+1) (Bk _)).qL b hb;rw[←fi];show⟨hn,o1.1,o2,.inl hb,o1.2,λp hp=>absurd (show p∈([]:ac)from hp) (by simp)⟩
 let Iy:∀D C s' H' m,Inv X v4 σ H' s'→DP X v4 H' C→s'.heap.Ns C m→Q (.ref D) H'→compPost (model X.prog X.w) X.A X.xe none (Bl X v4 σ Q) (.ref D) C (.ok .next) s':=by
  intro D C s' H' m I' hC hm q;show⟨m,hm,λh' fV=>Ps2 (.ref D) H' ⟨?_,rfl,q⟩⟩;show I'.turned (t':=s'.toks) (λb o hb e=>(fV.2 b hb).trans e) hC.1 hC.2.1 hC.2.2.2.1 hC.2.2.2.2.1 hC.2.2.2.2.2
 let fin:∀{σ':St} {H':A5} {s':Shared},Inv X' [] σ' H' s'→Q (.ref s2.heap.objs.size) H'→compPost (model X.prog X.w) X.A X.xe none (Bl X v4 σ Q) (.ref s2.heap.objs.size) (s2.heap.objs.size+1) (.ok .next) s':=λ{σ' H' s'} J' q=>by
  rw[←fi]at J';let⟨A1,A2⟩:=N0 I2 f2 (Bk _) J';let⟨m,hm,_⟩:=J'.loc;show Iy _ _ s' H' m A1 A2 hm q
 let loop:codeAny (model X.prog X.w) X.A (.compLoop (.SetComp elt [⟨tg,iter,[],0⟩] scope pos) 0 (.ref it) (.ref s2.heap.objs.size) (compEnvC scope cl (s2.heap.objs.size+1) X.env)) (compPost (model X.prog X.w) X.A X.xe none (Bl X v4 σ Q) (.ref s2.heap.objs.size) (s2.heap.objs.size+1))
   {s2 with heap:=h₁,toks:=s2.toks+([]:List (Str×Value)).length}:=by
  show iU (λn s'=>∃i σ' z H',Inv X' [] σ' H' s'∧tn i s'.heap∧(∀b∈fp,H' b=none)∧W i n σ' z H') ?_ m0
   ⟨0,_,[],_,J1,T.keep _ _ _ oO λb _ o e=>kk b o e,λb hb=>by rw[B0 (BO (d0 b hb))];show(f2 b hb).1,w0⟩
  intro n s3⟨i,σ3,z,H3,I3,wN,xI,w3⟩;let⟨NJ,w4⟩:=turn i n σ3 z H3 w3;rw[←nX,←aX,←pX,←wX];let iR:∀{α:Type} {t:Sem α} {Q1:α→Shared→Prop} {E1:xz} {s:Shared},wpAny (model X'.prog X'.w) X'.A t Q1 X'.xe s→wpAny (model X'.prog X'.w) X'.A t Q1 E1 s:=λ{α t Q1 E1 s} h=>by
   rw[xX]at h;show Be h (λ_ _ q=>q) λ_ _ f=>f.elim
  rcases w4 with⟨stop,hz,qn⟩|⟨go,hz,N,hN,step⟩
  ·let d:=T.done X' pX wX kX cX i [] s3 σ3 H3 X'.xe I3 (λb hb=>fX b hb (xI b hb)) wN stop
   rw[←pX,←wX]at d;show iR (AI d λr s4 ξ=>Xi02 ξ λhr I4=>?_);subst hr;let VH:=(I4.bV _ _ NJ).1;let I5:=I4.write (x:=s2.heap.objs.size) (e:=s2.heap.objs.size) (o:=.ext (GK s2.heap.objs.size z.length)) (h':=s4.heap) (t':=s4.toks) (by rw[NJ];show trivial) (.inl rfl) (λb' u hb hu=>hu) (by let⟨o,_,_,_,e,_⟩:=setG.Vv VH;show⟨o,e⟩) (vk (setG.Vv VH));let f4:=fin I5 qn;rw[←pX,←wX,←aX]at f4;show f4
  ·let d:=T.item X' pX wX kX cX i [] s3 σ3 H3 X'.xe I3 (λb hb=>fX b hb (xI b hb)) wN go
   rw[←pX,←wX]at d;show iR (AI d λr s4 ξ=>Xi12 ξ λu hr h4=>?_);subst hr;show iR (AI h4 λ_ s5 ξ=>Xi25 ξ λx H5 I5 r5 y5 rK Fu=>?_);let Gb:=I5.pinned (λb hb=>fX b hb (Fu b hb)) (T.obj _ _ rK);let again:∀{σ7:St} {H7:A5} {s7:Shared},∀{L7:List (Addr×List AB)},Inv X' ([]++Hs fp s5.heap) σ7 H7 s7→N L7 σ7 H7→
     ∃m,m<n∧∃i σ' z H',Inv X' [] σ' H' s7∧tn i s7.heap∧(∀b∈fp,H' b=none)∧W i m σ' z H':=λ{σ7 H7 s7 L7} I7 n7=>by
    let⟨m',hm,w7⟩:=hN _ _ _ n7;show⟨m',hm,i+1,σ7,L7,H7,I7.gJ,T.keep _ _ _ rK λb hb o e=>(I7.pin (b,o) (CQ _ (CQ _ (GP hb e)))).1,λb hb=>?_,w7⟩;let⟨o,e,d⟩:=T.obj _ _ rK b hb;show(I7.pin (b,o) (CQ _ (CQ _ (GP hb e)))).2.1
   show iR (AI (Iu _ s5 σ3 H5 x u _ Gb r5 (step x H5 y5)) λ_ s6 ξ=>Xi22 ξ λσ6 H6 I6 q6=>?_);show iR (AI (Qk _ s6 σ6 H6 _ I6 q6) λu8 s8⟨y8,H8,I8,r8,b8,Yr,e8,t8,a8,d8,q8⟩=>?_);subst e8;obtain rfl:u8=Value.ref b8:=r8;let SX:setG (tupleKind (AP X'.prog X'.w)).hash s2.heap.objs.size z s8.heap:=by rw[pX,wX];show(I8.bV _ _ d8).1
   show iR (qI (P:=X'.prog) (w:=X'.w) (by rw[aX];show hu) SX hz (Hv I8.bV t8) (λq hq=>Hv I8.bV (a8 q hq)) λh' tk' TV NI=>?_);rw[pX,wX]at NI;show again (I8.write (x:=s2.heap.objs.size) (e:=s2.heap.objs.size) (o:=.ext (setG (tupleKind (AP X.prog X.w)).hash s2.heap.objs.size (Ex z (b8,Yr)))) (by rw[d8];show trivial) (.inl rfl) (λb' u hb hu=>(TV.2 b' hb).trans hu) ?_ (de NI)) q8;let⟨o,_,_,_,_,_,e,_⟩:=NI;show⟨o,e⟩
 show fD loop (T.self X.A 0 _ _ _ (T.keep _ _ _ oO λb _ o e=>kk b o e) loop)
def acH:Fb X (.builtin "len") (λxs H Q=>∃(p:Addr) (n:Nat),xs=[.ref p]∧n≤18∧H p=some (.ext (GK p n))∧Q (.int n) H):=by
 intro v4 s σ H vs us Q I rv h;let⟨p,n,rfl,hn1,hp,q⟩:=h;let⟨u,rfl,ru⟩:=rv.one;cases ru;let⟨o,es,ep,t,e,ex,d,hf,hn⟩:=(I.bV p _ hp).1;show call_len_set e ex d hf (by lia) ⟨.int n,H,I.tok _,⟨s.toks+1,by rw[hn]⟩,q⟩
end
end L2
namespace L2
open PySem
def nB:bootBuiltins "set" = some (.type "set"):=by done
end L2
namespace Sto
abbrev wtA:=Int×Int
abbrev upd:=Int×Int×Int
end Sto
namespace L3
open PySem PySem.Spec L2
open PyProof.Rows hiding St
variable {Γ Γ1 Γ':AR}{a b p:Addr}{o o3 o2:O}{u:Value}{K:W.Frag}{vs:List V}{xs us ts:List T}{i k n kk:Nat}{v:V}{x t y:T}{H H':A5}{E: St→BG}{Z:EG}{Q:T→List T→Prop}{e tg c:Expr}{t' t0:Ci}{z qual:Str}{pos np eX: Pos}{ta:Ca}{tb: AN}{v6 elts:List Expr}{tc:Dc}{es: List Expr}{g:D5}{gs:K1}{te:AN}{pos' uW:Pos}{wi:I3}{N ps:List Str}{f:Value→Value→Sem Value}{C:Int→Int→Prop}{g3:Int→Int→T}{neg:Bool}{Tn: String}{l:List Addr}{st:Stmt}{fd:FuncData}{sp:Ay}{X: Cx}
inductive T where
 |non|bl (b:Bool)|int (i:Int)|str (z:Str)|tup (ts:List T)|ref (a:Addr)|ty (n:String)
 /-- a list N8 S6 changes (wM yL) -/
 |scr (K:W.Frag) (a:Addr) (ts:List T)
abbrev Jg(K:W.Frag)(H:A5)(a:Addr)(vs:List V):Prop:=(∃o,H a=some (.frz o (.lst vs))) ∨
 ∃(o:Obj) (bp:Array Value) (n:Nat),K.lookup a=some o∧o.cls=.type "list" ∧ o.dict=none∧o.data=.seq bp n∧bp.size≤sizeLine∧Vals vs bp.toList
inductive O where
 |lst (ts:List T)
 |ins (C dx:Addr) (fs:List (Str×T))
 |own (x:Addr)
 |dK (aA:List (AB×T))
 |ext (φ:Heap→Prop)
 /-- a dict Jo keys are tuples of ints and texts -/
 |dT (aA:List (List AB×T))
 /-- wM same,and wM dict of ints and texts,known to wM sign: walked,not changed -/
 |fzT (P:Program) (w:World) (o:Obj) (aA:List (List AB×T))
 |fzK (P:Program) (w:World) (o:Obj) (aA:List (AB×T))
 /-- wM table of a def N8 makes a Td -/
 |lam (q:Str) (pos:Pos)
abbrev AR:=Addr→Option O
abbrev up(Γ:AR)(a:Addr)(o:O):AR:=λb=>if b=a then some o else Γ b
def Au:up Γ a o a=some o:=by unfold up;rw[AO rfl]
def BR(h:b≠a):up Γ a o b=Γ b:=by unfold up;rw[AL h]
def QU{u:O}:up (up Γ a o) a u=up Γ a u:=by
 funext b;unfold up;split<;>rfl
def Tc{u:O}(h:Γ a=some o)(h':Γ b=some u)(d:o≠u):a≠b:=by
 intro e;subst e;rw[h]at h';show d (FJ h')
def F4(h:Γ a=some o)(h':Γ b=none):a≠b:=by
 intro e;subst e;rw[h]at h';cases h'
mutual
def R(H:A5):V→T→Prop
 |v,.non=>v=.non
 |v,.bl b=>v=.bl b
 |v,.int i=>v=.int i
 |v,.str z=>v=.str z
 |v,.ref a=>v=.ref a
 |v,.ty n=>v=.ty n
 |v,.tup ts=>∃a vs,v=.ref a∧H a=some (.tup vs)∧Rs H vs ts
 |v,.scr K a ts=>v=.ref a∧∃vs,Jg K H a vs∧Rs H vs ts
def Rs(H:A5):List V→List T→Prop
 |vs,[]=>vs=[]
 |vs,t::r=>∃v ws,vs=v::ws∧R H v t∧Rs H ws r
end
abbrev Tq(H H':A5):Prop:=(∀a vs,H a=some (.tup vs)→H' a=some (.tup vs))∧∀a o u,H a=some (.frz o u)→H' a=some (.frz o u)
section
variable {H H': A5}
def Tq.refl:Tq H H:=⟨λ_ _ h=>h,λ_ _ _ h=>h⟩
def Tq.trans{H1:A5}(a:Tq H H1)(b:Tq H1 H'):Tq H H':=⟨λx vs h=>b.1 x vs (a.1 x vs h),λx o u h=>b.2 x o u (a.2 x o u h)⟩
def Jg.mono(t:Tq H H')(h:Jg K H a vs):Jg K H' a vs:=by
 rcases h with⟨o,h⟩|h
 ·show .inl ⟨o,t.2 _ _ _ h⟩
 ·show .inr h
mutual
theorem R.mono(t:Tq H H'):∀{x:T} {v:V},R H v x→R H' v x
 |.non,v,h=>by unfold R at h ⊢;show h
 |.bl _,v,h=>by show h
 |.int _,v,h=>by show h
 |.str _,v,h=>by show h
 |.ref _,v,h=>by show h
 |.ty _,v,h=>by show h
 |.tup ts,v,h=>by
  let⟨a,vs,e,s,q⟩:=h;show Ps2 a vs ⟨e,t.1 a vs s,Rs.mono t q⟩
 |.scr K a ts,v,h=>by
  let⟨e,⟨vs,s,q⟩⟩:=h;show⟨e,vs,s.mono t,Rs.mono t q⟩
theorem Rs.mono(t:Tq H H'):∀{xs:List T} {vs:List V},Rs H vs xs→Rs H' vs xs
 |[],vs,h=>by unfold Rs at h ⊢;show h
 |x::r,vs,h=>by
  let⟨v,ws,e,p,q⟩:=h;show Ps2 v ws ⟨e,R.mono t p,Rs.mono t q⟩
end
def Rs.length:∀{xs:List T} {vs:List V},Rs H vs xs→vs.length=xs.length
 |[],vs,h=>by subst h;rfl
 |x::r,vs,h=>by
  let⟨v,ws,e,_,q⟩:=h;rw[e,Bb,Bb,Rs.length q]
def Rs.get:∀{xs:List T} {vs:List V} {i:Nat} {x:T},Rs H vs xs→xs[i]?=some x→∃v,vs[i]?=some v∧R H v x
 |[],vs,i,x,h,e=>by simp at e
 |y::r,vs,i,x,h,e=>by
  let⟨v,ws,e1,p,q⟩:=h;subst e1;cases i with
  |zero=>cases e;show⟨v,rfl,p⟩
  |succ i=>show Rs.get (i:=i) q e
def Rs.zN(h:Rs H vs xs)(e:vs[i]?=some v):∃x,xs[i]?=some x∧R H v x:=by
 let hl:=h.length;obtain⟨hi,_⟩:=abe.mp e;let Ir:i<xs.length:=by lia
 let⟨v',e',r⟩:=h.get (i:=i) (x:=xs[i]) (by simp[Ir]);rw[e]at e';cases e';show⟨xs[i],by simp[Ir],r⟩
def Rs.app:∀{xs ys:List T} {vs ws:List V},Rs H vs xs→Rs H ws ys→Rs H (vs++ws) (xs++ys)
 |[],ys,vs,ws,h,h'=>by subst h;show h'
 |x::r,ys,vs,ws,h,h'=>by
  let⟨v,us,e,p,q⟩:=h;subst e;show Ps2 v _ ⟨rfl,p,Rs.app q h'⟩
def GB:Rs H [] []:=by rfl
def FP(a:R H v x)(b:Rs H vs xs):Rs H (v::vs) (x::xs):=by
 show Ps2 v vs ⟨rfl,a,b⟩
def FL(h:Rs H vs (x::xs)):∃v ws,vs=v::ws∧R H v x∧Rs H ws xs:=by show h
def Fq(h:Rs H vs []):vs=[]:=by show h
def Rs.drop:∀{xs:List T} {vs:List V} (n:Nat),Rs H vs xs→Rs H (vs.drop n) (xs.drop n)
 |xs,vs,0,h=>h
 |[],vs,n+1,h=>by rw[Fq h];show GB
 |x::r,vs,n+1,h=>by
  let⟨v,ws,e,_,q⟩:=FL h;subst e;show Rs.drop n q
def Rs.take:∀{xs:List T} {vs:List V} (n:Nat),Rs H vs xs→Rs H (vs.take n) (xs.take n)
 |xs,vs,0,h=>by show GB
 |[],vs,n+1,h=>by rw[Fq h];show GB
 |x::r,vs,n+1,h=>by
  let⟨v,ws,e,p,q⟩:=FL h;subst e;show FP p (Rs.take n q)
end
abbrev Fs(H:A5):List (Str×V)→List (Str×T)→Prop:=Paired λ(p:Str×V) (q:Str×T)=>p.1=q.1∧R H p.2 q.2
abbrev Ks(H:A5):List (AB×V)→List (AB×T)→Prop:=Paired λ(p:AB×V) (q:AB×T)=>p.1=q.1∧R H p.2 q.2
abbrev Kt(H:A5):List (List AB×V)→List (List AB×T)→Prop:=Paired λ(p:List AB×V) (q:List AB×T)=>p.1=q.1∧R H p.2 q.2
def LZ{α β:Type}{P Q:α→β→Prop}(h:∀a b,P a b→Q a b):∀{xs:List α} {ys:List β},Paired P xs ys→Paired Q xs ys
 |_,_,.nil=>.nil
 |_,_,.cons a b=>.cons (h _ _ a) (LZ h b)
def Fs.mono(t:Tq H H'){a:List (Str×V)}{b:List (Str×T)}(h:Fs H a b):Fs H' a b:=LZ (λ_ _ q=>⟨q.1,q.2.mono t⟩) h
def Ks.mono(t:Tq H H'){a:List (AB×V)}{b:List (AB×T)}(h:Ks H a b):Ks H' a b:=LZ (λ_ _ q=>⟨q.1,q.2.mono t⟩) h
def Kt.mono(t:Tq H H'){a:List (List AB×V)}{b:List (List AB×T)}(h:Kt H a b):Kt H' a b:=LZ (λ_ _ q=>⟨q.1,q.2.mono t⟩) h
def acK{P:Program}{w:World}{h:Heap}{us:List (List AB×V)}(t:∀b vs,H b=some (.tup vs)→H' b=some (.tup vs))(q:bU P w H h a (.dT us)):bU P w H' h a (.dT us):=by
 obtain⟨z,y,xs,r,q⟩:=q;show⟨z,y,xs,LZ (λ_ _ p=>⟨p.1,t _ _ p.2.1,p.2.2⟩) r,q⟩
abbrev Ho(H:A5)(a:Addr):O→Prop
 |.lst ts=>∃vs,H a=some (.lst vs)∧Rs H vs ts
 |.ins C dx fs=>∃gs,H a=some (.ins C dx gs)∧Fs H gs fs
 |.own x=>H a=some (.own x)
 |.dK aA=>∃us,H a=some (.dK us)∧Ks H us aA
 |.ext φ=>H a=some (.ext φ)
 |.dT aA=>∃us,H a=some (.dT us)∧Kt H us aA
 |.fzT P w o aA=>∃us,acG P w H a o us∧Kt H us aA
 |.fzK P w o aA=>∃us,adi P w H a o us∧Ks H us aA
 |.lam q pos=>abb H a q pos
abbrev HR(H:A5)(Γ:AR):Prop:=∀a o,Γ a=some o→Ho H a o
structure gq(H:A5)(Γ:AR)(H':A5)(Γ':AR):Prop where
 tq:Tq H H'
 v5:∀a,H a≠none→H' a≠none
 new:∀a,H a≠none→Γ a=none→Γ' a=none
 uJ:∀a o,H a=some o→Γ a=none→H' a=some o
section
variable {H H' H1: A5}{Γ Γ' Γ1: AR}
def gq.refl:gq H Γ H Γ:=⟨.refl,λ_ h=>h,λ_ _ h=>h,λ_ _ h _=>h⟩
def gq.trans(a:gq H Γ H1 Γ1)(b:gq H1 Γ1 H' Γ'):gq H Γ H' Γ':=
 ⟨a.tq.trans b.tq,λx h=>b.v5 x (a.v5 x h),λx h g=>b.new x (a.v5 x h) (a.new x h g),λx o h g=>b.uJ x o (a.uJ x o h g) (a.new x (by rw[h];exactλz=>(nomatch z)) g)⟩
def Ho.mono(t:Tq H H')(e:∀u,H a=some u→H' a=some u)(h:Ho H a o):Ho H' a o:=by
 cases o with
 |lst ts=>obtain⟨vs,h,r⟩:=h;show⟨vs,e _ h,r.mono t⟩
 |ins C dx fs=>obtain⟨vs,h,r⟩:=h;show⟨vs,e _ h,r.mono t⟩
 |own x=>show e _ h
 |dK aA=>obtain⟨vs,h,r⟩:=h;show⟨vs,e _ h,r.mono t⟩
 |ext φ=>show e _ h
 |dT aA=>obtain⟨vs,h,r⟩:=h;show⟨vs,e _ h,r.mono t⟩
 |fzT P w o aA=>obtain⟨vs,h,r⟩:=h;show⟨vs,⟨e _ h.1,λh' g=>acK t.1 (h.2 h' g)⟩,r.mono t⟩
 |fzK P w o aA=>obtain⟨vs,h,r⟩:=h;show⟨vs,⟨e _ h.1,λh' g=>h.2 h' g⟩,r.mono t⟩
 |lam q pos=>
  rcases h with h|⟨c',oc,vs,t',u,h1,h2,h3⟩
  ·show .inl (e _ h)
  ·show .inr ⟨c',oc,vs,t',u,e _ h1,t.2 _ _ _ h2,h3⟩
def Ho.some(h:Ho H a o):∃u,H a=some u∧(∀vs:List V,u≠.tup vs)∧∀b w,u≠.frz b w:=by
 cases o with
 |lst ts=>obtain⟨vs,h,r⟩:=h;show⟨_,h,⟨λ_ z=>(nomatch z),λ_ _ z=>(nomatch z)⟩⟩
 |ins C dx fs=>obtain⟨vs,h,r⟩:=h;show⟨_,h,⟨λ_ z=>(nomatch z),λ_ _ z=>(nomatch z)⟩⟩
 |own x=>show⟨_,h,⟨λ_ z=>(nomatch z),λ_ _ z=>(nomatch z)⟩⟩
 |dK aA=>obtain⟨vs,h,r⟩:=h;show⟨_,h,⟨λ_ z=>(nomatch z),λ_ _ z=>(nomatch z)⟩⟩
 |ext φ=>show⟨_,h,⟨λ_ z=>(nomatch z),λ_ _ z=>(nomatch z)⟩⟩
 |dT aA=>obtain⟨vs,h,r⟩:=h;show⟨_,h,⟨λ_ z=>(nomatch z),λ_ _ z=>(nomatch z)⟩⟩
 |fzT P w o aA=>obtain⟨vs,h,r⟩:=h;show⟨_,h.1,⟨λ_ z=>(nomatch z),λ_ _ z=>(nomatch z)⟩⟩
 |fzK P w o aA=>obtain⟨vs,h,r⟩:=h;show⟨_,h.1,⟨λ_ z=>(nomatch z),λ_ _ z=>(nomatch z)⟩⟩
 |lam q pos=>
  rcases h with h|⟨c',oc,vs,t',u,h,_⟩
  ·show⟨_,h,⟨λ_ z=>(nomatch z),λ_ _ z=>(nomatch z)⟩⟩
  ·show⟨_,h,⟨λ_ z=>(nomatch z),λ_ _ z=>(nomatch z)⟩⟩
def HR.free(h:HR H Γ)(n:H a=none):Γ a=none:=by
 cases e:Γ a with
 |none=>rfl
 |some o=>
  let⟨u,hu,_⟩:=(h a o e).some;rw[n]at hu;cases hu
def DL(k:∀b o,H b=some o→H' b=some o):Tq H H':=⟨λa vs h=>k _ _ h,λa o u h=>k _ _ h⟩
def gq.keep(k:∀b o,H b=some o→H' b=some o):gq H Γ H' Γ:=
 ⟨DL k,λa h z=>by
  cases e:H a with
  |none=>show h e
  |some o=>show(by rw[k a o e]at z;cases z),λ_ _ h=>h,λa o h _=>k a o h⟩
def HR.keep(h:HR H Γ)(k:∀b o,H b=some o→H' b=some o):HR H' Γ:=λa o e=>(h a o e).mono (DL k) (k a)
def Cm{o:HO}(h:H p=none):∀b u,H b=some u→AM H p o b=some u:=λb u q=>by rw[B0 (Gd q h)];show q
def gq.make{o:HO}(h:H p=none):gq H Γ (AM H p o) (up Γ p o3):=by
 show⟨DL (Cm h),λa q z=>?_,λa q g=>?_,λa u q _=>Cm h a u q⟩
 ·by_cases e:a=p
  ·subst e;show q h
  ·rw[B0 e]at z;show q z
 ·let e:a≠p:=λe=>q (by rw[e];show h)
  rw[BR e];show g
def HR.make(hr:HR H Γ){o:HO}(h:H p=none)(k:Ho (AM H p o) p o3):HR (AM H p o) (up Γ p o3):=λa u e=>by
 by_cases z:a=p
 ·subst z;rw[Au]at e;cases e;show k
 ·rw[BR z]at e
  show(hr a u e).mono (DL (Cm h)) λ_ q=>by rw[B0 z];show q
def GO{o u:HO}(h:H a=some u)(n:(∀vs:List V,u≠.tup vs)∧∀b w,u≠.frz b w):Tq H (AM H a o):=⟨λx vs q=>by
 have:x≠a:=λe=>by subst e;rw[h]at q;show n.1 vs (FJ q)
 rw[B0 this];show q,λx b w q=>by
 have:x≠a:=λe=>by subst e;rw[h]at q;show n.2 b w (FJ q)
 rw[B0 this];show q⟩
def gq.set{o:HO}(hr:HR H Γ)(g:Γ a=some o2):gq H Γ (AM H a o) (up Γ a o3):=by
 let⟨u,hu,n⟩:=(hr a o2 g).some;show⟨GO hu n,λx q z=>?_,λx q g'=>?_,λx w q g'=>?_⟩
 ·by_cases e:x=a
  ·subst e;rw[Bu]at z;cases z
  ·rw[B0 e]at z;show q z
 ·let e:x≠a:=λe=>by subst e;rw[g]at g';cases g'
  rw[BR e];show g'
 ·let e:x≠a:=λe=>by subst e;rw[g]at g';cases g'
  rw[B0 e];show q
def HR.set{o:HO}(hr:HR H Γ)(g:Γ a=some o2)(k:Ho (AM H a o) a o3):HR (AM H a o) (up Γ a o3):=λx u e=>by
 let⟨w,hw,n⟩:=(hr a o2 g).some;by_cases z:x=a
 ·subst z;rw[Au]at e;cases e;show k
 ·rw[BR z]at e
  show(hr x u e).mono (GO hw n) λ_ q=>by rw[B0 z];show q
def HR.hide{o u:HO}(hr:HR H Γ)(g:Γ a=none)(h:H a=some u)(n:(∀vs:List V,u≠.tup vs)∧∀b w,u≠.frz b w):HR (AM H a o) Γ:=λx w e=>by
 let z:x≠a:=λz=>by subst z;rw[g]at e;cases e
 show(hr x w e).mono (GO h n) λ_ q=>by rw[B0 z];show q
end
abbrev BJ:=List (Option T)
@[reducible] def Sq:BJ→Nat→(T→Prop)→Prop
 |o::_,0,k=>match o with|some x=>k x|none=>False
 |_::r,i+1,k=>Sq r i k
 |[],_,_=>False
@[reducible] def Ln:BJ→Nat→Option T→BJ
 |_::r,0,o=>o::r
 |x::r,i+1,o=>x::Ln r i o
 |[],_,_=>[]
@[reducible] def dY:Nat→T→(Bool→Prop)→Prop
 |0,_,_=>False
 |_+1,.bl b,k=>k b
 |n+1,x,k=>dY n x k
noncomputable abbrev JX:T→(Bool→Prop)→Prop:=dY 1
@[reducible] def isIn:Nat→T→(Int→Prop)→Prop
 |0,_,_=>False
 |_+1,.int b,k=>k b
 |n+1,x,k=>isIn n x k
noncomputable abbrev Ei:T→(Int→Prop)→Prop:=isIn 1
def iK:∀{τ:BJ} {i:Nat} {k:T→Prop},Sq τ i k→∃x,τ[i]?=some (some x)∧k x
 |some x::_,0,_,h=>⟨x,rfl,h⟩
 |none::_,0,_,h=>h.elim
 |_::r,i+1,_,h=>by let⟨x,e,q⟩:=iK (τ:=r) h;show⟨x,by simpa using e,q⟩
 |[],_,_,h=>h.elim
def Mo{k:Bool→Prop}(h:JX x k):∃b,x=.bl b∧k b:=by cases x<;>first|show⟨_,rfl,h⟩|show h.elim
def Kl{k:Int→Prop}(h:Ei x k):∃b,x=.int b∧k b:=by cases x<;>first|show⟨_,rfl,h⟩|show h.elim
abbrev GD:=BJ→Value→AR→Prop
abbrev EG:=T→AR→Prop
abbrev AN:=GD→BJ→AR→EG→Prop
abbrev Dc:=GD→BJ→AR→(Bool→AR→Prop)→Prop
abbrev Ca:=GD→BJ→AR→(List T→AR→Prop)→Prop
structure N1 where
 nx:BJ→AR→Prop
 rt:EG
 bk:BJ→AR→Prop:=λ_ _=>False
 ct:BJ→AR→Prop:=λ_ _=>False
abbrev CN:=GD→N1→BJ→AR→Prop
abbrev QR(H:A5):Option V→Option T→Prop
 |_,none=>True
 |some v,some x=>R H v x
 |none,some _=>False
abbrev RS(H:A5):St→BJ→Prop
 |[],[]=>True
 |v::r,x::q=>QR H v x∧RS H r q
 |_,_=>False
section
variable {H H': A5}{Γ Γ': AR}
def QR.mono(t:Tq H H'){v:Option V}{x:Option T}(h:QR H v x):QR H' v x:=by
 cases x with
 |none=>show trivial
 |some x=>cases v with
  |none=>show h.elim
  |some v=>show R.mono t h
def RS.mono(t:Tq H H'):∀{σ:St} {τ:BJ},RS H σ τ→RS H' σ τ
 |[],[],_=>trivial
 |_::_,_::_,h=>⟨h.1.mono t,RS.mono t h.2⟩
 |[],_::_,h=>h.elim
 |_::_,[],h=>h.elim
def RS.get:∀{σ:St} {τ:BJ} {i:Nat} {x:T},RS H σ τ→τ[i]?=some (some x)→∃v,σ[i]?=some (some v)∧R H v x
 |[],[],i,x,_,e=>by simp at e
 |v::r,y::q,i,x,h,e=>by
  cases i with
  |zero=>
   cases e;cases v with
   |none=>show h.1.elim
   |some v=>show⟨v,rfl,h.1⟩
  |succ i=>show RS.get (i:=i) h.2 e
 |[],_::_,_,_,h,_=>h.elim
 |_::_,[],_,_,h,_=>h.elim
def RS.set(r:R H v x):∀{σ:St} {τ:BJ} (i:Nat),RS H σ τ→RS H (σ.set i (some v)) (Ln τ i (some x))
 |[],[],_,_=>trivial
 |_::_,_::_,0,h=>⟨r,h.2⟩
 |_::_,_::_,i+1,h=>⟨h.1,RS.set r i h.2⟩
 |[],_::_,_,h=>h.elim
 |_::_,[],_,h=>h.elim
abbrev XR(H:A5)(Γ:AR)(Y:GD)(E:St→BG):Prop:=∀σ τ C H' Γ',gq H Γ H' Γ'→HR H' Γ'→RS H' σ τ→Y τ C Γ'→E σ C none H'
def XR.mono{Y:GD}{E:St→BG}(x:XR H Γ Y E)(s:gq H Γ H' Γ'):XR H' Γ' Y E:=λσ τ C H2 Γ2 s2 h2 r y=>x σ τ C H2 Γ2 (s.trans s2) h2 r y
abbrev VR(H:A5)(Γ:AR)(Z:EG)(Q:Ar):Prop:=∀v x H' Γ',gq H Γ H' Γ'→HR H' Γ'→R H' v x→Z x Γ'→Q v H'
def VR.mono{Q:Ar}(x:VR H Γ Z Q)(s:gq H Γ H' Γ'):VR H' Γ' Z Q:=λv x' H2 Γ2 s2 h2 r y=>x v x' H2 Γ2 (s.trans s2) h2 r y
abbrev NR(H:A5)(Γ:AR)(Z:BJ→AR→Prop)(Q:St→A5→Prop):Prop:=∀σ τ H' Γ',gq H Γ H' Γ'→HR H' Γ'→RS H' σ τ→Z τ Γ'→Q σ H'
def NR.mono{Z:BJ→AR→Prop}{Q:St→A5→Prop}(x:NR H Γ Z Q)(s:gq H Γ H' Γ'):NR H' Γ' Z Q:=λv x' H2 Γ2 s2 h2 r y=>x v x' H2 Γ2 (s.trans s2) h2 r y
structure DR(H:A5)(Γ:AR)(Z:N1)(Q:Ends):Prop where
 nx:NR H Γ Z.nx Q.nx
 rt:VR H Γ Z.rt Q.rt
 bk:NR H Γ Z.bk Q.bk
 ct:NR H Γ Z.ct Q.ct
def DR.mono{Z:N1}{Q:Ends}(x:DR H Γ Z Q)(s:gq H Γ H' Γ'):DR H' Γ' Z Q:=⟨x.nx.mono s,x.rt.mono s,x.bk.mono s,x.ct.mono s⟩
end
section
variable (E: St→BG)
abbrev AE(t:AN):AY:=λσ H Q=>∃τ Γ Y Z,RS H σ τ∧HR H Γ∧t Y τ Γ Z∧VR H Γ Z Q∧XR H Γ Y E
abbrev Ce(t:Dc):Ci:=λσ H Q=>∃τ Γ Y Z,RS H σ τ∧HR H Γ∧t Y τ Γ Z∧(∀b H' Γ',gq H Γ H' Γ'→HR H' Γ'→Z b Γ'→Q b H')∧XR H Γ Y E
abbrev De(t:Ca):CY:=λσ H Q=>∃τ Γ Y Z,RS H σ τ∧HR H Γ∧t Y τ Γ Z∧(∀vs xs H' Γ',gq H Γ H' Γ'→HR H' Γ'→Rs H' vs xs→Z xs Γ'→Q vs H')∧XR H Γ Y E
abbrev Cg(t:CN):CM:=λD σ H=>∃τ Γ Y Z,RS H σ τ∧HR H Γ∧t Y Z τ Γ∧DR H Γ Z D∧XR H Γ Y E
end
section
def Fi{t t':AY}(h:PE X e t)(w:∀σ H Q,t' σ H Q→t σ H Q):PE X e t':=⟨λv4 s σ H Q I q=>h.run v4 s σ H Q I (w _ _ _ q)⟩
def QQ{t:Ci}(h:PT X e t)(w:∀σ H Q,t' σ H Q→t σ H Q):PT X e t':=⟨λv4 s σ H Q I q=>h.run v4 s σ H Q I (w _ _ _ q)⟩
def aar{t:Ci}(h:PW X e t)(w:∀σ H Q,t' σ H Q→t σ H Q):PW X e t':=⟨λwh v4 s σ H Q I q=>h.run wh v4 s σ H Q I (w _ _ _ q)⟩
def uP{e:List Expr}{t t':CY}(h:PA X e t)(w:∀σ H Q,t' σ H Q→t σ H Q):PA X e t':=⟨λpos v4 s σ H Q I q=>h.run pos v4 s σ H Q I (w _ _ _ q)⟩
def RX{e:Stmt}{t t':CM}(h:PS X e t)(w:∀D σ H,t' D σ H→t D σ H):PS X e t':=⟨λv4 s σ H D I q=>h.run v4 s σ H D I (w _ _ _ q)⟩
def acR{e:List Stmt}{t t':CM}(h:mY X e t)(w:∀D σ H,t' D σ H→t D σ H):mY X e t':=⟨λv4 s σ H D I q=>h.run v4 s σ H D I (w _ _ _ q)⟩
def zT{t t':DV}(h:PG X e t)(w:∀v σ H Q,t' v σ H Q→t v σ H Q):PG X e t':=⟨λv4 s σ H v u Q I r q=>h.run v4 s σ H v u Q I r (w _ _ _ _ q)⟩
def pT{e:List Expr}{t t':HM}(h:Bo X e t)(w:∀v σ H Q,t' v σ H Q→t v σ H Q):Bo X e t':=⟨λv4 s σ H v u Q I r q=>h.run v4 s σ H v u Q I r (w _ _ _ _ q)⟩
def mE{t t':DW}(h:PI X tg e t)(w:∀σ H Q,t' σ H Q→t σ H Q):PI X tg e t':=⟨λv4 s σ H Q I q=>h.run v4 s σ H Q I (w _ _ _ q)⟩
def aby{e:List Expr}{t:Ci}(h:wK X e t)(w:∀σ H Q,t' σ H Q→t σ H Q):wK X e t':=⟨λv4 s σ H Q I q=>h.run v4 s σ H Q I (w _ _ _ q)⟩
def EF{t0:AY}{t:AN}(h:PE X e t0)(w:∀σ H Q τ Γ Y Z,RS H σ τ→HR H Γ→t Y τ Γ Z→VR H Γ Z Q→XR H Γ Y E→t0 σ H Q):PE X e (AE E t):=
 Fi h (by intro σ H Q⟨τ,Γ,Y,Z,rs,hr,q,vr,xr⟩;show w σ H Q τ Γ Y Z rs hr q vr xr)
def jf{t:Dc}(h:PT X e t0)(w:∀σ H Q τ Γ Y Z,RS H σ τ→HR H Γ→t Y τ Γ Z→(∀b H' Γ',gq H Γ H' Γ'→HR H' Γ'→Z b Γ'→Q b H')→XR H Γ Y E→t0 σ H Q):PT X e (Ce E t):=
 QQ h (by intro σ H Q⟨τ,Γ,Y,Z,rs,hr,q,vr,xr⟩;show w σ H Q τ Γ Y Z rs hr q vr xr)
def cP{t:Dc}(h:PW X e t0)(w:∀σ H Q τ Γ Y Z,RS H σ τ→HR H Γ→t Y τ Γ Z→(∀b H' Γ',gq H Γ H' Γ'→HR H' Γ'→Z b Γ'→Q b H')→XR H Γ Y E→t0 σ H Q):PW X e (Ce E t):=
 aar h (by intro σ H Q⟨τ,Γ,Y,Z,rs,hr,q,vr,xr⟩;show w σ H Q τ Γ Y Z rs hr q vr xr)
def jo{e:List Expr}{t0:CY}{t:Ca}(h:PA X e t0)(w:∀σ H Q τ Γ Y Z,RS H σ τ→HR H Γ→t Y τ Γ Z→(∀vs xs H' Γ',gq H Γ H' Γ'→HR H' Γ'→Rs H' vs xs→Z xs Γ'→Q vs H')→XR H Γ Y E→t0 σ H Q):PA X e (De E t):=
 uP h (by intro σ H Q⟨τ,Γ,Y,Z,rs,hr,q,vr,xr⟩;show w σ H Q τ Γ Y Z rs hr q vr xr)
def oE{e:List Expr}{t:Dc}(h:wK X e t0)(w:∀σ H Q τ Γ Y Z,RS H σ τ→HR H Γ→t Y τ Γ Z→(∀b H' Γ',gq H Γ H' Γ'→HR H' Γ'→Z b Γ'→Q b H')→XR H Γ Y E→t0 σ H Q):wK X e (Ce E t):=
 aby h (by intro σ H Q⟨τ,Γ,Y,Z,rs,hr,q,vr,xr⟩;show w σ H Q τ Γ Y Z rs hr q vr xr)
def HQ{e:Stmt}{t0:CM}{t:CN}(h:PS X e t0)(w:∀D σ H τ Γ Y Z,RS H σ τ→HR H Γ→t Y Z τ Γ→DR H Γ Z D→XR H Γ Y E→t0 D σ H):PS X e (Cg E t):=
 RX h (by intro D σ H⟨τ,Γ,Y,Z,rs,hr,q,dr,xr⟩;show w D σ H τ Γ Y Z rs hr q dr xr)
def gN{e:List Stmt}{t0:CM}{t:CN}(h:mY X e t0)(w:∀D σ H τ Γ Y Z,RS H σ τ→HR H Γ→t Y Z τ Γ→DR H Γ Z D→XR H Γ Y E→t0 D σ H):mY X e (Cg E t):=
 acR h (by intro D σ H⟨τ,Γ,Y,Z,rs,hr,q,dr,xr⟩;show w D σ H τ Γ Y Z rs hr q dr xr)
section
variable {H: A5}
def Jy:R H .non .non:=by rfl
def Cr{b:Bool}:R H (.bl b) (.bl b):=by rfl
def Dy{i:Int}:R H (.int i) (.int i):=by rfl
def IU:R H (.str z) (.str z):=by rfl
def Ep:R H (.ref a) (.ref a):=by rfl
def Jq(h:H a=some (.tup vs))(r:Rs H vs ts):R H (.ref a) (.tup ts):=by show Ps2 a vs ⟨rfl,h,r⟩
def JC(h:R H v .non):v=.non:=by show h
def HG{b:Bool}(h:R H v (.bl b)):v=.bl b:=by show h
def Cb{b:Int}(h:R H v (.int b)):v=.int b:=by show h
def Bz{b:Str}(h:R H v (.str b)):v=.str b:=by show h
def BY(h:R H v (.ref b)):v=.ref b:=by show h
def abG{b:String}(h:R H v (.ty b)):v=.ty b:=by show h
def aD(h:R H v (.scr K a ts)):v=.ref a∧∃vs,Jg K H a vs∧Rs H vs ts:=by show h
def xA(h:Jg K H a vs)(q:Rs H vs ts):R H (.ref a) (.scr K a ts):=by show⟨rfl,vs,h,q⟩
def Jg.sq(h:Jg K H a vs):jI K H a vs:=by
 rcases h with⟨o,h⟩|h
 ·show .inl (.inr ⟨o,h⟩)
 ·show .inr h
def CD(h:R H v (.tup ts)):∃a vs,v=.ref a∧H a=some (.tup vs)∧Rs H vs ts:=by show h
end
noncomputable abbrev nP(i:Nat):AN:=λ_ τ Γ Z=>Sq τ i λx=>Z x Γ
noncomputable abbrev KC(x:T):AN:=λ_ _ Γ Z=>Z x Γ
def A0(i:Nat){x:Str}{pos:Pos}(hN:X.N[i]?=some x:=by rfl)(hv:K5 X.env.scope x:=by first|show Or.inl rfl|show Or.inr (Or.inl rfl)|show Or.inr (Or.inr rfl))(hd:(x ==("__debug__" : Str))=false:=by decide)
  (xC:(x ==("__classdict__" : Str))=false:=by decide):PE X (.Name x pos) (AE E (nP i)):=
 EF (rE hN hv hd xC) λσ H Q τ Γ Y Z rs hr q0 vr xr=>by
  let⟨x,e,z⟩:=iK q0;let⟨v,hv,r⟩:=rs.get e;show⟨v,hv,vr v x H Γ .refl hr r z⟩
def Ll(h:PE X e (JA v))(r:∀H,R H v x):PE X e (AE E (KC x)):=
 EF h λσ H Q τ Γ Y Z rs hr z vr xr=>vr v x H Γ .refl hr (r H) z
def A7{i j pos}:PE X (.Constant (.int i) j pos) (AE E (KC (.int i))):=Ll aab λ_=>Dy
def BL{b j pos}:PE X (.Constant (.bool b) j pos) (AE E (KC (.bl b))):=Ll acr λ_=>Cr
def GF{j pos}:PE X (.Constant .none j pos) (AE E (KC .non)):=Ll sW λ_=>Jy
def Ax{x j pos}:PE X (.Constant (.str x) j pos) (AE E (KC (.str x))):=Ll oq λ_=>IU
abbrev DI(u:Value)(x:T):Prop:=∃v,RelV v u∧∀H,R H v x
def E5{x:Str}{pos:Pos}(hg:Bs X x)(hm:X.mg x=some u)(r:DI u t)(hd:(x ==("__debug__" : Str))=false:=by decide):PE X (.Name x pos) (AE E (KC t)):=by
 obtain⟨v,r,h⟩:=r;show Ll (oI hg hm r hd) h
def gl_int{i:Int}(h:RelV (.int i) u):DI u (.int i):=⟨_,h,λ_=>Dy⟩
def gl_str{i:Str}(h:RelV (.str i) u):DI u (.str i):=⟨_,h,λ_=>IU⟩
def Kv{i:Addr}:DI (.ref i) (.ref i):=⟨.ref i,rfl,λ_=>Ep⟩
abbrev F3:=T→T→AR→EG→Prop
abbrev BZ(X:Cx)(f:Value→Value→Sem Value)(r3:F3):Prop:=∃r:EA,iL X f r∧∀x y a b H Γ Q Z,R H x a→R H y b→HR H Γ→r3 a b Γ Z→VR H Γ Z Q→r x y H Q
noncomputable abbrev Hd(r3:F3)(ta tb:AN):AN:=λY τ Γ Z=>ta Y τ Γ λx Γ1=>tb Y τ Γ1 λy Γ2=>r3 x y Γ2 Z
def Ml{r:EA}{r3:F3}{ta tb:AN}(h:∀x y a b H Γ Q Z,R H x a→R H y b→HR H Γ→r3 a b Γ Z→VR H Γ Z Q→r x y H Q)(σ:St)(H:A5)(Q:Ar)(q:AE E (Hd r3 ta tb) σ H Q):Md r (AE E ta) (AE E tb) σ H Q:=by
 let⟨τ,Γ,Y,Z,rs,hr,t,vr,xr⟩:=q;show Ps4 τ Γ Y _ ⟨rs,hr,t,λv x H1 Γ1 s1 h1 r1 z1=>?_,xr⟩;show Ps4 τ Γ1 Y _ ⟨rs.mono s1.tq,h1,z1,λu y H2 Γ2 s2 h2 r2 z2=>?_,xr.mono s1⟩;show h v u x y H2 Γ2 Q Z (r1.mono s2.tq) r2 h2 z2 (vr.mono (s1.trans s2))
section
variable {a b c: Expr}{ta tc: AN}{op AG: CmpOp}{r3 Nu: F3}
def AH{op:Operator}(ho:BZ X (binaryOp op) r3)(ha:PE X a (AE E ta))(hb:PE X b (AE E tb)):PE X (.BinOp a op b pos) (AE E (Hd r3 ta tb)):=by
 obtain⟨r,ho,h⟩:=ho;show Fi (sA ho ha hb) (Ml h)
def HA(ho:BZ X (compareOp op) r3)(ha:PE X a (AE E ta))(hb:PE X b (AE E tb))(hm:behindInMarks op b=false):PE X (.Compare a [op] [b] pos) (AE E (Hd r3 ta tb)):=by
 obtain⟨r,ho,h⟩:=ho;show Fi (yi ho ha hb hm) (Ml h)
noncomputable abbrev Mh(t:AN):Dc:=λY τ Γ Z=>t Y τ Γ λx Γ1=>JX x λk=>Z k Γ1
def af{t2:AY}{t:AN}(h:∀σ H Q,AE E t σ H Q→t2 σ H Q)(σ:St)(H:A5)(Q:Bool→A5→Prop)(q:Ce E (Mh t) σ H Q):Vt t2 σ H Q:=by
 let⟨τ,Γ,Y,Z,rs,hr,t,vr,xr⟩:=q;show h σ H _ ⟨τ,Γ,Y,_,rs,hr,t,λv x H1 Γ1 s1 h1 r1 z1=>?_,xr⟩;let⟨k,rfl,z⟩:=Mo z1;show⟨k,HG r1,vr k H1 Γ1 s1 h1 z⟩
def K3(ho:BZ X (compareOp op) r3)(ha:PE X a (AE E ta))(hb:PE X b (AE E tb))(hm:behindInMarks op b=false):PT X (.Compare a [op] [b] pos) (Ce E (Mh (Hd r3 ta tb))):=by
 obtain⟨r,ho,h⟩:=ho;show QQ (uG ho ha hb hm) (af (Ml h))
noncomputable abbrev XN(r r':F3)(ta tb tc:AN):AN:=λY τ Γ Z=>ta Y τ Γ λx Γ1=>tb Y τ Γ1 λy Γ2=>r x y Γ2 λz Γ3=>JX z λk=>(if k=true then tc Y τ Γ3 λw' Γ4=>r' y w' Γ4 Z else Z (.bl false) Γ3)
def h8{r r':EA}(h:∀x y a b H Γ Q Z,R H x a→R H y b→HR H Γ→r3 a b Γ Z→VR H Γ Z Q→r x y H Q)(h':∀x y a b H Γ Q Z,R H x a→R H y b→HR H Γ→Nu a b Γ Z→VR H Γ Z Q→r' x y H Q)
  (σ:St) (H:A5) (Q:Ar) (q:AE E (XN r3 Nu ta tb tc) σ H Q):Sg r r' (AE E ta) (AE E tb) (AE E tc) σ H Q:=by
 let⟨τ,Γ,Y,Z,rs,hr,t,vr,xr⟩:=q;show Ps4 τ Γ Y _ ⟨rs,hr,t,λv x H1 Γ1 s1 h1 r1 z1=>?_,xr⟩;show Ps4 τ Γ1 Y _ ⟨rs.mono s1.tq,h1,z1,λu y H2 Γ2 s2 h2 r2 z2=>?_,xr.mono s1⟩;show h v u x y H2 Γ2 _ _ (r1.mono s2.tq) r2 h2 z2 λd z H3 Γ3 s3 h3 r3 z3=>?_;obtain⟨k,rfl,z3⟩:=Mo z3;show⟨k,HG r3,?_⟩;cases k with
 |false=>show vr _ _ H3 Γ3 ((s1.trans s2).trans s3) h3 Cr z3
 |true=>
  show Ps4 τ Γ3 Y _ ⟨rs.mono ((s1.trans s2).trans s3).tq,h3,z3,λw' y' H4 Γ4 s4 h4 r4 z4=>?_,xr.mono ((s1.trans s2).trans s3)⟩;show h' u w' y y' H4 Γ4 Q Z (r2.mono (s3.trans s4).tq) r4 h4 z4 (vr.mono (((s1.trans s2).trans s3).trans s4))
def MV(ho:BZ X (compareOp op) r3)(ri:BZ X (compareOp AG) Nu)(ha:PE X a (AE E ta))(hb:PE X b (AE E tb))(hc:PE X c (AE E tc))(hm:lastMarks [op,AG] [b,c]=false:=by with_unfolding_all rfl):
  PE X (.Compare a [op,AG] [b,c] pos) (AE E (XN r3 Nu ta tb tc)):=by
 obtain⟨r,ho,h⟩:=ho;obtain⟨r',ri,h'⟩:=ri;show Fi (t6 ho ri ha hb hc hm) (h8 h h')
def Na(ho:BZ X (compareOp op) r3)(ri:BZ X (compareOp AG) Nu)(ha:PE X a (AE E ta))(hb:PE X b (AE E tb))(hc:PE X c (AE E tc))(hm:lastMarks [op,AG] [b,c]=false:=by with_unfolding_all rfl):
  PT X (.Compare a [op,AG] [b,c] pos) (Ce E (Mh (XN r3 Nu ta tb tc))):=by
 obtain⟨r,ho,h⟩:=ho;obtain⟨r',ri,h'⟩:=ri;show QQ (oB ho ri ha hb hc hm) (af (h8 h h'))
noncomputable abbrev enc(ta tb:AN):AN:=λY τ Γ Z=>ta Y τ Γ λx Γ1=>JX x λc=>if c=true then tb Y τ Γ1 Z else Z (.bl false) Γ1
noncomputable abbrev acZ(ta tb:AN):AN:=λY τ Γ Z=>ta Y τ Γ λx Γ1=>JX x λc=>if c=true then Z (.bl true) Γ1 else tb Y τ Γ1 Z
noncomputable abbrev tK(ta:AN):AN:=λY τ Γ Z=>ta Y τ Γ λx Γ1=>JX x λc=>Z (.bl (!c)) Γ1
def CP{op}(h:PE X a (AE E ta)):PE X (.BoolOp op [a] pos) (AE E ta):=w5 h
def CK(ha:PE X a (AE E ta))(hb:PE X (.BoolOp .And (b::v6) pos) (AE E tb)):PE X (.BoolOp .And (a::b::v6) pos) (AE E (enc ta tb)):=
 EF (qf ha hb) λσ H Q τ Γ Y Z rs hr t vr xr=>by
  show Ps4 τ Γ Y _ ⟨rs,hr,t,λv x H1 Γ1 s1 h1 r1 z1=>?_,xr⟩;obtain⟨k,rfl,z1⟩:=Mo z1;show⟨k,HG r1,?_⟩;cases k with
  |false=>show vr _ _ H1 Γ1 s1 h1 Cr z1
  |true=>show Ps4 τ Γ1 Y Z ⟨rs.mono s1.tq,h1,z1,vr.mono s1,xr.mono s1⟩
def LO(ha:PE X a (AE E ta))(hb:PE X (.BoolOp .Or (b::v6) pos) (AE E tb)):PE X (.BoolOp .Or (a::b::v6) pos) (AE E (acZ ta tb)):=
 EF (za ha hb) λσ H Q τ Γ Y Z rs hr t vr xr=>by
  show Ps4 τ Γ Y _ ⟨rs,hr,t,λv x H1 Γ1 s1 h1 r1 z1=>?_,xr⟩;obtain⟨k,rfl,z1⟩:=Mo z1;show⟨k,HG r1,?_⟩;cases k with
  |true=>show vr _ _ H1 Γ1 s1 h1 Cr z1
  |false=>show Ps4 τ Γ1 Y Z ⟨rs.mono s1.tq,h1,z1,vr.mono s1,xr.mono s1⟩
def ie(ha:PE X a (AE E ta)):PE X (.UnaryOp .Not a pos) (AE E (tK ta)):=
 EF (yO ha) λσ H Q τ Γ Y Z rs hr t vr xr=>by
  show Ps4 τ Γ Y _ ⟨rs,hr,t,λv x H1 Γ1 s1 h1 r1 z1=>?_,xr⟩;obtain⟨k,rfl,z1⟩:=Mo z1;show⟨k,HG r1,vr _ _ H1 Γ1 s1 h1 Cr z1⟩
variable {tA KO: Dc}
noncomputable abbrev qy(t u:Dc):Dc:=λY τ Γ Z=>t Y τ Γ λc Γ1=>if c=true then u Y τ Γ1 Z else Z false Γ1
noncomputable abbrev FzK(t u:Dc):Dc:=λY τ Γ Z=>t Y τ Γ λc Γ1=>if c=true then Z true Γ1 else u Y τ Γ1 Z
noncomputable abbrev yV(t:Dc):Dc:=λY τ Γ Z=>t Y τ Γ λc Γ1=>Z (!c) Γ1
def Jh(ha:PT X a (Ce E tA)):PW X (.BoolOp .And [a] pos) (Ce E tA):=qN ha
def DG(ha:PT X a (Ce E tA)):PW X (.BoolOp .Or [a] pos) (Ce E tA):=zM ha
def JE(ha:PT X a (Ce E tA))(hb:PW X (.BoolOp .And (b::v6) pos) (Ce E KO)):PW X (.BoolOp .And (a::b::v6) pos) (Ce E (qy tA KO)):=
 cP (aa2 ha hb) λσ H Q τ Γ Y Z rs hr t vr xr=>by
  show Ps4 τ Γ Y _ ⟨rs,hr,t,λk H1 Γ1 s1 h1 z1=>?_,xr⟩;cases k with
  |false=>show vr _ H1 Γ1 s1 h1 z1
  |true=>show Ps4 τ Γ1 Y Z ⟨rs.mono s1.tq,h1,z1,λb H2 Γ2 s2 h2 z2=>vr b H2 Γ2 (s1.trans s2) h2 z2,xr.mono s1⟩
def Cj(ha:PT X a (Ce E tA))(hb:PW X (.BoolOp .Or (b::v6) pos) (Ce E KO)):PW X (.BoolOp .Or (a::b::v6) pos) (Ce E (FzK tA KO)):=
 cP (rC ha hb) λσ H Q τ Γ Y Z rs hr t vr xr=>by
  show Ps4 τ Γ Y _ ⟨rs,hr,t,λk H1 Γ1 s1 h1 z1=>?_,xr⟩;cases k with
  |true=>show vr _ H1 Γ1 s1 h1 z1
  |false=>show Ps4 τ Γ1 Y Z ⟨rs.mono s1.tq,h1,z1,λb H2 Γ2 s2 h2 z2=>vr b H2 Γ2 (s1.trans s2) h2 z2,xr.mono s1⟩
def BQ(ha:PT X a (Ce E tA)):PT X (.UnaryOp .Not a pos) (Ce E (yV tA)):=
 jf (acA ha) λσ H Q τ Γ Y Z rs hr t vr xr=>Ps4 τ Γ Y _ ⟨rs,hr,t,λk H1 Γ1 s1 h1 z1=>vr _ H1 Γ1 s1 h1 z1,xr⟩
def BN{t:AN}(h:PE X e (AE E t))(he:∀whole,isTrue e X.env whole=(do let v ←whole;standAt e.pos;holding [v] (truthy v)):=by intro _;rfl):PT X e (Ce E (Mh t)):=
 QQ (yT h he) (af  λ_ _ _ q=>q)
end
section
variable {e: Expr}{te: AN}{t: Ca}
noncomputable abbrev yg:Ca:=λ_ _ Γ Z=>Z [] Γ
noncomputable abbrev uL(ta:AN)(tr:Ca):Ca:=λY τ Γ Z=>ta Y τ Γ λx Γ1=>tr Y τ Γ1 λxs Γ2=>Z (x::xs) Γ2
def A6:PA X [] (De E yg):=jo fT λσ H Q τ Γ Y Z rs hr t vr xr=>vr [] [] H Γ .refl hr GB t
def A3(ha:PE X e (AE E te))(hr:PA X es (De E t))(hs:starEach (e::es) X.env=(false,eval e X.env)::starEach es X.env:=by rfl):PA X (e::es) (De E (uL te t)):=
 jo (aj ha hr hs) λσ H Q τ Γ Y Z rs hr t vr xr=>by
  show Ps4 τ Γ Y _ ⟨rs,hr,t,λv x H1 Γ1 s1 h1 r1 z1=>?_,xr⟩;show Ps4 τ Γ1 Y _ ⟨rs.mono s1.tq,h1,z1,λvs xs H2 Γ2 s2 h2 r2 z2=>vr (v::vs) (x::xs) H2 Γ2 (s1.trans s2) h2 (FP (r1.mono s2.tq) r2) z2,xr.mono s1⟩
noncomputable abbrev jt(t:Ca):AN:=λY τ Γ Z=>t Y τ Γ λxs Γ1=>xs.length≤sizeLine∧Z (.tup xs) Γ1
noncomputable abbrev sj(t:Ca):AN:=λY τ Γ Z=>t Y τ Γ λxs Γ1=>xs.length≤sizeLine∧∀p,Γ1 p=none→Z (.ref p) (up Γ1 p (.lst xs))
def BC{x1}(h:PA X es (De E t)):PE X (.Tuple es x1 pos) (AE E (jt t)):=
 EF (adz h) λσ H Q τ Γ Y Z rs hr t vr xr=>by
  show Ps4 τ Γ Y _ ⟨rs,hr,t,λvs xs H1 Γ1 s1 h1 r1 z1=>?_,xr⟩;show⟨by rw[r1.length];show z1.1,λp hp=>?_⟩;let k:=Cm (o:=.tup vs) hp;show vr _ _ _ Γ1 (s1.trans (.keep k)) (h1.keep k) (Jq Bu (r1.mono (DL k))) z1.2
def Dd(h:PA X es (De E t)):PE X (.List es pos) (AE E (sj t)):=
 EF (yd h) λσ H Q τ Γ Y Z rs hr t vr xr=>by
  show Ps4 τ Γ Y _ ⟨rs,hr,t,λvs xs H1 Γ1 s1 h1 r1 z1=>?_,xr⟩;show⟨by rw[r1.length];show z1.1,λp hp=>?_⟩;let k:=Cm (o:=.lst vs) hp;show vr _ _ _ _ (s1.trans (.make hp)) (h1.make (o3:=.lst xs) hp ⟨vs,Bu,r1.mono (DL k)⟩) Ep (z1.2 p (h1.free hp))
end
abbrev Ay:=List T→AR→EG→(Value→AR→Prop)→Prop
abbrev Am(sp:Ay):Dw:=λvs H Q E=>∃ts Γ Z Y,Rs H vs ts∧HR H Γ∧sp ts Γ Z Y∧VR H Γ Z Q∧∀C H' Γ',gq H Γ H' Γ'→HR H' Γ'→Y C Γ'→E C none H'
noncomputable abbrev Ae(P:Program)(w:World)(K:W.Frag)(mg:KK)(bi:Heap)(x:Str)(k:Nat)(ps:List Str)(sp:Ay):Prop:=Callee P w K mg bi x k ps (Am sp)
noncomputable abbrev LQ(P:Program)(w:World)(K:W.Frag)(mg:KK)(bi:Heap)(x:Str)(k:Nat)(ps:List Str)(sp:Ay):Prop:=av P w K mg bi x k ps (Am sp)
noncomputable abbrev kb(sp:Ay)(t:Ca):AN:=λY τ Γ Z=>t Y τ Γ λxs Γ1=>sp xs Γ1 Z λ_ _=>False
noncomputable abbrev cA(sp:Ay)(t:Ca):AN:=λY τ Γ Z=>t Y τ Γ λxs Γ1=>sp xs Γ1 Z (Y τ)
section
variable {x: Str}{k j: Nat}{ps: List Str}{sp: Ay}{p: Pos}{e: Expr}{t: Ca}
def dc(c:Ae X.prog X.w X.K X.mg X.base x k ps sp)(hr:dA j X.A)(hk:k≤j)(hg:Bs X x)(ha:PA X (e::es) (De E t))(qK:(x ==("__debug__" : Str))=false:=by decide)
  (he:starEach (e::es) X.env=(false,eval e X.env)::starEach es X.env:=by rfl) (iE:(backTo pos (starEach es X.env)).any (·.1)=false:=by rfl):PE X (.Call (.Name x p) (e::es) [] pos) (AE E (kb sp t)):=
 EF (nK c hr hk hg ha qK he iE) λσ H Q τ Γ Y Z rs hr t vr xr=>by
  show Ps4 τ Γ Y _ ⟨rs,hr,t,λvs xs H1 Γ1 s1 h1 r1 z1=>?_,xr⟩;show Am sp (vs++[]) H1 Q J3
  rw[BX];show Ps4 xs Γ1 Z _ ⟨r1,h1,z1,vr.mono s1,λ_ _ _ _ _ z=>z.elim⟩
def ac9(c:LQ X.prog X.w X.K X.mg X.base x k ps sp)(hr:dA j X.A)(hk:k≤j)(hg:Bs X x)(hx:Sd X E)(ha:PA X (e::es) (De E t))(qK:(x ==("__debug__" : Str))=false:=by decide)
  (he:starEach (e::es) X.env=(false,eval e X.env)::starEach es X.env:=by rfl) (iE:(backTo pos (starEach es X.env)).any (·.1)=false:=by rfl):PE X (.Call (.Name x p) (e::es) [] pos) (AE E (cA sp t)):=
 EF (mL c hr hk hg hx ha qK he iE) λσ H Q τ Γ Y Z rs hr t vr xr=>by
  show Ps4 τ Γ Y _ ⟨rs,hr,t,λvs xs H1 Γ1 s1 h1 r1 z1=>?_,xr⟩;show Ps4 xs Γ1 Z (Y τ) ⟨r1,h1,z1,vr.mono s1,λC H' Γ' s' h' y=>xr σ τ C H' Γ' (s1.trans s') h' (rs.mono (s1.trans s').tq) y⟩
end
end
section
variable {st: Stmt}{Vz: List Stmt}{e: Expr}{te: AN}{t u: CN}
noncomputable abbrev uC:CN:=λ_ D τ Γ=>D.nx τ Γ
noncomputable abbrev abQ(t u:CN):CN:=λY D τ Γ=>t Y {D with nx:=u Y D} τ Γ
noncomputable abbrev sk(te:AN):CN:=λY D τ Γ=>te Y τ Γ λ_ Γ1=>D.nx τ Γ1
noncomputable abbrev nF(te:AN):CN:=λY D τ Γ=>te Y τ Γ D.rt
noncomputable abbrev yo(c:Dc)(t u:CN):CN:=λY D τ Γ=>c Y τ Γ λb Γ1=>if b=true then t Y D τ Γ1 else u Y D τ Γ1
def A8:mY X [] (Cg E uC):=gN mf λD σ H τ Γ Y Z rs hr t dr xr=>dr.nx σ τ H Γ .refl hr rs t
def A4(h1:PS X st (Cg E t))(h2:mY X Vz (Cg E u)):mY X (st::Vz) (Cg E (abQ t u)):=
 gN (aa6 h1 h2) λD σ H τ Γ Y Z rs hr t dr xr=>
  ⟨τ,Γ,Y,_,rs,hr,t,⟨λσ' τ' H' Γ' s h r z=>Ps4 τ' Γ' Y Z ⟨r,h,z,dr.mono s,xr.mono s⟩,dr.rt,dr.bk,dr.ct⟩,xr⟩
def Fw(he:PE X e (AE E te))(hs:swapsWith e none pos.line X.env=pure false:=by rfl):PS X (.Expr e pos) (Cg E (sk te)):=
 HQ (aaL he hs) λD σ H τ Γ Y Z rs hr t dr xr=>Ps4 τ Γ Y _ ⟨rs,hr,t,λv x H' Γ' s h r z=>dr.nx σ τ H' Γ' s h (rs.mono s.tq) z,xr⟩
def AK(he:PE X e (AE E te)):PS X (.Return (some e) pos) (Cg E (nF te)):=
 HQ (ua he) λD σ H τ Γ Y Z rs hr t dr xr=>Ps4 τ Γ Y _ ⟨rs,hr,t,dr.rt,xr⟩
def Aq{a b:List Stmt}(hc:PT X c (Ce E tc))(ha:mY X a (Cg E t))(hb:mY X b (Cg E u)):PS X (.If c a b pos) (Cg E (yo tc t u)):=
 HQ (ab3 hc ha hb) λD σ H τ Γ Y Z rs hr t dr xr=>by
  show Ps4 τ Γ Y _ ⟨rs,hr,t,λk H1 Γ1 s1 h1 z1=>?_,xr⟩;cases k with
  |true=>show Ps4 τ Γ1 Y Z ⟨rs.mono s1.tq,h1,z1,dr.mono s1,xr.mono s1⟩
  |false=>show Ps4 τ Γ1 Y Z ⟨rs.mono s1.tq,h1,z1,dr.mono s1,xr.mono s1⟩
abbrev gz(t:CN):CN:=λY D τ Γ=>∃P:BJ→AR→Prop,t Y {D with nx:=P} τ Γ∧∀τ Γ,P τ Γ→D.nx τ Γ
def Ak(h:PS X st (Cg E t)):PS X st (Cg E (gz t)):=
 HQ h λD σ H τ Γ Y Z rs hr q0 dr xr=>by let⟨P,t,k⟩:=q0;show Ps4 τ Γ Y _ ⟨rs,hr,t,⟨λσ' τ' H' Γ' s h r z=>dr.nx σ' τ' H' Γ' s h r (k _ _ z),dr.rt,dr.bk,dr.ct⟩,xr⟩
abbrev D5:=GD→T→BJ→AR→(BJ→AR→Prop)→Prop
abbrev K1:=GD→List T→BJ→AR→(BJ→AR→Prop)→Prop
abbrev EK(E:St→BG)(g:D5):DV:=λv σ H Q=>∃x τ Γ Y Z,R H v x∧RS H σ τ∧HR H Γ∧g Y x τ Γ Z∧NR H Γ Z Q∧XR H Γ Y E
abbrev Li(E:St→BG)(g:K1):HM:=λv σ H Q=>∃x τ Γ Y Z,Rs H v x∧RS H σ τ∧HR H Γ∧g Y x τ Γ Z∧NR H Γ Z Q∧XR H Γ Y E
def bG{e:Expr}{t0:DV}{t:D5}(h:PG X e t0)(w:∀v σ H Q x τ Γ Y Z,R H v x→RS H σ τ→HR H Γ→t Y x τ Γ Z→NR H Γ Z Q→XR H Γ Y E→t0 v σ H Q):PG X e (EK E t):=
 zT h (by intro v σ H Q⟨x,τ,Γ,Y,Z,r,rs,hr,q,nr,xr⟩;show w v σ H Q x τ Γ Y Z r rs hr q nr xr)
def gP{e:List Expr}{t0:HM}{t:K1}(h:Bo X e t0)(w:∀v σ H Q x τ Γ Y Z,Rs H v x→RS H σ τ→HR H Γ→t Y x τ Γ Z→NR H Γ Z Q→XR H Γ Y E→t0 v σ H Q):Bo X e (Li E t):=
 pT h (by intro v σ H Q⟨x,τ,Γ,Y,Z,r,rs,hr,q,nr,xr⟩;show w v σ H Q x τ Γ Y Z r rs hr q nr xr)
noncomputable abbrev hName(i:Nat):D5:=λ_ x τ Γ Z=>Z (Ln τ i (some x)) Γ
noncomputable abbrev vI:K1:=λ_ xs τ Γ Z=>match xs with|[]=>Z τ Γ|_=>False
noncomputable abbrev aaz(g:D5)(gs:K1):K1:=λY xs τ Γ Z=>match xs with|x::r=>g Y x τ Γ λτ1 Γ1=>gs Y r τ1 Γ1 Z|[]=>False
abbrev kG(n:Nat)(gs:K1):D5:=λY x τ Γ Z=>∃ts,x=.tup ts∧ts.length=n∧gs Y ts τ Γ Z
def Ba{x:Str}(hN:X.N.Nodup)(hi:X.N[i]?=some x)(hx:HN X.env.scope x)(hf:Fk X x:=by first|show .inl rfl|show .inr rfl|assumption):PG X (.Name x pos) (EK E (hName i)):=
 bG (abR hN hi hx hf) λv σ H Q x τ Γ Y Z r rs hr t nr xr=>nr _ _ H Γ .refl hr (rs.set r i) t
def Bw:Bo X [] (Li E vI):=gP yE λv σ H Q x τ Γ Y Z r rs hr q0 nr xr=>by
 cases x with
 |nil=>show⟨Fq r,nr _ _ H Γ .refl hr rs q0⟩
 |cons y ys=>show q0.elim
def AS{es:List Expr}(h1:PG X e (EK E g))(h2:Bo X es (Li E gs))(hs:(assignEach (e::es) X.env).map (·.2)=assign e X.env::(assignEach es X.env).map (·.2):=by rfl):Bo X (e::es) (Li E (aaz g gs)):=
 gP (uM h1 h2 hs) λv σ H Q x τ Γ Y Z r rs hr q0 nr xr=>by
  cases x with
  |nil=>show q0.elim
  |cons y ys=>
  let t:=q0;let⟨w,ws,rfl,r1,r2⟩:=FL r;show Ps2 w ws ⟨rfl,y,τ,Γ,Y,_,r1,rs,hr,t,λσ' τ' H' Γ' s h r z=>?_,xr⟩;show Ps5 ys τ' Γ' Y Z ⟨r2.mono s.tq,r,h,z,nr.mono s,xr.mono s⟩
def C0{es:List Expr}(hc:X.calm=true)(h:Bo X es (Li E gs))
  (hn:(assignEach es X.env).length=n:=by rfl) (ym:(assignEach es X.env).findIdx? (·.1)=none:=by rfl):PG X (.Tuple es k pos) (EK E (kG n gs)):=
 bG (abT hc h hn ym) λv σ H Q x τ Γ Y Z r rs hr q0 nr xr=>by
  let⟨ts,e,l,t⟩:=q0;subst e;obtain⟨a,vs,rfl,ha,r⟩:=CD r;show Ps2 a vs ⟨rfl,eP.of ha,by rw[r.length];show l,ts,τ,Γ,Y,Z,r,rs,hr,t,nr,xr⟩
noncomputable abbrev lM(te:AN)(g:D5):CN:=λY D τ Γ=>te Y τ Γ λx Γ1=>g Y x τ Γ1 D.nx
def uR{te:AN}(D:Ends)(σ:St)(H:A5)(q:Cg E (lM te g) D σ H):SO (AE E te) (EK E g) D σ H:=by
 let⟨τ,Γ,Y,Z,rs,hr,t,dr,xr⟩:=q;show Ps4 τ Γ Y _ ⟨rs,hr,t,λv x H1 Γ1 s1 h1 r1 z1=>Ps5 x τ Γ1 Y _ ⟨r1,rs.mono s1.tq,h1,z1,dr.nx.mono s1,xr.mono s1⟩,xr⟩
def E2{e:Expr}{te:AN}(he:PE X e (AE E te))(hg:PG X tg (EK E g))(hs:swapsWithSole [tg] e pos.line X.env=pure false:=by rfl)(hw:swappedStores [tg] e X.env=pure none:=by rfl)
  (h1:(assignEach [tg] X.env).map (·.2)=[assign tg X.env]:=by rfl):PS X (.Assign [tg] e pos) (Cg E (lM te g)):=RX (rQ he hg hs hw h1) uR
noncomputable abbrev So(i:Nat)(te:AN):CN:=λY D τ Γ=>te Y τ Γ λx Γ1=>D.nx (Ln τ i (some x)) Γ1
def Tp{x:Str}{e:Expr}{te:AN}(hN:X.N.Nodup)(hi:X.N[i]?=some x)(hx:HN X.env.scope x)(he:PE X e (AE E te))(hs:swapsWith e (some (.Name x pos')) pos.line X.env=pure false:=by rfl)(hf:Fk X x:=by first|show .inl rfl|show .inr rfl|assumption):
  PS X (.Assign [.Name x pos'] e pos) (Cg E (So i te)):=HQ (zf hN hi hx he hs hf) λD σ H τ Γ Y Z rs hr t dr xr=>
   ⟨τ,Γ,Y,_,rs,hr,t,λv x H1 Γ1 s1 h1 r1 z1=>dr.nx _ _ H1 Γ1 s1 h1 ((rs.mono s1.tq).set r1 i) z1,xr⟩
abbrev wA(i:Nat)(te:AN)(r:F3):CN:=λY D τ Γ=>∃x,τ[i]?=some (some x)∧te Y τ Γ λy Γ1=>r x y Γ1 λz Γ2=>D.nx (Ln τ i (some z)) Γ2
def tQ{x:Str}{e:Expr}{te:AN}{op:Operator}{r3:F3}(hN:X.N.Nodup)(hi:X.N[i]?=some x)(hx:HN X.env.scope x)(he:PE X e (AE E te))(ho:BZ X (inplaceOp op) r3)(hf:Fk X x:=by first|show .inl rfl|show .inr rfl|assumption):
  PS X (.AugAssign (.Name x pos') op e pos) (Cg E (wA i te r3)):=by
 obtain⟨r,ho,h⟩:=ho;show RX (abx  hN hi hx he ho hf) λD σ H ξ=>Xi45 ξ λτ Γ Y Z rs hr q0 dr xr=>?_;let⟨x,e,t⟩:=q0;let⟨v,ev,rv⟩:=rs.get e;show⟨v,ev,τ,Γ,Y,_,rs,hr,t,λw y H1 Γ1 s1 h1 r1 z1=>?_,xr⟩;show h v w x y H1 Γ1 _ _ (rv.mono s1.tq) r1 h1 z1 λu z H2 Γ2 s2 h2 r2 z2=>?_;show dr.nx _ _ H2 Γ2 (s1.trans s2) h2 ((rs.mono (s1.trans s2).tq).set r2 i) z2
structure Walks(J:FX)(ts:List T)(gd:AR→Prop)(H0:A5):Prop where
 go:∀i H Γ,Tq H0 H→HR H Γ→gd Γ→i<ts.length→J.go i H
 qR:∀i H Γ x H',Tq H0 H→HR H Γ→gd Γ→i<ts.length→J.qR i H x H'→gq H Γ H' Γ∧HR H' Γ∧∃t,ts[i]?=some t∧R H' x t
 stop:∀H Γ,Tq H0 H→HR H Γ→gd Γ→J.stop ts.length H
abbrev I3:=GD→BJ→AR→(List T→(AR→Prop)→AR→Prop)→Prop
abbrev EB(E:St→BG)(wi:I3):DW:=λσ H Q=>∃τ Γ Y Z,RS H σ τ∧HR H Γ∧wi Y τ Γ Z∧(∀J ts gd H' Γ',gq H Γ H' Γ'→HR H' Γ'→Walks J ts gd H'→Z ts gd Γ'→Q J H')∧XR H Γ Y E
def JN{e:Expr}{t0:DW}{t:I3}(h:PI X tg e t0)(w:∀σ H Q τ Γ Y Z,RS H σ τ→HR H Γ→t Y τ Γ Z→(∀J ts gd H' Γ',gq H Γ H' Γ'→HR H' Γ'→Walks J ts gd H'→Z ts gd Γ'→Q J H')→XR H Γ Y E→t0 σ H Q):PI X tg e (EB E t):=
 mE h (by intro σ H Q⟨τ,Γ,Y,Z,rs,hr,q,vr,xr⟩;show w σ H Q τ Γ Y Z rs hr q vr xr)
abbrev me(gd:AR→Prop)(g:D5)(tb:CN)(Y:GD)(D:N1)(ts:List T)(τ:BJ)(Γ:AR):Prop:=∃P:List T→BJ→AR→Prop,P ts τ Γ∧(∀τ Γ,P [] τ Γ→gd Γ∧D.nx τ Γ)∧
 ∀x r τ Γ,P (x::r) τ Γ→gd Γ∧g Y x τ Γ λτ2 Γ2=>tb Y {D with nx:=P r,ct:=P r,bk:=D.nx} τ2 Γ2
noncomputable abbrev oT(wi:I3)(g:D5)(tb:CN):CN:=λY D τ Γ=>wi Y τ Γ λts gd Γ1=>me gd g tb Y D ts τ Γ1
def drop_cons{α:Type}{xs:List α}(h:i<xs.length):xs.drop i=xs[i]::xs.drop (i+1):=List.drop_eq_getElem_cons h
def Ed{iter:Expr}{body:List Stmt}{tb:CN}(hp:PassesOwn (model X.prog X.w) X.A X.env X.xe)(hc:X.calm=true)(hi:PI X tg iter (EB E wi))(hg:PG X tg (EK E g))(hb:mY X body (Cg E tb))
  (hs:∀x,foldedSetIterable iter X.env x=pure x:=by intro _;rfl):PS X (.For tg iter body [] pos) (Cg E (oT wi g tb)):=
 HQ (adE hp hc hi hg hb hs) λD σ H τ Γ Y Z rs hr t dr xr=>by
  show Ps4 τ Γ Y _ ⟨rs,hr,t,λJ ts gd H1 Γ1 s1 h1 wk ξ=>Xi13 ξ λP z1 p0 pc=>?_,xr⟩;show⟨λi m σ' H'=>∃τ' Γ',i≤ts.length∧m=ts.length-i∧RS H' σ' τ'∧HR H' Γ'∧gq H1 Γ1 H' Γ'∧P (ts.drop i) τ' Γ',Ps3 ts.length τ Γ1 ⟨E6 _,rfl,rs.mono s1.tq,h1,.refl,z1⟩,?_⟩;intro i m σ2 H2⟨τ2,Γ2,hi,rfl,wY,h2,s2,w2⟩;by_cases d0:i<ts.length
  ·rw[drop_cons d0]at w2
   let⟨g2,w2⟩:=pc _ _ _ _ w2;show .inr ⟨wk.go i H2 Γ2 s2.tq h2 g2 d0,λσ' H'=>∃τ' Γ',RS H' σ' τ'∧HR H' Γ'∧gq H1 Γ1 H' Γ'∧P (ts.drop (i+1)) τ' Γ',λσ' H' ξ=>Xi24 ξ λτ' Γ' a b c d=>⟨ts.length-(i+1),by lia,τ',Γ',d0,rfl,a,b,c,d⟩,λx H3 yl=>?_⟩;let⟨s3,h3,⟨x3,e3,r3⟩⟩:=wk.qR i H2 Γ2 x H3 s2.tq h2 g2 d0 yl;rw[BV d0]at e3;cases e3;show Ps5 _ τ2 Γ2 Y _ ⟨r3,wY.mono s3.tq,h3,w2,λσ4 τ4 H4 Γ4 s4 h4 r4 z4=>?_,xr.mono ((s1.trans s2).trans s3)⟩;let s5:=(s2.trans s3).trans s4;show Ps4 τ4 Γ4 Y _ ⟨r4,h4,z4,⟨λσ' τ' H' Γ' s h r z=>Ps2 τ' Γ' ⟨r,h,s5.trans s,z⟩,dr.rt.mono (s1.trans s5),dr.nx.mono (s1.trans s5),λσ' τ' H' Γ' s h r z=>Ps2 τ' Γ' ⟨r,h,s5.trans s,z⟩⟩,xr.mono (s1.trans s5)⟩
  ·let e:i=ts.length:=by lia
   subst e;rw[J0]at w2;let w2:=p0 _ _ w2;show .inl ⟨wk.stop H2 Γ2 s2.tq h2 w2.1,dr.nx σ2 τ2 H2 Γ2 (s1.trans s2) h2 wY w2.2⟩
abbrev Gx(own:List Str)(cap:List (Nat×Str))(τ:BJ):BJ:=List.replicate own.length none++cap.map λp=>(τ[p.1]?).getD none
def j4{H:A5}:∀{a:St} {b:BJ} {c:St} {d:BJ},RS H a b→RS H c d→RS H (a++c) (b++d)
 |[],[],_,_,_,h=>h
 |_::_,_::_,_,_,h,q=>⟨h.1,j4 h.2 q⟩
 |[],_::_,_,_,h,_=>h.elim
 |_::_,[],_,_,h,_=>h.elim
def jD{H:A5}:∀n:Nat,RS H (List.replicate n none) (List.replicate n none)
 |0=>trivial
 |n+1=>⟨trivial,jD n⟩
def NU{σ:St}{τ:BJ}(own:List Str)(h:RS H σ τ):∀cap:List (Nat×Str),RS H (FO own cap σ) (Gx own cap τ):=λcap=>by
 show j4 (jD _) ?_;induction cap with
 |nil=>show trivial
 |cons p r ih=>
  show⟨?_,ih⟩;show QR H ((σ[p.1]?).getD none) ((τ[p.1]?).getD none)
  cases e:τ[p.1]? with
  |none=>show trivial
  |some o=>
   cases o with
   |none=>show trivial
   |some x=>
    let⟨v,ev,rv⟩:=h.get e;rw[ev];show rv
noncomputable abbrev CG:GD:=λ_ _ _=>False
abbrev abh(gd:AR→Prop)(g:D5)(tc:Dc)(te:AN)(C:List T→AR→Prop)(ts:List T)(τ:BJ)(ys:List T)(Γ:AR):Prop:=∃P:List T→BJ→List T→AR→Prop,P ts τ ys Γ∧(∀τ ys Γ,P [] τ ys Γ→gd Γ∧C ys Γ)∧
 ∀x r τ ys Γ,P (x::r) τ ys Γ→gd Γ∧g CG x τ Γ λτ3 Γ3=>tc CG τ3 Γ3 λb Γ4=>if b=true then te CG τ3 Γ4 λy Γ5=>P r τ3 (ys++[y]) Γ5 else P r τ3 ys Γ4
noncomputable abbrev aa(wi:I3)(g:D5)(tc:Dc)(te:AN)(own:List Str)(cap:List (Nat×Str)):AN:=λY τ Γ Z=>wi Y τ Γ λts gd Γ1=>ts.length≤sizeLine∧
 abh gd g tc te (λys Γ2=>∀D,Γ2 D=none→Z (.ref D) (up Γ2 D (.lst ys))) ts (Gx own cap τ) [] Γ1
noncomputable abbrev C3:St→BG:=λ_=>J3
def F2:XR H Γ CG C3:=λ_ _ _ _ _ _ _ _ z=>z.elim
def fj{te:AN}{own:List Str}{cap:List (Nat×Str)}(σ:St)(H:A5)(Q:Ar)(q:AE E (aa wi g tc te own cap) σ H Q):Se (EB E wi) (EK C3 g) (Ce C3 tc) (AE C3 te) own cap σ H Q:=by
 let⟨τ,Γ,Y,Z,rs,hr,t,vr,xr⟩:=q;show Ps4 τ Γ Y _ ⟨rs,hr,t,λJ ts gd H1 Γ1 s1 h1 wk⟨hz,P,z1,p0,pc⟩=>?_,xr⟩;intro D hD;let nl:∀vs ,(∀us ,HO.lst vs≠.tup us)∧∀b w,HO.lst vs≠.frz b w:=λ_=>⟨λ_ z=>(nomatch z),λ_ _ z=>(nomatch z)⟩;show⟨λi m σ' vs H'=>∃τ' ys Γ',i≤ts.length∧m=ts.length-i∧vs.length≤i∧RS H' σ' τ'∧HR H' Γ'∧H' D=some (.lst vs)∧Γ' D=none∧Rs H' vs ys∧gq H1 Γ1 H' Γ'∧P (ts.drop i) τ' ys Γ',
  ⟨ts.length,Gx own cap τ,[],Γ1,E6 _,rfl,Ap _,(NU own (rs.mono s1.tq) cap).mono (DL (Cm hD)),h1.keep (Cm hD),Bu,h1.free hD,GB,.keep (Cm hD),z1⟩,?_⟩
 intro i m σ2 vs H2⟨τ2,ys,Γ2,hi,rfl,hv,wY,h2,d2,gD,ry,s2,w2⟩;show⟨d2,?_⟩;by_cases d0:i<ts.length
 ·rw[drop_cons d0]at w2
  let⟨g2,w2⟩:=pc _ _ _ _ _ w2;show .inr ⟨wk.go i H2 Γ2 s2.tq h2 g2 d0,by lia,λσ' ws H'=>∃τ' ys Γ',ws.length≤i+1∧RS H' σ' τ'∧HR H' Γ'∧H' D=some (.lst ws)∧Γ' D=none∧Rs H' ws ys∧gq H1 Γ1 H' Γ'∧P (ts.drop (i+1)) τ' ys Γ',
   λσ' ws H' ξ=>Xi38 ξ λτ' ys Γ' a b c d e f k l=>⟨ts.length-(i+1),by lia,τ',ys,Γ',d0,rfl,a,b,c,d,e,f,k,l⟩,λx H3 yl=>?_⟩
  let⟨s3,h3,⟨x3,e3,r3⟩⟩:=wk.qR i H2 Γ2 x H3 s2.tq h2 g2 d0 yl;rw[BV d0]at e3;cases e3;show Ps5 _ τ2 Γ2 CG _ ⟨r3,wY.mono s3.tq,h3,w2,λσ4 τ4 H4 Γ4 s4 h4 r4 z4=>?_,F2⟩;show Ps4 τ4 Γ4 CG _ ⟨r4,h4,z4,λk H5 Γ5 s5 h5 z5=>?_,F2⟩;let OU:=(s3.trans s4).trans s5;have d5  := OU.uJ D _ d2 gD;have g5  := OU.new D (by rw[d2];exactλz=>nomatch z) gD;cases k with
  |false=>show Ps3 τ4 ys Γ5 ⟨FV hv,r4.mono s5.tq,h5,d5,g5,ry.mono OU.tq,s2.trans OU,z5⟩
  |true=>
   show Ps4 τ4 Γ5 CG _ ⟨r4.mono s5.tq,h5,z5,λy y' H6 Γ6 s6 h6 r6 z6=>?_,F2⟩;let rS:=OU.trans s6;have d6  := rS.uJ D _ d2 gD;have g6  := rS.new D (by rw[d2];exactλz=>nomatch z) gD;let tq:Tq H6 (AM H6 D (.lst (vs++[y]))):=GO d6 (nl vs);show⟨d6,τ4,ys++[y'],Γ6,by rw[BP];show LX hv,(r4.mono (s5.trans s6).tq).mono tq,h6.hide g6 d6 (nl vs),Bu,g6,Rs.app ((ry.mono rS.tq).mono tq) (FP (r6.mono tq) GB),?_,z6⟩;let s7:=s2.trans rS;show⟨s7.tq.trans tq,λa h z=>?_,s7.new,λa o h g=>?_⟩
   ·by_cases e:a=D
    ·subst e;show h hD
    ·rw[B0 e]at z;show s7.v5 a h z
   ·let e:a≠D:=λe=>by subst e;rw[hD]at h;cases h
    rw[B0 e];show s7.uJ a o h g
 ·let e:i=ts.length:=by lia
  subst e;rw[J0]at w2;let w2:=p0 _ _ _ w2;show .inl ⟨wk.stop H2 Γ2 s2.tq h2 w2.1,?_⟩;let qW:=s1.trans s2;show vr (.ref D) (.ref D) H2 (up Γ2 D (.lst ys)) ⟨qW.tq,qW.v5,λa h g=>?_,qW.uJ⟩ (λa o g=>?_) Ep (w2.2 D gD)
  ·let e:a≠D:=λe=>by subst e;show s1.v5 _ h hD
   rw[BR e];show qW.new a h g
  ·by_cases e:a=D
   ·subst e;rw[Au]at g;cases g;show⟨vs,d2,ry⟩
   ·rw[BR e]at g;show h2 a o g
section
variable {scope: Scope}{cl: List (Str×Addr)}{own: List Str}{cap: List (Nat×Str)}{tg iter elt: Expr}{ifs: List Expr}{wi: I3}{g: D5}{tc: Dc}{te: AN}
def Dl(c:c9 X scope cl own cap)(hc:X.calm=true)(hi:PI X tg iter (EB E wi))
  (hg:∀C s H fp,PG (BK X (own++cap.map (·.2)) scope cl C s H fp λ_ _=>False) tg (EK C3 g)) (ht:∀C s H fp,wK (BK X (own++cap.map (·.2)) scope cl C s H fp λ_ _=>False) ifs (Ce C3 tc))
  (he:∀C s H fp,PE (BK X (own++cap.map (·.2)) scope cl C s H fp λ_ _=>False) elt (AE C3 te)) (hs:∀x,foldedSetIterable iter X.env x=pure x:=by intro _;rfl) :
  PE X (.ListComp elt [⟨tg,iter,ifs,0⟩] scope pos) (AE E (aa wi g tc te own cap)):=Fi (oW c hc hi hg ht he hs) fj
def Om{y:Str}{py Dv:Pos}(c:c9 X scope cl own cap)(hc:X.calm=true)(hi:PI X tg iter (EB E wi))
  (hg:∀C s H fp,PG (BK X (own++cap.map (·.2)) scope cl C s H fp λ_ _=>False) tg (EK C3 g)) (ht:∀C s H fp,wK (BK X (own++cap.map (·.2)) scope cl C s H fp λ_ _=>False) ifs (Ce C3 tc))
  (he:∀C s H fp,PE (BK X (own++cap.map (·.2)) scope cl C s H fp λ_ _=>False) elt (AE C3 te))
  (hN:X.N.Nodup) (hy:X.N[i]?=some y) (hl:X.env.scope.names.lookup y=some .local)
  (TQ:swapsWith (.ListComp elt [⟨tg,iter,ifs,0⟩] scope pos) (some (.Name y py)) Dv.line X.env=pure true:=by rfl) (hs:∀x,foldedSetIterable iter X.env x=pure x:=by intro _;rfl) :
  PS X (.Assign [.Name y py] (.ListComp elt [⟨tg,iter,ifs,0⟩] scope pos) Dv) (Cg E (So i (aa wi g tc te own cap))):=
 HQ (uw c hc hi hg ht he hN hy hl TQ hs) λD σ H τ Γ Y Z rs hr t dr xr=>
  fj σ H _ ⟨τ,Γ,Y,_,rs,hr,t,λv x H1 Γ1 s1 h1 r1 z1=>dr.nx _ _ H1 Γ1 s1 h1 ((rs.mono s1.tq).set r1 i) z1,xr⟩
noncomputable abbrev aaB:Dc:=λ_ _ Γ Z=>Z true Γ
def Di:wK X [] (Ce E aaB):=oE PIp λσ H Q τ Γ Y Z rs hr t vr xr=>vr true H Γ .refl hr t
def LM{t:Dc}(h:PT X c (Ce E t)):wK X [c] (Ce E t):=adF h
end
end
abbrev As:List Str→List T→BJ
 |[],_=>[]
 |_::N,[]=>none::As N []
 |_::N,t::ts=>some t::As N ts
def i8{H:A5}:∀N:List Str,RS H (List.replicate N.length none) (As N [])
 |[]=>trivial
 |_::N=>⟨trivial,i8 N⟩
def aI{H:A5}:∀(N:List Str) {vs:List V} {ts:List T},Rs H vs ts→ts.length≤N.length→RS H (L2.start N vs) (As N ts)
 |N,vs,[],h,_=>by
  rw[Fq h];show i8 N
 |[],vs,t::ts,h,l=>absurd l (by simp)
 |n::N,vs,t::ts,h,l=>by
  let⟨v,ws,rfl,a,b⟩:=FL h;have:=aI N b (by simpa using l);show⟨a,?_⟩;rw[Bb,Bb,Nat.add_sub_add_right];show this
def gV{sc:Scope}(S:Av N ps sc):ps.length≤N.length:=by
 have:=DT List.length S.pre;rw[DD]at this;lia
section
variable {x: Str}{C: Addr}{Kb: List Value}{B newId zI: String}{e₀: Expr}{v6: List Expr}{t: Ca}{E: BG}
noncomputable abbrev nM(C:Addr)(t:Ca):CN:=λY D τ Γ=>t Y τ Γ λxs Γ1=>xs.length≤sizeLine∧Y τ (.ref C) Γ1
def YA(hc:X.calm=true)(hg:Bs X x)(hm:X.mg x=some (.ref C))(hx:W.excIn X.K C Kb newId=true)(FB:ExcBaseFacts B newId zI Kb)(ha:PA X (e₀::v6) (De (λ_=>E) t))(hE:Raises X E)
  (hd:(x ==("__debug__" : Str))=false:=by decide) (he:starEach (e₀::v6) X.env=(false,eval e₀ X.env)::starEach v6 X.env:=by rfl) (iE:(backTo eX (starEach v6 X.env)).any (·.1)=false:=by rfl) :
  PS X (.Raise (some (.Call (.Name x np) (e₀::v6) [] eX)) none pos) (Cg (λ_=>E) (nM C t)):=
 HQ (vh hc hg hm hx FB ha hE hd he iE) λD σ H τ Γ Y Z rs hr t dr xr=>
  ⟨τ,Γ,Y,_,rs,hr,t,λvs xs H1 Γ1 s1 h1 r1 z1=>⟨by rw[r1.length];show z1.1,xr σ τ _ H1 Γ1 s1 h1 (rs.mono s1.tq) z1.2⟩,xr⟩
end
section
variable {body pS: List Stmt}{b₀: Stmt}{y: Str}{zJ: Pos}{Cy: Addr}{tb ts: CN}
abbrev gA(K:W.Frag)(Cy:Addr)(tb ts:CN):CN:=λ_ D τ Γ=>tb (λτ' C Γ'=>W.exmOne K C (.ref Cy)=some true∧ts CG D τ' Γ') D τ Γ
def xB(ym:X.stack=X.env::X.outer)(Iv:X.env.frame=some X.env.locals)(hy:Bs X y)(Qb:X.mg y=some (.ref Cy))
  (hb:∀(E':xz) (pn:ac) (W:St→BG),(∀v4 σ H s e s',Inv (X.tr E' pn) v4 σ H s→G6 X.prog X.w X.stack H s (W σ) e s'→E' e s')→mY (X.tr E' pn) body (Cg W tb))
  (hs:∀x,mY (X.su x) (b₀::pS) (Cg C3 ts)) (hd:(y ==("__debug__" : Str))=false:=by decide) :
  PS X (.Try body [.ExceptHandler (some (.Name y np)) none (b₀::pS) zJ] [] [] pos) (Cg E (gA X.K Cy tb ts)):=
 HQ (oS ym Iv hy Qb hb hs hd) λD σ H τ Γ Y Z rs hr t dr xr=>
  ⟨τ,Γ,_,Z,rs,hr,t,dr,λσ1 τ1 C H1 Γ1 s1 h1 r1 y1=>⟨y1.1,_,_,CG,_,r1,h1,y1.2,dr.mono s1,F2⟩⟩
end
abbrev sc:T→Option V
 |.non=>some .non|.bl b=>some (.bl b)|.int i=>some (.int i)|.str z=>some (.str z)|_=>none
def IX{u:V}(r:R H v x)(h:sc x=some u):v=u:=by
 cases x with
 |non=>cases h;show JC r
 |bl b=>cases h;show HG r
 |int i=>cases h;show Cb r
 |str z=>cases h;show Bz r
 |tup ts=>cases h
 |ref a=>cases h
 |ty n=>cases h
 |scr K a ts=>cases h
abbrev JD:List T→Option (List V)
 |[]=>some []
 |x::r=>match sc x,JD r with|some v,some vs=>some (v::vs)|_,_=>none
def cK{H:A5}:∀{ts:List T} {vs us:List V},Rs H vs ts→JD ts=some us→vs=us
 |[],vs,us,r,h=>by cases h;show Fq r
 |x::q,vs,us,r,h=>by
  let⟨v,ws,rfl,a,b⟩:=FL r;unfold JD at h;split at h
  ·rename_i v' Bx e1 e2
   cases h;rw[IX a e1,cK b e2]
  ·cases h
abbrev FY(Γ:AR):T→Option (List T)
 |.tup ts=>some ts
 |.ref a=>match Γ a with|some (.lst ts)=>some ts|_=>none
 |_=>none
def BD(h:Γ a=some (.lst ts)):FY Γ (.ref a)=some ts:=by
 show(match Γ a with|some (.lst ts)=>some ts|_=>none)=_
 rw[h]
def I0(hr:HR H Γ)(h:FY Γ (.ref a)=some ts):∃vs,jI K H a vs∧Rs H vs ts:=by
 have h:(match Γ a with|some (.lst ts)=>some ts|_=>none)=some ts:=h;split at h
 ·rename_i ts' g;cases h;let⟨vs,ha,q⟩:=hr a _ g;show⟨vs,jI.of ha,q⟩
 ·cases h
def SI(r:R H v x)(hr:HR H Γ)(h:FY Γ x=some ts):∃p vs,v=.ref p∧(jI K H p vs∨eP K H p vs)∧Rs H vs ts:=by
 cases x with
 |tup us=>cases h;let⟨a,vs,e,ha,q⟩:=CD r;show Ps2 a vs ⟨e,.inr (eP.of ha),q⟩
 |ref a=>obtain⟨vs,s,q⟩:=I0 hr h;show Ps2 a vs ⟨BY r,.inl s,q⟩
 |_=>cases h
section
abbrev JI(C:Int→Int→Prop)(g:Int→Int→T):F3:=λx y Γ Z=>Ei x λi=>Ei y λj=>C i j∧Z (g i j) Γ
noncomputable abbrev xF(g:Int→Int→T):F3:=λx y Γ Z=>Ei x λi=>Ei y λj=>Z (g i j) Γ
def M1{g:Int→Int→V}(h:iL X f (Jz C g))(e:∀i j H,R H (g i j) (g3 i j)):BZ X f (JI C g3):=
 ⟨_,h,λx y a b H Γ Q Z ra rb hr q0 vr=>by let⟨i,rfl,q1⟩:=Kl q0;let⟨j,rfl,c,z⟩:=Kl q1;show Ps2 i j ⟨Cb ra,Cb rb,c,vr _ _ H Γ .refl hr (e i j H) z⟩⟩
def Mr{g:Int→Int→V}(h:iL X f (IZ g))(e:∀i j H,R H (g i j) (g3 i j)):BZ X f (xF g3):=
 ⟨_,h,λx y a b H Γ Q Z ra rb hr q0 vr=>by let⟨i,rfl,q1⟩:=Kl q0;let⟨j,rfl,z⟩:=Kl q1;show Ps2 i j ⟨Cb ra,Cb rb,vr _ _ H Γ .refl hr (e i j H) z⟩⟩
def DO:BZ X (binaryOp .Add) (λx y Γ Z=>Ei x λi=>Ei y λj=>Z (.int (i+j)) Γ):=Mr vC λ_ _ _=>Dy
def L8:BZ X (binaryOp .Sub) (λx y Γ Z=>Ei x λi=>Ei y λj=>Z (.int (i-j)) Γ):=Mr t9 λ_ _ _=>Dy
def Hf:BZ X (binaryOp .Mult) (JI Cs λi j=>.int (i*j)):=M1 qD λ_ _ _=>Dy
def DA:BZ X (binaryOp .FloorDiv) (JI Bt λi j=>.int (i/j)):=M1 acL λ_ _ _=>Dy
def BH:BZ X (binaryOp .Mod) (JI (λ_ j=>0<j) λi j=>.int (i%j)):=M1 xx λ_ _ _=>Dy
def Mg:BZ X (binaryOp .Pow) (JI lR λi j=>.int (i^j.toNat)):=M1 abD λ_ _ _=>Dy
def K9:BZ X (compareOp .Lt) (λx y Γ Z=>Ei x λi=>Ei y λj=>Z (.bl (decide (i<j))) Γ):=Mr rD λ_ _ _=>Cr
def FQ:BZ X (compareOp .LtE) (λx y Γ Z=>Ei x λi=>Ei y λj=>Z (.bl (decide (i≤j))) Γ):=Mr aaA λ_ _ _=>Cr
def K7:BZ X (compareOp .Gt) (λx y Γ Z=>Ei x λi=>Ei y λj=>Z (.bl (decide (j<i))) Γ):=Mr ab2 λ_ _ _=>Cr
def xt:BZ X (inplaceOp .Mult) (JI Cs λi j=>.int (i*j)):=M1 xE λ_ _ _=>Dy
def Ju:BZ X (binaryOp .Add) (λx y Γ Z=>∃i j,x=.str i∧y=.str j∧i.length+j.length≤sizeLine∧Z (.str (i++j)) Γ):=
 ⟨_,uI,λx y a b H Γ Q Z ra rb hr q0 vr=>by let⟨i,j,ea,eb,c,z⟩:=q0;subst ea eb;show Ps2 i j ⟨Bz ra,Bz rb,c,vr _ _ H Γ .refl hr IU z⟩⟩
def rJ:BZ X (compareOp .In) (λx y Γ Z=>∃i j,x=.str i∧y=.str j∧Z (.bl (!(Builtin.Str.occurrences j i 0 j.length 1).isEmpty)) Γ):=
 ⟨_,zU,λx y a b H Γ Q Z ra rb hr q0 vr=>by let⟨i,j,ea,eb,z⟩:=q0;subst ea eb;show Ps2 i j ⟨Bz ra,Bz rb,vr _ _ H Γ .refl hr Cr z⟩⟩
@[reducible] def dX:Nat→T→T→(Bool→Prop)→Prop
 |0,x,y,k=>∃u v,sc x=some u∧sc y=some v∧Pu u v=true∧k (decide (u=v))
 |_+1,.str a,.str b,k=>k (decide (V.str a=V.str b))
 |_+1,.int a,.int b,k=>k (decide (V.int a=V.int b))
 |_+1,.str _,.int _,k=>k false
 |_+1,.int _,.str _,k=>k false
 |n+1,x,y,k=>dX n x y k
noncomputable abbrev isEq:T→T→(Bool→Prop)→Prop:=dX 1
def jx{k:Bool→Prop}(h:isEq x y k):∃u v,sc x=some u∧sc y=some v∧Pu u v=true∧k (decide (u=v)):=by
 cases x<;>cases y<;>first|show h|show Ps2 _ _ ⟨rfl,rfl,rfl,h⟩
noncomputable abbrev qz:F3:=λx y Γ Z=>isEq x y λb=>Z (.bl b) Γ
noncomputable abbrev zr:F3:=λx y Γ Z=>isEq x y λb=>Z (.bl (!b)) Γ
def CO:BZ X (compareOp .Eq) qz:=
 ⟨_,zW,λx y a b H Γ Q Z ra rb hr q0 vr=>by let⟨u,v,ea,eb,c,z⟩:=jx q0;rw[IX ra ea,IX rb eb];show⟨c,vr _ _ H Γ .refl hr Cr z⟩⟩
def Ee:BZ X (compareOp .NotEq) zr:=
 ⟨_,vt,λx y a b H Γ Q Z ra rb hr q0 vr=>by let⟨u,v,ea,eb,c,z⟩:=jx q0;rw[IX ra ea,IX rb eb];show⟨c,vr _ _ H Γ .refl hr Cr z⟩⟩
abbrev Gs:T→Bool|.non=>true|_=>false
def dO(r:R H v x):decide (v=.non)=Gs x:=by
 cases x with
 |non=>rw[JC r];rfl
 |bl b=>rw[HG r];rfl
 |int i=>rw[Cb r];rfl
 |str z=>rw[Bz r];rfl
 |tup ts=>let⟨a,vs,e,_⟩:=CD r;rw[e];rfl
 |ref a=>rw[BY r];rfl
 |ty n=>rw[abG r];rfl
 |scr K a ts=>rw[(aD r).1];rfl
def MY:BZ X (compareOp .Is) (λx y Γ Z=>y=.non∧Z (.bl (Gs x)) Γ):=
 ⟨_,nH,λx y a b H Γ Q Z ra rb hr q0 vr=>by let⟨eb,z⟩:=q0;subst eb;show⟨JC rb,by rw[dO ra];show vr _ _ H Γ .refl hr Cr z⟩⟩
def QL:BZ X (compareOp .IsNot) (λx y Γ Z=>y=.non∧Z (.bl (!Gs x)) Γ):=
 ⟨_,qM,λx y a b H Γ Q Z ra rb hr q0 vr=>by let⟨eb,z⟩:=q0;subst eb;show⟨JC rb,by rw[dO ra];show vr _ _ H Γ .refl hr Cr z⟩⟩
abbrev KQ(neg:Bool):F3:=λx y Γ Z=>∃u ts us,sc x=some u∧FY Γ y=some ts∧JD ts=some us∧EN u=true∧us.all EN=true∧Z (.bl (if neg then !Dk u us else Dk u us)) Γ
def fJ(x y:V)(a b:T)(H:A5)(Γ:AR)(Q:Ar)(Z:EG)(ra:R H x a)(rb:R H y b)(hr:HR H Γ)(h:KQ neg a b Γ Z)(vr:VR H Γ Z Q):XS X.K neg x y H Q:=by
 let⟨u,ts,us,ea,eb,es,f1,f2,z⟩:=h;obtain⟨p,vs,rfl,sq,q⟩:=SI rb hr eb;rw[IX ra ea];cases cK q es;show Ps2 p _ ⟨rfl,sq,f1,f2,vr _ _ H Γ .refl hr Cr z⟩
def RN:BZ X (compareOp .In) (KQ false):=⟨_,dM,fJ⟩
def Ov:BZ X (compareOp .NotIn) (KQ true):=⟨_,iP,fJ⟩
def Ot(q:Rs H vs ts):vs.isEmpty=ts.isEmpty:=by
 have:=q.length;cases vs<;>cases ts<;>simp_all
def kJ(hu:X.A.units<cLine):BZ X (compareOp .NotEq) (λx y Γ Z=>∃a b ts,x=.ref a∧y=.ref b∧Γ a=some (.lst ts)∧Γ b=some (.lst [])∧Z (.bl (!ts.isEmpty)) Γ):=
 ⟨_,adK hu,λx y a b H Γ Q Z ra rb hr q0 vr=>by
  let⟨p,p',ts,ea,eb,g1,g2,z⟩:=q0;subst ea eb;let⟨vs,hv,q⟩:=hr p _ g1;let⟨Bx,B4,q'⟩:=hr p' _ g2;rw[Fq q']at B4;show Ps3 p p' vs ⟨BY ra,BY rb,jI.of hv,jI.of B4,by rw[Ot q];show vr _ _ H Γ .refl hr Cr z⟩⟩
def aZ(k:Kp [] H H'):∀b o,H b=some o→H' b=some o:=λb o h=>k b o (by simp) h
abbrev acM:F3:=λx y Γ Z=>∃a b ts us,x=.ref a∧y=.ref b∧Γ a=some (.lst ts)∧Γ b=some (.lst us)∧ts.length+us.length≤sizeLine∧∀p,Γ p=none→Z (.ref p) (up Γ p (.lst (ts++us)))
def Hu:BZ X (binaryOp .Add) acM:=
 ⟨_,sT,λx y a b H Γ Q Z ra rb hr q0 vr=>by
  let⟨p,p',ts,us,ea,eb,g1,g2,l,z⟩:=q0;subst ea eb;let⟨vs,hv,q⟩:=hr p _ g1;let⟨Bx,B4,q'⟩:=hr p' _ g2;show Ps4 p p' vs Bx ⟨BY ra,BY rb,hv,B4,by rw[q.length,q'.length];show l,λc hc=>?_⟩;let k:=Cm (o:=.lst (vs++Bx)) hc;show vr _ _ _ _ (.make hc) (hr.make (o3:=.lst (ts++us)) hc ⟨_,Bu,Rs.app (q.mono (DL k)) (q'.mono (DL k))⟩) Ep (z c (hr.free hc))⟩
def acn{i:Int}(q:Rs H vs ts)(h:CR ts i=some t):∃v,CR vs i=some v∧R H v t:=by
 unfold CR at h ⊢;rw[q.length];cases e:JM ts.length i with
 |none=>rw[e]at h;cases h
 |some j=>
  rw[e]at h;have h'  := h;let⟨v,hv,r⟩:=q.get h';show⟨v,hv,r⟩
abbrev IG:F3:=λx y Γ Z=>∃ts i t,FY Γ x=some ts∧y=.int i∧CR ts i=some t∧Z t Γ
abbrev bw:F3:=λx y Γ Z=>∃z i c,x=.str z∧y=.int i∧z.length≤sizeLine∧CR z.cps.toList i=some c∧Z (.str ⟨#[c]⟩) Γ
variable {a b e: Expr}{ta te: AN}{p2: Pos}
def aaZ(ha:PE X a (AE E ta))(hb:PE X b (AE E tb))(hs:LR b):PE X (.Subscript a b pos) (AE E (Hd IG ta tb)):=
 Fi (jg abJ ha hb hs) (Ml λx y a b H Γ Q Z ra rb hr q0 vr=>by
  let⟨ts,i,t,ea,eb,h,z⟩:=q0;subst eb;obtain⟨p,vs,rfl,sq,q⟩:=SI ra hr ea;let⟨v,hv,r⟩:=acn q h;rcases sq with sq|sq
  ·show .inl ⟨p,vs,i,v,rfl,Cb rb,sq,hv,vr _ _ H Γ .refl hr r z⟩
  ·show .inr (.inl ⟨p,vs,i,v,rfl,Cb rb,sq,hv,vr _ _ H Γ .refl hr r z⟩))
def aaY(ha:PE X a (AE E ta))(hb:PE X b (AE E tb))(hs:LR b):PE X (.Subscript a b pos) (AE E (Hd bw ta tb)):=
 Fi (jg cE ha hb hs) (Ml λx y a b H Γ Q Z ra rb hr q0 vr=>by
  let⟨w,i,c,ea,eb,l,h,z⟩:=q0;subst ea eb;show Ps3 w i c ⟨Bz ra,Cb rb,l,h,vr _ _ H Γ .refl hr IU z⟩)
abbrev LI:=GD→BJ→AR→(Option Int→AR→Prop)→Prop
abbrev MQ(E:St→BG)(t:LI):IE:=λσ H Q=>∃τ Γ Y Z,RS H σ τ∧HR H Γ∧t Y τ Γ Z∧(∀i H' Γ',gq H Γ H' Γ'→HR H' Γ'→Z i Γ'→Q i H')∧XR H Γ Y E
def zR{e:Option Expr}{t t':IE}(h:PO X e t)(w:∀σ H Q,t' σ H Q→t σ H Q):PO X e t':=⟨λv4 s σ H Q I q=>h.run v4 s σ H Q I (w _ _ _ q)⟩
def cw{e:Option Expr}{t0:IE}{t:LI}(h:PO X e t0)(w:∀σ H Q τ Γ Y Z,RS H σ τ→HR H Γ→t Y τ Γ Z→(∀i H' Γ',gq H Γ H' Γ'→HR H' Γ'→Z i Γ'→Q i H')→XR H Γ Y E→t0 σ H Q):PO X e (MQ E t):=
 zR h (by intro σ H Q⟨τ,Γ,Y,Z,rs,hr,q,vr,xr⟩;show w σ H Q τ Γ Y Z rs hr q vr xr)
noncomputable abbrev yP:LI:=λ_ _ Γ Z=>Z none Γ
noncomputable abbrev aaG(t:AN):LI:=λY τ Γ Z=>t Y τ Γ λx Γ1=>Ei x λi=>Z (some i) Γ1
def Ef:PO X none (MQ E yP):=cw vU λσ H Q τ Γ Y Z rs hr t vr xr=>vr none H Γ .refl hr t
def CF(h:PE X e (AE E te)):PO X (some e) (MQ E (aaG te)):=cw (ads h) λσ H Q τ Γ Y Z rs hr t vr xr=>
 ⟨τ,Γ,Y,_,rs,hr,t,λv x H1 Γ1 s1 h1 r1 q0=>by let⟨i,rfl,z⟩:=Kl q0;show⟨i,Cb r1,vr _ H1 Γ1 s1 h1 z⟩,xr⟩
abbrev SD:=T→Option Int→Option Int→AR→EG→Prop
abbrev Oc(X:Cx)(r3:SD):Prop:=∃r,JP X r∧∀x a lo hi H Γ Q Z,R H x a→HR H Γ→r3 a lo hi Γ Z→VR H Γ Z Q→r x lo hi H Q
noncomputable abbrev xb(r:SD)(te:AN)(tl th:LI):AN:=λY τ Γ Z=>te Y τ Γ λx Γ1=>tl Y τ Γ1 λl Γ2=>th Y τ Γ2 λu Γ3=>r x l u Γ3 Z
def DB{r3:SD}{lo hi:Option Expr}{tl th:LI}(hs:Oc X r3)(he:PE X e (AE E te))(hl:PO X lo (MQ E tl))(hu:PO X hi (MQ E th)):PE X (.Subscript e (.Slice lo hi none p2) pos) (AE E (xb r3 te tl th)):=by
 let⟨r,YK,sim⟩:=hs;show EF (xO YK he hl hu) λσ H Q τ Γ Y Z rs hr t vr xr=>?_;show Ps4 τ Γ Y _ ⟨rs,hr,t,λv x H1 Γ1 s1 h1 r1 z1=>?_,xr⟩;show Ps4 τ Γ1 Y _ ⟨rs.mono s1.tq,h1,z1,λl H2 Γ2 s2 h2 z2=>?_,xr.mono s1⟩;show Ps4 τ Γ2 Y _ ⟨rs.mono (s1.trans s2).tq,h2,z2,λu H3 Γ3 s3 h3 z3=>?_,xr.mono (s1.trans s2)⟩;show sim v x l u H3 Γ3 Q Z (r1.mono (s2.trans s3).tq) h3 z3 (vr.mono ((s1.trans s2).trans s3))
def gg{lo hi:Option Int}(q:Rs H vs ts):Rs H (GJ vs lo hi) (Cu ts lo hi):=by
 unfold GJ Cu;rw[q.length];show Rs.take _ (Rs.drop _ q)
def Lf:Oc X (λx lo hi Γ Z=>∃ts,x=.tup ts∧Z (.tup (Cu ts lo hi)) Γ):=
 ⟨_,adA,λx a lo hi H Γ Q Z ra hr q0 vr=>by
  let⟨ts,ea,z⟩:=q0;subst ea;let⟨p,vs,rfl,hp,q⟩:=CD ra;show Ps2 p vs ⟨rfl,hp,λc H' k hc=>vr _ _ H' Γ (.keep (aZ k)) (hr.keep (aZ k)) (Jq hc (gg (q.mono (DL (aZ k))))) z⟩⟩
def F9:Oc X (λx lo hi Γ Z=>∃a ts,x=.ref a∧Γ a=some (.lst ts)∧∀p,Γ p=none→Z (.ref p) (up Γ p (.lst (Cu ts lo hi)))):=
 ⟨_,ab8,λx a lo hi H Γ Q Z ra hr q0 vr=>by
  let⟨p,ts,ea,g,z⟩:=q0;subst ea;let⟨vs,hv,q⟩:=hr p _ g;show Ps2 p vs ⟨BY ra,jI.of hv,λc hc=>?_⟩;let k:=Cm (o:=.lst (GJ vs lo hi)) hc;show vr _ _ _ _ (.make hc) (hr.make (o3:=.lst (Cu ts lo hi)) hc ⟨_,Bu,gg (q.mono (DL k))⟩) Ep (z c (hr.free hc))⟩
def az:Oc X (λx lo hi Γ Z=>∃z:Str,x=.str z∧z.length≤sizeLine∧∀y:Str,y.cps.toList=Cu z.cps.toList lo hi→Z (.str y) Γ):=
 ⟨_,eqT,λx a lo hi H Γ Q Z ra hr q0 vr=>by
  let⟨w,ea,l,z⟩:=q0;subst ea;show⟨w,Bz ra,l,λy hy=>vr _ _ H Γ .refl hr IU (z y hy)⟩⟩
noncomputable abbrev cV(r:T→AR→EG→Prop)(te ts:AN):AN:=λY τ Γ Z=>te Y τ Γ λx Γ1=>ts Y τ Γ1 λk Γ2=>k=.int (-1)∧r x Γ2 Z
noncomputable abbrev aas(r:T→AR→EG→Prop)(ta:AN):AN:=λY τ Γ Z=>ta Y τ Γ λx Γ1=>r x Γ1 Z
def Tw(ha:PE X a (AE E ta)):PE X (.UnaryOp .USub a pos) (AE E (aas (λx Γ Z=>Ei x λi=>Z (.int (-i)) Γ) ta)):=
 EF (sG ab7 ha) λσ H Q τ Γ Y Z rs hr t vr xr=>
  ⟨τ,Γ,Y,_,rs,hr,t,λv x H1 Γ1 s1 h1 r1 q0=>by let⟨i,rfl,z⟩:=Kl q0;show⟨i,Cb r1,vr _ _ H1 Γ1 s1 h1 Dy z⟩,xr⟩
abbrev QP:=List T→AR→EG→Prop
abbrev FU(X:Cx)(f:Value)(r3:QP):Prop:=∃r,Fb X f r∧∀vs ts H Γ Q Z,Rs H vs ts→HR H Γ→r3 ts Γ Z→VR H Γ Z Q→r vs H Q
noncomputable abbrev SQ(r:QP)(t:Ca):AN:=λY τ Γ Z=>t Y τ Γ λts Γ1=>r ts Γ1 Z
def kc{r:List V→A5→Ar→Prop}{r3:QP}{t:Ca}(h:∀vs ts H Γ Q Z,Rs H vs ts→HR H Γ→r3 ts Γ Z→VR H Γ Z Q→r vs H Q)(σ:St)(H:A5)(Q:Ar)(q:AE E (SQ r3 t) σ H Q):QZ r (De E t) σ H Q:=by
 let⟨τ,Γ,Y,Z,rs,hr,t,vr,xr⟩:=q;show Ps4 τ Γ Y _ ⟨rs,hr,t,λvs xs H1 Γ1 s1 h1 r1 z1=>h vs xs H1 Γ1 Q Z r1 h1 z1 (vr.mono s1),xr⟩
section
variable {x: Str}{p: Pos}{e: Expr}{t: Ca}{id: String}{r3: QP}
def Aw(hc:FU X (.builtin id) r3)(hg:Bs X x)(hm:X.mg x=none)(hv:bootBuiltins x=some (.builtin id))(ha:PA X (e::es) (De E t))(hn:x ≠ "__name__" := by decide)(qK:(x ==("__debug__" : Str))=false:=by decide)
  (he:starEach (e::es) X.env=(false,eval e X.env)::starEach es X.env:=by rfl) (iE:(backTo pos (starEach es X.env)).any (·.1)=false:=by rfl):PE X (.Call (.Name x p) (e::es) [] pos) (AE E (SQ r3 t)):=by
 let⟨r,hr,h⟩:=hc;show Fi (jy hr hg hm hv ha hn qK he iE) (kc h)
def Lu(hc:FU X (.type Tn) r3)(hg:Bs X x)(hm:X.mg x=none)(hv:bootBuiltins x=some (.type Tn))(ha:PA X (e::es) (De E t))(hn:x ≠ "__name__" := by decide)(qK:(x ==("__debug__" : Str))=false:=by decide)
  (he:starEach (e::es) X.env=(false,eval e X.env)::starEach es X.env:=by rfl) (iE:(backTo pos (starEach es X.env)).any (·.1)=false:=by rfl):PE X (.Call (.Name x p) (e::es) [] pos) (AE E (SQ r3 t)):=by
 let⟨r,hr,h⟩:=hc;show Fi (adu hr hg hm hv ha hn qK he iE) (kc h)
end
def E4(h:Rs H vs [x]):∃v,vs=[v]∧R H v x:=by
 let⟨v,ws,rfl,a,b⟩:=FL h;show⟨v,by rw[Fq b],a⟩
def wY(h:Rs H vs [x,y]):∃v w,vs=[v,w]∧R H v x∧R H w y:=by
 let⟨v,ws,rfl,a,b⟩:=FL h;let⟨w,rfl,c⟩:=E4 b;show Ps2 v w ⟨rfl,a,c⟩
def Bi:FU X (.builtin "len") (λxs Γ Z=>∃x ts,xs=[x]∧FY Γ x=some ts∧Z (.int ts.length) Γ):=
 ⟨_,Wx,λvs xs H Γ Q Z r hr q0 vr=>by
  let⟨x,ts,e,h,z⟩:=q0;subst e;let⟨v,rfl,rv⟩:=E4 r;obtain⟨p,us,rfl,sq,q⟩:=SI rv hr h;show Ps2 p us ⟨rfl,sq,by rw[q.length];show vr _ _ H Γ .refl hr Dy z⟩⟩
def US:FU X (.builtin "len") (λxs Γ Z=>∃z:Str,xs=[.str z]∧z.length≤sizeLine∧Z (.int z.length) Γ):=
 ⟨_,abA,λvs xs H Γ Q Z r hr q0 vr=>by
  let⟨w,e,l,z⟩:=q0;subst e;let⟨v,rfl,rv⟩:=E4 r;show⟨w,by rw[Bz rv],l,vr _ _ H Γ .refl hr Dy z⟩⟩
def bA:FU X (.type "tuple") (λxs Γ Z=>∃x ts,xs=[x]∧FY Γ x=some ts∧Z (.tup ts) Γ):=
 ⟨_,xi,λvs xs H Γ Q Z r hr q0 vr=>by
  let⟨x,ts,e,h,z⟩:=q0;subst e;let⟨v,rfl,rv⟩:=E4 r;cases x with
  |tup us=>
   cases h;let⟨a,ws,rfl,ha,q⟩:=CD rv;show Ps2 a ws ⟨rfl,.inr ⟨eP.of ha,vr _ _ H Γ .refl hr (Jq ha q) z⟩⟩
  |ref a=>
   obtain⟨us,sq,q⟩:=I0 hr h;show Ps2 a us ⟨by rw[BY rv],.inl ⟨sq,λl hl=>?_⟩⟩;let k:=Cm (o:=.tup us) hl;show vr _ _ _ Γ (.keep k) (hr.keep k) (Jq Bu (q.mono (DL k))) z
  |_=>cases h⟩
def sL:FU X (.builtin "ord") (λxs Γ Z=>∃x:Str,xs=[.str x]∧x.length=1∧Z (.int (x.cps.getD 0 0:Nat)) Γ):=
 ⟨_,mJ,λvs xs H Γ Q Z r hr q0 vr=>by
  let⟨i,e,l,z⟩:=q0;subst e;let⟨v,rfl,a⟩:=E4 r;show⟨i,by rw[Bz a],l,vr _ _ H Γ .refl hr Dy z⟩⟩
def Xo{H:A5}:∀{ns:List Bool} {vs:List V},Rs H vs (ns.map T.bl)→vs=ns.map V.bl
 |[],vs,h=>Fq h
 |n::r,vs,h=>by
  let⟨v,ws,rfl,a,b⟩:=FL h;rw[HG a,Xo b];rfl
def R0{H:A5}:∀{ns:List Str} {vs:List V},Rs H vs (ns.map T.str)→vs=ns.map V.str
 |[],vs,h=>Fq h
 |n::r,vs,h=>by
  let⟨v,ws,rfl,a,b⟩:=FL h;rw[Bz a,R0 b];rfl
def FI(hc:X.calm=true):FU X (.builtin "all") (λxs Γ Z=>∃(p:Addr) (bs:List Bool),xs=[.ref p]∧FY Γ (.ref p)=some (bs.map T.bl)∧Z (.bl (bs.all id)) Γ):=
 ⟨_,acp hc,λvs xs H Γ Q Z r hr q0 vr=>by
  let⟨p,ns,e,g,z⟩:=q0;subst e;let⟨v,rfl,a⟩:=E4 r;obtain⟨us,sq,q⟩:=I0 hr g;rw[Xo q]at sq;show Ps2 p ns ⟨by rw[BY a],sq,vr _ _ H Γ .refl hr Cr z⟩⟩
def fP(hc:X.calm=true):FU X (.builtin "any") (λxs Γ Z=>∃(p:Addr) (bs:List Bool),xs=[.ref p]∧FY Γ (.ref p)=some (bs.map T.bl)∧Z (.bl (bs.any id)) Γ):=
 ⟨_,vG hc,λvs xs H Γ Q Z r hr q0 vr=>by
  let⟨p,ns,e,g,z⟩:=q0;subst e;let⟨v,rfl,a⟩:=E4 r;obtain⟨us,sq,q⟩:=I0 hr g;rw[Xo q]at sq;show Ps2 p ns ⟨by rw[BY a],sq,vr _ _ H Γ .refl hr Cr z⟩⟩
abbrev Fv(Γ:AR):T→Option String
 |.non=>some "NoneType" |.bl _=>some "bool" |.int _=>some "int" |.str _=>some "str" |.tup _=>some "tuple"
 |.ref a=>match Γ a with|some (.lst _)=>some "list" |some (.dK _)=>some "dict" |_=>none
 |.ty _=>none
 |.scr _ _ _=>none
def si{n:String}(r:R H v x)(hr:HR H Γ)(h:Fv Γ x=some n):FH K H v (.type n):=by
 cases x with
 |non=>cases h;rw[JC r];show .non
 |bl b=>cases h;rw[HG r];show .bl b
 |int i=>cases h;rw[Cb r];show .int i
 |str z=>cases h;rw[Bz r];show .str z
 |tup ts=>cases h;let⟨a,vs,e,ha,_⟩:=CD r;rw[e];show .tup ha
 |ty n=>cases h
 |scr K a ts=>cases h
 |ref a=>
  rw[BY r];have h:(match Γ a with|some (.lst _)=>some "list" |some (.dK _)=>some "dict" |_=>none)=some n:=h;split at h
  ·rename_i g;cases h;let⟨vs,hv,_⟩:=hr a _ g;show .lst hv
  ·rename_i g;cases h;let⟨vs,hv,_⟩:=hr a _ g;show .dK hv
  ·cases h
noncomputable abbrev eC(K:W.Frag)(Ty:String)(te:AN):AN:=λY τ Γ Z=>te Y τ Γ λx Γ1=>∃n b,Fv Γ1 x=some n∧W.kitOne K (.type n) (.type Ty)=some b∧Z (.bl b) Γ1
def D0{x:Expr}{te:AN}{p p2 pos:Pos}{Tn:Str}{Ty:String}(hg:Bs X "isinstance")(hm:X.mg "isinstance" = none)(Qh:Bs X Tn)(Qd:X.mg Tn=none)(P5:bootBuiltins Tn=some (.type Ty))(he:PE X x (AE E te))(hn:Tn ≠ "__name__" := by decide)(Ql:(Tn ==("__debug__" : Str))=false:=by decide)
  (hs:starEach [x,.Name Tn p2] X.env=(false,eval x X.env)::starEach [.Name Tn p2] X.env:=by rfl) (vO:starEach [.Name Tn p2] X.env=[(false,eval (.Name Tn p2) X.env)]:=by rfl)
  (iE:(backTo pos (starEach [.Name Tn p2] X.env)).any (·.1)=false:=by rfl):PE X (.Call (.Name "isinstance" p) [x,.Name Tn p2] [] pos) (AE E (eC X.K Ty te)):=
 EF (mI hg hm Qh Qd P5 he hn Ql hs vO iE) λσ H Q τ Γ Y Z rs hr t vr xr=>
  ⟨τ,Γ,Y,_,rs,hr,t,λv x H1 Γ1 s1 h1 r1 ξ=>Xi23 ξ λn b ty k z=>⟨v,rfl,.type n,b,si r1 h1 ty,k,vr _ _ H1 Γ1 s1 h1 Cr z⟩,xr⟩
abbrev ic(Γ:AR):T→Option Bool
 |.non=>some false|.bl b=>some b|.int i=>some (i != 0)|.tup ts=>some (!ts.isEmpty)
 |.str z=>if z.length≤sizeLine then some ((z.length:Int) != 0)else none
 |.ref a=>match Γ a with|some (.lst ts)=>some (!ts.isEmpty)|some (.dK aA)=>some (!aA.isEmpty)|_=>none
 |.ty _=>none
 |.scr _ _ _=>none
def oZ{us:List (AB×V)}{aA:List (AB×T)}(q:Ks H us aA):us.isEmpty=aA.isEmpty:=by cases q<;>rfl
def uD{k:Bool}(r:R H v x)(hr:HR H Γ)(h:ic Γ x=some k):Us K v H k:=by
 cases x with
 |non=>cases h;rw[JC r];rfl
 |bl b=>cases h;rw[HG r];rfl
 |int i=>cases h;rw[Cb r];rfl
 |str z=>
  rw[Bz r];let h:(if z.length≤sizeLine then some ((z.length:Int) != 0)else none)=some k:=h;by_cases c:z.length≤sizeLine
  ·rw[AO c]at h;cases h;show⟨c,rfl⟩
  ·rw[AL c]at h;cases h
 |tup ts=>cases h;let⟨a,vs,e,ha,q⟩:=CD r;rw[e];show .inr (.inl ⟨vs,eP.of ha,by rw[Ot q]⟩)
 |ty n=>cases h
 |scr K a ts=>cases h
 |ref a=>
  rw[BY r];have h:(match Γ a with|some (.lst ts)=>some (!ts.isEmpty)|some (.dK aA)=>some (!aA.isEmpty)|_=>none)=some k:=h;split at h
  ·rename_i g;cases h;let⟨vs,hv,q⟩:=hr a _ g;show .inl ⟨vs,jI.of hv,by rw[Ot q]⟩
  ·rename_i g;cases h;let⟨vs,hv,q⟩:=hr a _ g;show .inr (.inr ⟨vs,hv,by rw[oZ q]⟩)
  ·cases h
noncomputable abbrev vV(t:AN):Dc:=λY τ Γ Z=>t Y τ Γ λx Γ1=>∃k,ic Γ1 x=some k∧Z k Γ1
def adg{a:Expr}{ta:AN}(ha:PE X a (AE E ta))(he:∀whole,isTrue a X.env whole=(do let v ←whole;standAt a.pos;holding [v] (truthy v))):PT X a (Ce E (vV ta)):=
 jf (yI ha he) λσ H Q τ Γ Y Z rs hr t vr xr=>
  ⟨τ,Γ,Y,_,rs,hr,t,λv x H1 Γ1 s1 h1 r1 ξ=>Xi12 ξ λk tr z=>⟨k,uD r1 h1 tr,vr _ H1 Γ1 s1 h1 z⟩,xr⟩
def acF:FU X (.builtin "len") (λxs Γ Z=>∃a ts,xs=[.scr X.K a ts]∧Z (.int ts.length) Γ):=
 ⟨_,Wx,λvs xs H Γ Q Z r hr q0 vr=>by
  let⟨a,ts,e,z⟩:=q0;subst e;let⟨v,rfl,rv⟩:=E4 r;let⟨rfl,⟨us,sq,q⟩⟩:=aD rv;show Ps2 a us ⟨rfl,.inl sq.sq,by rw[q.length];show vr _ _ H Γ .refl hr Dy z⟩⟩
end
section
variable {tg l: Expr}{tl: AN}{p: Pos}
noncomputable abbrev EU:AR→Prop:=λ_=>True
noncomputable abbrev nq(tl:AN):I3:=λY τ Γ Z=>tl Y τ Γ λx Γ1=>∃ts,x=.tup ts∧Z ts EU Γ1
def acQ(ha:H a=some (.tup vs))(q:Rs H vs ts):Walks (X3 K a) ts EU H where
 go:=λi H' Γ t hr _ hi=>Ps2 vs (vs[i]'(by rw[q.length];show hi)) ⟨eP.of (t.1 a vs ha),by simp⟩
 qR:=λi H' Γ x H2 t hr _ hi q0=>by
  let⟨e,y⟩:=q0;subst e;let⟨t',e',r⟩:=(q.mono t).zN (y vs (eP.of (t.1 a vs ha)));show⟨.refl,hr,t',e',r⟩
 stop:=λH' Γ t hr _=>⟨vs,eP.of (t.1 a vs ha),by rw[q.length];show Ap _⟩
def DX(hl:PE X l (AE E tl)):PI X tg l (EB E (nq tl)):=
 JN (we hl) λσ H Q τ Γ Y Z rs hr t vr xr=>⟨τ,Γ,Y,_,rs,hr,t,λv x H1 Γ1 s1 h1 r1 ξ=>Xi12 ξ λts ex z=>by
  subst ex;let⟨a,vs,rfl,ha,q⟩:=CD r1;show⟨a,rfl,⟨vs,eP.of ha⟩,vr _ ts EU H1 Γ1 s1 h1 (acQ ha q) z⟩,xr⟩
noncomputable abbrev qS(tl:AN):I3:=λY τ Γ Z=>tl Y τ Γ λx Γ1=>∃a ts,x=.ref a∧FY Γ1 (.ref a)=some ts∧Z ts (λΓ'=>FY Γ' (.ref a)=some ts) Γ1
def abw:Walks (Qs K a) ts (λΓ'=>FY Γ' (.ref a)=some ts) H where
 go:=λi H' Γ t hr g hi=>by
  obtain⟨vs,sq,q⟩:=I0 hr g;show Ps2 vs (vs[i]'(by rw[q.length];show hi)) ⟨sq,by simp⟩
 qR:=λi H' Γ x H2 t hr g hi q0=>by
  let⟨e,y⟩:=q0;subst e;obtain⟨vs,sq,q⟩:=I0 hr g;let⟨t',e',r⟩:=q.zN (y vs sq);show⟨.refl,hr,t',e',r⟩
 stop:=λH' Γ t hr g=>by
  obtain⟨vs,sq,q⟩:=I0 hr g;show⟨vs,sq,by rw[q.length];show Ap _⟩
def Hn(hl:PE X l (AE E tl)):PI X tg l (EB E (qS tl)):=
 JN (ac1 hl) λσ H Q τ Γ Y Z rs hr t vr xr=>⟨τ,Γ,Y,_,rs,hr,t,λv x H1 Γ1 s1 h1 r1 ξ=>Xi23 ξ λa ts ex g z=>by
  subst ex;obtain⟨vs,sq,q⟩:=I0 h1 g;show⟨a,BY r1,⟨vs,sq⟩,vr _ ts _ H1 Γ1 s1 h1 abw z⟩,xr⟩
abbrev Dx(lo:Int):Nat→List T
 |0=>[]
 |n+1=>.int lo::Dx (lo+1) n
def Oi:∀(n:Nat) (lo:Int),(Dx lo n).length=n
 |0,_=>rfl
 |n+1,lo=>by rw[Dx,Bb,Oi n]
def ki:∀(n:Nat) (lo:Int) (i:Nat),i<n→(Dx lo n)[i]?=some (.int (lo+i))
 |0,_,i,h=>absurd h (Ik _)
 |n+1,lo,0,_=>by rw[Dx];simp
 |n+1,lo,i+1,h=>by
  rw[Dx,ku,ki n (lo+1) i (by lia)];congr 2
  lia
def adM(lo:Int)(n:Nat):Walks (Oh lo n) (Dx lo n) EU H where
 go:=λi H' Γ t hr _ hi=>by rw[Oi]at hi;show hi
 qR:=λi H' Γ x H2 t hr _ hi q0=>by
  let⟨e,y⟩:=q0;subst e y;rw[Oi]at hi;show⟨.refl,hr,_,ki n lo i hi,Dy⟩
 stop:=λH' Γ t hr _=>by rw[Oi];show Ap _
noncomputable abbrev wR(ta:Ca):I3:=λY τ Γ Z=>ta Y τ Γ λxs Γ1=>∃j:Int,xs=[.int j]∧-(2^62)≤j∧j<2^62∧Z (Dx 0 j.toNat) EU Γ1
def IK{a:Expr}(hg:Bs X "range")(hm:X.mg "range" = none)(ha:PA X [a] (De E ta))(hs:starEach [a] X.env=[(false,eval a X.env)]:=by rfl):PI X tg (.Call (.Name "range" p) [a] [] pos) (EB E (wR ta)):=
 JN (xa hg hm ha hs) λσ H Q τ Γ Y Z rs hr t vr xr=>⟨τ,Γ,Y,_,rs,hr,t,λvs xs H1 Γ1 s1 h1 r1 ξ=>Xi14 ξ λj ex b1 b2 z=>by
  subst ex;let⟨v,rfl,a⟩:=E4 r1;show⟨j,by rw[Cb a],b1,b2,vr _ _ EU H1 Γ1 s1 h1 (adM 0 _) z⟩,xr⟩
abbrev FA:List T→List T→List T
 |x::r,y::q=>.tup [x,y]::FA r q
 |_,_=>[]
def Jk:∀{xs ys:List T},(FA xs ys).length=min xs.length ys.length
 |[],_=>by simp[FA]
 |_::_,[]=>by simp[FA]
 |x::r,y::q=>by rw[FA,Bb,Jk,Bb,Bb];lia
def TT:∀{xs ys:List T} {i:Nat} {x y:T},xs[i]?=some x→ys[i]?=some y→(FA xs ys)[i]?=some (.tup [x,y])
 |[],_,_,_,_,h,_=>by simp at h
 |_::_,[],_,_,_,_,h=>by simp at h
 |a::r,b::q,0,x,y,h,h'=>by cases h;cases h';rfl
 |a::r,b::q,i+1,x,y,h,h'=>by rw[FA];show TT (by simpa using h) (by simpa using h')
noncomputable abbrev xh(ta:Ca):I3:=λY τ Γ Z=>ta Y τ Γ λxs Γ1=>∃ts us,xs=[.tup ts,.tup us]∧Z (FA ts us) EU Γ1
def pZ{ws:List V}(ha:H a=some (.tup vs))(q:Rs H vs ts)(hb:H b=some (.tup ws))(q':Rs H ws us):Walks (Q0 K a b) (FA ts us) EU H where
 go:=λi H' Γ t hr _ hi=>by
  rw[Jk]at hi;show Ps4 vs ws (vs[i]'(by rw[q.length];lia)) (ws[i]'(by rw[q'.length];lia)) ⟨eP.of (t.1 a vs ha),eP.of (t.1 b ws hb),by simp,by simp⟩
 qR:=λi H' Γ v H2 t hr _ hi q0=>by
  let⟨p,x,y,hp,e1,e2,y1,y2⟩:=q0;subst e1 e2;let⟨t1,f1,r1⟩:=(q.mono t).zN (y1 vs (eP.of (t.1 a vs ha)));let⟨t2,f2,r2⟩:=(q'.mono t).zN (y2 ws (eP.of (t.1 b ws hb)));let k:=Cm (o:=.tup [x,y]) hp;show⟨.keep k,hr.keep k,_,TT f1 f2,Jq Bu (FP (r1.mono (DL k)) (FP (r2.mono (DL k)) GB))⟩
 stop:=λH' Γ t hr _=>Ps2 vs ws ⟨eP.of (t.1 a vs ha),eP.of (t.1 b ws hb),by rw[Jk,q.length,q'.length];lia⟩
def gQ{a b:Expr}(hg:Bs X "zip")(hm:X.mg "zip" = none)(ha:PA X [a,b] (De E ta))(hs:starEach [a,b] X.env=[(false,eval a X.env),(false,eval b X.env)]:=by rfl)(vO:starEach [b] X.env=[(false,eval b X.env)]:=by rfl):
  PI X (.Tuple elts kk uW) (.Call (.Name "zip" p) [a,b] [] pos) (EB E (xh ta)):=
 JN (jF hg hm ha hs vO) λσ H Q τ Γ Y Z rs hr t vr xr=>⟨τ,Γ,Y,_,rs,hr,t,λvs xs H1 Γ1 s1 h1 r1 ξ=>Xi22 ξ λts us ex z=>by
  subst ex;let⟨v,w,rfl,a,b⟩:=wY r1;let⟨pa,va,rfl,ha,qa⟩:=CD a;let⟨pb,vb,rfl,hb,qb⟩:=CD b;show Ps4 pa pb va vb ⟨rfl,eP.of ha,eP.of hb,vr _ _ EU H1 Γ1 s1 h1 (pZ ha qa hb qb) z⟩,xr⟩
abbrev Io(n:Nat):List T→List T
 |[]=>[]
 |x::r=>.tup [.int n,x]::Io (n+1) r
def SA:∀{xs:List T} {n:Nat},(Io n xs).length=xs.length
 |[],_=>rfl
 |x::r,n=>by rw[Io,Bb,SA,Bb]
def ir:∀{xs:List T} {n i:Nat} {x:T},xs[i]?=some x→(Io n xs)[i]?=some (.tup [.int ((n+i:Nat):Int),x])
 |[],_,_,_,h=>by simp at h
 |a::r,n,0,x,h=>by cases h;rfl
 |a::r,n,i+1,x,h=>by
  rw[Io,ku,ir  (by simpa using h)];congr 4
  lia
noncomputable abbrev xq(ta:Ca):I3:=λY τ Γ Z=>ta Y τ Γ λxs Γ1=>∃ts,xs=[.tup ts]∧Z (Io 0 ts) EU Γ1
def ac7(ha:H a=some (.tup vs))(q:Rs H vs ts):Walks (SV K a) (Io 0 ts) EU H where
 go:=λi H' Γ t hr _ hi=>by
  rw[SA]at hi;show Ps2 vs (vs[i]'(by rw[q.length];lia)) ⟨eP.of (t.1 a vs ha),by simp⟩
 qR:=λi H' Γ v H2 t hr _ hi q0=>by
  let⟨p,x,hp,e1,e2,y1⟩:=q0;subst e1 e2;let⟨t1,f1,r1⟩:=(q.mono t).zN (y1 vs (eP.of (t.1 a vs ha)));let k:=Cm (o:=.tup [.int i,x]) hp;show⟨.keep k,hr.keep k,_,ir f1,Jq Bu (FP ?_ (FP (r1.mono (DL k)) GB))⟩;rw[Nat.zero_add];show Dy
 stop:=λH' Γ t hr _=>⟨vs,eP.of (t.1 a vs ha),by rw[SA,q.length]⟩
def vT{a:Expr}(hg:Bs X "enumerate")(hm:X.mg "enumerate" = none)(ha:PA X [a] (De E ta))(hs:starEach [a] X.env=[(false,eval a X.env)]:=by rfl):
  PI X (.Tuple elts kk uW) (.Call (.Name "enumerate" p) [a] [] pos) (EB E (xq ta)):=
 JN (vD hg hm ha hs) λσ H Q τ Γ Y Z rs hr t vr xr=>⟨τ,Γ,Y,_,rs,hr,t,λvs xs H1 Γ1 s1 h1 r1 ξ=>Xi12 ξ λts ex z=>by
  subst ex;let⟨v,rfl,a⟩:=E4 r1;let⟨pa,va,rfl,ha,qa⟩:=CD a;show Ps2 pa va ⟨rfl,eP.of ha,vr _ _ EU H1 Γ1 s1 h1 (ac7 ha qa) z⟩,xr⟩
abbrev J9(z:Str):List T:=z.cps.toList.map λc=>.str ⟨#[c]⟩
noncomputable abbrev abc(tl:AN):I3:=λY τ Γ Z=>tl Y τ Γ λx Γ1=>∃z,x=.str z∧Z (J9 z) EU Γ1
def acW(z:Str):Walks (O9 z) (J9 z) EU H where
 go:=λi H' Γ t hr _ hi=>by
  unfold J9 at hi;rw[AF]at hi;show hi
 qR:=λi H' Γ x H2 t hr _ hi q0=>by
  let⟨e,⟨c,hc,ex⟩⟩:=q0;subst e ex;show⟨.refl,hr,.str ⟨#[c]⟩,?_,IU⟩;unfold J9;rw[Fo,Array.getElem?_toList,hc];rfl
 stop:=λH' Γ t hr _=>by
  unfold J9;rw[AF];show Ap _
def UM(hl:PE X l (AE E tl)):PI X tg l (EB E (abc tl)):=
 JN (ade hl) λσ H Q τ Γ Y Z rs hr t vr xr=>⟨τ,Γ,Y,_,rs,hr,t,λv x H1 Γ1 s1 h1 r1 ξ=>Xi12 ξ λz ex zz=>by
  subst ex;show⟨z,Bz r1,vr _ _ EU H1 Γ1 s1 h1 (acW z) zz⟩,xr⟩
abbrev aq:=T→List T→AR→EG→Prop
abbrev K6(X:Cx)(id:String)(r3:aq):Prop:=∃r,LH X id r∧∀v x vs ts H Γ Q Z,R H v x→Rs H vs ts→HR H Γ→r3 x ts Γ Z→VR H Γ Z Q→r v vs H Q
noncomputable abbrev mF(Tn:String)(r3:aq)(to:AN)(t:Ca):AN:=λY τ Γ Z=>to Y τ Γ λx Γ1=>Fv Γ1 x=some Tn∧t Y τ Γ1 λxs Γ2=>r3 x xs Γ2 Z
def abU{n:String}(r:R H v x)(hr:HR H Γ)(h:Fv Γ x=some n)(hn:n = "list" ∨ n = "str" ∨ n = "dict"):TM K n v H:=by
 cases x with
 |non=>cases h;rcases hn with h|h|h<;>show absurd h (by decide)
 |bl b=>cases h;rcases hn with h|h|h<;>show absurd h (by decide)
 |int i=>cases h;rcases hn with h|h|h<;>show absurd h (by decide)
 |str z=>cases h;rw[Bz r];rfl
 |tup ts=>cases h;rcases hn with h|h|h<;>show absurd h (by decide)
 |ty n=>cases h
 |scr K a ts=>cases h
 |ref a=>
  rw[BY r];have h:(match Γ a with|some (.lst _)=>some "list" |some (.dK _)=>some "dict" |_=>none)=some n:=h;split at h
  ·rename_i g;cases h;let⟨vs,hv,_⟩:=hr a _ g;show .inl ⟨rfl,vs,jI.of hv⟩
  ·rename_i g;cases h;let⟨vs,hv,_⟩:=hr a _ g;show .inr (.inr (.inl ⟨rfl,.inl ⟨vs,hv⟩⟩))
  ·cases h
section
variable {o e: Expr}{to: AN}{t: Ca}{name: Str}{apos: Pos}{id: String}{r3: aq}
def FF(pa:PlainAttrs Tn)(slot:Slot Tn name id)(Gh:typeOf (.builtin id)=pure (.type "method_descriptor"))(hm:K6 X id r3)(ho:PE X o (AE E to))(ha:PA X (e::es) (De E t))(hn:Tn = "list" ∨ Tn = "str" ∨ Tn = "dict" := by decide)
  (Fl:attributeBase o name X.env (eval o X.env)=eval o X.env:=by rfl)
  (MF:((backTo eX (starEach (e::es) X.env)).all (λx=>!x.1)&&(backToKw eX (keywordEach [] X.env)).all (λx=>x.1.isSome)
   && decide ((e::es).length+([]:List Keyword).length+(if([]:List Keyword).isEmpty then 0 else 1)<30))=true:=by rfl)
  (Fh:(apos.endLine==eX.line)=true:=by rfl) (hs:starEach (e::es) X.env=(false,eval e X.env)::starEach es X.env:=by rfl) (zK:(backTo eX (starEach es X.env)).any (·.1)=false:=by rfl) :
  PE X (.Call (.Attribute o name apos) (e::es) [] eX) (AE E (mF Tn r3 to t)):=by
 obtain⟨r,hm,sim⟩:=hm;show EF (uS pa slot Gh hm ho ha Fl MF Fh hs zK) λσ H Q τ Γ Y Z rs hr t vr xr=>⟨τ,Γ,Y,_,rs,hr,t,λv x H1 Γ1 s1 h1 r1 ξ=>Xi02 ξ λty z=>
  ⟨abU r1 h1 ty hn,τ,Γ1,Y,_,rs.mono s1.tq,h1,z,λvs xs H2 Γ2 s2 h2 r2 z2=>sim v x vs xs H2 Γ2 Q Z (r1.mono s2.tq) r2 h2 z2 (vr.mono (s1.trans s2)),xr.mono s1⟩,xr⟩
end
def Hh:K6 X "list.append" (λx ts Γ Z=>∃a us y,x=.ref a∧ts=[y]∧Γ a=some (.lst us)∧us.length<sizeLine∧Z .non (up Γ a (.lst (us++[y])))):=
 ⟨_,c7,λv x vs ts H Γ Q Z r rs hr q0 vr=>by
  let⟨a,us,y,ex,et,g,l,z⟩:=q0;subst ex et;let⟨w,rfl,rT⟩:=E4 rs;let⟨ws,hw,q⟩:=hr a _ g;show Ps3 a ws w ⟨BY r,rfl,hw,by rw[q.length];show l,?_⟩;let s:gq H Γ (AM H a (.lst (ws++[w]))) (up Γ a (.lst (us++[y]))):=.set hr g;show vr _ _ _ _ s (hr.set g ⟨_,Bu,Rs.app (q.mono s.tq) (FP (rT.mono s.tq) GB)⟩) Jy z⟩
def v7:K6 X "list.extend" (λx ts Γ Z=>∃a b us ws,x=.ref a∧ts=[.ref b]∧Γ a=some (.lst us)∧Γ b=some (.lst ws)∧us.length+ws.length≤sizeLine∧Z .non (up Γ a (.lst (us++ws)))):=
 ⟨_,nA,λv x vs ts H Γ Q Z r rs hr q0 vr=>by
  let⟨a,b,us,ws,ex,et,g,g',l,z⟩:=q0;subst ex et;let⟨w,rfl,rT⟩:=E4 rs;let⟨va,YG,qa⟩:=hr a _ g;let⟨vb,YF,qb⟩:=hr b _ g';show Ps4 a b va vb ⟨BY r,by rw[BY rT],YG,YF,by rw[qa.length,qb.length];show l,?_⟩;let s:gq H Γ (AM H a (.lst (va++vb))) (up Γ a (.lst (us++ws))):=.set hr g;show vr _ _ _ _ s (hr.set g ⟨_,Bu,Rs.app (qa.mono s.tq) (qb.mono s.tq)⟩) Jy z⟩
def abj:K6 X "str.join" (λx ts Γ Z=>∃(p:Addr) (ss:List Str),x=.str Str.empty∧ts=[.ref p]∧FY Γ (.ref p)=some (ss.map T.str)∧ss.length≤1000∧(∀y∈ss,y.length≤1000)∧Z (.str (Ih ss)) Γ):=
 ⟨_,yF,λv x vs ts H Γ Q Z r rs hr q0 vr=>by
  let⟨p,ss,ex,et,g,l,l2,z⟩:=q0;subst ex et;let⟨w,rfl,rT⟩:=E4 rs;obtain⟨us,sq,q⟩:=I0 hr g;rw[R0 q]at sq;show Ps2 p ss ⟨Bz r,by rw[BY rT],sq,l,l2,vr _ _ H Γ .refl hr IU z⟩⟩
def u0{r:V→A5→Ar→Prop}{r3:T→AR→EG→Prop}{ts:AN}(h:∀v x H Γ Q Z,R H v x→HR H Γ→r3 x Γ Z→VR H Γ Z Q→r v H Q)(σ:St)(H:A5)(Q:Ar)(q:AE E (cV r3 te ts) σ H Q):
  AE E te σ H λx H1=>AE E ts σ H1 λy H2=>y=.int (-1)∧r x H2 Q:=by
 let⟨τ,Γ,Y,Z,rs,hr,t,vr,xr⟩:=q;show Ps4 τ Γ Y _ ⟨rs,hr,t,λv x H1 Γ1 s1 h1 r1 z1=>?_,xr⟩;show Ps4 τ Γ1 Y _ ⟨rs.mono s1.tq,h1,z1,λu y H2 Γ2 s2 h2 r2 z2=>?_,xr.mono s1⟩;obtain⟨e,z2⟩:=z2;subst e;show⟨Cb r2,h v x H2 Γ2 Q Z (r1.mono s2.tq) h2 z2 (vr.mono (s1.trans s2))⟩
end
abbrev Le(Γ Γ':AR):Prop:=∀a o,Γ a=some o→Γ' a=some o
def Le.refl:Le Γ Γ:=λ_ _ h=>h
def Le.trans(a:Le Γ Γ1)(b:Le Γ1 Γ'):Le Γ Γ':=λx o h=>b x o (a x o h)
def Le.new(h:Γ p=none):Le Γ (up Γ p o):=λb u q=>by rw[BR (F4 q h)];show q
def HR.le(h:HR H Γ')(l:Le Γ Γ'):HR H Γ:=λa o e=>h a o (l a o e)
abbrev Kq(l:List Addr)(Γ Γ':AR):Prop:=∀b o,b∉l→Γ b=some o→Γ' b=some o
def Kq.refl:Kq l Γ Γ:=λ_ _ _ h=>h
def Kq.trans(a:Kq l Γ Γ1)(b:Kq l Γ1 Γ'):Kq l Γ Γ':=λc o n h=>b c o n (a c o n h)
def Kq.mono{l':List Addr}(a:Kq l Γ Γ1)(s:∀b∈l,b∈l'):Kq l' Γ Γ1:=λc o n h=>a c o (λz=>n (s c z)) h
def Kq.new(h:Γ p=none)(o:O):Kq l Γ (up Γ p o):=λb u _ q=>by rw[BR (F4 q h)];show q
def Kq.set(h:p∈l)(o:O):Kq l Γ (up Γ p o):=λb u n q=>by
 let e:b≠p:=λz=>n (by rw[z];show h);rw[BR e];show q
def Le.kq(k:Le Γ Γ'):Kq l Γ Γ':=λa o _ h=>k a o h
abbrev EL(Z:EG):EG:=λx Γ'=>∃Γ2,Le Γ2 Γ'∧Z x Γ2
def AD(k:Le Γ Γ')(z:Z x Γ):EL Z x Γ':=⟨Γ,k,z⟩
def kE(k:Kq [a] Γ Γ')(h:Γ' a=some o)(z:Z x (up Γ a o)):EL Z x Γ':=⟨up Γ a o,λb u q=>by
 by_cases e:b=a
 ·subst e;rw[Au]at q;cases q;show h
 ·rw[BR e]at q;show k b u (by simpa using e) q,z⟩
def gq.cut{Γ2:AR}(s:gq H Γ H' Γ')(l:Le Γ2 Γ'):gq H Γ H' Γ2:=⟨s.tq,s.v5,λa h g=>by
 cases e:Γ2 a with
 |none=>rfl
 |some o=>show(by have:=l a o e;rw[s.new a h g]at this;cases this),s.uJ⟩
section
variable {P: Program}{w: World}{K: W.Frag}{mg: Str→Option Value}{bi: Heap}
def B5{x:Str}{f:Addr}(F:cT K x qual st f fd)(S:Av N ps (Ag st))(len:∀ts Γ Z Y,sp ts Γ Z Y→ts.length=ps.length)
  (oh:∀(cq:Value) (A:Around) (outer:List Env) (s:Shared) (H:A5) (E:BG) (ts:List T) (Γ:AR) (Z:EG) (Y:Value→AR→Prop),dA k (A.deeper (envOfC qual (Ag st) s.heap.objs.size f cq))→sp ts Γ Z Y→
   ∃t,mY (J4 Ao P w K mg bi N qual (Ag st) f cq A outer s H E).iR (G0 st) (Cg C3 t)∧t CG {nx:=λ_ Γ'=>EL Z .non Γ',rt:=EL Z} (As N ts) Γ):bj P w K mg bi Ao (k+1) f fd ps (Am sp):=by
 show F.ok S (λvs H Q E q0=>by let⟨ts,Γ,Z,Y,r,_,h,_⟩:=q0;rw[r.length];show len _ _ _ _ h) λcq A outer s H vs Q E hr ξ=>Xi45 ξ λts Γ Z Y r h yn vr xr=>?_;let⟨t,ht,hq⟩:=oh cq A outer s H E ts Γ Z Y hr yn;show⟨_,ht,As N ts,Γ,CG,_,aI N r (by rw[len _ _ _ _ yn];show gV S),h,hq,⟨λσ τ H' Γ' s' h' _ ξ=>Xi12 ξ λΓ2 l z=>vr .non .non H' Γ2 (s'.cut l) (h'.le l) Jy z,λv x H' Γ' s' h' rv ξ=>Xi12 ξ λΓ2 l z=>vr v x H' Γ2 (s'.cut l) (h'.le l) rv z,λ_ _ _ _ _ _ _ z=>z.elim,λ_ _ _ _ _ _ _ z=>z.elim⟩,F2⟩
def Sw{x:Str}{f:Addr}(F:cT K x qual st f fd)(S:Av N ps (Ag st))(len:∀ts Γ Z Y,sp ts Γ Z Y→ts.length=ps.length)
  (oh:∀(cq:Value) (A:Around) (outer:List Env) (s:Shared) (H:A5) (E:BG) (ts:List T) (Γ:AR) (Z:EG) (Y:Value→AR→Prop),dA k (A.deeper (envOfC qual (Ag st) s.heap.objs.size f cq))→sp ts Γ Z Y→
   ∃t,mY (II P w K mg bi N qual (Ag st) f cq A outer s H E) (G0 st) (Cg (λ_=>E) t)∧t (λ_ C Γ'=>∃Γ2,Le Γ2 Γ'∧Y C Γ2) {nx:=λ_ Γ'=>EL Z .non Γ',rt:=EL Z} (As N ts) Γ):bj P w K mg bi (G6 P w) (k+1) f fd ps (Am sp):=by
 show F.X4 S (λvs H Q E q0=>by let⟨ts,Γ,Z,Y,r,_,h,_⟩:=q0;rw[r.length];show len _ _ _ _ h) λcq A outer s H vs Q E hr ξ=>Xi45 ξ λts Γ Z Y r h yn vr xr=>?_;let⟨t,ht,hq⟩:=oh cq A outer s H E ts Γ Z Y hr yn;show⟨_,ht,As N ts,Γ,_,_,aI N r (by rw[len _ _ _ _ yn];show gV S),h,hq,⟨λσ τ H' Γ' s' h' _ ξ=>Xi12 ξ λΓ2 l z=>vr .non .non H' Γ2 (s'.cut l) (h'.le l) Jy z,λv x H' Γ' s' h' rv ξ=>Xi12 ξ λΓ2 l z=>vr v x H' Γ2 (s'.cut l) (h'.le l) rv z,λ_ _ _ _ _ _ _ z=>z.elim,λ_ _ _ _ _ _ _ z=>z.elim⟩,λσ τ C H' Γ' s' h' _ ξ=>Xi12 ξ λΓ2 l y=>xr C H' Γ2 (s'.cut l) (h'.le l) y⟩
def QN{f:Addr}{CX:HB}(no:∀ts Γ Z Y,¬sp ts Γ Z Y):bj P w K mg bi CX k f fd ps (Am sp):=
 ⟨λvs H Q E ξ=>Xi44 ξ λts Γ Z Y _ _ h _=>absurd h (no _ _ _ _),λA outer s H args us vs Q E _ _ _ _ ξ=>Xi44 ξ λts Γ Z Y _ _ h _=>absurd h (no _ _ _ _)⟩
end
def Jj{α:Type}{t:α}{ts:List α}:CR (t::ts) 0=some t:=by show CR (t::ts) ((0:Nat):Int)=some t;show HS rfl
def Kn{α:Type}{t u:α}{ts:List α}:CR (t::u::ts) 1=some u:=by show CR (t::u::ts) ((1:Nat):Int)=some u;show HS rfl
section
variable {Y: GD}{τ: BJ}{Γ: AR}{Z: EG}{D: N1}{N: BJ→AR→Prop}
def uA{A:Prop}(h:Nat.ble n 1000=true)(a:A):n≤sizeLine∧A:=⟨D6 (Nat.le_of_ble_eq_true h) (by decide),a⟩
def LG{g:Int→Int→T}{i j:Int}(c:C i j)(h:Z (g i j) Γ):JI C g (.int i) (.int j) Γ Z:=⟨c,h⟩
def ab5(z:Z t Γ):IG (.tup (t::ts)) (.int 0) Γ Z:=Ps3 _ 0 t ⟨rfl,rfl,Jj,z⟩
def adl{u:T}(z:Z u Γ):IG (.tup (t::u::ts)) (.int 1) Γ Z:=Ps3 _ 1 u ⟨rfl,rfl,Kn,z⟩
def tu(l:Nat.beq ts.length n=true)(h:gs Y ts τ Γ N):kG n gs Y (.tup ts) τ Γ N:=⟨ts,rfl,Nat.eq_of_beq_eq_true l,h⟩
def sD{Q:List T→Prop}(h:Q ts):∃us,T.tup ts=.tup us∧Q us:=⟨ts,rfl,h⟩
def yR{Q:Str→Prop}(h:Q z):∃k,T.str z=.str k∧Q k:=⟨z,rfl,h⟩
def Q4{b:Bool}{A C:Prop}(h:b=true)(a:A):if b=true then A else C:=by rw[AO h];show a
def QY{b:Bool}{A C:Prop}(h:b=false)(a:C):if b=true then A else C:=by rw[AL (by rw[h];show Cc)];show a
def AU{b:Bool}{A C:Prop}(h1:b=true→A)(h2:b=false→C):if b=true then A else C:=by
 cases b with
 |true=>rw[AO rfl];show h1 rfl
 |false=>rw[AL Cc];show h2 rfl
def Dn{t:CN}(h:t Y D τ Γ):gz t Y D τ Γ:=⟨D.nx,h,λ_ _ z=>z⟩
end
section
def bB(hu:X.A.units<cLine):BZ X (compareOp .Eq) (λx y Γ Z=>∃ts,x=.tup ts∧y=.tup []∧Z (.bl ts.isEmpty) Γ):=
 ⟨_,abM hu,λx y a b H Γ Q Z ra rb hr q0 vr=>by
  let⟨ts,ea,eb,z⟩:=q0;subst ea eb;let⟨p,vs,rfl,hp,q⟩:=CD ra;let⟨p',Bx,rfl,wF,q'⟩:=CD rb;rw[Fq q']at wF;show Ps3 p p' vs ⟨rfl,rfl,hp,wF,by rw[Ot q];show vr _ _ H Γ .refl hr Cr z⟩⟩
def OX:∀ss:List Str,JD (ss.map T.str)=some (ss.map V.str)
 |[]=>rfl
 |s::r=>by rw[Cq,JD,OX r];rfl
end
section
variable {Γ: AR}
def xH{Q:List T→Prop}(h:Q us):∃ts,[T.tup us]=[T.tup ts]∧Q ts:=⟨us,rfl,h⟩
def aa1{ws:List T}{Q:List T→List T→Prop}(h:Q us ws):∃ts vs,[T.tup us,T.tup ws]=[T.tup ts,T.tup vs]∧Q ts vs:=Ps2 us ws ⟨rfl,h⟩
def yZ{A:Prop}(h:A):EU Γ∧A:=⟨trivial,h⟩
def O3{a b:Str}(h:decide (V.str a=V.str b)=true):a=b:=V.str.inj (DN h)
def Oq{a b:Str}(h:decide (V.str a=V.str b)=false):a≠b:=λe=>F7 h (by rw[e])
def Gu{a b:Int}(h:decide (V.int a=V.int b)=true):a=b:=V.int.inj (DN h)
def MR{a b:Int}(h:decide (V.int a=V.int b)=false):a≠b:=λe=>F7 h (by rw[e])
def vx(h:Q (.tup us) us):∃x ts,[T.tup us]=[x]∧FY Γ x=some ts∧Q x ts:=Ps2 (.tup us) us ⟨rfl,rfl,h⟩
end
section
variable {Γ: AR}{Z: EG}
def aa3{u:V}{us:List V}(h1:sc x=some u)(h2:JD ts=some us)(h3:(EN u&&us.all EN)=true)(z:Z (.bl (if neg then !Dk u us else Dk u us)) Γ):KQ neg x (.tup ts) Γ Z:=by
 rw[EJ]at h3;show Ps3 u ts us ⟨h1,rfl,h2,h3.1,h3.2,z⟩
def Qp{u:V}{us:List V}(g:Γ p=some (.lst ts))(h1:sc x=some u)(h2:JD ts=some us)(h3:EN u=true)(h4:us.all EN=true)(z:Z (.bl (if neg then !Dk u us else Dk u us)) Γ):KQ neg x (.ref p) Γ Z:=
 ⟨u,ts,us,h1,BD g,h2,h3,h4,z⟩
def EZ(g:Γ p=some (.lst ts))(h:Q (.ref p) ts):∃x us,[T.ref p]=[x]∧FY Γ x=some us∧Q x us:=Ps2 (.ref p) ts ⟨rfl,BD g,h⟩
def B7{i:Int}(g:Γ p=some (.lst ts))(h:CR ts i=some t)(z:Z t Γ):IG (.ref p) (.int i) Γ Z:=Ps3 ts i t ⟨BD g,rfl,h,z⟩
def DQ{i:Int}(h:CR ts i=some t)(z:Z t Γ):IG (.tup ts) (.int i) Γ Z:=Ps3 ts i t ⟨rfl,rfl,h,z⟩
def ID(h:ts[i]?=some t)(z:Z t Γ):IG (.tup ts) (.int (i:Nat)) Γ Z:=Ps3 ts i t ⟨rfl,rfl,HS h,z⟩
def TS{A:Prop}(g:Γ p=some (.lst ts))(h:A):Fv Γ (.ref p)=some "list" ∧ A:=⟨by show(match Γ p with|some (.lst _)=>some "list" |some (.dK _)=>some "dict" |_=>none)=_;rw[g],h⟩
def acm{A:Prop}(h:A):Fv Γ (.str z)=some "str" ∧ A:=⟨rfl,h⟩
end
def acg{A:Prop}(h:A):T.tup []=T.tup []∧A:=⟨rfl,h⟩
def uU{α:Type}{P:List α→Prop}(h:∀a0,P [a0]):∀us:List α,us.length=1→P us
 |[a0],_=>h _
def nc{α:Type}{P:List α→Prop}(h:∀a0 a1,P [a0,a1]):∀us:List α,us.length=2→P us
 |[a0,a1],_=>h _ _
def N4{α:Type}{P:List α→Prop}(h:∀a0 a1 a2,P [a0,a1,a2]):∀us:List α,us.length=3→P us
 |[a0,a1,a2],_=>h _ _ _
def N3{α:Type}{P:List α→Prop}(h:∀a0 a1 a2 a3,P [a0,a1,a2,a3]):∀us:List α,us.length=4→P us
 |[a0,a1,a2,a3],_=>h _ _ _ _
def Rs.getD:∀{vs:List V} {ts:List T} {j:Nat} {t:T},Rs H vs ts→ts[j]?=some t→R H (vs.getD j .non) t
 |vs,[],j,t,q,h=>by simp at h
 |vs,x::ts,j,t,q,h=>by
  let⟨w,ws,rfl,r1,r2⟩:=FL q;cases j with
  |zero=>cases h;show r1
  |succ j=>
   show R H (ws.getD j .non) t
   show Rs.getD r2 (by simpa using h)
end L3
namespace L3
open PySem PySem.Spec L2
variable {a:Addr}{e: Expr}{f:Str}{to te:AN}{pos:Pos}{C: Addr}{wi:I3}{g:D5}{own:List Str}{cap:List (Nat×Str)}{X: Cx}{E: St→BG}{m: Str}
section
def fI{xs:List V}(hk:eN X.K a xs)(hf:xs.all EN=true):BZ X (compareOp .In) (λx y Γ Z=>∃u,sc x=some u∧EN u=true∧y=.ref a∧Z (.bl (Dk u xs)) Γ):=
 ⟨_,dM,λx y v b H Γ Q Z ra rb hr q0 vr=>by
  let⟨u,e1,f1,ey,z⟩:=q0;subst ey;rw[IX ra e1];show Ps2 a xs ⟨BY rb,.inr hk.sq,f1,hf,vr _ _ H Γ .refl hr Cr z⟩⟩
end
abbrev Jl(f:Str)(v:T):List (Str×T)→List (Str×T)
 |[]=>[(f,v)]
 |(g,x)::r=>if g=f then(g,v)::r else(g,x)::Jl f v r
section
variable {H: A5}
def Fs.len:∀{gs:List (Str×V)} {fs:List (Str×T)},Fs H gs fs→gs.length=fs.length
 |_,_,.nil=>rfl
 |_,_,.cons a b=>by rw[Bb,Bb,Fs.len b]
def Fs.get:∀{gs:List (Str×V)} {fs:List (Str×T)} {f:Str} {t:T},Fs H gs fs→fs.lookup f=some t→∃v,gs.lookup f=some v∧R H v t
 |_,_,f,t,.nil,h=>by cases h
 |(g,v)::gs,(g',x)::fs,f,t,.cons a b,h=>by
  let⟨e,r⟩:=a;let e:g=g':=e;subst e;rw[Hl]at h ⊢;split at h
  ·cases h;show⟨v,rfl,r⟩
  ·show Fs.get b h
def Fs.non:∀{gs:List (Str×V)} {fs:List (Str×T)} {f:Str},Fs H gs fs→fs.lookup f=none→gs.lookup f=none
 |_,_,f,.nil,h=>rfl
 |(g,v)::gs,(g',x)::fs,f,.cons a b,h=>by
  let⟨e,r⟩:=a;let e:g=g':=e;subst e;rw[Hl]at h ⊢;split at h
  ·cases h
  ·show Fs.non b h
def Fs.put{v:V}{t:T}(r:R H v t)(f:Str):∀{gs:List (Str×V)} {fs:List (Str×T)},Fs H gs fs→Fs H (EY f v gs) (Jl f t fs)
 |_,_,.nil=>.cons ⟨rfl,r⟩ .nil
 |(g,w)::gs,(g',x)::fs,.cons a b=>by
  let⟨e,q⟩:=a;subst e;unfold EY Jl;split
  ·show .cons ⟨rfl,r⟩ b
  ·show .cons ⟨rfl,q⟩ (Fs.put r f b)
end
section
noncomputable abbrev aaU(C:Addr)(to:AN)(f:Str):AN:=λY τ Γ Z=>to Y τ Γ λx Γ1=>∃a dx fs v,x=.ref a∧Γ1 a=some (.ins C dx fs)∧fs.lookup f=some v∧Z v Γ1
def Dz{e:Expr}(c:pR X.K C)(n:bJ X.K C f)(he:PE X e (AE E to))(hb:attributeBase e f X.env (eval e X.env)=eval e X.env:=by rfl):PE X (.Attribute e f pos) (AE E (aaU C to f)):=
 EF (sO he hb) λσ H Q τ Γ Y Z rs hr t vr xr=>by
  show Ps4 τ Γ Y _ ⟨rs,hr,t,λv x H1 Γ1 s1 h1 r1 z1=>?_,xr⟩;let⟨a,dx,fs,u,rfl,g,l,z⟩:=z1;let⟨gs,hg,q⟩:=h1 a _ g;let⟨v',l',r'⟩:=q.get l;show Ps5 a C dx gs v' ⟨BY r1,hg,c,n,l',vr v' u H1 Γ1 s1 h1 r' z⟩
noncomputable abbrev pA(C:Addr)(to tv:AN)(f:Str):CN:=λY D τ Γ=>tv Y τ Γ λy Γ1=>to Y τ Γ1 λx Γ2=>∃a dx fs,x=.ref a∧Γ2 a=some (.ins C dx fs)∧fs.length<1000∧D.nx τ (up Γ2 a (.ins C dx (Jl f y fs)))
def adI{H:A5}{C dx:Addr}{u:HO}{gs:List (Str×V)}{fs:List (Str×T)}(h:H a=some u)(n:(∀vs:List V,u≠.tup vs)∧∀b w,u≠.frz b w)(q:Fs H gs fs):Ho (AM H a (.ins C dx gs)) a (.ins C dx fs):=⟨gs,Bu,q.mono (GO h n)⟩
def QS{o value:Expr}{tv:AN}{pos':Pos}(c:pR X.K C)(n:bJ X.K C f)(ha:PE X o (AE E to))(hv:PE X value (AE E tv))(hs:swapsWith value (some (.Attribute o f pos')) pos.line X.env=pure false:=by rfl):PS X (.Assign [.Attribute o f pos'] value pos) (Cg E (pA C to tv f)):=
 HQ (acy ha hv hs) λD σ H τ Γ Y Z rs hr t dr xr=>by
  show Ps4 τ Γ Y _ ⟨rs,hr,t,λy y3 H1 Γ1 s1 h1 r1 z1=>?_,xr⟩;show Ps4 τ Γ1 Y _ ⟨rs.mono s1.tq,h1,z1,λv x H2 Γ2 s2 h2 r2 z2=>?_,xr.mono s1⟩;let⟨a,dx,fs,rfl,g,l,z⟩:=z2;let⟨gs,hg,q⟩:=h2 a _ g;show Ps4 a C dx gs ⟨BY r2,hg,c,n,by rw[q.len];show l,?_⟩;let hh:=(h2 a _ g).some;let⟨u,hu,nn⟩:=hh;let st:gq H2 Γ2 (AM H2 a (.ins C dx (EY f y gs))) (up Γ2 a (.ins C dx (Jl f y3 fs))):=gq.set h2 g;show dr.nx _ _ _ _ ((s1.trans s2).trans st) (h2.set g (adI hu nn (Fs.put (r1.mono s2.tq) f q))) (rs.mono ((s1.trans s2).trans st).tq) z
noncomputable abbrev DE(P:Program)(w:World)(K:W.Frag)(mg:KK)(bi:Heap)(C:Addr)(m:Str)(k:Nat)(ps:List Str)(sp:Ay):Prop:=zo P w K mg bi C m k ps (Am sp)
noncomputable abbrev Tx(P:Program)(w:World)(K:W.Frag)(mg:KK)(bi:Heap)(C:Addr)(k:Nat)(ps:List Str)(sp:Ay):Prop:=acS P w K mg bi C k ps (Am sp)
noncomputable abbrev acz(C:Addr)(m:Str)(sp:Ay)(to:AN)(t:Ca):AN:=λY τ Γ Z=>to Y τ Γ λx Γ1=>∃a dx fs,x=.ref a∧Γ1 a=some (.ins C dx fs)∧fs.lookup m=none∧t Y τ Γ1 λxs Γ2=>sp (.ref a::xs) Γ2 Z λ_ _=>False
variable {k j: Nat}{ps: List Str}{sp: Ay}{o: Expr}{es: List Expr}{to: AN}{t: Ca}{apos pos p: Pos}{pl: Sem Bool}
def EX(c:DE X.prog X.w X.K X.mg X.base C m k ps sp)(hr:dA j X.A)(hk:k≤j)(he:PE X o (AE E to))(ha:PA X (e::es) (De E t))
  (ym:starEach (e::es) X.env=(false,eval e X.env)::starEach es X.env:=by rfl) (iE:(backTo pos (starEach es X.env)).any (·.1)=false:=by rfl)
  (ht:eval (.Call (.Attribute o m apos) (e::es) [] pos) X.env=(do
   let ov ←eval o X.env
   standAt apos.atName
   let(f,first) ←holding [ov] (getMethod ov m pl)
   callWith pos f first (backTo pos (starEach (e::es) X.env)) (backToKw pos (keywordEach [] X.env))):=by rfl):PE X (.Call (.Attribute o m apos) (e::es) [] pos) (AE E (acz C m sp to t)):=by
 obtain⟨f,fd,F,c,hm,hb⟩:=c;show EF (zj  (E:=J3) he c hm F (hr.mono hk) hb .nil (λ_ _ _ _ _ _ _ z=>z.elim) ha ym iE ht) λσ H Q τ Γ Y Z rs hr t vr xr=>?_;show Ps4 τ Γ Y _ ⟨rs,hr,t,λv x H1 Γ1 s1 h1 r1 z1=>?_,xr⟩;let⟨a,dx,fs,rfl,g,l,z⟩:=z1;let⟨gs,hg,q⟩:=h1 a _ g;show Ps3 a dx gs ⟨BY r1,hg,q.non l,?_⟩;show Ps4 τ Γ1 Y _ ⟨rs.mono s1.tq,h1,z,λvs xs H2 Γ2 s2 h2 r2 z2=>?_,xr.mono s1⟩;show Am sp (v::(vs++[])) H2 Q J3
 rw[BX,BY r1];show Ps4 (.ref a::xs) Γ2 Z _ ⟨FP Ep r2,h2,z2,vr.mono (s1.trans s2),λ_ _ _ _ _ z=>z.elim⟩
noncomputable abbrev oj(C:Addr)(sp:Ay)(t:Ca):AN:=λY τ Γ Z=>t Y τ Γ λxs Γ1=>∀x dx,Γ1 x=none→Γ1 dx=none→dx≠x→sp (.ref x::xs) (up Γ1 x (.ins C dx [])) (λv Γ2=>v=.non∧Z (.ref x) Γ2) λ_ _=>False
def rI{x:Str}(c:Tx X.prog X.w X.K X.mg X.base C k ps sp)(hr:dA j X.A)(hk:k+1≤j)(hg:Bs X x)(hm:X.mg x=some (.ref C))(ha:PA X (e::es) (De E t))(qK:(x ==("__debug__" : Str))=false:=by decide)
  (he:starEach (e::es) X.env=(false,eval e X.env)::starEach es X.env:=by rfl) (iE:(backTo pos (starEach es X.env)).any (·.1)=false:=by rfl):PE X (.Call (.Name x p) (e::es) [] pos) (AE E (oj C sp t)):=by
 let⟨f,fd,F,M,hb⟩:=c;show EF (aa0 (E:=J3) M F (hr.mono hk) hg hm hb .nil (λ_ _ _ _ _ _ _ z=>z.elim) ha qK he iE) λσ H Q τ Γ Y Z rs hr t vr xr=>?_;show Ps4 τ Γ Y _ ⟨rs,hr,t,λvs xs H1 Γ1 s1 h1 r1 z1=>?_,xr⟩;intro x dx hx Wg ne;rw[BX];let k1:=Cm (o:=.own x) Wg;let V4:(AM H1 dx (.own x)) x=none:=by rw[B0 (G5 ne)];show hx
 let Q6:gq H1 Γ1 (AM H1 dx (.own x)) Γ1:=.keep k1;have Gk  := h1.keep k1;let oO:gq (AM H1 dx (.own x)) Γ1 (AM (AM H1 dx (.own x)) x (.ins C dx [])) (up Γ1 x (.ins C dx [])):=.make V4;let h2:=Gk.make  (o3:=.ins C dx []) V4 ⟨[],Bu,.nil⟩;show Ps4 (.ref x::xs) _ _ _ ⟨FP Ep (r1.mono (Q6.trans oO).tq),h2,z1 x dx (h1.free hx) (h1.free Wg) ne,λv u H3 Γ3 s3 h3 r3 z3=>?_,λ_ _ _ _ _ z=>z.elim⟩;let⟨rfl,z⟩:=z3;show⟨JC r3,vr _ _ H3 Γ3 (s1.trans ((Q6.trans oO).trans s3)) h3 Ep z⟩
end
section
def tW:BZ X (binaryOp .Add) (λx y Γ Z=>∃a b ts us,x=.ref a∧y=.scr X.K b us∧Γ a=some (.lst ts)∧ts.length+us.length≤sizeLine∧∀p,Γ p=none→Z (.ref p) (up Γ p (.lst (ts++us)))):=
 ⟨_,aaq,λx y a b H Γ Q Z ra rb hr q0 vr=>by
  let⟨p,p',ts,us,ea,eb,g1,l,z⟩:=q0;subst ea eb;let⟨vs,hv,q⟩:=hr p _ g1;let⟨rfl,⟨Bx,sq,q'⟩⟩:=aD rb;show Ps4 p p' vs Bx ⟨BY ra,rfl,jI.of hv,sq.sq,by rw[q.length,q'.length];show l,λc hc=>?_⟩;let k:=Cm (o:=.lst (vs++Bx)) hc;show vr _ _ _ _ (.make hc) (hr.make (o3:=.lst (ts++us)) hc ⟨_,Bu,Rs.app (q.mono (DL k)) (q'.mono (DL k))⟩) Ep (z c (hr.free hc))⟩
abbrev ud(gd:AR→Prop)(g:D5)(te:AN)(C:List Str→AR→Prop)(ts:List T)(τ:BJ)(Γ:AR):Prop:=∃P:List T→BJ→List Str→AR→Prop,P ts τ [] Γ∧(∀τ ys Γ,P [] τ ys Γ→gd Γ∧C ys Γ)∧
 ∀x r τ ys Γ,P (x::r) τ ys Γ→gd Γ∧g CG x τ Γ λτ3 Γ3=>te CG τ3 Γ3 λy Γ5=>∃k,y=.str k∧P r τ3 (ys++[k]) Γ5
abbrev QT(P:Program)(w:World)(wi:I3)(g:D5)(te:AN)(own:List Str)(cap:List (Nat×Str)):AN:=λY τ Γ Z=>wi Y τ Γ λts gd Γ1=>ts.length≤999∧
 ud gd g te (λys Γ2=>∀D S n,fY ys S n→Γ2 D=none→Z (.ref D) (up Γ2 D (.ext (setAt P w D S n)))) ts (Gx own cap τ) Γ1
def xy{P:Program}{w:World}(σ:St)(H:A5)(Q:Ar)(q:AE E (QT P w wi g te own cap) σ H Q):ft P w (EB E wi) (EK C3 g) (AE C3 te) own cap σ H Q:=by
 let⟨τ,Γ,Y,Z,rs,hr,t,vr,xr⟩:=q;show Ps4 τ Γ Y _ ⟨rs,hr,t,λJ ts gd H1 Γ1 s1 h1 wk⟨hz,Pv,z1,p0,pc⟩=>?_,xr⟩;intro D hD;let nl:∀φ ,(∀us ,HO.ext φ≠.tup us)∧∀b w,HO.ext φ≠.frz b w:=λ_=>⟨λ_ z=>(nomatch z),λ_ _ z=>(nomatch z)⟩;show⟨λi m σ' S n H'=>∃τ' ys Γ',i≤ts.length∧m=ts.length-i∧ys.length≤i∧fY ys S n∧RS H' σ' τ'∧HR H' Γ'∧H' D=some (.ext (setAt P w D S n))∧Γ' D=none∧gq H1 Γ1 H' Γ'∧Pv (ts.drop i) τ' ys Γ',
  ⟨ts.length,Gx own cap τ,[],Γ1,E6 _,rfl,Ap _,fY.nil,(NU own (rs.mono s1.tq) cap).mono (DL (Cm hD)),h1.keep (Cm hD),Bu,h1.free hD,.keep (Cm hD),z1⟩,?_⟩
 intro i m σ2 S n H2⟨τ2,ys,Γ2,hi,rfl,hv,on,wY,h2,d2,gD,s2,w2⟩;show⟨d2,?_⟩;by_cases d0:i<ts.length
 ·rw[drop_cons d0]at w2
  let⟨g2,w2⟩:=pc _ _ _ _ _ w2;let nn:=on.le;show .inr ⟨wk.go i H2 Γ2 s2.tq h2 g2 d0,by lia,λσ' S' n' H'=>∃τ' ys Γ',ys.length≤i+1∧fY ys S' n'∧RS H' σ' τ'∧HR H' Γ'∧H' D=some (.ext (setAt P w D S' n'))∧Γ' D=none∧gq H1 Γ1 H' Γ'∧Pv (ts.drop (i+1)) τ' ys Γ',
   λσ' S' n' H' ξ=>Xi38 ξ λτ' ys Γ' a b c d e f k l=>⟨ts.length-(i+1),by lia,τ',ys,Γ',d0,rfl,a,b,c,d,e,f,k,l⟩,λx H3 yl=>?_⟩
  let⟨s3,h3,⟨x3,e3,r3⟩⟩:=wk.qR i H2 Γ2 x H3 s2.tq h2 g2 d0 yl;rw[BV d0]at e3;cases e3;show Ps5 _ τ2 Γ2 CG _ ⟨r3,wY.mono s3.tq,h3,w2,λσ4 τ4 H4 Γ4 s4 h4 r4 z4=>?_,F2⟩;show Ps4 τ4 Γ4 CG _ ⟨r4,h4,z4,λy y' H6 Γ6 s6 h6 r6 z6=>?_,F2⟩;obtain⟨k,rfl,z6⟩:=z6;have rS:=(s3.trans s4).trans s6;have d6  := rS.uJ D _ d2 gD;have g6  := rS.new D (by rw[d2];exactλz=>nomatch z) gD;have tq:Tq H6 (AM H6 D (.ext (setAt P w D (λk'=>S k'||decide (k'=k)) (more S n k)))):=GO d6 (nl _);show⟨k,Bz r6,d6,τ4,ys++[k],Γ6,by rw[BP];show LX hv,on.snoc,(r4.mono s6.tq).mono tq,h6.hide g6 d6 (nl _),Bu,g6,?_,z6⟩;have s7:=s2.trans rS;show⟨s7.tq.trans tq,λa h z=>?_,s7.new,λa o h g=>?_⟩
  ·by_cases e:a=D
   ·subst e;show h hD
   ·rw[B0 e]at z;show s7.v5 a h z
  ·let e:a≠D:=λe=>by subst e;rw[hD]at h;cases h
   rw[B0 e];show s7.uJ a o h g
 ·let e:i=ts.length:=by lia
  subst e;rw[J0]at w2;let w2:=p0 _ _ _ w2;show .inl ⟨wk.stop H2 Γ2 s2.tq h2 w2.1,?_⟩;let qW:=s1.trans s2;show vr (.ref D) (.ref D) H2 (up Γ2 D (.ext (setAt P w D S n))) ⟨qW.tq,qW.v5,λa h g=>?_,qW.uJ⟩ (λa o g=>?_) Ep (w2.2 D S n on gD)
  ·let e:a≠D:=λe=>by subst e;show s1.v5 _ h hD
   rw[BR e];show qW.new a h g
  ·by_cases e:a=D
   ·subst e;rw[Au]at g;cases g;show d2
   ·rw[BR e]at g;show h2 a o g
def kW{scope:Scope}{cl:List (Str×Addr)}{tg iter elt:Expr}(c:c9 X scope cl own cap)(hc:X.calm=true)(hi:PI X tg iter (EB E wi))
  (hg:∀C s H fp,PG (BK X (own++cap.map (·.2)) scope cl C s H fp λ_ _=>False) tg (EK C3 g))
  (he:∀C s H fp,PE (BK X (own++cap.map (·.2)) scope cl C s H fp λ_ _=>False) elt (AE C3 te)) (hs:∀x,foldedSetIterable iter X.env x=pure x:=by intro _;rfl) :
  PE X (.SetComp elt [⟨tg,iter,[],0⟩] scope pos) (AE E (QT X.prog X.w wi g te own cap)):=Fi (abW c hc hi hg he hs) xy
def UP:FU X (.builtin "len") (λxs Γ Z=>∃(p:Addr) (S:Str→Bool) (n:Nat),xs=[.ref p]∧Γ p=some (.ext (setAt X.prog X.w p S n))∧Z (.int n) Γ):=
 ⟨_,zm,λvs xs H Γ Q Z r hr q0 vr=>by
  let⟨p,S,n,e,g,z⟩:=q0;subst e;let⟨v,rfl,a⟩:=E4 r;show Ps3 p S n ⟨by rw[BY a],hr p _ g,vr _ _ H Γ .refl hr Dy z⟩⟩
end
section
variable {st: Expr}{te ts: AN}{p2 pos: Pos}
def aaX(he:PE X e (AE E te))(hs:PE X st (AE E ts)):PE X (.Subscript e (.Slice none none (some st) p2) pos) (AE E (cV (λx Γ Z=>∃z:Str,x=.str z∧z.length≤sizeLine∧∀y:Str,y.length≤z.length→(∀c∈y.cps.toList,c∈z.cps.toList)→Z (.str y) Γ) te ts)):=
 Fi (wB zi he hs) (u0 λv x H Γ Q Z r hr q0 vr=>by
  let⟨w,ex,l,z⟩:=q0;subst ex;show⟨w,Bz r,l,λy hy hc=>vr _ _ H Γ .refl hr IU (z y hy hc)⟩)
end
section
variable {Γ: AR}{a dx: Addr}{fs: List (Str×T)}{f: Str}
def mK{Q:T→Prop}{v:T}(g:Γ a=some (.ins C dx fs))(l:fs.lookup f=some v)(z:Q v):∃a' NO IA v',T.ref a=.ref a'∧Γ a'=some (.ins C NO IA)∧IA.lookup f=some v'∧Q v':=Ps4 a dx fs v ⟨rfl,g,l,z⟩
def adp{Q:AR→Prop}{y:T}(g:Γ a=some (.ins C dx fs))(l:Nat.ble fs.length 900=true)(z:Q (up Γ a (.ins C dx (Jl f y fs)))):∃a' NO IA,T.ref a=.ref a'∧Γ a'=some (.ins C NO IA)∧IA.length<1000∧Q (up Γ a' (.ins C NO (Jl f y IA))):=Ps3 a dx fs ⟨rfl,g,by have:=Nat.le_of_ble_eq_true l;lia,z⟩
def atK{Q:Addr→Prop}(g:Γ a=some (.ins C dx fs))(l:fs.lookup m=none)(z:Q a):∃a' NO IA,T.ref a=.ref a'∧Γ a'=some (.ins C NO IA)∧IA.lookup m=none∧Q a':=Ps3 a dx fs ⟨rfl,g,l,z⟩
def Lo{i j:Str}{Q:Str→Str→Prop}(l:i.length+j.length≤sizeLine)(h:Q i j):∃i' j',T.str i=.str i'∧T.str j=.str j'∧i'.length+j'.length≤sizeLine∧Q i' j':=Ps2 i j ⟨rfl,rfl,l,h⟩
end
end L3
namespace L3
open PySem PySem.Spec L2
open PyProof.Rows hiding St
abbrev ups:=BJ→List T→AR→(BJ→List T→AR→Prop)→Prop
end L3
namespace L3
open PySem PySem.Spec L2
open PyProof.Rows hiding St
variable {pos:Pos}{v:V}{o i:Expr}{td ty:AN}{X: Cx}{E: St→BG}
section
variable {pos p: Pos}
abbrev KT(K:W.Frag)(a:Addr)(ts:List T):Prop:=∃vs,eN K a vs∧∀H,Rs H vs ts
def aaw:FU X (.builtin "len") (λxs Γ Z=>∃b ts,xs=[.ref b]∧KT X.K b ts∧Z (.int ts.length) Γ):=
 ⟨_,Wx,λvs xs H Γ Q Z r hr q0 vr=>by
  let⟨b,ts,e,⟨ws,hk,q⟩,z⟩:=q0;subst e;let⟨v,rfl,rv⟩:=E4 r;show Ps2 b ws ⟨by rw[BY rv],.inr hk.sq,by rw[(q H).length];show vr _ _ H Γ .refl hr Dy z⟩⟩
def acw{K:W.Frag}(hK:X.K=K){x:Expr}{te:AN}{p p2 pos:Pos}{Tn:Str}{Ty:String}(hg:Bs X "isinstance")(hm:X.mg "isinstance" = none)(Qh:Bs X Tn)(Qd:X.mg Tn=none)(P5:bootBuiltins Tn=some (.type Ty))(he:PE X x (AE E te))(hn:Tn ≠ "__name__" := by decide)(Ql:(Tn ==("__debug__" : Str))=false:=by decide)
  (hs:starEach [x,.Name Tn p2] X.env=(false,eval x X.env)::starEach [.Name Tn p2] X.env:=by rfl) (vO:starEach [.Name Tn p2] X.env=[(false,eval (.Name Tn p2) X.env)]:=by rfl)
  (iE:(backTo pos (starEach [.Name Tn p2] X.env)).any (·.1)=false:=by rfl):PE X (.Call (.Name "isinstance" p) [x,.Name Tn p2] [] pos) (AE E (eC K Ty te)):=by
 subst hK;show D0 hg hm Qh Qd P5 he hn Ql hs vO iE
end
abbrev GW:AB→T
 |.inl i=>.int i
 |.inr z=>.str z
def Hq{H:A5}{k:AB}(h:R H v (GW k)):v=BI k:=by
 cases k with
 |inl i=>show Cb h
 |inr z=>show Bz h
abbrev Dm(aA:List (AB×T))(k:AB):Option T:=(aA.find? λkv=>decide (kv.1=k)).map (·.2)
abbrev Em(aA:List (AB×T))(k:AB)(v:T):List (AB×T):=
 if(aA.any λkv=>decide (kv.1=k))=true then aA.map (λkv=>if kv.1=k then(kv.1,v)else kv)else aA++[(k,v)]
section
variable {H: A5}
def Ks.len:∀{us:List (AB×V)} {aA:List (AB×T)},Ks H us aA→us.length=aA.length
 |_,_,.nil=>rfl
 |_,_,.cons a b=>by rw[Bb,Bb,Ks.len b]
def Ks.val:∀{us:List (AB×V)} {aA:List (AB×T)} (k:AB),Ks H us aA→(EP us k=none∧Dm aA k=none)∨∃v t,EP us k=some v∧Dm aA k=some t∧R H v t
 |_,_,k,.nil=>.inl ⟨rfl,rfl⟩
 |(k1,v)::us,(k2,t)::aA,k,.cons a b=>by
  let⟨e,r⟩:=a;subst e;by_cases h:k1=k
  ·show .inr ⟨v,t,QI h,by simp[Dm,Gr,h],r⟩
  ·rcases Ks.val k b with⟨x,y⟩|⟨v',t',x,y,r'⟩
   ·show .inl ⟨by rw[Lc h];show x,by rw[show Dm ((k1,t)::aA) k=Dm aA k by simp[Dm,Gr,h]];show y⟩
   ·show .inr ⟨v',t',by rw[Lc h];show x,by rw[show Dm ((k1,t)::aA) k=Dm aA k by simp[Dm,Gr,h]];show y,r'⟩
def Ks.any:∀{us:List (AB×V)} {aA:List (AB×T)} (k:AB),Ks H us aA→(us.any λkv=>decide (kv.1=k))=(aA.any λkv=>decide (kv.1=k))
 |_,_,k,.nil=>rfl
 |(k1,v)::us,(k2,t)::aA,k,.cons a b=>by
  let⟨e,r⟩:=a;subst e;rw[G7,G7,Ks.any k b]
def Ks.map:∀{us:List (AB×V)} {aA:List (AB×T)} {v:V} {t:T} (k:AB),R H v t→Ks H us aA→Ks H (us.map λkv=>if kv.1=k then(kv.1,v)else kv) (aA.map λkv=>if kv.1=k then(kv.1,t)else kv)
 |_,_,v,t,k,r,.nil=>.nil
 |(k1,v1)::us,(k2,t1)::aA,v,t,k,r,.cons a b=>by
  let⟨e,r1⟩:=a;subst e;rw[Cq,Cq];by_cases h:k1=k
  ·rw[AO h,AO h];show .cons ⟨rfl,r⟩ (Ks.map k r b)
  ·rw[AL h,AL h];show .cons ⟨rfl,r1⟩ (Ks.map k r b)
def Ks.snoc:∀{us:List (AB×V)} {aA:List (AB×T)} {v:V} {t:T} (k:AB),R H v t→Ks H us aA→Ks H (us++[(k,v)]) (aA++[(k,t)])
 |_,_,v,t,k,r,.nil=>.cons ⟨rfl,r⟩ .nil
 |_::_,_::_,v,t,k,r,.cons a b=>.cons a (Ks.snoc k r b)
def Ks.put{us:List (AB×V)}{aA:List (AB×T)}{t:T}(k:AB)(r:R H v t)(h:Ks H us aA):Ks H (putK us k v) (Em aA k t):=by
 unfold putK Em;rw[h.any k];split
 ·show h.map k r
 ·show h.snoc k r
end
section
def fk(hu:X.A.units+1<cLine):BZ X (compareOp .In) (λy x Γ Z=>∃a aA k,x=.ref a∧y=GW k∧Γ a=some (.dK aA)∧Z (.bl (Dm aA k).isSome) Γ):=
 ⟨_,yk hu,λy x v b H Γ Q Z ra rb hr q0 vr=>by
  let⟨a,aA,k,ex,ey,g,z⟩:=q0;subst ex ey;let⟨us,hu,q⟩:=hr a _ g;rw[Hq ra];show Ps2 a _ ⟨BY rb,jZ.k hu,?_⟩;let e:(EP us k).isSome=(Dm aA k).isSome:=by
   rcases q.val k with⟨x,y⟩|⟨v,t,x,y,_⟩<;>rw[x,y]<;>rfl
  rw[e];show vr _ _ H Γ .refl hr Cr z⟩
def rG(hu:X.A.units+1<cLine):BZ X (compareOp .NotIn) (λy x Γ Z=>∃a aA k,x=.ref a∧y=GW k∧Γ a=some (.dK aA)∧Z (.bl (!(Dm aA k).isSome)) Γ):=
 ⟨_,mH hu,λy x v b H Γ Q Z ra rb hr q0 vr=>by
  let⟨a,aA,k,ex,ey,g,z⟩:=q0;subst ex ey;let⟨us,hu,q⟩:=hr a _ g;rw[Hq ra];show Ps2 a _ ⟨BY rb,jZ.k hu,?_⟩;let e:(EP us k).isSome=(Dm aA k).isSome:=by
   rcases q.val k with⟨x,y⟩|⟨v,t,x,y,_⟩<;>rw[x,y]<;>rfl
  rw[e];show vr _ _ H Γ .refl hr Cr z⟩
abbrev Hz(td ty:AN):AN:=λY τ Γ Z=>td Y τ Γ λx Γ1=>ty Y τ Γ1 λy Γ2=>∃a aA k v,x=.ref a∧y=GW k∧Γ2 a=some (.dK aA)∧Dm aA k=some v∧Z v Γ2
def Gv(hu:X.A.units+1<cLine)(ho:PE X o (AE E td))(hi:PE X i (AE E ty))(hs:Mb i:=by exactλ_ _=>rfl):PE X (.Subscript o i pos) (AE E (Hz td ty)):=
 EF (acN hu ho hi hs) λσ H Q τ Γ Y Z rs hr t vr xr=>by
  show Ps4 τ Γ Y _ ⟨rs,hr,t,λv x H1 Γ1 s1 h1 r1 z1=>?_,xr⟩;show Ps4 τ Γ1 Y _ ⟨rs.mono s1.tq,h1,z1,λw y H2 Γ2 s2 h2 r2 z2=>?_,xr.mono s1⟩;let⟨a,aA,k,u,rfl,rfl,g,l,z⟩:=z2;let⟨us,hu,q⟩:=h2 a _ g;rcases q.val k with⟨_,y⟩|⟨v',t',x',y',r'⟩
  ·rw[l]at y;cases y
  rw[l]at y';cases y';show Ps2 a v' ⟨BY r1,?_,vr v' u H2 Γ2 (s1.trans s2) h2 r' z⟩;rw[Hq r2,←x'];show jZ.k hu
abbrev ik(td ty tv:AN):CN:=λY D τ Γ=>tv Y τ Γ λv Γ1=>td Y τ Γ1 λx Γ2=>ty Y τ Γ2 λy Γ3=>∃a aA k,x=.ref a∧y=GW k∧Γ3 a=some (.dK aA)∧aA.length<sizeLine∧D.nx τ (up Γ3 a (.dK (Em aA k v)))
def vd{value:Expr}{tv:AN}{pos':Pos}(hu:X.A.units+1<cLine)(ho:PE X o (AE E td))(hi:PE X i (AE E ty))(hv:PE X value (AE E tv))(hs:swapsWith value (some (.Subscript o i pos')) pos.line X.env=pure false:=by rfl):PS X (.Assign [.Subscript o i pos'] value pos) (Cg E (ik td ty tv)):=
 HQ (rm hu ho hi hv hs) λD σ H τ Γ Y Z rs hr t dr xr=>by
  show Ps4 τ Γ Y _ ⟨rs,hr,t,λv v3 H1 Γ1 s1 h1 r1 z1=>?_,xr⟩;show Ps4 τ Γ1 Y _ ⟨rs.mono s1.tq,h1,z1,λx x3 H2 Γ2 s2 h2 r2 z2=>?_,xr.mono s1⟩;show Ps4 τ Γ2 Y _ ⟨rs.mono (s1.trans s2).tq,h2,z2,λy y3 H3 Γ3 s3 h3 r3 z3=>?_,xr.mono (s1.trans s2)⟩;let⟨a,aA,k,rfl,rfl,g,l,z⟩:=z3;let⟨us,hu,q⟩:=h3 a _ g;let VC:=(s1.trans s2).trans s3;let st:gq H3 Γ3 (AM H3 a (.dK (putK us k v))) (up Γ3 a (.dK (Em aA k v3))):=gq.set h3 g;show Ps2 a _ ⟨BY r2,by rw[Hq r3];show Ge.k hu (by rw[q.len];show l),?_⟩;let tq:Tq H3 (AM H3 a (.dK (putK us k v))):=GO hu ⟨λ_ z=>(nomatch z),λ_ _ z=>(nomatch z)⟩;show dr.nx _ _ _ _ (VC.trans st) (h3.set g ⟨_,Bu,(q.put k (r1.mono (s2.trans s3).tq)).mono tq⟩) (rs.mono (VC.trans st).tq) z
end
end L3
namespace L3
open PySem PySem.Spec L2
variable {oc BI doc pm cq ct:Value}{od an:Option Addr}{BS:Array (Option Value)}{wi:I3}{g:D5}{tk tv:AN}{own:List Str}{cap:List (Nat×Str)}
abbrev R3(zs:List Str)(xs:List T):List (AB×T):=(zs.map Sum.inr).zip xs
section
variable {P: Program}{w: World}{K: W.Frag}{mg: Str→Option Value}{bi h: Heap}{x q: Str}{st: Stmt}{f: Addr}{fd: FuncData}{ps: List Str}{n: Nat}{sp: Dw}
structure Dg(K:W.Frag)(x:Str)(st:Stmt)(f:Addr)(fd:FuncData):Prop where
 a:W.nsIn K mainGlobals x=some (some (.ref f))
 F:cT K x x st f fd
def dg(a:W.nsIn K mainGlobals x=some (some (.ref f)))(l:K.lookup f=some ⟨oc,od,.func (W.fnOf x x (IB st) (G0 st) (Ag st) .none BI doc pm an cq ct),BS⟩)(c:W.codeIn K cq x=true)(k:W.keepIn K (.ref f)=true):Dg K x st f (W.fnOf x x (IB st) (G0 st) (Ag st) .none BI doc pm an cq ct):=⟨a,ji l c k⟩
structure Df(K:W.Frag)(mg:KK)(x:Str)(st:Stmt)(ps:List Str)(f:Addr)(fd:FuncData):Prop where
 F:cT K x x st f fd
 m:mg x=some (.ref f)
 k:W.keepIn K (.ref f)=true
 b:Binds K fd ps []
def Dg.df(d:Dg K x st f fd)(X:K.In h)(G:h.Ns mainGlobals mg)(hb:∀(BI doc pm:Value) (an:Option Addr) (cq ct:Value) (us:List Value),us.length=ps.length→bindArgs (W.fnOf x x (IB st) (G0 st) (Ag st) .none BI doc pm an cq ct) ⟨us,[]⟩=pure (ps.zip us)):Df K mg x st ps f fd:=⟨d.F,Dq X G d.a,d.F.kp,d.F.binds hb⟩
def Df.cl(d:Df K mg x st ps f fd)(o:bj P w K mg bi Ao n f fd ps sp):Callee P w K mg bi x n ps sp:=Ps2 f fd ⟨o,d.m,d.k,d.b⟩
def Df.cx(d:Df K mg x st ps f fd)(o:bj P w K mg bi (G6 P w) n f fd ps sp):av P w K mg bi x n ps sp:=Ps2 f fd ⟨o,d.m,d.k,d.b⟩
abbrev Zs(K:W.Frag):List Str→Prop
 |[]=>True
 |x::l=>W.nsIn K mainGlobals x=some none∧Zs K l
abbrev jE(mg:KK):List Str→Prop
 |[]=>True
 |x::l=>mg x=none∧jE mg l
def Zs.m(X:K.In h)(G:h.Ns mainGlobals mg):∀{l:List Str},Zs K l→jE mg l
 |[],_=>trivial
 |_::_,⟨a,b⟩=>⟨W.mg_none_of X G a,Zs.m X G b⟩
def zc{x:Str}{l:List Str}(a:W.nsIn K mainGlobals x=some none)(b:Zs K l):Zs K (x::l):=⟨a,b⟩
structure LD(K:W.Frag)(c:Addr)(m q:Str)(st:Stmt)(f:Addr)(fd:FuncData):Prop where
 t:Meth K c m f
 F:cT K m q st f fd
def dm{c:Addr}{m:Str}(a:W.findIn K (.ref c) m=some (some (.ref f)))(l:K.lookup f=some ⟨oc,od,.func (W.fnOf m q (IB st) (G0 st) (Ag st) .none BI doc pm an cq ct),BS⟩)(cd:W.codeIn K cq q=true)(k:W.keepIn K (.ref f)=true)(i:W.isFn K (.ref f)=true):LD K c m q st f (W.fnOf m q (IB st) (G0 st) (Ag st) .none BI doc pm an cq ct):=⟨⟨a,i,k⟩,ji l cd k⟩
end
section
variable {X: Cx}{E: St→BG}{pos: Pos}
abbrev uy(gd:AR→Prop)(g:D5)(tk tv:AN)(C:List (AB×T)→AR→Prop)(ts:List T)(τ:BJ)(Γ:AR):Prop:=∃P:List T→BJ→List (AB×T)→AR→Prop,P ts τ [] Γ∧(∀τ ys Γ,P [] τ ys Γ→gd Γ∧C ys Γ)∧
 ∀x r τ ys Γ,P (x::r) τ ys Γ→gd Γ∧g CG x τ Γ λτ3 Γ3=>tk CG τ3 Γ3 λy Γ4=>tv CG τ3 Γ4 λz Γ5=>∃k,y=GW k∧P r τ3 (Em ys k z) Γ5
abbrev QC(wi:I3)(g:D5)(tk tv:AN)(own:List Str)(cap:List (Nat×Str)):AN:=λY τ Γ Z=>wi Y τ Γ λts gd Γ1=>ts.length<sizeLine∧
 uy gd g tk tv (λys Γ2=>∀D,Γ2 D=none→Z (.ref D) (up Γ2 D (.dK ys))) ts (Gx own cap τ) Γ1
def aH(ys:List (AB×T))(k:AB)(z:T):(Em ys k z).length≤ys.length+1:=by
 unfold Em;split
 ·rw[AF];show Bk _
 ·rw[BP];show Ap _
def pN(σ:St)(H:A5)(Q:Ar)(q:AE E (QC wi g tk tv own cap) σ H Q):cJ (EB E wi) (EK C3 g) (AE C3 tk) (AE C3 tv) own cap σ H Q:=by
 let⟨τ,Γ,Y,Z,rs,hr,t,vr,xr⟩:=q;show Ps4 τ Γ Y _ ⟨rs,hr,t,λJ ts gd H1 Γ1 s1 h1 wk⟨hz,Pv,z1,p0,pc⟩=>?_,xr⟩;intro D hD;let nl:∀aA ,(∀us ,HO.dK aA≠.tup us)∧∀b w,HO.dK aA≠.frz b w:=λ_=>⟨λ_ z=>(nomatch z),λ_ _ z=>(nomatch z)⟩;show⟨λi m σ' aA H'=>∃τ' ys Γ',i≤ts.length∧m=ts.length-i∧ys.length≤i∧RS H' σ' τ'∧HR H' Γ'∧H' D=some (.dK aA)∧Γ' D=none∧Ks H' aA ys∧gq H1 Γ1 H' Γ'∧Pv (ts.drop i) τ' ys Γ',
  ⟨ts.length,Gx own cap τ,[],Γ1,E6 _,rfl,Ap _,(NU own (rs.mono s1.tq) cap).mono (DL (Cm hD)),h1.keep (Cm hD),Bu,h1.free hD,.nil,.keep (Cm hD),z1⟩,?_⟩
 intro i m σ2 aA H2⟨τ2,ys,Γ2,hi,rfl,hv,wY,h2,d2,gD,ry,s2,w2⟩;show⟨d2,?_⟩;by_cases d0:i<ts.length
 ·rw[drop_cons d0]at w2
  let⟨g2,w2⟩:=pc _ _ _ _ _ w2;let nn:=ry.len;show .inr ⟨wk.go i H2 Γ2 s2.tq h2 g2 d0,by lia,λσ' mQ H'=>∃τ' ys Γ',ys.length≤i+1∧RS H' σ' τ'∧HR H' Γ'∧H' D=some (.dK mQ)∧Γ' D=none∧Ks H' mQ ys∧gq H1 Γ1 H' Γ'∧Pv (ts.drop (i+1)) τ' ys Γ',
   λσ' mQ H' ξ=>Xi38 ξ λτ' ys Γ' a b c d e f k l=>⟨ts.length-(i+1),by lia,τ',ys,Γ',d0,rfl,a,b,c,d,e,f,k,l⟩,λx H3 yl=>?_⟩
  let⟨s3,h3,⟨x3,e3,r3⟩⟩:=wk.qR i H2 Γ2 x H3 s2.tq h2 g2 d0 yl;rw[BV d0]at e3;cases e3;show Ps5 _ τ2 Γ2 CG _ ⟨r3,wY.mono s3.tq,h3,w2,λσ4 τ4 H4 Γ4 s4 h4 r4 z4=>?_,F2⟩;show Ps4 τ4 Γ4 CG _ ⟨r4,h4,z4,λy y' H5 Γ5 s5 h5 r5 z5=>?_,F2⟩;show Ps4 τ4 Γ5 CG _ ⟨r4.mono s5.tq,h5,z5,λv v' H6 Γ6 s6 h6 r6 z6=>?_,F2⟩;obtain⟨k,rfl,z6⟩:=z6;let rS:=((s3.trans s4).trans s5).trans s6;have d6  := rS.uJ D _ d2 gD;have g6  := rS.new D (by rw[d2];exactλz=>nomatch z) gD;let tq:Tq H6 (AM H6 D (.dK (putK aA k v))):=GO d6 (nl _);show⟨k,Hq r5,d6,τ4,Em ys k v',Γ6,D6 (aH _ _ _) (LX hv),(r4.mono (s5.trans s6).tq).mono tq,h6.hide g6 d6 (nl _),Bu,g6,((ry.mono rS.tq).put k r6).mono tq,?_,z6⟩;let s7:=s2.trans rS;show⟨s7.tq.trans tq,λa h z=>?_,s7.new,λa o h g=>?_⟩
  ·by_cases e:a=D
   ·subst e;show h hD
   ·rw[B0 e]at z;show s7.v5 a h z
  ·let e:a≠D:=λe=>by subst e;rw[hD]at h;cases h
   rw[B0 e];show s7.uJ a o h g
 ·let e:i=ts.length:=by lia
  subst e;rw[J0]at w2;let w2:=p0 _ _ _ w2;show .inl ⟨wk.stop H2 Γ2 s2.tq h2 w2.1,?_⟩;let qW:=s1.trans s2;show vr (.ref D) (.ref D) H2 (up Γ2 D (.dK ys)) ⟨qW.tq,qW.v5,λa h g=>?_,qW.uJ⟩ (λa o g=>?_) Ep (w2.2 D gD)
  ·let e:a≠D:=λe=>by subst e;show s1.v5 _ h hD
   rw[BR e];show qW.new a h g
  ·by_cases e:a=D
   ·subst e;rw[Au]at g;cases g;show⟨_,d2,ry⟩
   ·rw[BR e]at g;show h2 a o g
def dy{scope:Scope}{cl:List (Str×Addr)}{tg iter kx Cf:Expr}(c:c9 X scope cl own cap)(hc:X.calm=true)(hi:PI X tg iter (EB E wi))
  (hg:∀C s H fp,PG (BK X (own++cap.map (·.2)) scope cl C s H fp λ_ _=>False) tg (EK C3 g))
  (hk:∀C s H fp,PE (BK X (own++cap.map (·.2)) scope cl C s H fp λ_ _=>False) kx (AE C3 tk))
  (hv:∀C s H fp,PE (BK X (own++cap.map (·.2)) scope cl C s H fp λ_ _=>False) Cf (AE C3 tv)) (hs:∀x,foldedSetIterable iter X.env x=pure x:=by intro _;rfl) :
  PE X (.DictComp kx Cf [⟨tg,iter,[],0⟩] scope pos) (AE E (QC wi g tk tv own cap)):=Fi (mR c hc hi hg hk hv hs) pN
end
end L3
namespace L3
open PySem PySem.Spec L2
open PyProof.Rows hiding St
variable {t u:T}{d:Nat}{e o:Expr}{H:A5}{ts us:List T}{td ty:AN}{pos:Pos}{X: Cx}
inductive Dp:Nat→T→Prop
 |int {d:Nat} (i:Int):Dp d (.int i)
 |str {d:Nat} (z:Str):Dp d (.str z)
 |tup {d:Nat} {ts:List T} (q:∀t∈ts,Dp d t):Dp (d+1) (.tup ts)
noncomputable def BW(t u:T):Bool:=@decide (t=u) (Classical.propDecidable _)
def ox:BW t u=true↔t=u:=by show @decide_eq_true_iff _ (Classical.propDecidable _)
def F8{b:Bool}(h:b=true↔t=u):BW t u=b:=by
 cases b with
 |true=>show ox.mpr (h.mp rfl)
 |false=>
  cases e:BW t u with
  |false=>rfl
  |true=>show(h.mpr (ox.mp e)).symm
def Dp.mono{e:Nat}(h:d≤e)(p:Dp d t):Dp e t:=by
 induction p generalizing e with
 |int i=>show .int i
 |str z=>show .str z
 |@tup d ts q ih=>
  obtain⟨e',rfl⟩:∃e',e=e'+1:=⟨e-1,by lia⟩;show .tup λt ht=>ih t ht (by lia)
def y6:∀{d:Nat} {t:T},Dp d t→∀{d':Nat} {t':T} {v:V},Dp d' t'→R H v t→R H v t'→t=t':=by
 intro d t h;induction h with
 |int i=>
  intro d' t' v h' r r';let e:=Cb r;subst e;cases h' with
  |int j=>show DT _ (V.int.inj (Cb r'))
  |str z=>cases Bz r'
  |tup q=>let⟨_,_,e,_⟩:=CD r';cases e
 |str z=>
  intro d' t' v h' r r';let e:=Bz r;subst e;cases h' with
  |int j=>cases Cb r'
  |str z=>show DT _ (V.str.inj (Bz r'))
  |tup q=>let⟨_,_,e,_⟩:=CD r';cases e
 |@tup d ts q ih=>
  intro d' t' v h' r r';let⟨p,vs,rfl,hp,rr⟩:=CD r;cases h' with
  |int j=>cases Cb r'
  |str z=>cases Bz r'
  |@tup _ us q'=>
   let⟨p2,vs2,e,mS,VD⟩:=CD r';cases e;rw[hp]at mS;cases mS;let l1:=rr.length;let l2:=VD.length;congr 1
   show Ut (by lia) λj h1 h2=>?_;show ih _ (Eg h1) (q' _ (Eg h2)) (rr.getD (BV h1)) (VD.getD (BV h2))
section
def tR:((List.range (min ts.length us.length)).all (λj=>BW (ts.getD j .non) (us.getD j .non))&&ts.length==us.length)=true↔ts=us:=by
 rw[EJ,aaR,abZ];constructor
 ·intro⟨h,l⟩
  show Ut l λj h1 h2=>?_;have:=ox.mp (h j (aaP.mpr (by lia)));rwa[DJ,DJ,BV h1,BV h2]at this
 ·rintro rfl
  show⟨λj _=>ox.mpr rfl,rfl⟩
def TG{v4:ac}{s:Shared}{σ:L2.St}(I:L2.Inv X v4 σ H s):∀{d:Nat} {t:T},Dp d t→∀{d':Nat} {t':T},Dp d' t'→∀{A:Around} {v v':V} {u u':Value},A.units+d<cLine→R H v t→R H v' t'→RelV v u→RelV v' u'→SeqAt.EqAt A s u u' (BW t t'):=by
 intro d t h;induction h with
 |@int d i=>
  intro d' t' h' A v v' u u' hu r r' x x';rw[Cb r]at x;cases h' with
  |int j=>
   rw[Cb r']at x';have:=Lx (A:=A) (s:=s) x x' rfl rfl;rwa[show Ea (.int i) (.int j)=BW (.int i) (.int j)from(F8 (by simp[Ea])).symm]at this
  |str z=>
   rw[Bz r']at x';have:=Lx (A:=A) (s:=s) x x' rfl rfl;rwa[show Ea (.int i) (.str z)=BW (.int i) (.str z)from(F8 (by simp[Ea])).symm]at this
  |@tup _ us q'=>
   let⟨p',Bx,rfl,wF,Ct⟩:=CD r';cases x';let⟨iM,vj,sf,Nz⟩:=I.tuple (eP.of (K:=X.K) wF);let⟨t0,rfl⟩:=x;rw[show BW (.int i) (.tup us)=false from F8 (by simp)];show SeqAt.EqAt.int_tuple _ _ sf (by lia)
 |@str d z=>
  intro d' t' h' A v v' u u' hu r r' x x';rw[Bz r]at x;cases h' with
  |int j=>
   rw[Cb r']at x';have:=Lx (A:=A) (s:=s) x x' rfl rfl;rwa[show Ea (.str z) (.int j)=BW (.str z) (.int j)from(F8 (by simp[Ea])).symm]at this
  |str z2=>
   rw[Bz r']at x';have:=Lx (A:=A) (s:=s) x x' rfl rfl;rwa[show Ea (.str z) (.str z2)=BW (.str z) (.str z2)from(F8 (by simp[Ea])).symm]at this
  |@tup _ us q'=>
   let⟨p',Bx,rfl,wF,Ct⟩:=CD r';cases x';let⟨iM,vj,sf,Nz⟩:=I.tuple (eP.of (K:=X.K) wF);let⟨t0,rfl⟩:=x;rw[show BW (.str z) (.tup us)=false from F8 (by simp)];show SeqAt.EqAt.str_tuple _ _ sf (by lia)
 |@tup d ts q ih=>
  intro d' t' h' A v v' u u' hu r r' x x';let r0:=r;let XT:=r';let⟨p,vs,rfl,hp,rr⟩:=CD r;cases x;let⟨bp,rv,pl,hz⟩:=I.tuple (eP.of (K:=X.K) hp);cases h' with
  |int j=>
   rw[Cb r']at x';let⟨t0,rfl⟩:=x';rw[show BW (.tup ts) (.int j)=false from F8 (by simp)];show SeqAt.EqAt.tuple_int _ _ pl (by lia)
  |str z=>
   rw[Bz r']at x';let⟨t0,rfl⟩:=x';rw[show BW (.tup ts) (.str z)=false from F8 (by simp)];show SeqAt.EqAt.tuple_str _ _ pl (by lia)
  |@tup d2 us q'=>
   let⟨p',Bx,rfl,wF,Ct⟩:=CD r';cases x';by_cases e:p=p'
   ·subst e
    rw[y6 (.tup q) (.tup q') r0 XT,show BW (.tup us) (.tup us)=true from ox.mpr rfl];show SeqAt.EqAt.same _
   ·let⟨iM,vj,sf,Nz⟩:=I.tuple (eP.of (K:=X.K) wF)
    let l1:=rr.length;let l2:=Ct.length;let l3:=rv.length;let l4:=vj.length;have:=SeqAt.RcAt.tuples (A:=A) (e:=λj=>BW (ts.getD j .non) (us.getD j .non)) pl sf (by lia) (λj h1 h2=>?_)
    ·show SeqAt.EqAt.of_refs e ?_
     rw[Bn,Bn,←l3,←l4,l1,l2]at this;rwa[show BW (.tup ts) (.tup us)=((List.range (min ts.length us.length)).all (λj=>BW (ts.getD j .non) (us.getD j .non))&&ts.length==us.length)from F8 (tR.trans ⟨λz=>by rw[z],λz=>T.tup.inj z⟩)]
    ·let Gk:j<ts.length:=by rw[Bn]at h1;lia
     let JW:j<us.length:=by rw[Bn]at h2;lia
     let g:ts[j]?=some ts[j]:=BV Gk;let g':us[j]?=some us[j]:=BV JW;have:=ih _ (Eg Gk) (q' _ (Eg JW)) (A:=A.in1) (by show A.units+1+d<cLine;lia) (rr.getD g) (Ct.getD g') (Vals.at rv (by simpa using h1)) (Vals.at vj (by simpa using h2));rwa[DJ,DJ,g,g']
def ac5(hu:X.A.units+(1+d)<cLine):iL X (compareOp .NotEq) (λx y H Q=>∃ts us:List T,R H x (.tup ts)∧R H y (.tup us)∧(∀t∈ts,Dp d t)∧(∀t∈us,Dp d t)∧Q (.bl (!BW (.tup ts) (.tup us))) H):=by
 intro v4 s σ H x y v u Q I rx ry h;let⟨ts,us,r,r',q1,q2,q⟩:=h;let⟨p,vs,rfl,hp,rr⟩:=CD r;let⟨p',Bx,rfl,wF,Ct⟩:=CD r';cases rx;cases ry;let⟨bp,rv,pl,hz⟩:=I.tuple (eP.of  hp);let⟨iM,vj,sf,Nz⟩:=I.tuple (eP.of  wF);let l1:=rr.length;let l2:=Ct.length;let l3:=rv.length;let l4:=vj.length;show SeqAt.RcNeAt.tuples (e:=λj=>BW (ts.getD j .non) (us.getD j .non)) pl sf (by lia) (λj h1 h2=>?_) _ _ _ _ ⟨.bl (!BW (.tup ts) (.tup us)),H,I,?_,q⟩
 ·let Gk:j<ts.length:=by rw[Bn]at h1;lia
  let JW:j<us.length:=by rw[Bn]at h2;lia
  have g  := BV Gk;have g'  := BV JW;have:=TG I (q1 _ (Eg Gk)) (q2 _ (Eg JW)) (A:=X.A.in1) (by show X.A.units+1+d<cLine;lia) (rr.getD g) (Ct.getD g') (Vals.at rv (by simpa using h1)) (Vals.at vj (by simpa using h2));rwa[DJ,DJ,g,g']
 ·congr 2
  rw[Bn,Bn,←l3,←l4,l1,l2];show(F8 (tR.trans ⟨λz=>by rw[z],λz=>T.tup.inj z⟩)).symm
def eE(hu:X.A.units+(1+d)<cLine):BZ X (compareOp .NotEq) (λx y Γ Z=>∃ts us:List T,x=.tup ts∧y=.tup us∧(∀t∈ts,Dp d t)∧(∀t∈us,Dp d t)∧Z (.bl (!BW (.tup ts) (.tup us))) Γ):=
 ⟨_,ac5 hu,λx y a b H Γ Q Z ra rb hr q0 vr=>by
  let⟨ts,us,ea,eb,f1,f2,z⟩:=q0;subst ea eb;show Ps2 ts us ⟨ra,rb,f1,f2,vr _ _ H Γ .refl hr Cr z⟩⟩
inductive Ja(d:Nat):T→T→Prop
 |int (i j:Int):Ja d (.int i) (.int j)
 |str (y z:Str):Ja d (.str y) (.str z)
 |tup {ts us:List T} (h:∀t∈ts,Dp d t) (h':∀t∈us,Dp d t):Ja d (.tup ts) (.tup us)
def cM(hu:X.A.units+(1+d)<cLine):iL X (compareOp .Eq) (λx y H Q=>∃t t':T,R H x t∧R H y t'∧Ja d t t'∧Q (.bl (BW t t')) H):=by
 intro v4 s σ H x y v u Q I rx ry h;let⟨t,t',r,r',tw,q⟩:=h;cases tw with
 |int i j=>
  rw[Cb r]at rx;rw[Cb r']at ry;let⟨k1,rfl⟩:=rx;let⟨k2,rfl⟩:=ry;let e:BW (.int i) (.int j)=(i==j):=F8 (by rw[abZ];show⟨DT _,T.int.inj⟩);show SeqAt.RcAt.int_int i k1 j k2 _ _ _ _ ⟨.bl (BW (.int i) (.int j)),H,I,by rw[e];rfl,q⟩
 |str y z=>
  rw[Bz r]at rx;rw[Bz r']at ry;let⟨k1,rfl⟩:=rx;let⟨k2,rfl⟩:=ry;let e:BW (.str y) (.str z)=(y==z):=F8 (by rw[abZ];show⟨DT _,T.str.inj⟩);show SeqAt.RcAt.str_str y k1 z k2 _ _ _ _ ⟨.bl (BW (.str y) (.str z)),H,I,by rw[e];rfl,q⟩
 |@tup ts us q1 q2=>
  let⟨p,vs,rfl,hp,rr⟩:=CD r;let⟨p',Bx,rfl,wF,Ct⟩:=CD r';cases rx;cases ry;let⟨bp,rv,pl,hz⟩:=I.tuple (eP.of (K:=X.K) hp);let⟨iM,vj,sf,Nz⟩:=I.tuple (eP.of (K:=X.K) wF);let l1:=rr.length;let l2:=Ct.length;let l3:=rv.length;let l4:=vj.length;show SeqAt.RcAt.tuples (e:=λj=>BW (ts.getD j .non) (us.getD j .non)) pl sf (by lia) (λj h1 h2=>?_) _ _ _ _ ⟨.bl (BW (.tup ts) (.tup us)),H,I,?_,q⟩
  ·let Gk:j<ts.length:=by rw[Bn]at h1;lia
   let JW:j<us.length:=by rw[Bn]at h2;lia
   let g:ts[j]?=some ts[j]:=BV Gk;let g':us[j]?=some us[j]:=BV JW;have:=TG I (q1 _ (Eg Gk)) (q2 _ (Eg JW)) (A:=X.A.in1) (by show X.A.units+1+d<cLine;lia) (rr.getD g) (Ct.getD g') (Vals.at rv (by simpa using h1)) (Vals.at vj (by simpa using h2));rwa[DJ,DJ,g,g']
  ·show _=Value.bool _
   congr 1
   rw[Bn,Bn,←l3,←l4,l1,l2];show(F8 (tR.trans ⟨λz=>by rw[z],λz=>T.tup.inj z⟩)).symm
def i0(hu:X.A.units+(1+d)<cLine):BZ X (compareOp .Eq) (λx y Γ Z=>Ja d x y∧Z (.bl (BW x y)) Γ):=
 ⟨_,cM hu,λx y a b H Γ Q Z ra rb hr q0 vr=>Ps2 _ _ ⟨ra,rb,q0.1,vr _ _ H Γ .refl hr Cr q0.2⟩⟩
end
section
variable {E: St→BG}
abbrev RM(P:Program)(w:World)(K:W.Frag)(td ty:AN):AN:=λY τ Γ Z=>td Y τ Γ λx Γ1=>ty Y τ Γ1 λy Γ2=>∃a aA z b,x=.ref a∧Bp P w K a aA∧y=.str z∧aA.lookup z=some b∧Z (.ref b) Γ2
def cf{i:Expr}(ho:PE X o (AE E td))(hi:PE X i (AE E ty))(hs:Mb i:=by exactλ_ _=>rfl):PE X (.Subscript o i pos) (AE E (RM X.prog X.w X.K td ty)):=
 EF (aaa ho hi hs) λσ H Q τ Γ Y Z rs hr t vr xr=>by
  show Ps4 τ Γ Y _ ⟨rs,hr,t,λv x H1 Γ1 s1 h1 r1 z1=>?_,xr⟩;show Ps4 τ Γ1 Y _ ⟨rs.mono s1.tq,h1,z1,λw y H2 Γ2 s2 h2 r2 z2=>?_,xr.mono s1⟩;let⟨a,aA,z,b,rfl,kd,rfl,l,q⟩:=z2;show Ps4 a aA z b ⟨BY r1,kd,Bz r2,l,vr _ _ H2 Γ2 (s1.trans s2) h2 Ep q⟩
abbrev br(P:Program)(w:World)(K:W.Frag)(td ty:AN):AN:=λY τ Γ Z=>td Y τ Γ λx Γ1=>∃a aA,x=.ref a∧Bp P w K a aA∧ty Y τ Γ1 λy Γ2=>∃z,y=.str z∧(∀b,aA.lookup z=some b→Z (.ref b) Γ2)∧(aA.lookup z=none→Z .non Γ2)
def rY{apos eX:Pos}(ho:PE X o (AE E td))(he:PE X e (AE E ty))(m:bS X o "get" apos e eX):PE X (.Call (.Attribute o "get" apos) [e] [] eX) (AE E (br X.prog X.w X.K td ty)):=
 EF (aaV ho he m) λσ H Q τ Γ Y Z rs hr t vr xr=>by
  show Ps4 τ Γ Y _ ⟨rs,hr,t,λv x H1 Γ1 s1 h1 r1 z1=>?_,xr⟩;obtain⟨a,aA,rfl,kd,z1⟩:=z1;show Ps2 a aA ⟨BY r1,kd,?_⟩;show Ps4 τ Γ1 Y _ ⟨rs.mono s1.tq,h1,z1,λw y H2 Γ2 s2 h2 r2 z2=>?_,xr.mono s1⟩;let⟨z,rfl,q1,q2⟩:=z2;show⟨z,Bz r2,λb l=>vr _ _ H2 Γ2 (s1.trans s2) h2 Ep (q1 b l),λl=>vr _ _ H2 Γ2 (s1.trans s2) h2 Jy (q2 l)⟩
def jn(hu:X.A.units+1<cLine):K6 X "dict.get" (λx ts Γ Z=>∃a aA k,x=.ref a∧ts=[GW k]∧Γ a=some (.dK aA)∧Z ((Dm aA k).getD .non) Γ):=
 ⟨_,xJ hu,λv x vs ts H Γ Q Z rv r hr q0 vr=>by
  let⟨a,aA,k,rfl,rfl,g,z⟩:=q0;let⟨us,hu,q⟩:=hr a _ g;let⟨y,rfl,ry⟩:=E4 r;rw[Hq ry];show Ps3 a _ _ ⟨BY rv,rfl,jZ.k hu,?_⟩;rcases q.val k with⟨x',y'⟩|⟨v',t',x',y',r'⟩
  ·rw[x'];rw[y']at z;show vr _ _ H Γ .refl hr Jy z
  ·rw[x'];rw[y']at z;show vr _ _ H Γ .refl hr r' z⟩
def sJ(hu:X.A.units+1<cLine):K6 X "dict.get" (λx ts Γ Z=>∃a aA k d,x=.ref a∧ts=[GW k,d]∧Γ a=some (.dK aA)∧Z ((Dm aA k).getD d) Γ):=
 ⟨_,xc hu,λv x vs ts H Γ Q Z rv r hr q0 vr=>by
  let⟨a,aA,k,d,rfl,rfl,g,z⟩:=q0;let⟨us,hu,q⟩:=hr a _ g;let⟨y,d',rfl,ry,rd⟩:=wY r;rw[Hq ry];show Ps4 a _ _ _ ⟨BY rv,rfl,jZ.k hu,?_⟩;rcases q.val k with⟨x',y'⟩|⟨v',t',x',y',r'⟩
  ·rw[x'];rw[y']at z;show vr _ _ H Γ .refl hr rd z
  ·rw[x'];rw[y']at z;show vr _ _ H Γ .refl hr r' z⟩
def adw:K6 X "dict.setdefault" (λx ts Γ Z=>∃a aA k d,x=.ref a∧ts=[GW k,d]∧Γ a=some (.dK aA)∧aA.length<sizeLine∧(∀t,Dm aA k=some t→Z t Γ)∧(Dm aA k=none→Z d (up Γ a (.dK (Em aA k d))))):=
 ⟨_,cIf,λv x vs ts H Γ Q Z rv r hr q0 vr=>by
  let⟨a,aA,k,d,rfl,rfl,g,hl,z1,z2⟩:=q0;let⟨us,hu,q⟩:=hr a _ g;let⟨y,d',rfl,ry,rd⟩:=wY r;rw[Hq ry];show Ps4 a k d' us ⟨BY rv,rfl,hu,by rw[q.len];show hl,λv' e=>?_,λe=>?_⟩
  ·rcases q.val k with⟨x',y'⟩|⟨v2,t',x',y',r'⟩
   ·rw[x']at e;cases e
   ·rw[x']at e;cases e;show vr _ _ H Γ .refl hr r' (z1 _ y')
  ·rcases q.val k with⟨x',y'⟩|⟨v2,t',x',y',r'⟩
   ·let tq:Tq H (AM H a (.dK (putK us k d'))):=GO hu ⟨λ_ z=>(nomatch z),λ_ _ z=>(nomatch z)⟩
    show vr _ _ _ _ (gq.set hr g) (hr.set (o3:=.dK (Em aA k d)) g ⟨_,Bu,(q.put k rd).mono tq⟩) (rd.mono tq) (z2 y')
   ·rw[x']at e;cases e⟩
def sE:FU X (.type "dict") (λxs Γ Z=>∃a aA,xs=[.ref a]∧Γ a=some (.dK aA)∧∀p,Γ p=none→Z (.ref p) (up Γ p (.dK aA))):=
 ⟨_,yW,λvs xs H Γ Q Z r hr q0 vr=>by
  let⟨a,aA,e,g,z⟩:=q0;subst e;let⟨v,rfl,ra⟩:=E4 r;let⟨us,hu,q⟩:=hr a _ g;show Ps2 a us ⟨by rw[BY ra],hu,λp hp=>vr _ _ _ _ (.make hp) (hr.make (o3:=.dK aA) hp ⟨_,Bu,q.mono (DL (Cm hp))⟩) Ep (z p (hr.free hp))⟩⟩
def zS:FU X (.builtin "len") (λxs Γ Z=>∃a aA,xs=[.ref a]∧Γ a=some (.dK aA)∧Z (.int aA.length) Γ):=
 ⟨_,vW,λvs xs H Γ Q Z r hr q0 vr=>by
  let⟨a,aA,e,g,z⟩:=q0;subst e;let⟨v,rfl,ra⟩:=E4 r;let⟨us,hu,q⟩:=hr a _ g;show Ps2 a us ⟨by rw[BY ra],hu,by rw[q.len];show vr _ _ H Γ .refl hr Dy z⟩⟩
noncomputable abbrev jX(P:Program)(w:World)(K:W.Frag)(mg:KK)(bi:Heap)(f:Addr)(k:Nat)(ps:List Str)(sp:Ay):Prop:=gC P w K mg bi f k ps (Am sp)
abbrev bc(P:Program)(w:World)(K:W.Frag)(mg:KK)(bi:Heap)(k:Nat)(ps:List Str)(i:Nat)(t:Ca):AN:=λY τ Γ Z=>∃f sp,τ[i]?=some (some (.ref f))∧jX P w K mg bi f k ps sp∧t Y τ Γ λxs Γ1=>sp xs Γ1 Z λ_ _=>False
def wc(i:Nat)(k:Nat)(ps:List Str){x:Str}{j:Nat}{p:Pos}{es:List Expr}{t:Ca}(hr:dA j X.A)(hk:k≤j)(ha:PA X (e::es) (De E t))(hN:X.N[i]?=some x:=by rfl)(hv:K5 X.env.scope x:=by first|show Or.inl rfl|show Or.inr (Or.inl rfl)|show Or.inr (Or.inr rfl))(hd:(x ==("__debug__" : Str))=false:=by decide)(xC:(x ==("__classdict__" : Str))=false:=by decide)
  (he:starEach (e::es) X.env=(false,eval e X.env)::starEach es X.env:=by rfl) (iE:(backTo pos (starEach es X.env)).any (·.1)=false:=by rfl):PE X (.Call (.Name x p) (e::es) [] pos) (AE E (bc X.prog X.w X.K X.mg X.base k ps i t)):=
 EF (uB   hr hk hN hv ha hd xC he iE) λσ H Q τ Γ Y Z rs hr t vr xr=>by
  let⟨f,sp,ex,fc,q⟩:=t;let⟨v,hv,rv⟩:=rs.get ex;rw[BY rv]at hv;show Ps2 f _ ⟨hv,fc,τ,Γ,Y,_,rs,hr,q,λvs xs H1 Γ1 s1 h1 r1 z1=>?_,xr⟩;show Ps4 xs Γ1 Z _ ⟨r1,h1,z1,vr.mono s1,λ_ _ _ _ _ z=>z.elim⟩
variable {p pos: Pos}
abbrev kU(K:W.Frag)(ta:Ca):I3:=λY τ Γ Z=>ta Y τ Γ λxs Γ1=>∃ts b us,xs=[.ref b,.tup us]∧KT K b ts∧Z (FA ts us) EU Γ1
def aaN{K:W.Frag}{a b:Addr}{vs ws:List V}(ha:eN K a vs)(q:∀H,Rs H vs ts)(hb:H b=some (.tup ws))(q':Rs H ws us):Walks (Q0 K a b) (FA ts us) EU H where
 go:=λi H' Γ t hr _ hi=>by
  rw[Jk]at hi;show Ps4 vs ws (vs[i]'(by rw[(q H).length];lia)) (ws[i]'(by rw[q'.length];lia)) ⟨ha.sq,eP.of (t.1 b ws hb),by simp,by simp⟩
 qR:=λi H' Γ v H2 t hr _ hi q0=>by
  let⟨p,x,y,hp,e1,e2,y1,y2⟩:=q0;subst e1 e2;let⟨t1,f1,r1⟩:=(q H').zN (y1 vs ha.sq);let⟨t2,f2,r2⟩:=(q'.mono t).zN (y2 ws (eP.of (t.1 b ws hb)));let k:=Cm (o:=.tup [x,y]) hp;show⟨.keep k,hr.keep k,_,TT f1 f2,Jq Bu (FP (r1.mono (DL k)) (FP (r2.mono (DL k)) GB))⟩
 stop:=λH' Γ t hr _=>Ps2 vs ws ⟨ha.sq,eP.of (t.1 b ws hb),by rw[Jk,(q H).length,q'.length];lia⟩
def uT{a b:Expr}{ta:Ca}{elts:List Expr}{kk:Nat}{uW:Pos}(hg:Bs X "zip")(hm:X.mg "zip" = none)(ha:PA X [a,b] (De E ta))(hs:starEach [a,b] X.env=[(false,eval a X.env),(false,eval b X.env)]:=by rfl)(vO:starEach [b] X.env=[(false,eval b X.env)]:=by rfl):
  PI X (.Tuple elts kk uW) (.Call (.Name "zip" p) [a,b] [] pos) (EB E (kU X.K ta)):=
 JN (jF hg hm ha hs vO) λσ H Q τ Γ Y Z rs hr t vr xr=>⟨τ,Γ,Y,_,rs,hr,t,λvs xs H1 Γ1 s1 h1 r1 ⟨ts,b,us,ex,⟨ws,hk,q⟩,z⟩=>by
  subst ex;let⟨v,w,rfl,a,b⟩:=wY r1;let⟨pa,va,rfl,ha,qa⟩:=CD b;rw[BY a];show Ps4 _ pa ws va ⟨rfl,hk.sq,eP.of ha,vr _ _ EU H1 Γ1 s1 h1 (aaN hk q ha qa) z⟩,xr⟩
end
end L3
namespace L3
open PySem PySem.Spec L2
variable {wi:I3}{g:D5}{tt:Dc}{tk tv:AN}{own:List Str}{cap:List (Nat×Str)}
section
variable {X: Cx}{E: St→BG}{pos: Pos}
abbrev abY(gd:AR→Prop)(g:D5)(tt:Dc)(tk tv:AN)(C:List (AB×T)→AR→Prop)(ts:List T)(τ:BJ)(Γ:AR):Prop:=∃P:List T→BJ→List (AB×T)→AR→Prop,P ts τ [] Γ∧(∀τ ys Γ,P [] τ ys Γ→gd Γ∧C ys Γ)∧
 ∀x r τ ys Γ,P (x::r) τ ys Γ→gd Γ∧g CG x τ Γ λτ3 Γ3=>tt CG τ3 Γ3 λok Γ3=>if ok=true then tk CG τ3 Γ3 λy Γ4=>tv CG τ3 Γ4 λz Γ5=>∃k,y=GW k∧P r τ3 (Em ys k z) Γ5 else P r τ3 ys Γ3
abbrev XO(wi:I3)(g:D5)(tt:Dc)(tk tv:AN)(own:List Str)(cap:List (Nat×Str)):AN:=λY τ Γ Z=>wi Y τ Γ λts gd Γ1=>ts.length<sizeLine∧
 abY gd g tt tk tv (λys Γ2=>∀D,Γ2 D=none→Z (.ref D) (up Γ2 D (.dK ys))) ts (Gx own cap τ) Γ1
def vF(σ:St)(H:A5)(Q:Ar)(q:AE E (XO wi g tt tk tv own cap) σ H Q):j8 (EB E wi) (EK C3 g) (Ce C3 tt) (AE C3 tk) (AE C3 tv) own cap σ H Q:=by
 let⟨τ,Γ,Y,Z,rs,hr,t,vr,xr⟩:=q;show Ps4 τ Γ Y _ ⟨rs,hr,t,λJ ts gd H1 Γ1 s1 h1 wk⟨hz,Pv,z1,p0,pc⟩=>?_,xr⟩;intro D hD;let nl:∀aA ,(∀us ,HO.dK aA≠.tup us)∧∀b w,HO.dK aA≠.frz b w:=λ_=>⟨λ_ z=>(nomatch z),λ_ _ z=>(nomatch z)⟩;show⟨λi m σ' aA H'=>∃τ' ys Γ',i≤ts.length∧m=ts.length-i∧ys.length≤i∧RS H' σ' τ'∧HR H' Γ'∧H' D=some (.dK aA)∧Γ' D=none∧Ks H' aA ys∧gq H1 Γ1 H' Γ'∧Pv (ts.drop i) τ' ys Γ',
  ⟨ts.length,Gx own cap τ,[],Γ1,E6 _,rfl,Ap _,(NU own (rs.mono s1.tq) cap).mono (DL (Cm hD)),h1.keep (Cm hD),Bu,h1.free hD,.nil,.keep (Cm hD),z1⟩,?_⟩
 intro i m σ2 aA H2⟨τ2,ys,Γ2,hi,rfl,hv,wY,h2,d2,gD,ry,s2,w2⟩;show⟨d2,?_⟩;by_cases d0:i<ts.length
 ·rw[drop_cons d0]at w2
  let⟨g2,w2⟩:=pc _ _ _ _ _ w2;let nn:=ry.len;show .inr ⟨wk.go i H2 Γ2 s2.tq h2 g2 d0,by lia,λσ' mQ H'=>∃τ' ys Γ',ys.length≤i+1∧RS H' σ' τ'∧HR H' Γ'∧H' D=some (.dK mQ)∧Γ' D=none∧Ks H' mQ ys∧gq H1 Γ1 H' Γ'∧Pv (ts.drop (i+1)) τ' ys Γ',
   λσ' mQ H' ξ=>Xi38 ξ λτ' ys Γ' a b c d e f k l=>⟨ts.length-(i+1),by lia,τ',ys,Γ',d0,rfl,a,b,c,d,e,f,k,l⟩,λx H3 yl=>?_⟩
  let⟨s3,h3,⟨x3,e3,r3⟩⟩:=wk.qR i H2 Γ2 x H3 s2.tq h2 g2 d0 yl;rw[BV d0]at e3;cases e3;show Ps5 _ τ2 Γ2 CG _ ⟨r3,wY.mono s3.tq,h3,w2,λσ4 τ4 H4 Γ4 s4 h4 r4 z4=>?_,F2⟩;show Ps4 τ4 Γ4 CG _ ⟨r4,h4,z4,λok H4' Γ4' Nr Wq Vg=>?_,F2⟩;cases ok with
  |false=>
   let Q8:=(s3.trans s4).trans Nr;show Ps3 τ4 ys Γ4' ⟨FV hv,r4.mono Nr.tq,Wq,Q8.uJ D _ d2 gD,Q8.new D (by rw[d2];exactλz=>nomatch z) gD,ry.mono Q8.tq,s2.trans Q8,Vg⟩
  |true=>
  show Ps4 τ4 Γ4' CG _ ⟨r4.mono Nr.tq,Wq,Vg,λy y' H5 Γ5 s5 h5 r5 z5=>?_,F2⟩;show Ps4 τ4 Γ5 CG _ ⟨(r4.mono Nr.tq).mono s5.tq,h5,z5,λv v' H6 Γ6 s6 h6 r6 z6=>?_,F2⟩;obtain⟨k,rfl,z6⟩:=z6;let rS:=(((s3.trans s4).trans Nr).trans s5).trans s6;have d6  := rS.uJ D _ d2 gD;have g6  := rS.new D (by rw[d2];exactλz=>nomatch z) gD;let tq:Tq H6 (AM H6 D (.dK (putK aA k v))):=GO d6 (nl _);show⟨k,Hq r5,d6,τ4,Em ys k v',Γ6,D6 (aH _ _ _) (LX hv),(r4.mono ((Nr.trans s5).trans s6).tq).mono tq,h6.hide g6 d6 (nl _),Bu,g6,((ry.mono rS.tq).put k r6).mono tq,?_,z6⟩;let s7:=s2.trans rS;show⟨s7.tq.trans tq,λa h z=>?_,s7.new,λa o h g=>?_⟩
  ·by_cases e:a=D
   ·subst e;show h hD
   ·rw[B0 e]at z;show s7.v5 a h z
  ·let e:a≠D:=λe=>by subst e;rw[hD]at h;cases h
   rw[B0 e];show s7.uJ a o h g
 ·let e:i=ts.length:=by lia
  subst e;rw[J0]at w2;let w2:=p0 _ _ _ w2;show .inl ⟨wk.stop H2 Γ2 s2.tq h2 w2.1,?_⟩;let qW:=s1.trans s2;show vr (.ref D) (.ref D) H2 (up Γ2 D (.dK ys)) ⟨qW.tq,qW.v5,λa h g=>?_,qW.uJ⟩ (λa o g=>?_) Ep (w2.2 D gD)
  ·let e:a≠D:=λe=>by subst e;show s1.v5 _ h hD
   rw[BR e];show qW.new a h g
  ·by_cases e:a=D
   ·subst e;rw[Au]at g;cases g;show⟨_,d2,ry⟩
   ·rw[BR e]at g;show h2 a o g
def lX{scope:Scope}{cl:List (Str×Addr)}{tg iter kx Cf:Expr}{ifs:List Expr}(c:c9 X scope cl own cap)(hc:X.calm=true)(hi:PI X tg iter (EB E wi))
  (hg:∀C s H fp,PG (BK X (own++cap.map (·.2)) scope cl C s H fp λ_ _=>False) tg (EK C3 g))
  (ht:∀C s H fp,wK (BK X (own++cap.map (·.2)) scope cl C s H fp λ_ _=>False) ifs (Ce C3 tt))
  (hk:∀C s H fp,PE (BK X (own++cap.map (·.2)) scope cl C s H fp λ_ _=>False) kx (AE C3 tk))
  (hv:∀C s H fp,PE (BK X (own++cap.map (·.2)) scope cl C s H fp λ_ _=>False) Cf (AE C3 tv)) (hs:∀x,foldedSetIterable iter X.env x=pure x:=by intro _;rfl) :
  PE X (.DictComp kx Cf [⟨tg,iter,ifs,0⟩] scope pos) (AE E (XO wi g tt tk tv own cap)):=Fi (mw c hc hi hg ht hk hv hs) vF
end
end L3
namespace L3
open PySem PySem.Spec L2
open PyProof.Rows hiding St
variable {d:Nat}{wi:I3}{g:D5}{te:AN}{own zs:List Str}{cap:List (Nat×Str)}{E Q:xz}{X: Cx}
def kQ{H:A5}:∀{ks:List AB} {vs:List V},Rs H vs (ks.map GW)→vs=ks.map BI
 |[],vs,h=>Fq h
 |k::r,vs,h=>by
  let⟨v,ws,rfl,a,b⟩:=FL h;rw[Hq a,kQ b];rfl
section
def bF(hu:X.A.units+(1+d)<cLine):BZ X (compareOp .Eq) (λx y Γ Z=>(x=.non∧(∃us,y=.tup us)∧Z (.bl false) Γ)∨(Ja d x y∧Z (.bl (BW x y)) Γ)):=
 ⟨_,iL.or (oX (by lia)) (cM hu),λx y a b H Γ Q Z ra rb hr q0 vr=>by
  rcases q0 with⟨rfl,⟨us,rfl⟩,z⟩|⟨tw,z⟩
  ·let⟨p,vs,rfl,hp,rr⟩:=CD rb
   show .inl ⟨p,vs,JC ra,rfl,hp,vr _ _ H Γ .refl hr Cr z⟩
  ·show .inr ⟨_,_,ra,rb,tw,vr _ _ H Γ .refl hr Cr z⟩⟩
def tS{K:W.Frag}(hK:X.K=K):BZ X (compareOp .NotIn) (λx y Γ Z=>∃u a xs,sc x=some u∧EN u=true∧y=.ref a∧eN K a xs∧xs.all EN=true∧Z (.bl (!Dk u xs)) Γ):=by
 subst hK;show
 ⟨_,iP,λx y v b H Γ Q Z ra rb hr q0 vr=>by
  let⟨u,a,xs,e1,f1,ey,hk,hf,z⟩:=q0;subst ey;rw[IX ra e1];show Ps2 a xs ⟨BY rb,.inr hk.sq,f1,hf,vr _ _ H Γ .refl hr Cr z⟩⟩
end
abbrev HX(Ls:List (List AB))(ks:List AB):List (List AB):=if Ls.any (λp=>decide (p=ks))=true then Ls else ks::Ls
def rB(L:List (Addr×List AB))(b:Addr)(ks:List AB):(Ex L (b,ks)).map Prod.snd=HX (L.map Prod.snd) ks:=by
 unfold Ex HX;rw[QH];show(if(L.any λp=>decide (p.2=ks))=true then L else(b,ks)::L).map Prod.snd=if(L.any λp=>decide (p.2=ks))=true then _ else _
 split
 ·rfl
 ·rfl
def vg(L:List (Addr×List AB))(q:Addr×List AB):(Ex L q).length≤L.length+1:=by unfold Ex;split<;>simp
def oU{L:List (Addr×List AB)}{q p:Addr×List AB}(h:p∈Ex L q):p∈L∨p=q:=by
 unfold Ex at h;split at h
 ·show .inl h
 ·rcases aaf.mp h with h|h
  ·show .inr h
  ·show .inl h
section
variable {H: A5}
def qJ:∀{d:Nat} {t:T},Dp d t→∀{d':Nat} {t':T} {v:V},Dp d' t'→R H v t→R H v t'→t=t':=by
 intro d t h;induction h with
 |int i=>
  intro d' t' v h' r r';let e:=Cb r;subst e;cases h' with
  |int j=>have:=Cb r';cases this;rfl
  |str z=>have:=Bz r';cases this
  |tup q=>let⟨a,vs,e,_⟩:=CD r';cases e
 |str z=>
  intro d' t' v h' r r';let e:=Bz r;subst e;cases h' with
  |int j=>have:=Cb r';cases this
  |str y=>have:=Bz r';cases this;rfl
  |tup q=>let⟨a,vs,e,_⟩:=CD r';cases e
 |@tup d ts q ih=>
  intro d' t' v h' r r';let⟨a,vs,rfl,ha,rr⟩:=CD r;cases h' with
  |int j=>have:=Cb r';cases this
  |str y=>have:=Bz r';cases this
  |@tup d2 us q'=>
   let⟨b,ws,e,hb,Ct⟩:=CD r';cases e;rw[ha]at hb;cases hb;let go:∀ts us vs,(∀t∈ts,Dp d t)→(∀t∈ts,∀{d':Nat} {t':T} {v:V},Dp d' t'→R H v t→R H v t'→t=t')→(∀t∈us,Dp d2 t)→Rs H vs ts→Rs H vs us→ts=us:=by
    intro ts;induction ts with
    |nil=>
     intro us vs _ _ _ r r';rw[Fq r]at r';cases us with
     |nil=>rfl
     |cons u us=>let⟨_,_,e,_⟩:=FL r';cases e
    |cons t ts Yv=>
     intro us vs h1 h2 h3 r r';let⟨v,ws,rfl,p,q⟩:=FL r;cases us with
     |nil=>have:=Fq r';cases this
     |cons u us=>
      let⟨v',ws',e,p',q'⟩:=FL r';cases e;rw[h2 t (by simp) (h3 u (by simp)) p p',Yv us ws (λx hx=>h1 x (by simp[hx])) (λx hx=>h2 x (by simp[hx])) (λx hx=>h3 x (by simp[hx])) q q']
   rw[go ts us vs q (λt ht=>ih t ht) q' rr Ct]
open Classical in
noncomputable def Hr(H:A5)(d:Nat)(tx:T)(y:Value):Bool:=decide (∃a us,y=Value.ref a∧Dp d (.tup us)∧R H (.ref a) (.tup us)∧T.tup us=tx)
def eL{tx:T}{a:Addr}{us:List T}(h:Dp d (.tup us))(r:R H (.ref a) (.tup us)):Hr H d tx (.ref a)=BW (.tup us) tx:=by
 unfold Hr
 symm
 show F8 ?_;rw[@decide_eq_true_iff _ (Classical.propDecidable _)];show⟨?_,λe=>Ps2 a us ⟨rfl,h,r,e⟩⟩;intro⟨b,ws,e,h',r',ew⟩;cases e;rw[qJ h h' r r'];show ew
def U9{d:Nat}{tx:T}:∀{ts:List (List T)} {vs:List V} {us:List Value},(∀t∈ts,Dp d (.tup t))→Rs H vs (ts.map T.tup)→Vals vs us→us.any (Hr H d tx)=ts.any λt=>BW (.tup t) tx
 |[],vs,us,h,r,q=>by
  have:=Fq r;subst this;cases q;rfl
 |t::ts,vs,us,h,r,q=>by
  let⟨v,ws,rfl,p,r'⟩:=FL r;cases q with
  |cons q1 q2=>
   let⟨a,xs,rfl,ha,rr⟩:=CD p;cases q1;rw[G7,G7,U9 (λt ht=>h t (by simp[ht])) r' q2,eL (h t (by simp)) p]
def xK{neg:Bool}(hu:X.A.units+(1+d)<cLine):iL X (compareOp (if neg then .NotIn else .In)) (λx y H Q=>∃(a:Addr) (tx:List T) (ts:List (List T)) (vs:List V),y=.ref a∧R H x (.tup tx)∧Dp d (.tup tx)∧(∀t∈ts,Dp d (.tup t))∧H a=some (.lst vs)∧Rs H vs (ts.map T.tup)∧Q (.bl (if neg then !(ts.any λt=>BW (.tup t) (.tup tx))else ts.any λt=>BW (.tup t) (.tup tx))) H):=by
 intro v4 s σ H x y v u Q I rx ry h;let⟨a,tx,ts,vs,rfl,r,dx,dt,ha,rr,q⟩:=h;cases ry;let⟨bp,rv,pl,hz⟩:=I.list (jI.of  ha);let he:∀y,y∈bp.toArray→SeqAt.EqAt X.A.in1 s y v (Hr H d (.tup tx) y):=by
  intro y hy;have hy  := by simpa using hy
  obtain⟨i,hi,e⟩:=List.mem_iff_getElem.mp hy;let hl:=rv.length;let NC:=rr.length;rw[AF]at NC;let Wc:i<ts.length:=by lia
  let g:(ts.map T.tup)[i]?=some (.tup ts[i]):=by rw[Fo,BV Wc];rfl
  let⟨vv,ev,SF⟩:=rr.get g;let hd:=dt ts[i] (Eg Wc);let⟨b,xs,rfl,hb,_⟩:=CD SF;let e3:=rv.get ev;let⟨w,ew,rT⟩:=e3;rw[BV hi,e]at ew;cases ew;cases rT;rw[eL hd SF];show TG I hd dx  (by show X.A.units+1+d<cLine;lia) SF r rfl rx
 cases neg with
 |false=>
  show SeqAt.in_listAt (Hr H d (.tup tx)) pl.isList he ⟨.bl _,H,I,rfl,?_⟩;rw[show bp.toArray.any (Hr H d (.tup tx))=bp.any (Hr H d (.tup tx))by simp,U9 dt rr rv];show q
 |true=>
  show SeqAt.notIn_listAt (Hr H d (.tup tx)) pl.isList he ⟨.bl _,H,I,rfl,?_⟩;rw[show bp.toArray.any (Hr H d (.tup tx))=bp.any (Hr H d (.tup tx))by simp,U9 dt rr rv];show q
def bT(hu:X.A.units+(1+d)<cLine):BZ X (compareOp .NotIn) (λx y Γ Z=>∃(a:Addr) (tx:List T) (ts:List (List T)),x=.tup tx∧y=.ref a∧Dp d (.tup tx)∧(∀t∈ts,Dp d (.tup t))∧Γ a=some (.lst (ts.map T.tup))∧Z (.bl (!(ts.any λt=>BW (.tup t) (.tup tx)))) Γ):=
 ⟨_,xK (neg:=true) hu,λx y v b H Γ Q Z ra rb hr q0 vr=>by
  let⟨a,tx,ts,rfl,rfl,h1,h2,g,z⟩:=q0;let⟨vs,hv,rr⟩:=hr a _ g;show Ps4 a tx ts vs ⟨BY rb,ra,h1,h2,hv,rr,vr _ _ H Γ .refl hr Cr z⟩⟩
end
section
variable {E: St→BG}
abbrev uK(gd:AR→Prop)(g:D5)(te:AN)(C:Nat→AR→Prop)(ts:List T)(τ:BJ)(Γ:AR):Prop:=∃P:List T→List (List AB)→BJ→AR→Prop,P ts [] τ Γ∧(∀Ls τ Γ,P [] Ls τ Γ→gd Γ∧C Ls.length Γ)∧
 ∀x r Ls τ Γ,P (x::r) Ls τ Γ→gd Γ∧g CG x τ Γ λτ3 Γ3=>te CG τ3 Γ3 λy Γ5=>∃ks:List AB,y=.tup (ks.map GW)∧P r (HX Ls ks) τ3 Γ5
abbrev Rm(wi:I3)(g:D5)(te:AN)(own:List Str)(cap:List (Nat×Str)):AN:=λY τ Γ Z=>wi Y τ Γ λts gd Γ1=>ts.length≤18∧
 uK gd g te (λn Γ2=>∀D,Γ2 D=none→Z (.ref D) (up Γ2 D (.ext (GK D n)))) ts (Gx own cap τ) Γ1
def aap{hf:List AB→Int}(σ:St)(H:A5)(Q:Ar)(q:AE E (Rm wi g te own cap) σ H Q):eY hf (EB E wi) (EK C3 g) (AE C3 te) own cap σ H Q:=by
 let⟨τ,Γ,Y,Z,rs,hr,t,vr,xr⟩:=q;show Ps4 τ Γ Y _ ⟨rs,hr,t,λJ ts gd H1 Γ1 s1 h1 wk⟨hz,Pv,z1,p0,pc⟩=>?_,xr⟩;intro D hD;let nl:∀φ ,(∀us ,HO.ext φ≠.tup us)∧∀b w,HO.ext φ≠.frz b w:=λ_=>⟨λ_ z=>(nomatch z),λ_ _ z=>(nomatch z)⟩;show⟨λi m σ' L H'=>∃τ' Γ',i≤ts.length∧m=ts.length-i∧L.length≤i∧RS H' σ' τ'∧HR H' Γ'∧H' D=some (.ext (setG hf D L))∧Γ' D=none∧gq H1 Γ1 H' Γ'∧(∀q∈L,H' q.1=some (.tup (q.2.map BI)))∧Pv (ts.drop i) (L.map Prod.snd) τ' Γ',
  ⟨ts.length,Gx own cap τ,Γ1,E6 _,rfl,Ap _,(NU own (rs.mono s1.tq) cap).mono (DL (Cm hD)),h1.keep (Cm hD),Bu,h1.free hD,.keep (Cm hD),λq hq=>absurd hq (by simp),z1⟩,?_⟩
 intro i m σ2 L H2⟨τ2,Γ2,hi,rfl,hL,wY,h2,d2,gD,s2,Xk,w2⟩;show⟨d2,?_⟩;by_cases d0:i<ts.length
 ·rw[drop_cons d0]at w2
  let⟨g2,w2⟩:=pc _ _ _ _ _ w2;show .inr ⟨wk.go i H2 Γ2 s2.tq h2 g2 d0,by lia,λL' σ' H'=>∃τ' Γ',L'.length≤i+1∧RS H' σ' τ'∧HR H' Γ'∧H' D=some (.ext (setG hf D L'))∧Γ' D=none∧gq H1 Γ1 H' Γ'∧(∀q∈L',H' q.1=some (.tup (q.2.map BI)))∧Pv (ts.drop (i+1)) (L'.map Prod.snd) τ' Γ',
   λL' σ' H' ξ=>Xi21 ξ λτ' Γ' ξ=>Xi08 ξ λb c d e f k k2 l=>⟨ts.length-(i+1),by lia,τ',Γ',d0,rfl,b,c,d,e,f,k,k2,l⟩,λx H3 yl=>?_⟩
  let⟨s3,h3,⟨x3,e3,r3⟩⟩:=wk.qR i H2 Γ2 x H3 s2.tq h2 g2 d0 yl;rw[BV d0]at e3;cases e3;show Ps5 _ τ2 Γ2 CG _ ⟨r3,wY.mono s3.tq,h3,w2,λσ4 τ4 H4 Γ4 s4 h4 r4 z4=>?_,F2⟩;show Ps4 τ4 Γ4 CG _ ⟨r4,h4,z4,λy y' H6 Γ6 s6 h6 r6 z6=>?_,F2⟩;obtain⟨ks,rfl,z6⟩:=z6;let⟨b6,vs6,rfl,Wl,XM⟩:=CD r6;let ev:=kQ XM;subst ev;let rS:=(s3.trans s4).trans s6;have d6  := rS.uJ D _ d2 gD;have g6  := rS.new D (by rw[d2];exactλz=>nomatch z) gD;let tq:Tq H6 (AM H6 D (.ext (setG hf D (Ex L (b6,ks))))):=GO d6 (nl _);have Vu  := λq hq=>rS.tq.1 _ _ (Xk q hq);show Ps2 b6 ks ⟨rfl,Wl,Vu,d6,τ4,Γ6,D6 (vg L _) (LX hL),(r4.mono s6.tq).mono tq,h6.hide g6 d6 (nl _),Bu,g6,?_,λq hq=>?_,by rw[rB];show z6⟩
  ·let s7:=s2.trans rS
   show⟨s7.tq.trans tq,λa h z=>?_,s7.new,λa o h g=>?_⟩
   ·by_cases e:a=D
    ·subst e;show h hD
    ·rw[B0 e]at z;show s7.v5 a h z
   ·let e:a≠D:=λe=>by subst e;rw[hD]at h;cases h
    rw[B0 e];show s7.uJ a o h g
  ·rcases oU hq with hq|rfl
   ·show tq.1 _ _ (Vu q hq)
   ·show tq.1 _ _ Wl
 ·let e:i=ts.length:=by lia
  subst e;rw[J0]at w2;let w2:=p0 _ _ _ w2;rw[AF]at w2;show .inl ⟨wk.stop H2 Γ2 s2.tq h2 w2.1,by lia,?_⟩;let qW:=s1.trans s2;let tq:Tq H2 (AM H2 D (.ext (GK D L.length))):=GO d2 (nl _);let ne:∀{a},H a≠none→a≠D:=λh e=>by subst e;show s1.v5 _ h hD
  show vr (.ref D) (.ref D) (AM H2 D (.ext (GK D L.length))) (up Γ2 D (.ext (GK D L.length))) ⟨qW.tq.trans tq,λa h=>?_,λa h g=>?_,λa o h g=>?_⟩ (λa o g=>?_) Ep (w2.2 D gD)
  ·rw[B0 (ne h)];show qW.v5 a h
  ·rw[BR (ne h)];show qW.new a h g
  ·rw[B0 (ne (by rw[h];exactλz=>nomatch z))];show qW.uJ a o h g
  ·by_cases e:a=D
   ·subst e;rw[Au]at g;cases g;show Bu
   ·rw[BR e]at g;show(h2.hide gD d2 (nl _)) a o g
def qX{scope:Scope}{cl:List (Str×Addr)}{tg iter elt:Expr}{pos:Pos}(hu:X.A.units+1<cLine)(c:c9 X scope cl own cap)(hc:X.calm=true)(hi:PI X tg iter (EB E wi))
  (hg:∀C s H fp,PG (BK X (own++cap.map (·.2)) scope cl C s H fp λ_ _=>False) tg (EK C3 g))
  (he:∀C s H fp,PE (BK X (own++cap.map (·.2)) scope cl C s H fp λ_ _=>False) elt (AE C3 te)) (hs:∀x,foldedSetIterable iter X.env x=pure x:=by intro _;rfl) :
  PE X (.SetComp elt [⟨tg,iter,[],0⟩] scope pos) (AE E (Rm wi g te own cap)):=Fi (adB hu c hc hi hg he hs) aap
def adk:FU X (.builtin "len") (λxs Γ Z=>∃(p:Addr) (n:Nat),xs=[.ref p]∧n≤18∧Γ p=some (.ext (GK p n))∧Z (.int n) Γ):=
 ⟨_,acH,λvs xs H Γ Q Z r hr q0 vr=>by
  let⟨p,n,e,hn,g,z⟩:=q0;subst e;let⟨v,rfl,ra⟩:=E4 r;show Ps2 p n ⟨by rw[BY ra],hn,hr p _ g,vr _ _ H Γ .refl hr Dy z⟩⟩
end
section
variable {P: Program}{w: World}{A: Around}{s: Shared}
abbrev Sk(P:Program)(w:World)(zs:List Str)(i:Nat)(v:Value):Prop:=∃z,zs[i]?=some z∧(strKind P w).is z v=true∧v.scannable=true
def xj{I D:Addr}{fp wr:List Addr}{G:Array GenState→Array GenState→Prop}{St:Nat→Shared→Prop}{R:Result→Shared→Prop}(Wk:WalksS P w A.in1 I fp wr G zs.length (Sk P w zs) St)(hD:D∉fp)(hz:zs.length≤999):
  ∀(k i:Nat) (s:Shared),i+k=zs.length→St i s→(∃S n,fY (zs.take i) S n∧s.heap.SetOf (strKind P w) D S n)→
   (∀s',Moved (D::wr) G s s'→(∃S n,fY zs S n∧s'.heap.SetOf (strKind P w) D S n)→R (.ok (.ret .none)) s')→codeAny (model P w) A (.builtin "set.update.loop" ⟨[.ref D,.ref I],[]⟩) R s:=by
 let Ft:D∉wr:=λh=>hD (Wk.sub _ h);intro k;induction k with
 |zero=>
  intro i s e st ⟨S,n,on,so⟩ fin;rw[Kf]at e;subst e;rw[Sl]at on;show codeAny_builtin F.entry_set_update_loop ?_;rw[Around.under_plainId U0 _];show wpAny (model P w) A.in1 (pyNext (.ref I) >>= _) _ _ s
  show A9 (Wk.done s _ _ st λs1 mv=>?_);show wpAny (model P w) A.in1 (ret Value.none) _ _ s1
  let⟨o,es,ep,t,ho,r⟩:=so;show AQ (fin s1 (mv.mono λb hb=>Cn D hb) ⟨S,n,on,o,es,ep,t,mv.heap D _ Ft ho,r⟩)
 |succ k ih=>
  intro i s e st ⟨S,n,on,so⟩ fin;show codeAny_builtin F.entry_set_update_loop ?_;rw[Around.under_plainId U0 _];show wpAny (model P w) A.in1 (pyNext (.ref I) >>= _) _ _ s
  show A9 (Wk.item i s _ _ (by lia) st λv s1 ξ=>Xi13 ξ λz ez R3 sc Q6 mv=>?_);let XE:s1.heap.SetOf (strKind P w) D S n:=by
   let⟨o,es,ep,t,ho,r⟩:=so;show Ps4 o es ep t ⟨mv.heap D _ Ft ho,r⟩
  let nl:=on.le;rw[DD]at nl;show wpAny (model P w) A.in1 (holding [v] (setAdd D v) >>= _) _ _ s1
  show A9 (Gl ?_);unfold setAdd;show Gl (A9 ((strKind P w).pyHash R3 ?_));show wpAny_setAddHashed_of (s:={s1 with toks:=s1.toks+_}) R3 sc XE (by unfold scanBound;lia) λh2 but Sz=>?_;have X2:fY (zs.take (i+1)) (λk'=>S k'||decide (k'=z)) (if S z then n else n+1):=by
   have:=on.snoc (k:=z);rw[List.take_succ,ez];show this
  show AQ ⟨plainId_quiet U0 _,ih (i+1) _ (by lia) (Wk.frame _ s1 _ _ Q6 (OQ _ _) λb hb o eo=>?_) ⟨_,_,X2,Sz⟩ λs2 Yf r2=>?_⟩
  ·rw[but.2 b λe=>hD (by rw[←e];show hb)];show eo
  ·show fin s2 (Moved.trans Wk.gtrans ((mv.mono λb hb=>Cn D hb).then_heap (OQ _ _) λb o hb eo=>?_) Yf) r2
   rw[but.2 b λe=>hb (by rw[e];show Ej)];show eo
def mO{T ni ii:String}{B:Builtin}{xs:List Value}{Q1:xz}(tc:TypeCalled T ni ii)(ct:checkTypeCall T ⟨xs,[]⟩=pure ())(en:entryFor table ii=some B)
  (mk:codeAny (model P w) A.in1 (.call (.builtin ni) ⟨.type T::xs,[]⟩) (wants Q1 E) s)
  (go:∀y s1,Q1 y s1→(∀(M:Model) (A:Around) (E:xz) (Q:Unit→Shared→Prop),Q () s1→wpAny M A (checkBuiltinCall ii ⟨y::xs,[]⟩) Q E s1)∧s1.TypeIs y T∧
   wpAny (model P w) A.in1.in1 (B ⟨y::xs,[]⟩) (λf s2=>match f with|.done f=>wants (λr s3=>r=.none∧Q y s3) E (.ok f) s2|.again c=>c.quiet=true∧codeAny (model P w) A.in1 c (wants (λr s3=>r=.none∧Q y s3) E) s2) (λe s2=>wants (λr s3=>r=.none∧Q y s3) E (.error e) s2) s1):wpAny (model P w) A (call (.type T) xs) Q E s:=by
 let⟨_,_,m0⟩:=tc.mro;let m1:=tc.made;let m2:=tc.sub;let m3:=tc.notType;let m4:=tc.canCreate;show wpAny_call (codeAny_of_tree ?_);show wpAny _ _ (callAny (.type T) _) _ _ s
 show AQ ⟨Code.quiet_builtin _ (by done),codeAny_builtin F.entry_type_call ?_⟩;rw[Around.under_plain (weight_type_call_type T xs []) rfl]
 repeat any_goals first|wp_step|assumption
 show Jx mk λr s1 q=>?_;match r,q with
 |.error _,q=>show q
 |.ok (.ret y),q=>
  let⟨ck,ty,q2⟩:=go _ _ q;let m5:=tc.init.lookup;let m6:=tc.init.bind y
  repeat any_goals first|wp_step|assumption
  show Jx (codeAny_call_builtin tc.init.plain en (ck _ _ _ _ q2)) λr2 s2 z=>?_;match r2,z with
  |.error _,z=>show z
  |.ok (.ret v),z=>
   obtain⟨rfl,z⟩:=z
   repeat any_goals first|wp_step|assumption
def adN{l:Addr}{bp:Array Value}(hh:A.handled=none)(hl:s.heap.IsList l bp)(hi:∀i v,bp[i]?=some v→Sk P w zs i v)(hn:bp.size=zs.length)(hz:zs.length≤999)
  (hQ:∀h' tk S n,(∀b o,s.heap.get? b=some o→h'.get? b=some o)→fY zs S n→h'.SetOf (strKind P w) s.heap.objs.size S n→Q (.ref s.heap.objs.size) {s with heap:=h',toks:=tk}):wpAny (model P w) A (call (.type "set") [.ref l]) Q E s:=by
 show mO (Q1:=λobj s₁=>∃led:Bool,obj=.ref s.heap.objs.size∧s₁={s with heap:=s.heap.push {cls:=.type "set",dict:=none,data:=.set #[] 0 (.fresh 0 0 led)}}) PySem.F.called_set (PySem.F.typeCall_set_1 _) PySem.F.entry_set_init (code_set_new_1 _ λled=>⟨led,rfl,rfl⟩) λobj s₁ h₁=>?_;let⟨led,rfl,rfl⟩:=h₁;let gD:=D8 s.heap (o:={cls:=.type "set",dict:=none,data:=.set #[] 0 (.fresh 0 0 led)}) rfl;let lz:(s.heap.push {cls:=.type "set",dict:=none,data:=.set #[] 0 (.fresh 0 0 led)}).objs.size=s.heap.objs.size+1:=Fe _ _;let ty:Shared.TypeIs {s with heap:=s.heap.push {cls:=.type "set",dict:=none,data:=.set #[] 0 (.fresh 0 0 led)}} (.ref s.heap.objs.size) "set" :=⟨_,gD,rfl⟩;show⟨λM A E Q q=>check_set_init_1 ty q,ty,?_⟩;let lD:l≠s.heap.objs.size:=by let⟨o,ho,_⟩:=hl;show BO (B3 ho)
 let lt:l<s.heap.objs.size:=by let⟨o,ho,_⟩:=hl;show B3 ho
 let Rz:=hl.push {cls:=.type "set",dict:=none,data:=.set #[] 0 (.fresh 0 0 led)};let ts:=PySem.F.sub_list_set;let tf:=PySem.F.sub_list_frozenset;let td:(Value.type "list" == Value.type "dict")=false:=by decide
 let⟨ol,gl,cl,⟨nl,dl⟩⟩:=Rz;let Rz:(s.heap.push {cls:=.type "set",dict:=none,data:=.set #[] 0 (.fresh 0 0 led)}).IsList l bp:=⟨ol,gl,cl,nl,dl⟩;obtain⟨c1,c2,c3,c4⟩:=ol;dsimp only at cl dl;subst cl dl;unfold Builtin.«set.__init__» noKeywords Builtin.Frozenset.updateFrom;generalize hy:pyIter=PY
 wp_walk
 subst hy;show QV Rz (A9 (wpAny_runValue ?_));let h3:A.in1.in1.in1.handled=none:=by simp[hh]
 let ne:l≠(s.heap.push {cls:=.type "set",dict:=none,data:=.set #[] 0 (.fresh 0 0 led)}).objs.size:=by rw[lz];show BO (Hm lt)
 let Wk:=((Walks.list (prog:=P) (w:=w) h3 _ l ne bp).toS).imp hi;rw[hn]at Wk;let hD:s.heap.objs.size∉[(s.heap.push {cls:=.type "set",dict:=none,data:=.set #[] 0 (.fresh 0 0 led)}).objs.size,l]:=λm=>by
  rw[lz]at m;rcases aaf.mp m with e|e
  ·show BO (GX _) e
  ·show lD (aaC.mp e).symm
 let so:=(PyProof.Rows.setObjOf_fresh (knd:=strKind P w) led).setOf (B1 {cls:=.type "list_iterator",data:=.fields #[.ref l,.int 0 0]} gD) (by unfold scanBound;lia);show xj Wk hD hz zs.length 0 _ (by lia) ⟨⟨_,D8 _ rfl,rfl,rfl⟩,Rz.push _⟩ ⟨_,0,by rw[List.take_zero];show fY.nil,so⟩ λs2 mv ξ=>Xi22 ξ λS n on Sz=>?_;show wpAny _ _ _ _ _ _
 show AQ ?_;show wpAny _ _ (ret Value.none) _ _ _
 show AQ ⟨rfl,?_⟩;let e:s2={s with heap:=s2.heap,toks:=s2.toks}:=by
  obtain⟨b1,b2,b3,b4,b5⟩:=s2;let e1:b2=s.gens:=mv.gens;let e2:b3=s.drawn:=mv.drawn;let e3:b5=s.os:=mv.os;subst e1 e2 e3;rfl
 rw[e];show hQ _ _ S n (λb o hb=>mv.heap b o (λm=>?_) (B1 _ (B1 _ hb))) on Sz;let bl:=B3 hb;rw[lz]at m;rcases aaf.mp m with e|m
 ·rw[e]at bl;show GG _ bl
 ·rw[aaC.mp m]at bl;show absurd bl (Nat.not_lt.mpr (Bk _))
end
def nT{X:Cx}(hc:X.calm=true):Fb X (.type "set") (λxs H Q=>∃(p:Addr) (zs:List Str),xs=[.ref p]∧H p=some (.lst (zs.map V.str))∧zs.length≤999∧∀D S n,fY zs S n→H D=none→Q (.ref D) (AM H D (.ext (setAt X.prog X.w D S n)))):=by
 intro v4 s σ H vs us Q I rv h;let⟨p,zs,rfl,hp,hz,q⟩:=h;let⟨u,rfl,ru⟩:=rv.one;cases ru;let⟨bp,va,pl,_⟩:=I.list (.inl (.inl hp));let tx:∀{zs:List Str} {bp:List Value},Vals (zs.map V.str) bp→bp.length=zs.length∧∀(i:Nat) v,bp[i]?=some v→Sk X.prog X.w zs i v:=λ{zs}=>by
  induction zs with
  |nil=>intro bp h;cases h;show⟨rfl,λi v e=>by simp at e⟩
  |cons z r ih=>
   intro bp h;cases h with
   |cons a b=>
    let⟨t,rfl⟩:=a;let⟨h1,h2⟩:=ih b;show⟨by rw[Bb,Bb,h1],λi v e=>?_⟩;cases i with
    |zero=>cases e;show⟨z,rfl,by show Value.isStrOf z (.str z t)=true;simp[Value.isStrOf],rfl⟩
    |succ i=>show h2 i v e
 let⟨h1,h2⟩:=tx va;show adN (I.ok.hd hc) pl.isList (λi v e=>h2 i v (by rwa[JZ]at e)) (by rw[Bn];show h1) hz λh' tk S n k on so=>?_;show Ps2 (.ref _) _ ⟨I.laid (t':=tk) k (Ap _) (XQ so),rfl,q _ S n on (I.bV.fresh (Ap _))⟩
def aaT{X:Cx}(hc:X.calm=true):FU X (.type "set") (λxs Γ Z=>∃(p:Addr) (zs:List Str),xs=[.ref p]∧Γ p=some (.lst (zs.map T.str))∧zs.length≤999∧∀D S n,fY zs S n→Γ D=none→Z (.ref D) (up Γ D (.ext (setAt X.prog X.w D S n)))):=
 ⟨_,nT hc,λvs xs H Γ Q Z r hr q0 vr=>by
  let⟨p,zs,e,g,hz,z⟩:=q0;subst e;let⟨v,rfl,a⟩:=E4 r;let⟨us,hu,ru⟩:=hr p _ g;let e:us=zs.map V.str:=R0 ru;show Ps2 p zs ⟨by rw[BY a],by rw[hu,e],hz,λD S n on hD=>?_⟩;show vr _ _ _ _ (.make hD) (hr.make (o3:=.ext (setAt X.prog X.w D S n)) hD Bu) Ep (z D S n on (hr.free hD))⟩
end L3
namespace L3
open PySem PySem.Spec L2
open PyProof.Rows hiding St
variable {a b e:Expr}{ta tb:AN}{r3:F3}{i k j:Nat}{x:Str}{ps:List Str}{sp:Ay}{p:Pos}{es:List Expr}{t:Ca}
section
variable {X: Cx}{E: St→BG}{pos: Pos}
def AJ(ha:PE X a (AE E ta))(hb:PE X b (AE E tb))(hs:LR b:=by exactλ_ _=>rfl):PE X (.Subscript a b pos) (AE E (Hd IG ta tb)):=aaZ ha hb hs
def xM(ha:PE X a (AE E ta))(hb:PE X b (AE E tb))(hs:LR b:=by exactλ_ _=>rfl):PE X (.Subscript a b pos) (AE E (Hd bw ta tb)):=aaY ha hb hs
def DZ{op:CmpOp}(ho:BZ X (compareOp op) r3)(ha:PE X a (AE E ta))(hb:PE X b (AE E tb))(hm:behindInMarks op b=false:=by show lO _):PE X (.Compare a [op] [b] pos) (AE E (Hd r3 ta tb)):=HA ho ha hb hm
def BB{op:CmpOp}(ho:BZ X (compareOp op) r3)(ha:PE X a (AE E ta))(hb:PE X b (AE E tb))(hm:behindInMarks op b=false:=by show lO _):PT X (.Compare a [op] [b] pos) (Ce E (Mh (Hd r3 ta tb))):=K3 ho ha hb hm
def An{te:AN}{Pc:Pos}(hN:X.N.Nodup)(he:PE X e (AE E te))(hi:X.N[i]?=some x:=by rfl)(hx:HN X.env.scope x:=by first|show .inl rfl|show .inr rfl)(hs:swapsWith e (some (.Name x Pc)) pos.line X.env=pure false:=by rfl)(hf:Fk X x:=by first|show .inl rfl|show .inr rfl|assumption):PS X (.Assign [.Name x Pc] e pos) (Cg E (So i te)):=Tp hN hi hx he hs hf
def Aj(hN:X.N.Nodup)(hi:X.N[i]?=some x:=by rfl)(hx:HN X.env.scope x:=by first|show .inl rfl|show .inr rfl)(hf:Fk X x:=by first|show .inl rfl|show .inr rfl|assumption):PG X (.Name x pos) (EK E (hName i)):=Ba hN hi hx hf
def GQ(hN:X.N=[x]:=by rfl)(hx:HN X.env.scope x:=by first|show .inl rfl|show .inr rfl)(hf:Fk X x:=by first|show .inl rfl|show .inr rfl|assumption):PG X (.Name x pos) (EK E (hName 0)):=Ba (by rw[hN];simp) (by rw[hN];rfl) hx hf
def Al(c:Ae X.prog X.w X.K X.mg X.base x k ps sp)(hr:dA j X.A)(ha:PA X (e::es) (De E t))(hk:k≤j:=by lia)(hg:Bs X x:=by rfl)(qK:(x ==("__debug__" : Str))=false:=by decide)(he:starEach (e::es) X.env=(false,eval e X.env)::starEach es X.env:=by rfl)(iE:(backTo pos (starEach es X.env)).any (·.1)=false:=by rfl):PE X (.Call (.Name x p) (e::es) [] pos) (AE E (kb sp t)):=dc c hr hk hg ha qK he iE
def Y0(c:LQ X.prog X.w X.K X.mg X.base x k ps sp)(hr:dA j X.A)(hx:Sd X E)(ha:PA X (e::es) (De E t))(hk:k≤j:=by lia)(hg:Bs X x:=by rfl)(qK:(x ==("__debug__" : Str))=false:=by decide)(he:starEach (e::es) X.env=(false,eval e X.env)::starEach es X.env:=by rfl)(iE:(backTo pos (starEach es X.env)).any (·.1)=false:=by rfl):PE X (.Call (.Name x p) (e::es) [] pos) (AE E (cA sp t)):=ac9 c hr hk hg hx ha qK he iE
def Ec{scope:Scope}{own:List Str}(hk:scope.kind=.function:=by rfl)(hn:∀y∈scope.names,y.2≠.free∧y.2≠.cell:=by done)(hl:∀y∈scope.names,y.2=.local→scope.names.lookup y.1=some .local:=by done):c9 X scope [] own []:=jm hk hn hl
end
end L3
namespace Tg
open PySem L2
variable {x y:Str}{lo hi:Option Int}
inductive Kd where
 |num (w:Int)
 |text
 |row (k:Kd)
 |rec_ (fs:List (Str×Kd))
 |pick (fs:List (Str×Kd))
abbrev ad:=List (Str×Kd)
mutual
def Kd.size:Kd→Int
 |.num w=>w
 |.text=>1
 |.row _=>1
 |.rec_ fs=>(Xm fs).sum
 |.pick fs=>1+eO (Xm fs)
def Xm:List (Str×Kd)→List Int
 |[]=>[]
 |(_,k)::r=>k.size::Xm r
end
mutual
def Kd.depth:Kd→Nat
 |.num _=>1
 |.text=>1
 |.row k=>k.depth+1
 |.rec_ fs=>HD fs+1
 |.pick fs=>HD fs+1
def HD:List (Str×Kd)→Nat
 |[]=>0
 |(_,k)::r=>max k.depth (HD r)
end
def Mk:∀{fs:List (Str×Kd)} {p:Str×Kd},p∈fs→p.2.depth≤HD fs
 |(nm,k)::r,p,h=>by
  unfold HD;rcases aaf.mp h with rfl|h
  ·show Nat.le_max_left _ _
  ·show D6 (Mk h) (Nat.le_max_right _ _)
mutual
/-- a kind as wM document tells it: widths,fields one to six,no name twice,names of one to WV small Rq -/
def Kd.good:Kd→Prop
 |.num w=>1≤w∧w≤4
 |.text=>True
 |.row k=>k.good
 |.rec_ fs=>Fz fs∧1≤fs.length∧fs.length≤6∧(fs.map (·.1)).Nodup
 |.pick fs=>Fz fs∧1≤fs.length∧fs.length≤6∧(fs.map (·.1)).Nodup
def Fz:List (Str×Kd)→Prop
 |[]=>True
 |(nm,k)::r=>(1≤nm.length∧nm.length≤8∧∀c∈nm.cps.toList,97≤c∧c≤122)∧k.good∧Fz r
end
abbrev Lets(z:Str):Prop:=∀c∈z.cps.toList,97≤c∧c≤122
abbrev Nm(z:Str):Prop:=1≤z.length∧z.length≤8∧Lets z
def GR(z:Str):z.cps.toList.length=z.length:=by simp[Str.length]
def cv(x y:Str):(x++y).cps.toList=x.cps.toList++y.cps.toList:=by rw[Str.cps_append,Array.toList_append]
def KR(x y:Str):(x++y).length=x.length+y.length:=by rw[←GR,cv,BP,GR,GR]
def Lets.app(a:Lets x)(b:Lets y):Lets (x++y):=λc h=>by
 rw[cv]at h;rcases aav.mp h with h|h
 ·show a c h
 ·show b c h
def Lets.cut(a:Lets x)(e:y.cps.toList=Cu x.cps.toList lo hi):Lets y:=λc h=>by
 rw[e]at h;show a c (Hc (Hi h))
def RL(e:y.cps.toList=Cu x.cps.toList lo hi):y.length≤x.length:=by
 rw[←GR,←GR,e];show NW _ _ _
def aao{n:Int}(h:0≤n)(e:y.cps.toList=Cu x.cps.toList none (some n)):y.length=min n.toNat x.length:=by
 rw[←GR,e];unfold Cu;let e1:HT.da x.cps.toList.length x.cps.toList.length (some n)=min n.toNat x.cps.toList.length:=by
  show(if n<0 then _ else min n.toNat _)=_
  rw[AL (by lia)]
 rw[e1,HT.rR,aT,DD,GR];lia
def iJ(h:(x.cps.toList.all λc=>decide (97≤c)&&decide (c≤122))=true):Lets x:=λc hc=>by
 let q:=aaR.mp h c hc;simpa using q
noncomputable abbrev NQ:Str := "abcdefghijklmnopqrstuvwxyz"
def fG{α:Type}{xs:List α}{r:Int}(h0:0≤r)(h1:r<xs.length):∃x,CR xs r=some x∧x∈xs:=by
 let hk:r.toNat<xs.length:=by lia
 let e:r=((r.toNat:Nat):Int):=by lia
 let q:CR xs ((r.toNat:Nat):Int)=some xs[r.toNat]:=HS (by rw[BV hk]<;>rfl)
 rw[←e]at q;show⟨_,q,Eg hk⟩
def sub_len{α:Type}[BEq α][LawfulBEq α]:∀{l m:List α},l.Nodup→(∀x∈l,x∈m)→l.length≤m.length
 |[],m,_,_=>E6 _
 |x::r,m,nd,h=>by
  let hx:=h x Ej;let e:=QD hx;let HW:=abu.mp nd;let ih:=sub_len (l:=r) (m:=m.erase x) HW.2 λy hy=>by
   show(Su ?_).mpr (h y (Cn _ hy));rintro rfl;show HW.1 hy
  have:0<m.length:=Rl hx;rw[Bb];lia
def IW{x:Str}:∀{ss:List Str},Dk (.str x) (ss.map V.str)=decide (x∈ss)
 |[]=>by simp[Dk]
 |y::r=>by
  let ih:=IW (x:=x) (ss:=r);unfold Dk at ih ⊢;rw[Cq,G7,ih];show(y==x||decide (x∈r))=decide (x∈y::r)
  rw[abo];simp only[Bool.or_eq_true,abZ,JT,aaf];constructor
  ·rintro(h|h)
   ·show .inl h.symm
   ·show .inr h
  ·rintro(h|h)
   ·show .inl h.symm
   ·show .inr h
end Tg
namespace Tg
open PySem L2 L3
variable {fs:ad}{k:Kd}{x:T}
mutual
def Kd.tr:Kd→T
 |.num w=>.tup [.str "num",.int w]
 |.text=>.tup [.str "text"]
 |.row k=>.tup [.str "row",k.tr]
 |.rec_ fs=>.tup [.str "rec",.tup (DY fs)]
 |.pick fs=>.tup [.str "pick",.tup (DY fs)]
def DY:List (Str×Kd)→List T
 |[]=>[]
 |(n,k)::r=>.tup [.str n,k.tr]::DY r
end
def QA:∀fs:List (Str×Kd),DY fs=fs.map λp=>.tup [.str p.1,p.2.tr]
 |[]=>rfl
 |(n,k)::r=>by rw[DY,QA r];rfl
def JY(fs:ad):(DY fs).length=fs.length:=by rw[QA,AF]
def bC{i:Nat}{n:Str}(h:fs[i]?=some (n,k)):(DY fs)[i]?=some (.tup [.str n,k.tr]):=by rw[QA,Fo,h];rfl
abbrev findF:List (Str×Kd)→Str→Option (Nat×Kd)
 |[],_=>none
 |(m,k)::r,n=>if m=n then some (0,k)else(findF r n).map λp=>(p.1+1,p.2)
abbrev F1(fs:List (Str×Kd)):T→Option (Nat×Kd)
 |.str n=>findF fs n
 |_=>none
abbrev stepK:Kd→T→Option Kd
 |.row k,.int i=>if 0≤i∧i<60 then some k else none
 |.rec_ fs,x=>(F1 fs x).map (·.2)
 |.pick fs,x=>(F1 fs x).map (·.2)
 |_,_=>none
abbrev DK:Kd→List T→Option Kd
 |k,[]=>some k
 |k,p::r=>match stepK k p with|some k'=>DK k' r|none=>none
inductive Sx:T→Prop
 |int (i:Int):Sx (.int i)
 |str {z:Str} (l:z.length≤1000):Sx (.str z)
def eA:∀{fs:List (Str×Kd)} {n:Str} {j:Nat} {k:Kd},findF fs n=some (j,k)→fs[j]?=some (n,k)
 |[],_,_,_,h=>by cases h
 |(m,q)::r,n,j,k,h=>by
  unfold findF at h;by_cases e:m=n
  ·rw[AO e]at h;cases h;rw[e];rfl
  ·rw[AL e]at h
   cases f:findF r n with
   |none=>rw[f]at h;cases h
   |some p=>
    rw[f]at h;cases h;show eA (j:=p.1) (k:=p.2) f
def VK:∀{fs:List (Str×Kd)} {p:Str×Kd},Fz fs→p∈fs→p.2.good
 |(nm,k)::r,p,g,h=>by
  unfold Fz at g;rcases aaf.mp h with rfl|h
  ·show g.2.1
  ·show VK g.2.2 h
def Od{j:Nat}(h:F1 fs x=some (j,k)):∃n,x=.str n∧fs[j]?=some (n,k):=by
 cases x with
 |str n=>show⟨n,rfl,eA h⟩
 |_=>cases h
def pG{k':Kd}(g:k.good)(h:stepK k x=some k'):k'.good∧k'.depth<k.depth:=by
 cases k with
 |num w=>cases x<;>cases h
 |text=>cases x<;>cases h
 |row j=>
  unfold Kd.good at g;rw[Kd.depth];cases x with
  |int i=>
   let h:(if 0≤i∧i<60 then some j else none)=some k':=h;split at h
   ·cases h;show⟨g,by lia⟩
   ·cases h
  |_=>cases h
 |rec_ fs=>
  unfold Kd.good at g;rw[Kd.depth];let h:(F1 fs x).map (·.2)=some k':=h;cases e:F1 fs x with
  |none=>rw[e]at h;cases h
  |some p=>
   rw[e]at h;cases h;let⟨n,_,m⟩:=Od (j:=p.1) (k:=p.2) e;let m:=LK m;show⟨VK g.1 m,Nat.lt_succ_of_le (Mk m)⟩
 |pick fs=>
  unfold Kd.good at g;rw[Kd.depth];let h:(F1 fs x).map (·.2)=some k':=h;cases e:F1 fs x with
  |none=>rw[e]at h;cases h
  |some p=>
   rw[e]at h;cases h;let⟨n,_,m⟩:=Od (j:=p.1) (k:=p.2) e;let m:=LK m;show⟨VK g.1 m,Nat.lt_succ_of_le (Mk m)⟩
abbrev Cf:T→V
 |.int i=>.int i
 |.str z=>.str z
 |_=>.non
abbrev Blk:T→Bool
 |.tup _=>true
 |_=>false
mutual
def dT:T→Nat
 |.tup us=>1+(us.filter Blk).length+di us
 |_=>0
def di:List T→Nat
 |[]=>0
 |t::r=>max (dT t) (di r)
end
end Tg
namespace Tg
open PySem L2 L3
variable {lo b:Bool}{n lv d m ep:Nat}{x r c i sd:Int}{Γ G Γ' Γ2:AR}{p:Pr}{o:O}{ts:List T}{z:Str}{t:T}{a f1 f2 pn b0 b1 b2 b3:Addr}{f C NS: Addr}{fs K:ad}{s:Sm}{H:A5}{P: Program}{w: World}{k:Kd}{y: Int}{zQ zP:FuncData}{ks ws:List Str}{Z:EG}{hs:List Sh}{es:List DictEntry}{Ls:List (List AB)}{rw:List Int}{xs: List Int}{Ps:List (Str×Pr)}{re:Option Kd}{mg: Str→Option Value}{bi: Heap}{fd: FuncData}{v1 v2: Value}
abbrev B6(i:Nat):Stmt:=PySem.Challenge.pw_tonguegate_k38_doors_and_shelves.main.body.getD i (.Pass ⟨0,0,0,0⟩)
abbrev mem(i j:Nat):Stmt:=match B6 i with
 |.ClassDef _ _ _ b _ _ _ _ _ _ _=>b.getD j (.Pass ⟨0,0,0,0⟩)
 |_=>.Pass ⟨0,0,0,0⟩
local macro_rules|`(tactic| left)=>`(tactic| ((with_reducible (conv=>whnf));repeat ((first|((with_reducible refine uA ?_ ?_);exact rfl)|((with_reducible refine tu ?_ ?_);exact rfl)|((with_reducible refine Q4 ?_ ?_);(first|exact rfl|done))|((with_reducible refine QY ?_ ?_);(first|exact rfl|done))|((with_reducible refine LG ?_ ?_);(first|exact⟨by decide,by decide,by decide⟩|exact⟨by decide,by decide⟩|exact Or.inl ⟨by decide,by decide⟩|exact Or.inr ⟨by decide,by decide⟩|((show(0:Int)<_);decide)))|(with_reducible (first|refine sD ?_|refine yR ?_|refine acm ?_|refine xH ?_|refine aa1 ?_|refine Xx ?_|refine yZ ?_|refine vx ?_|refine acg ?_|refine Xw ?_|refine Xv ?_|refine And.intro (rfl:T.non=T.non) ?_))|(with_reducible (first|refine ab5 ?_|refine adl ?_|refine Vw ?_))|((with_reducible apply R9);exact rfl)|((with_reducible apply B7);(first|assumption|exact Au);(first|exact Jj|exact Kn))|((with_reducible apply R8);(first|assumption|exact Au);exact rfl)|((with_reducible apply aa3);exact rfl;exact rfl;exact rfl)|((with_reducible (first|apply mK|apply adp|apply R5|apply atK));(first|assumption|exact Au);exact rfl)|((with_reducible apply R6);(first|assumption|exact Au);exact rfl)|(with_reducible (first|refine Tv ?_|refine Tt ?_|refine RB ?_)));(with_reducible (conv=>whnf)))))
local macro_rules|`(tactic| symm)=>do let q:=λ(n:Lean.Name)=>Lean.mkIdent n;let m:=λk=>Lean.Syntax.mkNumLit (toString (k:Nat));let mut x ←`(tactic| fail);let mut t ←`(tactic| fail);for k in [0:24] do {x ←`(tactic| first|exact Yu $(m (23-k)) rfl|$x:tactic)};for k in [0:6] do {t ←`(tactic| first|(apply C0 (X:=_) (n:=$(m (6-k)));rfl)|$t:tactic)};let mut r ←`(tactic| first|(apply qvN (X:=_);$x:tactic)|(apply Tp (X:=_);(first|exact $(q `S.nd)|exact VQ (by done));$x:tactic;(first|exact .inl rfl|exact .inr rfl))|(apply Ba (X:=_);(first|exact $(q `S.nd)|exact VQ (by done));$x:tactic;(first|exact .inl rfl|exact .inr rfl))|apply E2 (X:=_)|(apply dc (X:=_);assumption;exact $(q `hr);lia;rfl)|(apply Aw (X:=_);exact Bi;rfl;exact $(q `aB);exact BF)|(apply Aw (X:=_);exact FI rfl;rfl;exact $(q `bu);exact FN)|(apply D0 (X:=_);rfl;exact $(q `ai);rfl;assumption;first|exact E9|exact JF|exact hU|exact Ta)|(apply Dz (X:=_);assumption;assumption)|(apply EX (X:=_);assumption;exact $(q `hr);lia)|(apply O2 (X:=_);assumption;exact $(q `hr);lia)|(apply E5 (X:=_);rfl;assumption;first|assumption|exact Kv)|(apply Ed (X:=_);exact Ey;rfl)|$t:tactic|(apply IK (X:=_);rfl;exact $(q `bP))|apply DX (X:=_)|apply BN (X:=_));for n in [`DB,`MV,`Na,`Rk,`Rh,`SU,`JH,`O1,`Rj,`Ri,`LM,`Tw,`ie,`CF,`Fw,`CP,`LO,`CK,`AS,`Jh,`JE,`DG,`Cj,`SW,`Dd,`BC,`BQ,`Aq,`Mg,`QL,`MY,`VF,`K7,`K9,`Hf,`L8,`FQ,`Ee,`DA,`DO,`BH,`CO,`AH,`AK,`A4,`A3,`Ef,`Di,`GF,`BL,`Ax,`A7,`Bw,`A6,`A8] do {r ←`(tactic| first|apply $(q n) (X:=_)|$r:tactic)};return r
local macro_rules|`(tactic| right)=>do let q:=λ(n:Lean.Name)=>Lean.mkIdent n;let m:=λk=>Lean.Syntax.mkNumLit (toString (k:Nat));let mut x ←`(tactic| fail);for k in [0:24] do {x ←`(tactic| first|exact Yu $(m (23-k)) rfl|$x:tactic)};`(tactic| first|(apply Ak;first|(apply Tp (X:=_);(first|exact $(q `S.nd)|exact VQ (by done));$x:tactic;(first|exact .inl rfl|exact .inr rfl))|apply E2 (X:=_)|apply Fw (X:=_)|(apply Ed (X:=_);exact Ey;rfl))|symm)
local macro_rules|`(tactic| ext)=>`(tactic| first|exact jm rfl (by done) (by done)|(refine Fp rfl (by done) (by done) rfl ?_ rfl ?_<;>repeat' constructor))
def Ia{lo:Int}{x:T}{r:List T}(h:x::r=Dx lo n):∃m,n=m+1∧x=.int lo∧r=Dx (lo+1) m:=by
 cases n with
 |zero=>cases h
 |succ m=>cases h;show⟨m,rfl,rfl,rfl⟩
def Jv{lo:Int}(h:[]=Dx lo n):n=0:=by
 cases n with
 |zero=>rfl
 |succ m=>cases h
def B2{p:Addr}(e:up Γ p o=G):G p=some o:=(congrFun e p).symm.trans Au
def B9{p:Addr}(e:up Γ p o=G)(hp:Γ p=none):Le Γ G:=e ▸ .new hp
local macro_rules|`(tactic|clear $a:ident $b:ident $c:ident $d:ident $e:ident $f:ident)=>`(tactic|(intro $a:ident $b:ident;generalize $c:ident:up _ $a (O.lst _)=$d:ident;have $e:ident:=B2 $c;have $f:ident:=B9 $c $b))
local macro_rules|`(tactic|revert $a:ident $b:ident $c:ident $d:ident $e:ident $f:ident)=>`(tactic|(generalize $c:ident:up _ $a (O.lst _)=$d:ident;have $e:ident:=B2 $c;have $f:ident:=B9 $c $b))
local macro_rules|`(tactic|exists $c:ident)=>`(tactic|(left;refine AU (λ$c=>?_) (λ$c=>?_)))
def JU{ns:List Int}{j:Nat}(h:j<ns.length):∃n,n∈ns∧ns[j]?=some n∧CR (ns.map T.int) (j:Int)=some (.int n):=⟨ns[j],Eg h,by simp[h],HS (by simp[h])⟩
abbrev Fg(c:Int):Nat→Int
 |0=>c-10^18
 |k+1=>if 0<Fg c k then Fg c k/1000003 else Fg c k
abbrev Oy(c:Int)(k:Nat):Int:=(c%1000000007+1)*(2*k+3)%2147483647
abbrev Oj(c:Int)(k:Nat):Int:=(Oy c k^5+((k:Int)+1)^3)%2147483629
abbrev Xt(c:Int)(k:Nat):Int:=(Oj c k+c%999983)^3%2147483587/16
abbrev Eb(c:Int)(k:Nat):Int:=if 0<Fg c k then Fg c k%1000003 else Xt c k
def aaM(c:Int)(k:Nat):0≤Oy c k∧Oy c k<2147483647:=⟨DM _ (by decide),EH _ (by decide)⟩
def v9(c:Int)(k:Nat):0≤Oj c k∧Oj c k<2147483629:=⟨DM _ (by decide),EH _ (by decide)⟩
def Ii(c:Int)(k:Nat):0≤Eb c k:=by
 unfold Eb;split
 ·show DM _ (by decide)
 ·unfold Xt
  show Int.ediv_nonneg (DM _ (by decide)) (by decide)
abbrev C5(c:Int)(n:Nat):List Int:=(List.range n).map (Eb c)
def Oo(c:Int)(n:Nat):(C5 c n).length=n:=by unfold C5;rw[AF,FK]
def WX:∀x∈C5 c n,0≤x:=λx h=>by
 let⟨k,_,rfl⟩:=aai.mp h;show Ii c k
def ac3(c:Int)(n:Nat):C5 c (n+1)=C5 c n++[Eb c n]:=by unfold C5;rw[Mt,AZ];rfl
section
variable {K: W.Frag}
noncomputable abbrev Si:Stmt:=B6 71
def bX:Av ["cell","count","row","rest","base","more","k","stir"] ["cell","count"] (Ag Si):=nofun
abbrev lV:Ay:=λts Γ Z _=>∃(c:Int) (n:Nat),ts=[.int c,.int n]∧n≤1000∧∀p,Γ p=none→Z (.ref p) (up Γ p (.lst ((C5 c n).map T.int)))
def yH(F:cT K "_law_draws" "_law_draws" Si f fd)(bP:mg "range" = none):bj P w K mg bi Ao 1 f fd ["cell","count"] (Am lV):=by
 show B5 F bX (λts Γ Z Y h=>?_) (λcq A outer s H E ts Γ Z Y hr h=>?_)
 ·let⟨c,n,rfl,_⟩:=h
  rfl
 let⟨c,n,rfl,n1,q⟩:=h;show⟨_,(A4 (An (i:=2) bX.nd (Dd A6))
  (A4 (An (i:=3) bX.nd (AH L8 (A0 0) (AH Mg A7 A7)))
  (A4 (An (i:=4) bX.nd (AH DO (AH BH (A0 0) A7) A7))
  (A4 (An (i:=5) bX.nd (AH BH (A0 0) A7))
  (A4 (Ed Ey rfl (IK rfl bP (A3 (A0 1) A6)) (Aj (i:=6) bX.nd) (A4 (An (i:=7) bX.nd (AH BH (AH Hf (A0 4) (AH DO (AH Hf A7 (A0 6)) A7)) A7))
  (A4 (An (i:=7) bX.nd (AH BH (AH DO (AH Mg (A0 7) A7) (AH Mg (AH DO (A0 6) A7) A7)) A7))
  (A4 (An (i:=7) bX.nd (AH DA (AH BH (AH Mg (AH DO (A0 7) (A0 5)) A7) A7) A7))
  (A4 (Ak (Aq (BB K7 (A0 3) A7) (A4 (An (i:=7) bX.nd (AH BH (A0 3) A7))
  (A4 (An (i:=3) bX.nd (AH DA (A0 3) A7))
  A8)) A8))
  (A4 (Fw (FF HI Ha Hb Hh (A0 2) (A3 (A0 7) A6)))
  A8))))))
  (A4 (AK (A0 2))
  A8)))))),?_⟩
 simp only[As];left;intro p hp;left;show⟨n,rfl,by lia,by lia,?_⟩;show⟨λv6 τ Γ'=>∃(i m:Nat) (o6 o7:Option T),v6=Dx i m∧i+m=n∧τ=[some (.int c),some (.int n),some (.ref p),some (.int (Fg c i)),some (.int (c%1000000007+1)),some (.int (c%999983)),o6,o7]∧Γ'=up Γ p (.lst ((C5 c i).map T.int)),Ps4 0 n none none ⟨rfl,by lia,rfl,rfl⟩,?_,?_⟩
 ·intro τ Γ'⟨i,m,o6,o7,er,im,rfl,rfl⟩
  let hm:m=0:=by
   cases m with
   |zero=>rfl
   |succ m=>cases er
  subst hm;show⟨trivial,?_⟩;left;have:i=n:=im;subst this;show AD .refl (q p hp)
 ·intro x r τ Γ'⟨i,m,o6,o7,er,im,rfl,rfl⟩
  let⟨m',rfl,rfl,rfl⟩:=Ia er;let ab:=aaM c i;let bb:=v9 c i;let mb:0≤c%999983∧c%999983<999983:=⟨DM _ (by decide),EH _ (by decide)⟩;left;show LG (.inr ⟨by lia,by lia⟩) ?_;left;show LG ⟨by decide,by decide,?_⟩ ?_
  ·show(Oy c i).natAbs<2^64
   lia
  left;show LG ⟨by decide,by decide,by lia⟩ ?_;left;show LG ⟨by decide,by decide,?_⟩ ?_
  ·show(Oj c i+c%999983).natAbs<2^64
   lia
  left;show⟨λτ Γ'=>τ=[some (.int c),some (.int n),some (.ref p),some (.int (Fg c (i+1))),some (.int (c%1000000007+1)),some (.int (c%999983)),some (.int i),some (.int (Eb c i))]∧Γ'=up Γ p (.lst ((C5 c i).map T.int)),?_,?_⟩
  ·left
   show AU (λcc=>?_) (λcc=>?_)
   ·let cc:=DN cc
    left;let e1:Fg c (i+1)=Fg c i/1000003:=by rw[Fg,AO cc]
    let e2:Eb c i=Fg c i%1000003:=by rw[Eb,AO cc]
    rw[e1,e2];show⟨rfl,rfl⟩
   ·let cc:=F7 cc
    left;let e1:Fg c (i+1)=Fg c i:=by rw[Fg,AL cc]
    let e2:Eb c i=Xt c i:=by rw[Eb,AL cc]
    rw[e1,e2];show⟨rfl,rfl⟩
  intro τ Γ'⟨rfl,rfl⟩;left;show TS Au ?_;left;show Ps3 p ((C5 c i).map T.int) _ ⟨rfl,rfl,Au,D3 (by rw[AF,Oo];lia),?_⟩;left;show Ps4 (i+1) m' _ _ ⟨rfl,by lia,rfl,?_⟩;rw[QU,ac3,AZ];rfl
end
inductive Pt(Γ:AR):T→Prop
 |non:Pt Γ .non
 |bl (b:Bool):Pt Γ (.bl b)
 |int (i:Int):Pt Γ (.int i)
 |str {z:Str} (l:z.length≤100000):Pt Γ (.str z)
 |tup {ts:List T} (l:ts.length≤100000) (h:∀t∈ts,Pt Γ t):Pt Γ (.tup ts)
 |lst {a:Addr} {ts:List T} (g:Γ a=some (.lst ts)):Pt Γ (.ref a)
 |dct {a:Addr} {aA:List (AB×T)} (g:Γ a=some (.dK aA)):Pt Γ (.ref a)
def Pt.items(h:Pt Γ (.tup ts)):ts.length≤100000∧∀t∈ts,Pt Γ t:=by
 cases h with
 |tup l h=>show⟨l,h⟩
def Pt.txt(h:Pt Γ (.str z)):z.length≤100000:=by
 cases h with
 |str l=>show l
abbrev isTup:T→Bool|.tup _=>true|_=>false
abbrev isStr:T→Bool|.str _=>true|_=>false
abbrev isInt:T→Bool|.int _=>true|.bl _=>true|_=>false
abbrev aad:T→Bool|.bl _=>true|_=>false
abbrev SS:T→Bool|.int _=>true|_=>false
def Ht(h:isTup t=true):∃ts,t=.tup ts:=by
 cases t with
 |tup ts=>show⟨ts,rfl⟩
 |_=>cases h
def N2(h:isStr t=true):∃z,t=.str z:=by
 cases t with
 |str z=>show⟨z,rfl⟩
 |_=>cases h
def U2(h:SS t=true):∃i,t=.int i:=by
 cases t with
 |int i=>show⟨i,rfl⟩
 |_=>cases h
section
variable {K: W.Frag}{Γ: AR}{t: T}
def GL(g:Γ a=some (.lst ts)):Fv Γ (.ref a)=some "list" := by
 show(match Γ a with|some (.lst _)=>some "list" |some (.dK _)=>some "dict" |_=>none)=_
 rw[g]
def JB{ts:List (AB×T)}(g:Γ a=some (.dK ts)):Fv Γ (.ref a)=some "dict" := by
 show(match Γ a with|some (.lst _)=>some "list" |some (.dK _)=>some "dict" |_=>none)=_
 rw[g]
def IS(h:Pt Γ t):∃n,Fv Γ t=some n∧W.kitOne K (.type n) (.type "tuple")=some (isTup t):=by
 cases h with
 |lst g=>show⟨_,GL g,rfl⟩
 |dct g=>show⟨_,JB g,rfl⟩
 |_=>show⟨_,rfl,rfl⟩
def in_str(h:Pt Γ t):∃n,Fv Γ t=some n∧W.kitOne K (.type n) (.type "str")=some (isStr t):=by
 cases h with
 |lst g=>show⟨_,GL g,rfl⟩
 |dct g=>show⟨_,JB g,rfl⟩
 |_=>show⟨_,rfl,rfl⟩
def aaS(h:Pt Γ t):∃n,Fv Γ t=some n∧W.kitOne K (.type n) (.type "int")=some (isInt t):=by
 cases h with
 |lst g=>show⟨_,GL g,rfl⟩
 |dct g=>show⟨_,JB g,rfl⟩
 |_=>show⟨_,rfl,rfl⟩
def aal(h:Pt Γ t):∃n,Fv Γ t=some n∧W.kitOne K (.type n) (.type "bool")=some (aad t):=by
 cases h with
 |lst g=>show⟨_,GL g,rfl⟩
 |dct g=>show⟨_,JB g,rfl⟩
 |_=>show⟨_,rfl,rfl⟩
def Et{Ty:String}{B:T→Bool}{Q:Bool→Prop}(h:∃n,Fv Γ t=some n∧W.kitOne K (.type n) (.type Ty)=some (B t))(q:Q (B t)):∃n b,Fv Γ t=some n∧W.kitOne K (.type n) (.type Ty)=some b∧Q b:=by
 let⟨n,a,b⟩:=h;show Ps2 n _ ⟨a,b,q⟩
end
abbrev Ko(c:Nat):Bool:=!(Builtin.Str.occurrences NQ ⟨#[c]⟩ 0 NQ.length 1).isEmpty
def zY:∀c:Nat,c<128→Ko c=(decide (97≤c)&&decide (c≤122)):=by done
abbrev EW:T→Bool
 |.str z=>decide (1≤z.length)&&decide (z.length≤8)&&z.cps.toList.all Ko
 |_=>false
def Ni(z:Str):EW (.str z)=(decide (1≤z.length)&&decide (z.length≤8)&&z.cps.toList.all Ko):=rfl
def fO(h:EW t=true):∃z,t=.str z:=by
 cases t with
 |str z=>show⟨z,rfl⟩
 |_=>cases h
abbrev Fx(f:T→Bool):T→Bool
 |.tup [a,b]=>EW a&&f b
 |_=>false
abbrev HH:T→Str
 |.tup (.str z::_)=>z
 |_ => ""
abbrev M6(f:T→Bool):T→Bool
 |.tup ts=>decide (1≤ts.length)&&decide (ts.length≤6)&&ts.all (Fx f)&&decide (ts.map HH).Nodup
 |_=>false
abbrev Qu:T→Bool
 |.int i=>decide (1≤i)&&decide (i≤4)
 |_=>false
abbrev Bg:Nat→T→Bool
 |d+1,.tup [.str h]=>decide (h = "text")
 |d+1,.tup [.str h,x]=>if h = "num" then Qu x else if h = "row" then Bg d x else(decide (h = "rec")||decide (h = "pick"))&&M6 (Bg d) x
 |_,_=>false
def zb{f:T→Bool}(h:Fx f t=true):∃z b,t=.tup [.str z,b]∧EW (.str z)=true∧f b=true:=by
 unfold Fx at h;split at h
 ·rename_i a b
  rw[EJ]at h;let⟨z,rfl⟩:=fO h.1;show Ps2 z b ⟨rfl,h.1,h.2⟩
 ·cases h
section
variable {K: W.Frag}
noncomputable abbrev aQ:Stmt:=B6 10
def mG:Av ["thing"] ["thing"] (Ag aQ):=nofun
abbrev IQ:Ay:=λts Γ Z _=>∃t:T,ts=[t]∧Pt Γ t∧Z (.bl (SS t)) Γ
def qp(F:cT K "is_whole" "is_whole" aQ f fd)(ai:mg "isinstance" = none)(CJ:mg "int" = none)(oP:mg "bool" = none):bj P w K mg bi Ao 1 f fd ["thing"] (Am IQ):=by
 show B5 F mG (λts Γ Z Y h=>?_) (λcq A outer s H E ts Γ Z Y hr h=>?_)
 ·let⟨t,rfl,_⟩:=h
  rfl
 let⟨t,rfl,pt,q⟩:=h;show⟨_,(A4 (AK (CK (D0 rfl ai rfl CJ hU (A0 0)) (CP (ie (D0 rfl ai rfl oP Ta (A0 0))))))
  A8),?_⟩
 simp only[As];left;show Et (aaS pt) ?_;exists c
 ·left
  show Et (aal pt) ?_;left;show AD .refl ?_;cases t with
  |int i=>show q
  |bl b=>show q
  |_=>cases c
 ·show AD .refl ?_
  cases t with
  |int i=>cases c
  |bl b=>cases c
  |_=>show q
noncomputable abbrev Yw:Stmt:=B6 11
def tF:Av ["thing"] ["thing"] (Ag Yw):=nofun
abbrev IY:Ay:=λts Γ Z _=>∃t:T,ts=[t]∧Pt Γ t∧Z (.bl (EW t)) Γ
def uF(F:cT K "is_name" "is_name" Yw f fd)(iC:mg "LONGEST_NAME" = some v1)(sY:DI v1 (.int 8))(pC:mg "LETTERS" = some v2)(B8:DI v2 (.str NQ))(ai:mg "isinstance" = none)(cU:mg "str" = none)(aB:mg "len" = none)(bu:mg "all" = none):bj P w K mg bi Ao 1 f fd ["thing"] (Am IY):=by
 show B5 F tF (λts Γ Z Y h=>?_) (λcq A outer s H E ts Γ Z Y hr h=>?_)
 ·let⟨t,rfl,_⟩:=h
  rfl
 let⟨t,rfl,pt,q⟩:=h;show⟨_,(A4 (Aq (PW.pt (Cj (BQ (BN (D0 rfl ai rfl cU JF (A0 0)))) (DG (BQ (Na FQ FQ A7 (Aw US rfl aB BF (A3 (A0 0) A6)) (E5 rfl iC sY)))))) (A4 (AK BL)
  A8) A8)
  (A4 (AK (Aw (FI rfl) rfl bu FN (A3 (Dl (own:=["sign"]) (cap:=[]) Ec rfl (UM (A0 0)) (λ_ _ _ _=>GQ) (λ_ _ _ _=>Di) (λ_ _ _ _=>(HA rJ (A0 0) (E5 rfl pC B8) (by with_unfolding_all rfl)))) A6)))
  A8)),?_⟩
 simp only[As];left;show Et (in_str pt) ?_;exists c
 ·left
  show AD .refl ?_;cases t with
  |str z=>cases c
  |_=>show q
 let⟨z,rfl⟩:=N2 (t:=t) (by cases h:isStr t with|true=>rfl|false=>rw[h]at c;cases c);let zl:=pt.txt;left;show⟨z,rfl,D6 zl (by decide),?_⟩;left;let no:EW (.str z)=false→EL Z (.bl false) Γ:=λh=>by rw[h]at q;show AD .refl q
 show AU (λc1=>?_) (λc1=>?_);rotate_left
 ·let c1:=F7 c1
  left;show no ?_;rw[Ni,Ck (show ¬1≤z.length by lia)];rfl
 let c1:=DN c1;exists c2
 ·let c2:¬(z.length:Int)≤8:=by simpa using c2
  left;show no ?_;rw[Ni,Ck (show ¬z.length≤8 by lia),Jc];rfl
 let c2:(z.length:Int)≤8:=by simpa using c2
 left;show⟨Cv (D3 (by unfold J9;rw[AF,GR];lia)),?_⟩;show⟨λv6 τ ys Γ'=>∃(cs ds:List Nat) (o:Option T),v6=cs.map (λc=>T.str ⟨#[c]⟩)∧z.cps.toList=ds++cs∧τ=[o]∧ys=(ds.map Ko).map T.bl∧Γ'=Γ,Ps3 z.cps.toList [] none ⟨rfl,rfl,rfl,rfl,rfl⟩,?_,?_⟩
 ·intro τ ys Γ'⟨cs,ds,o,er,ez,rfl,rfl,rfl⟩
  let hz:cs=[]:=by
   cases cs with
   |nil=>rfl
   |cons _ _=>cases er
  subst hz;rw[BX]at ez;subst ez;show⟨trivial,?_⟩;clear p1 cS e1 Γ1 g1 l1
  left;show Ps2 p1 _ ⟨rfl,BD g1,?_⟩;have:(z.cps.toList.map Ko).all id=EW (.str z):=by
   rw[Ni,BU (show 1≤z.length by lia),BU (show z.length≤8 by lia),FT];rfl
  rw[this];show AD l1 q
 ·intro x r τ ys Γ'⟨cs,ds,o,er,ez,rfl,rfl,rfl⟩
  cases cs with
  |nil=>cases er
  |cons c cs=>
   cases er;show⟨trivial,?_⟩;left;show Ps2 _ _ ⟨rfl,rfl,?_⟩;show Ps3 cs (ds++[c]) _ ⟨rfl,by rw[ez];simp,rfl,by rw[AZ,AZ];rfl,rfl⟩
noncomputable abbrev OJ:Stmt:=B6 15
def qt:Av ["thing","depth"] ["thing","depth"] (Ag OJ):=nofun
abbrev Tu(n:Nat):Ay:=λts Γ Z _=>∃(t:T) (d:Nat),ts=[t,.int d]∧d<n∧Pt Γ t∧Z (.bl (Fx (Bg d) t)) Γ
abbrev Lb(n:Nat):Ay:=λts Γ Z _=>∃(t:T) (d:Nat),ts=[t,.int d]∧d<n∧Pt Γ t∧Z (.bl (Bg d t)) Γ
def rN{f:T→Bool}(h:ts.length≠2):Fx f (.tup ts)=false:=by
 unfold Fx;split
 ·rename_i e;cases e;show absurd rfl h
 ·rfl
def wL(F:cT K "is_field" "is_field" OJ f fd)(cC:Ae P w K mg bi "is_name" 1 ["thing"] IY)(du:Ae P w K mg bi "is_kind_within" (lv+1) ["thing","depth"] (Lb n))(ai:mg "isinstance" = none)(aE:mg "tuple" = none)(aB:mg "len" = none):bj P w K mg bi Ao (lv+2) f fd ["thing","depth"] (Am (Tu n)):=by
 show B5 F qt (λts Γ Z Y h=>?_) (λcq A outer s H E ts Γ Z Y hr h=>?_)
 ·let⟨t,d,rfl,_⟩:=h
  rfl
 let⟨t,d,rfl,dn,pt,q⟩:=h;show⟨_,(A4 (Aq (PW.pt (Cj (BQ (BN (D0 rfl ai rfl aE E9 (A0 0)))) (DG (BB Ee (Aw Bi rfl aB BF (A3 (A0 0) A6)) A7)))) (A4 (AK BL)
  A8) A8)
  (A4 (AK (CK (Al cC hr (A3 (AJ (A0 0) A7) A6)) (CP (Al du hr (A3 (AJ (A0 0) A7) (A3 (A0 1) A6))))))
  A8)),?_⟩
 simp only[As];left;show Et (IS pt) ?_;exists c
 ·left
  show AD .refl ?_;cases t with
  |tup ts=>cases c
  |_=>show q
 let⟨ts,rfl⟩:=Ht (t:=t) (by cases h:isTup t with|true=>rfl|false=>rw[h]at c;cases c);let⟨tl,tm⟩:=pt.items;exists c1
 ·let c1:ts.length≠2:=λe=>by rw[e]at c1;revert c1;decide
  left;rw[rN c1]at q;show AD .refl q
 let c1:ts.length=2:=by
  have:decide (V.int (ts.length:Int)=V.int 2)=true:=by simpa using c1
  have:=Gu this;lia
 match ts,c1 with
 |[a,b],_=>
  left;show⟨a,rfl,tm a (by simp),?_⟩;left;let q:Z (.bl (EW a&&Bg d b)) Γ:=q;show AU (λc2=>?_) (λc2=>?_)
  ·rw[c2,Bc]at q
   left;show Ps2 b d ⟨rfl,dn,tm b (by simp),AD .refl q⟩
  ·rw[c2,Dj]at q
   show AD .refl q
noncomputable abbrev PV:Stmt:=B6 14
def aa5:Av ["thing","depth"] ["thing","depth"] (Ag PV):=nofun
abbrev Xg(n:Nat):Ay:=λts Γ Z _=>∃(t:T) (d:Nat),ts=[t,.int d]∧d<n∧Pt Γ t∧Z (.bl (M6 (Bg d) t)) Γ
def LW(f:T→Bool)(ts:List T):M6 f (.tup ts)=(decide (1≤ts.length)&&decide (ts.length≤6)&&ts.all (Fx f)&&decide (ts.map HH).Nodup):=rfl
def pF(F:cT K "are_fields" "are_fields" PV f fd)(dF:mg "MOST_FIELDS" = some v1)(gH:DI v1 (.int 6))(Ad:Ae P w K mg bi "is_field" (lv+2) ["thing","depth"] (Tu n))(ai:mg "isinstance" = none)(aE:mg "tuple" = none)(aB:mg "len" = none)(bu:mg "all" = none):bj P w K mg bi Ao (lv+3) f fd ["thing","depth"] (Am (Xg n)):=by
 show B5 F aa5 (λts Γ Z Y h=>?_) (λcq A outer s H E ts Γ Z Y hr h=>?_)
 ·let⟨t,d,rfl,_⟩:=h
  rfl
 let⟨t,d,rfl,dn,pt,q⟩:=h;show⟨_,(A4 (Aq (PW.pt (Cj (BQ (BN (D0 rfl ai rfl aE E9 (A0 0)))) (DG (BQ (Na FQ FQ A7 (Aw Bi rfl aB BF (A3 (A0 0) A6)) (E5 rfl dF gH)))))) (A4 (AK BL)
  A8) A8)
  (A4 (Aq (BQ (BN (Aw (FI rfl) rfl bu FN (A3 (Dl (own:=["field"]) (cap:=[(1,"depth")]) (Fp rfl (by done) (by done) rfl (⟨rfl,trivial⟩) rfl (⟨⟨rfl,rfl,rfl⟩,trivial⟩)) rfl (DX (A0 0)) (λ_ _ _ _=>(Ba (i:=0) (show List.Nodup (["field","depth"]:List Str)from by done) rfl (Or.inl rfl) (Or.inr rfl))) (λ_ _ _ _=>Di) (λ_ _ _ _=>(Al Ad hr (A3 (A0 0) (A3 (A0 1) A6))))) A6)))) (A4 (AK BL)
  A8) A8)
  (A4 (AK (DZ CO (Aw UP rfl aB BF (A3 (kW (own:=["name","inner"]) (cap:=[]) Ec rfl (DX (A0 0)) (λ_ _ _ _=>(C0 (n:=2) rfl (AS (Ba (i:=0) (show List.Nodup (["name","inner"]:List Str)from by done) rfl (Or.inl rfl) (Or.inr rfl)) (AS (Ba (i:=1) (show List.Nodup (["name","inner"]:List Str)from by done) rfl (Or.inl rfl) (Or.inr rfl)) Bw)))) (λ_ _ _ _=>(A0 0))) A6)) (Aw Bi rfl aB BF (A3 (A0 0) A6))))
  A8))),?_⟩
 simp only[As];left;show Et (IS pt) ?_;exists c
 ·left
  show AD .refl ?_;cases t with
  |tup ts=>cases c
  |_=>show q
 let⟨ts,rfl⟩:=Ht (t:=t) (by cases h:isTup t with|true=>rfl|false=>rw[h]at c;cases c);let⟨tl,tm⟩:=pt.items;let no:M6 (Bg d) (.tup ts)=false→EL Z (.bl false) Γ:=λh=>by rw[h]at q;show AD .refl q
 exists c1;rotate_left
 ·let c1:=F7 c1
  left;show no ?_;rw[LW,Ck (show ¬1≤ts.length by lia)];rfl
 let c1:=DN c1;exists c2
 ·let c2:¬(ts.length:Int)≤6:=by simpa using c2
  left;show no ?_;rw[LW,Ck (show ¬ts.length≤6 by lia),Jc];rfl
 let c2:(ts.length:Int)≤6:=by simpa using c2
 rw[LW,BU (show 1≤ts.length by lia),BU (show ts.length≤6 by lia),Bc,Bc]at q;clear no;left;show⟨Cv (D3 (by lia)),?_⟩;show⟨λv6 τ ys Γ'=>∃(ds:List T) (o:Option T),ts=ds++v6∧τ=[o,some (.int d)]∧ys=(ds.map (Fx (Bg d))).map T.bl∧Γ'=Γ,Ps2 [] none ⟨rfl,rfl,rfl,rfl⟩,?_,?_⟩;rotate_left
 ·intro x r τ ys Γ'⟨ds,o,ez,rfl,rfl,rfl⟩
  show⟨trivial,?_⟩;left;show Ps2 x d ⟨rfl,dn,tm x (by rw[ez];simp),?_⟩;show Ps2 (ds++[x]) _ ⟨by rw[ez];simp,rfl,by rw[AZ,AZ];rfl,rfl⟩
 intro τ ys Γ'⟨ds,o,ez,rfl,rfl,rfl⟩;rw[BX]at ez;subst ez;show⟨trivial,?_⟩;clear p1 cS e1 Γ1 g1 l1
 left;show Ps2 p1 _ ⟨rfl,BD g1,?_⟩;rw[show(ts.map (Fx (Bg d))).all id=ts.all (Fx (Bg d))by rw[FT];rfl];exists c3
 ·let c3:ts.all (Fx (Bg d))=false:=by simpa using c3
  left;rw[c3,Dj]at q;show AD l1 q
 let c3:ts.all (Fx (Bg d))=true:=by simpa using c3
 rw[c3,Bc]at q;let all:=aaR.mp c3;left;unfold QT;left;show⟨by lia,?_⟩;show⟨λv6 τ ys Γ'=>∃(ds:List T) (o0 o1:Option T),ts=ds++v6∧τ=[o0,o1]∧ys=ds.map HH∧Γ'=Γ1,Ps3 [] none none ⟨rfl,rfl,rfl,rfl⟩,?_,?_⟩;rotate_left
 ·intro x r τ ys Γ'⟨ds,o0,o1,ez,rfl,rfl,rfl⟩
  let⟨z,b,rfl,_,_⟩:=zb (all x (by rw[ez];simp));show⟨trivial,?_⟩;left;show Ps3 (ds++[.tup [.str z,b]]) _ _ ⟨by rw[ez];simp,rfl,by rw[AZ];rfl,rfl⟩
 intro τ ys Γ'⟨ds,o0,o1,ez,rfl,rfl,rfl⟩;rw[BX]at ez;subst ez;show⟨trivial,λD S n on hD=>?_⟩;left;show Ps3 D S n ⟨rfl,Au,?_⟩;left;have:decide (V.int (n:Int)=V.int (ts.length:Nat))=decide (ts.map HH).Nodup:=by
  let e:(V.int (n:Int)=V.int (ts.length:Nat)) ↔(ts.map HH).Nodup:=by
   rcases on.2 with⟨a,b⟩|⟨a,b⟩
   ·rw[AF]at b
    show⟨λ_=>a,λ_=>by rw[b]⟩
   ·rw[AF]at b
    show⟨λh=>by have:=V.int.inj h;lia,λh=>absurd h a⟩
  show abd.mpr e
 rw[this];show AD (l1.trans (.new hD)) q
noncomputable abbrev Ng:Stmt:=B6 13
def fv:Av ["thing","depth","head","inner"] ["thing","depth"] (Ag Ng):=nofun
def pD(n:Nat):Dk (.int (n:Int)) [.int 1,.int 2]=(decide (n=1)||decide (n=2)):=by
 rw[abo];simp[Dk,Ea];lia
def aan(z:Str):Dk (.str z) [.str "rec",.str "pick"]=(decide (z = "rec")||decide (z = "pick")):=by
 rw[show [V.str "rec",V.str "pick"]=(["rec","pick"]:List Str).map V.str from rfl,IW,abo];simp
def wz(h:ts.length≠1)(h':ts.length≠2):Bg d (.tup ts)=false:=by
 unfold Bg;split
 ·rename_i e;cases e;show absurd rfl h
 ·rename_i e;cases e;show absurd rfl h'
 ·rfl
def zV(h:isStr t=false):Bg d (.tup (t::ts))=false:=by
 unfold Bg;split
 ·rename_i e;cases e;cases h
 ·rename_i e;cases e;cases h
 ·rfl
def aax(h:isTup t=false):Bg d t=false:=by
 unfold Bg;split
 ·cases h
 ·cases h
 ·rfl
def iX(d:Nat)(h:Str):Bg (d+1) (.tup [.str h])=decide (h = "text"):=by rw[Bg]
def N6(d:Nat)(h:Str)(x:T):Bg (d+1) (.tup [.str h,x])=if h = "num" then Qu x else if h = "row" then Bg d x else(decide (h = "rec")||decide (h = "pick"))&&M6 (Bg d) x:=by rw[Bg]
def w6(F:cT K "is_kind_within" "is_kind_within" Ng f fd)(eF:mg "WIDEST_NUM" = some v1)(hZ:DI v1 (.int 4))(bY:Ae P w K mg bi "is_whole" 1 ["thing"] IQ)(du:Ae P w K mg bi "is_kind_within" (lv+1) ["thing","depth"] (Lb n))(wu:Ae P w K mg bi "are_fields" (lv+3) ["thing","depth"] (Xg n))(ai:mg "isinstance" = none)(aE:mg "tuple" = none)(cU:mg "str" = none)(aB:mg "len" = none):bj P w K mg bi Ao (lv+4) f fd ["thing","depth"] (Am (Lb (n+1))):=by
 show B5 F fv (λts Γ Z Y h=>?_) (λcq A outer s H E ts Γ Z Y hr h=>?_)
 ·let⟨t,d,rfl,_⟩:=h
  rfl
 let⟨t,d,rfl,dn,pt,q⟩:=h;show⟨_,(A4 (Aq (PW.pt (Cj (BB K9 (A0 1) A7) (Cj (BQ (BN (D0 rfl ai rfl aE E9 (A0 0)))) (DG (K3 Ov (Aw Bi rfl aB BF (A3 (A0 0) A6)) (BC (A3 A7 (A3 A7 A6))) (by with_unfolding_all rfl)))))) (A4 (AK BL)
  A8) A8)
  (A4 (An (i:=2) fv.nd (AJ (A0 0) A7))
  (A4 (Aq (BQ (BN (D0 rfl ai rfl cU JF (A0 2)))) (A4 (AK BL)
  A8) A8)
  (A4 (Aq (BB CO (Aw Bi rfl aB BF (A3 (A0 0) A6)) A7) (A4 (AK (DZ CO (A0 2) Ax))
  A8) A8)
  (A4 (An (i:=3) fv.nd (AJ (A0 0) A7))
  (A4 (Aq (BB CO (A0 2) Ax) (A4 (AK (CK (Al bY hr (A3 (A0 3) A6)) (CP (MV FQ FQ A7 (A0 3) (E5 rfl eF hZ)))))
  A8) A8)
  (A4 (Aq (BB CO (A0 2) Ax) (A4 (AK (Al du hr (A3 (A0 3) (A3 (AH L8 (A0 1) A7) A6))))
  A8) A8)
  (A4 (AK (CK (HA RN (A0 2) (BC (A3 Ax (A3 Ax A6))) (by with_unfolding_all rfl)) (CP (Al wu hr (A3 (A0 3) (A3 (AH L8 (A0 1) A7) A6))))))
  A8)))))))),?_⟩
 simp only[As];let no:Bg d t=false→EL Z (.bl false) Γ:=λh=>by rw[h]at q;show AD .refl q
 exists c
 ·let c:=DN c
  have:d=0:=by lia
  subst this;left;show no (by unfold Bg;rfl)
 let c:=F7 c;obtain⟨d,rfl⟩:∃e,d=e+1:=⟨d-1,by lia⟩;left;show Et (IS pt) ?_;exists c
 ·left
  show no (aax (by simpa using c))
 let⟨ts,rfl⟩:=Ht (t:=t) (by simpa using c);let⟨tl,tm⟩:=pt.items;left;show if(!Dk (.int (ts.length:Int)) [.int 1,.int 2])=true then _ else _
 rw[pD];show AU (λc1=>?_) (λc1=>?_)
 ·left
  let c1:ts.length≠1∧ts.length≠2:=by simpa using c1
  show no (wz c1.1 c1.2)
 let c1:ts.length=1∨ts.length=2:=by
  have:¬ts.length=1→ts.length=2:=by simpa using c1
  lia
 obtain⟨h,ys,rfl⟩:∃h ys,ts=h::ys:=by
  cases ts with
  |nil=>show absurd c1 (by simp)
  |cons h ys=>show Ps2 h ys rfl
 left;show Et (in_str (tm h (by simp))) ?_;exists c2
 ·left
  show no (zV (by simpa using c2))
 let⟨z,rfl⟩:=N2 (t:=h) (by simpa using c2);clear no;left;match ys,c1 with
 |[],_=>
  left;rw[iX]at q;let e:decide (V.str z=V.str "text")=decide (z = "text"):=abd.mpr ⟨V.str.inj,λe=>by rw[e]⟩;rw[e];show AD .refl q
 |[x],_=>
  let px:=tm x (by simp);rw[N6]at q;exists c3
  ·rw[AO (O3 c3)]at q
   left;show⟨x,rfl,px,?_⟩;exists c4
   ·let⟨i,rfl⟩:=U2 c4
    left;let q:Z (.bl (decide (1≤i)&&decide (i≤4))) Γ:=q;show AU (λc5=>?_) (λc5=>?_)
    ·rw[c5,Bc]at q
     left;show AD .refl q
    ·rw[c5,Dj]at q
     show AD .refl q
   ·have:Qu x=false:=by
     cases x with
     |int i=>cases c4
     |_=>rfl
    rw[this]at q;show AD .refl q
  rw[AL (Oq c3)]at q;exists c4
  ·rw[AO (O3 c4)]at q
   left;show Ps2 x d ⟨by rw[show((d+1:Nat):Int)-1=(d:Int)by lia],by lia,px,AD .refl q⟩
  rw[AL (Oq c4)]at q;left;show if Dk (.str z) [.str "rec",.str "pick"]=true then _ else _
  rw[aan];show AU (λc5=>?_) (λc5=>?_)
  ·rw[c5,Bc]at q
   left;show Ps2 x d ⟨by rw[show((d+1:Nat):Int)-1=(d:Int)by lia],by lia,px,AD .refl q⟩
  ·rw[c5,Dj]at q
   show AD .refl q
noncomputable abbrev Vc:Stmt:=B6 12
def ug:Av ["thing"] ["thing"] (Ag Vc):=nofun
abbrev LN:Ay:=λts Γ Z _=>∃t:T,ts=[t]∧Pt Γ t∧Z (.bl (Bg 5 t)) Γ
def acE(F:cT K "is_kind" "is_kind" Vc f fd)(iD:mg "DEEPEST_KIND" = some v1)(sZ:DI v1 (.int 5))(du:Ae P w K mg bi "is_kind_within" 19 ["thing","depth"] (Lb 6)):bj P w K mg bi Ao 20 f fd ["thing"] (Am LN):=by
 show B5 F ug (λts Γ Z Y h=>?_) (λcq A outer s H E ts Γ Z Y hr h=>?_)
 ·let⟨t,rfl,_⟩:=h
  rfl
 let⟨t,rfl,pt,q⟩:=h;show⟨_,(A4 (AK (Al du hr (A3 (A0 0) (A3 (E5 rfl iD sZ) A6))))
  A8),?_⟩
 simp only[As];left;show Ps2 t 5 ⟨rfl,by decide,pt,AD .refl q⟩
end
noncomputable abbrev iq:List Str:=["copy","give","lend","lease"]
abbrev IT:T→Bool
 |.int i=>decide (i=0)||decide (i=1)
 |_=>false
abbrev Sv:T→Bool
 |.str z=>decide (z∈iq)
 |_=>false
abbrev GV:T→Bool
 |.tup [a,b,c]=>EW a&&(Sv b&&Bg 5 c)
 |_=>false
abbrev JL:T→Bool
 |.tup ts=>ts.all GV&&decide (ts.map HH).Nodup
 |_=>false
abbrev L6:T→Bool
 |.non=>true
 |t=>Bg 5 t
abbrev OH:T→Bool
 |.tup [a,b,c,d]=>EW a&&(IT b&&(JL c&&L6 d))
 |_=>false
def uf(h:ts.length≠3):GV (.tup ts)=false:=by
 unfold GV;split
 ·rename_i e;cases e;show absurd rfl h
 ·rfl
def yK(h:ts.length≠4):OH (.tup ts)=false:=by
 unfold OH;split
 ·rename_i e;cases e;show absurd rfl h
 ·rfl
def yQ(h:GV t=true):∃z b c,t=.tup [.str z,b,c]:=by
 unfold GV at h;split at h
 ·rename_i a b c
  rw[EJ]at h;let⟨z,rfl⟩:=fO h.1;show Ps3 z b c rfl
 ·cases h
def gU(ts:List T):JL (.tup ts)=(ts.all GV&&decide (ts.map HH).Nodup):=rfl
def nO(i:Int):Dk (.int i) [.int 0,.int 1]=IT (.int i):=by
 show _=(decide (i=0)||decide (i=1))
 rw[abo];simp[Dk,Ea];lia
section
variable {K: W.Frag}{aS aW: Addr}
noncomputable abbrev UR:Stmt:=B6 35
def aah:Av ["thing"] ["thing"] (Ag UR):=nofun
abbrev UL:Ay:=λts Γ Z _=>∃t:T,ts=[t]∧Pt Γ t∧Z (.bl (IT t)) Γ
def xD(F:cT K "is_side" "is_side" UR f fd)(bY:Ae P w K mg bi "is_whole" 1 ["thing"] IQ)(vK:mg "SIDES" = some (.ref aS))(vM:eN K aS [.int 0,.int 1]):bj P w K mg bi Ao 2 f fd ["thing"] (Am UL):=by
 let Iz:DI (.ref aS) (.ref aS):=Kv;show B5 F aah (λts Γ Z Y h=>?_) (λcq A outer s H E ts Γ Z Y hr h=>?_)
 ·let⟨t,rfl,_⟩:=h
  rfl
 let⟨t,rfl,pt,q⟩:=h;show⟨_,(A4 (AK (CK (Al bY hr (A3 (A0 0) A6)) (CP (HA (fI vM rfl) (A0 0) (E5 rfl vK Iz) (by with_unfolding_all rfl)))))
  A8),?_⟩
 simp only[As];left;show⟨t,rfl,pt,?_⟩;exists c
 ·let⟨i,rfl⟩:=U2 c
  left;show⟨_,rfl,rfl,rfl,?_⟩;rw[nO];show AD .refl q
 ·have:IT t=false:=by
   cases t with
   |int i=>cases c
   |_=>rfl
  rw[this]at q;show AD .refl q
noncomputable abbrev Sn:Stmt:=B6 37
def iO:Av ["thing","name","way","kind"] ["thing"] (Ag Sn):=nofun
abbrev kh:Ay:=λts Γ Z _=>∃t:T,ts=[t]∧Pt Γ t∧Z (.bl (GV t)) Γ
def tI(F:cT K "is_place" "is_place" Sn f fd)(cC:Ae P w K mg bi "is_name" 1 ["thing"] IY)(dH:Ae P w K mg bi "is_kind" 20 ["thing"] LN)(zu:mg "WAYS" = some (.ref aW))(zC:eN K aW (iq.map V.str))(ai:mg "isinstance" = none)(aE:mg "tuple" = none)(cU:mg "str" = none)(aB:mg "len" = none):bj P w K mg bi Ao 21 f fd ["thing"] (Am kh):=by
 let MO:DI (.ref aW) (.ref aW):=Kv;show B5 F iO (λts Γ Z Y h=>?_) (λcq A outer s H E ts Γ Z Y hr h=>?_)
 ·let⟨t,rfl,_⟩:=h
  rfl
 let⟨t,rfl,pt,q⟩:=h;show⟨_,(A4 (Aq (PW.pt (Cj (BQ (BN (D0 rfl ai rfl aE E9 (A0 0)))) (DG (BB Ee (Aw Bi rfl aB BF (A3 (A0 0) A6)) A7)))) (A4 (AK BL)
  A8) A8)
  (A4 (E2 (A0 0) (C0 (n:=3) rfl (AS (Aj (i:=1) iO.nd) (AS (Aj (i:=2) iO.nd) (AS (Aj (i:=3) iO.nd) Bw)))))
  (A4 (AK (CK (Al cC hr (A3 (A0 1) A6)) (CK (D0 rfl ai rfl cU JF (A0 2)) (CK (HA (fI zC rfl) (A0 2) (E5 rfl zu MO) (by with_unfolding_all rfl)) (CP (Al dH hr (A3 (A0 3) A6)))))))
  A8))),?_⟩
 simp only[As];left;show Et (IS pt) ?_;exists c
 ·left
  show AD .refl ?_;cases t with
  |tup ts=>cases c
  |_=>show q
 let⟨ts,rfl⟩:=Ht (t:=t) (by simpa using c);let⟨tl,tm⟩:=pt.items;exists c1
 ·let c1:ts.length≠3:=λe=>by rw[e]at c1;revert c1;decide
  left;rw[uf c1]at q;show AD .refl q
 let c1:ts.length=3:=by
  have:decide (V.int (ts.length:Int)=V.int 3)=true:=by simpa using c1
  have:=Gu this;lia
 match ts,c1 with
 |[a,b,c],_=>
  let q:Z (.bl (EW a&&(Sv b&&Bg 5 c))) Γ:=q;left;show⟨a,rfl,tm a (by simp),?_⟩;exists c2;rotate_left
  ·rw[c2,Dj]at q
   show AD .refl q
  rw[c2,Bc]at q;left;show Et (in_str (tm b (by simp))) ?_;exists c3;rotate_left
  ·have:Sv b=false:=by
    cases b with
    |str z=>cases c3
    |_=>rfl
   rw[this,Dj]at q;show AD .refl q
  let⟨z,rfl⟩:=N2 c3;left;show⟨.str z,rfl,rfl,rfl,?_⟩;rw[IW];let q:Z (.bl (decide (z∈iq)&&Bg 5 c)) Γ:=q;exists c4;rotate_left
  ·rw[c4,Dj]at q
   show AD .refl q
  rw[c4,Bc]at q;left;show⟨c,rfl,tm c (by simp),AD .refl q⟩
noncomputable abbrev Ts:Stmt:=B6 36
def yX:Av ["thing"] ["thing"] (Ag Ts):=nofun
abbrev fo:Ay:=λts Γ Z _=>∃t:T,ts=[t]∧Pt Γ t∧(∀us,t=.tup us→us.length≤999)∧Z (.bl (JL t)) Γ
def tG(F:cT K "are_places" "are_places" Ts f fd)(Ab:Ae P w K mg bi "is_place" 21 ["thing"] kh)(ai:mg "isinstance" = none)(aE:mg "tuple" = none)(aB:mg "len" = none)(bu:mg "all" = none):bj P w K mg bi Ao 22 f fd ["thing"] (Am fo):=by
 show B5 F yX (λts Γ Z Y h=>?_) (λcq A outer s H E ts Γ Z Y hr h=>?_)
 ·let⟨t,rfl,_⟩:=h
  rfl
 let⟨t,rfl,pt,hl,q⟩:=h;show⟨_,(A4 (Aq (PW.pt (Cj (BQ (BN (D0 rfl ai rfl aE E9 (A0 0)))) (DG (BQ (BN (Aw (FI rfl) rfl bu FN (A3 (Dl (own:=["place"]) (cap:=[]) Ec rfl (DX (A0 0)) (λ_ _ _ _=>GQ) (λ_ _ _ _=>Di) (λ_ _ _ _=>(Al Ab hr (A3 (A0 0) A6)))) A6))))))) (A4 (AK BL)
  A8) A8)
  (A4 (AK (DZ CO (Aw UP rfl aB BF (A3 (kW (own:=["name","way","kind"]) (cap:=[]) Ec rfl (DX (A0 0)) (λ_ _ _ _=>(C0 (n:=3) rfl (AS (Ba (i:=0) (show List.Nodup (["name","way","kind"]:List Str)from by done) rfl (Or.inl rfl) (Or.inr rfl)) (AS (Ba (i:=1) (show List.Nodup (["name","way","kind"]:List Str)from by done) rfl (Or.inl rfl) (Or.inr rfl)) (AS (Ba (i:=2) (show List.Nodup (["name","way","kind"]:List Str)from by done) rfl (Or.inl rfl) (Or.inr rfl)) Bw))))) (λ_ _ _ _=>(A0 0))) A6)) (Aw Bi rfl aB BF (A3 (A0 0) A6))))
  A8)),?_⟩
 simp only[As];left;show Et (IS pt) ?_;exists c
 ·left
  show AD .refl ?_;cases t with
  |tup ts=>cases c
  |_=>show q
 let⟨ts,rfl⟩:=Ht (t:=t) (by simpa using c);let⟨_,tm⟩:=pt.items;let tl:=hl ts rfl;rw[gU]at q;left;show⟨Cv (D3 (by lia)),?_⟩;show⟨λv6 τ ys Γ'=>∃(ds:List T) (o:Option T),ts=ds++v6∧τ=[o]∧ys=(ds.map GV).map T.bl∧Γ'=Γ,Ps2 [] none ⟨rfl,rfl,rfl,rfl⟩,?_,?_⟩;rotate_left
 ·intro x r τ ys Γ'⟨ds,o,ez,rfl,rfl,rfl⟩
  show⟨trivial,?_⟩;left;show⟨x,rfl,tm x (by rw[ez];simp),?_⟩;show Ps2 (ds++[x]) _ ⟨by rw[ez];simp,rfl,by rw[AZ,AZ];rfl,rfl⟩
 intro τ ys Γ'⟨ds,o,ez,rfl,rfl,rfl⟩;rw[BX]at ez;subst ez;show⟨trivial,?_⟩;clear p1 cS e1 Γ1 g1 l1
 left;show Ps2 p1 _ ⟨rfl,BD g1,?_⟩;rw[show(ts.map GV).all id=ts.all GV by rw[FT];rfl];exists c3
 ·let c3:ts.all GV=false:=by simpa using c3
  left;rw[c3,Dj]at q;show AD l1 q
 let c3:ts.all GV=true:=by simpa using c3
 rw[c3,Bc]at q;let all:=aaR.mp c3;left;unfold QT;left;show⟨by lia,?_⟩;show⟨λv6 τ ys Γ'=>∃(ds:List T) (o0 o1 o2:Option T),ts=ds++v6∧τ=[o0,o1,o2]∧ys=ds.map HH∧Γ'=Γ1,Ps4 [] none none none ⟨rfl,rfl,rfl,rfl⟩,?_,?_⟩;rotate_left
 ·intro x r τ ys Γ'⟨ds,o0,o1,o2,ez,rfl,rfl,rfl⟩
  let⟨z,b,c,rfl⟩:=yQ (all x (by rw[ez];simp));show⟨trivial,?_⟩;left;show Ps4 (ds++[.tup [.str z,b,c]]) _ _ _ ⟨by rw[ez];simp,rfl,by rw[AZ];rfl,rfl⟩
 intro τ ys Γ'⟨ds,o0,o1,o2,ez,rfl,rfl,rfl⟩;rw[BX]at ez;subst ez;show⟨trivial,λD S n on hD=>?_⟩;left;show Ps3 D S n ⟨rfl,Au,?_⟩;left;have:decide (V.int (n:Int)=V.int (ts.length:Nat))=decide (ts.map HH).Nodup:=by
  let e:(V.int (n:Int)=V.int (ts.length:Nat)) ↔(ts.map HH).Nodup:=by
   rcases on.2 with⟨a,b⟩|⟨a,b⟩
   ·rw[AF]at b
    show⟨λ_=>a,λ_=>by rw[b]⟩
   ·rw[AF]at b
    show⟨λh=>by have:=V.int.inj h;lia,λh=>absurd h a⟩
  show abd.mpr e
 rw[this];show AD (l1.trans (.new hD)) q
noncomputable abbrev U5:Stmt:=B6 34
def gM:Av ["thing","name","side","places","result"] ["thing"] (Ag U5):=nofun
abbrev dv:Ay:=λts Γ Z _=>∃t:T,ts=[t]∧Pt Γ t∧(∀x y us d,t=.tup [x,y,.tup us,d]→us.length≤999)∧Z (.bl (OH t)) Γ
def wC(F:cT K "is_paper" "is_paper" U5 f fd)(cC:Ae P w K mg bi "is_name" 1 ["thing"] IY)(pP:Ae P w K mg bi "is_side" 2 ["thing"] UL)(wq:Ae P w K mg bi "are_places" 22 ["thing"] fo)(dH:Ae P w K mg bi "is_kind" 20 ["thing"] LN)(ai:mg "isinstance" = none)(aE:mg "tuple" = none)(aB:mg "len" = none):bj P w K mg bi Ao 23 f fd ["thing"] (Am dv):=by
 show B5 F gM (λts Γ Z Y h=>?_) (λcq A outer s H E ts Γ Z Y hr h=>?_)
 ·let⟨t,rfl,_⟩:=h
  rfl
 let⟨t,rfl,pt,hl,q⟩:=h;show⟨_,(A4 (Aq (PW.pt (Cj (BQ (BN (D0 rfl ai rfl aE E9 (A0 0)))) (DG (BB Ee (Aw Bi rfl aB BF (A3 (A0 0) A6)) A7)))) (A4 (AK BL)
  A8) A8)
  (A4 (E2 (A0 0) (C0 (n:=4) rfl (AS (Aj (i:=1) gM.nd) (AS (Aj (i:=2) gM.nd) (AS (Aj (i:=3) gM.nd) (AS (Aj (i:=4) gM.nd) Bw))))))
  (A4 (Aq (PW.pt (Cj (BQ (BN (Al cC hr (A3 (A0 1) A6)))) (Cj (BQ (BN (Al pP hr (A3 (A0 2) A6)))) (DG (BQ (BN (Al wq hr (A3 (A0 3) A6)))))))) (A4 (AK BL)
  A8) A8)
  (A4 (AK (LO (DZ MY (A0 4) GF) (CP (Al dH hr (A3 (A0 4) A6)))))
  A8)))),?_⟩
 simp only[As];left;show Et (IS pt) ?_;exists c
 ·left
  show AD .refl ?_;cases t with
  |tup ts=>cases c
  |_=>show q
 let⟨ts,rfl⟩:=Ht (t:=t) (by simpa using c);let⟨tl,tm⟩:=pt.items;exists c1
 ·let c1:ts.length≠4:=λe=>by rw[e]at c1;revert c1;decide
  left;rw[yK c1]at q;show AD .refl q
 let c1:ts.length=4:=by
  have:decide (V.int (ts.length:Int)=V.int 4)=true:=by simpa using c1
  have:=Gu this;lia
 match ts,c1 with
 |[a,b,c,d],_=>
  let q:Z (.bl (EW a&&(IT b&&(JL c&&L6 d)))) Γ:=q;left;show⟨a,rfl,tm a (by simp),?_⟩;exists c2
  ·left
   rw[show EW a=false by simpa using c2,Dj]at q;show AD .refl q
  rw[show EW a=true by simpa using c2,Bc]at q;left;show⟨b,rfl,tm b (by simp),?_⟩;exists c3
  ·left
   rw[show IT b=false by simpa using c3,Dj]at q;show AD .refl q
  rw[show IT b=true by simpa using c3,Bc]at q;left;show⟨c,rfl,tm c (by simp),λus e=>hl a b us d (by rw[e]),?_⟩;exists c4
  ·left
   rw[show JL c=false by simpa using c4,Dj]at q;show AD .refl q
  rw[show JL c=true by simpa using c4,Bc]at q;exists c5
  ·have:d=.non:=by
    cases d with
    |non=>rfl
    |_=>cases c5
   rw[this]at q;show AD .refl q
  ·have:L6 d=Bg 5 d:=by
    cases d with
    |non=>cases c5
    |_=>rfl
   rw[this]at q;left;show⟨d,rfl,tm d (by simp),AD .refl q⟩
end
def OZ(h:0≤i):HT.da n d (some i)=min i.toNat n:=by
 show(if i<0 then _ else min i.toNat _)=_
 rw[AL (by lia)]
def Lm{α:Type}{xs:List α}{j:Int}(h:0≤i)(h':0≤j):Cu xs (some i) (some j)=(xs.drop i.toNat).take (j.toNat-i.toNat):=by
 unfold Cu;rw[OZ h,OZ h'];by_cases c:i.toNat≤xs.length
 ·rw[OR c]
  by_cases c2:j.toNat≤xs.length
  ·rw[OR c2]
  ·rw[Nh (by lia),OK (by rw[FG];lia),OK (by rw[FG];lia)]
 ·rw[Nh (show xs.length≤i.toNat by lia),J0,List.drop_of_length_le (by lia),UX,UX]
abbrev GY(n:Int):Nat:=97+(n%26).toNat
abbrev wd(ns:List Int):Str:=S (ns.map GY)
def abf(n:Int):97≤GY n∧GY n≤122:=by
 unfold GY;have:=DM n (by decide:(26:Int)≠0);have:=EH n (by decide:(0:Int)<26);lia
def Nt(ns:List Int):Lets (wd ns):=λc h=>by
 let h:c∈ns.map GY:=by simpa[wd,S]using h
 let⟨n,_,rfl⟩:=aai.mp h;show abf n
def Mc(ns:List Int):(wd ns).length=ns.length:=by unfold wd;rw[yN,AF]
def abr:∀j:Nat,j<26→NQ.cps.toList[j]?=some (97+j):=by done
def rp(h0:0≤r)(h1:r<26):CR NQ.cps.toList r=some (97+r.toNat):=by
 let e:r=((r.toNat:Nat):Int):=by lia
 rw[e];show HS (abr _ (by lia))
def zt(l:List Nat):Ih (l.map λc=>(⟨#[c]⟩:Str))=S l:=by
 unfold Ih S;congr 1
 rw[CU];have:∀l:List Nat,(l.map ((λx:Str=>x.cps.toList) ∘ λc=>(⟨#[c]⟩:Str))).flatten=l:=λl=>by
  induction l with
  |nil=>rfl
  |cons c l ih=>rw[Cq,List.flatten_cons,ih];rfl
 rw[this]
section
variable {K: W.Frag}
noncomputable abbrev WY:Stmt:=B6 72
def abF:Av ["numbers"] ["numbers"] (Ag WY):=nofun
abbrev lJ:Ay:=λts Γ Z _=>∃(a:Addr) (ns:List Int),ts=[.ref a]∧Γ a=some (.lst (ns.map T.int))∧ns.length≤1000∧Z (.str (wd ns)) Γ
def qF(F:cT K "_law_word" "_law_word" WY f fd):bj P w K mg bi Ao 1 f fd ["numbers"] (Am lJ):=by
 show B5 F abF (λts Γ Z Y h=>?_) (λcq A outer s H E ts Γ Z Y hr h=>?_)
 ·let⟨a,ns,rfl,_⟩:=h
  rfl
 let⟨a,ns,rfl,ga,n1,q⟩:=h;show⟨_,(A4 (AK (FF PySem.F.plainAttrs_str PySem.F.slot_str_join PySem.F.type_str_join abj Ax (A3 (Dl (own:=["one"]) (cap:=[]) Ec rfl (Hn (A0 0)) (λ_ _ _ _=>GQ) (λ_ _ _ _=>Di) (λ_ _ _ _=>(xM Ax (AH BH (A0 0) A7)))) A6)))
  A8),?_⟩
 simp only[As];left;show Ps2 a _ ⟨rfl,BD ga,Cv (D3 (by rw[AF];show n1)),?_⟩;show⟨λv6 τ ys Γ'=>∃(ms ks:List Int) (o:Option T),v6=ks.map T.int∧ns=ms++ks∧τ=[o]∧ys=(ms.map GY).map (λc=>T.str ⟨#[c]⟩)∧Γ'=Γ,Ps3 [] ns none ⟨rfl,rfl,rfl,rfl,rfl⟩,?_,?_⟩
 ·intro τ ys Γ'⟨ms,ks,o,er,en,rfl,rfl,rfl⟩
  let hk:ks=[]:=by
   cases ks with
   |nil=>rfl
   |cons _ _=>cases er
  subst hk;rw[BX]at en;subst en;show⟨BD ga,λD hD=>?_⟩;left;show Ps2 D ((ns.map GY).map (λc=>(⟨#[c]⟩:Str))) ⟨rfl,rfl,?_,?_,?_,?_⟩
  ·rw[BD Au,CU,CU,CU];rfl
  ·rw[AF,AF];show n1
  ·intro y hy
   let⟨c,_,rfl⟩:=aai.mp hy;show 1≤1000
   decide
  ·rw[zt]
   show AD (.new hD) q
 ·intro x r τ ys Γ'⟨ms,ks,o,er,en,rfl,rfl,rfl⟩
  cases ks with
  |nil=>cases er
  |cons k ks=>
   cases er;show⟨BD ga,?_⟩;left;let k0:=DM k (by decide:(26:Int)≠0);let k1:=EH k (by decide:(0:Int)<26);show Ps3 _ _ _ ⟨rfl,rfl,by decide,rp k0 k1,?_⟩;show Ps3 (ms++[k]) ks _ ⟨rfl,by rw[en];simp,rfl,?_,rfl⟩;rw[AZ,AZ];rfl
end
def G3{α β:Type}(f:α→β)(xs:List α)(lo hi:Option Int):Cu (xs.map f) lo hi=(Cu xs lo hi).map f:=by
 unfold Cu;rw[AF,M3,Mn]
def Pn{α:Type}{xs:List α}{n:Int}(h:0≤n):Cu xs none (some n)=xs.take n.toNat:=by
 unfold Cu;rw[HT.rR,aT,Nat.sub_zero,OZ h];by_cases c:n.toNat≤xs.length
 ·rw[OR c]
 ·rw[Nh (by lia),Sl,OK (by lia)]
def Mf{α:Type}{xs:List α}(h:0≤i):Cu xs (some i) none=xs.drop i.toNat:=by
 unfold Cu;rw[OZ h,HT.rR];by_cases c:i.toNat≤xs.length
 ·rw[OR c,OK (by rw[FG];lia)]
 ·rw[Nh (by lia),J0,List.drop_of_length_le (by lia),UX]
def bH{α:Type}{xs:List α}{lo hi:Option Int}{x:α}(h:x∈Cu xs lo hi):x∈xs:=Hc (Hi h)
abbrev Cd(z:Str):Prop:=Lets z∧z.length≤8
def Cd.nm(h:Cd z)(n:z ≠ ""):Nm z:=by
 show⟨?_,h.2,h.1⟩;rcases Nat.eq_zero_or_pos z.length with e|e
 ·exfalso
  apply n
  have:z.cps.toList.length=0:=by rw[GR];show e
  let e2:z.cps=#[]:=by
   rw[←Array.toList_inj];show kS this
  obtain⟨c⟩:=z;show Str.mk c=_
  rw[show c=#[]from e2];rfl
 ·show e
noncomputable abbrev HE:List Str:=["num","text","row","rec","pick","none","door","copy","give","lend","lease","new","call"]
def cO:∀z∈HE,Lets z∧z.length≤5:=by
 intro z h;simp only[aaf,DF,Fn]at h;rcases h with rfl|rfl|rfl|rfl|rfl|rfl|rfl|rfl|rfl|rfl|rfl|rfl|rfl<;>show⟨iJ (by done),by done⟩
abbrev Ez(r:Int)(n:Nat):List Str:=(List.range n).map λk:Nat=>wd [r+7*(k:Int)]
def fZ(r:Int)(n:Nat):(Ez r n).length=n:=by unfold Ez;rw[AF,FK]
def fH(h:z∈Ez r n):Cd z∧z ≠ "" := by
 let⟨k,_,rfl⟩:=aai.mp h;show⟨⟨Nt _,by rw[Mc];show(by decide:1≤8)⟩,λe=>?_⟩;have:(wd [r+7*(k:Int)]).length=1:=Mc _;rw[e]at this;revert this
 done
def ac8(r:Int):(Ez r 26).Nodup:=by
 unfold Ez;rw[List.nodup_iff_pairwise_ne,ab1];show Pl (λ{i j} hi hj hn e=>?_) Kw;rw[aaP]at hi hj;let e1:[GY (r+7*(i:Int))]=[GY (r+7*(j:Int))]:=by
  have:=DT (λz:Str=>z.cps.toList) e;simpa[wd,S]using this
 let e2:GY (r+7*(i:Int))=GY (r+7*(j:Int)):=by simpa using e1
 unfold GY at e2;apply hn
 omega
def qG(r:Int)(n:Nat):Ez r (n+1)=Ez r n++[wd [r+7*(n:Int)]]:=by unfold Ez;rw[Mt,AZ];rfl
def zk(ss:List Str):(ss.map V.str).all EN=true:=by
 rw[aaR];intro v hv;let⟨z,_,rfl⟩:=aai.mp hv;rfl
section
variable {K: W.Frag}
noncomputable abbrev Sp:Stmt:=B6 73
def bW:Av ["row","word","letter","at","own","some","k","names","one"] ["row"] (Ag Sp):=nofun
abbrev eK:Ay:=λts Γ Z _=>∃(a:Addr) (ns:List Int),ts=[.ref a]∧Γ a=some (.lst (ns.map T.int))∧ns.length=20∧∀(ss:List Str) (p:Addr),ss.length=9→(∀z∈ss,Nm z)→ss.Nodup→Γ p=none→Z (.ref p) (up Γ p (.lst (ss.map T.str)))
def acO(F:cT K "_law_names" "_law_names" Sp f fd)(jH:Ae P w K mg bi "_law_word" 1 ["numbers"] lJ)(aB:mg "len" = none)(bP:mg "range" = none):bj P w K mg bi Ao 2 f fd ["row"] (Am eK):=by
 show B5 F bW (λts Γ Z Y h=>?_) (λcq A outer s H E ts Γ Z Y hr h=>?_)
 ·let⟨a,ns,rfl,_⟩:=h
  rfl
 let⟨a,ns,rfl,ga,nl,q⟩:=h;show⟨_,(A4 (An (i:=1) bW.nd (Al jH hr (A3 (DB F9 (A0 0) Ef (CF (AH DO A7 (AH BH (AJ (A0 0) A7) A7)))) A6)))
  (A4 (An (i:=2) bW.nd (Al jH hr (A3 (DB F9 (A0 0) (CF A7) (CF A7)) A6)))
  (A4 (An (i:=3) bW.nd (AH BH (AJ (A0 0) A7) (Aw US rfl aB BF (A3 (A0 1) A6))))
  (A4 (An (i:=4) bW.nd (Dd (A3 Ax (A3 Ax (A3 Ax (A3 Ax (A3 Ax (A3 Ax (A3 Ax (A3 Ax (A3 Ax (A3 Ax (A3 Ax (A3 Ax (A3 Ax A6)))))))))))))))
  (A4 (An (i:=5) bW.nd (Dd (A3 (A0 1) (A3 (AH Ju (A0 1) (A0 2)) (A3 (AH Ju (A0 2) (A0 1)) (A3 (AH Ju (AH Ju (DB az (A0 1) Ef (CF (A0 3))) (A0 2)) (DB az (A0 1) (CF (AH DO (A0 3) A7)) Ef)) (A3 (DB az (A0 1) Ef (CF (A0 3))) (A3 (aaX (A0 1) (Tw A7)) A6))))))))
  (A4 (An (i:=5) bW.nd (AH Hu (A0 5) (Dd (A3 (AJ (A0 4) (AH BH (AJ (A0 0) A7) A7)) (A3 (Al jH hr (A3 (DB F9 (A0 0) (CF A7) (CF (AH DO A7 (AH BH (AJ (A0 0) A7) A7)))) A6)) (A3 (AH Ju (AJ (A0 4) (AH BH (AH DA (AJ (A0 0) A7) A7) A7)) (A0 2)) A6))))))
  (A4 (An (i:=5) bW.nd (AH Hu (DB F9 (A0 5) (CF (AH BH (AJ (A0 0) A7) A7)) Ef) (DB F9 (A0 5) Ef (CF (AH BH (AJ (A0 0) A7) A7)))))
  (A4 (Ed Ey rfl (IK rfl bP (A3 A7 A6)) (Aj (i:=6) bW.nd) (A4 (Fw (FF HI Ha Hb Hh (A0 5) (A3 (Al jH hr (A3 (Dd (A3 (AH DO (AJ (A0 0) A7) (AH Hf A7 (A0 6))) A6)) A6)) A6)))
  A8))
  (A4 (An (i:=7) bW.nd (Dd A6))
  (A4 (Ed Ey rfl (Hn (A0 5)) (Aj (i:=8) bW.nd) (A4 (Ak (Aq (PW.pt (JE (BB Ee (A0 8) Ax) (JE (K3 Ov (A0 8) (A0 7) (by with_unfolding_all rfl)) (Jh (BB K9 (Aw Bi rfl aB BF (A3 (A0 7) A6)) A7))))) (A4 (Fw (FF HI Ha Hb Hh (A0 7) (A3 (A0 8) A6)))
  A8) A8))
  A8))
  (A4 (AK (A0 7))
  A8))))))))))),?_⟩
 simp only[As];let⟨JG,m16,_,Xc⟩:=JU (ns:=ns) (j:=16) (by lia);let⟨r8,m8,_,x8⟩:=JU (ns:=ns) (j:=8) (by lia);let⟨r9,m9,_,x9⟩:=JU (ns:=ns) (j:=9) (by lia);let⟨Nv,m17,_,Xb⟩:=JU (ns:=ns) (j:=17) (by lia);let⟨Rg,m18,_,Vi⟩:=JU (ns:=ns) (j:=18) (by lia);let⟨Gf,m19,_,Xa⟩:=JU (ns:=ns) (j:=19) (by lia);let b16:0≤JG%7∧JG%7<7:=⟨DM _ (by decide),EH _ (by decide)⟩;let b17:0≤Nv%5∧Nv%5<5:=⟨DM _ (by decide),EH _ (by decide)⟩;left;show B7 ga Xc ?_;left;show Ps2 a _ ⟨rfl,ga,λp1 cS=>?_⟩;rw[G3,Pn (by lia)];left;show Ps2 p1 _ ⟨rfl,Au,by rw[DD];lia,?_⟩;let ew:(wd (ns.take (1+JG%7).toNat)).length=(1+JG%7).toNat:=by rw[Mc,DD];lia
 let lw:=Nt (ns.take (1+JG%7).toNat);generalize wd (ns.take (1+JG%7).toNat)=word at *
 let l1:Le Γ (up Γ p1 (.lst ((ns.take (1+JG%7).toNat).map T.int))):=.new cS;generalize up Γ p1 (.lst ((ns.take (1+JG%7).toNat).map T.int))=Γ1 at *
 left;show Ps2 a _ ⟨rfl,l1 _ _ ga,λp2 mS=>?_⟩;rw[G3,Lm (by decide) (by decide)];left;show Ps2 p2 _ ⟨rfl,Au,by rw[DD];show D6 (Nat.min_le_left _ _) (by decide),?_⟩;let el:(wd ((ns.drop (Int.toNat 7)).take (Int.toNat 8-Int.toNat 7))).length=1:=by rw[Mc,DD,FG,nl];rfl
 let ll:=Nt ((ns.drop (Int.toNat 7)).take (Int.toNat 8-Int.toNat 7));generalize wd ((ns.drop (Int.toNat 7)).take (Int.toNat 8-Int.toNat 7))=zx at *
 let l2:Le Γ (up Γ1 p2 (.lst (((ns.drop (Int.toNat 7)).take (Int.toNat 8-Int.toNat 7)).map T.int))):=l1.trans (.new mS);generalize up Γ1 p2 (.lst (((ns.drop (Int.toNat 7)).take (Int.toNat 8-Int.toNat 7)).map T.int))=Γ2 at *
 left;show B7 (l2 _ _ ga) x8 ?_;left;show⟨word,rfl,Cv (D3 (by lia)),?_⟩;show LG (by show(0:Int)<_;lia) ?_;let ba:0≤r8%(word.length:Int)∧r8%(word.length:Int)<(word.length:Int):=⟨DM _ (by lia),EH _ (by lia)⟩;generalize r8%(word.length:Int)=at_ at *
 left;clear po YL WN Γ3 gO l3
 let gO:Γ3 po=some (.lst (HE.map T.str)):=gO;left
 -- some,first part
 show Lo ?_ ?_
 ·have:=Bm;lia
 left;show Lo ?_ ?_
 ·have:=Bm;lia
 left;show⟨Cv (D3 (by lia)),λy1 TJ=>?_⟩;let c1:=RL TJ;let k1:=lw.cut TJ;let h1:=aao ba.1 TJ;left;show Lo ?_ ?_
 ·have:=Bm;lia
 left;show⟨Cv (D3 (by lia)),λy2 TH=>?_⟩;let c2:=RL TH;let k2:=lw.cut TH;let h2:y2.length≤word.length-(at_+1).toNat:=by
  rw[←GR,TH,Mf (by lia),FG,GR];show Ap _
 left;show Lo ?_ ?_
 ·have:=Bm;rw[KR];lia
 left;show⟨Cv (D3 (by lia)),λy3 V3=>?_⟩;let c3:=RL V3;let k3:=lw.cut V3;left;show⟨rfl,word,rfl,Cv (D3 (by lia)),λy4 c4 YC=>?_⟩;let k4:Lets y4:=λc hc=>lw c (YC c hc);left;clear p3 My WU Γ4 gS l4
 obtain⟨cs,gS,NG,VT⟩:∃cs:List Str,Γ4 p3=some (.lst (cs.map T.str))∧(∀z∈cs,Cd z)∧cs.length=6:=by
  show⟨[_,_,_,_,_,_],gS,λz hz=>?_,rfl⟩;simp only[aaf,DF,Fn]at hz;rcases hz with rfl|rfl|rfl|rfl|rfl|rfl
  ·show⟨lw,by lia⟩
  ·show⟨lw.app ll,by rw[KR];lia⟩
  ·show⟨ll.app lw,by rw[KR];lia⟩
  ·show⟨(k1.app ll).app k2,by rw[KR,KR];lia⟩
  ·show⟨k3,by lia⟩
  ·show⟨k4,by lia⟩
 left;let Yn:Le Γ2 Γ4:=l3.trans l4;let PU:Le Γ Γ4:=l2.trans Yn;let Wv:=l4 _ _ gO;show B7 (PU _ _ ga) x9 ?_;left;let⟨o1,YW,Yl⟩:=fG (xs:=HE.map T.str) (r:=r9%13) (DM _ (by decide)) (EH _ (by decide));let⟨z1,Ye,rfl⟩:=aai.mp Yl;show B7 Wv YW ?_;left;show B7 (PU _ _ ga) Xb ?_;left;show Ps2 a _ ⟨rfl,PU _ _ ga,?_⟩;clear p5 YS WT Γ5 g5 l5
 rw[G3,Lm (by decide) (by lia)]at g5;left;show Ps2 p5 _ ⟨rfl,g5,by rw[DD];have:=nl;lia,?_⟩;let e5:(wd ((ns.drop (Int.toNat 10)).take ((11+Nv%5).toNat-Int.toNat 10))).length≤5:=by rw[Mc,DD];show min ((11+Nv%5).toNat-10) _≤5;lia
 let k5:=Nt ((ns.drop (Int.toNat 10)).take ((11+Nv%5).toNat-Int.toNat 10));generalize wd ((ns.drop (Int.toNat 10)).take ((11+Nv%5).toNat-Int.toNat 10))=y5 at *
 left;show B7 (l5 _ _ (PU _ _ ga)) x9 ?_;left;let⟨o2,Rw,Yk⟩:=fG (xs:=HE.map T.str) (r:=r9/13%13) (DM _ (by decide)) (EH _ (by decide));let⟨z2,Yd,rfl⟩:=aai.mp Yk;let cz1:=cO z1 Ye;let cz2:=cO z2 Yd;show B7 (l5 _ _ Wv) Rw ?_;left;show Lo ?_ ?_
 ·have:=Bm;lia
 left;clear p6 YR WS Γ6 g6 l6
 let VX:Le Γ4 Γ6:=l5.trans l6;obtain⟨ds,g6,MJ,VP⟩:∃ds:List Str,Γ6 p6=some (.lst (ds.map T.str))∧(∀z∈ds,Cd z)∧ds.length=3:=by
  show⟨[_,_,_],g6,λz hz=>?_,rfl⟩;simp only[aaf,DF,Fn]at hz;rcases hz with rfl|rfl|rfl
  ·show⟨cz1.1,by lia⟩
  ·show⟨k5,by lia⟩
  ·show⟨cz2.1.app ll,by rw[KR];lia⟩
 show Ps4 p3 p6 _ _ ⟨rfl,rfl,VX _ _ gS,g6,Cv (D3 (by rw[AF,AF,VT,VP];decide)),?_⟩;clear p7 YQ WR Γ7 g7 l7
 rw[←AZ]at g7;let Rr:Le Γ Γ7:=PU.trans (VX.trans l7);obtain⟨es,We,nes,g7⟩:∃es:List Str,(∀z∈es,Cd z)∧es.length=9∧Γ7 p7=some (.lst (es.map T.str)):=⟨cs++ds,λz hz=>(aav.mp hz).elim (NG z) (MJ z),by rw[BP,VT,VP],g7⟩;left;show B7 (Rr _ _ ga) Vi ?_;left;let b18:0≤Rg%9∧Rg%9<9:=⟨DM _ (by decide),EH _ (by decide)⟩;show Ps2 p7 _ ⟨rfl,g7,?_⟩;clear p8 YO WQ Γ8 g8 l8
 rw[G3]at g8;left;show B7 (l8 _ _ (Rr _ _ ga)) Vi ?_;left;show Ps2 p7 _ ⟨rfl,l8 _ _ g7,?_⟩;clear p9 YN WO Γ9 g9 l9
 rw[G3]at g9;let n8:=NW es (some (Rg%9)) none;let n9:=NW es none (some (Rg%9));show Ps4 p8 p9 _ _ ⟨rfl,rfl,l9 _ _ g8,g9,Cv (D3 (by rw[AF,AF];lia)),?_⟩;clear vp P9 Qw Γ10 NL Yp
 rw[←AZ]at NL;let Te:Le Γ Γ10:=Rr.trans (l8.trans (l9.trans Yp));obtain⟨fs,Y4,nfs,NL⟩:∃fs:List Str,(∀z∈fs,Cd z)∧fs.length≤18∧Γ10 vp=some (.lst (fs.map T.str)):=⟨_,λz hz=>(aav.mp hz).elim (λh=>We z (bH h)) (λh=>We z (bH h)),by rw[BP];lia,NL⟩;left;let bN:Γ vp=none:=by
  cases e:Γ vp with
  |none=>rfl
  |some o=>have:=(Rr.trans (l8.trans l9)) _ _ e;rw[P9]at this;cases this
 let na:a≠vp:=F4 ga bN;show⟨26,rfl,by decide,by decide,?_⟩;show⟨λv6 τ Γ'=>∃(i m:Nat) (o6:Option T),v6=Dx i m∧i+m=26∧τ=[some (.ref a),some (.str word),some (.str zx),some (.int at_),some (.ref po),some (.ref vp),o6,none,none]∧Γ' vp=some (.lst ((fs++Ez Gf i).map T.str))∧Kq [vp] Γ Γ',Ps3 0 26 none ⟨rfl,rfl,rfl,by rw[show Ez Gf 0=[]from rfl,BX];show NL,Te.kq⟩,?_,?_⟩
 ·intro τ Γ'⟨i,m,o6,er,im,rfl,gL,kq⟩
  let hm:=Jv er;subst hm;have:i=26:=im;subst this;show⟨trivial,?_⟩;left;clear pn Ru en Γn gn ln
  let bn:Γ pn=none:=by
   by_cases e1:pn=vp
   ·rw[e1];show bN
   ·cases e:Γ pn with
    |none=>rfl
    |some o=>have:=kq _ _ (by simpa using e1) e;rw[Ru]at this;cases this
  let ne:vp≠pn:=F4 gL Ru;left;show Ps2 vp _ ⟨rfl,BD (ln _ _ gL),?_⟩;show⟨λv6 τ Γ'=>∃(ds rs ss:List Str) (o8:Option T),v6=rs.map T.str∧fs++Ez Gf 26=ds++rs∧τ=[some (.ref a),some (.str word),some (.str zx),some (.int at_),some (.ref po),some (.ref vp),o6,some (.ref pn),o8]∧(∀z∈ss,Nm z)∧ss.Nodup∧ss.length≤9∧(ss.length=9∨∀z∈ds,z ≠ "" → z∈ss)∧Γ' pn=some (.lst (ss.map T.str))∧Γ' vp=some (.lst ((fs++Ez Gf 26).map T.str))∧Kq [vp,pn] Γ Γ',Ps4 [] _ [] none ⟨rfl,rfl,rfl,λ_ h=>(nomatch h),It,by decide,.inr λ_ h=>(nomatch h),gn,ln _ _ gL,(kq.mono (by simp)).trans ln.kq⟩,?_,?_⟩
  ·intro τ Γ2⟨ds,rs,ss,o8,J2,ed,rfl,nm,nd,s9,vQ,gs,MP,Nx⟩
   let YI:rs=[]:=by
    cases rs with
    |nil=>rfl
    |cons _ _=>cases J2
   subst YI;rw[BX]at ed;show⟨BD MP,?_⟩;left;let e9:ss.length=9:=by
    rcases vQ with h|h
    ·show h
    ·exfalso
     have:=sub_len (l:=Ez Gf 26) (m:=ss) (ac8 Gf) λz hz=>h z (by rw[←ed];show CQ _ hz) (fH hz).2;rw[fZ]at this;lia
   show⟨up Γ pn (.lst (ss.map T.str)),λb u g=>?_,q ss pn e9 nm nd bn⟩;by_cases e1:b=pn
   ·subst e1;rw[Au]at g;cases g;show gs
   ·rw[BR e1]at g
    by_cases e2:b=vp
    ·subst e2;rw[bN]at g;cases g
    ·show Nx b u (by simp[e1,e2]) g
  ·intro x rr τ Γ2⟨ds,rs,ss,o8,J2,ed,rfl,nm,nd,s9,vQ,gs,MP,Nx⟩
   cases rs with
   |nil=>cases J2
   |cons z rs=>
    cases J2;let cz:Cd z:=by
     have:z∈fs++Ez Gf 26:=by rw[ed];simp
     rcases aav.mp this with h|h
     ·show Y4 z h
     ·show(fH h).1
    show⟨BD MP,?_⟩;left;show⟨λτ Γ'=>∃(ss:List Str),τ=[some (.ref a),some (.str word),some (.str zx),some (.int at_),some (.ref po),some (.ref vp),o6,some (.ref pn),some (.str z)]∧(∀z∈ss,Nm z)∧ss.Nodup∧ss.length≤9∧(ss.length=9∨∀y∈ds++[z],y ≠ "" → y∈ss)∧Γ' pn=some (.lst (ss.map T.str))∧Γ' vp=some (.lst ((fs++Ez Gf 26).map T.str))∧Kq [vp,pn] Γ Γ',?_,?_⟩
    ·left
     let same:(z = "" ∨ z∈ss∨ss.length=9)→ss.length=9∨∀y∈ds++[z],y ≠ "" → y∈ss:=λh=>by
      rcases vQ with h9|ha
      ·show .inl h9
      rcases h with h|h|h
      ·show .inr λy hy ny=>?_
       rcases aav.mp hy with hy|hy
       ·show ha y hy ny
       ·rw[aaC.mp hy]at ny;show absurd h ny
      ·show .inr λy hy ny=>?_
       rcases aav.mp hy with hy|hy
       ·show ha y hy ny
       ·rw[aaC.mp hy];show h
      ·show .inl h
     show AU (λc1=>?_) (λc1=>?_)
     ·let c1:z ≠ "" := λe=>by rw[e]at c1;simp at c1
      left;show Qp gs rfl (OX ss) rfl (zk ss) ?_;show JX (T.bl (!Dk (.str z) (ss.map V.str))) _
      rw[IW];exists c2
      ·let c2:z∉ss:=by simpa using c2
       left;show EZ gs ?_;rw[AF];exists c3
       ·let c3:=DN c3
        left;show TS gs ?_;left;show Ps3 pn _ _ ⟨rfl,rfl,gs,D3 (by rw[AF];lia),?_⟩;left;show⟨ss++[z],rfl,λy hy=>?_,?_,by rw[BP];show ss.length+1≤9;lia,?_,by rw[AZ];show Au,by rw[BR ne];show MP,Nx.trans (.set (by simp) _)⟩
        ·rcases aav.mp hy with hy|hy
         ·show nm y hy
         ·rw[aaC.mp hy];show cz.nm c1
        ·rw[abl]
         show⟨nd,by simp,λx hx y hy e=>c2 ?_⟩;rw[aaC]at hy;rw[←hy,←e];show hx
        ·rcases vQ with h9|ha
         ·lia
         ·show .inr λy hy ny=>?_
          rcases aav.mp hy with hy|hy
          ·show G4 _ (ha y hy ny)
          ·show CQ _ hy
       ·let c3:=F7 c3
        left;show⟨ss,rfl,nm,nd,s9,same (.inr (.inr (by lia))),gs,MP,Nx⟩
      ·let c2:z∈ss:=by simpa using c2
       left;show⟨ss,rfl,nm,nd,s9,same (.inr (.inl c2)),gs,MP,Nx⟩
     ·let c1:z = "" := by simpa using c1
      left;show⟨ss,rfl,nm,nd,s9,same (.inl c1),gs,MP,Nx⟩
    intro τ Γ3⟨XC,rfl,X9,Ya,XJ,Qn,Zk,Zt,Ys⟩;left;show Ps4 (ds++[z]) rs XC _ ⟨rfl,by rw[ed];simp,rfl,X9,Ya,XJ,Qn,Zk,Zt,Ys⟩
 ·intro x rr τ Γ'⟨i,m,o6,er,im,rfl,gL,kq⟩
  let⟨m',rfl,rfl,rfl⟩:=Ia er;let Wu:=kq _ _ (by simpa using na) ga;left;show TS gL ?_;left;show B7 Wu Xa ?_;left;clear LJ TY WW Γa NK VY
  left;show Ps2 LJ [Gf+7*(i:Int)] ⟨rfl,NK,by show 1≤1000;decide,?_⟩;left;show Ps3 vp _ _ ⟨rfl,rfl,VY _ _ gL,D3 (by rw[AF,BP,fZ];lia),?_⟩;left;show Ps3 (i+1) m' _ ⟨rfl,by lia,rfl,?_,(kq.trans VY.kq).trans (.set (by simp) _)⟩;rw[Au,qG,←KY,AZ (l₁:=fs++Ez Gf i)];rfl
end
abbrev Lj(c:Int):Bool:=decide (32≤c)&&decide (c≤126)&&!decide (c=37)
abbrev ag(w:Int):T→Bool
 |.int i=>decide (-((65536:Int)^w.toNat)≤2*i)&&decide (2*i≤(65536:Int)^w.toNat-2)
 |_=>false
abbrev hW:T→Bool
 |.str z=>decide (z.length≤60)&&z.cps.toList.all λc=>Lj (c:Nat)
 |_=>false
mutual
def CA:Kd→T→Bool
 |.num w,t=>ag w t
 |.text,t=>hW t
 |.row k,.tup ts=>decide (ts.length≤60)&&ts.all (CA k)
 |.rec_ fs,.tup ts=>decide (ts.length=fs.length)&&Jr fs ts
 |.pick fs,.tup [.str n,x]=>Hk fs n x
 |_,_=>false
def Jr:List (Str×Kd)→List T→Bool
 |(_,k)::fs,t::ts=>CA k t&&Jr fs ts
 |_,_=>true
def Hk:List (Str×Kd)→Str→T→Bool
 |(m,k)::fs,n,x=>(decide (m=n)&&CA k x)||Hk fs n x
 |[],_,_=>false
end
section
variable {K: W.Frag}{v3: Value}
noncomputable abbrev Va:Stmt:=B6 28
def mU:Av ["number"] ["number"] (Ag Va):=nofun
abbrev iZ:Ay:=λts Γ Z _=>∃c:Int,ts=[.int c]∧Z (.bl (Lj c)) Γ
def qh(F:cT K "is_sign" "is_sign" Va f fd)(jC:mg "FIRST_SIGN" = some v1)(vS:DI v1 (.int 32))(kI:mg "LAST_SIGN" = some v2)(xG:DI v2 (.int 126))(gj:mg "HUNDREDTH_SIGN" = some v3)(pM:DI v3 (.int 37)):bj P w K mg bi Ao 1 f fd ["number"] (Am iZ):=by
 show B5 F mU (λts Γ Z Y h=>?_) (λcq A outer s H E ts Γ Z Y hr h=>?_)
 ·let⟨t,rfl,_⟩:=h
  rfl
 let⟨c,rfl,q⟩:=h;show⟨_,(A4 (AK (CK (MV FQ FQ (E5 rfl jC vS) (A0 0) (E5 rfl kI xG)) (CP (DZ Ee (A0 0) (E5 rfl gj pM)))))
  A8),?_⟩
 simp only[As];unfold Lj at q;exists c1;rotate_left
 ·rw[c1]at q
  left;show AD .refl q
 rw[c1,Bc]at q;exists c2;rotate_left
 ·rw[c2]at q
  show AD .refl q
 rw[c2,Bc]at q;left;show AD .refl ?_;rw[show decide (V.int c=V.int 37)=decide (c=37)from abd.mpr ⟨V.int.inj,λe=>by rw[e]⟩];show q
noncomputable abbrev Xq:Stmt:=B6 26
def hJ:Av ["width","thing","numbers","word"] ["width","thing"] (Ag Xq):=nofun
abbrev RW:Ay:=λts Γ Z _=>∃(wd:Int) (t:T),ts=[.int wd,t]∧0≤wd∧wd≤4∧Pt Γ t∧Z (.bl (ag wd t)) Γ
def w8(F:cT K "is_number" "is_number" Xq f fd)(bY:Ae P w K mg bi "is_whole" 1 ["thing"] IQ)(iB:mg "WORD_NUMBERS" = some v1)(sX:DI v1 (.int 65536))(bP:mg "range" = none):bj P w K mg bi Ao 2 f fd ["width","thing"] (Am RW):=by
 show B5 F hJ (λts Γ Z Y h=>?_) (λcq A outer s H E ts Γ Z Y hr h=>?_)
 ·let⟨wd,t,rfl,_⟩:=h
  rfl
 let⟨wd,t,rfl,w0,w4,pt,q⟩:=h;show⟨_,(A4 (Aq (BQ (BN (Al bY hr (A3 (A0 1) A6)))) (A4 (AK BL)
  A8) A8)
  (A4 (An (i:=2) hJ.nd A7)
  (A4 (Ed Ey rfl (IK rfl bP (A3 (A0 0) A6)) (Aj (i:=3) hJ.nd) (A4 (tQ (i:=2) hJ.nd rfl (Or.inl rfl) (E5 rfl iB sX) xt)
  A8))
  (A4 (AK (MV FQ FQ (Tw (A0 2)) (AH Hf A7 (A0 1)) (AH L8 (A0 2) A7)))
  A8)))),?_⟩
 simp only[As];left;show⟨t,rfl,pt,?_⟩;exists c
 ·left
  show AD .refl ?_;cases t with
  |int i=>cases c
  |_=>show q
 let⟨i,rfl⟩:=U2 (t:=t) (by simpa using c);left;show⟨wd,rfl,by lia,by lia,?_⟩;show⟨λv6 τ Γ'=>∃(j n:Nat) (o:Option T),v6=Dx j n∧j+n=wd.toNat∧τ=[some (.int wd),some (.int i),some (.int (65536^j)),o]∧Γ'=Γ,Ps3 0 wd.toNat none ⟨by simp,by simp,rfl,rfl⟩,?_,?_⟩
 ·intro τ Γ'⟨j,n,o,er,e,rfl,rfl⟩
  have:=Jv er;subst this;show⟨trivial,?_⟩;let ej:j=wd.toNat:=by lia
  subst ej;let q:Z (.bl (decide (-((65536:Int)^wd.toNat)≤2*i)&&decide (2*i≤(65536:Int)^wd.toNat-2))) Γ':=q;exists c1
  ·rw[c1,Bc]at q
   left;show AD .refl q
  ·rw[c1]at q
   show AD .refl q
 ·intro x r τ Γ'⟨j,n,o,er,e,rfl,rfl⟩
  let⟨m,rfl,rfl,rfl⟩:=Ia er;left;show⟨.int (65536^j),rfl,?_⟩;left;show Ps3 (j+1) m _ ⟨rfl,by lia,rfl,rfl⟩
noncomputable abbrev VW:Stmt:=B6 27
def tX:Av ["thing"] ["thing"] (Ag VW):=nofun
abbrev UK:Ay:=λts Γ Z _=>∃t:T,ts=[t]∧Pt Γ t∧Z (.bl (hW t)) Γ
def acY(F:cT K "is_text" "is_text" VW f fd)(Co:Ae P w K mg bi "is_sign" 1 ["number"] iZ)(jB:mg "MOST_SIGNS" = some v1)(vR:DI v1 (.int 60))(ai:mg "isinstance" = none)(cU:mg "str" = none)(aB:mg "len" = none)(bu:mg "all" = none)(CI:mg "ord" = none):bj P w K mg bi Ao 2 f fd ["thing"] (Am UK):=by
 show B5 F tX (λts Γ Z Y h=>?_) (λcq A outer s H E ts Γ Z Y hr h=>?_)
 ·let⟨t,rfl,_⟩:=h
  rfl
 let⟨t,rfl,pt,q⟩:=h;show⟨_,(A4 (Aq (PW.pt (Cj (BQ (BN (D0 rfl ai rfl cU JF (A0 0)))) (DG (BB K7 (Aw US rfl aB BF (A3 (A0 0) A6)) (E5 rfl jB vR))))) (A4 (AK BL)
  A8) A8)
  (A4 (AK (Aw (FI rfl) rfl bu FN (A3 (Dl (own:=["sign"]) (cap:=[]) Ec rfl (UM (A0 0)) (λ_ _ _ _=>GQ) (λ_ _ _ _=>Di) (λ_ _ _ _=>(Al Co hr (A3 (Aw (sL) rfl CI PyProof.Rows.boot_ord (A3 (A0 0) A6)) A6)))) A6)))
  A8)),?_⟩
 simp only[As];left;show Et (in_str pt) ?_;exists c
 ·left
  show AD .refl ?_;cases t with
  |str z=>cases c
  |_=>show q
 let⟨z,rfl⟩:=N2 (t:=t) (by simpa using c);let zl:=pt.txt;let q:Z (.bl (decide (z.length≤60)&&z.cps.toList.all λc=>Lj (c:Nat))) Γ:=q;left;show⟨z,rfl,D6 zl (by decide),?_⟩;exists c1
 ·let c1:=DN c1
  left;rw[Ck (show ¬z.length≤60 by lia),Dj]at q;show AD .refl q
 let c1:=F7 c1;rw[BU (show z.length≤60 by lia),Bc]at q;left;show⟨Cv (D3 (by unfold J9;rw[AF,GR];lia)),?_⟩;show⟨λv6 τ ys Γ'=>∃(cs ds:List Nat) (o:Option T),v6=cs.map (λc=>T.str ⟨#[c]⟩)∧z.cps.toList=ds++cs∧τ=[o]∧ys=(ds.map λc=>Lj (c:Nat)).map T.bl∧Γ'=Γ,Ps3 z.cps.toList [] none ⟨rfl,rfl,rfl,rfl,rfl⟩,?_,?_⟩
 ·intro τ ys Γ'⟨cs,ds,o,er,ez,rfl,rfl,rfl⟩
  let hz:cs=[]:=by
   cases cs with
   |nil=>rfl
   |cons _ _=>cases er
  subst hz;rw[BX]at ez;subst ez;show⟨trivial,?_⟩;clear p1 cS e1 Γ1 g1 l1
  left;show Ps2 p1 _ ⟨rfl,BD g1,?_⟩;rw[FT];show AD l1 q
 ·intro x r τ ys Γ'⟨cs,ds,o,er,ez,rfl,rfl,rfl⟩
  cases cs with
  |nil=>cases er
  |cons c cs=>
   cases er;show⟨trivial,?_⟩;left;show⟨_,rfl,rfl,?_⟩;left;show⟨_,rfl,?_⟩;show Ps3 cs (ds++[c]) _ ⟨rfl,by rw[ez];simp,rfl,by rw[AZ,AZ];rfl,rfl⟩
noncomputable abbrev Pz:Stmt:=B6 25
def pU:Av ["kind","thing","head"] ["kind","thing"] (Ag Pz):=nofun
abbrev Im(n:Nat):Ay:=λts Γ Z _=>∃(k:Kd) (t:T),ts=[k.tr,t]∧k.good∧k.depth<n∧Pt Γ t∧Z (.bl (CA k t)) Γ
noncomputable abbrev Py:Stmt:=B6 29
def yC:Av ["fields","parts"] ["fields","parts"] (Ag Py):=nofun
abbrev UJ(n:Nat):Ay:=λts Γ Z _=>∃(fs:ad) (us:List T),ts=[.tup (DY fs),.tup us]∧Fz fs∧fs.length≤6∧HD fs<n∧Pt Γ (.tup us)∧Z (.bl (decide (us.length=fs.length)&&Jr fs us)) Γ
def aF:∀{fs:List (Str×Kd)} {p:Str×Kd},Fz fs→p∈fs→p.2.good
 |(n,k)::r,p,h,hp=>by
  unfold Fz at h;rcases aaf.mp hp with rfl|hp
  ·show h.2.1
  ·show aF h.2.2 hp
def yD(F:cT K "is_record" "is_record" Py f fd)(cH:Ae P w K mg bi "is_worth" (lv+1) ["kind","thing"] (Im n))(aB:mg "len" = none)(bu:mg "all" = none)(fS:mg "zip" = none):bj P w K mg bi Ao (lv+2) f fd ["fields","parts"] (Am (UJ n)):=by
 show B5 F yC (λts Γ Z Y h=>?_) (λcq A outer s H E ts Γ Z Y hr h=>?_)
 ·let⟨fs,us,rfl,_⟩:=h
  rfl
 let⟨fs,us,rfl,gf,f6,df,pt,q⟩:=h;show⟨_,(A4 (Aq (BB Ee (Aw Bi rfl aB BF (A3 (A0 1) A6)) (Aw Bi rfl aB BF (A3 (A0 0) A6))) (A4 (AK BL)
  A8) A8)
  (A4 (AK (Aw (FI rfl) rfl bu FN (A3 (Dl (own:=["name","inner","part"]) (cap:=[]) Ec rfl (gQ rfl fS (A3 (A0 0) (A3 (A0 1) A6))) (λ_ _ _ _=>(C0 (n:=2) rfl (AS (C0 (n:=2) rfl (AS (Ba (i:=0) (show List.Nodup (["name","inner","part"]:List Str)from by done) rfl (Or.inl rfl) (Or.inr rfl)) (AS (Ba (i:=1) (show List.Nodup (["name","inner","part"]:List Str)from by done) rfl (Or.inl rfl) (Or.inr rfl)) Bw))) (AS (Ba (i:=2) (show List.Nodup (["name","inner","part"]:List Str)from by done) rfl (Or.inl rfl) (Or.inr rfl)) Bw)))) (λ_ _ _ _=>Di) (λ_ _ _ _=>(Al cH hr (A3 (A0 1) (A3 (A0 2) A6))))) A6)))
  A8)),?_⟩
 simp only[As];let⟨tl,tm⟩:=pt.items;left;rw[JY];show AU (λc=>?_) (λc=>?_)
 ·let c:us.length≠fs.length:=λe=>by rw[e]at c;simp at c
  left;rw[Ck c]at q;show AD .refl q
 let c:us.length=fs.length:=by
  have:decide (V.int (us.length:Int)=V.int (fs.length:Nat))=true:=by simpa using c
  have:=Gu this;lia
 rw[BU c,Bc]at q;left;show⟨Cv (D3 (by rw[Jk,JY];lia)),?_⟩;show⟨λv6 τ ys Γ'=>∃(gs:ad) (vs:List T) (bs:List Bool) (o1 o2 o3:Option T),v6=FA (DY gs) vs∧(∀p∈gs,p∈fs)∧(∀t∈vs,t∈us)∧gs.length=vs.length∧τ=[o1,o2,o3]∧ys=bs.map T.bl∧Jr fs us=(bs.all id&&Jr gs vs)∧Γ'=Γ,Ps6 fs us [] none none none ⟨rfl,λ_ h=>h,λ_ h=>h,c.symm,rfl,rfl,by simp,rfl⟩,?_,?_⟩
 ·intro τ ys Γ'⟨gs,vs,bs,o1,o2,o3,er,_,_,el,rfl,rfl,e,rfl⟩
  let hz:gs=[]:=by
   cases gs with
   |nil=>rfl
   |cons p gs=>
    cases vs with
    |nil=>cases el
    |cons t vs=>cases er
  subst hz;show⟨trivial,?_⟩;clear p1 cS e1 Γ1 g1 l1
  left;show Ps2 p1 bs ⟨rfl,BD g1,?_⟩;rw[e]at q;unfold Jr at q;rw[Ic]at q;show AD l1 q
 ·intro x r τ ys Γ'⟨gs,vs,bs,o1,o2,o3,er,hg,hv,el,rfl,rfl,e,rfl⟩
  cases gs with
  |nil=>cases er
  |cons p gs=>
   cases vs with
   |nil=>cases el
   |cons t vs=>
    obtain⟨nm,k⟩:=p;cases er;show⟨trivial,?_⟩;left;show Ps2 k t ⟨rfl,aF (p:=(nm,k)) gf (hg (nm,k) (by simp)),CW (Mk (p:=(nm,k)) (hg (nm,k) (by simp))) df,tm t (hv t (by simp)),?_⟩;show Ps6 gs vs (bs++[CA k t]) _ _ _ ⟨rfl,λp h=>hg p (Cn _ h),λp h=>hv p (Cn _ h),by simpa using el,rfl,by simp,?_,rfl⟩;rw[e,Jr,KH];simp[Kr]
noncomputable abbrev OO:Stmt:=B6 30
def rq:Av ["fields","pair"] ["fields","pair"] (Ag OO):=nofun
abbrev Xz(n:Nat):Ay:=λts Γ Z _=>∃(fs:ad) (us:List T),ts=[.tup (DY fs),.tup us]∧Fz fs∧fs.length≤6∧HD fs<n∧Pt Γ (.tup us)∧Z (.bl (CA (.pick fs) (.tup us))) Γ
def aaJ:∀{us:List T},us.length≠2→CA (.pick fs) (.tup us)=false
 |[],_=>by unfold CA;rfl
 |[a],_=>by cases a<;>(unfold CA;rfl)
 |[a,b],h=>absurd rfl h
 |a::b::c::r,_=>by cases a<;>(unfold CA;rfl)
def ab0{a b:T}(h:isStr a=false):CA (.pick fs) (.tup [a,b])=false:=by
 cases a with
 |str z=>cases h
 |_=>unfold CA;rfl
def wb{b:T}:CA (.pick fs) (.tup [.str z,b])=Hk fs z b:=by rw[CA]
def adx(F:cT K "is_choice" "is_choice" OO f fd)(cH:Ae P w K mg bi "is_worth" (lv+1) ["kind","thing"] (Im n))(aB:mg "len" = none)(nh:mg "any" = none)(ai:mg "isinstance" = none)(cU:mg "str" = none):bj P w K mg bi Ao (lv+2) f fd ["fields","pair"] (Am (Xz n)):=by
 show B5 F rq (λts Γ Z Y h=>?_) (λcq A outer s H E ts Γ Z Y hr h=>?_)
 ·let⟨fs,us,rfl,_⟩:=h
  rfl
 let⟨fs,us,rfl,gf,f6,df,pt,q⟩:=h;show⟨_,(A4 (Aq (PW.pt (Cj (BB Ee (Aw Bi rfl aB BF (A3 (A0 1) A6)) A7) (DG (BQ (BN (D0 rfl ai rfl cU JF (AJ (A0 1) A7))))))) (A4 (AK BL)
  A8) A8)
  (A4 (AK (Aw (fP rfl) rfl nh PyProof.Rows.boot_any (A3 (Dl (own:=["name","inner"]) (cap:=[(1,"pair")]) (Fp rfl (by done) (by done) rfl (⟨rfl,trivial⟩) rfl (⟨⟨rfl,rfl,rfl⟩,trivial⟩)) rfl (DX (A0 0)) (λ_ _ _ _=>(C0 (n:=2) rfl (AS (Ba (i:=0) (show List.Nodup (["name","inner","pair"]:List Str)from by done) rfl (Or.inl rfl) (Or.inr rfl)) (AS (Ba (i:=1) (show List.Nodup (["name","inner","pair"]:List Str)from by done) rfl (Or.inl rfl) (Or.inr rfl)) Bw)))) (λ_ _ _ _=>Di) (λ_ _ _ _=>(CK (DZ CO (A0 0) (AJ (A0 2) A7)) (CP (Al cH hr (A3 (A0 1) (A3 (AJ (A0 2) A7) A6))))))) A6)))
  A8)),?_⟩
 simp only[As];let⟨tl,tm⟩:=pt.items;exists c
 ·let c:us.length≠2:=λe=>by rw[e]at c;revert c;decide
  left;rw[aaJ c]at q;show AD .refl q
 let c:us.length=2:=by
  have:decide (V.int (us.length:Int)=V.int 2)=true:=by simpa using c
  have:=Gu this;lia
 match us,c with
 |[a,b],_=>
  left;show Et (in_str (tm a (by simp))) ?_;exists c1
  ·left
   rw[ab0 (by simpa using c1)]at q;show AD .refl q
  let⟨z,rfl⟩:=N2 (t:=a) (by simpa using c1);rw[wb]at q;left;show⟨Cv (D3 (by rw[JY];lia)),?_⟩;show⟨λv6 τ ys Γ'=>∃(gs:List (Str×Kd)) (bs:List Bool) (o1 o2:Option T),v6=DY gs∧(∀p∈gs,p∈fs)∧τ=[o1,o2,some (.tup [.str z,b])]∧ys=bs.map T.bl∧Hk fs z b=(bs.any id||Hk gs z b)∧Γ'=Γ,Ps4 fs [] none none ⟨rfl,λ_ h=>h,rfl,rfl,by simp,rfl⟩,?_,?_⟩
  ·intro τ ys Γ'⟨gs,bs,o1,o2,er,_,rfl,rfl,e,rfl⟩
   let hz:gs=[]:=by
    cases gs with
    |nil=>rfl
    |cons p gs=>cases er
   subst hz;show⟨trivial,?_⟩;clear p1 cS e1 Γ1 g1 l1
   left;show Ps2 p1 bs ⟨rfl,BD g1,?_⟩;rw[e]at q;unfold Hk at q;rw[OV]at q;show AD l1 q
  ·intro x r τ ys Γ'⟨gs,bs,o1,o2,er,hg,rfl,rfl,e,rfl⟩
   cases gs with
   |nil=>cases er
   |cons p gs=>
    obtain⟨nm,k⟩:=p;cases er;show⟨trivial,?_⟩;left;let eqd:decide (V.str nm=V.str z)=decide (nm=z):=abd.mpr ⟨V.str.inj,λe=>by rw[e]⟩;rw[eqd];show AU (λc2=>?_) (λc2=>?_)
    ·left
     show Ps2 k b ⟨rfl,aF (p:=(nm,k)) gf (hg (nm,k) (by simp)),CW (Mk (p:=(nm,k)) (hg (nm,k) (by simp))) df,tm b (by simp),?_⟩;show Ps4 gs (bs++[CA k b]) _ _ ⟨rfl,λp h=>hg p (Cn _ h),rfl,by simp,?_,rfl⟩;rw[e,Hk,KU,c2];simp[Up]
    ·show Ps4 gs (bs++[false]) _ _ ⟨rfl,λp h=>hg p (Cn _ h),rfl,by simp,?_,rfl⟩
     rw[e,Hk,KU,c2];simp
def wD(F:cT K "is_worth" "is_worth" Pz f fd)(iV:Ae P w K mg bi "is_number" 2 ["width","thing"] RW)(lS:Ae P w K mg bi "is_text" 2 ["thing"] UK)(cH:Ae P w K mg bi "is_worth" (lv+1) ["kind","thing"] (Im n))(ya:Ae P w K mg bi "is_record" (lv+2) ["fields","parts"] (UJ n))(yb:Ae P w K mg bi "is_choice" (lv+2) ["fields","pair"] (Xz n))(cL:mg "MOST_ITEMS" = some v1)(eJ:DI v1 (.int 60))(ai:mg "isinstance" = none)(aE:mg "tuple" = none)(aB:mg "len" = none)(bu:mg "all" = none):bj P w K mg bi Ao (lv+3) f fd ["kind","thing"] (Am (Im (n+1))):=by
 show B5 F pU (λts Γ Z Y h=>?_) (λcq A outer s H E ts Γ Z Y hr h=>?_)
 ·let⟨k,t,rfl,_⟩:=h
  rfl
 let⟨k,t,rfl,kg,kd,pt,q⟩:=h;show⟨_,(A4 (An (i:=2) pU.nd (AJ (A0 0) A7))
  (A4 (Aq (BB CO (A0 2) Ax) (A4 (AK (Al iV hr (A3 (AJ (A0 0) A7) (A3 (A0 1) A6))))
  A8) A8)
  (A4 (Aq (BB CO (A0 2) Ax) (A4 (AK (Al lS hr (A3 (A0 1) A6)))
  A8) A8)
  (A4 (Aq (BQ (BN (D0 rfl ai rfl aE E9 (A0 1)))) (A4 (AK BL)
  A8) A8)
  (A4 (Aq (BB CO (A0 2) Ax) (A4 (AK (CK (DZ FQ (Aw Bi rfl aB BF (A3 (A0 1) A6)) (E5 rfl cL eJ)) (CP (Aw (FI rfl) rfl bu FN (A3 (Dl (own:=["item"]) (cap:=[(0,"kind")]) (Fp rfl (by done) (by done) rfl (⟨rfl,trivial⟩) rfl (⟨⟨rfl,rfl,rfl⟩,trivial⟩)) rfl (DX (A0 1)) (λ_ _ _ _=>(Ba (i:=0) (show List.Nodup (["item","kind"]:List Str)from by done) rfl (Or.inl rfl) (Or.inr rfl))) (λ_ _ _ _=>Di) (λ_ _ _ _=>(Al cH hr (A3 (AJ (A0 1) A7) (A3 (A0 0) A6))))) A6)))))
  A8) A8)
  (A4 (Aq (BB CO (A0 2) Ax) (A4 (AK (Al ya hr (A3 (AJ (A0 0) A7) (A3 (A0 1) A6))))
  A8) A8)
  (A4 (AK (Al yb hr (A3 (AJ (A0 0) A7) (A3 (A0 1) A6))))
  A8))))))),?_⟩
 simp only[As];cases k with
 |num wd=>
  rw[Kd.tr];unfold Kd.good at kg;left;show Ps2 wd t ⟨rfl,by lia,by lia,pt,AD .refl (by unfold CA at q;show q)⟩
 |text=>
  rw[Kd.tr];left;show⟨t,rfl,pt,AD .refl (by unfold CA at q;show q)⟩
 |row k=>
  rw[Kd.tr];unfold Kd.good at kg;unfold Kd.depth at kd;left;show Et (IS pt) ?_;exists c
  ·left
   show AD .refl ?_;cases t with
   |tup ts=>cases c
   |_=>unfold CA at q;show q
  let⟨ts,rfl⟩:=Ht (t:=t) (by simpa using c);let⟨tl,tm⟩:=pt.items;rw[CA]at q;exists c1;rotate_left
  ·let c1:=F7 c1
   rw[Ck (show ¬ts.length≤60 by lia)]at q;show AD .refl q
  let c1:=DN c1;rw[BU (show ts.length≤60 by lia),Bc]at q;left;show⟨Cv (D3 (by lia)),?_⟩;show⟨λv6 τ ys Γ'=>∃(ds:List T) (o:Option T),ts=ds++v6∧τ=[o,some (.tup [.str "row",k.tr])]∧ys=(ds.map (CA k)).map T.bl∧Γ'=Γ,Ps2 [] none ⟨rfl,rfl,rfl,rfl⟩,?_,?_⟩;rotate_left
  ·intro x r τ ys Γ'⟨ds,o,ez,rfl,rfl,rfl⟩
   show⟨trivial,?_⟩;left;show Ps2 k x ⟨rfl,kg,by lia,tm x (by rw[ez];simp),?_⟩;show Ps2 (ds++[x]) _ ⟨by rw[ez];simp,rfl,by rw[AZ,AZ];rfl,rfl⟩
  intro τ ys Γ'⟨ds,o,ez,rfl,rfl,rfl⟩;rw[BX]at ez;subst ez;show⟨trivial,?_⟩;clear p1 cS e1 Γ1 g1 l1
  left;show Ps2 p1 _ ⟨rfl,BD g1,?_⟩;rw[FT];show AD l1 q
 |rec_ fs=>
  rw[Kd.tr];unfold Kd.good at kg;unfold Kd.depth at kd;left;show Et (IS pt) ?_;exists c
  ·left
   show AD .refl ?_;cases t with
   |tup ts=>cases c
   |_=>unfold CA at q;show q
  let⟨ts,rfl⟩:=Ht (t:=t) (by simpa using c);rw[CA]at q;left;show Ps2 fs ts ⟨rfl,kg.1,kg.2.2.1,by lia,pt,AD .refl q⟩
 |pick fs=>
  rw[Kd.tr];unfold Kd.good at kg;unfold Kd.depth at kd;left;show Et (IS pt) ?_;exists c
  ·left
   show AD .refl ?_;cases t with
   |tup ts=>cases c
   |_=>unfold CA at q;show q
  let⟨ts,rfl⟩:=Ht (t:=t) (by simpa using c);left;show Ps2 fs ts ⟨rfl,kg.1,kg.2.2.1,by lia,pt,AD .refl q⟩
end
def abS{α:Type}(o:Option (Nat×α))(i:Nat):(o.map λp=>(p.1+1,p.2)).map (λp=>(p.1+i,p.2))=o.map λp=>(p.1+(i+1),p.2):=by
 cases o with
 |none=>rfl
 |some p=>show some (p.1+1+i,p.2)=some (p.1+(i+1),p.2);congr 2;lia
section
variable {K: W.Frag}{dN: Addr}
noncomputable abbrev Sb:Stmt:=B6 18
def fz:Av ["kind","name","place","other","inner"] ["kind","name"] (Ag Sb):=nofun
abbrev gc(D:Addr):Ay:=λts Γ Z Y=>∃(hd:Str) (fs:ad) (x:T),ts=[.tup [.str hd,.tup (DY fs)],x]∧Sx x∧(∀j k,F1 fs x=some (j,k)→Z (.int j) Γ)∧(F1 fs x=none→Y (.ref D) Γ)
def wt(F:cT K "field_place" "field_place" Sb f fd)(eW:mg "NoPart" = some (.ref dN))(nj:W.excIn K dN [.type "ValueError",.type "Exception",.type "BaseException",.type "object"] "ValueError.__new__" = true)
  (j3:mg "enumerate" = none):bj P w K mg bi (G6 P w) 1 f fd ["kind","name"] (Am (gc dN)):=by
 show Sw F fz (λts Γ Z Y h=>?_) (λcq A outer s H E ts Γ Z Y hr h=>?_)
 ·let⟨hd,fs,x,rfl,_⟩:=h
  rfl
 let⟨hd,fs,x,rfl,sx,q,qE⟩:=h;show⟨_,(A4 (Ed dw rfl (vT rfl j3 (A3 (AJ (A0 0) A7) A6)) (C0 (n:=2) rfl (AS (Aj (i:=2) fz.nd) (AS (C0 (n:=2) rfl (AS (Aj (i:=3) fz.nd) (AS (Aj (i:=4) fz.nd) Bw))) Bw))) (A4 (Aq (BB CO (A0 3) (A0 1)) (A4 (AK (A0 2))
  A8) A8)
  A8))
  (A4 (YA rfl rfl eW nj RE (A3 Ax A6) RF)
  A8)),?_⟩
 simp only[As];left;show⟨λv6 τ Γ'=>∃(i:Nat) (gs:ad) (o2 o3 o4:Option T),v6=Io i (DY gs)∧τ=[some (.tup [.str hd,.tup (DY fs)]),some x,o2,o3,o4]∧Γ'=Γ∧F1 fs x=(F1 gs x).map λp=>(p.1+i,p.2),?_,?_,?_⟩
 ·show Ps5 0 fs none none none ⟨rfl,rfl,rfl,by cases F1 fs x<;>rfl⟩
 ·intro τ Γ'⟨i,gs,o2,o3,o4,e,rfl,rfl,b⟩
  cases gs with
  |cons p r=>cases e
  |nil=>
   show⟨trivial,?_⟩;left;show⟨Γ',.refl,qE ?_⟩;rw[b];cases sx<;>rfl
 ·intro x0 r τ Γ'⟨i,gs,o2,o3,o4,e,rfl,rfl,b⟩
  cases gs with
  |nil=>cases e
  |cons p gs=>
   obtain⟨n,k⟩:=p;cases e;left;cases sx with
   |int j=>
    left;show Ps5 (i+1) gs _ _ _ ⟨rfl,rfl,rfl,b⟩
   |@str z l=>
    exists c
    ·cases O3 c
     left;show AD .refl (q i k ?_);rw[b];show(if n=n then some (0,k)else _).map _=_
     rw[AO rfl];show some (0+i,k)=_
     rw[Nat.zero_add]
    ·left
     show Ps5 (i+1) gs _ _ _ ⟨rfl,rfl,rfl,?_⟩;rw[b];show(if n=z then some (0,k)else(findF gs z).map λp=>(p.1+1,p.2)).map _=_
     rw[AL (Oq c)];show abS _ _
def Sx.pt{x:T}(h:Sx x):Pt Γ x:=by
 cases h with
 |int i=>show .int i
 |str l=>show .str (by lia)
noncomputable abbrev U6:Stmt:=B6 17
def nC:Av ["kind","step","head"] ["kind","step"] (Ag U6):=nofun
abbrev fe(D:Addr):Ay:=λts Γ Z Y=>∃(k:Kd) (x:T),ts=[k.tr,x]∧Sx x∧(∀k',stepK k x=some k'→Z k'.tr Γ)∧(stepK k x=none→Y (.ref D) Γ)
def abB(F:cT K "step_kind" "step_kind" U6 f fd)(bY:Ae P w K mg bi "is_whole" 1 ["thing"] IQ)(um:LQ P w K mg bi "field_place" 1 ["kind","name"] (gc dN))(eW:mg "NoPart" = some (.ref dN))(nj:W.excIn K dN [.type "ValueError",.type "Exception",.type "BaseException",.type "object"] "ValueError.__new__" = true)
  (cL:mg "MOST_ITEMS" = some v1) (eJ:DI v1 (.int 60)):bj P w K mg bi (G6 P w) 2 f fd ["kind","step"] (Am (fe dN)):=by
 show Sw F nC (λts Γ Z Y h=>?_) (λcq A outer s H E ts Γ Z Y hr h=>?_)
 ·let⟨k,x,rfl,_⟩:=h
  rfl
 let⟨k,x,rfl,sx,q,qE⟩:=h;show⟨_,(A4 (An (i:=2) nC.nd (AJ (A0 0) A7))
  (A4 (Aq (BB CO (A0 2) Ax) (A4 (Aq (PW.pt (JE (BN (Al bY hr (A3 (A0 1) A6))) (Jh (Na FQ K9 A7 (A0 1) (E5 rfl cL eJ))))) (A4 (AK (AJ (A0 0) A7))
  A8) A8)
  (A4 (YA rfl rfl eW nj RE (A3 Ax A6) RF)
  A8)) A8)
  (A4 (Aq (K3 RN (A0 2) (BC (A3 Ax (A3 Ax A6))) (by with_unfolding_all rfl)) (A4 (AK (AJ (AJ (AJ (A0 0) A7) (Y0 um hr fQ (A3 (A0 0) (A3 (A0 1) A6)))) A7))
  A8) A8)
  (A4 (YA rfl rfl eW nj RE (A3 Ax A6) RF)
  A8)))),?_⟩
 simp only[As];let no:stepK k x=none→∃Γ2,Le Γ2 Γ∧Y (.ref dN) Γ2:=λe=>⟨Γ,.refl,qE e⟩;cases k with
 |num wd=>rw[Kd.tr];left;show no rfl
 |text=>rw[Kd.tr];left;show no rfl
 |row j=>
  rw[Kd.tr];left;show⟨x,rfl,sx.pt,?_⟩;cases sx with
  |str l=>left;show no rfl
  |int i=>
   exists c
   ·left
    show AU (λc2=>?_) (λc2=>?_)
    ·left
     show AD .refl (q j ?_);show AO ⟨DN c,DN c2⟩
    ·left
     show no (AL λz=>F7 c2 z.2)
   ·left
    show no (AL λz=>F7 c z.1)
 |rec_ fs=>
  rw[Kd.tr];left;show Ps3 ("rec") fs x ⟨rfl,sx,λj k e=>?_,λe=>no (by show(F1 fs x).map _=_;rw[e];rfl)⟩;let⟨n,rfl,m⟩:=Od e;show ID (bC m) ?_;left;show AD .refl (q k (by show(F1 fs _).map _=_;rw[e];rfl))
 |pick fs=>
  rw[Kd.tr];left;show Ps3 ("pick") fs x ⟨rfl,sx,λj k e=>?_,λe=>no (by show(F1 fs x).map _=_;rw[e];rfl)⟩;let⟨n,rfl,m⟩:=Od e;show ID (bC m) ?_;left;show AD .refl (q k (by show(F1 fs _).map _=_;rw[e];rfl))
noncomputable abbrev UW:Stmt:=B6 16
def hG:Av ["kind","path","found","step"] ["kind","path"] (Ag UW):=nofun
abbrev gW(D:Addr):Ay:=λts Γ Z Y=>∃(k:Kd) (ps:List T),ts=[k.tr,.tup ps]∧(∀p∈ps,Sx p)∧(∀k',DK k ps=some k'→Z k'.tr Γ)∧(DK k ps=none→Y (.ref D) Γ)
def nk(F:cT K "part_kind" "part_kind" UW f fd)(xT:LQ P w K mg bi "step_kind" 2 ["kind","step"] (fe dN)):bj P w K mg bi (G6 P w) 3 f fd ["kind","path"] (Am (gW dN)):=by
 show Sw F hG (λts Γ Z Y h=>?_) (λcq A outer s H E ts Γ Z Y hr h=>?_)
 ·let⟨k,ps,rfl,_⟩:=h
  rfl
 let⟨k,ps,rfl,hp,q,qE⟩:=h;show⟨_,(A4 (An (i:=2) hG.nd (A0 0))
  (A4 (Ed dw rfl (DX (A0 1)) (Aj (i:=3) hG.nd) (A4 (An (i:=2) hG.nd (Y0 xT hr fQ (A3 (A0 2) (A3 (A0 3) A6))))
  A8))
  (A4 (AK (A0 2))
  A8))),?_⟩
 simp only[As];left;show⟨λv6 τ Γ'=>∃(k':Kd) (o3:Option T),τ=[some k.tr,some (.tup ps),some k'.tr,o3]∧Γ'=Γ∧(∀p∈v6,Sx p)∧DK k ps=DK k' v6,?_,?_,?_⟩
 ·show Ps2 k none ⟨rfl,rfl,hp,rfl⟩
 ·intro τ Γ'⟨k',o3,rfl,rfl,wF,e⟩
  show⟨trivial,?_⟩;left;show AD .refl (q k' e)
 ·intro x r τ Γ'⟨k',o3,rfl,rfl,wF,e⟩
  have e':DK k ps=match stepK k' x with|some k2=>DK k2 r|none=>none:=e
  left;show Ps2 k' x ⟨rfl,wF x (by simp),λk3 e3=>?_,λe3=>⟨Γ',.refl,qE (by rw[e',e3])⟩⟩;left;show Ps2 k3 _ ⟨rfl,rfl,λp hp=>wF p (by simp[hp]),by rw[e',e3]⟩
noncomputable abbrev aY:Stmt:=B6 58
def ab6:Av ["kind","path"] ["kind","path"] (Ag aY):=nofun
abbrev FE:Option Kd→T
 |some k=>k.tr
 |none=>.non
abbrev MW:Ay:=λts Γ Z _=>∃(k:Kd) (ps:List T),ts=[k.tr,.tup ps]∧(∀p∈ps,Sx p)∧Z (FE (DK k ps)) Γ
def nL(F:cT K "kind_at" "kind_at" aY f fd)(xU:LQ P w K mg bi "part_kind" 3 ["kind","path"] (gW dN))(eW:mg "NoPart" = some (.ref dN))(xm:W.exmOne K (.ref dN) (.ref dN)=some true):bj P w K mg bi Ao 4 f fd ["kind","path"] (Am MW):=by
 show B5 F ab6 (λts Γ Z Y h=>?_) (λcq A outer s H E ts Γ Z Y hr h=>?_)
 ·let⟨k,ps,rfl,_⟩:=h
  rfl
 let⟨k,ps,rfl,hp,q⟩:=h;show⟨_,(A4 (xB rfl rfl rfl eW (λ_ _ _ hx=>(A4 (AK (Y0 xU hr hx (A3 (A0 0) (A3 (A0 1) A6))))
  A8)) (λ_=>(A4 (AK GF)
  A8)))
  A8),?_⟩
 simp only[As];left;unfold gA;left;show Ps2 k ps ⟨rfl,hp,λk' e=>AD .refl (by rw[e]at q;show q),λe=>⟨xm,?_⟩⟩;rw[e]at q;left;show AD .refl q
end
inductive Sm where
 |new (x:Str) (k:Kd) (w:T)
 |copy (x y:Str)
 |part (x y:Str) (p:List T)
 |put (y:Str) (p:List T) (x:Str)
 |add (y:Str) (p:List T) (x:Str)
 |drop (x:Str)
 |say (x:Str)
 |call (z:Option Str) (d:Str) (ns:List Str)
 |same (x y:Str) (a b:List Sm)
 |fail (n:Int)
 |tri (a b:List Sm)
 |back (x:Str)
abbrev dI:Option Str→T
 |some z=>.str z
 |none=>.non
mutual
def Sm.tr:Sm→T
 |.new x k w=>.tup [.str "new",.str x,k.tr,w]
 |.copy x y=>.tup [.str "copy",.str x,.str y]
 |.part x y p=>.tup [.str "part",.str x,.str y,.tup p]
 |.put y p x=>.tup [.str "put",.str y,.tup p,.str x]
 |.add y p x=>.tup [.str "add",.str y,.tup p,.str x]
 |.drop x=>.tup [.str "drop",.str x]
 |.say x=>.tup [.str "say",.str x]
 |.call z d ns=>.tup [.str "call",dI z,.str d,.tup (ns.map T.str)]
 |.same x y a b=>.tup [.str "same",.str x,.str y,.tup (DU a),.tup (DU b)]
 |.fail n=>.tup [.str "fail",.int n]
 |.tri a b=>.tup [.str "try",.tup (DU a),.tup (DU b)]
 |.back x=>.tup [.str "back",.str x]
def DU:List Sm→List T
 |[]=>[]
 |s::r=>s.tr::DU r
end
def je:∀ss:List Sm,DU ss=ss.map Sm.tr
 |[]=>by rw[DU];rfl
 |s::r=>by rw[DU,je r];rfl
mutual
def Sm.Ok:Sm→Prop
 |.new x k w=>x.length≤1000∧k.good∧k.depth≤5∧∀Γ,Pt Γ w
 |.copy x y=>x.length≤1000∧y.length≤1000
 |.part x y p=>x.length≤1000∧y.length≤1000∧p.length≤1000∧∀t∈p,Sx t
 |.put y p x=>y.length≤1000∧x.length≤1000∧p.length≤1000∧∀t∈p,Sx t
 |.add y p x=>y.length≤1000∧x.length≤1000∧p.length≤1000∧∀t∈p,Sx t
 |.drop x=>x.length≤1000
 |.say x=>x.length≤1000
 |.call z d ns=>(∀x,z=some x→x.length≤1000)∧d.length≤1000∧ns.length≤1000∧∀x∈ns,x.length≤1000
 |.same x y a b=>x.length≤1000∧y.length≤1000∧a.length≤1000∧b.length≤1000∧CT a∧CT b
 |.fail _=>True
 |.tri a b=>a.length≤1000∧b.length≤1000∧CT a∧CT b
 |.back x=>x.length≤1000
def CT:List Sm→Prop
 |[]=>True
 |s::r=>s.Ok∧CT r
end
def kA:∀{ss:List Sm} {s:Sm},CT ss→s∈ss→s.Ok
 |s::r,x,h,hx=>by
  unfold CT at h;rcases aaf.mp hx with rfl|hx
  ·show h.1
  ·show kA h.2 hx
abbrev D2(x:Str):Bool:=EW (.str x)
mutual
def Sm.fm:Sm→Nat→Bool
 |.new x k w,_=>D2 x&&CA k w
 |.copy x y,_=>D2 x&&D2 y
 |.part x y _,_=>D2 x&&D2 y
 |.put y _ x,_=>D2 y&&D2 x
 |.add y _ x,_=>D2 y&&D2 x
 |.drop x,_=>D2 x
 |.say x,_=>D2 x
 |.call z d ns,_=>z.all D2&&(D2 d&&ns.all D2)
 |.same x y a b,d=>D2 x&&(D2 y&&((decide (d+1≤4)&&CV a (d+1))&&(decide (d+1≤4)&&CV b (d+1))))
 |.fail n,_=>decide (0≤n)&&decide (n≤999)
 |.tri a b,d=>(decide (d+1≤4)&&CV a (d+1))&&(decide (d+1≤4)&&CV b (d+1))
 |.back x,_=>D2 x
def CV:List Sm→Nat→Bool
 |[],_=>true
 |s::r,d=>s.fm d&&CV r d
end
def iA:∀(ss:List Sm) (d:Nat),CV ss d=ss.all λs=>s.fm d
 |[],d=>by rw[CV];rfl
 |s::r,d=>by rw[CV,iA r d];rfl
abbrev wJ(ss:List Sm)(d:Nat):Bool:=decide (d≤4)&&CV ss d
inductive jh where
 |name (x:Str)
 |nmn (z:Option Str)
 |nms (ns:List Str)
 |path (p:List T)
 |kind (k:Kd)
 |worth (w:T)
 |body (ss:List Sm)
 |fail (n:Int)
abbrev jh.sort:jh→Str
 |.name _ => "name"
 |.nmn _ => "name\x20or\x20none"
 |.nms _ => "names"
 |.path _ => "path"
 |.kind _ => "kind"
 |.worth _ => "worth"
 |.body _ => "body"
 |.fail _ => "fail"
abbrev jh.tr:jh→T
 |.name x=>.str x
 |.nmn z=>dI z
 |.nms ns=>.tup (ns.map T.str)
 |.path p=>.tup p
 |.kind k=>k.tr
 |.worth w=>w
 |.body ss=>.tup (DU ss)
 |.fail n=>.int n
abbrev jh.Ok:jh→Prop
 |.name x=>x.length≤1000
 |.nmn z=>∀x,z=some x→x.length≤1000
 |.nms ns=>ns.length≤1000∧∀x∈ns,x.length≤1000
 |.path p=>p.length≤1000∧∀t∈p,Sx t
 |.kind k=>k.good∧k.depth≤5
 |.worth _=>True
 |.body ss=>ss.length≤1000∧CT ss
 |.fail _=>True
abbrev jh.fm(d:Nat):jh→Bool
 |.name x=>D2 x
 |.nmn z=>z.all D2
 |.nms ns=>ns.all D2
 |.path _=>true
 |.kind _=>true
 |.worth _=>true
 |.body ss=>wJ ss (d+1)
 |.fail n=>decide (0≤n)&&decide (n≤999)
abbrev Sm.word:Sm→Str
 |.new .. => "new"
 |.copy .. => "copy"
 |.part .. => "part"
 |.put .. => "put"
 |.add .. => "add"
 |.drop .. => "drop"
 |.say .. => "say"
 |.call .. => "call"
 |.same .. => "same"
 |.fail .. => "fail"
 |.tri .. => "try"
 |.back .. => "back"
abbrev Sm.ps:Sm→List jh
 |.new x k w=>[.name x,.kind k,.worth w]
 |.copy x y=>[.name x,.name y]
 |.part x y p=>[.name x,.name y,.path p]
 |.put y p x=>[.name y,.path p,.name x]
 |.add y p x=>[.name y,.path p,.name x]
 |.drop x=>[.name x]
 |.say x=>[.name x]
 |.call z d ns=>[.nmn z,.name d,.nms ns]
 |.same x y a b=>[.name x,.name y,.body a,.body b]
 |.fail n=>[.fail n]
 |.tri a b=>[.body a,.body b]
 |.back x=>[.name x]
abbrev Sm.Vj:Sm→Bool
 |.new _ k w=>CA k w
 |_=>true
def Sm.Jp(s:Sm):s.tr=.tup (.str s.word::s.ps.map jh.tr):=by cases s<;>(unfold Sm.tr;rfl)
def Sm.O8(h:s.Ok):∀p∈s.ps,p.Ok:=by
 cases s<;>(unfold Sm.Ok at h;simp[Sm.ps,jh.Ok];try (simp_all))
def Sm.Qt(s:Sm)(d:Nat):s.fm d=(s.ps.all (jh.fm d)&&s.Vj):=by
 cases s<;>(unfold Sm.fm;simp[Sm.ps,jh.fm,Sm.Vj,wJ,Kr])
def Sm.Lh(s:Sm):s.ps.length≤4:=by cases s<;>(show _≤4;simp[Sm.ps])
abbrev sorts:List (Str×List Str):=[("new",["name","kind","worth"]),("copy",["name","name"]),("part",["name","name","path"]),("put",["name","path","name"]),("add",["name","path","name"]),("drop",["name"]),("say",["name"]),("call",["name\x20or\x20none","name","names"]),("same",["name","name","body","body"]),("fail",["fail"]),("try",["body","body"]),("back",["name"])]
abbrev NT(P:Program)(w:World)(K:W.Frag)(a:Addr):Prop:=∃bs:List Addr,bs.length=12∧Bp P w K a ((sorts.map (·.1)).zip bs)∧∀(i:Nat) (z:Str) (ss:List Str) (b:Addr),sorts[i]?=some (z,ss)→bs[i]?=some b→eN K b (ss.map V.str)
def Sm.sorted(s:Sm):∃i:Nat,sorts[i]?=some (s.word,s.ps.map jh.sort)∧∀bs:List Addr,bs.length=12→((sorts.map (·.1)).zip bs).lookup s.word=bs[i]? := by
 let key:∀i:Nat,i<12→∀z,(sorts.map (·.1))[i]?=some z→∀bs:List Addr,bs.length=12→((sorts.map (·.1)).zip bs).lookup z=bs[i]? := by
  intro i hi z hz bs hb;match bs,hb with
  |[b0,b1,b2,b3,b4,b5,b6,b7,b8,b9,RH,RG],_=>
   have:i=0∨i=1∨i=2∨i=3∨i=4∨i=5∨i=6∨i=7∨i=8∨i=9∨i=10∨i=11:=by lia
   rcases this with rfl|rfl|rfl|rfl|rfl|rfl|rfl|rfl|rfl|rfl|rfl|rfl<;>(cases hz;rfl)
 cases s with
 |new x k w=>show⟨0,rfl,key 0 (by decide) _ rfl⟩
 |copy x y=>show⟨1,rfl,key 1 (by decide) _ rfl⟩
 |part x y p=>show⟨2,rfl,key 2 (by decide) _ rfl⟩
 |put y p x=>show⟨3,rfl,key 3 (by decide) _ rfl⟩
 |add y p x=>show⟨4,rfl,key 4 (by decide) _ rfl⟩
 |drop x=>show⟨5,rfl,key 5 (by decide) _ rfl⟩
 |say x=>show⟨6,rfl,key 6 (by decide) _ rfl⟩
 |call z d ns=>show⟨7,rfl,key 7 (by decide) _ rfl⟩
 |same x y a b=>show⟨8,rfl,key 8 (by decide) _ rfl⟩
 |fail n=>show⟨9,rfl,key 9 (by decide) _ rfl⟩
 |tri a b=>show⟨10,rfl,key 10 (by decide) _ rfl⟩
 |back x=>show⟨11,rfl,key 11 (by decide) _ rfl⟩
def cy{H:A5}:∀ss:List Str,Rs H (ss.map V.str) (ss.map T.str)
 |[]=>GB
 |_::r=>FP IU (cy r)
def kt_str{K:W.Frag}{b:Addr}{ss:List Str}(h:eN K b (ss.map V.str)):KT K b (ss.map T.str):=⟨_,h,λH=>cy ss⟩
def NT.get{P:Program}{w:World}{K:W.Frag}(h:NT P w K a)(s:Sm):∃aA b,Bp P w K a aA∧aA.lookup s.word=some b∧KT K b ((s.ps.map jh.sort).map T.str):=by
 let⟨bs,hl,kd,kt⟩:=h;let⟨i,e,lk⟩:=s.sorted;let hi:i<bs.length:=by
  have:=(abe.mp e).1;rw[hl];show this
 show Ps2 _ (bs[i]) ⟨kd,?_,kt_str (kt i _ _ _ e (BV hi))⟩;rw[lk bs hl,BV hi]
def se{c:Nat}(h:97≤c∧c≤122):Ko c=true:=by
 rw[zY c (by lia)];simp[h.1,h.2]
def Lz(h:Nm z):EW (.str z)=true:=by
 rw[Ni,BU h.1,BU h.2.1,Bc,Bc,aaR];exactλc hc=>se (h.2.2 c hc)
def ju(fs:ad):(DY fs).map HH=fs.map (·.1):=by
 rw[QA,CU];rfl
mutual
theorem Zm:∀{k:Kd} {d:Nat},k.good→k.depth≤d→Bg d k.tr=true
 |.num w,d,g,h=>by
  rw[Kd.depth]at h;obtain⟨d,rfl⟩:∃e,d=e+1:=⟨d-1,by lia⟩;unfold Kd.good at g;rw[Kd.tr,N6,AO rfl];show(decide (1≤w)&&decide (w≤4))=true
  rw[BU g.1,BU g.2];rfl
 |.text,d,g,h=>by
  rw[Kd.depth]at h;obtain⟨d,rfl⟩:∃e,d=e+1:=⟨d-1,by lia⟩;rw[Kd.tr,iX];show BU rfl
 |.row k,d,g,h=>by
  rw[Kd.depth]at h;obtain⟨d,rfl⟩:∃e,d=e+1:=⟨d-1,by lia⟩;unfold Kd.good at g;rw[Kd.tr,N6,AL (by done),AO rfl];show Zm g (by lia)
 |.rec_ fs,d,g,h=>by
  rw[Kd.depth]at h;obtain⟨d,rfl⟩:∃e,d=e+1:=⟨d-1,by lia⟩;unfold Kd.good at g;rw[Kd.tr,N6,AL (by done),AL (by done),LW,TE g.1 (by lia),JY,BU g.2.1,BU g.2.2.1,ju,BU g.2.2.2];done
 |.pick fs,d,g,h=>by
  rw[Kd.depth]at h;obtain⟨d,rfl⟩:∃e,d=e+1:=⟨d-1,by lia⟩;unfold Kd.good at g;rw[Kd.tr,N6,AL (by done),AL (by done),LW,TE g.1 (by lia),JY,BU g.2.1,BU g.2.2.1,ju,BU g.2.2.2];done
theorem TE:∀{fs:List (Str×Kd)} {d:Nat},Fz fs→HD fs≤d→(DY fs).all (Fx (Bg d))=true
 |[],d,g,h=>rfl
 |(n,k)::r,d,g,h=>by
  rw[HD]at h;unfold Fz at g;rw[DY,Ib,TE g.2.2 (by lia),Ic];show(EW (.str n)&&Bg d k.tr)=true
  rw[Lz g.1,Zm g.2.1 (by lia)];rfl
end
def OA(h:k.good)(d:k.depth≤5):Bg 5 k.tr=true:=Zm h d
def La{a b:T}(h:Pt Γ a)(h':Pt Γ b):Pt Γ (.tup [a,b]):=.tup (by simp) λt m=>by
 rcases aaf.mp m with rfl|m
 ·show h
 ·rcases aaf.mp m with rfl|m
  ·show h'
  ·cases m
mutual
theorem KD{Γ:AR}:∀{k:Kd},k.good→Pt Γ k.tr
 |.num w,g=>by rw[Kd.tr];show La (.str (by done)) (.int _)
 |.text,g=>by rw[Kd.tr];show .tup (by simp) λt m=>by(rcases aaf.mp m with rfl|m);show .str (by done);cases m
 |.row k,g=>by
  unfold Kd.good at g;rw[Kd.tr];show La (.str (by done)) (KD g)
 |.rec_ fs,g=>by
  unfold Kd.good at g;rw[Kd.tr];show La (.str (by done)) (.tup (by rw[JY];lia) (SH g.1))
 |.pick fs,g=>by
  unfold Kd.good at g;rw[Kd.tr];show La (.str (by done)) (.tup (by rw[JY];lia) (SH g.1))
theorem SH{Γ:AR}:∀{fs:List (Str×Kd)},Fz fs→∀t∈DY fs,Pt Γ t
 |[],g,t,h=>by rw[DY]at h;cases h
 |(n,k)::r,g,t,h=>by
  rw[DY]at h;unfold Fz at g;rcases aaf.mp h with rfl|h
  ·show La (.str (by lia)) (KD g.2.1)
  ·show SH g.2.2 t h
end
section
variable {K: W.Frag}
noncomputable abbrev TC:Stmt:=B6 48
def sR:Av ["thing"] ["thing"] (Ag TC):=nofun
abbrev Qq:Ay:=λts Γ Z _=>∃p:List T,ts=[.tup p]∧p.length≤1000∧(∀t∈p,Sx t)∧Z (.bl true) Γ
def tC(F:cT K "is_path" "is_path" TC f fd)(bY:Ae P w K mg bi "is_whole" 1 ["thing"] IQ)(ai:mg "isinstance" = none)(aE:mg "tuple" = none)(cU:mg "str" = none)(bu:mg "all" = none):bj P w K mg bi Ao 2 f fd ["thing"] (Am Qq):=by
 show B5 F sR (λts Γ Z Y h=>?_) (λcq A outer s H E ts Γ Z Y hr h=>?_)
 ·let⟨p,rfl,_⟩:=h
  rfl
 let⟨p,rfl,pl,sx,q⟩:=h;show⟨_,(A4 (Aq (BQ (BN (D0 rfl ai rfl aE E9 (A0 0)))) (A4 (AK BL)
  A8) A8)
  (A4 (AK (Aw (FI rfl) rfl bu FN (A3 (Dl (own:=["step"]) (cap:=[]) Ec rfl (DX (A0 0)) (λ_ _ _ _=>GQ) (λ_ _ _ _=>Di) (λ_ _ _ _=>(LO (acw (K:=K) rfl rfl ai rfl cU JF (A0 0)) (CP (Al bY hr (A3 (A0 0) A6)))))) A6)))
  A8)),?_⟩
 simp only[As];left;show Ps2 _ true ⟨rfl,rfl,?_⟩;left;show⟨Cv (D3 (by lia)),?_⟩;show⟨λv6 τ ys Γ'=>∃(bs:List Bool) (o:Option T),(∀t∈v6,Sx t)∧(∀b∈bs,b=true)∧τ=[o]∧ys=bs.map T.bl∧Γ'=Γ,Ps2 [] none ⟨sx,by simp,rfl,rfl,rfl⟩,?_,?_⟩
 ·intro τ ys Γ'⟨bs,o,_,hb,rfl,rfl,rfl⟩
  show⟨trivial,?_⟩;clear p1 cS e1 Γ1 g1 l1
  left;show Ps2 p1 bs ⟨rfl,BD g1,?_⟩;rw[show bs.all id=true from aaR.mpr hb];show AD l1 q
 ·intro x r τ ys Γ'⟨bs,o,hx,hb,rfl,rfl,rfl⟩
  show⟨trivial,?_⟩;let Vy:=hx x (by simp);left;show Et (in_str Vy.pt) ?_;left;cases Vy with
  |str l=>
   left;show Ps2 (bs++[true]) _ ⟨λt h=>hx t (Cn _ h),by simpa using hb,rfl,by simp,rfl⟩
  |int i=>
   left;show⟨.int i,rfl,.int i,?_⟩;show Ps2 (bs++[true]) _ ⟨λt h=>hx t (Cn _ h),by simpa using hb,rfl,by simp[SS],rfl⟩
abbrev QE(n:Nat):Ay:=λts Γ Z _=>∃(ss:List Sm) (d:Nat),ts=[.tup (DU ss),.int d]∧CT ss∧ss.length≤1000∧d≤5∧6≤d+n∧Z (.bl (wJ ss d)) Γ
abbrev SK(n:Nat):Ay:=λts Γ Z _=>∃(s:Sm) (d:Nat),ts=[s.tr,.int d]∧s.Ok∧d≤4∧5≤d+n∧Z (.bl (s.fm d)) Γ
abbrev aN(n:Nat):Ay:=λts Γ Z _=>∃(p:jh) (d:Nat),ts=[.str p.sort,p.tr,.int d]∧p.Ok∧d≤4∧5≤d+n∧Z (.bl (p.fm d)) Γ
noncomputable abbrev PZ:Stmt:=B6 47
def qB:Av ["sort","thing","depth"] ["sort","thing","depth"] (Ag PZ):=nofun
def wV(F:cT K "is_of_sort" "is_of_sort" PZ f fd)(cC:Ae P w K mg bi "is_name" 1 ["thing"] IY)(lT:Ae P w K mg bi "is_path" 2 ["thing"] Qq)(dH:Ae P w K mg bi "is_kind" 20 ["thing"] LN)(bY:Ae P w K mg bi "is_whole" 1 ["thing"] IQ)(pQ:Ae P w K mg bi "is_body" (lv+20) ["thing","depth"] (QE n))(cZ:mg "GREATEST_FAIL" = some v1)(fb:DI v1 (.int 999))(ai:mg "isinstance" = none)(aE:mg "tuple" = none)(bu:mg "all" = none):bj P w K mg bi Ao (lv+21) f fd ["sort","thing","depth"] (Am (aN n)):=by
 show B5 F qB (λts Γ Z Y h=>?_) (λcq A outer s H E ts Γ Z Y hr h=>?_)
 ·let⟨p,d,rfl,_⟩:=h
  rfl
 let⟨p,d,rfl,po,d4,dn,q⟩:=h;show⟨_,(A4 (Aq (BB CO (A0 0) Ax) (A4 (AK (Al cC hr (A3 (A0 1) A6)))
  A8) A8)
  (A4 (Aq (BB CO (A0 0) Ax) (A4 (AK (LO (DZ MY (A0 1) GF) (CP (Al cC hr (A3 (A0 1) A6)))))
  A8) A8)
  (A4 (Aq (BB CO (A0 0) Ax) (A4 (AK (CK (D0 rfl ai rfl aE E9 (A0 1)) (CP (Aw (FI rfl) rfl bu FN (A3 (Dl (own:=["name"]) (cap:=[]) Ec rfl (DX (A0 1)) (λ_ _ _ _=>GQ) (λ_ _ _ _=>Di) (λ_ _ _ _=>(Al cC hr (A3 (A0 0) A6)))) A6)))))
  A8) A8)
  (A4 (Aq (BB CO (A0 0) Ax) (A4 (AK (Al lT hr (A3 (A0 1) A6)))
  A8) A8)
  (A4 (Aq (BB CO (A0 0) Ax) (A4 (AK (Al dH hr (A3 (A0 1) A6)))
  A8) A8)
  (A4 (Aq (BB CO (A0 0) Ax) (A4 (AK (Al pQ hr (A3 (A0 1) (A3 (AH DO (A0 2) A7) A6))))
  A8) A8)
  (A4 (Aq (BB CO (A0 0) Ax) (A4 (AK (CK (Al bY hr (A3 (A0 1) A6)) (CP (MV FQ FQ A7 (A0 1) (E5 rfl cZ fb)))))
  A8) A8)
  (A4 (AK (DZ CO (A0 0) Ax))
  A8)))))))),?_⟩
 simp only[As];cases p with
 |name x=>
  simp only[jh.sort,jh.tr];left;show⟨.str x,rfl,.str (D6 (show x.length≤1000 from po) (by decide)),AD .refl q⟩
 |nmn z=>
  simp only[jh.sort,jh.tr];left;cases z with
  |none=>
   show if Gs T.non=true then _ else _
   left;show AD .refl q
  |some x=>
   show if Gs (T.str x)=true then _ else _
   left;show⟨.str x,rfl,.str (D6 (po x rfl) (by decide)),AD .refl q⟩
 |nms ns=>
  simp only[jh.sort,jh.tr];let⟨nl,nx⟩:=po;left;show Ps2 _ true ⟨rfl,rfl,?_⟩;left;show⟨Cv (D3 (by rw[AF];lia)),?_⟩;show⟨λv6 τ ys Γ'=>∃(ms os:List Str) (o:Option T),v6=ms.map T.str∧ns=os++ms∧τ=[o]∧ys=(os.map D2).map T.bl∧Γ'=Γ,Ps3 ns [] none ⟨rfl,rfl,rfl,rfl,rfl⟩,?_,?_⟩
  ·intro τ ys Γ'⟨ms,os,o,er,ez,rfl,rfl,rfl⟩
   let hz:ms=[]:=by
    cases ms with
    |nil=>rfl
    |cons _ _=>cases er
   subst hz;rw[BX]at ez;subst ez;show⟨trivial,?_⟩;clear p1 cS e1 Γ1 g1 l1
   left;show Ps2 p1 _ ⟨rfl,BD g1,?_⟩;rw[FT];show AD l1 q
  ·intro x r τ ys Γ'⟨ms,os,o,er,ez,rfl,rfl,rfl⟩
   cases ms with
   |nil=>cases er
   |cons m ms=>
    cases er;show⟨trivial,?_⟩;left;show⟨.str m,rfl,.str (D6 (nx m (by rw[ez];simp)) (by decide)),?_⟩;show Ps3 ms (os++[m]) _ ⟨rfl,by rw[ez];simp,rfl,by rw[AZ,AZ];rfl,rfl⟩
 |path p=>
  simp only[jh.sort,jh.tr];left;show⟨p,rfl,po.1,po.2,AD .refl q⟩
 |kind k=>
  simp only[jh.sort,jh.tr];left;show⟨k.tr,rfl,KD po.1,AD .refl (by rw[OA po.1 po.2];show q)⟩
 |worth x=>
  simp only[jh.sort,jh.tr];left;show AD .refl q
 |body ss=>
  simp only[jh.sort,jh.tr];left;show Ps2 ss (d+1) ⟨rfl,po.2,po.1,by lia,by lia,AD .refl q⟩
 |fail i=>
  simp only[jh.sort,jh.tr];left;show⟨.int i,rfl,.int i,?_⟩;left;let q:Z (.bl (decide (0≤i)&&decide (i≤999))) Γ:=q;show AU (λc=>?_) (λc=>?_)
  ·rw[c,Bc]at q
   left;show AD .refl q
  ·rw[c]at q
   show AD .refl q
end
def Ft{y:Str}(h:z≠y):(!decide (V.str z=V.str y))=true:=by simp[h]
def vo{a b:T}{us:List T}:FA (a::ts) (b::us)=.tup [a,b]::FA ts us:=rfl
section
variable {K: W.Frag}{QO: Addr}
noncomputable abbrev Nn:Stmt:=B6 46
def jK:Av ["thing","depth","sorts"] ["thing","depth"] (Ag Nn):=nofun
def acf(F:cT K "is_statement" "is_statement" Nn f fd)(eI:mg "STATEMENTS" = some (.ref QO))(h_ST:NT P w K QO)(wo:Ae P w K mg bi "is_of_sort" (lv+21) ["sort","thing","depth"] (aN n))(cH:Ae P w K mg bi "is_worth" 13 ["kind","thing"] (Im 6))(ai:mg "isinstance" = none)(aE:mg "tuple" = none)(cU:mg "str" = none)(aB:mg "len" = none)(bu:mg "all" = none)(fS:mg "zip" = none):bj P w K mg bi Ao (lv+22) f fd ["thing","depth"] (Am (SK n)):=by
 show B5 F jK (λts Γ Z Y h=>?_) (λcq A outer s H E ts Γ Z Y hr h=>?_)
 ·let⟨s,d,rfl,_⟩:=h
  rfl
 let⟨s,d,rfl,so,d4,dn,q⟩:=h;show⟨_,(A4 (Aq (PW.pt (Cj (BQ (BN (D0 rfl ai rfl aE E9 (A0 0)))) (Cj (BQ (adg (A0 0) (λ_=>rfl))) (DG (BQ (BN (D0 rfl ai rfl cU JF (AJ (A0 0) A7)))))))) (A4 (AK BL)
  A8) A8)
  (A4 (An (i:=2) jK.nd (rY (E5 rfl eI Kv) (AJ (A0 0) A7) ⟨rfl,rfl,rfl,rfl⟩))
  (A4 (Aq (PW.pt (Cj (BB MY (A0 2) GF) (DG (BB Ee (Aw Bi rfl aB BF (A3 (A0 0) A6)) (AH DO A7 (Aw aaw rfl aB BF (A3 (A0 2) A6))))))) (A4 (AK BL)
  A8) A8)
  (A4 (Aq (BQ (BN (Aw (FI rfl) rfl bu FN (A3 (Dl (own:=["sort","part"]) (cap:=[(1,"depth")]) (Fp rfl (by done) (by done) rfl (⟨rfl,trivial⟩) rfl (⟨⟨rfl,rfl,rfl⟩,trivial⟩)) rfl (uT rfl fS (A3 (A0 2) (A3 (DB Lf (A0 0) (CF A7) Ef) A6))) (λ_ _ _ _=>(C0 (n:=2) rfl (AS (Ba (i:=0) (show List.Nodup (["sort","part","depth"]:List Str)from by done) rfl (Or.inl rfl) (Or.inr rfl)) (AS (Ba (i:=1) (show List.Nodup (["sort","part","depth"]:List Str)from by done) rfl (Or.inl rfl) (Or.inr rfl)) Bw)))) (λ_ _ _ _=>Di) (λ_ _ _ _=>(Al wo hr (A3 (A0 0) (A3 (A0 1) (A3 (A0 2) A6)))))) A6)))) (A4 (AK BL)
  A8) A8)
  (A4 (AK (LO (DZ Ee (AJ (A0 0) A7) Ax) (CP (Al cH hr (A3 (AJ (A0 0) A7) (A3 (AJ (A0 0) A7) A6))))))
  A8))))),?_⟩
 simp only[As];let⟨aA,b0,kd,lk,kt⟩:=h_ST.get s;let po:=s.O8 so;let pl:=s.Lh;let tp:=s.Jp;rw[s.Qt]at q;rw[tp];left;show Ps2 _ true ⟨rfl,rfl,?_⟩;left;show⟨true,rfl,?_⟩;left;show Ps2 _ true ⟨rfl,rfl,?_⟩;left;unfold br;left;show Ps2 QO aA ⟨rfl,kd,?_⟩;left;show⟨λb e=>?_,λe=>by rw[lk]at e;cases e⟩;rw[lk]at e;cases e;left;show Ps2 b0 _ ⟨rfl,kt,?_⟩;left;show QY (by simp;lia) ?_;left;unfold kU;left;rw[Mf (by decide)];show Ps3 _ b0 _ ⟨rfl,kt,?_⟩;show _∧_
 let hz:∀ps:List jh,FA ((ps.map jh.sort).map T.str) (ps.map jh.tr)=ps.map λp=>T.tup [.str p.sort,p.tr]:=λps=>by
  induction ps with
  |nil=>rfl
  |cons p r ih=>rw[Cq,Cq,Cq,Cq,vo,ih]
 rw[show(List.drop (Int.toNat 1) (T.str s.word::s.ps.map jh.tr))=s.ps.map jh.tr from rfl,hz];show⟨Cv (D3 (by rw[AF];lia)),?_⟩;show⟨λv6 τ ys Γ'=>∃(ps qs:List jh) (o1 o2:Option T),v6=ps.map (λp=>T.tup [.str p.sort,p.tr])∧s.ps=qs++ps∧τ=[o1,o2,some (.int d)]∧ys=(qs.map (jh.fm d)).map T.bl∧Γ'=Γ,Ps4 s.ps [] none none ⟨rfl,rfl,rfl,rfl,rfl⟩,?_,?_⟩;rotate_left
 ·intro x r τ ys Γ'⟨ps,qs,o1,o2,er,ez,rfl,rfl,rfl⟩
  cases ps with
  |nil=>cases er
  |cons p ps=>
   cases er;show⟨trivial,?_⟩;left;show Ps2 p d ⟨rfl,po p (by rw[ez];simp),d4,dn,?_⟩;show Ps4 ps (qs++[p]) _ _ ⟨rfl,by rw[ez];simp,rfl,by rw[AZ,AZ];rfl,rfl⟩
 intro τ ys Γ'⟨ps,qs,o1,o2,er,ez,rfl,rfl,rfl⟩;let hp:ps=[]:=by
  cases ps with
  |nil=>rfl
  |cons _ _=>cases er
 subst hp;rw[BX]at ez;rw[←ez];show⟨trivial,?_⟩;clear p1 cS e1 Γ1 g1 l1
 left;show Ps2 p1 _ ⟨rfl,BD g1,?_⟩;rw[FT];exists c
 ·let c:s.ps.all (jh.fm d)=false:=by simpa using c
  left;rw[c,Dj]at q;show AD l1 q
 let c:s.ps.all (jh.fm d)=true:=by simpa using c
 rw[c,Bc]at q;left;cases s with
 |new x k w=>
  unfold Sm.Ok at so;show if(!decide (V.str "new" = V.str "new"))=true then _ else _
  left;show ID (i:=2) rfl ?_;left;show ID (i:=3) rfl ?_;left;show Ps2 k w ⟨rfl,so.2.1,by lia,so.2.2.2 _,AD l1 q⟩
 |_=>
  show Q4 (by first|show Ft (show("copy" : Str) ≠ "new" by done)|show Ft (show("part" : Str) ≠ "new" by done)|show Ft (show("put" : Str) ≠ "new" by done)|show Ft (show("add" : Str) ≠ "new" by done)|show Ft (show("drop" : Str) ≠ "new" by done)|show Ft (show("say" : Str) ≠ "new" by done)|show Ft (show("call" : Str) ≠ "new" by done)|show Ft (show("same" : Str) ≠ "new" by done)|show Ft (show("fail" : Str) ≠ "new" by done)|show Ft (show("try" : Str) ≠ "new" by done)|show Ft (show("back" : Str) ≠ "new" by done)) ?_;show AD l1 q
noncomputable abbrev Pd:Stmt:=B6 45
def v8:Av ["thing","depth"] ["thing","depth"] (Ag Pd):=nofun
def zp(F:cT K "is_body" "is_body" Pd f fd)(dq:mg "DEEPEST_BODY" = some v1)(fL:DI v1 (.int 4))(tL:Ae P w K mg bi "is_statement" (lv+22) ["thing","depth"] (SK n))(ai:mg "isinstance" = none)(aE:mg "tuple" = none)(bu:mg "all" = none):bj P w K mg bi Ao (lv+23) f fd ["thing","depth"] (Am (QE (n+1))):=by
 show B5 F v8 (λts Γ Z Y h=>?_) (λcq A outer s H E ts Γ Z Y hr h=>?_)
 ·let⟨s,d,rfl,_⟩:=h
  rfl
 let⟨ss,d,rfl,so,sl,d5,dn,q⟩:=h;show⟨_,(A4 (Aq (PW.pt (Cj (BB K7 (A0 1) (E5 rfl dq fL)) (DG (BQ (BN (D0 rfl ai rfl aE E9 (A0 0))))))) (A4 (AK BL)
  A8) A8)
  (A4 (AK (Aw (FI rfl) rfl bu FN (A3 (Dl (own:=["statement"]) (cap:=[(1,"depth")]) (Fp rfl (by done) (by done) rfl (⟨rfl,trivial⟩) rfl (⟨⟨rfl,rfl,rfl⟩,trivial⟩)) rfl (DX (A0 0)) (λ_ _ _ _=>(Ba (i:=0) (show List.Nodup (["statement","depth"]:List Str)from by done) rfl (Or.inl rfl) (Or.inr rfl))) (λ_ _ _ _=>Di) (λ_ _ _ _=>(Al tL hr (A3 (A0 0) (A3 (A0 1) A6))))) A6)))
  A8)),?_⟩
 simp only[As];unfold wJ at q;rw[iA]at q;exists c
 ·let c:=DN c
  left;rw[Ck (show ¬d≤4 by lia),Dj]at q;show AD .refl q
 let c:=F7 c;rw[BU (show d≤4 by lia),Bc]at q;left;show Ps2 _ true ⟨rfl,rfl,?_⟩;left;rw[je];show⟨Cv (D3 (by rw[AF];lia)),?_⟩;show⟨λv6 τ ys Γ'=>∃(ps qs:List Sm) (o1:Option T),v6=ps.map Sm.tr∧ss=qs++ps∧τ=[o1,some (.int d)]∧ys=(qs.map λs=>s.fm d).map T.bl∧Γ'=Γ,Ps3 ss [] none ⟨rfl,rfl,rfl,rfl,rfl⟩,?_,?_⟩;rotate_left
 ·intro x r τ ys Γ'⟨ps,qs,o1,er,ez,rfl,rfl,rfl⟩
  cases ps with
  |nil=>cases er
  |cons p ps=>
   cases er;show⟨trivial,?_⟩;left;show Ps2 p d ⟨rfl,kA so (by rw[ez];simp),by lia,by lia,?_⟩;show Ps3 ps (qs++[p]) _ ⟨rfl,by rw[ez];simp,rfl,by rw[AZ,AZ];rfl,rfl⟩
 intro τ ys Γ'⟨ps,qs,o1,er,ez,rfl,rfl,rfl⟩;let hp:ps=[]:=by
  cases ps with
  |nil=>rfl
  |cons _ _=>cases er
 subst hp;rw[BX]at ez;rw[←ez];show⟨trivial,?_⟩;clear p1 cS e1 Γ1 g1 l1
 left;show Ps2 p1 _ ⟨rfl,BD g1,?_⟩;rw[FT];show AD l1 q
def ke{f1 f2:Addr}{zQ zP:FuncData}(F:cT K "is_body" "is_body" Pd f fd)(m:mg "is_body" = some (.ref f))(kp:W.keepIn K (.ref f)=true)(b:Binds K fd ["thing","depth"] [])
  (ly:cT K "is_statement" "is_statement" Nn f1 zQ) (kH:mg "is_statement" = some (.ref f1)) (jP:W.keepIn K (.ref f1)=true) (kY:Binds K zQ ["thing","depth"] [])
  (oM:cT K "is_of_sort" "is_of_sort" PZ f2 zP) (nS:mg "is_of_sort" = some (.ref f2)) (lZ:W.keepIn K (.ref f2)=true) (oG:Binds K zP ["sort","thing","depth"] [])
  (cC:Ae P w K mg bi "is_name" 1 ["thing"] IY) (lT:Ae P w K mg bi "is_path" 2 ["thing"] Qq) (dH:Ae P w K mg bi "is_kind" 20 ["thing"] LN) (bY:Ae P w K mg bi "is_whole" 1 ["thing"] IQ) (cH:Ae P w K mg bi "is_worth" 13 ["kind","thing"] (Im 6)) (cZ:mg "GREATEST_FAIL" = some v1) (fb:DI v1 (.int 999)) (dq:mg "DEEPEST_BODY" = some v2) (fL:DI v2 (.int 4)) (eI:mg "STATEMENTS" = some (.ref QO)) (h_ST:NT P w K QO) (ai:mg "isinstance" = none) (aE:mg "tuple" = none) (cU:mg "str" = none) (aB:mg "len" = none) (bu:mg "all" = none) (fS:mg "zip" = none) :
  ∀n:Nat,Ae P w K mg bi "is_body" (3*n+20) ["thing","depth"] (QE n)
 |0=>Ps2 f fd ⟨QN λts Γ Z Y h=>by let⟨_,d,_,_,_,h1,h2,_⟩:=h;lia,m,kp,b⟩
 |n+1=>by
  let c:=ke F m kp b ly kH jP kY oM nS lZ oG cC lT dH bY cH cZ fb dq fL eI h_ST ai aE cU aB bu fS n;let c1:Ae P w K mg bi "is_of_sort" (3*n+21) ["sort","thing","depth"] (aN n):=Ps2 f2 zP ⟨wV oM cC lT dH bY c cZ fb ai aE bu,nS,lZ,oG⟩;let c2:Ae P w K mg bi "is_statement" (3*n+22) ["thing","depth"] (SK n):=Ps2 f1 zQ ⟨acf ly eI h_ST c1 cH ai aE cU aB bu fS,kH,jP,kY⟩;show Ps2 f fd ⟨by rw[show 3*(n+1)+20=3*n+23 by lia];show zp F dq fL c2 ai aE bu,m,kp,b⟩
def bE{f1 f2:Addr}{zQ zP:FuncData}(F:cT K "is_worth" "is_worth" Pz f fd)(m:mg "is_worth" = some (.ref f))(kp:W.keepIn K (.ref f)=true)(b:Binds K fd ["kind","thing"] [])
  (qm:cT K "is_record" "is_record" Py f1 zQ) (pW:mg "is_record" = some (.ref f1)) (nW:W.keepIn K (.ref f1)=true) (qi:Binds K zQ ["fields","parts"] [])
  (qo:cT K "is_choice" "is_choice" OO f2 zP) (pY:mg "is_choice" = some (.ref f2)) (nY:W.keepIn K (.ref f2)=true) (qj:Binds K zP ["fields","pair"] [])
  (iV:Ae P w K mg bi "is_number" 2 ["width","thing"] RW) (lS:Ae P w K mg bi "is_text" 2 ["thing"] UK) (cL:mg "MOST_ITEMS" = some v1) (eJ:DI v1 (.int 60)) (ai:mg "isinstance" = none) (aE:mg "tuple" = none) (aB:mg "len" = none) (bu:mg "all" = none) (nh:mg "any" = none) (fS:mg "zip" = none) (cU:mg "str" = none) :
  ∀n:Nat,Ae P w K mg bi "is_worth" (2*n+1) ["kind","thing"] (Im n)
 |0=>Ps2 f fd ⟨QN λts Γ Z Y h=>by obtain⟨_,_,_,_,h,_⟩:=h;lia,m,kp,b⟩
 |n+1=>by
  let c:=bE F m kp b qm pW nW qi qo pY nY qj iV lS cL eJ ai aE aB bu nh fS cU n;let c1:Ae P w K mg bi "is_record" (2*n+2) ["fields","parts"] (UJ n):=Ps2 f1 zQ ⟨yD qm c aB bu fS,pW,nW,qi⟩;let c2:Ae P w K mg bi "is_choice" (2*n+2) ["fields","pair"] (Xz n):=Ps2 f2 zP ⟨adx qo c aB nh ai cU,pY,nY,qj⟩;show Ps2 f fd ⟨by rw[show 2*(n+1)+1=2*n+3 by lia];show wD F iV lS c c1 c2 cL eJ ai aE aB bu,m,kp,b⟩
end
structure Pr where
 nm:Str
 sd:Int
 ps:List (Str×Str×Kd)
 re:Option Kd
abbrev DC(q:Str×Str×Kd):T:=.tup [.str q.1,.str q.2.1,q.2.2.tr]
abbrev Pr.tr(p:Pr):T:=.tup [.str p.nm,.int p.sd,.tup (p.ps.map DC),FE p.re]
structure Pr.Ok(p:Pr):Prop where
 nm:Nm p.nm
 sd:p.sd=0∨p.sd=1
 pl:∀q∈p.ps,Nm q.1∧q.2.1∈iq∧q.2.2.good∧q.2.2.depth≤5
 nd:(p.ps.map (·.1)).Nodup
 ln:p.ps.length≤900
 re:∀k,p.re=some k→k.good∧k.depth≤5
def Nm.le(h:Nm z):z.length≤8:=h.2.1
def vn{q:Str×Str×Kd}(h:Nm q.1∧q.2.1∈iq∧q.2.2.good∧q.2.2.depth≤5):Pt Γ (DC q):=by
 let hw:q.2.1.length≤5:=(show ∀z∈iq,z.length≤5 by done) _ h.2.1;show .tup (by simp) λt m=>?_;rcases aaf.mp m with rfl|m
 ·show .str (by have:=h.1.le;lia)
 rcases aaf.mp m with rfl|m
 ·show .str (by lia)
 rcases aaf.mp m with rfl|m
 ·show KD h.2.2.1
 cases m
def abz{o:Option Kd}(h:∀k,o=some k→k.good∧k.depth≤5):Pt Γ (FE o):=by
 cases o with
 |none=>show .non
 |some k=>show KD (h k rfl).1
def Pr.pt(h:p.Ok):Pt Γ p.tr:=by
 show .tup (by simp) λt m=>?_;rcases aaf.mp m with rfl|m
 ·show .str (by have:=h.nm.le;lia)
 rcases aaf.mp m with rfl|m
 ·show .int _
 rcases aaf.mp m with rfl|m
 ·show .tup (by rw[AF];have:=h.ln;lia) λt m=>?_
  let⟨q,hq,rfl⟩:=aai.mp m;show vn (h.pl q hq)
 rcases aaf.mp m with rfl|m
 ·show abz h.re
 cases m
def Pr.pa(h:p.Ok):OH p.tr=true:=by
 show(EW (.str p.nm)&&(IT (.int p.sd)&&(JL (.tup (p.ps.map DC))&&L6 (FE p.re))))=true
 rw[Lz h.nm,Bc,EJ,EJ];show⟨?_,?_,?_⟩
 ·show(decide (p.sd=0)||decide (p.sd=1))=true
  rcases h.sd with e|e<;>simp[e]
 ·rw[gU,EJ]
  show⟨aaR.mpr λt m=>?_,BU ?_⟩
  ·let⟨q,hq,rfl⟩:=aai.mp m
   let o:=h.pl q hq;show(EW (.str q.1)&&(decide (q.2.1∈iq)&&Bg 5 q.2.2.tr))=true
   rw[Lz o.1,BU o.2.1,OA o.2.2.1 o.2.2.2];rfl
  ·rw[CU];show h.nd
 ·cases e:p.re with
  |none=>rfl
  |some k=>
   let o:=h.re k e;have:L6 (FE (some k))=Bg 5 k.tr:=by show L6 k.tr=_;cases k<;>rw[Kd.tr]<;>rfl
   rw[this,OA o.1 o.2]
structure Dr where
 p:Pr
 b:List Sm
abbrev Dr.tr(d:Dr):T:=.tup [d.p.tr,.tup (DU d.b)]
structure Dr.Ok(d:Dr):Prop where
 p:d.p.Ok
 b:CT d.b
 l:d.b.length≤1000
structure Sh where
 nm:Str
 sd:Int
 k:Kd
 w:T
abbrev Sh.tr(s:Sh):T:=.tup [.str s.nm,.int s.sd,s.k.tr,s.w]
structure Sh.Ok(s:Sh):Prop where
 nm:Nm s.nm
 sd:s.sd=0∨s.sd=1
 k:s.k.good∧s.k.depth≤5
 w:∀Γ,Pt Γ s.w
section
variable {K: W.Frag}
noncomputable abbrev Ss:Stmt:=B6 43
def acx:Av ["thing"] ["thing"] (Ag Ss):=nofun
abbrev c0:Ay:=λts Γ Z _=>∃d:Dr,ts=[d.tr]∧d.Ok∧Z (.bl (wJ d.b 1)) Γ
def y9(F:cT K "is_door" "is_door" Ss f fd)(Ac:Ae P w K mg bi "is_paper" 23 ["thing"] dv)(pQ:Ae P w K mg bi "is_body" 38 ["thing","depth"] (QE 6))(ai:mg "isinstance" = none)(aE:mg "tuple" = none)(aB:mg "len" = none):bj P w K mg bi Ao 39 f fd ["thing"] (Am c0):=by
 show B5 F acx (λts Γ Z Y h=>?_) (λcq A outer s H E ts Γ Z Y hr h=>?_)
 ·let⟨d,rfl,_⟩:=h
  rfl
 let⟨d,rfl,o,q⟩:=h;show⟨_,(A4 (Aq (PW.pt (Cj (BQ (BN (D0 rfl ai rfl aE E9 (A0 0)))) (DG (BB Ee (Aw Bi rfl aB BF (A3 (A0 0) A6)) A7)))) (A4 (AK BL)
  A8) A8)
  (A4 (AK (CK (Al Ac hr (A3 (AJ (A0 0) A7) A6)) (CP (Al pQ hr (A3 (AJ (A0 0) A7) (A3 A7 A6))))))
  A8)),?_⟩
 simp only[As,Dr.tr];left;show Ps2 _ true ⟨rfl,rfl,?_⟩;left;show⟨d.p.tr,rfl,Pr.pt o.p,λx y us r e=>?_,?_⟩
 ·unfold Pr.tr at e
  cases e;rw[AF];have:=o.p.ln;lia
 rw[Pr.pa o.p];left;show Ps2 d.b 1 ⟨rfl,o.b,o.l,by decide,by decide,AD .refl q⟩
noncomputable abbrev aC:Stmt:=B6 44
def gK:Av ["thing","name","side","kind","worth"] ["thing"] (Ag aC):=nofun
abbrev eB:Ay:=λts Γ Z _=>∃s:Sh,ts=[s.tr]∧s.Ok∧Z (.bl (CA s.k s.w)) Γ
def zh(F:cT K "is_shelf" "is_shelf" aC f fd)(cC:Ae P w K mg bi "is_name" 1 ["thing"] IY)(pP:Ae P w K mg bi "is_side" 2 ["thing"] UL)(dH:Ae P w K mg bi "is_kind" 20 ["thing"] LN)(cH:Ae P w K mg bi "is_worth" 13 ["kind","thing"] (Im 6))(ai:mg "isinstance" = none)(aE:mg "tuple" = none)(aB:mg "len" = none):bj P w K mg bi Ao 21 f fd ["thing"] (Am eB):=by
 show B5 F gK (λts Γ Z Y h=>?_) (λcq A outer s H E ts Γ Z Y hr h=>?_)
 ·let⟨d,rfl,_⟩:=h
  rfl
 let⟨d,rfl,o,q⟩:=h;show⟨_,(A4 (Aq (PW.pt (Cj (BQ (BN (D0 rfl ai rfl aE E9 (A0 0)))) (DG (BB Ee (Aw Bi rfl aB BF (A3 (A0 0) A6)) A7)))) (A4 (AK BL)
  A8) A8)
  (A4 (E2 (A0 0) (C0 (n:=4) rfl (AS (Aj (i:=1) gK.nd) (AS (Aj (i:=2) gK.nd) (AS (Aj (i:=3) gK.nd) (AS (Aj (i:=4) gK.nd) Bw))))))
  (A4 (AK (CK (Al cC hr (A3 (A0 1) A6)) (CK (Al pP hr (A3 (A0 2) A6)) (CK (Al dH hr (A3 (A0 3) A6)) (CP (Al cH hr (A3 (A0 3) (A3 (A0 4) A6))))))))
  A8))),?_⟩
 simp only[As,Sh.tr];left;show Ps2 _ true ⟨rfl,rfl,?_⟩;left;show⟨.str d.nm,rfl,.str (by have:=o.nm.le;lia),?_⟩;rw[Lz o.nm];left;show⟨.int d.sd,rfl,.int _,?_⟩;rw[show IT (.int d.sd)=true by show(decide (d.sd=0)||decide (d.sd=1))=true;rcases o.sd with e|e<;>simp[e]]
 left;show⟨d.k.tr,rfl,KD o.k.1,?_⟩;rw[OA o.k.1 o.k.2];left;show Ps2 d.k d.w ⟨rfl,o.k.1,by have:=o.k.2;lia,o.w _,AD .refl q⟩
noncomputable abbrev R1:Stmt:=B6 42
def eQ:Av ["thing","doors","shelves"] ["thing"] (Ag R1):=nofun
abbrev ip:Ay:=λts Γ Z _=>∃(ds:List Dr) (hs:List Sh),ts=[.tup [.tup (ds.map Dr.tr),.tup (hs.map Sh.tr)]]∧ds.length≤900∧hs.length≤900∧(∀d∈ds,d.Ok)∧(∀s∈hs,s.Ok)∧Z (.bl ((ds.all λd=>wJ d.b 1)&&hs.all λs=>CA s.k s.w)) Γ
def qQ(F:cT K "has_program_form" "has_program_form" R1 f fd)(Cp:Ae P w K mg bi "is_door" 39 ["thing"] c0)(Aa:Ae P w K mg bi "is_shelf" 21 ["thing"] eB)(ai:mg "isinstance" = none)(aE:mg "tuple" = none)(aB:mg "len" = none)(bu:mg "all" = none):bj P w K mg bi Ao 40 f fd ["thing"] (Am ip):=by
 show B5 F eQ (λts Γ Z Y h=>?_) (λcq A outer s H E ts Γ Z Y hr h=>?_)
 ·let⟨ds,hs,rfl,_⟩:=h
  rfl
 let⟨ds,hs,rfl,dl,sl,od,os,q⟩:=h;show⟨_,(A4 (Aq (PW.pt (Cj (BQ (BN (D0 rfl ai rfl aE E9 (A0 0)))) (DG (BB Ee (Aw Bi rfl aB BF (A3 (A0 0) A6)) A7)))) (A4 (AK BL)
  A8) A8)
  (A4 (E2 (A0 0) (C0 (n:=2) rfl (AS (Aj (i:=1) eQ.nd) (AS (Aj (i:=2) eQ.nd) Bw))))
  (A4 (Aq (PW.pt (Cj (BQ (BN (D0 rfl ai rfl aE E9 (A0 1)))) (DG (BQ (BN (D0 rfl ai rfl aE E9 (A0 2))))))) (A4 (AK BL)
  A8) A8)
  (A4 (AK (CK (Aw (FI rfl) rfl bu FN (A3 (Dl (own:=["door"]) (cap:=[]) Ec rfl (DX (A0 1)) (λ_ _ _ _=>GQ) (λ_ _ _ _=>Di) (λ_ _ _ _=>(Al Cp hr (A3 (A0 0) A6)))) A6)) (CP (Aw (FI rfl) rfl bu FN (A3 (Dl (own:=["shelf"]) (cap:=[]) Ec rfl (DX (A0 2)) (λ_ _ _ _=>GQ) (λ_ _ _ _=>Di) (λ_ _ _ _=>(Al Aa hr (A3 (A0 0) A6)))) A6)))))
  A8)))),?_⟩
 simp only[As];left;show Ps2 _ true ⟨rfl,rfl,?_⟩;left;show Ps2 _ true ⟨rfl,rfl,?_⟩;left;show Ps2 _ true ⟨rfl,rfl,?_⟩;left;show⟨Cv (D3 (by rw[AF];lia)),?_⟩;show⟨λv6 τ ys Γ'=>∃(ps qs:List Dr) (o1:Option T),v6=ps.map Dr.tr∧ds=qs++ps∧τ=[o1]∧ys=(qs.map λd=>wJ d.b 1).map T.bl∧Γ'=Γ,Ps3 ds [] none ⟨rfl,rfl,rfl,rfl,rfl⟩,?_,?_⟩;rotate_left
 ·intro x r τ ys Γ'⟨ps,qs,o1,er,ez,rfl,rfl,rfl⟩
  cases ps with
  |nil=>cases er
  |cons p ps=>
   cases er;show⟨trivial,?_⟩;left;show⟨p,rfl,od p (by rw[ez];simp),?_⟩;show Ps3 ps (qs++[p]) _ ⟨rfl,by rw[ez];simp,rfl,by rw[AZ,AZ];rfl,rfl⟩
 intro τ ys Γ'⟨ps,qs,o1,er,ez,rfl,rfl,rfl⟩;let hp:ps=[]:=by
  cases ps with
  |nil=>rfl
  |cons _ _=>cases er
 subst hp;rw[BX]at ez;rw[←ez];show⟨trivial,?_⟩;clear p1 cS e1 Γ1 g1 l1
 left;show Ps2 p1 _ ⟨rfl,BD g1,?_⟩;rw[FT];exists c;rotate_left
 ·let c:(ds.all λd=>wJ d.b 1)=false:=c
  rw[c,Dj]at q;show AD l1 q
 let c:(ds.all λd=>wJ d.b 1)=true:=c;rw[c,Bc]at q;left;show⟨Cv (D3 (by rw[AF];lia)),?_⟩;show⟨λv6 τ ys Γ'=>∃(ps qs:List Sh) (o1:Option T),v6=ps.map Sh.tr∧hs=qs++ps∧τ=[o1]∧ys=(qs.map λs=>CA s.k s.w).map T.bl∧Γ'=Γ1,Ps3 hs [] none ⟨rfl,rfl,rfl,rfl,rfl⟩,?_,?_⟩;rotate_left
 ·intro x r τ ys Γ'⟨ps,qs,o1,er,ez,rfl,rfl,rfl⟩
  cases ps with
  |nil=>cases er
  |cons p ps=>
   cases er;show⟨trivial,?_⟩;left;show⟨p,rfl,os p (by rw[ez];simp),?_⟩;show Ps3 ps (qs++[p]) _ ⟨rfl,by rw[ez];simp,rfl,by rw[AZ,AZ];rfl,rfl⟩
 intro τ ys Γ'⟨ps,qs,o1,er,ez,rfl,rfl,rfl⟩;let hp:ps=[]:=by
  cases ps with
  |nil=>rfl
  |cons _ _=>cases er
 subst hp;rw[BX]at ez;rw[←ez];show⟨trivial,?_⟩;clear p2 mS e2 Γ2 g2 l2
 left;show Ps2 p2 _ ⟨rfl,BD g2,?_⟩;rw[FT];show AD (l1.trans l2) q
end
noncomputable abbrev HC{α:Type}(g:α→T)(l:List (Str×α)):List (AB×T):=l.map λp=>((Sum.inr p.1:AB),g p.2)
def EC{α:Type}(g:α→T):∀(l:List (Str×α)) (x:Str),Dm (HC g l) (.inr x)=(l.lookup x).map g
 |[],x=>rfl
 |(y,b)::r,x=>by
  let ih:=EC g r x;unfold Dm at ih ⊢;show Option.map _ (List.find? _ (((Sum.inr y:AB),g b)::HC g r))=_
  rw[Gr,Hl];by_cases h:y=x
  ·subst h;simp
  ·let h1:¬((Sum.inr y:AB)=Sum.inr x):=λe=>h (LP e)
   let h2:(x==y)=false:=by rw[aba];exactλe=>h e.symm
   rw[h2];simp only[h1,decide_false];show ih
def ig{α:Type}:∀{l:List (Str×α)} {x:Str},l.lookup x=none↔x∉l.map (·.1)
 |[],x=>by simp
 |(y,b)::r,x=>by
  rw[Hl];by_cases h:x=y
  ·subst h;simp
  ·rw[show(x==y)=false by rw[aba];show h,Cq,aaf]
   have:=ig (l:=r) (x:=x);simp[h,this]
def Mi{α:Type}(g:α→T){l:List (Str×α)}{x:Str}{v:α}(h:l.lookup x=none):Em (HC g l) (.inr x) (g v)=HC g (l++[(x,v)]):=by
 unfold Em;rw[AL]
 ·unfold HC;rw[AZ];rfl
 ·unfold HC;rw[QH]
  intro z;let⟨p,hp,e⟩:=abp.mp z;let e:(Sum.inr p.1:AB)=Sum.inr x:=DN e;show ig.mp h (aai.mpr ⟨p,hp,LP e⟩)
def oA{α:Type}{l m:List (Str×α)}{x:Str}:(l++m).lookup x=(l.lookup x).or (m.lookup x):=by
 induction l with
 |nil=>rfl
 |cons p r ih=>
  rw[List.cons_append,Hl,Hl,ih];cases x==p.1<;>rfl
noncomputable abbrev KS(l:List (Str×Pr)):List (AB×T):=HC Pr.tr l
noncomputable abbrev Mu(l:List (Str×Str)):List (AB×T):=HC T.str l
noncomputable abbrev Cz(l:ad):List (AB×T):=HC Kd.tr l
noncomputable abbrev S0(C dx pp:Addr)(r:T)(pw pk:Addr):O:=.ins C dx [("papers",.ref pp),("result",r),("ways",.ref pw),("kinds",.ref pk)]
structure Sc(C:Addr)(Γ:AR)(a:Addr)(Ps:List (Str×Pr))(re:Option Kd)(W:List (Str×Str))(ks:ad)(pk:Addr):Prop where
 ex:∃dx pp pw,Γ a=some (S0 C dx pp (FE re) pw pk)∧Γ pp=some (.dK (KS Ps))∧Γ pw=some (.dK (Mu W))∧pp≠pk∧pw≠pk
 kk:Γ pk=some (.dK (Cz ks))
section
variable {Γ Γ': AR}{a pk: Addr}{Ps: List (Str×Pr)}{re: Option Kd}{W: List (Str×Str)}{ks: ad}
def Sc.mono(l:Le Γ Γ')(h:Sc C Γ a Ps re W ks pk):Sc C Γ' a Ps re W ks pk:=by
 obtain⟨⟨dx,pp,pw,h1,h2,h3,n1,n2⟩,h4⟩:=h;show⟨Ps3 dx pp pw ⟨l _ _ h1,l _ _ h2,l _ _ h3,n1,n2⟩,l _ _ h4⟩
def Sc.kq(l:Kq [pk] Γ Γ')(h:Sc C Γ a Ps re W ks pk){Gg:ad}(k:Γ' pk=some (.dK (Cz Gg))):Sc C Γ' a Ps re W Gg pk:=by
 obtain⟨⟨dx,pp,pw,h1,h2,h3,n1,n2⟩,h4⟩:=h;let n0:a≠pk:=Tc h1 h4 (by simp);show⟨Ps3 dx pp pw ⟨l _ _ (by simpa using n0) h1,l _ _ (by simpa using n1) h2,l _ _ (by simpa using n2) h3,n1,n2⟩,k⟩
def Sc.set(h:Sc C Γ a Ps re W ks pk)(Gg:ad):Sc C (up Γ pk (.dK (Cz Gg))) a Ps re W Gg pk:=h.kq (Kq.set (by simp) _) Au
end
noncomputable def kq(k k':Kd):Bool:=BW k.tr k'.tr
def kD(k:Kd):kq k k=true:=F8 (b:=true) (by simp)
abbrev IC(W:List (Str×Str))(x:Str):Bool:=!(decide (W.lookup x=some "lend")||decide (W.lookup x=some "lease"))
noncomputable def GC(W:List (Str×Str))(ks:ad)(x:Str)(k:Kd):Bool×ad:=if IC W x=true then(match ks.lookup x with|some k'=>(kq k' k,ks)|none=>(true,ks++[(x,k)]))else(false,ks)
abbrev SN(z:Str):List Str:=if z = "lend" then ["give","lease"]else if z = "lease" then ["give"]else []
noncomputable def KP(W:List (Str×Str))(ks:ad)(x:Str)(q:Str×Str×Kd):Bool:=match ks.lookup x with|none=>false|some k=>kq k q.2.2&&!decide (q.2.1∈SN ((W.lookup x).getD "copy"))
abbrev HY(ks:ad):Prop:=∀p∈ks,p.2.good∧p.2.depth≤5
abbrev fM(W:List (Str×Str)):Prop:=∀p∈W,p.2∈iq
def Eu{α:Type}:∀{l:List (Str×α)} {x:Str} {v:α},l.lookup x=some v→(x,v)∈l
 |(y,b)::r,x,v,h=>by
  rw[Hl]at h;by_cases e:x=y
  ·subst e
   rw[show(x==x)=true by simp]at h;cases h;simp
  ·rw[show(x==y)=false by rw[aba];show e]at h
   show Cn _ (Eu h)
mutual
theorem PX:∀{k:Kd} {d:Nat},k.depth≤d→Dp (3*d) k.tr
 |.num w,d,h=>by
  rw[Kd.depth]at h;obtain⟨e,rfl⟩:∃e,d=e+1:=⟨d-1,by lia⟩;rw[Kd.tr];show .tup (d:=3*e+2) λt m=>?_;rcases aaf.mp m with rfl|m
  ·show .str _
  rcases aaf.mp m with rfl|m
  ·show .int _
  cases m
 |.text,d,h=>by
  rw[Kd.depth]at h;obtain⟨e,rfl⟩:∃e,d=e+1:=⟨d-1,by lia⟩;rw[Kd.tr];show .tup (d:=3*e+2) λt m=>?_;rcases aaf.mp m with rfl|m
  ·show .str _
  cases m
 |.row k,d,h=>by
  rw[Kd.depth]at h;obtain⟨e,rfl⟩:∃e,d=e+1:=⟨d-1,by lia⟩;rw[Kd.tr];show .tup (d:=3*e+2) λt m=>?_;rcases aaf.mp m with rfl|m
  ·show .str _
  rcases aaf.mp m with rfl|m
  ·show(PX (show k.depth≤e by lia)).mono (by lia)
  cases m
 |.rec_ fs,d,h=>by
  rw[Kd.depth]at h;obtain⟨e,rfl⟩:∃e,d=e+1:=⟨d-1,by lia⟩;rw[Kd.tr];show .tup (d:=3*e+2) λt m=>?_;rcases aaf.mp m with rfl|m
  ·show .str _
  rcases aaf.mp m with rfl|m
  ·show .tup (d:=3*e+1) (U8 (by lia))
  cases m
 |.pick fs,d,h=>by
  rw[Kd.depth]at h;obtain⟨e,rfl⟩:∃e,d=e+1:=⟨d-1,by lia⟩;rw[Kd.tr];show .tup (d:=3*e+2) λt m=>?_;rcases aaf.mp m with rfl|m
  ·show .str _
  rcases aaf.mp m with rfl|m
  ·show .tup (d:=3*e+1) (U8 (by lia))
  cases m
theorem U8:∀{fs:List (Str×Kd)} {e:Nat},HD fs≤e→∀t∈DY fs,Dp (3*e+1) t
 |[],e,h,t,m=>by rw[DY]at m;cases m
 |(n,k)::r,e,h,t,m=>by
  rw[HD]at h;rw[DY]at m;rcases aaf.mp m with rfl|m
  ·show .tup (d:=3*e) λt m=>?_
   rcases aaf.mp m with rfl|m
   ·show .str _
   rcases aaf.mp m with rfl|m
   ·show PX (by lia)
   cases m
  ·show U8 (by lia) t m
end
def Gz(k:Kd):∃ts,k.tr=.tup ts:=by cases k<;>(rw[Kd.tr];show⟨_,rfl⟩)
def Dp.items(h:Dp (d+1) (.tup ts)):∀t∈ts,Dp d t:=by
 cases h with
 |tup q=>show q
def Je{k':Kd}(h:k.depth≤6)(h':k'.depth≤6):Ja 17 k.tr k'.tr:=by
 let a:=PX h;let b:=PX h';let⟨ts,e⟩:=Gz k;let⟨us,e'⟩:=Gz k';rw[e]at a ⊢;rw[e']at b ⊢;show .tup (Dp.items (d:=17) a) (Dp.items (d:=17) b)
abbrev QW(P:Program)(w:World)(K:W.Frag)(a:Addr):Prop:=∃b1 b2 b3 b4,Bp P w K a [("copy",b1),("give",b2),("lend",b3),("lease",b4)]∧eN K b1 []∧eN K b2 []∧eN K b3 [.str "give",.str "lease"]∧eN K b4 [.str "give"]
def QW.get{P:Program}{w:World}{K:W.Frag}(h:QW P w K a)(hz:z∈iq):∃aA b,Bp P w K a aA∧aA.lookup z=some b∧eN K b ((SN z).map V.str):=by
 let⟨b1,b2,b3,b4,kd,k1,k2,k3,k4⟩:=h;rcases aaf.mp hz with rfl|hz
 ·show Ps2 _ b1 ⟨kd,rfl,k1⟩
 rcases aaf.mp hz with rfl|hz
 ·show Ps2 _ b2 ⟨kd,rfl,k2⟩
 rcases aaf.mp hz with rfl|hz
 ·show Ps2 _ b3 ⟨kd,rfl,k3⟩
 rcases aaf.mp hz with rfl|hz
 ·show Ps2 _ b4 ⟨kd,rfl,k4⟩
 cases hz
section
variable {K: W.Frag}{U4: Addr}
noncomputable abbrev XB:Stmt:=mem 53 1
def abm:Av ["self","name"] ["self","name"] (Ag XB):=nofun
abbrev Hp(C:Addr):Ay:=λts Γ Z _=>∃(a pk:Addr) (x:Str) (Ps:List (Str×Pr)) (re:Option Kd) (W:List (Str×Str)) (ks:ad),ts=[.ref a,.str x]∧Sc C Γ a Ps re W ks pk∧Z (.bl (ks.lookup x).isSome) Γ
def lW(F:cT K "knows" "Scope.knows" XB f fd)(ax:pR K C)(aw:bJ K C "kinds"):bj P w K mg bi Ao 1 f fd ["self","name"] (Am (Hp C)):=by
 show B5 F abm (λts Γ Z Y h=>?_) (λcq A outer s H E ts Γ Z Y hr h=>?_)
 ·let⟨a,pk,x,_,_,_,_,rfl,_⟩:=h
  rfl
 obtain⟨a,pk,x,Ps,re,W,ks,rfl,⟨⟨dx,pp,pw,h1,h2,h3,n1,n2⟩,h4⟩,q⟩:=h;show⟨_,(A4 (AK (HA (fk (CW (D1 (by decide:1≤64) _) hr.units)) (A0 1) (Dz ax aw (A0 0)) (by with_unfolding_all rfl)))
  A8),?_⟩
 simp only[As];left;show Ps3 pk _ (.inr x) ⟨rfl,rfl,h4,?_⟩;rw[EC,Ky];show AD .refl q
noncomputable abbrev VE:Stmt:=mem 53 2
def tY:Av ["self","name"] ["self","name"] (Ag VE):=nofun
abbrev M4(C:Addr):Ay:=λts Γ Z _=>∃(a pk:Addr) (x:Str) (Ps:List (Str×Pr)) (re:Option Kd) (W:List (Str×Str)) (ks:ad),ts=[.ref a,.str x]∧Sc C Γ a Ps re W ks pk∧Z (.bl (IC W x)) Γ
def ot(F:cT K "is_own" "Scope.is_own" VE f fd)(ax:pR K C)(bR:bJ K C "ways"):bj P w K mg bi Ao 1 f fd ["self","name"] (Am (M4 C)):=by
 show B5 F tY (λts Γ Z Y h=>?_) (λcq A outer s H E ts Γ Z Y hr h=>?_)
 ·let⟨a,pk,x,_,_,_,_,rfl,_⟩:=h
  rfl
 obtain⟨a,pk,x,Ps,re,W,ks,rfl,⟨⟨dx,pp,pw,h1,h2,h3,n1,n2⟩,h4⟩,q⟩:=h;show⟨_,(A4 (AK (HA Ov (FF Lr Hw NZ (jn (CW (D1 (by decide:1≤64) _) hr.units)) (Dz ax bR (A0 0)) (A3 (A0 1) A6)) (BC (A3 Ax (A3 Ax A6))) (by with_unfolding_all rfl)))
  A8),?_⟩
 simp only[As];left;show⟨JB h3,?_⟩;left;show Ps3 pw _ (.inr x) ⟨rfl,rfl,h3,?_⟩;rw[EC];unfold IC at q;cases e:W.lookup x with
 |none=>
  rw[e]at q;left;show AD .refl q
 |some z=>
  rw[e]at q;show jt _ _ _ _ (λy Γ2=>KQ true (.str z) y Γ2 _)
  left;show EL Z (.bl (!Dk (.str z) [V.str "lend",V.str "lease"])) Γ
  rw[show [V.str "lend",V.str "lease"]=(["lend","lease"]:List Str).map V.str from rfl,IW];show AD .refl ?_;have:decide (z∈(["lend","lease"]:List Str))=(decide (some z=some ("lend" : Str))||decide (some z=some ("lease" : Str))):=by
   rw[abo];simp
  rw[this];show q
noncomputable abbrev TA:Stmt:=mem 53 3
def vB:Av ["self","name","kind"] ["self","name","kind"] (Ag TA):=nofun
abbrev LF(C:Addr):Ay:=λts Γ Z _=>∃(a pk:Addr) (x:Str) (k:Kd) (Ps:List (Str×Pr)) (re:Option Kd) (W:List (Str×Str)) (ks:ad),ts=[.ref a,.str x,k.tr]∧k.depth≤5∧HY ks∧ks.length≤100000∧Sc C Γ a Ps re W ks pk∧Z (.bl (GC W ks x k).1) (up Γ pk (.dK (Cz (GC W ks x k).2)))
def Er(h:Γ a=some o):up Γ a o=Γ:=by
 funext b
 by_cases e:b=a
 ·subst e;rw[Au,h]
 ·rw[BR e]
def aco(F:cT K "may_make" "Scope.may_make" TA f fd)(ax:pR K C)(aw:bJ K C "kinds")(bZ:DE P w K mg bi C "is_own" 1 ["self","name"] (M4 C)):bj P w K mg bi Ao 2 f fd ["self","name","kind"] (Am (LF C)):=by
 show B5 F vB (λts Γ Z Y h=>?_) (λcq A outer s H E ts Γ Z Y hr h=>?_)
 ·let⟨a,pk,x,k,_,_,_,_,rfl,_⟩:=h
  rfl
 let⟨a,pk,x,k,Ps,re,W,ks,rfl,kd,gk,kl,hs,q⟩:=h;let fV:=hs;obtain⟨⟨dx,pp,pw,h1,h2,h3,n1,n2⟩,h4⟩:=fV;show⟨_,(A4 (Aq (BQ (BN (EX bZ hr (by lia) (A0 0) (A3 (A0 1) A6)))) (A4 (AK BL)
  A8) A8)
  (A4 (AK (DZ (i0 (d:=17) (CW (D1 (by decide:1+17≤64) _) hr.units)) (FF Lr jO PySem.F.type_dict_setdefault adw (Dz ax aw (A0 0)) (A3 (A0 1) (A3 (A0 2) A6))) (A0 2)))
  A8)),?_⟩
 simp only[As];unfold GC at q;left;show Ps7 a pk x Ps re W ks ⟨rfl,hs,?_⟩;exists c
 ·rw[AL (by simpa using c),Er h4]at q
  left;show AD .refl q
 rw[AO (by simpa using c)]at q;left;show⟨JB h4,?_⟩;left;show Ps4 pk _ (.inr x) k.tr ⟨rfl,rfl,h4,by rw[AF,Bm];lia,λt e=>?_,λe=>?_⟩
 ·rw[EC]at e
  cases l:ks.lookup x with
  |none=>rw[l]at e;cases e
  |some k'=>
   rw[l]at e q;cases e;left;show⟨Je (FV (gk _ (Eu l)).2) (FV kd),?_⟩;let q:Z (.bl (kq k' k)) (up Γ pk (.dK (Cz ks))):=q;rw[Er h4]at q;show AD .refl q
 ·rw[EC]at e
  cases l:ks.lookup x with
  |some k'=>rw[l]at e;cases e
  |none=>
   rw[l]at q;rw[Mi Kd.tr l];left;show⟨Je (FV kd) (FV kd),?_⟩;let q:Z (.bl true) (up Γ pk (.dK (Cz (ks++[(x,k)])))):=q;rw[show BW k.tr k.tr=true from kD k];show AD .refl q
noncomputable abbrev Vb:Stmt:=mem 53 4
def xw:Av ["self","name","place"] ["self","name","place"] (Ag Vb):=nofun
abbrev WZ(C:Addr):Ay:=λts Γ Z _=>∃(a pk:Addr) (x:Str) (p:Str×Str×Kd) (Ps:List (Str×Pr)) (re:Option Kd) (W:List (Str×Str)) (ks:ad),ts=[.ref a,.str x,DC p]∧p.2.2.depth≤5∧HY ks∧fM W∧Sc C Γ a Ps re W ks pk∧Z (.bl (KP W ks x p)) Γ
def vX(F:cT K "may_hand" "Scope.may_hand" Vb f fd)(ax:pR K C)(aw:bJ K C "kinds")(bR:bJ K C "ways")(aG:DE P w K mg bi C "knows" 1 ["self","name"] (Hp C))(i6:mg "BARRED_WAYS" = some (.ref U4))(h_BW:QW P w K U4):bj P w K mg bi Ao 2 f fd ["self","name","place"] (Am (WZ C)):=by
 show B5 F xw (λts Γ Z Y h=>?_) (λcq A outer s H E ts Γ Z Y hr h=>?_)
 ·let⟨a,pk,x,p,_,_,_,_,rfl,_⟩:=h
  rfl
 let⟨a,pk,x,p,Ps,re,W,ks,rfl,pd,gk,gw,hs,q⟩:=h;let fV:=hs;obtain⟨⟨dx,pp,pw,h1,h2,h3,n1,n2⟩,h4⟩:=fV;show⟨_,(A4 (Aq (PW.pt (Cj (BQ (BN (EX aG hr (by lia) (A0 0) (A3 (A0 1) A6)))) (DG (BB (eE (d:=17) (CW (D1 (by decide:1+17≤64) _) hr.units)) (Gv (CW (D1 (by decide:1≤64) _) hr.units) (Dz ax aw (A0 0)) (A0 1)) (AJ (A0 2) A7))))) (A4 (AK BL)
  A8) A8)
  (A4 (AK (HA (tS (K:=K) rfl) (AJ (A0 2) A7) (cf (E5 rfl i6 Kv) (FF Lr Hw NZ (sJ (CW (D1 (by decide:1≤64) _) hr.units)) (Dz ax bR (A0 0)) (A3 (A0 1) (A3 Ax A6)))) (by with_unfolding_all rfl)))
  A8)),?_⟩
 simp only[As,DC];unfold KP at q;left;show Ps7 a pk x Ps re W ks ⟨rfl,hs,?_⟩;cases l:ks.lookup x with
 |none=>
  rw[l]at q;left;show AD .refl q
 |some k=>
  rw[l]at q;let q:Z (.bl (kq k p.2.2&&!decide (p.2.1∈SN ((W.lookup x).getD "copy")))) Γ:=q;left;unfold Hz;left;show Ps4 pk _ (.inr x) k.tr ⟨rfl,rfl,h4,by rw[EC,l];rfl,?_⟩;left;show ID (i:=2) rfl ?_;let tw:=Je (FV (gk _ (Eu l)).2) (FV pd);let⟨ts,e⟩:=Gz k;let⟨us,e'⟩:=Gz p.2.2;unfold kq at q;rw[e,e']at tw q ⊢;cases tw with
  |tup t1 t2=>
   show Ps2 ts us ⟨rfl,rfl,t1,t2,?_⟩;exists c
   ·rw[show BW (.tup ts) (.tup us)=false by simpa using c]at q
    left;show AD .refl q
   rw[show BW (.tup ts) (.tup us)=true by simpa using c,Bc]at q;left;unfold RM;left;show⟨JB h3,?_⟩;left;show Ps4 pw _ (.inr x) (.str "copy") ⟨rfl,rfl,h3,?_⟩;let ev:((Dm (Mu W) (.inr x)).getD (.str "copy"))=.str ((W.lookup x).getD "copy"):=by
    rw[EC];cases W.lookup x<;>rfl
   rw[ev];let hz:(W.lookup x).getD "copy" ∈ iq:=by
    cases e2:W.lookup x with
    |none=>done
    |some z=>show gw _ (Eu e2)
   let⟨aA,b,kd,lk,kt⟩:=h_BW.get hz;show Ps4 U4 aA _ b ⟨rfl,kd,rfl,lk,?_⟩;show Ps3 (.str p.2.1) b _ ⟨rfl,rfl,rfl,kt,?_,?_⟩
   ·rw[FT];show aaR.mpr λ_ _=>rfl
   rw[IW];show AD .refl q
end
mutual
noncomputable def gd(Ps:List (Str×Pr))(re:Option Kd)(W:List (Str×Str)):Sm→List (Str×Kd)→Bool×List (Str×Kd)
 |.new x k _,ks=>GC W ks x k
 |.copy x y,ks=>match ks.lookup y with|some k=>GC W ks x k|none=>(false,ks)
 |.part x y p,ks=>match(ks.lookup y).bind λk=>DK k p with|some k=>GC W ks x k|none=>(false,ks)
 |.put y p x,ks=>(match ks.lookup y,ks.lookup x with|some ky,some kx=>!decide (W.lookup y=some "lend")&&(match DK ky p with|some k=>kq k kx|none=>false)|_,_=>false,ks)
 |.add y p x,ks=>(match ks.lookup y,ks.lookup x with|some ky,some kx=>!decide (W.lookup y=some "lend")&&(match DK ky p with|some k=>kq k (.row kx)|none=>false)|_,_=>false,ks)
 |.drop x,ks=>((ks.lookup x).isSome&&IC W x,ks)
 |.say x,ks=>((ks.lookup x).isSome,ks)
 |.call z d ns,ks=>match Ps.lookup d with
  |none=>(false,ks)
  |some p=>if(decide (ns.length=p.ps.length)&&(ns.zip p.ps).all λq=>KP W ks q.1 q.2)=true then(match z,p.re with|none,_=>(true,ks)|some z,some k=>GC W ks z k|some _,none=>(false,ks))else(false,ks)
 |.same x y a b,ks=>match ks.lookup x,ks.lookup y with
  |some kx,some ky=>if kq kx ky=true then(if(Az Ps re W a ks).1=true then Az Ps re W b (Az Ps re W a ks).2 else(false,(Az Ps re W a ks).2))else(false,ks)
  |_,_=>(false,ks)
 |.fail _,ks=>(true,ks)
 |.tri a b,ks=>if(Az Ps re W a ks).1=true then Az Ps re W b (Az Ps re W a ks).2 else(false,(Az Ps re W a ks).2)
 |.back x,ks=>(match ks.lookup x,re with|some k,some r=>IC W x&&kq k r|_,_=>false,ks)
noncomputable def Az(Ps:List (Str×Pr))(re:Option Kd)(W:List (Str×Str)):List Sm→List (Str×Kd)→Bool×List (Str×Kd)
 |[],ks=>(true,ks)
 |s::r,ks=>if(gd Ps re W s ks).1=true then Az Ps re W r (gd Ps re W s ks).2 else(false,(gd Ps re W s ks).2)
end
mutual
def Sm.sz:Sm→Nat
 |.same _ _ a b=>Bv a+Bv b+1
 |.tri a b=>Bv a+Bv b+1
 |_=>1
def Bv:List Sm→Nat
 |[]=>0
 |s::r=>s.sz+Bv r
end
mutual
def Sm.ht:Sm→Nat
 |.same _ _ a b=>max (GU a) (GU b)+1
 |.tri a b=>max (GU a) (GU b)+1
 |_=>0
def GU:List Sm→Nat
 |[]=>0
 |s::r=>max s.ht (GU r)
end
structure En(Ps:List (Str×Pr))(re:Option Kd)(W:List (Str×Str))(ks:ad)(n:Nat):Prop where
 gk:HY ks
 gw:fM W
 ps:∀p∈Ps,p.2.Ok
 re:∀k,re=some k→k.good∧k.depth≤5
 ln:ks.length+n≤100000
def Ms:∀{p:List T} {k k':Kd},k.good→k.depth≤5→DK k p=some k'→k'.good∧k'.depth≤5
 |[],k,k',g,d,h=>by cases h;show⟨g,d⟩
 |x::r,k,k',g,d,h=>by
  unfold DK at h;cases e:stepK k x with
  |none=>rw[e]at h;cases h
  |some k2=>
   rw[e]at h;let⟨a,b⟩:=pG g e;show Ms a (by lia) h
def QX{W:List (Str×Str)}{ks:ad}{x:Str}(g:HY ks)(h:k.good∧k.depth≤5):HY (GC W ks x k).2∧(GC W ks x k).2.length≤ks.length+1:=by
 unfold GC;split
 ·split
  ·show⟨g,Bk _⟩
  ·show⟨λp m=>?_,by simp⟩
   rcases aav.mp m with m|m
   ·show g p m
   ·rw[aaC]at m;subst m;show h
 ·show⟨g,Bk _⟩
section
variable {Ps: List (Str×Pr)}{re: Option Kd}{W: List (Str×Str)}
mutual
theorem kT(hp:∀p∈Ps,p.2.Ok):∀{s:Sm} {ks:List (Str×Kd)},s.Ok→HY ks→HY (gd Ps re W s ks).2∧(gd Ps re W s ks).2.length≤ks.length+s.sz
 |.new x k _,ks,o,g=>by
  unfold Sm.Ok at o;unfold gd Sm.sz;show QX g ⟨o.2.1,o.2.2.1⟩
 |.copy x y,ks,o,g=>by
  unfold gd Sm.sz;cases e:ks.lookup y with
  |some k=>show QX g (g _ (Eu e))
  |none=>show⟨g,Bk _⟩
 |.part x y p,ks,o,g=>by
  unfold gd Sm.sz;cases e:ks.lookup y with
  |none=>show⟨g,Bk _⟩
  |some k=>
   show HY (match DK k p with|some k=>GC W ks x k|none=>(false,ks)).2∧_
   cases e2:DK k p with
   |none=>simp only[RU,e2];show⟨g,Bk _⟩
   |some k'=>
    simp only[RU,e2];let gk:=g _ (Eu e);show QX g (Ms gk.1 gk.2 e2)
 |.put y p x,ks,o,g=>by unfold gd Sm.sz;show⟨g,Bk _⟩
 |.add y p x,ks,o,g=>by unfold gd Sm.sz;show⟨g,Bk _⟩
 |.drop x,ks,o,g=>by unfold gd Sm.sz;show⟨g,Bk _⟩
 |.say x,ks,o,g=>by unfold gd Sm.sz;show⟨g,Bk _⟩
 |.call z d ns,ks,o,g=>by
  unfold gd Sm.sz;cases e:Ps.lookup d with
  |none=>show⟨g,Bk _⟩
  |some p=>
   dsimp only;split
   ·split
    ·show⟨g,Bk _⟩
    ·rename_i e2
     show QX g ((hp _ (Eu e)).re _ e2)
    ·show⟨g,Bk _⟩
   ·show⟨g,Bk _⟩
 |.same x y a b,ks,o,g=>by
  unfold Sm.Ok at o;unfold gd Sm.sz;split
  ·split
   ·let ia:=Ki hp o.2.2.2.2.1 g
    split
    ·let ib:=Ki hp o.2.2.2.2.2 ia.1
     show⟨ib.1,by lia⟩
    ·show⟨ia.1,by show(Az Ps re W a ks).2.length≤_;lia⟩
   ·show⟨g,by show ks.length≤_;lia⟩
  ·show⟨g,by show ks.length≤_;lia⟩
 |.fail _,ks,o,g=>by unfold gd Sm.sz;show⟨g,Bk _⟩
 |.tri a b,ks,o,g=>by
  unfold Sm.Ok at o;unfold gd Sm.sz;let ia:=Ki hp o.2.2.1 g;split
  ·let ib:=Ki hp o.2.2.2 ia.1
   show⟨ib.1,by lia⟩
  ·show⟨ia.1,by show(Az Ps re W a ks).2.length≤_;lia⟩
 |.back x,ks,o,g=>by unfold gd Sm.sz;show⟨g,Bk _⟩
theorem Ki(hp:∀p∈Ps,p.2.Ok):∀{ss:List Sm} {ks:List (Str×Kd)},CT ss→HY ks→HY (Az Ps re W ss ks).2∧(Az Ps re W ss ks).2.length≤ks.length+Bv ss
 |[],ks,o,g=>by unfold Az Bv;show⟨g,Ap _⟩
 |s::r,ks,o,g=>by
  unfold CT at o;unfold Az Bv;let ia:=kT hp o.1 g;split
  ·let ib:=Ki hp o.2 ia.1
   show⟨ib.1,by lia⟩
  ·show⟨ia.1,by show(gd Ps re W s ks).2.length≤_;lia⟩
end
def En.step{ks:ad}(e:En Ps re W ks (s.sz+n))(o:s.Ok):En Ps re W (gd Ps re W s ks).2 n:=by
 have:=kT (re:=re) (W:=W) e.ps o e.gk;show⟨this.1,e.gw,e.ps,e.re,by have:=e.ln;lia⟩
def En.Jt{ss:List Sm}{ks:ad}(e:En Ps re W ks (Bv ss+n))(o:CT ss):En Ps re W (Az Ps re W ss ks).2 n:=by
 have:=Ki (re:=re) (W:=W) e.ps o e.gk;show⟨this.1,e.gw,e.ps,e.re,by have:=e.ln;lia⟩
def En.le{ks:ad}(e:En Ps re W ks n)(h:m≤n):En Ps re W ks m:=⟨e.gk,e.gw,e.ps,e.re,by have:=e.ln;lia⟩
end
section
variable {K: W.Frag}
noncomputable abbrev Qr:Stmt:=mem 53 0
def gv:Av ["self","papers","paper","around","name","way","kind"] ["self","papers","paper","around"] (Ag Qr):=nofun
abbrev fF(C:Addr):Ay:=λts Γ Z _=>∃(a dx pp pa:Addr) (p:Pr) (Ps:List (Str×Pr)) (as:ad),ts=[.ref a,.ref pp,p.tr,.ref pa]∧Γ a=some (.ins C dx [])∧Γ pp=some (.dK (KS Ps))∧Γ pa=some (.dK (Cz as))∧p.Ok∧(∀q∈p.ps,as.lookup q.1=none)∧as.length≤1000∧
 ∀Γ' pk,Kq [a] Γ Γ'→Γ pk=none→Sc C Γ' a Ps p.re (p.ps.map λq=>(q.1,q.2.1)) (as++p.ps.map λq=>(q.1,q.2.2)) pk→Z .non Γ'
def t5(F:cT K "__init__" "Scope.__init__" Qr f fd)(ax:pR K C)(bM:bJ K C "papers")(bL:bJ K C "result")(bR:bJ K C "ways")(aw:bJ K C "kinds")(yu:mg "dict" = none):bj P w K mg bi Ao 1 f fd ["self","papers","paper","around"] (Am (fF C)):=by
 show B5 F gv (λts Γ Z Y h=>?_) (λcq A outer s H E ts Γ Z Y hr h=>?_)
 ·let⟨_,_,_,_,_,_,_,rfl,_⟩:=h
  rfl
 let⟨a,dx,pp,pa,p,Ps,as,rfl,ga,gp,Wr,o,no,al,q⟩:=h;show⟨_,(A4 (QS ax bM (A0 0) (A0 1))
  (A4 (QS ax bL (A0 0) (AJ (A0 2) A7))
  (A4 (QS ax bR (A0 0) (dy (own:=["name","way","kind"]) (cap:=[]) Ec rfl (DX (AJ (A0 2) A7)) (λ_ _ _ _=>(C0 (n:=3) rfl (AS (Ba (i:=0) (show List.Nodup (["name","way","kind"]:List Str)from by done) rfl (Or.inl rfl) (Or.inr rfl)) (AS (Ba (i:=1) (show List.Nodup (["name","way","kind"]:List Str)from by done) rfl (Or.inl rfl) (Or.inr rfl)) (AS (Ba (i:=2) (show List.Nodup (["name","way","kind"]:List Str)from by done) rfl (Or.inl rfl) (Or.inr rfl)) Bw))))) (λ_ _ _ _=>(A0 0)) (λ_ _ _ _=>(A0 1))))
  (A4 (QS ax aw (A0 0) (Lu sE rfl yu acb (A3 (A0 3) A6)))
  (A4 (Ed Ey rfl (DX (AJ (A0 2) A7)) (C0 (n:=3) rfl (AS (Aj (i:=4) gv.nd) (AS (Aj (i:=5) gv.nd) (AS (Aj (i:=6) gv.nd) Bw)))) (A4 (vd (CW (D1 (by decide:1≤64) _) hr.units) (Dz ax aw (A0 0)) (A0 4) (A0 6))
  A8))
  A8))))),?_⟩
 simp only[As,Pr.tr];let Yb:pp≠a:=Tc gp ga (by simp);let Yc:pa≠a:=Tc Wr ga (by simp);left;show ID (i:=3) rfl ?_;left;unfold QC;left;show ID (i:=2) rfl ?_;left;show⟨by rw[AF,Bm];have:=o.ln;lia,?_⟩;rw[QU];generalize e1:up Γ a _=Γ1;let g1:Γ1 a=some (.ins C dx [("papers",.ref pp),("result",FE p.re)]):=B2 e1;let k1:Kq [a] Γ Γ1:=e1 ▸ Kq.set (by simp) _;show⟨λv6 τ ys Γ'=>∃(gs ds:List (Str×Str×Kd)) (o1 o2 o3:Option T),v6=gs.map DC∧p.ps=ds++gs∧τ=[o1,o2,o3]∧ys=Mu (ds.map λq=>(q.1,q.2.1))∧Γ'=Γ1,Ps5 p.ps [] none none none ⟨rfl,rfl,rfl,rfl,rfl⟩,?_,?_⟩;rotate_left
 ·intro x r τ ys Γ'⟨gs,ds,o1,o2,o3,er,ez,rfl,rfl,rfl⟩
  cases gs with
  |nil=>cases er
  |cons g gs=>
   cases er;show⟨trivial,?_⟩;unfold DC;left;show⟨.inr g.1,rfl,gs,ds++[g],_,_,_,rfl,by rw[ez];simp,rfl,?_,rfl⟩;rw[AZ];show Mi T.str (v:=g.2.1) (ig.mpr ?_);rw[CU];let nd:=o.nd;rw[ez,AZ,abl]at nd;intro m;let⟨d,hd,e⟩:=aai.mp m;show nd.2.2 d.1 (aai.mpr ⟨d,hd,rfl⟩) g.1 (by simp) e
 intro τ ys Γ'⟨gs,ds,o1,o2,o3,er,ez,rfl,rfl,rfl⟩;let hg:gs=[]:=by
  cases gs with
  |nil=>rfl
  |cons _ _=>cases er
 subst hg;rw[BX]at ez;subst ez;show⟨trivial,λpw V6=>?_⟩;let SY:a≠pw:=F4 g1 V6;left;show Ps3 a dx _ ⟨rfl,by rw[BR SY];show g1,by simp,?_⟩;generalize e2:up (up Γ' pw _) a _=Γ2;let g2:Γ2 a=some (.ins C dx [("papers",.ref pp),("result",FE p.re),("ways",.ref pw)]):=B2 e2;let k2:Kq [a] Γ Γ2:=by
  rw[←e2];show(k1.trans (Kq.new V6 _)).trans (Kq.set (by simp) _)
 let w2:Γ2 pw=some (.dK (Mu (p.ps.map λq=>(q.1,q.2.1)))):=by rw[←e2,BR (G5 SY)];show Au
 left;show Ps2 pa _ ⟨rfl,k2 pa _ (by simpa using Yc) Wr,λpk NB=>?_⟩;let PF:a≠pk:=F4 g2 NB;let S8:pw≠pk:=F4 w2 NB;left;show Ps3 a dx _ ⟨rfl,by rw[BR PF];show g2,by simp,?_⟩;generalize e3:up (up Γ2 pk _) a _=Γ3;let g3:Γ3 a=some (S0 C dx pp (FE p.re) pw pk):=B2 e3;let k3:Kq [a] Γ Γ3:=by
  rw[←e3];show(k2.trans (Kq.new NB _)).trans (Kq.set (by simp) _)
 let w3:Γ3 pw=some (.dK (Mu (p.ps.map λq=>(q.1,q.2.1)))):=by rw[←e3,BR (G5 SY),BR S8];show w2
 let h3:Γ3 pk=some (.dK (Cz as)):=by rw[←e3,BR (G5 PF)];show Au
 let Pe:Γ pk=none:=by
  cases e:Γ pk with
  |none=>rfl
  |some u=>have:=k2 pk u (by simpa using G5 PF) e;rw[NB]at this;cases this
 let VI:pp≠pk:=F4 gp Pe;left;show ID (i:=2) rfl ?_;left;show⟨λv6 τ Γ'=>∃(gs ds:List (Str×Str×Kd)) (o4 o5 o6:Option T),v6=gs.map DC∧p.ps=ds++gs∧τ=[some (.ref a),some (.ref pp),some p.tr,some (.ref pa),o4,o5,o6]∧Kq [pk] Γ3 Γ'∧Γ' pk=some (.dK (Cz (as++ds.map λq=>(q.1,q.2.2)))),Ps5 p.ps [] none none none ⟨rfl,rfl,rfl,.refl,by rw[Kj,BX];show h3⟩,?_,?_⟩
 ·intro τ Γ'⟨gs,ds,o4,o5,o6,er,ez,rfl,kq,hk⟩
  let hg:gs=[]:=by
   cases gs with
   |nil=>rfl
   |cons _ _=>cases er
  subst hg;rw[BX]at ez;rw[←ez]at hk;show⟨trivial,?_⟩;left;show AD .refl (q Γ' pk ?_ Pe ⟨Ps3 dx pp pw ⟨kq _ _ (by simpa using PF) g3,kq _ _ (by simpa using VI) (k3 _ _ (by simpa using Yb) gp),kq _ _ (by simpa using S8) w3,VI,S8⟩,hk⟩);intro b u n h;let Og:b≠pk:=λe=>by subst e;rw[Pe]at h;cases h
  show kq b u (by simpa using Og) (k3 b u n h)
 ·intro x r τ Γ'⟨gs,ds,o4,o5,o6,er,ez,rfl,kq,hk⟩
  cases gs with
  |nil=>cases er
  |cons g gs=>
   cases er;let Wu:Γ' a=some (S0 C dx pp (FE p.re) pw pk):=kq _ _ (by simpa using PF) g3;unfold DC;left;unfold ik;left;show Ps3 pk _ (.inr g.1) ⟨rfl,rfl,hk,by rw[AF,BP,AF,Bm];have:=o.ln;rw[ez,BP]at this;lia,?_⟩;show Ps5 gs (ds++[g]) _ _ _ ⟨rfl,by rw[ez];simp,rfl,kq.trans (Kq.set (by simp) _),?_⟩;rw[Au];congr 2
   rw[AZ,←KY];show Mi Kd.tr (v:=g.2.2) ?_;rw[oA,no g (by rw[ez];simp)];show ig.mpr ?_;rw[CU];let nd:=o.nd;rw[ez,AZ,abl]at nd;intro m;let⟨d,hd,e⟩:=aai.mp m;show nd.2.2 d.1 (aai.mpr ⟨d,hd,rfl⟩) g.1 (by simp) e
end
abbrev Sm.tag:Sm→Nat
 |.new ..=>0
 |.copy ..=>1
 |.part ..=>2
 |.put ..=>3
 |.add ..=>4
 |.drop ..=>5
 |.say ..=>6
 |.call ..=>7
 |.same ..=>8
 |.fail ..=>9
 |.tri ..=>10
 |.back ..=>11
def Loc(h:s.tag=0):∃x k v,s=.new x k v:=by cases s<;>first|show⟨_,_,_,rfl⟩|(simp[Sm.tag]at h)
def adm(h:s.tag=1):∃x y,s=.copy x y:=by cases s<;>first|show⟨_,_,rfl⟩|(simp[Sm.tag]at h)
def pB(h:s.tag=2):∃x y p,s=.part x y p:=by cases s<;>first|show⟨_,_,_,rfl⟩|(simp[Sm.tag]at h)
def yr(h:s.tag=3):∃y p x,s=.put y p x:=by cases s<;>first|show⟨_,_,_,rfl⟩|(simp[Sm.tag]at h)
def eOr(h:s.tag=4):∃y p x,s=.add y p x:=by cases s<;>first|show⟨_,_,_,rfl⟩|(simp[Sm.tag]at h)
def ado(h:s.tag=5):∃x,s=.drop x:=by cases s<;>first|show⟨_,rfl⟩|(simp[Sm.tag]at h)
def uh(h:s.tag=6):∃x,s=.say x:=by cases s<;>first|show⟨_,rfl⟩|(simp[Sm.tag]at h)
def mM(h:s.tag=7):∃z d ns,s=.call z d ns:=by cases s<;>first|show⟨_,_,_,rfl⟩|(simp[Sm.tag]at h)
def rn(h:s.tag=8):∃x y b1 b2,s=.same x y b1 b2:=by cases s<;>first|show⟨_,_,_,_,rfl⟩|(simp[Sm.tag]at h)
def acU(h:s.tag=9):∃n0,s=.fail n0:=by cases s<;>first|show⟨_,rfl⟩|(simp[Sm.tag]at h)
def z9(h:s.tag=10):∃b1 b2,s=.tri b1 b2:=by cases s<;>first|show⟨_,_,rfl⟩|(simp[Sm.tag]at h)
def rW(h:s.tag=11):∃x,s=.back x:=by cases s<;>first|show⟨_,rfl⟩|(simp[Sm.tag]at h)
section
variable {K: W.Frag}
abbrev FR(C:Addr)(t:Nat)(m:Nat):Ay:=λts Γ Z _=>∃(a pk:Addr) (s:Sm) (Ps:List (Str×Pr)) (re:Option Kd) (W:List (Str×Str)) (ks:ad),ts=[.ref a,s.tr]∧s.tag=t∧s.Ok∧s.ht<m∧En Ps re W ks s.sz∧Sc C Γ a Ps re W ks pk∧
 Z (.bl (gd Ps re W s ks).1) (up Γ pk (.dK (Cz (gd Ps re W s ks).2)))
def GZ{C:Addr}{wd:Nat}{Y:Value→AR→Prop}(h:FR C wd m ts Γ Z Y):ts.length=2:=by
 let⟨_,_,_,_,_,_,_,rfl,_⟩:=h;rfl
noncomputable abbrev Xr:Stmt:=B6 61
def acs:Av ["scope","target","name"] ["scope","target","name"] (Ag Xr):=nofun
abbrev Px(W:List (Str×Str))(ks:ad)(y x:Str):Bool:=(ks.lookup y).isSome&&((ks.lookup x).isSome&&!decide (W.lookup y=some "lend"))
abbrev QM(C:Addr):Ay:=λts Γ Z _=>∃(a pk:Addr) (y x:Str) (Ps:List (Str×Pr)) (re:Option Kd) (W:List (Str×Str)) (ks:ad),ts=[.ref a,.str y,.str x]∧Sc C Γ a Ps re W ks pk∧Z (.bl (Px W ks y x)) Γ
def oK(F:cT K "is_good_change" "is_good_change" Xr f fd)(ax:pR K C)(bR:bJ K C "ways")(aG:DE P w K mg bi C "knows" 1 ["self","name"] (Hp C)):bj P w K mg bi Ao 2 f fd ["scope","target","name"] (Am (QM C)):=by
 show B5 F acs (λts Γ Z Y h=>?_) (λcq A outer s H E ts Γ Z Y hr h=>?_)
 ·let⟨_,_,_,_,_,_,_,_,rfl,_⟩:=h
  rfl
 let⟨a,pk,y,x,Ps,re,W,ks,rfl,hs,q⟩:=h;show⟨_,(A4 (AK (CK (EX aG hr (by lia) (A0 0) (A3 (A0 1) A6)) (CK (EX aG hr (by lia) (A0 0) (A3 (A0 2) A6)) (CP (DZ Ee (FF Lr Hw NZ (jn (CW (D1 (by decide:1≤64) _) hr.units)) (Dz ax bR (A0 0)) (A3 (A0 1) A6)) Ax)))))
  A8),?_⟩
 simp only[As];let fV:=hs;obtain⟨⟨dx,pp,pw,h1,h2,h3,n1,n2⟩,h4⟩:=fV;unfold Px at q;left;show Ps7 a pk y Ps re W ks ⟨rfl,hs,?_⟩;exists c;rotate_left
 ·rw[c]at q;show AD .refl q
 rw[c,Bc]at q;left;show Ps7 a pk x Ps re W ks ⟨rfl,hs,?_⟩;exists c;rotate_left
 ·rw[c]at q;show AD .refl q
 rw[c,Bc]at q;left;show⟨JB h3,?_⟩;left;show Ps3 pw _ (.inr y) ⟨rfl,rfl,h3,?_⟩;rw[EC];cases e:W.lookup y with
 |none=>
  rw[e]at q;show Ps2 (.non) (.str "lend") ⟨rfl,rfl,rfl,AD .refl q⟩
 |some z=>
  rw[e]at q;show AD .refl ?_;rw[show decide (V.str z=V.str "lend")=decide (some z=some ("lend" : Str))from abd.mpr ⟨λe=>by rw[V.str.inj e],λe=>by rw[FJ e]⟩];show q
noncomputable abbrev Pp:Stmt:=B6 55
def dS:Av ["scope","statement","word","name","kind","worth"] ["scope","statement"] (Ag Pp):=nofun
def w9(F:cT K "is_good_new" "is_good_new" Pp f fd)(aR:DE P w K mg bi C "may_make" 2 ["self","name","kind"] (LF C)):bj P w K mg bi Ao 5 f fd ["scope","statement"] (Am (FR C 0 m)):=by
 show B5 F dS (λts Γ Z Y h=>GZ h) (λcq A outer s H E ts Γ Z Y hr h=>?_);let⟨a,pk,s,Ps,re,W,ks,rfl,ew,so,hm,en,hs,q⟩:=h;show⟨_,(A4 (E2 (A0 1) (C0 (n:=4) rfl (AS (Aj (i:=2) dS.nd) (AS (Aj (i:=3) dS.nd) (AS (Aj (i:=4) dS.nd) (AS (Aj (i:=5) dS.nd) Bw))))))
  (A4 (AK (EX aR hr (by lia) (A0 0) (A3 (A0 3) (A3 (A0 4) A6))))
  A8)),?_⟩
 simp only[As];let fV:=hs;obtain⟨⟨dx,pp,pw,h1,h2,h3,n1,n2⟩,h4⟩:=fV;let ln:=en.ln;let⟨x,k,v,rfl⟩:=Loc ew;unfold Sm.Ok at so;unfold gd at q;rw[Sm.tr];left;show Ps8 a pk x k Ps re W ks ⟨rfl,so.2.2.1,en.gk,by lia,hs,AD .refl q⟩
noncomputable abbrev P2:Stmt:=B6 56
def e6:Av ["scope","statement","word","name","source"] ["scope","statement"] (Ag P2):=nofun
def uc(F:cT K "is_good_copy" "is_good_copy" P2 f fd)(ax:pR K C)(aw:bJ K C "kinds")(aG:DE P w K mg bi C "knows" 1 ["self","name"] (Hp C))(aR:DE P w K mg bi C "may_make" 2 ["self","name","kind"] (LF C)):bj P w K mg bi Ao 5 f fd ["scope","statement"] (Am (FR C 1 m)):=by
 show B5 F e6 (λts Γ Z Y h=>GZ h) (λcq A outer s H E ts Γ Z Y hr h=>?_);let⟨a,pk,s,Ps,re,W,ks,rfl,ew,so,hm,en,hs,q⟩:=h;show⟨_,(A4 (E2 (A0 1) (C0 (n:=3) rfl (AS (Aj (i:=2) e6.nd) (AS (Aj (i:=3) e6.nd) (AS (Aj (i:=4) e6.nd) Bw)))))
  (A4 (AK (CK (EX aG hr (by lia) (A0 0) (A3 (A0 4) A6)) (CP (EX aR hr (by lia) (A0 0) (A3 (A0 3) (A3 (Gv (CW (D1 (by decide:1≤64) _) hr.units) (Dz ax aw (A0 0)) (A0 4)) A6))))))
  A8)),?_⟩
 simp only[As];let fV:=hs;obtain⟨⟨dx,pp,pw,h1,h2,h3,n1,n2⟩,h4⟩:=fV;let ln:=en.ln;let⟨x,y,rfl⟩:=adm ew;unfold Sm.Ok at so;unfold gd at q;rw[Sm.tr];let no:Z (.bl false) (up Γ pk (.dK (Cz ks)))→EL Z (.bl false) Γ:=λq=>by rw[Er h4]at q;show AD .refl q
 left;show Ps7 a pk y Ps re W ks ⟨rfl,hs,?_⟩;cases e:ks.lookup y with
 |none=>
  rw[e]at q;left;show no q
 |some k=>
  rw[e]at q;left;unfold Hz;left;show Ps4 pk _ (.inr y) k.tr ⟨rfl,rfl,h4,by rw[EC,e];rfl,?_⟩;left;show Ps8 a pk x k Ps re W ks ⟨rfl,(en.gk _ (Eu e)).2,en.gk,by lia,hs,AD .refl q⟩
noncomputable abbrev Pb:Stmt:=B6 57
def cY:Av ["scope","statement","word","name","source","path","kind"] ["scope","statement"] (Ag Pb):=nofun
def aa8(F:cT K "is_good_part" "is_good_part" Pb f fd)(ax:pR K C)(aw:bJ K C "kinds")(aG:DE P w K mg bi C "knows" 1 ["self","name"] (Hp C))(aR:DE P w K mg bi C "may_make" 2 ["self","name","kind"] (LF C))(dG:Ae P w K mg bi "kind_at" 4 ["kind","path"] MW):bj P w K mg bi Ao 5 f fd ["scope","statement"] (Am (FR C 2 m)):=by
 show B5 F cY (λts Γ Z Y h=>GZ h) (λcq A outer s H E ts Γ Z Y hr h=>?_);let⟨a,pk,s,Ps,re,W,ks,rfl,ew,so,hm,en,hs,q⟩:=h;show⟨_,(A4 (E2 (A0 1) (C0 (n:=4) rfl (AS (Aj (i:=2) cY.nd) (AS (Aj (i:=3) cY.nd) (AS (Aj (i:=4) cY.nd) (AS (Aj (i:=5) cY.nd) Bw))))))
  (A4 (Aq (BQ (BN (EX aG hr (by lia) (A0 0) (A3 (A0 4) A6)))) (A4 (AK BL)
  A8) A8)
  (A4 (An (i:=6) cY.nd (Al dG hr (A3 (Gv (CW (D1 (by decide:1≤64) _) hr.units) (Dz ax aw (A0 0)) (A0 4)) (A3 (A0 5) A6))))
  (A4 (AK (CK (DZ QL (A0 6) GF) (CP (EX aR hr (by lia) (A0 0) (A3 (A0 3) (A3 (A0 6) A6))))))
  A8)))),?_⟩
 simp only[As];let fV:=hs;obtain⟨⟨dx,pp,pw,h1,h2,h3,n1,n2⟩,h4⟩:=fV;let ln:=en.ln;let⟨x,y,p,rfl⟩:=pB ew;unfold Sm.Ok at so;unfold gd at q;rw[Sm.tr];let no:Z (.bl false) (up Γ pk (.dK (Cz ks)))→EL Z (.bl false) Γ:=λq=>by rw[Er h4]at q;show AD .refl q
 left;show Ps7 a pk y Ps re W ks ⟨rfl,hs,?_⟩;cases e:ks.lookup y with
 |none=>
  rw[e]at q;left;show no q
 |some k=>
  rw[e]at q;have q:Z (.bl (match DK k p with|some k=>GC W ks x k|none=>(false,ks)).1) (up Γ pk (.dK (Cz (match DK k p with|some k=>GC W ks x k|none=>(false,ks)).2))):=q;left;unfold Hz;left;show Ps4 pk _ (.inr y) k.tr ⟨rfl,rfl,h4,by rw[EC,e];rfl,?_⟩;left;show Ps2 k p ⟨rfl,so.2.2.2,?_⟩;cases e2:DK k p with
  |none=>
   rw[e2]at q;left;show no q
  |some k'=>
   rw[e2]at q;let gk:=en.gk _ (Eu e);let ak:=Ms gk.1 gk.2 e2;left;rw[show Gs (FE (some k'))=false by let⟨ts,e⟩:=Gz k';show Gs k'.tr=_;rw[e];rfl];left;show Ps8 a pk x k' Ps re W ks ⟨rfl,ak.2,en.gk,by lia,hs,AD .refl q⟩
noncomputable abbrev Q2:Stmt:=B6 59
def dR:Av ["scope","statement","word","target","path","name"] ["scope","statement"] (Ag Q2):=nofun
def aaF(F:cT K "is_good_put" "is_good_put" Q2 f fd)(ax:pR K C)(aw:bJ K C "kinds")(cj:Ae P w K mg bi "is_good_change" 2 ["scope","target","name"] (QM C))(dG:Ae P w K mg bi "kind_at" 4 ["kind","path"] MW):bj P w K mg bi Ao 5 f fd ["scope","statement"] (Am (FR C 3 m)):=by
 show B5 F dR (λts Γ Z Y h=>GZ h) (λcq A outer s H E ts Γ Z Y hr h=>?_);let⟨a,pk,s,Ps,re,W,ks,rfl,ew,so,hm,en,hs,q⟩:=h;show⟨_,(A4 (E2 (A0 1) (C0 (n:=4) rfl (AS (Aj (i:=2) dR.nd) (AS (Aj (i:=3) dR.nd) (AS (Aj (i:=4) dR.nd) (AS (Aj (i:=5) dR.nd) Bw))))))
  (A4 (Aq (BQ (BN (Al cj hr (A3 (A0 0) (A3 (A0 3) (A3 (A0 5) A6)))))) (A4 (AK BL)
  A8) A8)
  (A4 (AK (DZ (bF (d:=17) (CW (D1 (by decide:1+17≤64) _) hr.units)) (Al dG hr (A3 (Gv (CW (D1 (by decide:1≤64) _) hr.units) (Dz ax aw (A0 0)) (A0 3)) (A3 (A0 4) A6))) (Gv (CW (D1 (by decide:1≤64) _) hr.units) (Dz ax aw (A0 0)) (A0 5))))
  A8))),?_⟩
 simp only[As];let fV:=hs;obtain⟨⟨dx,pp,pw,h1,h2,h3,n1,n2⟩,h4⟩:=fV;let ln:=en.ln;let⟨y,p,x,rfl⟩:=yr ew;unfold Sm.Ok at so;unfold gd at q;rw[Sm.tr];let no:Z (.bl false) (up Γ pk (.dK (Cz ks)))→EL Z (.bl false) Γ:=λq=>by rw[Er h4]at q;show AD .refl q
 left;show Ps8 a pk y x Ps re W ks ⟨rfl,hs,?_⟩;unfold Px;cases e:ks.lookup y with
 |none=>
  rw[e]at q;left;show no q
 |some ky=>
  cases e1:ks.lookup x with
  |none=>
   rw[e,e1]at q;left;show no q
  |some kx=>
   rw[e,e1]at q;have q:Z (.bl (!decide (W.lookup y=some "lend")&&(match DK ky p with|some k=>kq k kx|none=>false))) (up Γ pk (.dK (Cz ks))):=q;rw[Er h4]at q;rw[show((some ky).isSome&&((some kx).isSome&&!decide (W.lookup y=some "lend")))=!decide (W.lookup y=some "lend")from rfl];cases e2:decide (W.lookup y=some "lend")with
   |true=>
    rw[e2]at q;left;show AD .refl q
   |false=>
    rw[e2]at q;have q:Z (.bl (match DK ky p with|some k=>kq k kx|none=>false)) Γ:=q;have gy:=en.gk _ (Eu e);have gx:=en.gk _ (Eu e1);left;unfold Hz;left;show Ps4 pk _ (.inr y) ky.tr ⟨rfl,rfl,h4,by rw[EC,e];rfl,?_⟩;left;show Ps2 ky p ⟨rfl,so.2.2.2,?_⟩;left;show Ps4 pk _ (.inr x) kx.tr ⟨rfl,rfl,h4,by rw[EC,e1];rfl,?_⟩;cases e3:DK ky p with
    |none=>
     rw[e3]at q;let⟨us,eu⟩:=Gz kx;show .inl ⟨rfl,⟨us,eu⟩,AD .refl q⟩
    |some k=>
     rw[e3]at q;let gk:=Ms gy.1 gy.2 e3;show .inr ⟨Je (FV gk.2) (FV gx.2),AD .refl q⟩
noncomputable abbrev PH:Stmt:=B6 60
def dU:Av ["scope","statement","word","target","path","name"] ["scope","statement"] (Ag PH):=nofun
def yU(F:cT K "is_good_add" "is_good_add" PH f fd)(ax:pR K C)(aw:bJ K C "kinds")(cj:Ae P w K mg bi "is_good_change" 2 ["scope","target","name"] (QM C))(dG:Ae P w K mg bi "kind_at" 4 ["kind","path"] MW):bj P w K mg bi Ao 5 f fd ["scope","statement"] (Am (FR C 4 m)):=by
 show B5 F dU (λts Γ Z Y h=>GZ h) (λcq A outer s H E ts Γ Z Y hr h=>?_);let⟨a,pk,s,Ps,re,W,ks,rfl,ew,so,hm,en,hs,q⟩:=h;show⟨_,(A4 (E2 (A0 1) (C0 (n:=4) rfl (AS (Aj (i:=2) dU.nd) (AS (Aj (i:=3) dU.nd) (AS (Aj (i:=4) dU.nd) (AS (Aj (i:=5) dU.nd) Bw))))))
  (A4 (Aq (BQ (BN (Al cj hr (A3 (A0 0) (A3 (A0 3) (A3 (A0 5) A6)))))) (A4 (AK BL)
  A8) A8)
  (A4 (AK (DZ (bF (d:=17) (CW (D1 (by decide:1+17≤64) _) hr.units)) (Al dG hr (A3 (Gv (CW (D1 (by decide:1≤64) _) hr.units) (Dz ax aw (A0 0)) (A0 3)) (A3 (A0 4) A6))) (BC (A3 Ax (A3 (Gv (CW (D1 (by decide:1≤64) _) hr.units) (Dz ax aw (A0 0)) (A0 5)) A6)))))
  A8))),?_⟩
 simp only[As];let fV:=hs;obtain⟨⟨dx,pp,pw,h1,h2,h3,n1,n2⟩,h4⟩:=fV;let ln:=en.ln;let⟨y,p,x,rfl⟩:=eOr ew;unfold Sm.Ok at so;unfold gd at q;rw[Sm.tr];let no:Z (.bl false) (up Γ pk (.dK (Cz ks)))→EL Z (.bl false) Γ:=λq=>by rw[Er h4]at q;show AD .refl q
 left;show Ps8 a pk y x Ps re W ks ⟨rfl,hs,?_⟩;unfold Px;cases e:ks.lookup y with
 |none=>
  rw[e]at q;left;show no q
 |some ky=>
  cases e1:ks.lookup x with
  |none=>
   rw[e,e1]at q;left;show no q
  |some kx=>
   rw[e,e1]at q;have q:Z (.bl (!decide (W.lookup y=some "lend")&&(match DK ky p with|some k=>kq k (.row kx)|none=>false))) (up Γ pk (.dK (Cz ks))):=q;rw[Er h4]at q;rw[show((some ky).isSome&&((some kx).isSome&&!decide (W.lookup y=some "lend")))=!decide (W.lookup y=some "lend")from rfl];cases e2:decide (W.lookup y=some "lend")with
   |true=>
    rw[e2]at q;left;show AD .refl q
   |false=>
    rw[e2]at q;have q:Z (.bl (match DK ky p with|some k=>kq k (.row kx)|none=>false)) Γ:=q;have gy:=en.gk _ (Eu e);have gx:=en.gk _ (Eu e1);left;unfold Hz;left;show Ps4 pk _ (.inr y) ky.tr ⟨rfl,rfl,h4,by rw[EC,e];rfl,?_⟩;left;show Ps2 ky p ⟨rfl,so.2.2.2,?_⟩;left;show Ps4 pk _ (.inr x) kx.tr ⟨rfl,rfl,h4,by rw[EC,e1];rfl,?_⟩;left;rw[show T.tup [.str "row",kx.tr]=(Kd.row kx).tr by rw[Kd.tr]];cases e3:DK ky p with
    |none=>
     rw[e3]at q;let⟨us,eu⟩:=Gz (.row kx);show .inl ⟨rfl,⟨us,eu⟩,AD .refl q⟩
    |some k=>
     rw[e3]at q;let gk:=Ms gy.1 gy.2 e3;show .inr ⟨Je (FV gk.2) (by rw[Kd.depth];have:kx.depth≤5:=gx.2;lia),AD .refl q⟩
noncomputable abbrev OF:Stmt:=B6 62
def adD:Av ["scope","statement"] ["scope","statement"] (Ag OF):=nofun
def zF(F:cT K "is_good_drop" "is_good_drop" OF f fd)(aG:DE P w K mg bi C "knows" 1 ["self","name"] (Hp C))(bZ:DE P w K mg bi C "is_own" 1 ["self","name"] (M4 C)):bj P w K mg bi Ao 5 f fd ["scope","statement"] (Am (FR C 5 m)):=by
 show B5 F adD (λts Γ Z Y h=>GZ h) (λcq A outer s H E ts Γ Z Y hr h=>?_);let⟨a,pk,s,Ps,re,W,ks,rfl,ew,so,hm,en,hs,q⟩:=h;show⟨_,(A4 (AK (CK (EX aG hr (by lia) (A0 0) (A3 (AJ (A0 1) A7) A6)) (CP (EX bZ hr (by lia) (A0 0) (A3 (AJ (A0 1) A7) A6)))))
  A8),?_⟩
 simp only[As];let fV:=hs;obtain⟨⟨dx,pp,pw,h1,h2,h3,n1,n2⟩,h4⟩:=fV;let ln:=en.ln;let⟨x,rfl⟩:=ado ew;unfold Sm.Ok at so;unfold gd at q;rw[Sm.tr];rw[Er h4]at q;left;show Ps7 a pk x Ps re W ks ⟨rfl,hs,?_⟩;exists c
 ·rw[c,Bc]at q
  left;show Ps7 a pk x Ps re W ks ⟨rfl,hs,AD .refl q⟩
 ·rw[c]at q
  show AD .refl q
noncomputable abbrev OW:Stmt:=B6 63
def wZ:Av ["scope","statement"] ["scope","statement"] (Ag OW):=nofun
def abE(F:cT K "is_good_say" "is_good_say" OW f fd)(aG:DE P w K mg bi C "knows" 1 ["self","name"] (Hp C)):bj P w K mg bi Ao 5 f fd ["scope","statement"] (Am (FR C 6 m)):=by
 show B5 F wZ (λts Γ Z Y h=>GZ h) (λcq A outer s H E ts Γ Z Y hr h=>?_);let⟨a,pk,s,Ps,re,W,ks,rfl,ew,so,hm,en,hs,q⟩:=h;show⟨_,(A4 (AK (EX aG hr (by lia) (A0 0) (A3 (AJ (A0 1) A7) A6)))
  A8),?_⟩
 simp only[As];let fV:=hs;obtain⟨⟨dx,pp,pw,h1,h2,h3,n1,n2⟩,h4⟩:=fV;let ln:=en.ln;let⟨x,rfl⟩:=uh ew;unfold Sm.Ok at so;unfold gd at q;rw[Sm.tr];rw[Er h4]at q;left;show Ps7 a pk x Ps re W ks ⟨rfl,hs,AD .refl q⟩
noncomputable abbrev OP:Stmt:=B6 64
def cD:Av ["scope","statement","word","target","door","names","places","result"] ["scope","statement"] (Ag OP):=nofun
def mh(F:cT K "is_good_call" "is_good_call" OP f fd)(ax:pR K C)(bM:bJ K C "papers")(eM:DE P w K mg bi C "may_hand" 2 ["self","name","place"] (WZ C))(aR:DE P w K mg bi C "may_make" 2 ["self","name","kind"] (LF C))(aB:mg "len" = none)(bu:mg "all" = none)(fS:mg "zip" = none):bj P w K mg bi Ao 5 f fd ["scope","statement"] (Am (FR C 7 m)):=by
 show B5 F cD (λts Γ Z Y h=>GZ h) (λcq A outer s H E ts Γ Z Y hr h=>?_);let⟨a,pk,s,Ps,re,W,ks,rfl,ew,so,hm,en,hs,q⟩:=h;show⟨_,(A4 (E2 (A0 1) (C0 (n:=4) rfl (AS (Aj (i:=2) cD.nd) (AS (Aj (i:=3) cD.nd) (AS (Aj (i:=4) cD.nd) (AS (Aj (i:=5) cD.nd) Bw))))))
  (A4 (Aq (K3 (rG (CW (D1 (by decide:1≤64) _) hr.units)) (A0 4) (Dz ax bM (A0 0)) (by with_unfolding_all rfl)) (A4 (AK BL)
  A8) A8)
  (A4 (E2 (DB Lf (Gv (CW (D1 (by decide:1≤64) _) hr.units) (Dz ax bM (A0 0)) (A0 4)) (CF A7) Ef) (C0 (n:=2) rfl (AS (Aj (i:=6) cD.nd) (AS (Aj (i:=7) cD.nd) Bw))))
  (A4 (Aq (BB Ee (Aw Bi rfl aB BF (A3 (A0 5) A6)) (Aw Bi rfl aB BF (A3 (A0 6) A6))) (A4 (AK BL)
  A8) A8)
  (A4 (Aq (BQ (BN (Aw (FI rfl) rfl bu FN (A3 (Dl (own:=["handed","place"]) (cap:=[(0,"scope")]) (Fp rfl (by done) (by done) rfl (⟨rfl,trivial⟩) rfl (⟨⟨rfl,rfl,rfl⟩,trivial⟩)) rfl (gQ rfl fS (A3 (A0 5) (A3 (A0 6) A6))) (λ_ _ _ _=>(C0 (n:=2) rfl (AS (Ba (i:=0) (show List.Nodup (["handed","place","scope"]:List Str)from by done) rfl (Or.inl rfl) (Or.inr rfl)) (AS (Ba (i:=1) (show List.Nodup (["handed","place","scope"]:List Str)from by done) rfl (Or.inl rfl) (Or.inr rfl)) Bw)))) (λ_ _ _ _=>Di) (λ_ _ _ _=>(EX eM hr (by lia) (A0 2) (A3 (A0 0) (A3 (A0 1) A6))))) A6)))) (A4 (AK BL)
  A8) A8)
  (A4 (AK (LO (DZ MY (A0 3) GF) (CP (CK (DZ QL (A0 7) GF) (CP (EX aR hr (by lia) (A0 0) (A3 (A0 3) (A3 (A0 7) A6))))))))
  A8)))))),?_⟩
 simp only[As];let fV:=hs;obtain⟨⟨dx,pp,pw,h1,h2,h3,n1,n2⟩,h4⟩:=fV;let ln:=en.ln;let⟨z,d,ns,rfl⟩:=mM ew;unfold Sm.Ok at so;unfold gd at q;rw[Sm.tr];let no:Z (.bl false) (up Γ pk (.dK (Cz ks)))→EL Z (.bl false) Γ:=λq=>by rw[Er h4]at q;show AD .refl q
 left;show Ps3 pp _ (.inr d) ⟨rfl,rfl,h2,?_⟩;rw[EC,Ky];cases e:Ps.lookup d with
 |none=>
  rw[e]at q;left;show no q
 |some pr=>
 rw[e]at q;let po:pr.Ok:=en.ps _ (Eu e);let pl:=po.ln;left;unfold Hz;left;show Ps4 pp _ (.inr d) pr.tr ⟨rfl,rfl,h2,by rw[EC,e];rfl,?_⟩;unfold Pr.tr;left;rw[Mf (by decide),show List.drop (Int.toNat 2) [T.str pr.nm,T.int pr.sd,T.tup (pr.ps.map DC),FE pr.re]=[T.tup (pr.ps.map DC),FE pr.re]from rfl];left;rw[AF,AF];show AU (λc=>?_) (λc=>?_)
 ·let c:ns.length≠pr.ps.length:=λe=>by rw[e]at c;simp at c
  dsimp only at q;rw[AL (by rw[Ck c];show Cc)]at q;left;show no q
 let c:ns.length=pr.ps.length:=by
  have:decide (V.int (ns.length:Int)=V.int (pr.ps.length:Nat))=true:=by simpa using c
  have:=Gu this;lia
 dsimp only at q;rw[BU c,Bc]at q;left;show⟨Cv (D3 (by rw[Jk,AF,AF];lia)),?_⟩;show⟨λv6 τ ys Γ'=>∃(ms:List Str) (qs:List (Str×Str×Kd)) (bs:List Bool) (o1 o2:Option T),v6=FA (ms.map T.str) (qs.map DC)∧ms.length=qs.length∧(∀q∈qs,q∈pr.ps)∧τ=[o1,o2,some (.ref a)]∧ys=bs.map T.bl∧((ns.zip pr.ps).all λq=>KP W ks q.1 q.2)=(bs.all id&&(ms.zip qs).all λq=>KP W ks q.1 q.2)∧Γ'=Γ,Ps5 ns pr.ps [] none none ⟨rfl,c,λ_ h=>h,rfl,rfl,by simp,rfl⟩,?_,?_⟩;rotate_left
 ·intro x r τ ys Γ'⟨ms,qs,bs,o1,o2,er,el,hq,rfl,rfl,eb,rfl⟩
  cases ms with
  |nil=>cases er
  |cons m0 ms=>
   cases qs with
   |nil=>cases el
   |cons q0 qs=>
    cases er;show⟨trivial,?_⟩;left;show Ps8 a pk m0 q0 Ps re W ks ⟨rfl,(po.pl q0 (hq q0 (by simp))).2.2.2,en.gk,en.gw,hs,?_⟩;show Ps5 ms qs (bs++[KP W ks m0 q0]) _ _ ⟨rfl,by simpa using el,λq h=>hq q (Cn _ h),rfl,by simp,?_,rfl⟩;rw[eb,List.zip_cons_cons,Ib,KH];simp[Kr]
 intro τ ys Γ'⟨ms,qs,bs,o1,o2,er,el,hq,rfl,rfl,eb,rfl⟩;let hz:ms=[]:=by
  cases ms with
  |nil=>rfl
  |cons m0 ms=>
   cases qs with
   |nil=>cases el
   |cons q0 qs=>cases er
 subst hz;rw[List.zip_nil_left,List.all_nil,Ic]at eb;rw[eb]at q;show⟨trivial,?_⟩;clear p1 cS e1 Γ1 g1 l1
 let VJ:Z (.bl false) (up Γ' pk (.dK (Cz ks)))→EL Z (.bl false) Γ1:=λq=>by rw[Er h4]at q;show AD l1 q
 let Mw:=hs.mono l1;let h11:=l1 _ _ h1;left;show Ps2 p1 bs ⟨rfl,BD g1,?_⟩;exists c
 ·rw[AL (by simpa using c)]at q
  left;show VJ q
 rw[AO (by simpa using c)]at q;let Xe:∀Tj:List (Str×Kd),Le (up Γ' pk (.dK (Cz Tj))) (up Γ1 pk (.dK (Cz Tj))):=λTj b u h=>by
  by_cases eb:b=pk
  ·subst eb;rw[Au]at h ⊢;show h
  ·rw[BR eb]at h ⊢;show l1 _ _ h
 cases z with
 |none=>
  left;rw[Er h4]at q;show AD l1 q
 |some z0=>
  left;cases J2:pr.re with
  |none=>
   rw[J2]at q;left;show VJ q
  |some k=>
   rw[J2]at q;left;rw[show Gs (FE (some k))=false by let⟨ts,e⟩:=Gz k;show Gs k.tr=_;rw[e];rfl];left;show Ps8 a pk z0 k Ps re W ks ⟨rfl,(po.re k J2).2,en.gk,by lia,Mw,AD (Xe _) q⟩
abbrev LY(C:Addr)(m:Nat):Ay:=λts Γ Z _=>∃(a pk:Addr) (ss:List Sm) (Ps:List (Str×Pr)) (re:Option Kd) (W:List (Str×Str)) (ks:ad),ts=[.ref a,.tup (DU ss)]∧CT ss∧GU ss<m∧En Ps re W ks (Bv ss)∧Sc C Γ a Ps re W ks pk∧
 Z (.bl (Az Ps re W ss ks).1) (up Γ pk (.dK (Cz (Az Ps re W ss ks).2)))
noncomputable abbrev OY:Stmt:=B6 65
def cW:Av ["scope","statement","word","one","other","first","second"] ["scope","statement"] (Ag OY):=nofun
def eBM(F:cT K "is_good_same" "is_good_same" OY f fd)(ax:pR K C)(aw:bJ K C "kinds")(aG:DE P w K mg bi C "knows" 1 ["self","name"] (Hp C))(cR:Ae P w K mg bi "is_good_body" (lv+4) ["scope","body"] (LY C m)):bj P w K mg bi Ao (lv+5) f fd ["scope","statement"] (Am (FR C 8 (m+1))):=by
 show B5 F cW (λts Γ Z Y h=>GZ h) (λcq A outer s H E ts Γ Z Y hr h=>?_);let⟨a,pk,s,Ps,re,W,ks,rfl,ew,so,hm,en,hs,q⟩:=h;show⟨_,(A4 (E2 (A0 1) (C0 (n:=5) rfl (AS (Aj (i:=2) cW.nd) (AS (Aj (i:=3) cW.nd) (AS (Aj (i:=4) cW.nd) (AS (Aj (i:=5) cW.nd) (AS (Aj (i:=6) cW.nd) Bw)))))))
  (A4 (Aq (PW.pt (Cj (BQ (BN (EX aG hr (by lia) (A0 0) (A3 (A0 3) A6)))) (Cj (BQ (BN (EX aG hr (by lia) (A0 0) (A3 (A0 4) A6)))) (DG (BB (eE (d:=17) (CW (D1 (by decide:1+17≤64) _) hr.units)) (Gv (CW (D1 (by decide:1≤64) _) hr.units) (Dz ax aw (A0 0)) (A0 3)) (Gv (CW (D1 (by decide:1≤64) _) hr.units) (Dz ax aw (A0 0)) (A0 4))))))) (A4 (AK BL)
  A8) A8)
  (A4 (AK (CK (Al cR hr (A3 (A0 0) (A3 (A0 5) A6))) (CP (Al cR hr (A3 (A0 0) (A3 (A0 6) A6))))))
  A8))),?_⟩
 simp only[As];let fV:=hs;obtain⟨⟨dx,pp,pw,h1,h2,h3,n1,n2⟩,h4⟩:=fV;let ln:=en.ln;let⟨x,y,b1,b2,rfl⟩:=rn ew;unfold Sm.Ok at so;unfold gd at q;rw[Sm.tr];let no:Z (.bl false) (up Γ pk (.dK (Cz ks)))→EL Z (.bl false) Γ:=λq=>by rw[Er h4]at q;show AD .refl q
 unfold Sm.ht at hm;unfold Sm.sz at en ln;left;show Ps7 a pk x Ps re W ks ⟨rfl,hs,?_⟩;cases e:ks.lookup x with
 |none=>
  rw[e]at q;left;show no q
 |some kx=>
  left;show Ps7 a pk y Ps re W ks ⟨rfl,hs,?_⟩;cases e1:ks.lookup y with
  |none=>
   rw[e,e1]at q;left;show no q
  |some ky=>
  rw[e,e1]at q;let q:Z (.bl (if kq kx ky=true then(if(Az Ps re W b1 ks).1=true then Az Ps re W b2 (Az Ps re W b1 ks).2 else(false,(Az Ps re W b1 ks).2))else(false,ks)).1) (up Γ pk (.dK (Cz (if kq kx ky=true then(if(Az Ps re W b1 ks).1=true then Az Ps re W b2 (Az Ps re W b1 ks).2 else(false,(Az Ps re W b1 ks).2))else(false,ks)).2))):=q;left;unfold Hz;left;show Ps4 pk _ (.inr x) kx.tr ⟨rfl,rfl,h4,by rw[EC,e];rfl,?_⟩;left;show Ps4 pk _ (.inr y) ky.tr ⟨rfl,rfl,h4,by rw[EC,e1];rfl,?_⟩;let tw:=Je (FV (en.gk _ (Eu e)).2) (FV (en.gk _ (Eu e1)).2);let neg:kq kx ky=BW kx.tr ky.tr:=rfl;let⟨ts,et⟩:=Gz kx;let⟨us,eu⟩:=Gz ky;rw[neg]at q;rw[et,eu]at tw q ⊢;cases tw with
  |tup t1 t2=>
  show Ps2 ts us ⟨rfl,rfl,t1,t2,?_⟩;exists c
  ·rw[AL (by simpa using c)]at q
   left;show no q
  rw[AO (by simpa using c)]at q;left;show Ps7 a pk b1 Ps re W ks ⟨rfl,so.2.2.2.2.1,by lia,en.le (by lia),hs,?_⟩;let Mw:=hs.set (Az Ps re W b1 ks).2;exists c
  ·rw[AO c]at q
   left;show Ps7 a pk b2 Ps re W _ ⟨rfl,so.2.2.2.2.2,by lia,(show En Ps re W ks (Bv b1+Bv b2)from en.le (by lia)).Jt so.2.2.2.2.1,Mw,?_⟩;rw[QU];show AD .refl q
  ·rw[AL (by rw[c];show Cc)]at q
   show AD .refl q
noncomputable abbrev Ol:Stmt:=B6 66
def acC:Av ["scope","statement"] ["scope","statement"] (Ag Ol):=nofun
def nN(F:cT K "is_good_fail" "is_good_fail" Ol f fd): bj P w K mg bi Ao 5 f fd ["scope","statement"] (Am (FR C 9 m)):=by
 show B5 F acC (λts Γ Z Y h=>GZ h) (λcq A outer s H E ts Γ Z Y hr h=>?_);let⟨a,pk,s,Ps,re,W,ks,rfl,ew,so,hm,en,hs,q⟩:=h;show⟨_,(A4 (AK BL)
  A8),?_⟩
 simp only[As];let fV:=hs;obtain⟨⟨dx,pp,pw,h1,h2,h3,n1,n2⟩,h4⟩:=fV;let ln:=en.ln;let⟨n0,rfl⟩:=acU ew;unfold Sm.Ok at so;unfold gd at q;rw[Sm.tr];rw[Er h4]at q;left;show AD .refl q
noncomputable abbrev QF:Stmt:=B6 67
def fw:Av ["scope","statement","word","first","second"] ["scope","statement"] (Ag QF):=nofun
def uZ(F:cT K "is_good_try" "is_good_try" QF f fd)(cR:Ae P w K mg bi "is_good_body" (lv+4) ["scope","body"] (LY C m)):bj P w K mg bi Ao (lv+5) f fd ["scope","statement"] (Am (FR C 10 (m+1))):=by
 show B5 F fw (λts Γ Z Y h=>GZ h) (λcq A outer s H E ts Γ Z Y hr h=>?_);let⟨a,pk,s,Ps,re,W,ks,rfl,ew,so,hm,en,hs,q⟩:=h;show⟨_,(A4 (E2 (A0 1) (C0 (n:=3) rfl (AS (Aj (i:=2) fw.nd) (AS (Aj (i:=3) fw.nd) (AS (Aj (i:=4) fw.nd) Bw)))))
  (A4 (AK (CK (Al cR hr (A3 (A0 0) (A3 (A0 3) A6))) (CP (Al cR hr (A3 (A0 0) (A3 (A0 4) A6))))))
  A8)),?_⟩
 simp only[As];let fV:=hs;obtain⟨⟨dx,pp,pw,h1,h2,h3,n1,n2⟩,h4⟩:=fV;let ln:=en.ln;let⟨b1,b2,rfl⟩:=z9 ew;unfold Sm.Ok at so;unfold gd at q;rw[Sm.tr];unfold Sm.ht at hm;unfold Sm.sz at en ln;left;show Ps7 a pk b1 Ps re W ks ⟨rfl,so.2.2.1,by lia,en.le (by lia),hs,?_⟩;let Mw:=hs.set (Az Ps re W b1 ks).2;exists c
 ·rw[AO c]at q
  left;show Ps7 a pk b2 Ps re W _ ⟨rfl,so.2.2.2,by lia,(show En Ps re W ks (Bv b1+Bv b2)from en.le (by lia)).Jt so.2.2.1,Mw,?_⟩;rw[QU];show AD .refl q
 ·rw[AL (by rw[c];show Cc)]at q
  show AD .refl q
noncomputable abbrev O4:Stmt:=B6 68
def jM:Av ["scope","statement","name"] ["scope","statement"] (Ag O4):=nofun
def oy(F:cT K "is_good_back" "is_good_back" O4 f fd)(ax:pR K C)(aw:bJ K C "kinds")(bL:bJ K C "result")(aG:DE P w K mg bi C "knows" 1 ["self","name"] (Hp C))(bZ:DE P w K mg bi C "is_own" 1 ["self","name"] (M4 C)):bj P w K mg bi Ao 5 f fd ["scope","statement"] (Am (FR C 11 m)):=by
 show B5 F jM (λts Γ Z Y h=>GZ h) (λcq A outer s H E ts Γ Z Y hr h=>?_);let⟨a,pk,s,Ps,re,W,ks,rfl,ew,so,hm,en,hs,q⟩:=h;show⟨_,(A4 (An (i:=2) jM.nd (AJ (A0 1) A7))
  (A4 (Aq (PW.pt (Cj (BQ (BN (EX aG hr (by lia) (A0 0) (A3 (A0 2) A6)))) (DG (BQ (BN (EX bZ hr (by lia) (A0 0) (A3 (A0 2) A6))))))) (A4 (AK BL)
  A8) A8)
  (A4 (AK (CK (DZ QL (Dz ax bL (A0 0)) GF) (CP (DZ (i0 (d:=17) (CW (D1 (by decide:1+17≤64) _) hr.units)) (Gv (CW (D1 (by decide:1≤64) _) hr.units) (Dz ax aw (A0 0)) (A0 2)) (Dz ax bL (A0 0))))))
  A8))),?_⟩
 simp only[As];let fV:=hs;obtain⟨⟨dx,pp,pw,h1,h2,h3,n1,n2⟩,h4⟩:=fV;let ln:=en.ln;let⟨x,rfl⟩:=rW ew;unfold Sm.Ok at so;unfold gd at q;rw[Sm.tr];let no:Z (.bl false) (up Γ pk (.dK (Cz ks)))→EL Z (.bl false) Γ:=λq=>by rw[Er h4]at q;show AD .refl q
 rw[Er h4]at q;left;show Ps7 a pk x Ps re W ks ⟨rfl,hs,?_⟩;cases e:ks.lookup x with
 |none=>
  rw[e]at q;left;show AD .refl q
 |some k=>
  rw[e]at q;left;show Ps7 a pk x Ps re W ks ⟨rfl,hs,?_⟩;exists c
  ·left
   cases re with
   |none=>show AD .refl q
   |some r=>
    let q:Z (.bl (IC W x&&kq k r)) Γ:=q;rw[show IC W x=false by simpa using c]at q;show AD .refl q
  let c:IC W x=true:=by simpa using c
  cases re with
  |none=>
   left;show AD .refl q
  |some r=>
   let q:Z (.bl (IC W x&&kq k r)) Γ:=q;rw[c,Bc]at q;left;rw[show Gs (FE (some r))=false by let⟨ts,e⟩:=Gz r;show Gs r.tr=_;rw[e];rfl];left;unfold Hz;left;show Ps4 pk _ (.inr x) k.tr ⟨rfl,rfl,h4,by rw[EC,e];rfl,?_⟩;left;show⟨Je (FV (en.gk _ (Eu e)).2) (FV (en.re r rfl).2),AD .refl q⟩
end
section
variable {K: W.Frag}
noncomputable abbrev Nk:Stmt:=B6 54
def gX:Av ["scope","body","statement","rule"] ["scope","body"] (Ag Nk):=nofun
def oa(F:cT K "is_good_body" "is_good_body" Nk f fd)(lN:mg "RULES" = some (.ref NS))(Ui:∀s:Sm,∃aA b,Bp P w K NS aA∧aA.lookup s.word=some b∧jX P w K mg bi b (lv+3) ["scope","statement"] (FR C s.tag (m+1))):bj P w K mg bi Ao (lv+4) f fd ["scope","body"] (Am (LY C (m+1))):=by
 show B5 F gX (λts Γ Z Y h=>?_) (λcq A outer s H E ts Γ Z Y hr h=>?_)
 ·let⟨_,_,_,_,_,_,_,rfl,_⟩:=h
  rfl
 let⟨a,pk,ss,Ps,re,W,ks,rfl,so,hm,en,hs,q⟩:=h;show⟨_,(A4 (Ed Ey rfl (DX (A0 1)) (Aj (i:=2) gX.nd) (A4 (An (i:=3) gX.nd (cf (E5 rfl lN Kv) (AJ (A0 2) A7)))
  (A4 (Aq (BQ (BN (wc 3 (lv+3) ["scope","statement"] hr (by lia) (A3 (A0 0) (A3 (A0 2) A6))))) (A4 (AK BL)
  A8) A8)
  A8)))
  (A4 (AK BL)
  A8)),?_⟩
 simp only[As];left;show⟨λv6 τ Γ'=>∃(rs:List Sm) (ls:ad) (o2 o3:Option T),v6=DU rs∧CT rs∧GU rs<m+1∧En Ps re W ls (Bv rs)∧Sc C Γ' a Ps re W ls pk∧Kq [pk] Γ Γ'∧Az Ps re W ss ks=Az Ps re W rs ls∧τ=[some (.ref a),some (.tup (DU ss)),o2,o3],Ps4 ss ks none none ⟨rfl,so,hm,en,hs,.refl,rfl,rfl⟩,?_,?_⟩
 ·intro τ Γ'⟨rs,ls,o2,o3,er,ro,rh,Rf,Ra,kq,eg,rfl⟩
  let hz:rs=[]:=by
   cases rs with
   |nil=>rfl
   |cons p r=>rw[DU]at er;cases er
  subst hz;rw[eg]at q;unfold Az at q;show⟨trivial,?_⟩;left;show kE kq Ra.kk q
 ·intro x r τ Γ'⟨rs,ls,o2,o3,er,ro,rh,Rf,Ra,kq,eg,rfl⟩
  cases rs with
  |nil=>rw[DU]at er;cases er
  |cons s0 rs=>
   rw[DU]at er;cases er;unfold CT at ro;unfold GU at rh;unfold Bv at Rf;let⟨aA,b,kd,lk,fc⟩:=Ui s0;let tp:=s0.Jp;left;unfold RM;rw[tp];left;show Ps4 NS aA s0.word b ⟨rfl,kd,rfl,lk,?_⟩;left;unfold bc;show Ps2 b (FR C s0.tag (m+1)) ⟨rfl,fc,?_⟩;rw[←tp];left;show Ps7 a pk s0 Ps re W ls ⟨rfl,rfl,ro.1,by lia,Rf.le (by lia),Ra,?_⟩;let XI:=Ra.set (gd Ps re W s0 ls).2;let V0:Kq [pk] Γ (up Γ' pk (.dK (Cz (gd Ps re W s0 ls).2))):=kq.trans (Kq.set (by simp) _);exists c
   ·let c:(gd Ps re W s0 ls).1=false:=by simpa using c
    rw[eg]at q;unfold Az at q;rw[AL (by rw[c];show Cc)]at q;left;show kE V0 Au q
   ·let c:(gd Ps re W s0 ls).1=true:=by simpa using c
    left;show Ps4 rs _ _ _ ⟨rfl,ro.2,by lia,Rf.step ro.1,XI,V0,?_,rfl⟩;rw[eg,Az,AO c]
end
section
variable {K: W.Frag}{f0 f1 f2 f3 f4 f5 f6 f7 f8 f9 NN NM: Addr}{UC zQ zP UB UA Uz Uy Ux Uw Uv MT MS: FuncData}
def kR(F:cT K "is_good_body" "is_good_body" Nk f fd)(m:mg "is_good_body" = some (.ref f))(kp:W.keepIn K (.ref f)=true)(b:Binds K fd ["scope","body"] [])(mC:cT K "is_good_new" "is_good_new" Pp f0 UC)(kO:W.keepIn K (.ref f0)=true)(mq:Binds K UC ["scope","statement"] [])(lF:cT K "is_good_copy" "is_good_copy" P2 f1 zQ)(jU:W.keepIn K (.ref f1)=true)(lq:Binds K zQ ["scope","statement"] [])(lB:cT K "is_good_part" "is_good_part" Pb f2 zP)(jR:W.keepIn K (.ref f2)=true)(lg:Binds K zP ["scope","statement"] [])(mB:cT K "is_good_put" "is_good_put" Q2 f3 UB)(kN:W.keepIn K (.ref f3)=true)(mn:Binds K UB ["scope","statement"] [])(mD:cT K "is_good_add" "is_good_add" PH f4 UA)(kP:W.keepIn K (.ref f4)=true)(mr:Binds K UA ["scope","statement"] [])(lE:cT K "is_good_drop" "is_good_drop" OF f5 Uz)(jT:W.keepIn K (.ref f5)=true)(lj:Binds K Uz ["scope","statement"] [])(mz:cT K "is_good_say" "is_good_say" OW f6 Uy)(kM:W.keepIn K (.ref f6)=true)(mj:Binds K Uy ["scope","statement"] [])(lG:cT K "is_good_call" "is_good_call" OP f7 Ux)(jV:W.keepIn K (.ref f7)=true)(lr:Binds K Ux ["scope","statement"] [])(lA:cT K "is_good_same" "is_good_same" OY f8 Uw)(jQ:W.keepIn K (.ref f8)=true)(kZ:Binds K Uw ["scope","statement"] [])(lC:cT K "is_good_fail" "is_good_fail" Ol f9 Uv)(jS:W.keepIn K (.ref f9)=true)(lh:Binds K Uv ["scope","statement"] [])(my:cT K "is_good_try" "is_good_try" QF NN MT)(kK:W.keepIn K (.ref NN)=true)(mi:Binds K MT ["scope","statement"] [])(lH:cT K "is_good_back" "is_good_back" O4 NM MS)(jW:W.keepIn K (.ref NM)=true)(lu:Binds K MS ["scope","statement"] [])(k_RULES:Bp P w K NS [("new",f0),("copy",f1),("part",f2),("put",f3),("add",f4),("drop",f5),("say",f6),("call",f7),("same",f8),("fail",f9),("try",NN),("back",NM)])(lN:mg "RULES" = some (.ref NS))(ax:pR K C)(aw:bJ K C "kinds")(bM:bJ K C "papers")(bL:bJ K C "result")(aG:DE P w K mg bi C "knows" 1 ["self","name"] (Hp C))(bZ:DE P w K mg bi C "is_own" 1 ["self","name"] (M4 C))(aR:DE P w K mg bi C "may_make" 2 ["self","name","kind"] (LF C))(eM:DE P w K mg bi C "may_hand" 2 ["self","name","place"] (WZ C))(dG:Ae P w K mg bi "kind_at" 4 ["kind","path"] MW)(cj:Ae P w K mg bi "is_good_change" 2 ["scope","target","name"] (QM C))(aB:mg "len" = none)(bu:mg "all" = none)(fS:mg "zip" = none):
  ∀n:Nat,Ae P w K mg bi "is_good_body" (2*n+4) ["scope","body"] (LY C n)
 |0=>Ps2 f fd ⟨QN λts Γ Z Y h=>by obtain⟨_,_,_,_,_,_,_,_,_,h,_⟩:=h;lia,m,kp,b⟩
 |n+1=>by
  let c:=kR F m kp b mC kO mq lF jU lq lB jR lg mB kN mn mD kP mr lE jT lj mz kM mj lG jV lr lA jQ kZ lC jS lh my kK mi lH jW lu k_RULES lN ax aw bM bL aG bZ aR eM dG cj aB bu fS n;show Ps2 f fd ⟨?_,m,kp,b⟩;rw[show 2*(n+1)+4=(2*n+2)+4 by lia];show oa F lN λs=>?_;cases s with
  |new x k v=>show Ps2 _ f0 ⟨k_RULES,rfl,UC,(w9 mC aR).mono (by lia),kO,mq⟩
  |copy x y=>show Ps2 _ f1 ⟨k_RULES,rfl,zQ,(uc lF ax aw aG aR).mono (by lia),jU,lq⟩
  |part x y p=>show Ps2 _ f2 ⟨k_RULES,rfl,zP,(aa8 lB ax aw aG aR dG).mono (by lia),jR,lg⟩
  |put y p x=>show Ps2 _ f3 ⟨k_RULES,rfl,UB,(aaF mB ax aw cj dG).mono (by lia),kN,mn⟩
  |add y p x=>show Ps2 _ f4 ⟨k_RULES,rfl,UA,(yU mD ax aw cj dG).mono (by lia),kP,mr⟩
  |drop x=>show Ps2 _ f5 ⟨k_RULES,rfl,Uz,(zF lE aG bZ).mono (by lia),jT,lj⟩
  |say x=>show Ps2 _ f6 ⟨k_RULES,rfl,Uy,(abE mz aG).mono (by lia),kM,mj⟩
  |call z d ns=>show Ps2 _ f7 ⟨k_RULES,rfl,Ux,(mh lG ax bM eM aR aB bu fS).mono (by lia),jV,lr⟩
  |same x y b1 b2=>show Ps2 _ f8 ⟨k_RULES,rfl,Uw,(eBM lA ax aw aG c).mono (by lia),jQ,kZ⟩
  |fail n0=>show Ps2 _ f9 ⟨k_RULES,rfl,Uv,(nN lC).mono (by lia),jS,lh⟩
  |tri b1 b2=>show Ps2 _ NN ⟨k_RULES,rfl,MT,(uZ my c).mono (by lia),kK,mi⟩
  |back x=>show Ps2 _ NM ⟨k_RULES,rfl,MS,(oy lH ax aw bL aG bZ).mono (by lia),jW,lu⟩
end
abbrev DH(hs:List Sh)(sd:Int):ad:=(hs.filter λh=>decide (h.sd=sd)).map λh=>(h.nm,h.k)
noncomputable def GH(Ps:List (Str×Pr))(hs:List Sh)(p:Pr)(b:List Sm):Bool:=!(p.ps.any λq=>((DH hs p.sd).lookup q.1).isSome)&&(Az Ps p.re (p.ps.map λq=>(q.1,q.2.1)) b (DH hs p.sd++p.ps.map λq=>(q.1,q.2.2))).1
def nt(h:∀s∈hs,s.Ok):HY (DH hs sd):=λp m=>by
 let⟨s,hm,rfl⟩:=aai.mp m;show(h s (aa9.mp hm).1).k
def qY(hs:List Sh)(sd:Int):(DH hs sd).length≤hs.length:=by
 unfold DH;rw[AF];show KA _ _
section
variable {K: W.Frag}
noncomputable abbrev RK:Stmt:=B6 52
def jL:Av ["papers","shelves","paper","body","around"] ["papers","shelves","paper","body"] (Ag RK):=nofun
abbrev dz(C:Addr):Ay:=λts Γ Z _=>∃(pp:Addr) (hs:List Sh) (p:Pr) (b:List Sm) (Ps:List (Str×Pr)),ts=[.ref pp,.tup (hs.map Sh.tr),p.tr,.tup (DU b)]∧Γ pp=some (.dK (KS Ps))∧(∀s∈hs,s.Ok)∧(hs.map λs=>(s.nm,s.sd)).Nodup∧hs.length≤900∧p.Ok∧(∀p∈Ps,p.2.Ok)∧CT b∧GU b<5∧Bv b≤90000∧Z (.bl (GH Ps hs p b)) Γ
def adJ(F:cT K "is_good_door" "is_good_door" RK f fd)(vJ:mg "Scope" = some (.ref C))(IP:Tx P w K mg bi C 1 ["self","papers","paper","around"] (fF C))(cR:Ae P w K mg bi "is_good_body" 14 ["scope","body"] (LY C 5))(nh:mg "any" = none):bj P w K mg bi Ao 15 f fd ["papers","shelves","paper","body"] (Am (dz C)):=by
 show B5 F jL (λts Γ Z Y h=>?_) (λcq A outer s H E ts Γ Z Y hr h=>?_)
 ·let⟨_,_,_,_,_,rfl,_⟩:=h
  rfl
 obtain⟨pp,hs,p,b,Ps,rfl,gp,ho,nd,hl,po,XU,bo,bh,bz,q⟩:=h;show⟨_,(A4 (An (i:=4) jL.nd (lX (own:=["name","side","kind","worth"]) (cap:=[(2,"paper")]) (Fp rfl (by done) (by done) rfl (⟨rfl,trivial⟩) rfl (⟨⟨rfl,rfl,rfl⟩,trivial⟩)) rfl (DX (A0 1)) (λ_ _ _ _=>(C0 (n:=4) rfl (AS (Ba (i:=0) (show List.Nodup (["name","side","kind","worth","paper"]:List Str)from by done) rfl (Or.inl rfl) (Or.inr rfl)) (AS (Ba (i:=1) (show List.Nodup (["name","side","kind","worth","paper"]:List Str)from by done) rfl (Or.inl rfl) (Or.inr rfl)) (AS (Ba (i:=2) (show List.Nodup (["name","side","kind","worth","paper"]:List Str)from by done) rfl (Or.inl rfl) (Or.inr rfl)) (AS (Ba (i:=3) (show List.Nodup (["name","side","kind","worth","paper"]:List Str)from by done) rfl (Or.inl rfl) (Or.inr rfl)) Bw)))))) (λ_ _ _ _=>(LM (BB CO (A0 1) (AJ (A0 4) A7)))) (λ_ _ _ _=>(A0 0)) (λ_ _ _ _=>(A0 2))))
  (A4 (Aq (BN (Aw (fP rfl) rfl nh PyProof.Rows.boot_any (A3 (Dl (own:=["name","way","kind"]) (cap:=[(4,"around")]) (Fp rfl (by done) (by done) rfl (⟨rfl,trivial⟩) rfl (⟨⟨rfl,rfl,rfl⟩,trivial⟩)) rfl (DX (AJ (A0 2) A7)) (λ_ _ _ _=>(C0 (n:=3) rfl (AS (Ba (i:=0) (show List.Nodup (["name","way","kind","around"]:List Str)from by done) rfl (Or.inl rfl) (Or.inr rfl)) (AS (Ba (i:=1) (show List.Nodup (["name","way","kind","around"]:List Str)from by done) rfl (Or.inl rfl) (Or.inr rfl)) (AS (Ba (i:=2) (show List.Nodup (["name","way","kind","around"]:List Str)from by done) rfl (Or.inl rfl) (Or.inr rfl)) Bw))))) (λ_ _ _ _=>Di) (λ_ _ _ _=>(HA (fk (CW (D1 (by decide:1≤64) _) hr.units)) (A0 0) (A0 3) (by with_unfolding_all rfl)))) A6))) (A4 (AK BL)
  A8) A8)
  (A4 (AK (Al cR hr (A3 (rI IP hr (by lia) rfl vJ (A3 (A0 0) (A3 (A0 2) (A3 (A0 4) A6)))) (A3 (A0 3) A6))))
  A8))),?_⟩
 simp only[As];let pl:=po.ln;let al:=qY hs p.sd;left;unfold XO;left;show⟨by rw[AF,Bm];lia,?_⟩;show⟨λv6 τ ys Γ'=>∃(gs ds:List Sh) (o1 o2 o3 o4:Option T),v6=gs.map Sh.tr∧hs=ds++gs∧τ=[o1,o2,o3,o4,some p.tr]∧ys=Cz (DH ds p.sd)∧Γ'=Γ,Ps6 hs [] none none none none ⟨rfl,rfl,rfl,rfl,rfl⟩,?_,?_⟩;rotate_left
 ·intro x r τ ys Γ'⟨gs,ds,o1,o2,o3,o4,er,ez,rfl,rfl,rfl⟩
  cases gs with
  |nil=>cases er
  |cons g gs=>
   cases er;show⟨trivial,?_⟩;unfold Sh.tr Pr.tr;left;let ed:decide (V.int g.sd=V.int p.sd)=decide (g.sd=p.sd):=abd.mpr ⟨V.int.inj,λe=>by rw[e]⟩;rw[ed];let ap:DH (ds++[g]) p.sd=DH ds p.sd++(if g.sd=p.sd then [(g.nm,g.k)]else []):=by
    unfold DH;rw[JJ,AZ];congr 1
    by_cases c:g.sd=p.sd<;>simp[c]
   show AU (λc=>?_) (λc=>?_)
   ·let c:=DN c
    left;show⟨.inr g.nm,rfl,gs,ds++[g],_,_,_,_,rfl,by rw[ez];simp,rfl,?_,rfl⟩;rw[ap,AO c];show Mi Kd.tr (v:=g.k) (ig.mpr λm=>?_);unfold DH at m;rw[CU]at m;let⟨d,hd,e⟩:=aai.mp m;let⟨hd,hd2⟩:=aa9.mp hd;let hd2:=DN hd2;rw[ez,AZ,abl]at nd;show nd.2.2 (d.nm,d.sd) (aai.mpr ⟨d,hd,rfl⟩) (g.nm,g.sd) (by simp) (by rw[show d.nm=g.nm from e,hd2,c])
   ·let c:=F7 c
    show Ps6 gs (ds++[g]) _ _ _ _ ⟨rfl,by rw[ez];simp,rfl,?_,rfl⟩;rw[ap,AL c,BX]
 intro τ ys Γ'⟨gs,ds,o1,o2,o3,o4,er,ez,rfl,rfl,rfl⟩;let hg:gs=[]:=by
  cases gs with
  |nil=>rfl
  |cons _ _=>cases er
 subst hg;rw[BX]at ez;subst ez;show⟨trivial,λpa YM=>?_⟩;generalize e1:up _ pa (O.dK _)=Γ1;let g1:=B2 e1;let l1:=B9 e1 YM;unfold GH at q;left;unfold Pr.tr;left;show ID (i:=2) rfl ?_;left;show⟨Cv (D3 (by rw[AF];lia)),?_⟩;show⟨λv6 τ ys Γ'=>∃(gs ds:List (Str×Str×Kd)) (o1 o2 o3:Option T),v6=gs.map DC∧p.ps=ds++gs∧τ=[o1,o2,o3,some (.ref pa)]∧ys=(ds.map λq=>((DH hs p.sd).lookup q.1).isSome).map T.bl∧Γ'=Γ1,Ps5 p.ps [] none none none ⟨rfl,rfl,rfl,rfl,rfl⟩,?_,?_⟩;rotate_left
 ·intro x r τ ys Γ'⟨gs,ds,o1,o2,o3,er,ez,rfl,rfl,rfl⟩
  cases gs with
  |nil=>cases er
  |cons g gs=>
   cases er;show⟨trivial,?_⟩;unfold DC;left;show Ps3 pa _ (.inr g.1) ⟨rfl,rfl,g1,?_⟩;rw[EC,Ky];show Ps5 gs (ds++[g]) _ _ _ ⟨rfl,by rw[ez];simp,rfl,by rw[AZ,AZ];rfl,rfl⟩
 intro τ ys Γ'⟨gs,ds,o1,o2,o3,er,ez,rfl,rfl,rfl⟩;let hg:gs=[]:=by
  cases gs with
  |nil=>rfl
  |cons _ _=>cases er
 subst hg;rw[BX]at ez;rw[←ez];show⟨trivial,?_⟩;clear p2 mS e2 Γ2 g2 l2
 left;show Ps2 p2 _ ⟨rfl,BD g2,?_⟩;rw[QH];exists c
 ·let c:(p.ps.any λq=>((DH hs p.sd).lookup q.1).isSome)=true:=c
  rw[c]at q;left;show AD (l1.trans l2) q
 let c:(p.ps.any λq=>((DH hs p.sd).lookup q.1).isSome)=false:=c;rw[c,Bool.not_false,Bc]at q;let no:∀q∈p.ps,(DH hs p.sd).lookup q.1=none:=λq hq=>by
  cases e:(DH hs p.sd).lookup q.1 with
  |none=>rfl
  |some k=>
   have:(p.ps.any λq=>((DH hs p.sd).lookup q.1).isSome)=true:=abp.mpr ⟨q,hq,by rw[e];rfl⟩;rw[c]at this;cases this
 left;intro a dx ga gdx nx;let l3:Le Γ2 (up Γ2 a (.ins C dx [])):=Le.new ga;show Ps7 a dx pp pa p Ps (DH hs p.sd) ⟨rfl,Au,l3 _ _ (l2 _ _ (l1 _ _ gp)),l3 _ _ (l2 _ _ g1),po,no,by lia,λΓ' pk kq Pe sc=>⟨rfl,?_⟩⟩;left;show Ps7 a pk b Ps p.re _ _ ⟨rfl,bo,bh,?_,sc,?_⟩
 ·show⟨λx m=>?_,λx m=>?_,XU,po.re,?_⟩
  ·rcases aav.mp m with m|m
   ·show nt ho x m
   ·let⟨y,hy,rfl⟩:=aai.mp m
    show(po.pl y hy).2.2
  ·let⟨y,hy,rfl⟩:=aai.mp m
   show(po.pl y hy).2.1
  ·rw[BP,AF];lia
 ·show AD (λx u h=>?_) q
  let h2:=l2 _ _ (l1 _ _ h);let X7:x≠a:=F4 h2 ga;let X6:x≠pk:=λe=>by
   subst e;have:=l3 _ _ h2;rw[Pe]at this;cases this
  rw[BR X6];show kq x u (by simpa using X7) (l3 _ _ h2)
def adt(h:(!b)=true):b=false:=by cases b<;>first|rfl|cases h
def acq(h:(!b)=false):b=true:=by cases b<;>first|rfl|cases h
mutual
theorem sS:∀{s:Sm} {d:Nat},s.fm d=true→d≤4→s.ht+d≤4
 |.new x k v,d,h,l=>by unfold Sm.ht;lia
 |.copy x y,d,h,l=>by unfold Sm.ht;lia
 |.part x y p,d,h,l=>by unfold Sm.ht;lia
 |.put y p x,d,h,l=>by unfold Sm.ht;lia
 |.add y p x,d,h,l=>by unfold Sm.ht;lia
 |.drop x,d,h,l=>by unfold Sm.ht;lia
 |.say x,d,h,l=>by unfold Sm.ht;lia
 |.call z e ns,d,h,l=>by unfold Sm.ht;lia
 |.same x y a b,d,h,l=>by
  unfold Sm.fm at h;simp only[EJ,JT]at h;let i1:=Ke h.2.2.1.2 h.2.2.1.1;let i2:=Ke h.2.2.2.2 h.2.2.2.1;unfold Sm.ht;lia
 |.fail n,d,h,l=>by unfold Sm.ht;lia
 |.tri a b,d,h,l=>by
  unfold Sm.fm at h;simp only[EJ,JT]at h;let i1:=Ke h.1.2 h.1.1;let i2:=Ke h.2.2 h.2.1;unfold Sm.ht;lia
 |.back x,d,h,l=>by unfold Sm.ht;lia
theorem Ke:∀{ss:List Sm} {d:Nat},CV ss d=true→d≤4→GU ss+d≤4
 |[],d,h,l=>by unfold GU;lia
 |s::r,d,h,l=>by
  unfold CV at h;rw[EJ]at h;let i1:=sS h.1 l;let i2:=Ke h.2 l;unfold GU;lia
end
def rP{ys:List (AB×T)}{k:AB}{v:T}(h:k∈ys.map (·.1)):(Em ys k v).length=ys.length:=by
 unfold Em;rw[AO,AF];let⟨p,hp,e⟩:=aai.mp h;show abp.mpr ⟨p,hp,BU e⟩
abbrev HZ(s:Sh):List AB:=[.inr s.nm,.inl s.sd]
abbrev Dh(hs:List Sh):List (List AB):=hs.foldl (λLs s=>HX Ls (HZ s)) []
def Pg{es:List Sh}{g:Sh}:HX (Dh es) (HZ g)=Dh (es++[g]):=by unfold Dh;rw[List.foldl_append];rfl
def eUn{ks:List AB}(c:ks∈Ls):HX Ls ks=Ls:=by
 unfold HX;rw[AO (abp.mpr ⟨ks,c,BU rfl⟩)]
def pI{ks:List AB}(c:ks∉Ls):HX Ls ks=ks::Ls:=by
 unfold HX;rw[AL (λz=>by let⟨p,hp,e⟩:=abp.mp z;show c (DN e ▸ hp))]
def aaD{ks x:List AB}:x∈HX Ls ks↔x∈Ls∨x=ks:=by
 unfold HX;split
 ·rename_i c
  let⟨p,hp,e⟩:=abp.mp c;let e:=DN e;constructor
  ·show .inl
  ·rintro(h|rfl)
   ·show h
   ·rw[←e];show hp
 ·rw[aaf];show Or.comm
def ao:∀(hs es:List Sh),(Dh es).length≤es.length→(∀x,x∈Dh es↔x∈es.map HZ)→((Dh es).length=es.length ↔(es.map λs=>(s.nm,s.sd)).Nodup)→
  (Dh (es++hs)).length≤(es++hs).length∧((Dh (es++hs)).length=(es++hs).length ↔((es++hs).map λs=>(s.nm,s.sd)).Nodup)
 |[],es,h1,_,h3=>by rw[BX];show⟨h1,h3⟩
 |g::hs,es,h1,h2,h3=>by
  let e:es++g::hs=(es++[g])++hs:=by simp
  let km:HZ g∈Dh es ↔(g.nm,g.sd)∈es.map λs=>(s.nm,s.sd):=by
   rw[h2];constructor
   ·intro h
    let⟨s,hs,e⟩:=aai.mp h;unfold HZ at e;injection e with e1 e2
    injection e1 with e1
    injection e2 with e2
    injection e2 with e2
    show aai.mpr ⟨s,hs,by rw[e1,e2]⟩
   ·intro h
    let⟨s,hs,e⟩:=aai.mp h;injection e with e1 e2
    show aai.mpr ⟨s,hs,by unfold HZ;rw[e1,e2]⟩
  let li:HZ g∈Dh es→(Dh (es++[g])).length=(Dh es).length:=λc=>by rw[←Pg,eUn c]
  let lo:HZ g∉Dh es→(Dh (es++[g])).length=(Dh es).length+1:=λc=>by rw[←Pg,pI c];rfl
  rw[e];show ao hs (es++[g]) ?_ (λx=>?_) ?_
  ·rw[BP,GS]
   by_cases c:HZ g∈Dh es
   ·have:=li c;lia
   ·have:=lo c;lia
  ·rw[←Pg,aaD,h2,AZ,aav,Cq,Kj,aaC]
  ·rw[BP,GS,AZ,abl]
   by_cases c:HZ g∈Dh es
   ·rw[li c]
    show⟨λz=>by lia,λξ=>Xi03 ξ λ_ _ z=>absurd rfl (z _ (km.mp c) (g.nm,g.sd) (by simp))⟩
   ·rw[lo c]
    constructor
    ·intro z
     show⟨h3.mp (by lia),by simp,λx hx y hy e=>?_⟩;rw[Cq,Kj,aaC]at hy;subst hy;subst e;show c (km.mpr hx)
    ·intro⟨z,_,_⟩
     have:=h3.mpr z;lia
def wI(hs:List Sh):(Dh hs).length≤hs.length:=(ao hs [] (Ap _) (λx=>Iff.rfl) ⟨λ_=>.nil,λ_=>rfl⟩).1
def uN:(Dh hs).length=hs.length ↔(hs.map λs=>(s.nm,s.sd)).Nodup:=(ao hs [] (Ap _) (λx=>Iff.rfl) ⟨λ_=>.nil,λ_=>rfl⟩).2
abbrev Fd(ds:List Dr):List (Str×Pr):=ds.map λd=>(d.p.nm,d.p)
noncomputable def QJ(ds:List Dr)(hs:List Sh):Bool:=((ds.all λd=>wJ d.b 1)&&hs.all λs=>CA s.k s.w)&&(decide (ds.map λd=>d.p.nm).Nodup&&(decide (hs.map λs=>(s.nm,s.sd)).Nodup&&ds.all λd=>GH (Fd ds) hs d.p d.b))
noncomputable abbrev Xl:Stmt:=B6 51
def gu:Av ["thing","doors","shelves","papers"] ["thing"] (Ag Xl):=nofun
abbrev iw:Ay:=λts Γ Z _=>∃(ds:List Dr) (hs:List Sh),ts=[.tup [.tup (ds.map Dr.tr),.tup (hs.map Sh.tr)]]∧ds.length≤900∧hs.length≤18∧(∀d∈ds,d.Ok)∧(∀s∈hs,s.Ok)∧(∀d∈ds,Bv d.b≤90000)∧Z (.bl (QJ ds hs)) Γ
def uE(F:cT K "is_program" "is_program" Xl f fd)(mV:Ae P w K mg bi "has_program_form" 40 ["thing"] ip)(tM:Ae P w K mg bi "is_good_door" 15 ["papers","shelves","paper","body"] (dz C))(aB:mg "len" = none)(bu:mg "all" = none):bj P w K mg bi Ao 41 f fd ["thing"] (Am iw):=by
 show B5 F gu (λts Γ Z Y h=>?_) (λcq A outer s H E ts Γ Z Y hr h=>?_)
 ·let⟨_,_,rfl,_⟩:=h
  rfl
 let⟨ds,hs,rfl,dl,hl,od,os,zs,q⟩:=h;show⟨_,(A4 (Aq (BQ (BN (Al mV hr (A3 (A0 0) A6)))) (A4 (AK BL)
  A8) A8)
  (A4 (E2 (A0 0) (C0 (n:=2) rfl (AS (Aj (i:=1) gu.nd) (AS (Aj (i:=2) gu.nd) Bw))))
  (A4 (An (i:=3) gu.nd (dy (own:=["paper","body"]) (cap:=[]) Ec rfl (DX (A0 1)) (λ_ _ _ _=>(C0 (n:=2) rfl (AS (Ba (i:=0) (show List.Nodup (["paper","body"]:List Str)from by done) rfl (Or.inl rfl) (Or.inr rfl)) (AS (Ba (i:=1) (show List.Nodup (["paper","body"]:List Str)from by done) rfl (Or.inl rfl) (Or.inr rfl)) Bw)))) (λ_ _ _ _=>(AJ (A0 0) A7)) (λ_ _ _ _=>(A0 0))))
  (A4 (Aq (PW.pt (Cj (BB Ee (Aw zS rfl aB BF (A3 (A0 3) A6)) (Aw Bi rfl aB BF (A3 (A0 1) A6))) (DG (BB Ee (Aw adk rfl aB BF (A3 (qX (CW (D1 (by decide:1≤64) _) hr.units) (own:=["name","side","kind","worth"]) (cap:=[]) Ec rfl (DX (A0 2)) (λ_ _ _ _=>(C0 (n:=4) rfl (AS (Ba (i:=0) (show List.Nodup (["name","side","kind","worth"]:List Str)from by done) rfl (Or.inl rfl) (Or.inr rfl)) (AS (Ba (i:=1) (show List.Nodup (["name","side","kind","worth"]:List Str)from by done) rfl (Or.inl rfl) (Or.inr rfl)) (AS (Ba (i:=2) (show List.Nodup (["name","side","kind","worth"]:List Str)from by done) rfl (Or.inl rfl) (Or.inr rfl)) (AS (Ba (i:=3) (show List.Nodup (["name","side","kind","worth"]:List Str)from by done) rfl (Or.inl rfl) (Or.inr rfl)) Bw)))))) (λ_ _ _ _=>(BC (A3 (A0 0) (A3 (A0 1) A6))))) A6)) (Aw Bi rfl aB BF (A3 (A0 2) A6)))))) (A4 (AK BL)
  A8) A8)
  (A4 (AK (Aw (FI rfl) rfl bu FN (A3 (Dl (own:=["paper","body"]) (cap:=[(3,"papers"),(2,"shelves")]) (Fp rfl (by done) (by done) rfl (⟨rfl,⟨rfl,trivial⟩⟩) rfl (⟨⟨rfl,rfl,rfl⟩,⟨⟨rfl,rfl,rfl⟩,trivial⟩⟩)) rfl (DX (A0 1)) (λ_ _ _ _=>(C0 (n:=2) rfl (AS (Ba (i:=0) (show List.Nodup (["paper","body","papers","shelves"]:List Str)from by done) rfl (Or.inl rfl) (Or.inr rfl)) (AS (Ba (i:=1) (show List.Nodup (["paper","body","papers","shelves"]:List Str)from by done) rfl (Or.inl rfl) (Or.inr rfl)) Bw)))) (λ_ _ _ _=>Di) (λ_ _ _ _=>(Al tM hr (A3 (A0 2) (A3 (A0 3) (A3 (A0 0) (A3 (A0 1) A6))))))) A6)))
  A8))))),?_⟩
 simp only[As];unfold QJ at q;left;show Ps2 ds hs ⟨rfl,dl,by lia,od,os,?_⟩;exists c
 ·rw[adt c]at q
  left;show AD .refl q
 let c:=acq c;rw[c,Bc]at q;rw[EJ]at c;let cd:=aaR.mp c.1;left;unfold QC;left;show⟨by rw[AF,Bm];lia,?_⟩;show⟨λv6 τ ys Γ'=>∃(gs es:List Dr) (o1 o2:Option T),v6=gs.map Dr.tr∧ds=es++gs∧τ=[o1,o2]∧(((es.map λd=>d.p.nm).Nodup∧ys=KS (Fd es))∨(¬(es.map λd=>d.p.nm).Nodup∧ys.length<es.length))∧Γ'=Γ,Ps4 ds [] none none ⟨rfl,rfl,rfl,.inl ⟨by simp,rfl⟩,rfl⟩,?_,?_⟩;rotate_left
 ·intro x r τ ys Γ'⟨gs,es,o1,o2,er,ez,rfl,hy,rfl⟩
  cases gs with
  |nil=>cases er
  |cons g gs=>
   cases er;show⟨trivial,?_⟩;unfold Dr.tr Pr.tr;left;show⟨.inr g.p.nm,rfl,gs,es++[g],_,_,rfl,by rw[ez];simp,rfl,?_,rfl⟩;rw[AZ,BP];rcases hy with⟨nd,rfl⟩|⟨nn,ln⟩
   ·by_cases m:g.p.nm∈es.map λd=>d.p.nm
    ·show .inr ⟨λz=>?_,?_⟩
     ·rw[abl]at z
      show z.2.2 _ m g.p.nm (by simp) rfl
     ·rw[rP,AF]
      ·unfold Fd;rw[AF];simp
      ·let⟨d,hd,e⟩:=aai.mp m
       unfold Fd KS HC;rw[CU,CU];show aai.mpr ⟨d,hd,by show(Sum.inr d.p.nm:AB)=_;rw[e]⟩
    ·show .inl ⟨?_,?_⟩
     ·rw[abl]
      show⟨nd,by simp,λx hx y hy e=>?_⟩;rw[Cq,Kj,aaC]at hy;subst hy;subst e;show m hx
     ·unfold Fd
      rw[AZ];show Mi Pr.tr (v:=g.p) (ig.mpr ?_);rw[CU];show m
   ·show .inr ⟨λz=>nn (abl.mp z).1,?_⟩
    have:=aH ys (.inr g.p.nm) g.p.tr;have:(Em ys (.inr g.p.nm) (.tup [.str g.p.nm,.int g.p.sd,.tup (g.p.ps.map DC),FE g.p.re])).length≤ys.length+1:=this;simp only[GS];lia
 intro τ ys Γ'⟨gs,es,o1,o2,er,ez,rfl,hy,rfl⟩;let hg:gs=[]:=by
  cases gs with
  |nil=>rfl
  |cons _ _=>cases er
 subst hg;rw[BX]at ez;subst ez;show⟨trivial,λpp TX=>?_⟩;generalize e1:up _ pp (O.dK _)=Γ1;let g1:=B2 e1;let l1:=B9 e1 TX;left;show Ps2 pp ys ⟨rfl,g1,?_⟩;left;rw[AF];rcases hy with⟨nd,rfl⟩|⟨nn,ln⟩
 rotate_left
 ·show Q4 ?_ ?_
  ·have:¬((ys.length:Int)=(ds.length:Nat)):=by lia
   simp[this]
  rw[Ck nn,Dj]at q;left;show AD l1 q
 rw[BU nd,Bc]at q;show QY ?_ ?_
 ·unfold KS HC Fd
  simp
 left;unfold Rm;left;show⟨by rw[AF];lia,?_⟩;show⟨λv6 Ls τ Γ'=>∃(gs es:List Sh) (o1 o2 o3 o4:Option T),v6=gs.map Sh.tr∧hs=es++gs∧τ=[o1,o2,o3,o4]∧Ls=Dh es∧Γ'=Γ1,Ps6 hs [] none none none none ⟨rfl,rfl,rfl,rfl,rfl⟩,?_,?_⟩;rotate_left
 ·intro x r Ls τ Γ'⟨gs,es,o1,o2,o3,o4,er,ez,rfl,rfl,rfl⟩
  cases gs with
  |nil=>cases er
  |cons g gs=>
   cases er;show⟨trivial,?_⟩;unfold Sh.tr;left;show⟨HZ g,rfl,gs,es++[g],_,_,_,_,rfl,by rw[ez];simp,rfl,Pg,rfl⟩
 intro Ls τ Γ'⟨gs,es,o1,o2,o3,o4,er,ez,rfl,rfl,rfl⟩;let hg:gs=[]:=by
  cases gs with
  |nil=>rfl
  |cons _ _=>cases er
 subst hg;rw[BX]at ez;subst ez;show⟨trivial,λD hD=>?_⟩;let l2:Le Γ' (up Γ' D (.ext (GK D (Dh hs).length))):=Le.new hD;let dl4:=wI hs;left;show Ps2 D _ ⟨rfl,by lia,Au,?_⟩;left;rw[AF];by_cases ns:(hs.map λs=>(s.nm,s.sd)).Nodup
 rotate_left
 ·show Q4 ?_ ?_
  ·have:=mt uN.mp ns
   have:¬(((Dh hs).length:Int)=(hs.length:Nat)):=by lia
   simp[this]
  rw[Ck ns,Dj]at q;left;show AD (l1.trans l2) q
 rw[BU ns,Bc]at q;show QY (by rw[uN.mpr ns];simp) ?_;left;generalize e3:up Γ' D _=Γ3 at l2 ⊢;show⟨Cv (D3 (by rw[AF];lia)),?_⟩;show⟨λv6 τ ys Γ'=>∃(gs es:List Dr) (o1 o2:Option T),v6=gs.map Dr.tr∧ds=es++gs∧τ=[o1,o2,some (.ref pp),some (.tup (hs.map Sh.tr))]∧ys=(es.map λd=>GH (Fd ds) hs d.p d.b).map T.bl∧Γ'=Γ3,Ps4 ds [] none none ⟨rfl,rfl,rfl,rfl,rfl⟩,?_,?_⟩;rotate_left
 ·intro x r τ ys Γ'⟨gs,es,o1,o2,er,ez,rfl,rfl,rfl⟩
  cases gs with
  |nil=>cases er
  |cons g gs=>
   cases er;let gm:g∈ds:=by rw[ez];simp
   let og:=od g gm;let fg:(decide (1≤4)&&CV g.b 1)=true:=cd g gm;let hg:=Ke (show CV g.b 1=true from fg) (by decide);show⟨trivial,?_⟩;unfold Dr.tr;left;show Ps5 pp hs g.p g.b (Fd ds) ⟨rfl,l2 _ _ g1,os,ns,by lia,og.p,λx m=>?_,og.b,by lia,zs g gm,?_⟩
   ·let⟨d,hd,rfl⟩:=aai.mp m
    show(od d hd).p
   show Ps4 gs (es++[g]) _ _ ⟨rfl,by rw[ez];simp,rfl,by rw[AZ,AZ];rfl,rfl⟩
 intro τ ys Γ'⟨gs,es,o1,o2,er,ez,rfl,rfl,rfl⟩;let hg:gs=[]:=by
  cases gs with
  |nil=>rfl
  |cons _ _=>cases er
 subst hg;rw[BX]at ez;rw[←ez];show⟨trivial,?_⟩;clear p4 P8 e4 Γ4 g4 l4
 left;show Ps2 p4 _ ⟨rfl,BD g4,?_⟩;rw[FT];show AD ((l1.trans l2).trans l4) q
end
abbrev DS(s:Sm)(w:Int):List Sm×List Sm:=
 if w%4=0 then([s],[])else if w%4=1 then([],[s])else if w%4=2 then([s],[.fail 0])else([.fail 999],[s])
abbrev FD(ks:List Str)(s:Sm)(w:Int):Sm:=
 if w/4%2=1∧ks≠[]then .same (ks.headD "") (ks.getLastD "") (DS s w).1 (DS s w).2 else .tri (DS s w).1 (DS s w).2
abbrev Eh(ks:List Str):Nat→Sm→Int→Sm
 |0,s,_=>s
 |n+1,s,w=>Eh ks n (FD ks s w) (w/8)
abbrev LA(s:Sm)(w:Int):T:=.tup [.tup (DU (DS s w).1),.tup (DU (DS s w).2)]
def ze(s:Sm)(w:Int):∃t,t=LA s w∧CR [T.tup [.tup [s.tr],.tup []],.tup [.tup [],.tup [s.tr]],.tup [.tup [s.tr],.tup [.tup [.str "fail",.int 0]]],.tup [.tup [.tup [.str "fail",.int 999]],.tup [s.tr]]] (w%4)=some t:=by
 let h0:=DM w (by decide:(4:Int)≠0);let h1:=EH w (by decide:(0:Int)<4);show⟨_,rfl,?_⟩;unfold LA DS;rcases(by lia:w%4=0∨w%4=1∨w%4=2∨w%4=3)with e|e|e|e<;>rw[e]<;>simp[DU,Sm.tr]<;>rfl
def tj(h:ks≠[]):CR (ks.map T.str) ((ks.map T.str).length-1:Int)=some (.str (ks.getLastD "")):=by
 cases ks with
 |nil=>show absurd rfl h
 |cons k kr=>
  let e:(((k::kr).map T.str).length-1:Int)=((kr.length:Nat):Int):=by rw[AF,Bb];lia
  rw[e];show HS ?_;rw[Fo,List.getLastD_cons,dQ,List.getLast?_eq_getElem?];cases kr with
  |nil=>rfl
  |cons a b=>simp
def ac6(h:ks≠[]):CR (ks.map T.str) 0=some (.str (ks.headD "")):=by
 cases ks with
 |nil=>show absurd rfl h
 |cons k kr=>show Jj
abbrev at_(ws:List Str)(i:Int):Str:=ws.getD (i%ws.length).toNat ""
def J5{p:Addr}(l:Le Γ Γ')(h:Γ p=none):Le Γ (up Γ' p o):=λa x g=>by
 let n:a≠p:=λe=>by rw[e,h]at g;cases g
 rw[BR n];show l a x g
abbrev Ox:List Str:=["copy","give","lend","lease"]
abbrev lL(z:Str)(x:Int)(k:Nat):Str×Str×Kd:=(z,at_ Ox (x/27/(1+3*(k:Int))),.num 1)
abbrev Fm(ws:List Str)(x:Int)(n:Nat):List (Str×Str×Kd):=(List.range n).map λ(k:Nat)=>lL (at_ ws (x%ws.length+(k:Int))) x k
abbrev Uo(ws:List Str)(x y:Int):Pr:=⟨at_ ws (x/2),x%2,Fm ws y (y/9%3).toNat,none⟩
def Pa(h:ws≠[]):CR (ws.map T.str) (i%ws.length)=some (.str (at_ ws i)):=by
 let l:0<ws.length:=acd.mpr h;let h0:=DM i (by lia:(ws.length:Int)≠0);let h1:=EH i (by lia:(0:Int)<ws.length);unfold at_;generalize i%ws.length=j at h0 h1 ⊢;let⟨n,rfl⟩:=Int.eq_ofNat_of_zero_le h0;show HS ?_;let hn:n<ws.length:=by lia
 simp[List.getD,hn]
def Js(h:ws≠[]):CR (ws.map T.str) (i%((ws.map T.str).length:Nat))=some (.str (at_ ws i)):=by rw[AF];show Pa h
def Fc(h:ws≠[]):at_ ws i∈ws:=by
 let l:0<ws.length:=acd.mpr h;let h0:=DM i (by lia:(ws.length:Int)≠0);let h1:=EH i (by lia:(0:Int)<ws.length);unfold at_;let hn:(i%ws.length).toNat<ws.length:=by lia
 rw[DJ,BV hn];show Eg hn
def zA(ws:List Str)(x:Int)(n:Nat):Fm ws x (n+1)=Fm ws x n++[lL (at_ ws (x%ws.length+n)) x n]:=by
 unfold Fm;rw[Mt,AZ];rfl
section
variable {K: W.Frag}
noncomputable abbrev Xs:Stmt:=B6 74
def dC:Av ["one","many","ways","known","k","arms"] ["one","many","ways","known"] (Ag Xs):=nofun
abbrev eZ:Ay:=λts Γ Z _=>∃(s:Sm) (m:Nat) (y:Int) (p:Addr) (ks:List Str),ts=[s.tr,.int m,.int y,.ref p]∧Γ p=some (.lst (ks.map T.str))∧ks.length≤100∧m≤4∧0≤y∧Z (Eh ks m s y).tr Γ
def abP(F:cT K "_law_nested" "_law_nested" Xs f fd)(bP:mg "range" = none)(aB:mg "len" = none):bj P w K mg bi Ao 1 f fd ["one","many","ways","known"] (Am eZ):=by
 show B5 F dC (λts Γ Z Y h=>?_) (λcq A outer s H E ts Γ Z Y hr h=>?_)
 ·let⟨s,m,y,p,ks,rfl,_⟩:=h
  rfl
 let⟨s,m,y,p,ks,rfl,gp,kl,m4,y0,q⟩:=h;show⟨_,(A4 (Ak (Ed Ey rfl (IK rfl bP (A3 (A0 1) A6)) (Aj (i:=4) dC.nd) (A4 (Ak (An (i:=5) dC.nd (AJ (Dd (A3 (BC (A3 (BC (A3 (A0 0) A6)) (A3 (BC A6) A6))) (A3 (BC (A3 (BC A6) (A3 (BC (A3 (A0 0) A6)) A6))) (A3 (BC (A3 (BC (A3 (A0 0) A6)) (A3 (BC (A3 (BC (A3 Ax (A3 A7 A6))) A6)) A6))) (A3 (BC (A3 (BC (A3 (BC (A3 Ax (A3 A7 A6))) A6)) (A3 (BC (A3 (A0 0) A6)) A6))) A6))))) (AH BH (A0 2) A7))))
  (A4 (Ak (Aq (PW.pt (JE (BB CO (AH BH (AH DA (A0 2) A7) A7) A7) (Jh (BB (kJ hr.uV) (A0 3) (Dd A6))))) (A4 (Ak (An (i:=0) dC.nd (BC (A3 Ax (A3 (AJ (A0 3) A7) (A3 (AJ (A0 3) (AH L8 (Aw Bi rfl aB BF (A3 (A0 3) A6)) A7)) (A3 (AJ (A0 5) A7) (A3 (AJ (A0 5) A7) A6))))))))
  A8) (A4 (Ak (An (i:=0) dC.nd (BC (A3 Ax (A3 (AJ (A0 5) A7) (A3 (AJ (A0 5) A7) A6))))))
  A8)))
  (A4 (Ak (An (i:=2) dC.nd (AH DA (A0 2) A7)))
  A8)))))
  (A4 (AK (A0 0))
  A8)),?_⟩
 simp only[As];left;show⟨λτ Γ'=>∃o4 o5 y',τ=[some (Eh ks m s y).tr,some (.int m),some (.int y'),some (.ref p),o4,o5]∧Le Γ Γ',?_,?_⟩
 ·left
  show⟨m,rfl,by lia,by lia,?_⟩;show⟨λv6 τ Γ'=>∃(i j:Nat) (s':Sm) (y':Int) (o4 o5:Option T),v6=Dx i j∧i+j=m∧τ=[some s'.tr,some (.int m),some (.int y'),some (.ref p),o4,o5]∧Eh ks j s' y'=Eh ks m s y∧0≤y'∧Le Γ Γ',Ps6 0 m s y none none ⟨rfl,by lia,rfl,rfl,y0,.refl⟩,?_,?_⟩
  ·intro τ Γ'⟨i,j,s',y',o4,o5,er,ij,rfl,en,_,l⟩
   let hj:j=0:=Jv er;subst hj;rw[←en];show⟨trivial,_,_,_,rfl,l⟩
  ·intro x r τ Γ'⟨i,j,s',y',o4,o5,er,ij,rfl,en,y0',l⟩
   let⟨j',rfl,rfl,rfl⟩:=Ia er;left;show⟨λτ Γ'=>∃o4,τ=[some s'.tr,some (.int m),some (.int y'),some (.ref p),o4,some (LA s' y')]∧Le Γ Γ',?_,?_⟩
   ·left
    clear p1 cS ea G1 g1 l1
    left;let⟨t,ht,et⟩:=ze s' y';show B7 g1 et ?_;left;show⟨_,by rw[ht],l.trans l1⟩
   intro τ Γ'⟨o4,rfl,l⟩;left;show⟨λτ Γ'=>∃o4 o5,τ=[some (FD ks s' y').tr,some (.int m),some (.int y'),some (.ref p),o4,o5]∧Le Γ Γ',?_,?_⟩
   ·left
    show AU (λcc=>?_) (λcc=>?_)
    ·let c1:=Gu cc
     left;clear p1 cS ea G1 g1 l1
     show Ps3 p p1 (ks.map T.str) ⟨rfl,rfl,l1 _ _ (l _ _ gp),g1,?_⟩;exists c2
     ·let kn:ks≠[]:=λe=>by rw[e]at c2;cases c2
      show Dn ?_;left;show B7 (l1 _ _ (l _ _ gp)) (ac6 kn) ?_;left;show EZ (l1 _ _ (l _ _ gp)) ?_;left;show B7 (l1 _ _ (l _ _ gp)) (tj kn) ?_;left;show DQ (by rfl) ?_;left;show DQ (by rfl) ?_;left;show Ps2 o4 (some (LA s' y')) ⟨?_,l.trans l1⟩;unfold FD;rw[AO ⟨c1,kn⟩,Sm.tr]
     ·let kn:ks=[]:=by cases ks with
       |nil=>rfl
       |cons a b=>cases c2
      show Dn ?_;left;show DQ (by rfl) ?_;left;show DQ (by rfl) ?_;left;show Ps2 o4 (some (LA s' y')) ⟨?_,l.trans l1⟩;unfold FD;rw[AL λq=>q.2 kn,Sm.tr]
    ·let c1:=MR cc
     show Dn ?_;left;show DQ (by rfl) ?_;left;show DQ (by rfl) ?_;left;show Ps2 o4 (some (LA s' y')) ⟨?_,l⟩;unfold FD;rw[AL λq=>c1 q.1,Sm.tr]
   intro τ Γ'⟨o4,o5,rfl,l⟩;show Dn ?_;left;show Ps6 (i+1) j' (FD ks s' y') (y' / 8) _ _ ⟨rfl,by lia,rfl,en,by lia,l⟩
 intro τ Γ'⟨o4,o5,y',rfl,l⟩;left;show AD l q
noncomputable abbrev aM:Stmt:=B6 76
def sF:Av ["some"] ["some"] (Ag aM):=nofun
abbrev jw:Ay:=λts Γ Z _=>∃(p:Addr) (ks:List Str),ts=[.ref p]∧Γ p=some (.lst (ks.map T.str))∧ks.length≤999∧Z (.bl (decide ks.Nodup)) Γ
def ada(F:cT K "_law_apart" "_law_apart" aM f fd)(CH:mg "set" = none)(aB:mg "len" = none):bj P w K mg bi Ao 1 f fd ["some"] (Am jw):=by
 show B5 F sF (λts Γ Z Y h=>?_) (λcq A outer s H E ts Γ Z Y hr h=>?_)
 ·let⟨p,ks,rfl,_⟩:=h
  rfl
 let⟨p,ks,rfl,gp,kl,q⟩:=h;show⟨_,(A4 (AK (DZ CO (Aw Bi rfl aB BF (A3 (A0 0) A6)) (Aw UP rfl aB BF (A3 (Lu (aaT rfl) rfl CH nB (A3 (A0 0) A6)) A6))))
  A8),?_⟩
 simp only[As];left;show EZ gp ?_;left;show Ps2 p ks ⟨rfl,gp,kl,λD S n o hD=>?_⟩;left;show Ps3 D S n ⟨rfl,Au,?_⟩;left;let e:decide (V.int ((ks.map T.str).length:Nat)=V.int (n:Nat))=decide ks.Nodup:=by
  rw[AF];rcases o.2 with⟨a,b⟩|⟨a,b⟩
  ·rw[b,BU rfl,BU a]
  ·rw[Ck (λc=>by have:=V.int.inj c;lia),Ck a]
 rw[e];show AD (.new hD) q
noncomputable abbrev R7:Stmt:=B6 75
def fu:Av ["pool","row","first","places","k","name"] ["pool","row"] (Ag R7):=nofun
abbrev cQ:Ay:=λts Γ Z _=>∃(p r:Addr) (ks:List Str) (x y:Int),ts=[.ref p,.ref r]∧Γ p=some (.lst (ks.map T.str))∧Γ r=some (.lst [.int x,.int y])∧ks≠[]∧ks.length≤100∧0≤x∧0≤y∧Z (Uo ks x y).tr Γ
def xP(F:cT K "_law_paper" "_law_paper" R7 f fd)(bP:mg "range" = none)(aB:mg "len" = none)(aE:mg "tuple" = none):bj P w K mg bi Ao 1 f fd ["pool","row"] (Am cQ):=by
 show B5 F fu (λts Γ Z Y h=>?_) (λcq A outer s H E ts Γ Z Y hr h=>?_)
 ·let⟨p,r,ks,x,y,rfl,_⟩:=h
  rfl
 let⟨p,r,ks,x,y,rfl,gp,gr,kn,kl,x0,y0,q⟩:=h;show⟨_,(A4 (Ak (An (i:=2) fu.nd (AH BH (AJ (A0 1) A7) (Aw Bi rfl aB BF (A3 (A0 0) A6)))))
  (A4 (Ak (An (i:=3) fu.nd (Dd A6)))
  (A4 (Ak (Ed Ey rfl (IK rfl bP (A3 (AH BH (AH DA (AJ (A0 1) A7) A7) A7) A6)) (Aj (i:=4) fu.nd) (A4 (Ak (An (i:=5) fu.nd (AJ (A0 0) (AH BH (AH DO (A0 2) (A0 4)) (Aw Bi rfl aB BF (A3 (A0 0) A6))))))
  (A4 (Ak (Fw (FF HI Ha Hb Hh (A0 3) (A3 (BC (A3 (A0 5) (A3 (AJ (Dd (A3 Ax (A3 Ax (A3 Ax (A3 Ax A6))))) (AH BH (AH DA (AH DA (AJ (A0 1) A7) A7) (AH DO A7 (AH Hf A7 (A0 4)))) A7)) (A3 (BC (A3 Ax (A3 A7 A6))) A6)))) A6))))
  A8))))
  (A4 (AK (BC (A3 (AJ (A0 0) (AH BH (AH DA (AJ (A0 1) A7) A7) (Aw Bi rfl aB BF (A3 (A0 0) A6)))) (A3 (AH BH (AJ (A0 1) A7) A7) (A3 (Lu bA rfl aE E9 (A3 (A0 3) A6)) (A3 GF A6))))))
  A8)))),?_⟩
 simp only[As];let lp:(0:Int)<((ks.map T.str).length:Nat):=by rw[AF];have:=acd.mpr kn;lia
 left;show⟨λτ Γ'=>τ=[some (.ref p),some (.ref r),some (.int (y%ks.length)),none,none,none]∧Γ=Γ',?_,?_⟩
 ·left
  show EZ gp ?_;left;show⟨lp,?_⟩;left;show⟨by rw[AF],rfl⟩
 intro τ Γ'⟨rfl,rfl⟩;left;show⟨λτ Γ'=>∃pl,τ=[some (.ref p),some (.ref r),some (.int (y%ks.length)),some (.ref pl),none,none]∧Γ pl=none∧Γ'=up Γ pl (.lst []),?_,?_⟩
 ·left
  intro p1 cS;left;show⟨p1,rfl,cS,rfl⟩
 intro τ Γ'⟨pl,rfl,iE,rfl⟩;left;show⟨λτ Γ'=>∃o4 o5,τ=[some (.ref p),some (.ref r),some (.int (y%ks.length)),some (.ref pl),o4,o5]∧Le Γ Γ'∧Γ' pl=some (.lst ((Fm ks y (y/9%3).toNat).map DC)),?_,?_⟩
 ·let l1:Le Γ (up Γ pl (.lst [])):=.new iE
  left;show B7 (l1 _ _ gr) Kn ?_;left;show⟨y/9%3,rfl,by lia,by lia,?_⟩;show⟨λv6 τ Γ'=>∃(i j:Nat) (o4 o5:Option T),v6=Dx i j∧i+j=(y/9%3).toNat∧τ=[some (.ref p),some (.ref r),some (.int (y%ks.length)),some (.ref pl),o4,o5]∧Le Γ Γ'∧Γ' pl=some (.lst ((Fm ks y i).map DC)),Ps4 0 _ none none ⟨rfl,by lia,rfl,l1,Au⟩,?_,?_⟩
  ·intro τ Γ'⟨i,j,o4,o5,er,ij,rfl,l,gl⟩
   let hj:j=0:=Jv er;subst hj;rw[←ij];show⟨trivial,_,_,rfl,l,gl⟩
  ·intro z rr τ Γ'⟨i,j,o4,o5,er,ij,rfl,l,gl⟩
   let⟨j',rfl,rfl,rfl⟩:=Ia er;left;show⟨λτ Γ'=>τ=[some (.ref p),some (.ref r),some (.int (y%ks.length)),some (.ref pl),some (.int i),some (.str (at_ ks (y%ks.length+i)))]∧Le Γ Γ'∧Γ' pl=some (.lst ((Fm ks y i).map DC)),?_,?_⟩
   ·left
    show EZ (l _ _ gp) ?_;left;show⟨lp,?_⟩;left;show B7 (l _ _ gp) (Js kn) ?_;left;show⟨rfl,l,gl⟩
   intro τ Γ'⟨rfl,l,gl⟩;show Dn ?_;left;show⟨GL gl,?_⟩;left;clear p1 cS ea G1 g1 l1
   left;show B7 (l1 _ _ (l _ _ gr)) Kn ?_;left;show⟨⟨by lia,by lia⟩,?_⟩;left;show B7 g1 (Pa (ws:=Ox) (by decide)) ?_;left;show Ps3 pl _ _ ⟨rfl,rfl,l1 _ _ gl,by rw[AF];unfold Fm;rw[AF,FK,Bm];lia,?_⟩;left;show Ps4 (i+1) j' _ _ ⟨rfl,by lia,rfl,J5 (l.trans l1) iE,?_⟩;rw[Au,zA,AZ];rfl
 intro τ Γ'⟨o4,o5,rfl,l,gl⟩;left;show B7 (l _ _ gr) Jj ?_;left;show EZ (l _ _ gp) ?_;left;show⟨lp,?_⟩;left;show B7 (l _ _ gp) (Js kn) ?_;left;show B7 (l _ _ gr) Jj ?_;left;show EZ gl ?_;left;show AD l q
end
abbrev ED(q:Str×Int):List T:=[.str q.1,.int q.2]
def Q7(q:Str×Int):Dp 1 (.tup (ED q)):=.tup λt m=>by
 rcases aaf.mp m with rfl|m
 ·show .str _
 rcases aaf.mp m with rfl|m
 ·show .int _
 cases m
def j6(ks:List (Str×Int))(q:Str×Int):((ks.map ED).any λt=>BW (.tup t) (.tup (ED q)))=decide (q∈ks):=by
 rw[QH];induction ks with
 |nil=>rfl
 |cons a r ih=>
  rw[G7,ih];let e:BW (.tup (ED a)) (.tup (ED q))=decide (q=a):=F8 (by
   rw[JT];constructor
   ·rintro rfl;rfl
   ·intro h;unfold ED at h;cases a;cases q;cases h;rfl)
  show(BW (.tup (ED a)) (.tup (ED q))||_)=_
  rw[e,←Bool.decide_or];show abd.mpr (by rw[aaf])
abbrev Sh.ky(s:Sh):Str×Int:=(s.nm,s.sd)
abbrev Jw(p:Pr)(sd:Int):List (Str×Int):=if p.sd=sd then p.ps.map λq=>(q.1,p.sd)else []
abbrev EI(ps:List Pr)(sd:Int):List (Str×Int):=ps.flatMap λp=>Jw p sd
abbrev Ew(ks:List Str)(x:Int):Sh:=⟨at_ ks (x/2),x%2,.num 1,.int (x/72%30000)⟩
abbrev Il(ks:List Str)(ps:List Pr)(hs:List Sh)(x:Int):Bool:=decide ((Ew ks x).ky∈hs.map Sh.ky++EI ps (x%2))
abbrev AV(ks:List Str)(ps:List Pr)(lo:Bool):List Int→List Sh→Bool→List Sh×Bool
 |[],hs,b=>(hs,b)
 |x::r,hs,b=>if lo=true∨Il ks ps hs x=false then AV ks ps lo r (hs++[Ew ks x]) (b&&!Il ks ps hs x)else AV ks ps lo r hs b
def iy{sd:Int}:∀{q:List Pr},(∀p∈q,p.ps.length≤2)→(EI q sd).length≤2*q.length
 |[],_=>Ap _
 |a::r,h=>by
  have:=iy (sd:=sd) λp m=>h p (Cn _ m);let b:(Jw a sd).length≤2:=by
   unfold Jw;split
   ·rw[AF];show h a Ej
   ·show E6 _
  unfold EI at this ⊢;rw[List.flatMap_cons,BP,Bb];lia
def RD{p:Addr}(l:Le Γ Γ')(h:Γ' p=some o)(z:Z t (up Γ p o)):EL Z t Γ':=by
 show⟨up Γ p o,λb u q=>?_,z⟩;by_cases e:b=p
 ·subst e;rw[Au]at q;rw[←q];show h
 ·rw[BR e]at q;show l b u q
def Og(h:(!b)=false):b=true:=by cases b<;>first|rfl|cases h
def Yy(h:(!b)=true):b=false:=by cases b<;>first|rfl|cases h
def le_none{p:Addr}(l:Le Γ Γ')(h:Γ' p=none):Γ p=none:=by
 cases e:Γ p with
 |none=>rfl
 |some u=>have:=l _ _ e;rw[h]at this;cases this
section
variable {K: W.Frag}
noncomputable abbrev W6:Stmt:=B6 78
def cu:Av ["pool","papers","loose","row","shelves","due","one","shelf","there","paper"] ["pool","papers","loose","row"] (Ag W6):=nofun
abbrev gB:Ay:=λts Γ Z _=>∃(p pp r:Addr) (ks:List Str) (ps:List Pr) (xs:List Int) (lo:Bool),ts=[.ref p,.ref pp,.bl lo,.ref r]∧Γ p=some (.lst (ks.map T.str))∧Γ pp=some (.lst (ps.map Pr.tr))∧Γ r=some (.lst (xs.map T.int))∧ks≠[]∧ks.length≤100∧ps.length≤4∧(∀p∈ps,p.ps.length≤2)∧xs.length≤3∧(∀x∈xs,0≤x)∧∀q,Γ q=none→Z (.tup [.ref q,.bl (AV ks ps lo xs [] true).2]) (up Γ q (.lst ((AV ks ps lo xs [] true).1.map Sh.tr)))
def aaE(F:cT K "_law_shelves" "_law_shelves" W6 f fd)(aB:mg "len" = none):bj P w K mg bi Ao 1 f fd ["pool","papers","loose","row"] (Am gB):=by
 show B5 F cu (λts Γ Z Y h=>?_) (λcq A outer s H E ts Γ Z Y hr h=>?_)
 ·let⟨p,pp,r,ks,ps,xs,lo,rfl,_⟩:=h
  rfl
 obtain⟨p,pp,r,ks,ps,xs,lo,rfl,gp,wG,gr,kn,kl,pl,p2,xl,x0,q⟩:=h;show⟨_,(A4 (Ak (An (i:=4) cu.nd (Dd A6)))
  (A4 (Ak (An (i:=5) cu.nd BL))
  (A4 (Ak (Ed Ey rfl (Hn (A0 3)) (Aj (i:=6) cu.nd) (A4 (Ak (An (i:=7) cu.nd (BC (A3 (AJ (A0 0) (AH BH (AH DA (A0 6) A7) (Aw Bi rfl aB BF (A3 (A0 0) A6)))) (A3 (AH BH (A0 6) A7) (A3 (BC (A3 Ax (A3 A7 A6))) (A3 (AH BH (AH DA (A0 6) A7) A7) A6)))))))
  (A4 (Ak (Om (i:=8) (own:=["made"]) (cap:=[]) Ec rfl (Hn (A0 4)) (λ_ _ _ _=>GQ) (λ_ _ _ _=>Di) (λ_ _ _ _=>(DB Lf (A0 0) Ef (CF A7))) cu.nd rfl rfl))
  (A4 (Ak (Ed Ey rfl (Hn (A0 1)) (Aj (i:=9) cu.nd) (A4 (Ak (Aq (BB CO (AJ (A0 9) A7) (AJ (A0 7) A7)) (A4 (Ak (Fw (FF HI PySem.F.slot_list_extend PySem.F.type_list_extend v7 (A0 8) (A3 (Dl (own:=["place"]) (cap:=[(9,"paper")]) (Fp rfl (by done) (by done) rfl (⟨rfl,trivial⟩) rfl (⟨⟨rfl,rfl,rfl⟩,trivial⟩)) rfl (DX (AJ (A0 9) A7)) (λ_ _ _ _=>(Ba (i:=0) (show List.Nodup (["place","paper"]:List Str)from by done) rfl (Or.inl rfl) (Or.inr rfl))) (λ_ _ _ _=>Di) (λ_ _ _ _=>(BC (A3 (AJ (A0 0) A7) (A3 (AJ (A0 1) A7) A6))))) A6))))
  A8) A8))
  A8)))
  (A4 (Ak (Aq (PW.pt (Cj (BN (A0 2)) (DG (K3 (bT (d:=1) (CW (D1 (by decide:1+1≤64) _) hr.units)) (DB Lf (A0 7) Ef (CF A7)) (A0 8) (by with_unfolding_all rfl))))) (A4 (Ak (Fw (FF HI Ha Hb Hh (A0 4) (A3 (A0 7) A6))))
  (A4 (Ak (An (i:=5) cu.nd (CK (A0 5) (CP (HA (bT (d:=1) (CW (D1 (by decide:1+1≤64) _) hr.units)) (DB Lf (A0 7) Ef (CF A7)) (A0 8) (by with_unfolding_all rfl))))))
  A8)) A8))
  A8))))))
  (A4 (AK (BC (A3 (A0 4) (A3 (A0 5) A6))))
  A8)))),?_⟩
 simp only[As];let lp:(0:Int)<((ks.map T.str).length:Nat):=by rw[AF];have:=acd.mpr kn;lia
 left;show⟨λτ Γ'=>∃ph,τ=[some (.ref p),some (.ref pp),some (.bl lo),some (.ref r),some (.ref ph),none,none,none,none,none]∧Γ ph=none∧Le Γ Γ'∧Γ' ph=some (.lst []),?_,?_⟩
 ·left
  intro p1 cS;left;show⟨p1,rfl,cS,.new cS,Au⟩
 intro τ Γ'⟨ph,rfl,P7,l,gh⟩;left;show⟨λτ Γ'=>τ=[some (.ref p),some (.ref pp),some (.bl lo),some (.ref r),some (.ref ph),some (.bl true),none,none,none,none]∧Le Γ Γ'∧Γ' ph=some (.lst []),?_,?_⟩
 ·left
  show⟨rfl,l,gh⟩
 clear l gh;intro τ Γ'⟨rfl,l,gh⟩;left;show⟨λτ Γ'=>∃o6 o7 o8 o9,τ=[some (.ref p),some (.ref pp),some (.bl lo),some (.ref r),some (.ref ph),some (.bl (AV ks ps lo xs [] true).2),o6,o7,o8,o9]∧Le Γ Γ'∧Γ' ph=some (.lst ((AV ks ps lo xs [] true).1.map Sh.tr)),?_,?_⟩
 ·left
  show Ps2 r (xs.map T.int) ⟨rfl,BD (l _ _ gr),?_⟩;show⟨λv6 τ Γ'=>∃(ys:List Int) (hs:List Sh) (b:Bool) (o6 o7 o8 o9:Option T),v6=ys.map T.int∧(∀x∈ys,0≤x)∧hs.length+ys.length≤3∧τ=[some (.ref p),some (.ref pp),some (.bl lo),some (.ref r),some (.ref ph),some (.bl b),o6,o7,o8,o9]∧AV ks ps lo ys hs b=AV ks ps lo xs [] true∧Le Γ Γ'∧Γ' ph=some (.lst (hs.map Sh.tr)),Ps7 xs [] true none none none none ⟨rfl,x0,by simpa using xl,rfl,rfl,l,gh⟩,?_,?_⟩
  ·intro τ Γ'⟨ys,hs,b,o6,o7,o8,o9,er,_,_,rfl,en,l,gh⟩
   cases ys with
   |cons a b=>cases er
   |nil=>
    rw[←en];show⟨BD (l _ _ gr),_,_,_,_,rfl,l,gh⟩
  ·intro x rr τ Γ'⟨ys,hs,b,o6,o7,o8,o9,er,y0,yl,rfl,en,l,gh⟩
   cases ys with
   |nil=>cases er
   |cons y ys=>
   cases er;let yp:=y0 y Ej;show⟨BD (l _ _ gr),?_⟩;left;show⟨λτ Γ'=>τ=[some (.ref p),some (.ref pp),some (.bl lo),some (.ref r),some (.ref ph),some (.bl b),some (.int y),some (Ew ks y).tr,o8,o9]∧Le Γ Γ'∧Γ' ph=some (.lst (hs.map Sh.tr)),?_,?_⟩
   ·left
    show EZ (l _ _ gp) ?_;left;show⟨lp,?_⟩;left;show B7 (l _ _ gp) (Js kn) ?_;left;show⟨?_,l,gh⟩;unfold Ew;rw[Sh.tr,Kd.tr]
   clear l gh;intro τ Γ'⟨rfl,l,gh⟩;left;show⟨λτ Γ'=>∃pk,τ=[some (.ref p),some (.ref pp),some (.bl lo),some (.ref r),some (.ref ph),some (.bl b),some (.int y),some (Ew ks y).tr,some (.ref pk),o9]∧Le Γ Γ'∧Γ' ph=some (.lst (hs.map Sh.tr))∧Γ pk=none∧ph≠pk∧Γ' pk=some (.lst ((hs.map Sh.ky).map λq=>.tup (ED q))),?_,?_⟩
   ·left
    show Ps2 ph (hs.map Sh.tr) ⟨rfl,BD gh,?_⟩;show⟨by rw[AF,Bm];lia,?_⟩;show⟨λv6 τ ys G=>∃(h1 h2:List Sh) (o:Option T),h1++h2=hs∧v6=h2.map Sh.tr∧ys=(h1.map Sh.ky).map (λq=>T.tup (ED q))∧τ=[o]∧Γ'=G,Ps3 [] hs none ⟨rfl,rfl,rfl,rfl,rfl⟩,?_,?_⟩
    ·intro τ ys G⟨h1,h2,o,rfl,eh,rfl,rfl,rfl⟩
     cases h2 with
     |cons a b=>cases eh
     |nil=>
      rw[BX]at gh ⊢;show⟨BD gh,λD hD=>?_⟩;left;show⟨D,rfl,l.trans (.new hD),(Le.new hD) _ _ gh,le_none l hD,F4 gh hD,Au⟩
    ·intro x rr τ ys G⟨h1,h2,o,rfl,eh,rfl,rfl,rfl⟩
     cases h2 with
     |nil=>cases eh
     |cons a h2=>
      cases eh;show⟨BD gh,?_⟩;left;show⟨_,rfl,h1++[a],h2,_,by simp,rfl,?_,rfl,rfl⟩;rw[AZ,AZ];rfl
   clear l gh;intro τ Γ'⟨pk,rfl,l,gh,NB,V8,gk⟩;left;show⟨λτ Γ'=>∃o9,τ=[some (.ref p),some (.ref pp),some (.bl lo),some (.ref r),some (.ref ph),some (.bl b),some (.int y),some (Ew ks y).tr,some (.ref pk),o9]∧Le Γ Γ'∧Γ' ph=some (.lst (hs.map Sh.tr))∧Γ' pk=some (.lst ((hs.map Sh.ky++EI ps (y%2)).map λq=>.tup (ED q))),?_,?_⟩
   ·left
    show Ps2 pp (ps.map Pr.tr) ⟨rfl,BD (l _ _ wG),?_⟩;show⟨λv6 τ Γ'=>∃(q1 q2:List Pr) (o:Option T),q1++q2=ps∧v6=q2.map Pr.tr∧τ=[some (.ref p),some (.ref pp),some (.bl lo),some (.ref r),some (.ref ph),some (.bl b),some (.int y),some (Ew ks y).tr,some (.ref pk),o]∧Le Γ Γ'∧Γ' ph=some (.lst (hs.map Sh.tr))∧Γ' pk=some (.lst ((hs.map Sh.ky++EI q1 (y%2)).map λq=>.tup (ED q))),Ps3 [] ps _ ⟨rfl,rfl,rfl,l,gh,by unfold EI;simpa using gk⟩,?_,?_⟩
    ·intro τ Γ'⟨q1,q2,o,eq,er,rfl,l,gh,gk⟩
     cases q2 with
     |cons a b=>cases er
     |nil=>
      rw[BX]at eq;subst eq;show⟨BD (l _ _ wG),_,rfl,l,gh,gk⟩
    ·intro x rr τ Γ'⟨q1,q2,o,eq,er,rfl,l,gh,gk⟩
     cases q2 with
     |nil=>cases er
     |cons a q2=>
      cases er;show⟨BD (l _ _ wG),?_⟩;left;show Dn ?_;left;show DQ (by rfl) ?_;left;show DQ (i:=1) (t:=.int (y%2)) (by rfl) ?_;exists cc
      ·let cc:=Gu cc
       let ek:EI (q1++[a]) (y%2)=EI q1 (y%2)++a.ps.map λq=>(q.1,a.sd):=by
        unfold EI Jw;rw[List.flatMap_append,List.flatMap_singleton,AO cc]
       show Dn ?_;left;show⟨GL gk,?_⟩;left;show DQ (i:=2) (t:=.tup (a.ps.map DC)) (by rfl) ?_;left;let al:a.ps.length≤2:=p2 a (by rw[←eq];simp);show⟨by rw[AF,Bm];lia,?_⟩;show⟨λv6 τ ys G=>∃(w1 w2:List (Str×Str×Kd)) (o:Option T),w1++w2=a.ps∧v6=w2.map DC∧ys=w1.map (λq=>T.tup (ED (q.1,a.sd)))∧τ=[o,some a.tr]∧Γ'=G,Ps3 [] a.ps none ⟨rfl,rfl,rfl,rfl,rfl⟩,?_,?_⟩
       ·intro τ ys G⟨w1,w2,o,ew,er,rfl,rfl,rfl⟩
        cases w2 with
        |cons a b=>cases er
        |nil=>
         rw[BX]at ew;show⟨trivial,λD hD=>?_⟩;let lD:Le Γ' (up Γ' D (.lst (w1.map λq=>T.tup (ED (q.1,a.sd))))):=.new hD;left;let q1l:q1.length≤4:=by have:=DT List.length eq;rw[BP]at this;lia
         let kl1:=iy (q:=q1) (sd:=y%2) λz m=>p2 z (by rw[←eq];show G4 _ m);show Ps4 pk D _ _ ⟨rfl,rfl,lD _ _ gk,Au,by rw[AF,BP,AF,AF,ew,Bm];rw[Bb]at yl;lia,?_⟩;left;show Ps3 (q1++[a]) q2 _ ⟨by rw[←eq];simp,rfl,rfl,J5 (l.trans lD) NB,by rw[BR V8];show lD _ _ gh,?_⟩;rw[Au,ek,ew,←KY,AZ (l₁:=hs.map Sh.ky++EI q1 (y%2)),CU (g:=λq=>T.tup (ED q))];rfl
       ·intro x rr τ ys G⟨w1,w2,o,ew,er,rfl,rfl,rfl⟩
        cases w2 with
        |nil=>cases er
        |cons u w2=>
         cases er;show⟨trivial,?_⟩;left;show DQ (i:=0) (t:=.str u.1) (by rfl) ?_;left;show DQ (i:=1) (t:=.int a.sd) (by rfl) ?_;left;show Ps3 (w1++[u]) w2 _ ⟨by rw[←ew];simp,rfl,?_,rfl,rfl⟩;rw[AZ];rfl
      ·let cc:=MR cc
       let ek:EI (q1++[a]) (y%2)=EI q1 (y%2):=by
        unfold EI Jw;rw[List.flatMap_append,List.flatMap_singleton,AL cc,BX]
       left;show Ps3 (q1++[a]) q2 _ ⟨by rw[←eq];simp,rfl,rfl,l,gh,by rw[ek];show gk⟩
   clear l gh gk;intro τ Γ'⟨o9,rfl,l,gh,gk⟩;left;show Dn ?_;left;apply (λ(hR:lo=true∨Il ks ps hs y=false→(_:Prop))=>?ma) ?re
   case ma=>
    show AU (λcc=>?_) (λcc=>?_)
    ·show hR (.inl cc)
    ·left
     show⟨_,rfl,?_⟩;left;show Ps3 pk (ED (Ew ks y).ky) ((hs.map Sh.ky++EI ps (y%2)).map ED) ⟨rfl,rfl,Q7 _,λt m=>?_,by rw[gk,CU];rfl,?_⟩
     ·let⟨u,_,rfl⟩:=aai.mp m
      show Q7 u
     rw[j6];exists c2
     ·show hR (.inr (Yy c2))
     ·left
      let e1:Il ks ps hs y=true:=Og c2;show Ps7 ys hs b _ _ _ _ ⟨rfl,λz m=>y0 z (Cn _ m),by have:=yl;rw[Bb]at this;lia,rfl,?_,l,gh⟩;rw[←en,AV,AL (by rw[e1,cc];simp)]
   case re=>
    intro hd;show Dn ?_;left;show⟨GL gh,?_⟩;left;show Ps3 ph _ _ ⟨rfl,rfl,gh,by rw[AF,Bm];lia,?_⟩;let gk':=gk;let XY:pk≠ph:=λe=>V8 e.symm;generalize eG:up Γ' ph _=G2;let l2:Le Γ G2:=eG ▸ J5 l P7;let Wt:G2 ph=some (.lst ((hs++[Ew ks y]).map Sh.tr)):=by rw[←eG,Au,AZ];rfl
    let gk2:G2 pk=some (.lst ((hs.map Sh.ky++EI ps (y%2)).map λq=>.tup (ED q))):=by rw[←eG,BR XY];show gk
    left;show Dn ?_;left;let e3:AV ks ps lo ys (hs++[Ew ks y]) (b&&!Il ks ps hs y)=AV ks ps lo xs [] true:=by rw[←en,AV,AO hd]
    let y1:∀x∈ys,0≤x:=λz m=>y0 z (Cn _ m);let Vh:(hs++[Ew ks y]).length+ys.length≤3:=by rw[Bb]at yl;rw[BP,GS];lia
    show AU (λcc=>?_) (λcc=>?_)
    ·left
     show⟨_,rfl,?_⟩;left;show Ps3 pk (ED (Ew ks y).ky) ((hs.map Sh.ky++EI ps (y%2)).map ED) ⟨rfl,rfl,Q7 _,λt m=>?_,by rw[gk2,CU];rfl,?_⟩
     ·let⟨u,_,rfl⟩:=aai.mp m
      show Q7 u
     rw[j6];left;show Ps7 ys (hs++[Ew ks y]) (!Il ks ps hs y) _ _ _ _ ⟨rfl,y1,Vh,rfl,?_,l2,Wt⟩;rw[←e3,cc];rfl
    ·left
     show Ps7 ys (hs++[Ew ks y]) false _ _ _ _ ⟨rfl,y1,Vh,rfl,?_,l2,Wt⟩;rw[←e3,cc];rfl
 intro τ Γ'⟨o6,o7,o8,o9,rfl,l,gh⟩;left;show RD l gh (q ph P7)
end
abbrev xu:List Str:=["a","b","c","d","e","f","g","h","i","j","k","l","m","n","o","p","q","r","s","t","u","v","w","x","y","z"]
abbrev Es(z:Str):Str:=z++Str.ofString "q"
abbrev Eo(ks ws:List Str):List Str:=(ws.filter λz=>decide (Es z∉ks)).map Es
abbrev Bf(ks:List Str):List Str:=Eo ks xu
def acI:J9 (Str.ofString "abcdefghijklmnopqrstuvwxyz")=xu.map T.str:=by
 let h:((Str.ofString "abcdefghijklmnopqrstuvwxyz").cps.toList.map λc=>(⟨#[c]⟩:Str))=xu:=by done
 rw[←h,CU];rfl
def fE:∀a∈xu,∀b∈xu,Es a=Es b→a=b:=by done
def zw:xu.Nodup:=by done
def Pk:∀(ws ks:List Str),ws.Nodup→(∀z∈ws,z∈xu)→ws.length≤(Eo ks ws).length+ks.length
 |[],ks,_,_=>E6 _
 |u::ws,ks,nd,hw=>by
  let HW:=abu.mp nd;let TL:=λz m=>hw z (Cn _ m);by_cases h:Es u∈ks
  ·let ih:=Pk ws (ks.erase (Es u)) HW.2 TL
   let e:Eo ks (u::ws)=Eo (ks.erase (Es u)) ws:=by
    unfold Eo;rw[Mj (by simpa using h)];show DT _ (List.filter_congr λz hz=>?_);let n:Es z≠Es u:=λe=>HW.1 (fE z (TL z hz) u (hw u Ej) e ▸ hz);show abd.mpr (not_congr (Su n).symm)
   rw[e];let l1:=QD h;let l2:=Rl h;rw[Bb];lia
  ·let ih:=Pk ws ks HW.2 TL
   let e:(Eo ks (u::ws)).length=(Eo ks ws).length+1:=by
    unfold Eo;rw[KW (by simpa using h)];rfl
   rw[e,Bb];lia
abbrev G9:List Int:=[1,2,4,8,16,32,64,128,256]
abbrev Pj(x:Int)(k:Nat):Int:=x/G9.getD k 1%2
abbrev ES(ks:List Str)(x:Int)(k:Nat):Dr:=⟨⟨(Bf ks).getD k "",Pj x k,[],none⟩,[.fail k]⟩
abbrev G8(ks:List Str)(x y:Int)(k:Nat):Sh:=⟨at_ (Bf ks) (k+y),Pj x k,.text,.str "a"⟩
def pj{i:Nat}(h:i<9):CR (G9.map T.int) (i:Int)=some (.int (G9.getD i 1))∧0<G9.getD i 1∧G9.getD i 1<2^200:=by
 let hl:G9.length=9:=by decide
 let hm:G9.getD i 1∈G9:=by rw[DJ,BV (by lia)];show Eg _
 let hb:=(show ∀z∈G9,0<z∧z<2^200 by done) _ hm;show⟨HS (by rw[Fo,DJ,BV (by lia)];rfl),hb⟩
section
variable {K: W.Frag}
noncomputable abbrev RJ:Stmt:=B6 79
def dB:Av ["pool","many","row","free","doors","shelves","k","side"] ["pool","many","row"] (Ag RJ):=nofun
abbrev cN:Ay:=λts Γ Z _=>∃(p r:Addr) (ks:List Str) (m:Nat) (x y:Int),ts=[.ref p,.int m,.ref r]∧Γ p=some (.lst (ks.map T.str))∧Γ r=some (.lst [.int x,.int y])∧ks.length≤9∧m≤9∧0≤x∧0≤y∧∀d s,Γ d=none→Γ s=none→d≠s→Z (.tup [.ref d,.ref s]) (up (up Γ d (.lst (((List.range m).map (ES ks x)).map Dr.tr))) s (.lst (((List.range m).map (G8 ks x y)).map Sh.tr)))
def oC(F:cT K "_law_spares" "_law_spares" RJ f fd)(bP:mg "range" = none)(aB:mg "len" = none):bj P w K mg bi Ao 1 f fd ["pool","many","row"] (Am cN):=by
 show B5 F dB (λts Γ Z Y h=>?_) (λcq A outer s H E ts Γ Z Y hr h=>?_)
 ·let⟨p,r,ks,m,x,y,rfl,_⟩:=h
  rfl
 let⟨p,r,ks,m,x,y,rfl,gp,gr,kl,ml,x0,y0,q⟩:=h;show⟨_,(A4 (Ak (Om (i:=3) (own:=["one"]) (cap:=[(0,"pool")]) (Fp rfl (by done) (by done) rfl (⟨rfl,trivial⟩) rfl (⟨⟨rfl,rfl,rfl⟩,trivial⟩)) rfl (UM Ax) (λ_ _ _ _=>(Ba (i:=0) (show List.Nodup (["one","pool"]:List Str)from by done) rfl (Or.inl rfl) (Or.inr rfl))) (λ_ _ _ _=>(LM (K3 Ov (AH Ju (A0 0) Ax) (A0 1) (by with_unfolding_all rfl)))) (λ_ _ _ _=>(AH Ju (A0 0) Ax)) dB.nd rfl rfl))
  (A4 (Ak (An (i:=4) dB.nd (Dd A6)))
  (A4 (Ak (An (i:=5) dB.nd (Dd A6)))
  (A4 (Ak (Ed Ey rfl (IK rfl bP (A3 (A0 1) A6)) (Aj (i:=6) dB.nd) (A4 (Ak (An (i:=7) dB.nd (AH BH (AH DA (AJ (A0 2) A7) (AJ (Dd (A3 A7 (A3 A7 (A3 A7 (A3 A7 (A3 A7 (A3 A7 (A3 A7 (A3 A7 (A3 A7 A6)))))))))) (A0 6))) A7)))
  (A4 (Ak (Fw (FF HI Ha Hb Hh (A0 4) (A3 (BC (A3 (BC (A3 (AJ (A0 3) (A0 6)) (A3 (A0 7) (A3 (BC A6) (A3 GF A6))))) (A3 (BC (A3 (BC (A3 Ax (A3 (A0 6) A6))) A6)) A6))) A6))))
  (A4 (Ak (Fw (FF HI Ha Hb Hh (A0 5) (A3 (BC (A3 (AJ (A0 3) (AH BH (AH DO (A0 6) (AJ (A0 2) A7)) (Aw Bi rfl aB BF (A3 (A0 3) A6)))) (A3 (A0 7) (A3 (BC (A3 Ax A6)) (A3 Ax A6))))) A6))))
  A8)))))
  (A4 (AK (BC (A3 (A0 4) (A3 (A0 5) A6))))
  A8))))),?_⟩
 simp only[As];left;show⟨λτ Γ'=>∃pf,τ=[some (.ref p),some (.int m),some (.ref r),some (.ref pf),none,none,none,none]∧Le Γ Γ'∧Γ' pf=some (.lst ((Bf ks).map T.str)),?_,?_⟩
 ·left
  rw[acI];show⟨λv6 τ ys G=>∃(w1 w2:List Str) (o:Option T),w1++w2=xu∧v6=w2.map T.str∧ys=(Eo ks w1).map T.str∧τ=[o,some (.ref p)]∧Γ=G,Ps3 [] xu none ⟨rfl,rfl,rfl,rfl,rfl⟩,?_,?_⟩
  ·intro τ ys G⟨w1,w2,o,ew,er,rfl,rfl,rfl⟩
   cases w2 with
   |cons a b=>cases er
   |nil=>
    rw[BX]at ew;show⟨trivial,λD hD=>?_⟩;left;show⟨D,rfl,.new hD,by rw[Au,ew];rfl⟩
  ·intro x rr τ ys G⟨w1,w2,o,ew,er,rfl,rfl,rfl⟩
   cases w2 with
   |nil=>cases er
   |cons u w2=>
    cases er;let ul:u.length≤1:=(show ∀z∈xu,z.length≤1 by done) u (by rw[←ew];simp);let q1:(Str.ofString "q").length=1:=by done
    let qb:u.length+(Str.ofString "q").length≤sizeLine:=by rw[Bm];lia
    show⟨trivial,?_⟩;left;show Ps2 u (Str.ofString "q") ⟨rfl,rfl,qb,?_⟩;left;show Qp gp rfl (OX ks) rfl (by rw[FT];show aaR.mpr λ_ _=>rfl) ?_;rw[IW];exists cc
    ·let cc:Es u∉ks:=F7 (Yy cc)
     let e:Eo ks (w1++[u])=Eo ks w1++[Es u]:=by
      unfold Eo;rw[JJ,AZ,KW (by simpa using cc)];rfl
     left;show Ps2 u (Str.ofString "q") ⟨rfl,rfl,qb,?_⟩;show Ps3 (w1++[u]) w2 _ ⟨by rw[←ew];simp,rfl,by rw[e,AZ];rfl,rfl,rfl⟩
    ·let cc:Es u∈ks:=DN (Og cc)
     let e:Eo ks (w1++[u])=Eo ks w1:=by
      unfold Eo;rw[JJ,AZ,Mj (by simpa using cc)];simp
     show Ps3 (w1++[u]) w2 _ ⟨by rw[←ew];simp,rfl,by rw[e],rfl,rfl⟩
 intro τ Γ'⟨pf,rfl,l,gf⟩;left;show⟨λτ Γ'=>∃pd,τ=[some (.ref p),some (.int m),some (.ref r),some (.ref pf),some (.ref pd),none,none,none]∧Le Γ Γ'∧Γ' pf=some (.lst ((Bf ks).map T.str))∧Γ pd=none∧pf≠pd∧Γ' pd=some (.lst []),?_,?_⟩
 ·left
  intro p1 cS;left;show⟨p1,rfl,l.trans (.new cS),(Le.new cS) _ _ gf,le_none l cS,F4 gf cS,Au⟩
 clear l gf;intro τ Γ'⟨pd,rfl,l,gf,Mx,Y6,gd⟩;left;show⟨λτ Γ'=>∃ph,τ=[some (.ref p),some (.int m),some (.ref r),some (.ref pf),some (.ref pd),some (.ref ph),none,none]∧Le Γ Γ'∧Γ' pf=some (.lst ((Bf ks).map T.str))∧Γ' pd=some (.lst [])∧Γ ph=none∧pf≠ph∧pd≠ph∧Γ' ph=some (.lst []),?_,?_⟩
 ·left
  intro p1 cS;left;show⟨p1,rfl,l.trans (.new cS),(Le.new cS) _ _ gf,(Le.new cS) _ _ gd,le_none l cS,F4 gf cS,F4 gd cS,Au⟩
 clear l gf gd;intro τ Γ'⟨ph,rfl,l,gf,gd,P7,Y5,Uc,gh⟩;left;show⟨λτ Γ'=>∃o6 o7,τ=[some (.ref p),some (.int m),some (.ref r),some (.ref pf),some (.ref pd),some (.ref ph),o6,o7]∧Le Γ Γ'∧Γ' pd=some (.lst (((List.range m).map (ES ks x)).map Dr.tr))∧Γ' ph=some (.lst (((List.range m).map (G8 ks x y)).map Sh.tr)),?_,?_⟩
 ·left
  show⟨m,rfl,by lia,by lia,?_⟩;show⟨λv6 τ Γ'=>∃(i j:Nat) (o6 o7:Option T),v6=Dx i j∧i+j=m∧τ=[some (.ref p),some (.int m),some (.ref r),some (.ref pf),some (.ref pd),some (.ref ph),o6,o7]∧Le Γ Γ'∧Γ' pf=some (.lst ((Bf ks).map T.str))∧Γ' pd=some (.lst (((List.range i).map (ES ks x)).map Dr.tr))∧Γ' ph=some (.lst (((List.range i).map (G8 ks x y)).map Sh.tr)),Ps4 0 m none none ⟨rfl,by lia,rfl,l,gf,gd,gh⟩,?_,?_⟩
  ·intro τ Γ'⟨i,j,o6,o7,er,ij,rfl,l,gf,gd,gh⟩
   let hj:j=0:=Jv er;subst hj;rw[←ij];show⟨trivial,_,_,rfl,l,gd,gh⟩
  ·intro z rr τ Γ'⟨i,j,o6,o7,er,ij,rfl,l,gf,gd,gh⟩
   let⟨j',rfl,rfl,rfl⟩:=Ia er;left;show⟨λτ Γ'=>τ=[some (.ref p),some (.int m),some (.ref r),some (.ref pf),some (.ref pd),some (.ref ph),some (.int i),some (.int (Pj x i))]∧Le Γ Γ'∧Γ' pf=some (.lst ((Bf ks).map T.str))∧Γ' pd=some (.lst (((List.range i).map (ES ks x)).map Dr.tr))∧Γ' ph=some (.lst (((List.range i).map (G8 ks x y)).map Sh.tr)),?_,?_⟩
   ·left
    show B7 (l _ _ gr) Jj ?_;left;clear p1 cS ea G1 g1 l1
    left;let⟨pe,XX,XW⟩:=pj (i:=i) (by lia);show B7 g1 pe ?_;left;show⟨⟨XX,XW⟩,?_⟩;left;show⟨rfl,l.trans l1,l1 _ _ gf,l1 _ _ gd,l1 _ _ gh⟩
   clear l gf gd gh;intro τ Γ'⟨rfl,l,gf,gd,gh⟩;let fl:17≤(Bf ks).length:=by
    have:=Pk xu ks zw λ_ m=>m;let e:xu.length=26:=by done
    unfold Bf;lia
   let fn:Bf ks≠[]:=λe=>by rw[e]at fl;cases fl
   left;show⟨λτ Γ'=>τ=[some (.ref p),some (.int m),some (.ref r),some (.ref pf),some (.ref pd),some (.ref ph),some (.int i),some (.int (Pj x i))]∧Le Γ Γ'∧Γ' pf=some (.lst ((Bf ks).map T.str))∧Γ' pd=some (.lst (((List.range (i+1)).map (ES ks x)).map Dr.tr))∧Γ' ph=some (.lst (((List.range i).map (G8 ks x y)).map Sh.tr)),?_,?_⟩
   ·left
    show⟨GL gd,?_⟩;left;show B7 gf (t:=.str ((Bf ks).getD i "")) (HS (by rw[Fo,DJ,BV (by lia)];rfl)) ?_;left;show Ps3 pd _ _ ⟨rfl,rfl,gd,by rw[AF,AF,FK,Bm];lia,?_⟩;left;show⟨rfl,J5 l Mx,by rw[BR Y6];show gf,?_,by rw[BR (λe=>Uc e.symm)];show gh⟩;rw[Au,Mt,AZ,AZ];rfl
   clear l gf gd gh;intro τ Γ'⟨rfl,l,gf,gd,gh⟩;left;show Dn ?_;left;show⟨GL gh,?_⟩;left;show B7 (l _ _ gr) Kn ?_;left;show EZ gf ?_;left;show⟨by rw[AF];lia,?_⟩;left;show B7 gf (Js fn) ?_;left;show Ps3 ph _ _ ⟨rfl,rfl,gh,by rw[AF,AF,FK,Bm];lia,?_⟩;left;show Ps4 (i+1) j' _ _ ⟨rfl,by lia,rfl,J5 l P7,by rw[BR Y5];show gf,by rw[BR Uc];show gd,?_⟩;rw[Au,Mt (n:=i),AZ (l₁:=List.range i),AZ];rfl
 intro τ Γ'⟨o6,o7,rfl,l,gd,gh⟩;left;show⟨up (up Γ pd _) ph _,λb u g=>?_,q pd ph Mx P7 Uc⟩;by_cases e:b=ph
 ·subst e;rw[Au]at g;rw[←g];show gh
 ·rw[BR e]at g
  by_cases e:b=pd
  ·subst e;rw[Au]at g;rw[←g];show gd
  ·rw[BR e]at g;show l b u g
end
abbrev BA(p:Pr)(hs:List Sh):List Str:=p.ps.map (·.1)++(hs.filter λs=>decide (s.sd=p.sd)).map Sh.nm
abbrev E8(ps:List Pr):List Str:=(ps.filter λp=>p.ps.isEmpty).map Pr.nm
abbrev CB(ks:List Str)(ps:List Pr)(a:Int):Str:=if 0<a/18%4 then at_ (E8 ps++[at_ ks (a/2)]) (a/72)else at_ ks (a/2)
abbrev Ff(ps:List Pr)(t:Str):Bool:=ps.any λp=>decide (p.nm=t)&&p.ps.isEmpty
abbrev Ly(ps:List Pr)(t:Str)(a:Int):Prop:=a%2=1∨(1<a/18%4∧Ff ps t=false)
instance (ps:List Pr)(t:Str)(a:Int):Decidable (Ly ps t a):=by unfold Ly;infer_instance
abbrev El(ks:List Str)(ps:List Pr)(kn:List Str)(a b:Int):Sm×Bool:=
 if Ly ps (CB ks ps a) a then(.say (at_ (kn++[at_ ks b]) (b/9)),decide (at_ (kn++[at_ ks b]) (b/9)∈kn))else(.call none (CB ks ps a) [],Ff ps (CB ks ps a))
abbrev VU:List Int:=[0,1,2,3,3,4]
abbrev CZ(c:Int):Nat:=(VU.getD (c%6).toNat 0).toNat
abbrev E3(kn:List Str)(one:Sm)(c d:Int):List Sm:=if d%3=1 then [Eh kn (CZ c) (.fail 5) (c/6),one]else [Eh kn (CZ c) one (c/6)]
abbrev Ig(ks:List Str)(hs:List Sh)(ps:List Pr)(rw:List Int)(p:Pr)(i:Nat):Dr×Bool:=
 (⟨p,E3 (BA p hs) (El ks ps (BA p hs) (rw.getD (4*i) 0) (rw.getD (4*i+1) 0)).1 (rw.getD (4*i+2) 0) (rw.getD (4*i+3) 0)⟩,
  (El ks ps (BA p hs) (rw.getD (4*i) 0) (rw.getD (4*i+1) 0)).2&&decide (CZ (rw.getD (4*i+2) 0)<4))
abbrev CE(ks:List Str)(hs:List Sh)(ps:List Pr)(rw:List Int):List Pr→Nat→List (Dr×Bool)
 |[],_=>[]
 |p::r,i=>Ig ks hs ps rw p i::CE ks hs ps rw r (i+1)
def aaQ{i:Nat}(h:rw.length=16)(hi:i<4):Cu (rw.map T.int) (some (4*(i:Int))) (some (4*(i:Int)+4))=[.int (rw.getD (4*i) 0),.int (rw.getD (4*i+1) 0),.int (rw.getD (4*i+2) 0),.int (rw.getD (4*i+3) 0)]:=by
 match rw,h with
 |[a0,a1,a2,a3,a4,a5,a6,a7,a8,a9,b0,b1,b2,b3,b4,b5],_=>
  rcases(by lia:i=0∨i=1∨i=2∨i=3)with rfl|rfl|rfl|rfl<;>rfl
def OB(h:∀x∈rw,0≤x)(i:Nat):0≤rw.getD i 0:=by
 rw[DJ];cases e:rw[i]? with
 |none=>show Int.le_refl _
 |some v=>show h v (LK e)
def bt(xs:List Str)(x:Str):(((xs.map T.str).length:Nat):Int)+1=((xs++[x]).length:Nat):=by
 rw[AF,BP,GS];lia
def adb(c:Int):CR (VU.map T.int) (c%6)=some (.int (CZ c)):=by
 let h0:=DM c (by decide:(6:Int)≠0);let h1:=EH c (by decide:(0:Int)<6);unfold CZ;rcases(by lia:c%6=0∨c%6=1∨c%6=2∨c%6=3∨c%6=4∨c%6=5)with e|e|e|e|e|e<;>rw[e]<;>rfl
def iQ(c:Int):CZ c≤4:=by
 let h0:=DM c (by decide:(6:Int)≠0);let h1:=EH c (by decide:(0:Int)<6);unfold CZ;rcases(by lia:c%6=0∨c%6=1∨c%6=2∨c%6=3∨c%6=4∨c%6=5)with e|e|e|e|e|e<;>rw[e]<;>decide
def xv:decide (n<4)=decide ((n:Int)<4):=abd.mpr (by lia)
structure Bq(Γ Γ':AR)(pd pn:Addr)(A B:List T):Prop where
 le:Le Γ Γ'
 gd:Γ' pd=some (.lst A)
 gn:Γ' pn=some (.lst B)
def Bq.mono{pd:Addr}{A B:List T}(b:Bq Γ Γ' pd pn A B)(l:Le Γ' Γ2):Bq Γ Γ2 pd pn A B:=⟨b.le.trans l,l _ _ b.gd,l _ _ b.gn⟩
section
variable {K: W.Frag}
noncomputable abbrev aK:Stmt:=B6 77
def aO:Av ["pool","papers","shelves","row","doors","due","names","k","r","known","target","free","one","fine","said","many","nest"] ["pool","papers","shelves","row"] (Ag aK):=nofun
abbrev bI:Ay:=λts Γ Z _=>∃(p pp ph r:Addr) (ks:List Str) (ps:List Pr) (hs:List Sh) (rw:List Int),ts=[.ref p,.ref pp,.ref ph,.ref r]∧Γ p=some (.lst (ks.map T.str))∧Γ pp=some (.lst (ps.map Pr.tr))∧Γ ph=some (.lst (hs.map Sh.tr))∧Γ r=some (.lst (rw.map T.int))∧ks≠[]∧ks.length≤100∧ps.length≤4∧(∀p∈ps,p.ps.length≤2)∧hs.length≤3∧rw.length=16∧(∀x∈rw,0≤x)∧∀q,Γ q=none→Z (.tup [.ref q,.bl ((CE ks hs ps rw ps 0).all (·.2)&&decide (ps.map Pr.nm).Nodup)]) (up Γ q (.lst (((CE ks hs ps rw ps 0).map (·.1)).map Dr.tr)))
def tO(F:cT K "_law_built" "_law_built" aK f fd)(oF:Ae P w K mg bi "_law_nested" 1 ["one","many","ways","known"] eZ)(x6:Ae P w K mg bi "_law_apart" 1 ["some"] jw)(bP:mg "range" = none)(aB:mg "len" = none):bj P w K mg bi Ao 2 f fd ["pool","papers","shelves","row"] (Am bI):=by
 show B5 F aO (λts Γ Z Y h=>?_) (λcq A outer s H E ts Γ Z Y hr h=>?_)
 ·let⟨p,pp,ph,r,ks,ps,hs,rw,rfl,_⟩:=h
  rfl
 obtain⟨p,pp,ph,r,ks,ps,hs,rw,rfl,gp,wG,Um,gr,kn,kl,pl,p2,hl,rl,x0,q⟩:=h;show⟨_,(A4 (Ak (An (i:=4) aO.nd (Dd A6)))
  (A4 (Ak (An (i:=5) aO.nd BL))
  (A4 (Ak (Om (i:=6) (own:=["paper"]) (cap:=[]) Ec rfl (Hn (A0 1)) (λ_ _ _ _=>GQ) (λ_ _ _ _=>Di) (λ_ _ _ _=>(AJ (A0 0) A7)) aO.nd rfl rfl))
  (A4 (Ak (Ed Ey rfl (IK rfl bP (A3 (Aw Bi rfl aB BF (A3 (A0 1) A6)) A6)) (Aj (i:=7) aO.nd) (A4 (Ak (An (i:=8) aO.nd (DB F9 (A0 3) (CF (AH Hf A7 (A0 7))) (CF (AH DO (AH Hf A7 (A0 7)) A7)))))
  (A4 (Ak (An (i:=9) aO.nd (AH Hu (Dl (own:=["place"]) (cap:=[]) Ec rfl (DX (AJ (AJ (A0 1) (A0 7)) A7)) (λ_ _ _ _=>GQ) (λ_ _ _ _=>Di) (λ_ _ _ _=>(AJ (A0 0) A7))) (Dl (own:=["one"]) (cap:=[(1,"papers"),(7,"k")]) (Fp rfl (by done) (by done) rfl (⟨rfl,⟨rfl,trivial⟩⟩) rfl (⟨⟨rfl,rfl,rfl⟩,⟨⟨rfl,rfl,rfl⟩,trivial⟩⟩)) rfl (Hn (A0 2)) (λ_ _ _ _=>(Ba (i:=0) (show List.Nodup (["one","papers","k"]:List Str)from by done) rfl (Or.inl rfl) (Or.inr rfl))) (λ_ _ _ _=>(LM (BB CO (AJ (A0 0) A7) (AJ (AJ (A0 1) (A0 2)) A7)))) (λ_ _ _ _=>(AJ (A0 0) A7))))))
  (A4 (Ak (An (i:=10) aO.nd (AJ (A0 0) (AH BH (AH DA (AJ (A0 8) A7) A7) (Aw Bi rfl aB BF (A3 (A0 0) A6))))))
  (A4 (Ak (Aq (BB K7 (AH BH (AH DA (AJ (A0 8) A7) A7) A7) A7) (A4 (Ak (Om (i:=11) (own:=["paper"]) (cap:=[]) Ec rfl (Hn (A0 1)) (λ_ _ _ _=>GQ) (λ_ _ _ _=>(LM (BB (bB hr.uV) (AJ (A0 0) A7) (BC A6)))) (λ_ _ _ _=>(AJ (A0 0) A7)) aO.nd rfl rfl))
  (A4 (Ak (An (i:=10) aO.nd (AJ (AH Hu (A0 11) (Dd (A3 (A0 10) A6))) (AH BH (AH DA (AJ (A0 8) A7) A7) (AH DO (Aw Bi rfl aB BF (A3 (A0 11) A6)) A7)))))
  A8)) A8))
  (A4 (Ak (An (i:=12) aO.nd (BC (A3 Ax (A3 GF (A3 (A0 10) (A3 (BC A6) A6)))))))
  (A4 (Ak (An (i:=13) aO.nd (DZ (kJ hr.uV) (Dl (own:=["paper"]) (cap:=[(10,"target")]) (Fp rfl (by done) (by done) rfl (⟨rfl,trivial⟩) rfl (⟨⟨rfl,rfl,rfl⟩,trivial⟩)) rfl (Hn (A0 1)) (λ_ _ _ _=>(Ba (i:=0) (show List.Nodup (["paper","target"]:List Str)from by done) rfl (Or.inl rfl) (Or.inr rfl))) (λ_ _ _ _=>(LM (PW.pt (JE (BB CO (AJ (A0 0) A7) (A0 1)) (Jh (BB (bB hr.uV) (AJ (A0 0) A7) (BC A6))))))) (λ_ _ _ _=>(A0 0))) (Dd A6))))
  (A4 (Ak (Aq (PW.pt (Cj (BB CO (AH BH (AJ (A0 8) A7) A7) A7) (DG (PW.pt (JE (BB K7 (AH BH (AH DA (AJ (A0 8) A7) A7) A7) A7) (Jh (BQ (BN (A0 13))))))))) (A4 (Ak (An (i:=14) aO.nd (AJ (AH Hu (A0 9) (Dd (A3 (AJ (A0 0) (AH BH (AJ (A0 8) A7) (Aw Bi rfl aB BF (A3 (A0 0) A6)))) A6))) (AH BH (AH DA (AJ (A0 8) A7) A7) (AH DO (Aw Bi rfl aB BF (A3 (A0 9) A6)) A7)))))
  (A4 (Ak (An (i:=12) aO.nd (BC (A3 Ax (A3 (A0 14) A6)))))
  (A4 (Ak (An (i:=13) aO.nd (HA RN (A0 14) (A0 9) (by with_unfolding_all rfl))))
  A8))) A8))
  (A4 (Ak (An (i:=15) aO.nd (AJ (Dd (A3 A7 (A3 A7 (A3 A7 (A3 A7 (A3 A7 (A3 A7 A6))))))) (AH BH (AJ (A0 8) A7) A7))))
  (A4 (Ak (An (i:=16) aO.nd (Al oF hr (A3 (A0 12) (A3 (A0 15) (A3 (AH DA (AJ (A0 8) A7) A7) (A3 (A0 9) A6)))))))
  (A4 (Ak (Aq (BB CO (AH BH (AJ (A0 8) A7) A7) A7) (A4 (Ak (An (i:=16) aO.nd (Al oF hr (A3 (BC (A3 Ax (A3 A7 A6))) (A3 (A0 15) (A3 (AH DA (AJ (A0 8) A7) A7) (A3 (A0 9) A6)))))))
  (A4 (Ak (Fw (FF HI Ha Hb Hh (A0 4) (A3 (BC (A3 (AJ (A0 1) (A0 7)) (A3 (BC (A3 (A0 16) (A3 (A0 12) A6))) A6))) A6))))
  A8)) (A4 (Ak (Fw (FF HI Ha Hb Hh (A0 4) (A3 (BC (A3 (AJ (A0 1) (A0 7)) (A3 (BC (A3 (A0 16) A6)) A6))) A6))))
  A8)))
  (A4 (Ak (An (i:=5) aO.nd (CK (A0 5) (CK (A0 13) (CP (DZ K9 (A0 15) A7))))))
  A8)))))))))))))
  (A4 (AK (BC (A3 (A0 4) (A3 (CK (A0 5) (CP (Al x6 hr (A3 (A0 6) A6)))) A6))))
  A8))))),?_⟩
 simp only[As];let lp:(0:Int)<((ks.map T.str).length:Nat):=by rw[AF];have:=acd.mpr kn;lia
 left;show⟨λτ Γ'=>∃pd,τ=[some (.ref p),some (.ref pp),some (.ref ph),some (.ref r),some (.ref pd),none,none,none,none,none,none,none,none,none,none,none,none]∧Γ pd=none∧Le Γ Γ'∧Γ' pd=some (.lst []),?_,?_⟩
 ·left
  intro p1 cS;left;show⟨p1,rfl,cS,.new cS,Au⟩
 intro τ Γ'⟨pd,rfl,Mx,l,gd⟩;left;show⟨λτ Γ'=>τ=[some (.ref p),some (.ref pp),some (.ref ph),some (.ref r),some (.ref pd),some (.bl true),none,none,none,none,none,none,none,none,none,none,none]∧Le Γ Γ'∧Γ' pd=some (.lst []),?_,?_⟩
 ·left
  show⟨rfl,l,gd⟩
 clear l gd;intro τ Γ'⟨rfl,l,gd⟩;left;show⟨λτ Γ'=>∃pn,τ=[some (.ref p),some (.ref pp),some (.ref ph),some (.ref r),some (.ref pd),some (.bl true),some (.ref pn),none,none,none,none,none,none,none,none,none,none]∧Le Γ Γ'∧Γ' pd=some (.lst [])∧Γ pn=none∧pd≠pn∧Γ' pn=some (.lst ((ps.map Pr.nm).map T.str)),?_,?_⟩
 ·left
  show Ps2 pp (ps.map Pr.tr) ⟨rfl,BD (l _ _ wG),?_⟩;show⟨by rw[AF,Bm];lia,?_⟩;show⟨λv6 τ ys G=>∃(w1 w2:List Pr) (o:Option T),w1++w2=ps∧v6=w2.map Pr.tr∧ys=(w1.map Pr.nm).map T.str∧τ=[o]∧Γ'=G,Ps3 [] ps none ⟨rfl,rfl,rfl,rfl,rfl⟩,?_,?_⟩
  ·intro τ ys G⟨w1,w2,o,ew,er,rfl,rfl,rfl⟩
   cases w2 with
   |cons a b=>cases er
   |nil=>
    rw[BX]at ew;show⟨BD (l _ _ wG),λD hD=>?_⟩;left;show⟨D,rfl,l.trans (.new hD),(Le.new hD) _ _ gd,le_none l hD,F4 gd hD,by rw[Au,ew]⟩
  ·intro x rr τ ys G⟨w1,w2,o,ew,er,rfl,rfl,rfl⟩
   cases w2 with
   |nil=>cases er
   |cons u w2=>
    cases er;show⟨BD (l _ _ wG),?_⟩;left;show DQ (i:=0) (t:=.str u.nm) (by rfl) ?_;show Ps3 (w1++[u]) w2 _ ⟨by rw[←ew];simp,rfl,by rw[AZ,AZ];rfl,rfl,rfl⟩
 clear l gd;intro τ Γ'⟨pn,rfl,l,gd,Ru,Wh,gn⟩;left;show⟨λτ Γ'=>∃o7 o8 o9 JK sI EE Cw sH zq tV,τ=[some (.ref p),some (.ref pp),some (.ref ph),some (.ref r),some (.ref pd),some (.bl ((CE ks hs ps rw ps 0).all (·.2))),some (.ref pn),o7,o8,o9,JK,sI,EE,Cw,sH,zq,tV]∧Le Γ Γ'∧Γ' pd=some (.lst (((CE ks hs ps rw ps 0).map (·.1)).map Dr.tr))∧Γ' pn=some (.lst ((ps.map Pr.nm).map T.str)),?_,?_⟩
 ·left
  show EZ (l _ _ wG) ?_;left;show⟨ps.length,by rw[AF],by lia,by lia,?_⟩;show⟨λv6 τ Γ'=>∃(q1 q2:List Pr) (D:List (Dr×Bool)) (o7 o8 o9 JK sI EE Cw sH zq tV:Option T),q1++q2=ps∧v6=Dx (q1.length:Nat) q2.length∧D.length=q1.length∧D++CE ks hs ps rw q2 q1.length=CE ks hs ps rw ps 0∧τ=[some (.ref p),some (.ref pp),some (.ref ph),some (.ref r),some (.ref pd),some (.bl (D.all (·.2))),some (.ref pn),o7,o8,o9,JK,sI,EE,Cw,sH,zq,tV]∧Le Γ Γ'∧Γ' pd=some (.lst ((D.map (·.1)).map Dr.tr))∧Γ' pn=some (.lst ((ps.map Pr.nm).map T.str)),⟨[],ps,[],none,none,none,none,none,none,none,none,none,none,rfl,rfl,rfl,rfl,rfl,l,gd,gn⟩,?_,?_⟩
  ·rintro τ Γ' ⟨q1,q2,D,o7,o8,o9,JK,sI,EE,Cw,sH,zq,tV,eq,er,dl,en,rfl,l,gd,gn⟩
   let hj:=Jv er;let h2:q2=[]:=List.length_eq_zero_iff.mp hj;subst h2;rw[CE,BX]at en;rw[←en];show⟨trivial,_,_,_,_,_,_,_,_,_,_,rfl,l,gd,gn⟩
  ·rintro z rr τ Γ' ⟨q1,q2,D,o7,o8,o9,JK,sI,EE,Cw,sH,zq,tV,eq,er,dl,en,rfl,l,gd,gn⟩
   let⟨j',ej,rfl,rfl⟩:=Ia er;cases q2 with
   |nil=>cases ej
   |cons a q2=>
   let il:q1.length<4:=by have:=DT List.length eq;rw[BP,Bb]at this;lia
   let am:a∈ps:=by rw[←eq];simp
   let al:=p2 a am;let pa:∀{G:AR},Le Γ G→IG (.ref pp) (.int (q1.length:Nat)) G=IG (.ref pp) (.int (q1.length:Nat)) G:=λ_=>rfl;let ix:CR (ps.map Pr.tr) ((q1.length:Nat):Int)=some a.tr:=HS (by rw[←eq];simp);let qd:=aaQ rl il;let h0:=OB x0 (4*q1.length);let h1:=OB x0 (4*q1.length+1);let h2:=OB x0 (4*q1.length+2);let h3:=OB x0 (4*q1.length+3);let eb:CE ks hs ps rw (a::q2) q1.length=Ig ks hs ps rw a q1.length::CE ks hs ps rw q2 (q1.length+1):=rfl;unfold Ig at eb;generalize rw.getD (4*q1.length) 0=r0,rw.getD (4*q1.length+1) 0=r1,rw.getD (4*q1.length+2) 0=r2,rw.getD (4*q1.length+3) 0=r3 at qd h0 h1 h2 h3 eb;let bq:Bq Γ Γ' pd pn ((D.map (·.1)).map Dr.tr) ((ps.map Pr.nm).map T.str):=⟨l,gd,gn⟩;clear pa l gd gn;left;show⟨λτ Γ'=>∃p8,τ=[some (.ref p),some (.ref pp),some (.ref ph),some (.ref r),some (.ref pd),some (.bl (D.all (·.2))),some (.ref pn),some (.int (q1.length:Nat)),some (.ref p8),o9,JK,sI,EE,Cw,sH,zq,tV]∧Bq Γ Γ' pd pn ((D.map (·.1)).map Dr.tr) ((ps.map Pr.nm).map T.str)∧Γ' p8=some (.lst [.int r0,.int r1,.int r2,.int r3]),?_,?_⟩
   ·left
    show Ps2 r _ ⟨rfl,bq.le _ _ gr,λp1 cS=>?_⟩;rw[qd];left;show⟨p1,rfl,bq.mono (.new cS),Au⟩
   clear bq;intro τ Γ'⟨p8,rfl,bq,g8⟩;left;show⟨λτ Γ'=>∃p9,τ=[some (.ref p),some (.ref pp),some (.ref ph),some (.ref r),some (.ref pd),some (.bl (D.all (·.2))),some (.ref pn),some (.int (q1.length:Nat)),some (.ref p8),some (.ref p9),JK,sI,EE,Cw,sH,zq,tV]∧Bq Γ Γ' pd pn ((D.map (·.1)).map Dr.tr) ((ps.map Pr.nm).map T.str)∧Γ' p8=some (.lst [.int r0,.int r1,.int r2,.int r3])∧Γ' p9=some (.lst ((BA a hs).map T.str)),?_,?_⟩
   ·left
    show B7 (bq.le _ _ wG) ix ?_;left;show DQ (i:=2) (t:=.tup (a.ps.map DC)) (by rfl) ?_;left;show⟨by rw[AF,Bm];lia,?_⟩;show⟨λv6 τ ys G=>∃(w1 w2:List (Str×Str×Kd)) (o:Option T),w1++w2=a.ps∧v6=w2.map DC∧ys=(w1.map (·.1)).map T.str∧τ=[o]∧Γ'=G,Ps3 [] a.ps none ⟨rfl,rfl,rfl,rfl,rfl⟩,?_,?_⟩
    ·intro τ ys G⟨w1,w2,o,ew,er,rfl,rfl,rfl⟩
     cases w2 with
     |cons a b=>cases er
     |nil=>
      rw[BX]at ew;subst ew;show⟨trivial,λp1 cS=>?_⟩;revert p1 cS ea G1 g1 l1
      left;show Ps2 ph (hs.map Sh.tr) ⟨rfl,BD (l1 _ _ (bq.le _ _ Um)),?_⟩;show⟨by rw[AF,Bm];lia,?_⟩;show⟨λv6 τ ys G=>∃(v1 v2:List Sh) (o:Option T),v1++v2=hs∧v6=v2.map Sh.tr∧ys=((v1.filter λs=>decide (s.sd=a.sd)).map Sh.nm).map T.str∧τ=[o,some (.ref pp),some (.int (q1.length:Nat))]∧G1=G,Ps3 [] hs none ⟨rfl,rfl,rfl,rfl,rfl⟩,?_,?_⟩
      ·intro τ ys G⟨v1,v2,o,ew,er,rfl,rfl,rfl⟩
       cases v2 with
       |cons a b=>cases er
       |nil=>
        rw[BX]at ew;subst ew;show⟨BD (l1 _ _ (bq.le _ _ Um)),λp2 mS=>?_⟩;revert p2 mS ea G2 g2 l2
        left;show Ps4 p1 p2 _ _ ⟨rfl,rfl,l2 _ _ g1,g2,?_,λp3 My=>?_⟩
        ·rw[AF,AF,AF,AF,Bm]
         have:=KA (λs:Sh=>decide (s.sd=a.sd)) v1;lia
        rw[←AZ];left;let l3:Le Γ' (up G2 p3 (.lst ((BA a v1).map T.str))):=(l1.trans l2).trans (.new My);show⟨p3,rfl,bq.mono l3,l3 _ _ g8,Au⟩
      ·intro x rr τ ys G⟨v1,v2,o,ew,er,rfl,rfl,rfl⟩
       cases v2 with
       |nil=>cases er
       |cons u v2=>
        cases er;show⟨BD (l1 _ _ (bq.le _ _ Um)),?_⟩;left;show DQ (i:=1) (t:=.int u.sd) (by rfl) ?_;left;show B7 (l1 _ _ (bq.le _ _ wG)) ix ?_;left;show DQ (i:=1) (t:=.int a.sd) (by rfl) ?_;exists cc
        ·let cc:=Gu cc
         left;show DQ (i:=0) (t:=.str u.nm) (by rfl) ?_;show Ps3 (v1++[u]) v2 _ ⟨by rw[←ew];simp,rfl,?_,rfl,rfl⟩;rw[JJ,KW (by simpa using cc),AZ,AZ];rfl
        ·let cc:=MR cc
         show Ps3 (v1++[u]) v2 _ ⟨by rw[←ew];simp,rfl,?_,rfl,rfl⟩;rw[JJ,Mj (by simpa using cc)];simp
    ·intro x rr τ ys G⟨w1,w2,o,ew,er,rfl,rfl,rfl⟩
     cases w2 with
     |nil=>cases er
     |cons u w2=>
      cases er;show⟨trivial,?_⟩;left;show DQ (i:=0) (t:=.str u.1) (by rfl) ?_;show Ps3 (w1++[u]) w2 _ ⟨by rw[←ew];simp,rfl,by rw[AZ,AZ];rfl,rfl,rfl⟩
   clear bq g8;intro τ Γ'⟨p9,rfl,bq,g8,g9⟩;left;show⟨λτ Γ'=>τ=[some (.ref p),some (.ref pp),some (.ref ph),some (.ref r),some (.ref pd),some (.bl (D.all (·.2))),some (.ref pn),some (.int (q1.length:Nat)),some (.ref p8),some (.ref p9),some (.str (at_ ks (r0/2))),sI,EE,Cw,sH,zq,tV]∧Bq Γ Γ' pd pn ((D.map (·.1)).map Dr.tr) ((ps.map Pr.nm).map T.str)∧Γ' p8=some (.lst [.int r0,.int r1,.int r2,.int r3])∧Γ' p9=some (.lst ((BA a hs).map T.str)),?_,?_⟩
   ·left
    show EZ (bq.le _ _ gp) ?_;left;show⟨lp,?_⟩;left;show B7 (bq.le _ _ gp) (Js kn) ?_;left;show⟨rfl,bq,g8,g9⟩
   clear bq g8 g9;intro τ Γ'⟨rfl,bq,g8,g9⟩;left;show⟨λτ Γ'=>∃sI,τ=[some (.ref p),some (.ref pp),some (.ref ph),some (.ref r),some (.ref pd),some (.bl (D.all (·.2))),some (.ref pn),some (.int (q1.length:Nat)),some (.ref p8),some (.ref p9),some (.str (CB ks ps r0)),sI,EE,Cw,sH,zq,tV]∧Bq Γ Γ' pd pn ((D.map (·.1)).map Dr.tr) ((ps.map Pr.nm).map T.str)∧Γ' p8=some (.lst [.int r0,.int r1,.int r2,.int r3])∧Γ' p9=some (.lst ((BA a hs).map T.str)),?_,?_⟩
   ·left
    show AU (λcc=>?_) (λcc=>?_)
    ·let cc:=DN cc
     let et:CB ks ps r0=at_ (E8 ps++[at_ ks (r0/2)]) (r0/72):=by unfold CB;rw[AO cc]
     left;show⟨λτ Γ'=>∃LJ,τ=[some (.ref p),some (.ref pp),some (.ref ph),some (.ref r),some (.ref pd),some (.bl (D.all (·.2))),some (.ref pn),some (.int (q1.length:Nat)),some (.ref p8),some (.ref p9),some (.str (at_ ks (r0/2))),some (.ref LJ),EE,Cw,sH,zq,tV]∧Bq Γ Γ' pd pn ((D.map (·.1)).map Dr.tr) ((ps.map Pr.nm).map T.str)∧Γ' p8=some (.lst [.int r0,.int r1,.int r2,.int r3])∧Γ' p9=some (.lst ((BA a hs).map T.str))∧Γ' LJ=some (.lst ((E8 ps).map T.str)),?_,?_⟩
     ·left
      show Ps2 pp (ps.map Pr.tr) ⟨rfl,BD (bq.le _ _ wG),?_⟩;show⟨by rw[AF,Bm];lia,?_⟩;show⟨λv6 τ ys G=>∃(v1 v2:List Pr) (o:Option T),v1++v2=ps∧v6=v2.map Pr.tr∧ys=(E8 v1).map T.str∧τ=[o]∧Γ'=G,Ps3 [] ps none ⟨rfl,rfl,rfl,rfl,rfl⟩,?_,?_⟩
      ·intro τ ys G⟨v1,v2,o,ew,er,rfl,rfl,rfl⟩
       cases v2 with
       |cons a b=>cases er
       |nil=>
        rw[BX]at ew;show⟨BD (bq.le _ _ wG),λp1 cS=>?_⟩;left;let l1:=Le.new (o:=.lst ((E8 v1).map T.str)) cS;show⟨p1,rfl,bq.mono l1,l1 _ _ g8,l1 _ _ g9,by rw[Au,ew]⟩
      ·intro x rr τ ys G⟨v1,v2,o,ew,er,rfl,rfl,rfl⟩
       cases v2 with
       |nil=>cases er
       |cons u v2=>
        cases er;show⟨BD (bq.le _ _ wG),?_⟩;left;show DQ (i:=2) (t:=.tup (u.ps.map DC)) (by rfl) ?_;exists cc
        ·let cc:u.ps.isEmpty=true:=by rw[←cc,OM]
         left;show DQ (i:=0) (t:=.str u.nm) (by rfl) ?_;show Ps3 (v1++[u]) v2 _ ⟨by rw[←ew];simp,rfl,?_,rfl,rfl⟩;unfold E8;rw[JJ,KW (p:=λp:Pr=>p.ps.isEmpty) (a:=u) cc,AZ,AZ];rfl
        ·let cc:u.ps.isEmpty=false:=by rw[←cc,OM]
         show Ps3 (v1++[u]) v2 _ ⟨by rw[←ew];simp,rfl,?_,rfl,rfl⟩;unfold E8;rw[JJ,Mj (p:=λp:Pr=>p.ps.isEmpty) (a:=u) (by rw[cc];show Cc)];simp
     clear bq g8 g9;intro τ Γ'⟨LJ,rfl,bq,g8,g9,NK⟩;show Dn ?_;left;clear p1 cS ea G1 g1 l1
     left;let fl:(E8 ps).length≤4:=by unfold E8;rw[AF];show D6 (KA ..) pl
     show Ps4 LJ p1 _ _ ⟨rfl,rfl,l1 _ _ NK,g1,by rw[AF,GS,Bm];lia,λp2 mS=>?_⟩;let em:(E8 ps).map T.str++[T.str (at_ ks (r0/2))]=(E8 ps++[at_ ks (r0/2)]).map T.str:=by rw[AZ];rfl
     rw[em];revert p2 mS ea G2 g2 l2
     let zy:=l1.trans l2;left;show B7 (zy _ _ g8) Jj ?_;left;show EZ (zy _ _ NK) ?_;left;rw[bt (E8 ps) (at_ ks (r0/2))];show⟨by rw[BP,GS];lia,?_⟩;left;show B7 g2 (Pa (by simp)) ?_;left;show⟨_,by rw[et],bq.mono zy,zy _ _ g8,zy _ _ g9⟩
    ·let cc:=F7 cc
     let et:CB ks ps r0=at_ ks (r0/2):=by unfold CB;rw[AL cc]
     left;show⟨sI,by rw[et],bq,g8,g9⟩
   clear bq g8 g9;intro τ Γ'⟨sI,rfl,bq,g8,g9⟩;left;show⟨λτ Γ'=>τ=[some (.ref p),some (.ref pp),some (.ref ph),some (.ref r),some (.ref pd),some (.bl (D.all (·.2))),some (.ref pn),some (.int (q1.length:Nat)),some (.ref p8),some (.ref p9),some (.str (CB ks ps r0)),sI,some (Sm.call none (CB ks ps r0) []).tr,Cw,sH,zq,tV]∧Bq Γ Γ' pd pn ((D.map (·.1)).map Dr.tr) ((ps.map Pr.nm).map T.str)∧Γ' p8=some (.lst [.int r0,.int r1,.int r2,.int r3])∧Γ' p9=some (.lst ((BA a hs).map T.str)),?_,?_⟩
   ·left
    show⟨?_,bq,g8,g9⟩;rw[Sm.tr];rfl
   clear bq g8 g9;intro τ Γ'⟨rfl,bq,g8,g9⟩;left;show⟨λτ Γ'=>τ=[some (.ref p),some (.ref pp),some (.ref ph),some (.ref r),some (.ref pd),some (.bl (D.all (·.2))),some (.ref pn),some (.int (q1.length:Nat)),some (.ref p8),some (.ref p9),some (.str (CB ks ps r0)),sI,some (Sm.call none (CB ks ps r0) []).tr,some (.bl (Ff ps (CB ks ps r0))),sH,zq,tV]∧Bq Γ Γ' pd pn ((D.map (·.1)).map Dr.tr) ((ps.map Pr.nm).map T.str)∧Γ' p8=some (.lst [.int r0,.int r1,.int r2,.int r3])∧Γ' p9=some (.lst ((BA a hs).map T.str)),?_,?_⟩
   ·left
    show Ps2 pp (ps.map Pr.tr) ⟨rfl,BD (bq.le _ _ wG),?_⟩;show⟨by rw[AF,Bm];lia,?_⟩;show⟨λv6 τ ys G=>∃(v1 v2:List Pr) (o:Option T),v1++v2=ps∧v6=v2.map Pr.tr∧ys.isEmpty=!(Ff v1 (CB ks ps r0))∧τ=[o,some (.str (CB ks ps r0))]∧Γ'=G,Ps3 [] ps none ⟨rfl,rfl,rfl,rfl,rfl⟩,?_,?_⟩
    ·intro τ ys G⟨v1,v2,o,ew,er,ey,rfl,rfl⟩
     cases v2 with
     |cons a b=>cases er
     |nil=>
      rw[BX]at ew;subst ew;show⟨BD (bq.le _ _ wG),λp1 cS=>?_⟩;revert p1 cS ea G1 g1 l1
      left;clear p2 mS ea G2 g2 l2
      show Ps3 p1 p2 ys ⟨rfl,rfl,l2 _ _ g1,g2,?_⟩;rw[ey,Bool.not_not];left;let zy:=l1.trans l2;show⟨rfl,bq.mono zy,zy _ _ g8,zy _ _ g9⟩
    ·intro x rr τ ys G⟨v1,v2,o,ew,er,ey,rfl,rfl⟩
     cases v2 with
     |nil=>cases er
     |cons u v2=>
      cases er;have ef:Ff (v1++[u]) (CB ks ps r0)=(Ff v1 (CB ks ps r0)||(decide (u.nm=CB ks ps r0)&&u.ps.isEmpty)):=by
       unfold Ff;rw[KU,G7,List.any_nil,OV]
      show⟨BD (bq.le _ _ wG),?_⟩;left;show DQ (i:=0) (t:=.str u.nm) (by rfl) ?_;exists cc
      ·let cc:=O3 cc
       left;show DQ (i:=2) (t:=.tup (u.ps.map DC)) (by rfl) ?_;exists c2
       ·let c2:u.ps.isEmpty=true:=by rw[←c2,OM]
        left;show Ps3 (v1++[u]) v2 _ ⟨by rw[←ew];simp,rfl,?_,rfl,rfl⟩;rw[ef,BU cc,c2];simp
       ·let c2:u.ps.isEmpty=false:=by rw[←c2,OM]
        show Ps3 (v1++[u]) v2 _ ⟨by rw[←ew];simp,rfl,?_,rfl,rfl⟩;rw[ef,c2,ey];simp
      ·let cc:=Oq cc
       show Ps3 (v1++[u]) v2 _ ⟨by rw[←ew];simp,rfl,?_,rfl,rfl⟩;rw[ef,Ck cc,ey];simp
   clear bq g8 g9;intro τ Γ'⟨rfl,bq,g8,g9⟩;left;show⟨λτ Γ'=>∃sH,τ=[some (.ref p),some (.ref pp),some (.ref ph),some (.ref r),some (.ref pd),some (.bl (D.all (·.2))),some (.ref pn),some (.int (q1.length:Nat)),some (.ref p8),some (.ref p9),some (.str (CB ks ps r0)),sI,some (El ks ps (BA a hs) r0 r1).1.tr,some (.bl (El ks ps (BA a hs) r0 r1).2),sH,zq,tV]∧Bq Γ Γ' pd pn ((D.map (·.1)).map Dr.tr) ((ps.map Pr.nm).map T.str)∧Γ' p8=some (.lst [.int r0,.int r1,.int r2,.int r3])∧Γ' p9=some (.lst ((BA a hs).map T.str)),?_,?_⟩
   ·left
    apply (λ(hR:Ly ps (CB ks ps r0) r0→(_:Prop))=>?ma) ?re
    case ma=>
     apply (λ(hN:¬Ly ps (CB ks ps r0) r0→(_:Prop))=>?mb) ?rf
     case mb=>
      show AU (λcc=>?_) (λcc=>?_)
      ·show hR (.inl (Gu cc))
      ·let cc:=MR cc
       exists c2
       ·let c2:=DN c2
        exists c3
        ·show hR (.inr ⟨c2,Yy c3⟩)
        ·show hN (λz=>z.elim cc λz=>by rw[z.2]at c3;cases c3)
       ·let c2:=F7 c2
        show hN (λz=>z.elim cc λz=>c2 z.1)
     case rf=>
      intro hn;left;show⟨sH,?_,bq,g8,g9⟩;unfold El;rw[AL hn]
    case re=>
     intro hy;let ey:El ks ps (BA a hs) r0 r1=(.say (at_ (BA a hs++[at_ ks r1]) (r1/9)),decide (at_ (BA a hs++[at_ ks r1]) (r1/9)∈BA a hs)):=by unfold El;rw[AO hy]
     rw[ey];left;show⟨λτ Γ'=>τ=[some (.ref p),some (.ref pp),some (.ref ph),some (.ref r),some (.ref pd),some (.bl (D.all (·.2))),some (.ref pn),some (.int (q1.length:Nat)),some (.ref p8),some (.ref p9),some (.str (CB ks ps r0)),sI,some (Sm.call none (CB ks ps r0) []).tr,some (.bl (Ff ps (CB ks ps r0))),some (.str (at_ (BA a hs++[at_ ks r1]) (r1/9))),zq,tV]∧Bq Γ Γ' pd pn ((D.map (·.1)).map Dr.tr) ((ps.map Pr.nm).map T.str)∧Γ' p8=some (.lst [.int r0,.int r1,.int r2,.int r3])∧Γ' p9=some (.lst ((BA a hs).map T.str)),?_,?_⟩
     ·left
      show EZ (bq.le _ _ gp) ?_;left;show⟨lp,?_⟩;left;show B7 (bq.le _ _ gp) (Js kn) ?_;left;clear p1 cS ea G1 g1 l1
      left;let Th:(BA a hs).length≤5:=by
       unfold BA;rw[BP,AF,AF];have:=KA (λs:Sh=>decide (s.sd=a.sd)) hs;lia
      show Ps4 p9 p1 _ _ ⟨rfl,rfl,l1 _ _ g9,g1,by rw[AF,GS,Bm];lia,λp2 mS=>?_⟩;let em:(BA a hs).map T.str++[T.str (at_ ks r1)]=(BA a hs++[at_ ks r1]).map T.str:=by rw[AZ];rfl
      rw[em];revert p2 mS ea G2 g2 l2
      let zy:=l1.trans l2;left;show B7 (zy _ _ g8) Kn ?_;left;show EZ (zy _ _ g9) ?_;left;rw[bt (BA a hs) (at_ ks r1)];show⟨by rw[BP,GS];lia,?_⟩;left;show B7 g2 (Pa (by simp)) ?_;left;show⟨rfl,bq.mono zy,zy _ _ g8,zy _ _ g9⟩
     clear bq g8 g9;intro τ Γ'⟨rfl,bq,g8,g9⟩;left;show Dn ?_;left;show Dn ?_;left;show Qp g9 rfl (OX (BA a hs)) rfl (by rw[FT];show aaR.mpr λ_ _=>rfl) ?_;rw[IW];left;show⟨some (.str (at_ (BA a hs++[at_ ks r1]) (r1/9))),?_,bq,g8,g9⟩;rw[Sm.tr];rfl
   generalize El ks ps (BA a hs) r0 r1=ow at eb;clear bq g8 g9;intro τ Γ'⟨sH,rfl,bq,g8,g9⟩;left;show⟨λτ Γ'=>τ=[some (.ref p),some (.ref pp),some (.ref ph),some (.ref r),some (.ref pd),some (.bl (D.all (·.2))),some (.ref pn),some (.int (q1.length:Nat)),some (.ref p8),some (.ref p9),some (.str (CB ks ps r0)),sI,some ow.1.tr,some (.bl ow.2),sH,some (.int (CZ r2)),tV]∧Bq Γ Γ' pd pn ((D.map (·.1)).map Dr.tr) ((ps.map Pr.nm).map T.str)∧Γ' p8=some (.lst [.int r0,.int r1,.int r2,.int r3])∧Γ' p9=some (.lst ((BA a hs).map T.str)),?_,?_⟩
   ·left
    clear p1 cS ea G1 g1 l1
    left;show B7 (l1 _ _ g8) (t:=.int r2) (by rfl) ?_;left;show B7 g1 (adb r2) ?_;left;show⟨rfl,bq.mono l1,l1 _ _ g8,l1 _ _ g9⟩
   let m4:=iQ r2;let Th:(BA a hs).length≤100:=by
    unfold BA;rw[BP,AF,AF];have:=KA (λs:Sh=>decide (s.sd=a.sd)) hs;lia
   clear bq g8 g9;intro τ Γ'⟨rfl,bq,g8,g9⟩;left;show⟨λτ Γ'=>τ=[some (.ref p),some (.ref pp),some (.ref ph),some (.ref r),some (.ref pd),some (.bl (D.all (·.2))),some (.ref pn),some (.int (q1.length:Nat)),some (.ref p8),some (.ref p9),some (.str (CB ks ps r0)),sI,some ow.1.tr,some (.bl ow.2),sH,some (.int (CZ r2)),some (Eh (BA a hs) (CZ r2) ow.1 (r2/6)).tr]∧Bq Γ Γ' pd pn ((D.map (·.1)).map Dr.tr) ((ps.map Pr.nm).map T.str)∧Γ' p8=some (.lst [.int r0,.int r1,.int r2,.int r3])∧Γ' p9=some (.lst ((BA a hs).map T.str)),?_,?_⟩
   ·left
    show B7 g8 (t:=.int r2) (by rfl) ?_;left;show Ps5 ow.1 (CZ r2) (r2/6) p9 (BA a hs) ⟨rfl,g9,Th,m4,by lia,?_⟩;left;show⟨rfl,bq,g8,g9⟩
   clear bq g8 g9;intro τ Γ'⟨rfl,bq,g8,g9⟩;left;show⟨λτ Γ'=>∃tV,τ=[some (.ref p),some (.ref pp),some (.ref ph),some (.ref r),some (.ref pd),some (.bl (D.all (·.2))),some (.ref pn),some (.int (q1.length:Nat)),some (.ref p8),some (.ref p9),some (.str (CB ks ps r0)),sI,some ow.1.tr,some (.bl ow.2),sH,some (.int (CZ r2)),tV]∧Le Γ Γ'∧Γ' pd=some (.lst ((D.map (·.1)).map Dr.tr++[Dr.tr ⟨a,E3 (BA a hs) ow.1 r2 r3⟩]))∧Γ' pn=some (.lst ((ps.map Pr.nm).map T.str)),?_,?_⟩
   ·left
    show B7 g8 (t:=.int r3) (by rfl) ?_;exists cc
    ·let cc:=Gu cc
     let eo:E3 (BA a hs) ow.1 r2 r3=[Eh (BA a hs) (CZ r2) (.fail 5) (r2/6),ow.1]:=by unfold E3;rw[AO cc]
     show Dn ?_;left;show B7 g8 (t:=.int r2) (by rfl) ?_;left;show Ps5 (.fail 5) (CZ r2) (r2/6) p9 (BA a hs) ⟨by rw[Sm.tr],g9,Th,m4,by lia,?_⟩;left;show Dn ?_;left;show⟨GL bq.gd,?_⟩;left;show B7 (bq.le _ _ wG) ix ?_;left;show Ps3 pd _ _ ⟨rfl,rfl,bq.gd,by rw[AF,AF,Bm];lia,?_⟩;left;show⟨_,rfl,J5 bq.le Mx,?_,by rw[BR (λe=>Wh e.symm)];show bq.gn⟩;rw[Au];unfold Dr.tr;rw[eo];simp only[DU]
    ·let cc:=MR cc
     let eo:E3 (BA a hs) ow.1 r2 r3=[Eh (BA a hs) (CZ r2) ow.1 (r2/6)]:=by unfold E3;rw[AL cc]
     show Dn ?_;left;show⟨GL bq.gd,?_⟩;left;show B7 (bq.le _ _ wG) ix ?_;left;show Ps3 pd _ _ ⟨rfl,rfl,bq.gd,by rw[AF,AF,Bm];lia,?_⟩;left;show⟨_,rfl,J5 bq.le Mx,?_,by rw[BR (λe=>Wh e.symm)];show bq.gn⟩;rw[Au];unfold Dr.tr;rw[eo];simp only[DU]
   clear bq g8 g9;intro τ Γ'⟨tV,rfl,l,gd,gn⟩;left;show Dn ?_;left;let UH:(D++[((⟨a,E3 (BA a hs) ow.1 r2 r3⟩,ow.2&&decide (CZ r2<4)):Dr×Bool)])++CE ks hs ps rw q2 (q1++[a]).length=CE ks hs ps rw ps 0:=by
    rw[←en,eb,KY,BP];rfl
   let UD:Dx ((q1.length:Nat)+1:Int) j'=Dx (((q1++[a]).length:Nat):Int) q2.length:=by
    let e1:j'=q2.length:=by rw[Bb]at ej;lia
    rw[e1,BP];rfl
   let eD:(D++[((⟨a,E3 (BA a hs) ow.1 r2 r3⟩,ow.2&&decide (CZ r2<4)):Dr×Bool)]).all (λx:Dr×Bool=>x.2)=(D.all (·.2)&&(ow.2&&decide (CZ r2<4))):=by
    rw[KH,Ib,List.all_nil,Ic]
   let Uq:Γ' pd=some (.lst (((D++[((⟨a,E3 (BA a hs) ow.1 r2 r3⟩,ow.2&&decide (CZ r2<4)):Dr×Bool)]).map (·.1)).map Dr.tr)):=by
    rw[gd,AZ,AZ];rfl
   let UE:q1++[a]++q2=ps:=by rw[←eq];simp
   let UQ:(D++[((⟨a,E3 (BA a hs) ow.1 r2 r3⟩,ow.2&&decide (CZ r2<4)):Dr×Bool)]).length=(q1++[a]).length:=by rw[BP,BP,dl];rfl
   show AU (λc1=>?_) (λc1=>?_)
   ·left
    show AU (λc2=>?_) (λc2=>?_)
    ·left
     show⟨q1++[a],q2,_,some (.int (q1.length:Nat)),some (.ref p8),some (.ref p9),some (.str (CB ks ps r0)),sI,some ow.1.tr,some (.bl ow.2),sH,some (.int (CZ r2:Nat)),tV,UE,UD,UQ,UH,?_,l,Uq,gn⟩;rw[eD,c1,c2,xv];rfl
    ·left
     show⟨q1++[a],q2,_,some (.int (q1.length:Nat)),some (.ref p8),some (.ref p9),some (.str (CB ks ps r0)),sI,some ow.1.tr,some (.bl ow.2),sH,some (.int (CZ r2:Nat)),tV,UE,UD,UQ,UH,?_,l,Uq,gn⟩;rw[eD,c1,c2];rfl
   ·left
    show⟨q1++[a],q2,_,some (.int (q1.length:Nat)),some (.ref p8),some (.ref p9),some (.str (CB ks ps r0)),sI,some ow.1.tr,some (.bl ow.2),sH,some (.int (CZ r2:Nat)),tV,UE,UD,UQ,UH,?_,l,Uq,gn⟩;rw[eD,c1];rfl
 rintro τ Γ' ⟨o7,o8,o9,JK,sI,EE,Cw,sH,zq,tV,rfl,l,gd,gn⟩;exists cc
 ·left
  show Ps2 pn (ps.map Pr.nm) ⟨rfl,gn,by rw[AF];lia,?_⟩;left;have:=RD l gd (q pd Mx);rw[cc,Bc]at this;show this
 ·left
  have:=RD l gd (q pd Mx);rw[cc]at this;show this
end
abbrev HJ(ks:List Str)(p:Pr):Prop:=p.nm∈ks∧(p.sd=0∨p.sd=1)∧p.re=none∧∃(x:Int) (n:Nat),n≤2∧0≤x∧p.ps=Fm ks x n
def aaH{y:Int}(h:ks≠[])(y0:0≤y):HJ ks (Uo ks x y):=
 ⟨Fc h,by unfold Uo;show x%2=0∨x%2=1;lia,rfl,y,(y/9%3).toNat,by lia,y0,rfl⟩
def pV(h:HJ ks p)(hz:z∈ks):HJ ks ⟨z,p.sd,p.ps,none⟩:=⟨hz,h.2.1,rfl,h.2.2.2⟩
def vz(h:HJ ks p):p.ps.length≤2:=by
 let⟨_,_,_,⟨x,n,n2,_,e⟩⟩:=h;rw[e];unfold Fm;rw[AF,FK];show n2
abbrev D9(ks:List Str)(hs:List Sh)(ps:List Pr)(rw:List Int)(m:Nat)(x:Int)(n:Nat):List Dr:=
 (((CE ks hs ps rw ps 0).map (·.1)).take n++(List.range m).map (ES ks x))++((CE ks hs ps rw ps 0).map (·.1)).drop n
abbrev D4(ks:List Str)(hs:List Sh)(m:Nat)(x y:Int)(n:Nat):List Sh:=(hs.take n++(List.range m).map (G8 ks x y))++hs.drop n
structure jJ(ks:List Str)(ps:List Pr)(xs rw:List Int)(m:Nat)(x y:Int):Prop where
 kl:ks.length=9∨ks.length=3
 nm:∀z∈ks,Nm z
 nd:ks.Nodup
 pl:ps.length≤4
 pp:∀p∈ps,HJ ks p
 xl:xs.length≤3
 x0:∀x∈xs,0≤x
 rl:rw.length=16
 r0:∀x∈rw,0≤x
 m9:m≤9
 xp:0≤x
 yp:0≤y
def Lk{i:Nat}(h:i<54):∃x:Int,0≤x∧CR ((C5 c 54).map T.int) (i:Int)=some (.int x):=by
 let⟨x,hx,_,e⟩:=JU (ns:=C5 c 54) (j:=i) (by rw[Oo];show h);show⟨x,WX x hx,e⟩
structure Br(Γ Γ':AR)(pr pn:Addr)(A:List Int)(B:List Str):Prop where
 le:Le Γ Γ'
 gr:Γ' pr=some (.lst (A.map T.int))
 gn:Γ' pn=some (.lst (B.map T.str))
def Br.mono{pr:Addr}{A:List Int}{B:List Str}(b:Br Γ Γ' pr pn A B)(l:Le Γ' Γ2):Br Γ Γ2 pr pn A B:=⟨b.le.trans l,l _ _ b.gr,l _ _ b.gn⟩
def oY{i:Nat}(h:i<4):Cu ((C5 c 54).map T.int) (some (4+2*(i:Int))) (some (6+2*(i:Int)))=[.int (Eb c (4+2*i)),.int (Eb c (5+2*i))]:=by
 rcases(by lia:i=0∨i=1∨i=2∨i=3)with rfl|rfl|rfl|rfl<;>rfl
def Tf{ks:List Str}{ps:List Pr}{lo:Bool}:∀{xs:List Int} {hs:List Sh} {b:Bool},(AV ks ps lo xs hs b).1.length≤hs.length+xs.length
 |[],hs,b=>Ap _
 |x::r,hs,b=>by
  rw[AV];split
  ·have:=Tf (ks:=ks) (ps:=ps) (lo:=lo) (xs:=r) (hs:=hs++[Ew ks x]) (b:=b&&!Il ks ps hs x)
   rw[BP,GS]at this;rw[Bb];lia
  ·have:=Tf (ks:=ks) (ps:=ps) (lo:=lo) (xs:=r) (hs:=hs) (b:=b)
   rw[Bb];lia
def Vd{ps:List Pr}{xs:List Int}(h:xs.length≤3):(AV ks ps lo xs [] b).1.length≤3:=by
 have:=Tf (ks:=ks) (ps:=ps) (lo:=lo) (xs:=xs) (hs:=[]) (b:=b);rw[Po]at this;lia
def Uk{ks:List Str}{hs:List Sh}{ps:List Pr}{rw:List Int}:∀{qs:List Pr} {i:Nat},(CE ks hs ps rw qs i).length=qs.length
 |[],_=>rfl
 |_::r,i=>by rw[CE,Bb,Uk (qs:=r),Bb]
def rH(x:Int)(h:0≤x):∃m:Nat,m≤9∧CR [T.int 0,T.int (x/2%10)] (x%2)=some (.int (m:Nat)):=by
 rcases(by lia:x%2=0∨x%2=1)with e|e<;>rw[e]
 ·show⟨0,by decide,rfl⟩
 ·show⟨(x/2%10).toNat,by lia,by rw[Ws (by lia)];rfl⟩
section
variable {K: W.Frag}
noncomputable abbrev Xp:Stmt:=B6 80
def aU:Av ["cell","r","pool","papers","k","paper","shelves","fine","doors","due","more","kept","at"] ["cell"] (Ag Xp):=nofun
abbrev dJ:Ay:=λts Γ Z _=>∃c:Int,ts=[.int c]∧∀ks ps lo xs rw m x y n1 n2,jJ ks ps xs rw m x y→Z (.tup [.tup [.tup ((D9 ks (AV ks ps lo xs [] true).1 ps rw m x n1).map Dr.tr),.tup ((D4 ks (AV ks ps lo xs [] true).1 m x y n2).map Sh.tr)],.bl (((CE ks (AV ks ps lo xs [] true).1 ps rw ps 0).all (·.2)&&decide (ps.map Pr.nm).Nodup)&&(AV ks ps lo xs [] true).2)]) Γ
def oV(F:cT K "_law_asked" "_law_asked" Xp f fd)(xY:Ae P w K mg bi "_law_draws" 1 ["cell","count"] lV)(xW:Ae P w K mg bi "_law_names" 2 ["row"] eK)(xV:Ae P w K mg bi "_law_paper" 1 ["pool","row"] cQ)(uk:Ae P w K mg bi "_law_shelves" 1 ["pool","papers","loose","row"] gB)(xZ:Ae P w K mg bi "_law_built" 2 ["pool","papers","shelves","row"] bI)(wj:Ae P w K mg bi "_law_spares" 1 ["pool","many","row"] cN)(aB:mg "len" = none)(aE:mg "tuple" = none)(bP:mg "range" = none):bj P w K mg bi Ao 3 f fd ["cell"] (Am dJ):=by
 show B5 F aU (λts Γ Z Y h=>?_) (λcq A outer s H E ts Γ Z Y hr h=>?_)
 ·let⟨c,rfl,_⟩:=h
  rfl
 let⟨c,rfl,q⟩:=h;show⟨_,(A4 (Ak (An (i:=1) aU.nd (Al xY hr (A3 (A0 0) (A3 A7 A6)))))
  (A4 (Ak (An (i:=2) aU.nd (Al xW hr (A3 (DB F9 (A0 1) (CF A7) (CF A7)) A6))))
  (A4 (Ak (Aq (BB CO (AH BH (AJ (A0 1) A7) A7) A7) (A4 (Ak (An (i:=2) aU.nd (DB F9 (A0 2) Ef (CF A7))))
  A8) A8))
  (A4 (Ak (An (i:=3) aU.nd (Dd A6)))
  (A4 (Ak (Ed Ey rfl (IK rfl bP (A3 (AH BH (AJ (A0 1) A7) A7) A6)) (Aj (i:=4) aU.nd) (A4 (Ak (An (i:=5) aU.nd (Al xV hr (A3 (A0 2) (A3 (DB F9 (A0 1) (CF (AH DO A7 (AH Hf A7 (A0 4)))) (CF (AH DO A7 (AH Hf A7 (A0 4))))) A6)))))
  (A4 (Ak (Aq (PW.pt (JE (BB K7 (AH BH (AH DA (AJ (A0 1) A7) A7) A7) A7) (Jh (BB K9 (A0 4) (Aw Bi rfl aB BF (A3 (A0 2) A6)))))) (A4 (Ak (An (i:=5) aU.nd (BC (A3 (AJ (A0 2) (AH BH (AH DO (AH DA (AJ (A0 1) A7) A7) (A0 4)) (Aw Bi rfl aB BF (A3 (A0 2) A6)))) (A3 (AJ (A0 5) A7) (A3 (AJ (A0 5) A7) (A3 GF A6)))))))
  A8) A8))
  (A4 (Ak (Fw (FF HI Ha Hb Hh (A0 3) (A3 (A0 5) A6))))
  A8)))))
  (A4 (Ak (E2 (Al uk hr (A3 (A0 2) (A3 (A0 3) (A3 (DZ CO (AH BH (AJ (A0 1) A7) A7) A7) (A3 (DB F9 (A0 1) (CF A7) (CF (AH DO A7 (AH BH (AJ (A0 1) A7) A7)))) A6))))) (C0 (n:=2) rfl (AS (Aj (i:=6) aU.nd) (AS (Aj (i:=7) aU.nd) Bw)))))
  (A4 (Ak (E2 (Al xZ hr (A3 (A0 2) (A3 (A0 3) (A3 (A0 6) (A3 (DB F9 (A0 1) (CF A7) (CF A7)) A6))))) (C0 (n:=2) rfl (AS (Aj (i:=8) aU.nd) (AS (Aj (i:=9) aU.nd) Bw)))))
  (A4 (Ak (E2 (Al wj hr (A3 (A0 2) (A3 (AJ (Dd (A3 A7 (A3 (AH BH (AH DA (AJ (A0 1) A7) A7) A7) A6))) (AH BH (AJ (A0 1) A7) A7)) (A3 (DB F9 (A0 1) (CF A7) (CF A7)) A6)))) (C0 (n:=2) rfl (AS (Aj (i:=10) aU.nd) (AS (Aj (i:=11) aU.nd) Bw)))))
  (A4 (Ak (An (i:=12) aU.nd (AH BH (AH DA (AJ (A0 1) A7) A7) (AH DO (Aw Bi rfl aB BF (A3 (A0 8) A6)) A7))))
  (A4 (Ak (An (i:=8) aU.nd (AH Hu (AH Hu (DB F9 (A0 8) Ef (CF (A0 12))) (A0 10)) (DB F9 (A0 8) (CF (A0 12)) Ef))))
  (A4 (Ak (An (i:=12) aU.nd (AH BH (AH DA (AJ (A0 1) A7) A7) (AH DO (Aw Bi rfl aB BF (A3 (A0 6) A6)) A7))))
  (A4 (Ak (An (i:=6) aU.nd (AH Hu (AH Hu (DB F9 (A0 6) Ef (CF (A0 12))) (A0 11)) (DB F9 (A0 6) (CF (A0 12)) Ef))))
  (A4 (AK (BC (A3 (BC (A3 (Lu bA rfl aE E9 (A3 (A0 8) A6)) (A3 (Lu bA rfl aE E9 (A3 (A0 6) A6)) A6))) (A3 (CK (A0 9) (CP (A0 7))) A6))))
  A8))))))))))))),?_⟩
 simp only[As];left;show⟨λτ Γ'=>∃pr,τ=[some (.int c),some (.ref pr),none,none,none,none,none,none,none,none,none,none,none]∧Le Γ Γ'∧Γ' pr=some (.lst ((C5 c 54).map T.int)),?_,?_⟩
 ·left
  show Ps2 c 54 ⟨rfl,by decide,λp1 cS=>?_⟩;left;show⟨p1,rfl,.new cS,Au⟩
 intro τ Γ'⟨pr,rfl,le,gr⟩;left;show⟨λτ Γ'=>∃pn ss,τ=[some (.int c),some (.ref pr),some (.ref pn),none,none,none,none,none,none,none,none,none,none]∧Br Γ Γ' pr pn (C5 c 54) ss∧ss.length=9∧(∀z∈ss,Nm z)∧ss.Nodup,?_,?_⟩
 ·left
  show Ps2 pr _ ⟨rfl,gr,λp1 cS=>?_⟩;rw[G3];revert p1 cS e1 G1 g1 l1
  left;show Ps2 p1 _ ⟨rfl,g1,?_,λss p2 ls nm nd mS=>?_⟩
  ·rw[Lm (by decide) (by decide),DD,FG,Oo];rfl
  left;let l2:=l1.trans (Le.new (o:=.lst (ss.map T.str)) mS);show Ps2 p2 ss ⟨rfl,⟨le.trans l2,l2 _ _ gr,Au⟩,ls,nm,nd⟩
 clear le gr;intro τ Γ'⟨pn,ss,rfl,bs,sl,nm,nd⟩;left;let⟨x0,h0,e0⟩:=Lk (c:=c) (i:=0) (by decide);let⟨x1,h1,e1⟩:=Lk (c:=c) (i:=1) (by decide);show⟨λτ Γ'=>∃pn ks,τ=[some (.int c),some (.ref pr),some (.ref pn),none,none,none,none,none,none,none,none,none,none]∧Br Γ Γ' pr pn (C5 c 54) ks∧(ks.length=9∨ks.length=3)∧(∀z∈ks,Nm z)∧ks.Nodup,?_,?_⟩
 ·left
  show B7 bs.gr e0 ?_;exists cc
  ·show Dn ?_
   left;show Ps2 pn _ ⟨rfl,bs.gn,λp1 cS=>?_⟩;rw[G3,Pn (by decide)];left;let l1:=Le.new (o:=.lst ((ss.take (3:Int).toNat).map T.str)) cS;show Ps2 p1 (ss.take 3) ⟨rfl,⟨bs.le.trans l1,l1 _ _ bs.gr,Au⟩,.inr (by rw[DD,sl];rfl),λz m=>nm z (Hi m),nd.sublist (Qz 3 ss)⟩
  ·left
   show Ps2 pn ss ⟨rfl,bs,.inl sl,nm,nd⟩
 clear bs sl nm nd;intro τ Γ'⟨pn,ks,rfl,bs,kl,nm,nd⟩;let kn:ks≠[]:=λe=>by rw[e]at kl;rcases kl with h|h<;>cases h
 left;show⟨λτ Γ'=>∃pp,τ=[some (.int c),some (.ref pr),some (.ref pn),some (.ref pp),none,none,none,none,none,none,none,none,none]∧Br Γ Γ' pr pn (C5 c 54) ks∧Γ pp=none∧pr≠pp∧pn≠pp∧Γ' pp=some (.lst []),?_,?_⟩
 ·left
  intro p1 cS;left;show⟨p1,rfl,bs.mono (.new cS),le_none bs.le cS,F4 bs.gr cS,F4 bs.gn cS,Au⟩
 clear bs;intro τ Γ'⟨pp,rfl,bs,TX,YJ,YX,gp⟩;left;show⟨λτ Γ'=>∃(ps:List Pr) (o4 o5:Option T),τ=[some (.int c),some (.ref pr),some (.ref pn),some (.ref pp),o4,o5,none,none,none,none,none,none,none]∧Br Γ Γ' pr pn (C5 c 54) ks∧Γ' pp=some (.lst (ps.map Pr.tr))∧ps.length≤4∧∀p∈ps,HJ ks p,?_,?_⟩
 ·left
  show B7 bs.gr e1 ?_;left;show⟨x1%5,rfl,by lia,by lia,?_⟩;show⟨λv6 τ Γ'=>∃(i j:Nat) (ps:List Pr) (o4 o5:Option T),v6=Dx i j∧i+j=(x1%5).toNat∧ps.length=i∧τ=[some (.int c),some (.ref pr),some (.ref pn),some (.ref pp),o4,o5,none,none,none,none,none,none,none]∧Br Γ Γ' pr pn (C5 c 54) ks∧Γ' pp=some (.lst (ps.map Pr.tr))∧(∀p∈ps,HJ ks p),Ps5 0 _ [] none none ⟨rfl,by lia,rfl,rfl,bs,gp,λ_ m=>nomatch m⟩,?_,?_⟩
  ·intro τ Γ'⟨i,j,ps,o4,o5,er,ij,il,rfl,bs,gp,Nw⟩
   let hj:=Jv er;show⟨trivial,ps,_,_,rfl,bs,gp,by lia,Nw⟩
  ·intro z rr τ Γ'⟨i,j,ps,o4,o5,er,ij,il,rfl,bs,gp,Nw⟩
   let⟨j',rfl,rfl,rfl⟩:=Ia er;left;show⟨λτ Γ'=>∃p,τ=[some (.int c),some (.ref pr),some (.ref pn),some (.ref pp),some (.int (i:Nat)),some (Pr.tr p),none,none,none,none,none,none,none]∧Br Γ Γ' pr pn (C5 c 54) ks∧Γ' pp=some (.lst (ps.map Pr.tr))∧HJ ks p,?_,?_⟩
   ·left
    show Ps2 pr _ ⟨rfl,bs.gr,λp1 cS=>?_⟩;rw[oY (by lia)];revert p1 cS ea G1 g1 l1
    left;show Ps5 pn p1 ks _ _ ⟨rfl,l1 _ _ bs.gn,g1,kn,by lia,Ii c _,Ii c _,?_⟩;left;show⟨_,rfl,bs.mono l1,l1 _ _ gp,aaH kn (Ii c _)⟩
   clear bs gp;intro τ Γ'⟨p,rfl,bs,gp,pk⟩;left;show⟨λτ Γ'=>∃p,τ=[some (.int c),some (.ref pr),some (.ref pn),some (.ref pp),some (.int (i:Nat)),some (Pr.tr p),none,none,none,none,none,none,none]∧Br Γ Γ' pr pn (C5 c 54) ks∧Γ' pp=some (.lst (ps.map Pr.tr))∧HJ ks p,?_,?_⟩
   ·left
    show B7 bs.gr e0 ?_;exists cc
    ·left
     show EZ bs.gn ?_;exists c2
     ·show Dn ?_
      left;show B7 bs.gr e0 ?_;left;show EZ bs.gn ?_;left;show⟨by rw[AF];lia,?_⟩;left;show B7 bs.gn (Js kn) ?_;left;show DQ (i:=1) (t:=.int p.sd) (by rfl) ?_;left;show DQ (i:=2) (t:=.tup (p.ps.map DC)) (by rfl) ?_;left;show⟨_,rfl,bs,gp,pV pk (Fc kn)⟩
     ·left
      show⟨p,rfl,bs,gp,pk⟩
    ·left
     show⟨p,rfl,bs,gp,pk⟩
   clear bs gp pk;intro τ Γ'⟨p,rfl,bs,gp,pk⟩;left;show Dn ?_;left;show⟨GL gp,?_⟩;left;show Ps3 pp _ _ ⟨rfl,rfl,gp,by rw[AF,Bm];lia,?_⟩;left;show Ps5 (i+1) j' (ps++[p]) _ _ ⟨rfl,by lia,by rw[BP,il];rfl,rfl,⟨J5 bs.le TX,by rw[BR YJ];show bs.gr,by rw[BR YX];show bs.gn⟩,by rw[Au,AZ];rfl,λz m=>?_⟩;rcases aav.mp m with m|m
   ·show Nw z m
   ·rw[aaC.mp m];show pk
 clear bs gp;intro τ Γ'⟨ps,o4,o5,rfl,bs,gp,pl,Nw⟩;let p2:∀p∈ps,p.ps.length≤2:=λp m=>vz (Nw p m);let⟨x2,h2,e2⟩:=Lk (c:=c) (i:=2) (by decide);let⟨x3,h3,e3⟩:=Lk (c:=c) (i:=3) (by decide);let⟨RT,Zj,RC⟩:=Lk (c:=c) (i:=31) (by decide);let Yt:ks.length≤9:=by lia
 left;show⟨λτ Γ'=>∃(xs:List Int) (lo:Bool) (ph:Addr),τ=[some (.int c),some (.ref pr),some (.ref pn),some (.ref pp),o4,o5,some (.ref ph),some (.bl (AV ks ps lo xs [] true).2),none,none,none,none,none]∧Br Γ Γ' pr pn (C5 c 54) ks∧Γ' pp=some (.lst (ps.map Pr.tr))∧Γ' ph=some (.lst ((AV ks ps lo xs [] true).1.map Sh.tr))∧xs.length≤3∧∀x∈xs,0≤x,?_,?_⟩
 ·left
  show B7 bs.gr e3 ?_;left;show B7 bs.gr e2 ?_;left;show Ps2 pr _ ⟨rfl,bs.gr,λp1 cS=>?_⟩;rw[G3,Lm (by decide) (by lia)];revert p1 cS ea G1 g1 l1
  let xl:(((C5 c 54).drop (12:Int).toNat).take ((12+x2%4).toNat-(12:Int).toNat)).length≤3:=by rw[DD];lia
  let x0:∀x∈((C5 c 54).drop (12:Int).toNat).take ((12+x2%4).toNat-(12:Int).toNat),0≤x:=λx m=>WX x (Hc (Hi m));generalize ((C5 c 54).drop (12:Int).toNat).take ((12+x2%4).toNat-(12:Int).toNat)=xs at g1 xl x0;left;show Ps7 pn pp p1 ks ps xs _ ⟨rfl,l1 _ _ bs.gn,l1 _ _ gp,g1,kn,by lia,pl,p2,xl,x0,λp2 mS=>?_⟩;let l2:=l1.trans (Le.new (o:=.lst ((AV ks ps (decide (V.int (x3%6)=V.int 1)) xs [] true).1.map Sh.tr)) mS);left;show Ps3 xs _ p2 ⟨rfl,bs.mono l2,l2 _ _ gp,Au,xl,x0⟩
 clear bs gp;intro τ Γ'⟨xs,lo,ph,rfl,bs,gp,gh,xl,x0⟩;left;show⟨λτ Γ'=>∃(rw:List Int) (pd:Addr),τ=[some (.int c),some (.ref pr),some (.ref pn),some (.ref pp),o4,o5,some (.ref ph),some (.bl (AV ks ps lo xs [] true).2),some (.ref pd),some (.bl ((CE ks (AV ks ps lo xs [] true).1 ps rw ps 0).all (·.2)&&decide (ps.map Pr.nm).Nodup)),none,none,none]∧Br Γ Γ' pr pn (C5 c 54) ks∧Γ' ph=some (.lst ((AV ks ps lo xs [] true).1.map Sh.tr))∧Γ' pd=some (.lst (((CE ks (AV ks ps lo xs [] true).1 ps rw ps 0).map (·.1)).map Dr.tr))∧rw.length=16∧∀x∈rw,0≤x,?_,?_⟩
 ·left
  show Ps2 pr _ ⟨rfl,bs.gr,λp1 cS=>?_⟩;rw[G3,Lm (by decide) (by decide)];revert p1 cS ea G1 g1 l1
  let rl:(((C5 c 54).drop (15:Int).toNat).take ((31:Int).toNat-(15:Int).toNat)).length=16:=by rw[DD,FG,Oo];rfl
  let r0:∀x∈((C5 c 54).drop (15:Int).toNat).take ((31:Int).toNat-(15:Int).toNat),0≤x:=λx m=>WX x (Hc (Hi m));generalize ((C5 c 54).drop (15:Int).toNat).take ((31:Int).toNat-(15:Int).toNat)=rw at g1 rl r0;left;show Ps8 pn pp ph p1 ks ps _ rw ⟨rfl,l1 _ _ bs.gn,l1 _ _ gp,l1 _ _ gh,g1,kn,by lia,pl,p2,Vd xl,rl,r0,λp2 mS=>?_⟩;let l2:=l1.trans (Le.new (o:=.lst (((CE ks (AV ks ps lo xs [] true).1 ps rw ps 0).map (·.1)).map Dr.tr)) mS);left;show Ps2 rw p2 ⟨rfl,bs.mono l2,l2 _ _ gh,Au,rl,r0⟩
 clear bs gp gh;intro τ Γ'⟨rw,pd,rfl,bs,gh,gd,rl,r0⟩;left;show⟨λτ Γ'=>∃(m:Nat) (x y:Int) (pm pk:Addr),τ=[some (.int c),some (.ref pr),some (.ref pn),some (.ref pp),o4,o5,some (.ref ph),some (.bl (AV ks ps lo xs [] true).2),some (.ref pd),some (.bl ((CE ks (AV ks ps lo xs [] true).1 ps rw ps 0).all (·.2)&&decide (ps.map Pr.nm).Nodup)),some (.ref pm),some (.ref pk),none]∧Br Γ Γ' pr pn (C5 c 54) ks∧Γ' ph=some (.lst ((AV ks ps lo xs [] true).1.map Sh.tr))∧Γ' pd=some (.lst (((CE ks (AV ks ps lo xs [] true).1 ps rw ps 0).map (·.1)).map Dr.tr))∧Γ' pm=some (.lst (((List.range m).map (ES ks x)).map Dr.tr))∧Γ' pk=some (.lst (((List.range m).map (G8 ks x y)).map Sh.tr))∧m≤9∧0≤x∧0≤y,?_,?_⟩
 ·left
  show B7 bs.gr RC ?_;left;clear p1 cS ea G1 g1 l1
  left;show B7 (l1 _ _ bs.gr) RC ?_;left;let⟨m,m9,em⟩:=rH RT Zj;show B7 g1 em ?_;left;show Ps2 pr _ ⟨rfl,l1 _ _ bs.gr,λp2 mS=>?_⟩;rw[show Cu ((C5 c 54).map T.int) (some 32) (some 34)=[.int (Eb c 32),.int (Eb c 33)]from rfl];generalize ea:up _ p2 (O.lst _)=G2;let g2:=B2 ea;let l2:=l1.trans (B9 ea mS)
  left;show Ps6 pn p2 ks m (Eb c 32) (Eb c 33) ⟨rfl,l2 _ _ bs.gn,g2,Yt,m9,Ii c _,Ii c _,λd z hd hz Wf=>?_⟩;let l3:=(l2.trans (Le.new (o:=.lst (((List.range m).map (ES ks (Eb c 32))).map Dr.tr)) hd)).trans (Le.new (o:=.lst (((List.range m).map (G8 ks (Eb c 32) (Eb c 33))).map Sh.tr)) (by rw[BR (λe=>Wf e.symm)];show hz));left;show Ps5 m _ _ d z ⟨rfl,bs.mono l3,l3 _ _ gh,l3 _ _ gd,by rw[BR Wf,Au],Au,m9,Ii c _,Ii c _⟩
 clear bs gh gd;intro τ Γ'⟨m,x,y,pm,pk,rfl,bs,gh,gd,gm,gk,m9,xp,yp⟩;let hA:jJ ks ps xs rw m x y:=⟨kl,nm,nd,pl,Nw,xl,x0,rl,r0,m9,xp,yp⟩;let q2:=λn1 n2=>q ks ps lo xs rw m x y n1 n2 hA;clear q;unfold D9 D4 at q2;let dl:((CE ks (AV ks ps lo xs [] true).1 ps rw ps 0).map (·.1)).length≤4:=by rw[AF,Uk];show pl
 let hl:=Vd (ks:=ks) (ps:=ps) (lo:=lo) (b:=true) xl;generalize ((CE ks (AV ks ps lo xs [] true).1 ps rw ps 0).all (·.2)&&decide (ps.map Pr.nm).Nodup)=bd at q2 ⊢;generalize (AV ks ps lo xs [] true).2=bh at q2 ⊢;generalize (CE ks (AV ks ps lo xs [] true).1 ps rw ps 0).map (·.1)=ds at gd q2 dl;generalize (AV ks ps lo xs [] true).1=hs at gh q2 hl;let ml:((List.range m).map (ES ks x)).length≤9:=by rw[AF,FK];show m9
 let nl:((List.range m).map (G8 ks x y)).length≤9:=by rw[AF,FK];show m9
 generalize (List.range m).map (ES ks x)=dm at gm q2 ml;generalize (List.range m).map (G8 ks x y)=hm at gk q2 nl;clear hA;left;show⟨λτ Γ'=>∃n1:Nat,τ=[some (.int c),some (.ref pr),some (.ref pn),some (.ref pp),o4,o5,some (.ref ph),some (.bl bh),some (.ref pd),some (.bl bd),some (.ref pm),some (.ref pk),some (.int (n1:Nat))]∧Br Γ Γ' pr pn (C5 c 54) ks∧Γ' ph=some (.lst (hs.map Sh.tr))∧Γ' pd=some (.lst (ds.map Dr.tr))∧Γ' pm=some (.lst (dm.map Dr.tr))∧Γ' pk=some (.lst (hm.map Sh.tr)),?_,?_⟩
 ·left
  show B7 bs.gr RC ?_;left;show EZ gd ?_;left;show⟨by lia,?_⟩;left;let b0:=DM (RT/20) (by lia:(((ds.map Dr.tr).length:Nat):Int)+1≠0);show⟨_,by rw[Ws b0],bs,gh,gd,gm,gk⟩
 clear bs gh gd gm gk;intro τ Γ'⟨n1,rfl,bs,gh,gd,gm,gk⟩;left;show⟨λτ Γ'=>∃pd,τ=[some (.int c),some (.ref pr),some (.ref pn),some (.ref pp),o4,o5,some (.ref ph),some (.bl bh),some (.ref pd),some (.bl bd),some (.ref pm),some (.ref pk),some (.int (n1:Nat))]∧Br Γ Γ' pr pn (C5 c 54) ks∧Γ' ph=some (.lst (hs.map Sh.tr))∧Γ' pd=some (.lst (((ds.take n1++dm)++ds.drop n1).map Dr.tr))∧Γ' pk=some (.lst (hm.map Sh.tr)),?_,?_⟩
 ·left
  show Ps2 pd _ ⟨rfl,gd,λp1 cS=>?_⟩;rw[G3,Pn (by lia),LL];revert p1 cS ea G1 g1 l1
  left;show Ps4 p1 pm _ _ ⟨rfl,rfl,g1,l1 _ _ gm,by rw[AF,AF,DD,Bm];lia,λp2 mS=>?_⟩;rw[←AZ];revert p2 mS ea G2 g2 l2
  left;show Ps2 pd _ ⟨rfl,(l1.trans l2) _ _ gd,λp3 My=>?_⟩;rw[G3,Mf (by lia),LL];revert p3 My ea D5 g3 l3
  left;show Ps4 p2 p3 _ _ ⟨rfl,rfl,l3 _ _ g2,g3,by rw[AF,AF,BP,DD,FG,Bm];lia,λp4 P8=>?_⟩;rw[←AZ];let l4:=((l1.trans l2).trans l3).trans (Le.new (o:=.lst (((ds.take n1++dm)++ds.drop n1).map Dr.tr)) P8);left;show⟨p4,rfl,bs.mono l4,l4 _ _ gh,Au,l4 _ _ gk⟩
 clear bs gh gd gm gk;intro τ Γ'⟨pd,rfl,bs,gh,gd,gk⟩;left;show⟨λτ Γ'=>∃n2:Nat,τ=[some (.int c),some (.ref pr),some (.ref pn),some (.ref pp),o4,o5,some (.ref ph),some (.bl bh),some (.ref pd),some (.bl bd),some (.ref pm),some (.ref pk),some (.int (n2:Nat))]∧Br Γ Γ' pr pn (C5 c 54) ks∧Γ' ph=some (.lst (hs.map Sh.tr))∧Γ' pd=some (.lst (((ds.take n1++dm)++ds.drop n1).map Dr.tr))∧Γ' pk=some (.lst (hm.map Sh.tr)),?_,?_⟩
 ·left
  show B7 bs.gr RC ?_;left;show EZ gh ?_;left;show⟨by lia,?_⟩;left;let b0:=DM (RT/100) (by lia:(((hs.map Sh.tr).length:Nat):Int)+1≠0);show⟨_,by rw[Ws b0],bs,gh,gd,gk⟩
 clear bs gh gd gk;intro τ Γ'⟨n2,rfl,bs,gh,gd,gk⟩;left;show⟨λτ Γ'=>∃ph,τ=[some (.int c),some (.ref pr),some (.ref pn),some (.ref pp),o4,o5,some (.ref ph),some (.bl bh),some (.ref pd),some (.bl bd),some (.ref pm),some (.ref pk),some (.int (n2:Nat))]∧Le Γ Γ'∧Γ' ph=some (.lst (((hs.take n2++hm)++hs.drop n2).map Sh.tr))∧Γ' pd=some (.lst (((ds.take n1++dm)++ds.drop n1).map Dr.tr)),?_,?_⟩
 ·left
  show Ps2 ph _ ⟨rfl,gh,λp1 cS=>?_⟩;rw[G3,Pn (by lia),LL];revert p1 cS ea G1 g1 l1
  left;show Ps4 p1 pk _ _ ⟨rfl,rfl,g1,l1 _ _ gk,by rw[AF,AF,DD,Bm];lia,λp2 mS=>?_⟩;rw[←AZ];revert p2 mS ea G2 g2 l2
  left;show Ps2 ph _ ⟨rfl,(l1.trans l2) _ _ gh,λp3 My=>?_⟩;rw[G3,Mf (by lia),LL];revert p3 My ea D5 g3 l3
  left;show Ps4 p2 p3 _ _ ⟨rfl,rfl,l3 _ _ g2,g3,by rw[AF,AF,BP,DD,FG,Bm];lia,λp4 P8=>?_⟩;rw[←AZ];let l4:=((l1.trans l2).trans l3).trans (Le.new (o:=.lst (((hs.take n2++hm)++hs.drop n2).map Sh.tr)) P8);left;show⟨p4,rfl,bs.le.trans l4,Au,l4 _ _ gd⟩
 clear bs gh gd gk;intro τ Γ'⟨ph,rfl,l,gh,gd⟩;left;show Ps2 (.ref pd) _ ⟨rfl,BD gd,?_⟩;left;show Ps2 (.ref ph) _ ⟨rfl,BD gh,?_⟩;left;let qq:=AD l (q2 n1 n2);show AU (λcc=>?_) (λcc=>?_)
 ·left
  rw[cc,Bc]at qq;show qq
 ·left
  rw[cc,Dj]at qq;show qq
end
def UO(h:ks≠[]):ks.headD "" ∈ ks:=by
 cases ks with
 |nil=>show absurd rfl h
 |cons a r=>show Ej
def TO(h:ks≠[]):ks.getLastD "" ∈ ks:=by
 rw[dQ,List.getLast?_eq_some_getLast h];show List.getLast_mem h
def xR(s:Sm)(w:Int)(d:Nat):(CV (DS s w).1 d&&CV (DS s w).2 d)=s.fm d:=by
 let f0:∀d,(Sm.fail 0).fm d=true:=λd=>by rw[Sm.fm];rfl
 let f9:∀d,(Sm.fail 999).fm d=true:=λd=>by rw[Sm.fm];rfl
 unfold DS;split
 ·simp[CV]
 split
 ·simp[CV]
 split
 ·simp[CV,f0]
 ·simp[CV,f9]
def adh(hk:∀z∈ks,D2 z=true)(s:Sm)(w:Int)(d:Nat):(FD ks s w).fm d=(decide (d+1≤4)&&s.fm (d+1)):=by
 let e:=xR s w (d+1);let t:∀(a b:List Sm),((decide (d+1≤4)&&CV a (d+1))&&(decide (d+1≤4)&&CV b (d+1)))=(decide (d+1≤4)&&(CV a (d+1)&&CV b (d+1))):=λa b=>by
  cases decide (d+1≤4)<;>simp
 unfold FD;split
 ·rename_i h
  rw[Sm.fm,hk _ (UO h.2),hk _ (TO h.2),Bc,Bc,t,e]
 ·rw[Sm.fm,t,e]
def S3{ks:List Str}(hk:∀z∈ks,D2 z=true)(b:Bool):∀(n k:Nat) (s:Sm) (w:Int),(∀d,s.fm d=(decide (k=0∨d+k≤4)&&b))→∀d,(Eh ks n s w).fm d=(decide (k+n=0∨d+(k+n)≤4)&&b)
 |0,k,s,w,h,d=>h d
 |n+1,k,s,w,h,d=>by
  rw[Eh,S3 hk b n (k+1) (FD ks s w) (w/8) (λd=>?_) d,show k+1+n=k+(n+1)by lia];rw[adh hk,h,←Kr,←Bool.decide_and];show DT (·&&b) (abd.mpr ?_);lia
def NP{W:List (Str×Str)}(h:gd Ps re W s K=(b,K)):Az Ps re W [s] K=(b,K):=by
 rw[Az,h];cases b<;>simp[Az]
def dL{W:List (Str×Str)}{w:Int}(h:gd Ps re W s K=(b,K)):(if(Az Ps re W (DS s w).1 K).1=true then Az Ps re W (DS s w).2 (Az Ps re W (DS s w).1 K).2 else(false,(Az Ps re W (DS s w).1 K).2))=(b,K):=by
 let f:∀n,Az Ps re W [.fail n] K=(true,K):=λn=>NP (by rw[gd]);let g:=NP h;let z:Az Ps re W [] K=(true,K):=by rw[Az]
 unfold DS;split
 ·show(if(Az Ps re W [s] K).1=true then Az Ps re W [] (Az Ps re W [s] K).2 else _)=_
  rw[g];cases b<;>simp[z]
 split
 ·show(if(Az Ps re W [] K).1=true then Az Ps re W [s] (Az Ps re W [] K).2 else _)=_
  rw[z];simp[g]
 split
 ·show(if(Az Ps re W [s] K).1=true then Az Ps re W [.fail 0] (Az Ps re W [s] K).2 else _)=_
  rw[g];cases b<;>simp[f]
 ·show(if(Az Ps re W [.fail 999] K).1=true then Az Ps re W [s] (Az Ps re W [.fail 999] K).2 else _)=_
  rw[f];simp[g]
def abI{W:List (Str×Str)}{w:Int}(hk:∀z∈ks,K.lookup z=some (.num 1))(h:gd Ps re W s K=(b,K)):gd Ps re W (FD ks s w) K=(b,K):=by
 unfold FD;split
 ·rename_i c
  rw[gd,hk _ (UO c.2),hk _ (TO c.2)];show(if kq (.num 1) (.num 1)=true then _ else _)=_
  rw[AO (kD _)];show dL h
 ·rw[gd];show dL h
def ay{ks:List Str}{Ps:List (Str×Pr)}{re:Option Kd}{W:List (Str×Str)}{K:List (Str×Kd)}{b:Bool}(hk:∀z∈ks,K.lookup z=some (.num 1)):∀(n:Nat) (s:Sm) (w:Int),gd Ps re W s K=(b,K)→gd Ps re W (Eh ks n s w) K=(b,K)
 |0,s,w,h=>h
 |n+1,s,w,h=>ay hk n _ _ (abI hk h)
def eSl{ps:List Pr}{kn:List Str}{a b:Int}{W:List (Str×Str)}(h0:ks≠[])(Y3:∀z∈kn,z∈ks)(hK:∀z∈ks,(K.lookup z).isSome=decide (z∈kn))(hP:∀t∈ks++E8 ps,(match Ps.lookup t with|none=>false|some p=>p.ps.isEmpty)=Ff ps t)(ht:CB ks ps a∈ks++E8 ps):
  gd Ps re W (El ks ps kn a b).1 K=((El ks ps kn a b).2,K):=by
 unfold El;split
 ·let m:at_ (kn++[at_ ks b]) (b/9)∈ks:=by
   have:=Fc (ws:=kn++[at_ ks b]) (i:=b/9) (by simp);rcases aav.mp this with m|m
   ·show Y3 _ m
   ·rw[aaC.mp m];show Fc h0
  show gd Ps re W (.say _) K=(decide _,K)
  rw[gd,hK _ m]
 ·show gd Ps re W (.call none _ []) K=(Ff ps _,K)
  rw[gd,←hP _ ht];cases Ps.lookup (CB ks ps a)with
  |none=>rfl
  |some p=>
   show(if(decide (0=p.ps.length)&&true)=true then(true,K)else(false,K))=(p.ps.isEmpty,K)
   cases e:p.ps with
   |nil=>rfl
   |cons x y=>rfl
def aay{kn:List Str}{one:Sm}{d:Int}{W:List (Str×Str)}(hk:∀z∈kn,K.lookup z=some (.num 1))(h:gd Ps re W one K=(b,K)):Az Ps re W (E3 kn one c d) K=(b,K):=by
 unfold E3;split
 ·let f:gd Ps re W (Eh kn (CZ c) (.fail 5) (c/6)) K=(true,K):=ay hk _ _ _ (by rw[gd])
  rw[Az,f];show(if true=true then Az Ps re W [one] K else _)=_
  rw[AO rfl];show NP h
 ·show NP (ay hk _ _ _ h)
def ng{kn:List Str}{one:Sm}{d:Int}(hk:∀z∈kn,D2 z=true)(h:∀d,one.fm d=true):wJ (E3 kn one c d) 1=decide (CZ c<4):=by
 let f5:∀d,(Sm.fail 5).fm d=(decide (0=0∨d+0≤4)&&true):=λd=>by rw[Sm.fm];rfl
 let h0:∀d,one.fm d=(decide (0=0∨d+0≤4)&&true):=λd=>by rw[h];rfl
 let e:decide (0+CZ c=0∨1+(0+CZ c)≤4)=decide (CZ c<4):=abd.mpr (by lia);unfold wJ E3;split
 ·rw[CV,CV,CV,S3 hk true _ 0 _ _ f5,h,e];simp
 ·rw[CV,CV,S3 hk true _ 0 _ _ h0,e];simp
def SG{ps:List Pr}{a:Int}(h:ks≠[]):CB ks ps a∈ks++E8 ps:=by
 unfold CB;split
 ·have:=Fc (ws:=E8 ps++[at_ ks (a/2)]) (i:=a/72) (by simp)
  rcases aav.mp this with m|m
  ·show CQ _ m
  ·rw[aaC.mp m];show G4 _ (Fc h)
 ·show G4 _ (Fc h)
def wx{ps:List Pr}{kn:List Str}{a b:Int}(h1:∀z∈ks++E8 ps,D2 z=true)(h2:∀z∈kn,D2 z=true)(h:ks≠[])(d:Nat):(El ks ps kn a b).1.fm d=true:=by
 unfold El;split
 ·show(Sm.say _).fm d=true
  rw[Sm.fm];have:=Fc (ws:=kn++[at_ ks b]) (i:=b/9) (by simp);rcases aav.mp this with m|m
  ·show h2 _ m
  ·rw[aaC.mp m];show h1 _ (G4 _ (Fc h))
 ·show(Sm.call none _ []).fm d=true
  rw[Sm.fm,h1 _ (SG h)];rfl
def t7(ks:List Str)(s:Sm)(w:Int):(FD ks s w).sz≤s.sz+2:=by
 let e:Bv (DS s w).1+Bv (DS s w).2≤s.sz+1:=by
  unfold DS;split
  ·simp[Bv]
  split
  ·simp[Bv]
  split
  ·simp[Bv,Sm.sz]
  ·simp[Bv,Sm.sz];lia
 unfold FD;split<;>(rw[Sm.sz];lia)
def U3(ks:List Str):∀(n:Nat) (s:Sm) (w:Int),(Eh ks n s w).sz≤s.sz+2*n
 |0,s,w=>Ap _
 |n+1,s,w=>by
  let a:=U3 ks n (FD ks s w) (w/8);let b:=t7 ks s w;rw[Eh];lia
def sr{kn:List Str}{one:Sm}{d:Int}(h:one.sz=1):Bv (E3 kn one c d)≤90000:=by
 let m4:=iQ c;unfold E3;split
 ·have:=U3 kn (CZ c) (.fail 5) (c/6)
  rw[Bv,Bv,Bv,h];rw[show(Sm.fail 5).sz=1 by simp[Sm.sz]]at this;lia
 ·have:=U3 kn (CZ c) one (c/6)
  rw[Bv,Bv];lia
def aa7(hk:∀z∈ks,z.length≤1000)(h:s.Ok)(w:Int):(FD ks s w).Ok:=by
 let f:∀n,(Sm.fail n).Ok:=λn=>by rw[Sm.Ok];trivial
 let e:(DS s w).1.length≤1000∧(DS s w).2.length≤1000∧CT (DS s w).1∧CT (DS s w).2:=by
  unfold DS;split
  ·simp[CT,h]
  split
  ·simp[CT,h]
  split
  ·simp[CT,h,f]
  ·simp[CT,h,f]
 unfold FD;split
 ·rename_i c
  rw[Sm.Ok];show⟨hk _ (UO c.2),hk _ (TO c.2),e⟩
 ·rw[Sm.Ok];show e
def Qo{ks:List Str}(hk:∀z∈ks,z.length≤1000):∀(n:Nat) (s:Sm) (w:Int),s.Ok→(Eh ks n s w).Ok
 |0,s,w,h=>h
 |n+1,s,w,h=>Qo hk n _ _ (aa7 hk h w)
def vw{kn:List Str}{one:Sm}{d:Int}(hk:∀z∈kn,z.length≤1000)(h:one.Ok):CT (E3 kn one c d)∧(E3 kn one c d).length≤1000:=by
 let f:(Sm.fail 5).Ok:=by rw[Sm.Ok];trivial
 unfold E3;split
 ·show⟨by rw[CT,CT,CT];show⟨Qo hk _ _ _ f,h,trivial⟩,by simp⟩
 ·show⟨by rw[CT,CT];show⟨Qo hk _ _ _ h,trivial⟩,by simp⟩
def bOr{ps:List Pr}{kn:List Str}{a b:Int}(h1:∀z∈ks++E8 ps,z.length≤1000)(h2:∀z∈kn,z.length≤1000)(h:ks≠[]):(El ks ps kn a b).1.Ok∧(El ks ps kn a b).1.sz=1:=by
 unfold El;split
 ·show⟨?_,by show(Sm.say _).sz=1;simp[Sm.sz]⟩
  show(Sm.say _).Ok
  rw[Sm.Ok];have:=Fc (ws:=kn++[at_ ks b]) (i:=b/9) (by simp);rcases aav.mp this with m|m
  ·show h2 _ m
  ·rw[aaC.mp m];show h1 _ (G4 _ (Fc h))
 ·show⟨?_,by show(Sm.call none _ []).sz=1;simp[Sm.sz]⟩
  show(Sm.call none _ []).Ok
  rw[Sm.Ok];show⟨λx e=>(nomatch e),h1 _ (SG h),by decide,λx m=>(nomatch m)⟩
def ux:∀z∈xu,Nm (Es z):=λz m=>by
 let h:=(show ∀z∈xu,1≤(Es z).length∧(Es z).length≤8∧((Es z).cps.toList.all λc=>decide (97≤c)&&decide (c≤122))=true by done) z m;show⟨h.1,h.2.1,iJ h.2.2⟩
def aak(x:Int):at_ Ox x∈iq:=(show ∀z∈Ox,z∈iq by done) _ (Fc (by decide))
def Lq:∀z∈Bf ks,Nm z∧z∉ks:=λz m=>by
 unfold Bf Eo at m;let⟨u,hu,rfl⟩:=aai.mp m;have:=aa9.mp hu;show⟨ux u this.1,DN this.2⟩
def dZ(ks:List Str):(Bf ks).Nodup:=by
 unfold Bf Eo;show ab1.mpr ?_;let nd:=zw.sublist (Qy (p:=λz=>decide (Es z∉ks)) (l:=xu));show Pl (λ{a b} ha hb ne e=>?_) nd;show ne (fE a (aa9.mp ha).1 b (aa9.mp hb).1 e)
def Ou(h:ks≠[]):∀q∈Fm ks x n,q.1∈ks∧q.2.1∈iq∧q.2.2=.num 1:=λq m=>by
 unfold Fm at m;let⟨k,_,rfl⟩:=aai.mp m;show⟨Fc h,aak _,rfl⟩
def uY(nd:ks.Nodup)(h:2≤ks.length)(j:Int):at_ ks j≠at_ ks (j+1):=λe=>by
 let l0:(0:Int)<ks.length:=by lia
 let a0:=DM j (by lia:(ks.length:Int)≠0);let a1:=EH j l0;let b0:=DM (j+1) (by lia:(ks.length:Int)≠0);let b1:=EH (j+1) l0;let ne:j%ks.length≠(j+1)%ks.length:=λe=>by
  let h1:((j+1)-j)%(ks.length:Int)=0:=by
   rw[Int.sub_emod,←e,Int.sub_self,Int.zero_emod]
  rw[show j+1-j=1 by lia,Int.emod_eq_of_lt (by decide) (by lia)]at h1;cases h1
 unfold at_ at e;generalize j%ks.length=u at a0 a1 ne e;generalize (j+1)%ks.length=v at b0 b1 ne e;let hu:u.toNat<ks.length:=by lia
 let hv:v.toNat<ks.length:=by lia
 rw[DJ,DJ,BV hu,BV hv]at e;have:=(OE nd).mp e;lia
def rM(nd:ks.Nodup)(h:2≤ks.length)(hn:n≤2):((Fm ks x n).map (·.1)).Nodup:=by
 let ne:=uY nd h (x%ks.length);let ne:at_ ks (x%ks.length+((0:Nat):Int))≠at_ ks (x%ks.length+((1:Nat):Int)):=by simpa using ne
 match n,hn with
 |0,_=>show It
 |1,_=>show abu.mpr ⟨by simp,It⟩
 |2,_=>
  show([at_ ks (x%ks.length+((0:Nat):Int)),at_ ks (x%ks.length+((1:Nat):Int))]:List Str).Nodup
  show abu.mpr ⟨by simpa using ne,abu.mpr ⟨by simp,It⟩⟩
def lP:(Kd.num 1).good∧(Kd.num 1).depth≤5:=by
 constructor
 ·unfold Kd.good;decide
 ·unfold Kd.depth;decide
def yv(hk:∀z∈ks,Nm z)(nd:ks.Nodup)(h:2≤ks.length)(o:HJ ks p):p.Ok:=by
 let kn:ks≠[]:=λe=>by rw[e]at h;cases h
 let⟨a,b,c,⟨x,n,hn,x0,e⟩⟩:=o;show⟨hk _ a,b,λq m=>?_,?_,?_,λk e=>by rw[c]at e;cases e⟩
 ·rw[e]at m
  let⟨m1,m2,m3⟩:=Ou kn q m;rw[m3];show⟨hk _ m1,m2,lP⟩
 ·rw[e];show rM nd h hn
 ·rw[e];unfold Fm;rw[AF,FK];lia
def UI{ks:List Str}{ps:List Pr}{lo:Bool}(P:Sh→Prop)(hP:∀x,0≤x→P (Ew ks x)):∀{xs:List Int} {hs:List Sh} {b:Bool},(∀x∈xs,0≤x)→(∀s∈hs,P s)→∀s∈(AV ks ps lo xs hs b).1,P s
 |[],hs,b,_,h=>h
 |x::r,hs,b,h0,h=>by
  let h1:=λz m=>h0 z (Cn _ m);rw[AV];split
  ·show UI P hP h1 λs m=>?_
   rcases aav.mp m with m|m
   ·show h s m
   ·rw[aaC.mp m];show hP x (h0 x Ej)
  ·show UI P hP h1 h
def Nd(h:ks.length≤9):17≤(Bf ks).length:=by
 have:=Pk xu ks zw λ_ m=>m;let e:xu.length=26:=by done
 unfold Bf;lia
def iH(h:ks.length≤9){k:Nat}(hk:k<9):(ES ks x k).p.nm∈Bf ks:=by
 let l:=Nd h;show(Bf ks).getD k "" ∈ Bf ks
 rw[DJ,BV (by lia)];show Eg _
def UY(h:ks.length≤9){y:Int}{k:Nat}:(G8 ks x y k).nm∈Bf ks:=Fc λe=>by
 have:=Nd h;rw[e]at this;cases this
def T3(x:Int):x%2=0∨x%2=1:=by lia
def j7(h1:∀q∈p.ps,q.1∈ks)(h2:∀s∈hs,s.nm∈ks):∀z∈BA p hs,z∈ks:=λz m=>by
 unfold BA at m;rcases aav.mp m with m|m
 ·let⟨q,hq,rfl⟩:=aai.mp m;show h1 q hq
 ·let⟨s,hs,rfl⟩:=aai.mp m;show h2 s (aa9.mp hs).1
def U1{ps:List Pr}(h:∀p∈ps,HJ ks p):∀z∈ks++E8 ps,z∈ks:=λz m=>by
 rcases aav.mp m with m|m
 ·show m
 ·unfold E8 at m
  let⟨p,hp,rfl⟩:=aai.mp m;show(h p (aa9.mp hp).1).1
def UT{ks:List Str}{hs:List Sh}{ps:List Pr}{rw:List Int}:∀{qs:List Pr} {i:Nat} {e:Dr×Bool},e∈CE ks hs ps rw qs i→∃p∈qs,∃j,e=Ig ks hs ps rw p j
 |p::r,i,e,m=>by
  rw[CE]at m;rcases aaf.mp m with rfl|m
  ·show⟨p,Ej,i,rfl⟩
  ·let⟨p',h,⟨j,e⟩⟩:=UT m
   show⟨p',Cn _ h,j,e⟩
section
variable {ks: List Str}{ps: List Pr}{rw: List Int}{m: Nat}{x: Int}
def jJ.kn(h:jJ ks ps xs rw m x y):ks≠[]:=λe=>by have:=h.kl;rw[e]at this;rcases this with h|h<;>cases h
def jJ.k9(h:jJ ks ps xs rw m x y):ks.length≤9:=by have:=h.kl;lia
def jJ.k2(h:jJ ks ps xs rw m x y):2≤ks.length:=by have:=h.kl;lia
def jJ.sh(h:jJ ks ps xs rw m x y)(lo:Bool):∀s∈(AV ks ps lo xs [] true).1,s.Ok∧s.nm∈ks∧s.k=.num 1∧CA s.k s.w=true:=
 UI _ (λz z0=>by
  have:=Fc (i:=z/2) h.kn;show⟨⟨h.nm _ this,T3 z,lP,λΓ=>.int _⟩,this,rfl,?_⟩;show CA (.num 1) (.int (z/72%30000))=true
  let v0:0≤z/72%30000∧z/72%30000<30000:=by lia
  let e:(65536:Int)^(1:Int).toNat=65536:=by decide
  unfold CA ag;rw[e];show(decide (-65536≤2*(z/72%30000))&&decide (2*(z/72%30000)≤65536-2))=true
  rw[BU (by lia),BU (by lia)];rfl) h.x0 λs m=>nomatch m
def jJ.XH(h:jJ ks ps xs rw m x y)(lo:Bool)(n:Nat):∀s∈D4 ks (AV ks ps lo xs [] true).1 m x y n,s.Ok:=λs hs=>by
 let a:=λs m=>(h.sh lo s m).1;unfold D4 at hs;rcases aav.mp hs with hs|hs
 ·rcases aav.mp hs with hs|hs
  ·show a s (Hi hs)
  ·let⟨k,hk,rfl⟩:=aai.mp hs
   show⟨(Lq _ (UY h.k9)).1,T3 _,⟨by show(Kd.text).good;unfold Kd.good;trivial,by show(Kd.text).depth≤5;unfold Kd.depth;decide⟩,λΓ=>.str (by done)⟩
 ·show a s (Hc hs)
def jJ.dos(h:jJ ks ps xs rw m x y)(lo:Bool)(n:Nat):∀d∈D9 ks (AV ks ps lo xs [] true).1 ps rw m x n,d.Ok∧Bv d.b≤90000:=λd hd=>by
 let nl:∀z∈ks,z.length≤1000:=λz m=>by have:=(h.nm z m).2.1;lia
 let a:∀d∈(CE ks (AV ks ps lo xs [] true).1 ps rw ps 0).map (·.1),d.Ok∧Bv d.b≤90000:=λd m=>by
  let⟨e,he,rfl⟩:=aai.mp m;let⟨p,hp,⟨j,rfl⟩⟩:=UT he;let po:=yv h.nm h.nd h.k2 (h.pp p hp);let kw:∀z∈BA p (AV ks ps lo xs [] true).1,z∈ks:=j7 (λq hq=>by
   let⟨_,_,_,⟨x',n',_,_,e⟩⟩:=h.pp p hp;rw[e]at hq;show(Ou h.kn q hq).1) λs m=>(h.sh lo s m).2.1
  let oo:=bOr (ps:=ps) (a:=rw.getD (4*j) 0) (b:=rw.getD (4*j+1) 0) (λz m=>nl z (U1 h.pp z m)) (λz m=>nl z (kw z m)) h.kn;let bo:=vw (c:=rw.getD (4*j+2) 0) (d:=rw.getD (4*j+3) 0) (λz m=>nl z (kw z m)) oo.1;show⟨⟨po,bo.1,bo.2⟩,sr oo.2⟩
 unfold D9 at hd;rcases aav.mp hd with hd|hd
 ·rcases aav.mp hd with hd|hd
  ·show a d (Hi hd)
  ·let⟨k,hk,rfl⟩:=aai.mp hd
   let V9:k<9:=by have:=aaP.mp hk;have:=h.m9;lia
   show⟨⟨⟨(Lq _ (iH h.k9 V9)).1,T3 _,λq m=>(nomatch m),It,E6 _,λk e=>(nomatch e)⟩,?_,by show 1≤1000;decide⟩,?_⟩
   ·show CT [.fail k]
    rw[CT,CT,Sm.Ok];show⟨trivial,trivial⟩
   ·show Bv [.fail k]≤90000
    simp[Bv,Sm.sz]
 ·show a d (Hc hd)
end
def abK{α:Type}(A S:List α)(n:Nat)(f:α→Bool):((A.take n++S)++A.drop n).all f=(A.all f&&S.all f):=by
 rw[KH,KH,Kr,Bool.and_comm (S.all f),←Kr,←KH,Jn]
def eU{α:Type}{A S:List α}(h:S.Nodup)(dj:∀a∈A,a∉S):((A.take n++S)++A.drop n).Nodup↔A.Nodup:=by
 let p:((A.take n++S)++A.drop n).Perm (A++S):=by
  show(List.perm_append_comm (l₁:=A.take n++S)).trans ?_;rw[←KY];show(List.Perm.append_right S (List.perm_append_comm.trans (by rw[Jn])))
 rw[p.nodup_iff,abl];show⟨λh=>h.1,λa=>⟨a,h,λx hx y hy e=>dj x hx (e ▸ hy)⟩⟩
abbrev IH(ps:List Pr)(hs:List Sh):Prop:=(hs.map Sh.ky).Nodup∧∀s∈hs,s.ky∉EI ps s.sd
def acD{ps:List Pr}{s:Sh}:IH ps (hs++[s])↔IH ps hs∧s.ky∉hs.map Sh.ky++EI ps s.sd:=by
 unfold IH;rw[AZ,abl];constructor
 ·intro⟨⟨a,b,c⟩,d⟩
  show⟨⟨a,λt m=>d t (G4 _ m)⟩,λm=>?_⟩;rcases aav.mp m with m|m
  ·show c _ m _ (aaC.mpr rfl) rfl
  ·show d s (CQ _ (aaC.mpr rfl)) m
 ·intro⟨⟨a,d⟩,e⟩
  show⟨⟨a,abu.mpr ⟨by simp,It⟩,λu hu v hv q=>e (G4 _ ?_)⟩,λt m=>?_⟩
  ·rw[←aaC.mp hv,←q];show hu
  ·rcases aav.mp m with m|m
   ·show d t m
   ·rw[aaC.mp m];exactλz=>e (CQ _ z)
def S2{ks:List Str}{ps:List Pr}{lo:Bool}:∀{xs:List Int} {hs:List Sh} {b:Bool},(b=true↔IH ps hs)→((AV ks ps lo xs hs b).2=true↔IH ps (AV ks ps lo xs hs b).1)
 |[],hs,b,h=>h
 |x::r,hs,b,h=>by
  rw[AV];split
  ·show S2 ?_
   rw[EJ,h,acD];show and_congr_right λ_=>?_;unfold Il;rw[Bool.not_eq_true',decide_eq_false_iff_not];show Iff.rfl
  ·show S2 h
def yS{ps:List Pr}:true=true↔IH ps []:=⟨λ_=>⟨It,λ_ m=>nomatch m⟩,λ_=>rfl⟩
def i5{ks:List Str}{hs:List Sh}{ps:List Pr}{rw:List Int}:∀{qs:List Pr} {i:Nat},(CE ks hs ps rw qs i).map (λe=>e.1.p)=qs
 |[],_=>rfl
 |p::r,i=>by rw[CE,Cq,i5 (qs:=r)];rfl
def Oe{z:Str}:∀{L:List (Str×Kd)},(∀e∈L,e.1=z→e.2=.num 1)→L.lookup z=if z∈L.map (·.1)then some (.num 1)else none
 |[],_=>rfl
 |(a,k)::r,h=>by
  rw[Hl];by_cases e:z=a
  ·subst e
   have:k=.num 1:=h (z,k) Ej rfl;subst this;rw[show(z==z)=true from O7 z,AO (by simp)]
  ·rw[show(z==a)=false from aba.mpr e]
   show List.lookup z r=_
   rw[Oe λe m=>h e (Cn _ m)];have:(z∈((a,k)::r).map (·.1))↔z∈r.map (·.1):=by
    rw[Cq,aaf];show or_iff_right e
   by_cases c:z∈r.map (·.1)
   ·rw[AO c,AO (this.mpr c)]
   ·rw[AL c,AL (λq=>c (this.mp q))]
section
variable {ks: List Str}{ps: List Pr}{rw: List Int}{m: Nat}{x: Int}
def vc{ks:List Str}{m:Nat}{x y:Int}{s:Sh}:s∈D4 ks hs m x y n↔s∈hs∨∃k<m,s=G8 ks x y k:=by
 unfold D4;rw[aav,aav,aai];constructor
 ·rintro((h|⟨k,hk,rfl⟩)|h)
  ·show .inl (Hi h)
  ·show .inr ⟨k,aaP.mp hk,rfl⟩
  ·show .inl (Hc h)
 ·rintro(h|⟨k,hk,rfl⟩)
  ·rw[←Jn n hs]at h
   rcases aav.mp h with h|h
   ·show .inl (.inl h)
   ·show .inr h
  ·show .inl (.inr ⟨k,aaP.mpr hk,rfl⟩)
def jJ.ar(h:jJ ks ps xs rw m x y)(lo:Bool)(n:Nat)(sd:Int):∀e∈DH (D4 ks (AV ks ps lo xs [] true).1 m x y n) sd,e.1∈ks→e.2=.num 1∧∃s∈(AV ks ps lo xs [] true).1,s.sd=sd∧s.nm=e.1:=λe he hz=>by
 unfold DH at he;let⟨s,hs,rfl⟩:=aai.mp he;let fV:=aa9.mp hs;rcases vc.mp fV.1 with q|⟨k,hk,rfl⟩
 ·show⟨(h.sh lo s q).2.2.1,s,q,DN fV.2,rfl⟩
 ·show absurd hz (Lq _ (UY (x:=x) (y:=y) (k:=k) h.k9)).2
def bg{m:Nat}{s:Sh}(h:s∈hs):s.nm∈(DH (D4 ks hs m x y n) s.sd).map (·.1):=by
 unfold DH;rw[CU];show aai.mpr ⟨s,aa9.mpr ⟨vc.mpr (.inl h),BU rfl⟩,rfl⟩
noncomputable abbrev ae(hs:List Sh)(p:Pr):ad:=DH hs p.sd++p.ps.map λq=>(q.1,q.2.2)
def jJ.lk(h:jJ ks ps xs rw m x y)(lo:Bool)(n:Nat)(hp:p∈ps)(hz:z∈ks):(ae (D4 ks (AV ks ps lo xs [] true).1 m x y n) p).lookup z=if z∈BA p (AV ks ps lo xs [] true).1 then some (.num 1)else none:=by
 rw[Oe (z:=z) λe he ez=>?_]
 ·have:(z∈(ae (D4 ks (AV ks ps lo xs [] true).1 m x y n) p).map (·.1))↔z∈BA p (AV ks ps lo xs [] true).1:=by
   unfold BA;rw[AZ,aav,aav,Or.comm,CU];show or_congr Iff.rfl ⟨λq=>?_,λq=>?_⟩
   ·let⟨e,he,rfl⟩:=aai.mp q
    let⟨_,⟨s,hs,e1,e2⟩⟩:=h.ar lo n p.sd e he hz;show aai.mpr ⟨s,aa9.mpr ⟨hs,BU e1⟩,e2⟩
   ·let⟨s,hs,rfl⟩:=aai.mp q
    let fV:=aa9.mp hs;let e1:s.sd=p.sd:=DN fV.2;rw[←e1];show bg fV.1
  by_cases c:z∈BA p (AV ks ps lo xs [] true).1
  ·rw[AO c,AO (this.mpr c)]
  ·rw[AL c,AL (λq=>c (this.mp q))]
 ·rcases aav.mp he with he|he
  ·show(h.ar lo n p.sd e he (ez ▸ hz)).1
  ·let⟨q,hq,rfl⟩:=aai.mp he
   let⟨_,_,_,⟨x',n',_,_,e⟩⟩:=h.pp p hp;rw[e]at hq;show(Ou h.kn q hq).2.2
end
def abq{α:Type}(A S:List α)(n:Nat)(f:α→Bool):((A.take n++S)++A.drop n).any f=(A.any f||S.any f):=by
 rw[KU,KU,Up,Bool.or_comm (S.any f),←Up,←KU,Jn]
def cG{t:Str}:∀{L:List Pr},(L.map Pr.nm).Nodup→(match(L.map λp=>(p.nm,p)).lookup t with|none=>false|some p=>p.ps.isEmpty)=Ff L t
 |[],_=>rfl
 |a::r,h=>by
  let h':=abu.mp (show(a.nm::r.map Pr.nm).Nodup from h);rw[Cq,Hl];unfold Ff;rw[G7];by_cases e:t=a.nm
  ·subst e
   rw[show(a.nm==a.nm)=true from O7 _];have:(r.any λp=>decide (p.nm=a.nm)&&p.ps.isEmpty)=false:=by
    rw[PL];intro p hp c;rw[EJ,JT]at c;show h'.1 (c.1 ▸ aai.mpr ⟨p,hp,rfl⟩)
   rw[this,BU rfl];simp
  ·rw[show(t==a.nm)=false from aba.mpr e,Ck (λq=>e q.symm),Dj,Bool.false_or]
   show cG h'.2
def Sa{ps:List Pr}:(D9 ks hs ps rw m x n).map Dr.p=(ps.take n++(List.range m).map λk=>(ES ks x k).p)++ps.drop n:=by
 let e:((CE ks hs ps rw ps 0).map (·.1)).map Dr.p=ps:=by rw[CU];show i5
 unfold D9;rw[AZ,AZ,M3,Mn,e,CU];rfl
section
variable {ks: List Str}{ps: List Pr}{rw: List Int}{m: Nat}{x: Int}
def jJ.VA(h:jJ ks ps xs rw m x y):∀p∈(List.range m).map (λk=>(ES ks x k).p),p.nm∉ks:=λp hp=>by
 let⟨k,hk,rfl⟩:=aai.mp hp;have:=aaP.mp hk;have:=h.m9;show(Lq _ (iH h.k9 (by lia))).2
def jJ.XD(h:jJ ks ps xs rw m x y):(((List.range m).map λk=>(ES ks x k).p).map Pr.nm).Nodup:=by
 rw[CU];let l:=Nd h.k9;let m9:=h.m9;show ab1.mpr (Pl (λ{a b} ha hb ne e=>ne ?_) Kw);let ha:=aaP.mp ha;let hb:=aaP.mp hb;let e:(Bf ks).getD a "" =(Bf ks).getD b "" := e;rw[DJ,DJ,BV (by lia),BV (by lia)]at e;show(OE (dZ ks)).mp e
def jJ.VL(h:jJ ks ps xs rw m x y)(n:Nat):((D9 ks hs ps rw m x n).map λd=>d.p.nm).Nodup ↔(ps.map Pr.nm).Nodup:=by
 rw[show((D9 ks hs ps rw m x n).map λd=>d.p.nm)=((D9 ks hs ps rw m x n).map Dr.p).map Pr.nm by rw[CU];rfl,Sa,AZ,AZ,M3,Mn];show eU h.XD λa ha hs=>?_;let⟨p,hp,rfl⟩:=aai.mp ha;let⟨p',wF,e⟩:=aai.mp hs;show h.VA p' wF (e ▸ (h.pp p hp).1)
def jJ.Ym(h:jJ ks ps xs rw m x y)(n:Nat)(nd:(ps.map Pr.nm).Nodup){t:Str}(ht:t∈ks):(match(Fd (D9 ks hs ps rw m x n)).lookup t with|none=>false|some p=>p.ps.isEmpty)=Ff ps t:=by
 let HW:=(h.VL (hs:=hs) n).mpr nd;rw[show((D9 ks hs ps rw m x n).map λd=>d.p.nm)=((D9 ks hs ps rw m x n).map Dr.p).map Pr.nm by rw[CU];rfl]at HW;rw[show Fd (D9 ks hs ps rw m x n)=((D9 ks hs ps rw m x n).map Dr.p).map λp=>(p.nm,p)by unfold Fd;rw[CU];rfl,cG HW,Sa];unfold Ff;rw[abq];have:(((List.range m).map λk=>(ES ks x k).p).any λp=>decide (p.nm=t)&&p.ps.isEmpty)=false:=by
  rw[PL];intro p hp c;rw[EJ,JT]at c;show h.VA p hp (c.1 ▸ ht)
 rw[this,OV]
end
abbrev ui:Prop:=∀(ks:List Str) (ps:List Pr) (lo:Bool) (xs rw:List Int) (m:Nat) (x y:Int) (n1 n2:Nat),jJ ks ps xs rw m x y→
 (∀d∈D9 ks (AV ks ps lo xs [] true).1 ps rw m x n1,d.Ok∧Bv d.b≤90000)∧(∀s∈D4 ks (AV ks ps lo xs [] true).1 m x y n2,s.Ok)∧
 QJ (D9 ks (AV ks ps lo xs [] true).1 ps rw m x n1) (D4 ks (AV ks ps lo xs [] true).1 m x y n2)=(((CE ks (AV ks ps lo xs [] true).1 ps rw ps 0).all (·.2)&&decide (ps.map Pr.nm).Nodup)&&(AV ks ps lo xs [] true).2)
section
variable {ks: List Str}{ps: List Pr}{rw: List Int}{m: Nat}{x: Int}
def jJ.pin(h:jJ ks ps xs rw m x y)(hp:p∈ps):∀q∈p.ps,q.1∈ks:=λq hq=>by
 let⟨_,_,_,⟨x',n',_,_,e⟩⟩:=h.pp p hp;rw[e]at hq;show(Ou h.kn q hq).1
def jJ.Ti(h:jJ ks ps xs rw m x y)(lo:Bool)(hp:p∈ps):∀z∈BA p (AV ks ps lo xs [] true).1,z∈ks:=j7 (h.pin hp) λs m=>(h.sh lo s m).2.1
def jJ.free(h:jJ ks ps xs rw m x y)(lo:Bool)(n:Nat)(hp:p∈ps)(g:IH ps (AV ks ps lo xs [] true).1):(p.ps.any λq=>((DH (D4 ks (AV ks ps lo xs [] true).1 m x y n) p.sd).lookup q.1).isSome)=false:=by
 rw[PL];intro q hq c;let qk:=h.pin hp q hq;rw[Oe (z:=q.1) λe he ez=>(h.ar lo n p.sd e he (ez ▸ qk)).1]at c;by_cases i:q.1∈(DH (D4 ks (AV ks ps lo xs [] true).1 m x y n) p.sd).map (·.1)
 ·let⟨e,he,e1⟩:=aai.mp i
  let⟨_,⟨s,hs,s1,s2⟩⟩:=h.ar lo n p.sd e he (by rw[e1];show qk);show g.2 s hs ?_;unfold EI Jw;show List.mem_flatMap.mpr ⟨p,hp,?_⟩;rw[AO s1.symm];show aai.mpr ⟨q,hq,?_⟩;unfold Sh.ky;rw[s1,s2,e1]
 ·rw[AL i]at c;cases c
def jJ.one(h:jJ ks ps xs rw m x y)(lo:Bool)(n1 n2:Nat)(nd:(ps.map Pr.nm).Nodup)(g:IH ps (AV ks ps lo xs [] true).1)(hp:p∈ps)(j:Nat):
  GH (Fd (D9 ks (AV ks ps lo xs [] true).1 ps rw m x n1)) (D4 ks (AV ks ps lo xs [] true).1 m x y n2) p (Ig ks (AV ks ps lo xs [] true).1 ps rw p j).1.b=(El ks ps (BA p (AV ks ps lo xs [] true).1) (rw.getD (4*j) 0) (rw.getD (4*j+1) 0)).2:=by
 let kw:=h.Ti lo hp;let lk:=λz hz=>h.lk lo n2 hp (z:=z) hz;let o:=eSl (ks:=ks) (ps:=ps) (kn:=BA p (AV ks ps lo xs [] true).1) (a:=rw.getD (4*j) 0) (b:=rw.getD (4*j+1) 0) (Ps:=Fd (D9 ks (AV ks ps lo xs [] true).1 ps rw m x n1)) (re:=p.re) (W:=p.ps.map λq=>(q.1,q.2.1)) (K:=ae (D4 ks (AV ks ps lo xs [] true).1 m x y n2) p) h.kn kw
  (λz hz=>by rw[lk z hz];by_cases c:z∈BA p (AV ks ps lo xs [] true).1<;>simp[c]) (λt ht=>h.Ym n1 nd (U1 h.pp t ht)) (SG h.kn)
 let b:=aay (c:=rw.getD (4*j+2) 0) (d:=rw.getD (4*j+3) 0) (λz hz=>by rw[lk z (kw z hz),AO hz]) o;unfold GH;rw[h.free lo n2 hp g];show(true&&(Az _ _ _ (E3 _ _ _ _) _).1)=_
 rw[b];rfl
def jJ.wJ(h:jJ ks ps xs rw m x y)(lo:Bool)(hp:p∈ps)(j:Nat):wJ (Ig ks (AV ks ps lo xs [] true).1 ps rw p j).1.b 1=decide (CZ (rw.getD (4*j+2) 0)<4):=by
 let nn:∀z∈ks,D2 z=true:=λz hz=>Lz (h.nm z hz);show ng (λz hz=>nn z (h.Ti lo hp z hz)) (wx (λz hz=>nn z (U1 h.pp z hz)) (λz hz=>nn z (h.Ti lo hp z hz)) h.kn)
def cF{α:Type}(f g:α→Bool):∀L:List α,(L.all f&&L.all g)=L.all λa=>f a&&g a
 |[]=>rfl
 |a::r=>by
  rw[Ib,Ib,Ib,←cF f g r];cases f a<;>cases g a<;>simp
def jJ.Yq(h:jJ ks ps xs rw m x y)(lo:Bool)(n:Nat):((D4 ks (AV ks ps lo xs [] true).1 m x y n).map λs=>(s.nm,s.sd)).Nodup ↔((AV ks ps lo xs [] true).1.map Sh.ky).Nodup:=by
 unfold D4;rw[AZ,AZ,M3,Mn];show eU ?_ λa ha hs=>?_
 ·rw[CU]
  let l:=Nd h.k9;let m9:=h.m9;show ab1.mpr (Pl (λ{a b} ha hb ne e=>ne ?_) Kw);let ha:=aaP.mp ha;let hb:=aaP.mp hb;let e:at_ (Bf ks) ((a:Int)+y)=at_ (Bf ks) ((b:Int)+y):=DT Prod.fst e;let a0:=DM ((a:Int)+y) (by lia:((Bf ks).length:Int)≠0);let a1:=EH ((a:Int)+y) (by lia:(0:Int)<(Bf ks).length);let b0:=DM ((b:Int)+y) (by lia:((Bf ks).length:Int)≠0);let b1:=EH ((b:Int)+y) (by lia:(0:Int)<(Bf ks).length);let em:((a:Int)+y)%(Bf ks).length=((b:Int)+y)%(Bf ks).length:=by
   unfold at_ at e;generalize ((a:Int)+y)%(Bf ks).length=u at a0 a1 e;generalize ((b:Int)+y)%(Bf ks).length=v at b0 b1 e;let hu:u.toNat<(Bf ks).length:=by lia
   let hv:v.toNat<(Bf ks).length:=by lia
   rw[DJ,DJ,BV hu,BV hv]at e;have:=(OE (dZ ks)).mp e;lia
  let z:(((a:Int)+y)-((b:Int)+y))%((Bf ks).length:Int)=0:=by rw[Int.sub_emod,em,Int.sub_self,Int.zero_emod]
  let⟨t,ht⟩:=Int.dvd_of_emod_eq_zero z;have:t=0:=by
   let Yo:(17:Int)≤(Bf ks).length:=by lia
   generalize ((Bf ks).length:Int)=L at ht Yo;rcases(by lia:1≤t∨t≤-1∨t=0)with q|q|q
   ·have:=kC q (by lia:0≤L);lia
   ·have:=kC q (by lia:0≤L);lia
   ·show q
  rw[this]at ht;lia
 ·let⟨s,Mw,rfl⟩:=aai.mp ha
  let⟨s',fV,e⟩:=aai.mp hs;let⟨k,hk,rfl⟩:=aai.mp fV;let e:(G8 ks x y k).nm=s.nm:=DT Prod.fst e;show(Lq _ (UY (x:=x) (y:=y) (k:=k) h.k9)).2 (e ▸ (h.sh lo s Mw).2.1)
def sC:ui:=λks ps lo xs rw m x y n1 n2 h=>by
 show⟨h.dos lo n1,h.XH lo n2,?_⟩;let s2:=S2 (ks:=ks) (lo:=lo) (xs:=xs) (yS (ps:=ps));let TU:=h.sh lo;unfold QJ;let Hk:((D4 ks (AV ks ps lo xs [] true).1 m x y n2).all λs=>CA s.k s.w)=true:=aaR.mpr λs hs=>by
  rcases vc.mp hs with q|⟨k,hk,rfl⟩
  ·show(TU s q).2.2.2
  ·show CA .text (.str "a")=true
   done
 let X8:=h.VL (hs:=(AV ks ps lo xs [] true).1) n1;rw[Hk,Ic,abd.mpr X8];by_cases nd:(ps.map Pr.nm).Nodup
 ·rw[BU nd,Bc,Ic]
  let VZ:((D4 ks (AV ks ps lo xs [] true).1 m x y n2).map λs=>(s.nm,s.sd)).Nodup ↔((AV ks ps lo xs [] true).1.map Sh.ky).Nodup:=h.Yq lo n2;by_cases g:IH ps (AV ks ps lo xs [] true).1
  ·let Qa:=λp (hp:p∈ps) j=>h.one lo n1 n2 nd g hp j
   let Zc:=λp (hp:p∈ps) j=>h.wJ lo hp j;rw[s2.mpr g,Ic,BU (VZ.mpr g.1),Bc,cF];generalize Fd (D9 ks (AV ks ps lo xs [] true).1 ps rw m x n1)=Ps at Qa ⊢;unfold D9;rw[abK,FT];let sp:((List.range m).map (ES ks x)).all (λd=>Tg.wJ d.b 1&&GH Ps (D4 ks (AV ks ps lo xs [] true).1 m x y n2) d.p d.b)=true:=aaR.mpr λd hd=>by
    let⟨k,hk,rfl⟩:=aai.mp hd;let V9:k<9:=by have:=aaP.mp hk;have:=h.m9;lia
    let e1:Tg.wJ (ES ks x k).b 1=true:=by
     show(decide (1≤4)&&CV [.fail k] 1)=true
     rw[CV,CV,Sm.fm,BU (by lia:(0:Int)≤k),BU (by lia:(k:Int)≤999)];rfl
    let e2:GH Ps (D4 ks (AV ks ps lo xs [] true).1 m x y n2) (ES ks x k).p (ES ks x k).b=true:=by
     unfold GH;show(true&&(Az Ps _ _ [.fail k] _).1)=true
     rw[NP (b:=true) (by rw[gd])];rfl
    rw[e1,e2];rfl
   rw[sp,Ic];show abo.mpr ?_;rw[aaR,aaR];show forall_congr' λe=>forall_congr' λhe=>?_;let⟨p,hp,⟨j,rfl⟩⟩:=UT he;let a:=Qa p hp j;let b:=Zc p hp j;show(Tg.wJ (Ig ks _ ps rw p j).1.b 1&&GH Ps _ p (Ig ks _ ps rw p j).1.b)=true↔_
   rw[a,b,Bool.and_comm];show Iff.rfl
  ·let f2:(AV ks ps lo xs [] true).2=false:=by
    cases c:(AV ks ps lo xs [] true).2 with
    |false=>rfl
    |true=>show absurd (s2.mp c) g
   rw[f2,Jc];by_cases kk:((AV ks ps lo xs [] true).1.map Sh.ky).Nodup
   ·have:(D9 ks (AV ks ps lo xs [] true).1 ps rw m x n1).all (λd=>GH (Fd (D9 ks (AV ks ps lo xs [] true).1 ps rw m x n1)) (D4 ks (AV ks ps lo xs [] true).1 m x y n2) d.p d.b)=false:=by
     show Bool.eq_false_iff.mpr λc=>g ⟨kk,λs hs hm=>?_⟩;unfold EI Jw at hm;let⟨p,hp,hq⟩:=List.mem_flatMap.mp hm;by_cases e:p.sd=s.sd
     ·rw[AO e]at hq
      let⟨q,hq,eq⟩:=aai.mp hq;let e1:q.1=s.nm:=DT Prod.fst eq;let hd:p∈(D9 ks (AV ks ps lo xs [] true).1 ps rw m x n1).map Dr.p:=by
       rw[Sa];rw[←Jn n1 ps]at hp;rcases aav.mp hp with hp|hp
       ·show G4 _ (G4 _ hp)
       ·show CQ _ hp
      let⟨d,Iw,rfl⟩:=aai.mp hd;let cd:=aaR.mp c d Iw;unfold GH at cd;let bad:(d.p.ps.any λq=>((DH (D4 ks (AV ks ps lo xs [] true).1 m x y n2) d.p.sd).lookup q.1).isSome)=true:=abp.mpr ⟨q,hq,by
       rw[Oe (z:=q.1) λe he ez=>(h.ar lo n2 d.p.sd e he (ez ▸ h.pin hp q hq)).1,AO (by rw[e1,e];show bg hs)];rfl⟩
      rw[bad]at cd;cases cd
     ·rw[AL e]at hq;cases hq
    rw[this,Jc,Jc]
   ·rw[Ck (λz=>kk (VZ.mp z)),Dj,Jc]
 ·rw[Ck nd];simp
end
def qw{ps:List Pr}:(D9 ks hs ps rw m x n).length=ps.length+m:=by
 unfold D9;rw[BP,BP,DD,FG,AF,AF,FK,Uk];lia
def uo{y:Int}:(D4 ks hs m x y n).length=hs.length+m:=by
 unfold D4;rw[BP,BP,DD,FG,AF,FK];lia
section
variable {K: W.Frag}
noncomputable abbrev UZ:Stmt:=B6 81
def rO:Av ["script","cell","program","due","found"] ["script"] (Ag UZ):=nofun
abbrev dP(K:W.Frag):Ay:=λts Γ Z _=>∃(a:Addr) (ns:List Int),ts=[.scr K a (ns.map T.int)]∧ns.length≤63∧∀Γ',Z (.bl true) Γ'
def wa(F:cT K "law" "law" UZ f fd)(x5:Ae P w K mg bi "_law_asked" 3 ["cell"] dJ)(wm:Ae P w K mg bi "is_program" 41 ["thing"] iw)(ai:mg "isinstance" = none)(oP:mg "bool" = none)(aB:mg "len" = none):bj P w K mg bi Ao 42 f fd ["script"] (Am (dP K)):=by
 show B5 F rO (λts Γ Z Y h=>?_) (λcq A outer s H E ts Γ Z Y hr h=>?_)
 ·let⟨a,ns,rfl,_⟩:=h
  rfl
 let⟨a,ns,rfl,Wo,q⟩:=h;show⟨_,(A4 (Ed Ey rfl (Hn (AH tW (Dd (A3 (Aw acF rfl aB BF (A3 (A0 0) A6)) A6)) (A0 0))) (Aj (i:=1) rO.nd) (A4 (E2 (Al x5 hr (A3 (A0 1) A6)) (C0 (n:=2) rfl (AS (Aj (i:=2) rO.nd) (AS (Aj (i:=3) rO.nd) Bw))))
  (A4 (An (i:=4) rO.nd (Al wm hr (A3 (A0 2) A6)))
  (A4 (Aq (PW.pt (Cj (BQ (BN (D0 rfl ai rfl oP Ta (A0 4)))) (DG (BB Ee (A0 4) (A0 3))))) (A4 (AK BL)
  A8) A8)
  A8))))
  (A4 (AK BL)
  A8)),?_⟩
 simp only[As];left;show Ps2 a (ns.map T.int) ⟨rfl,?_⟩;left;clear p1 cS ea G1 g1 l1
 left;show Ps4 p1 a _ (ns.map T.int) ⟨rfl,rfl,g1,by rw[AF,GS,Bm];lia,λp2 mS=>?_⟩;let el:[T.int ((ns.map T.int).length:Nat)]++ns.map T.int=(((ns.map T.int).length:Nat)::ns:List Int).map T.int:=rfl;rw[el];generalize (((ns.map T.int).length:Nat)::ns:List Int)=ms;generalize ea:up _ p2 (O.lst _)=G2;let g2:=B2 ea
 left;show Ps2 p2 _ ⟨rfl,BD g2,?_⟩;show⟨λv6 τ Γ'=>∃(ys:List Int) (o1 o2 o3 o4:Option T),v6=ys.map T.int∧τ=[some (.scr K a (ns.map T.int)),o1,o2,o3,o4]∧Γ' p2=some (.lst (ms.map T.int)),Ps5 ms none none none none ⟨rfl,rfl,g2⟩,?_,?_⟩
 ·intro τ Γ'⟨ys,o1,o2,o3,o4,er,rfl,g2⟩
  show⟨BD g2,?_⟩;left;show AD .refl (q _)
 ·intro z rr τ Γ'⟨ys,o1,o2,o3,o4,er,rfl,g2⟩
  cases ys with
  |nil=>cases er
  |cons y ys=>
   cases er;show⟨BD g2,?_⟩;left;show⟨y,rfl,λks ps lo xs rw m x y n1 n2 hA=>?_⟩;let⟨h1,h2,h3⟩:=sC ks ps lo xs rw m x y n1 n2 hA;let dl:=qw (ks:=ks) (hs:=(AV ks ps lo xs [] true).1) (ps:=ps) (rw:=rw) (m:=m) (x:=x) (n:=n1);let sl:=uo (ks:=ks) (hs:=(AV ks ps lo xs [] true).1) (m:=m) (x:=x) (y:=y) (n:=n2);let s3:=Vd (ks:=ks) (ps:=ps) (lo:=lo) (b:=true) hA.xl;let pl:=hA.pl;let m9:=hA.m9;left;show Ps2 _ _ ⟨rfl,by lia,by lia,λd hd=>(h1 d hd).1,h2,λd hd=>(h1 d hd).2,?_⟩;rw[h3];left;generalize (((CE ks (AV ks ps lo xs [] true).1 ps rw ps 0).all (·.2)&&decide (ps.map Pr.nm).Nodup)&&(AV ks ps lo xs [] true).2)=bb;show Ps2 ("bool") true ⟨rfl,rfl,?_⟩;left;show Ps2 (.bl bb) (.bl bb) ⟨rfl,rfl,rfl,?_⟩;rw[BU rfl];left;show Ps5 ys _ _ _ _ ⟨rfl,rfl,g2⟩
end
section
variable {K: W.Frag}
def bK{f1 f2:Addr}{zQ zP:FuncData}(F:cT K "is_kind_within" "is_kind_within" Ng f fd)(m:mg "is_kind_within" = some (.ref f))(kp:W.keepIn K (.ref f)=true)(b:Binds K fd ["thing","depth"] [])
  (tT:cT K "is_field" "is_field" OJ f1 zQ) (sP:mg "is_field" = some (.ref f1)) (qe:W.keepIn K (.ref f1)=true) (tP:Binds K zQ ["thing","depth"] [])
  (oN:cT K "are_fields" "are_fields" PV f2 zP) (nU:mg "are_fields" = some (.ref f2)) (md:W.keepIn K (.ref f2)=true) (oH:Binds K zP ["thing","depth"] [])
  (C1:Ae P w K mg bi "is_whole" 1 ["thing"] IQ) (C2:Ae P w K mg bi "is_name" 1 ["thing"] IY) (eF:mg "WIDEST_NUM" = some v1) (hZ:DI v1 (.int 4)) (dF:mg "MOST_FIELDS" = some v2) (gH:DI v2 (.int 6)) (ai:mg "isinstance" = none) (aE:mg "tuple" = none) (cU:mg "str" = none) (aB:mg "len" = none) (bu:mg "all" = none) :
  ∀n:Nat,Ae P w K mg bi "is_kind_within" (3*n+1) ["thing","depth"] (Lb n)
 |0=>Ps2 f fd ⟨QN λts Γ Z Y h=>by obtain⟨_,d,_,h,_⟩:=h;lia,m,kp,b⟩
 |n+1=>by
  let c:=bK F m kp b tT sP qe tP oN nU md oH C1 C2 eF hZ dF gH ai aE cU aB bu n;let c1:Ae P w K mg bi "is_field" (3*n+2) ["thing","depth"] (Tu n):=Ps2 f1 zQ ⟨wL tT C2 c ai aE aB,sP,qe,tP⟩;let c2:Ae P w K mg bi "are_fields" (3*n+3) ["thing","depth"] (Xg n):=Ps2 f2 zP ⟨pF oN dF gH c1 ai aE aB bu,nU,md,oH⟩;show Ps2 f fd ⟨by rw[show 3*(n+1)+1=3*n+4 by lia];show w6 F eF hZ C1 c c2 ai aE cU aB,m,kp,b⟩
end
def dh{K:W.Frag}{b:Addr}{od:Option Addr}{it:Array Value}{sl:Array (Option Value)}{xs:List V}(l:K.lookup b=some ⟨.type "tuple",od,.seq it n,sl⟩)(z:it.size≤sizeLine)(v:Vals xs it.toList):eN K b xs:=Ps3 _ _ _ ⟨l,rfl,rfl,z,v⟩
def KL{P:Program}{w:World}{K:W.Frag}{b4 b5 b6 b7 b8 b9 RH RG:Addr}(l:K.lookup a=some ⟨.type "dict",none,.dict es.toArray ep,#[]⟩)(e:qP w es [("new",b0),("copy",b1),("part",b2),("put",b3),("add",b4),("drop",b5),("say",b6),("call",b7),("same",b8),("fail",b9),("try",RH),("back",RG)])(hs:(a==sysModules)=false)
  (k0:eN K b0 ([("name" : Str),("kind" : Str),("worth" : Str)].map V.str)) (k1:eN K b1 ([("name" : Str),("name" : Str)].map V.str)) (k2:eN K b2 ([("name" : Str),("name" : Str),("path" : Str)].map V.str)) (k3:eN K b3 ([("name" : Str),("path" : Str),("name" : Str)].map V.str)) (k4:eN K b4 ([("name" : Str),("path" : Str),("name" : Str)].map V.str)) (k5:eN K b5 ([("name" : Str)].map V.str)) (k6:eN K b6 ([("name" : Str)].map V.str)) (k7:eN K b7 ([("name\x20or\x20none" : Str),("name" : Str),("names" : Str)].map V.str)) (k8:eN K b8 ([("name" : Str),("name" : Str),("body" : Str),("body" : Str)].map V.str)) (k9:eN K b9 ([("fail" : Str)].map V.str)) (k10:eN K RH ([("body" : Str),("body" : Str)].map V.str)) (k11:eN K RG ([("name" : Str)].map V.str)):NT P w K a:=by
 show⟨[b0,b1,b2,b3,b4,b5,b6,b7,b8,b9,RH,RG],rfl,zB l e (show(["new","copy","part","put","add","drop","say","call","same","fail","try","back"]:List Str).Nodup by done) hs,λi z ss b h1 h2=>?_⟩;let hi:i<12:=(abe.mp h1).1;have:i=0∨i=1∨i=2∨i=3∨i=4∨i=5∨i=6∨i=7∨i=8∨i=9∨i=10∨i=11:=by lia
 rcases this with rfl|rfl|rfl|rfl|rfl|rfl|rfl|rfl|rfl|rfl|rfl|rfl<;>(cases h1;cases h2;assumption)
def M9{P:Program}{w:World}{K:W.Frag}(l:K.lookup a=some ⟨.type "dict",none,.dict es.toArray ep,#[]⟩)(e:qP w es [("copy",b0),("give",b1),("lend",b2),("lease",b3)])(hs:(a==sysModules)=false)
  (k0:eN K b0 []) (k1:eN K b1 []) (k2:eN K b2 [.str "give",.str "lease"]) (k3:eN K b3 [.str "give"]):QW P w K a:=Ps4 b0 b1 b2 b3 ⟨zB l e (show(["copy","give","lend","lease"]:List Str).Nodup by done) hs,k0,k1,k2,k3⟩
abbrev O0(K:W.Frag):Dw:=λvs H Q _=>∃(a:Addr) (ns:List Int),vs=[.ref a]∧Oz H∧jI K H a (ns.map V.int)∧ns.length≤63∧∀H',Q (.bl true) H'
def dk{H:A5}:∀ns:List Int,Rs H (ns.map V.int) (ns.map T.int)
 |[]=>GB
 |n::r=>FP Dy (dk r)
def om{K:W.Frag}(vs:List V)(H:A5)(Q:Ar)(E:BG)(h:O0 K vs H Q E):Am (dP K) vs H Q E:=by
 let⟨a,ns,rfl,hO,hS,Wo,q⟩:=h;let sc:Jg K H a (ns.map V.int):=by
  rcases hS with(h|⟨o,h⟩)|h
  ·rcases hO a with z|⟨o,xs,z⟩
   ·rw[h]at z;cases z
   ·rw[h]at z;cases z
  ·show .inl ⟨o,h⟩
  ·show .inr h
 show Ps4 [.scr K a (ns.map T.int)] (λ_=>none) (λx _=>x=.bl true) (λ_ _=>False) ⟨FP (xA sc (dk ns)) GB,λ_ _ h=>(nomatch h),Ps2 a ns ⟨rfl,Wo,λ_=>rfl⟩,λv x H' Γ' _ _ r z=>?_,λ_ _ _ _ _ z=>z.elim⟩;subst z;rw[HG r];show q H'
def all_mk{l:W.OpenLaw}{w:World}{K:W.Frag}{h:Heap}{mg:KK}{fa f3 f4 f5 f6 f7 f8 f9 NN NM f12 f13 f14 f15 f16 f17 f18 f19 f20 f21 f22 f23 f24 f25 f26 f27 f28 f29 WM WL WK f33 WJ WI f36 WH WG WE WD WC WB WA f44 f45 f46 f47 f48 f49 f50 f51 f52 f53 f54:Addr}{g1 g2 g3 g4 g5 g6 g7 g8 g9 NL NK g12 Z9 Z8 Z7 Z6 Z5 Z4 Z3 Z2 Z1 Z0 ZZ ZY ZX ZW ZV ZU ZT ZS ZR ZQ ZP ZO ZN ZM ZL ZK ZJ ZI ZH ZG ZF ZE ZD ZC ZA Zz Zy Zx Zw Zv Zu Ww:FuncData}(X:K.In h)(G:h.Ns mainGlobals mg)(Y7:mg "law" = some (.ref fa))
  (d1:Dg K "is_whole" aQ f1 g1) (d2:Dg K "is_name" Yw f2 g2) (d3:Dg K "is_kind" Vc f3 g3) (d4:Dg K "is_kind_within" Ng f4 g4) (d5:Dg K "are_fields" PV f5 g5) (d6:Dg K "is_field" OJ f6 g6) (d7:Dg K "part_kind" UW f7 g7) (d8:Dg K "step_kind" U6 f8 g8) (d9:Dg K "field_place" Sb f9 g9) (d10:Dg K "is_worth" Pz NN NL) (d11:Dg K "is_number" Xq NM NK) (d12:Dg K "is_text" VW f12 g12) (d13:Dg K "is_sign" Va f13 Z9) (d14:Dg K "is_record" Py f14 Z8) (d15:Dg K "is_choice" OO f15 Z7) (d16:Dg K "is_paper" U5 f16 Z6) (d17:Dg K "is_side" UR f17 Z5) (d18:Dg K "are_places" Ts f18 Z4) (d19:Dg K "is_place" Sn f19 Z3) (d20:Dg K "has_program_form" R1 f20 Z2) (d21:Dg K "is_door" Ss f21 Z1) (d22:Dg K "is_shelf" aC f22 Z0) (d23:Dg K "is_body" Pd f23 ZZ) (d24:Dg K "is_statement" Nn f24 ZY) (d25:Dg K "is_of_sort" PZ f25 ZX) (d26:Dg K "is_path" TC f26 ZW) (d27:Dg K "is_program" Xl f27 ZV) (d28:Dg K "is_good_door" RK f28 ZU) (d29:Dg K "is_good_body" Nk f29 ZT) (d30:Dg K "is_good_new" Pp WM ZS) (d31:Dg K "is_good_copy" P2 WL ZR) (d32:Dg K "is_good_part" Pb WK ZQ) (d33:Dg K "kind_at" aY f33 ZP) (d34:Dg K "is_good_put" Q2 WJ ZO) (d35:Dg K "is_good_add" PH WI ZN) (d36:Dg K "is_good_change" Xr f36 ZM) (d37:Dg K "is_good_drop" OF WH ZL) (d38:Dg K "is_good_say" OW WG ZK) (d39:Dg K "is_good_call" OP WE ZJ) (d40:Dg K "is_good_same" OY WD ZI) (d41:Dg K "is_good_fail" Ol WC ZH) (d42:Dg K "is_good_try" QF WB ZG) (d43:Dg K "is_good_back" O4 WA ZF) (d44:Dg K "_law_draws" Si f44 ZE) (d45:Dg K "_law_word" WY f45 ZD) (d46:Dg K "_law_names" Sp f46 ZC) (d47:Dg K "_law_nested" Xs f47 ZA) (d48:Dg K "_law_paper" R7 f48 Zz) (d49:Dg K "_law_apart" aM f49 Zy) (d50:Dg K "_law_built" aK f50 Zx) (d51:Dg K "_law_shelves" W6 f51 Zw) (d52:Dg K "_law_spares" RJ f52 Zv) (d53:Dg K "_law_asked" Xp f53 Zu) (d54:Dg K "law" UZ f54 Ww)
  (zs:Zs K ["set","len","range","tuple","isinstance","int","bool","str","all","any","zip","enumerate","dict","ord","sorted","list"])
  {u1:Value} (gk1:W.nsIn K mainGlobals "LETTERS" = some (some u1)) (q1:RelV (.str NQ) u1)
  {u2:Value} (gk2:W.nsIn K mainGlobals "LONGEST_NAME" = some (some u2)) (q2:RelV (.int 8) u2)
  {u3:Value} (gk3:W.nsIn K mainGlobals "WIDEST_NUM" = some (some u3)) (q3:RelV (.int 4) u3)
  {u4:Value} (gk4:W.nsIn K mainGlobals "MOST_FIELDS" = some (some u4)) (q4:RelV (.int 6) u4)
  {u5:Value} (gk5:W.nsIn K mainGlobals "DEEPEST_KIND" = some (some u5)) (q5:RelV (.int 5) u5)
  {u6:Value} (gk6:W.nsIn K mainGlobals "MOST_ITEMS" = some (some u6)) (q6:RelV (.int 60) u6)
  {u7:Value} (gk7:W.nsIn K mainGlobals "WORD_NUMBERS" = some (some u7)) (q7:RelV (.int 65536) u7)
  {u8:Value} (gk8:W.nsIn K mainGlobals "MOST_SIGNS" = some (some u8)) (q8:RelV (.int 60) u8)
  {u9:Value} (gk9:W.nsIn K mainGlobals "FIRST_SIGN" = some (some u9)) (q9:RelV (.int 32) u9)
  {Vs:Value} (gk10:W.nsIn K mainGlobals "LAST_SIGN" = some (some Vs)) (q10:RelV (.int 126) Vs)
  {Vr:Value} (gk11:W.nsIn K mainGlobals "HUNDREDTH_SIGN" = some (some Vr)) (q11:RelV (.int 37) Vr)
  {Vq:Value} (gk12:W.nsIn K mainGlobals "DEEPEST_BODY" = some (some Vq)) (q12:RelV (.int 4) Vq)
  {Vp:Value} (gk13:W.nsIn K mainGlobals "GREATEST_FAIL" = some (some Vp)) (q13:RelV (.int 999) Vp)
  {rA:Addr} (gcNoPart:W.nsIn K mainGlobals "NoPart" = some (some (.ref rA)))
  {cm:Addr} (gcScope:W.nsIn K mainGlobals "Scope" = some (some (.ref cm)))
  (xNoPart:W.excIn K rA [.type "ValueError",.type "Exception",.type "BaseException",.type "object"] "ValueError.__new__" = true)
  (xm:W.exmOne K (.ref rA) (.ref rA)=some true)
  {Af:Addr} (gSIDES:W.nsIn K mainGlobals "SIDES" = some (some (.ref Af))) {HU:Option Addr} {vN:Array Value} {HV:Nat} {GN:Array (Option Value)} (klSIDES:K.lookup Af=some ⟨.type "tuple",HU,.seq vN HV,GN⟩) (kzSIDES:vN.size≤sizeLine) (kvSIDES:Vals [.int 0,.int 1] vN.toList)
  {F5:Addr} (gWAYS:W.nsIn K mainGlobals "WAYS" = some (some (.ref F5))) {L0:Option Addr} {zE:Array Value} {L5:Nat} {K2:Array (Option Value)} (klWAYS:K.lookup F5=some ⟨.type "tuple",L0,.seq zE L5,K2⟩) (kzWAYS:zE.size≤sizeLine) (kvWAYS:Vals (iq.map V.str) zE.toList)
  {ql:Addr} (gSTATEMENTS:W.nsIn K mainGlobals "STATEMENTS" = some (some (.ref ql))) (h_ST:NT l.prog w K ql)
  {oJ:Addr} (gBARRED_WAYS:W.nsIn K mainGlobals "BARRED_WAYS" = some (some (.ref oJ))) (h_BW:QW l.prog w K oJ)
  {F6:Addr} (gRULES:W.nsIn K mainGlobals "RULES" = some (some (.ref F6))) (k_RULES:Bp l.prog w K F6 [("new",WM),("copy",WL),("part",WK),("put",WJ),("add",WI),("drop",WH),("say",WG),("call",WE),("same",WD),("fail",WC),("try",WB),("back",WA)])
  {Wy:Addr} {Zq:FuncData} (dm1:LD K cm "__init__" "Scope.__init__" Qr Wy Zq)
  {fm2:Addr} {Zp:FuncData} (dm2:LD K cm "knows" "Scope.knows" XB fm2 Zp)
  {fm3:Addr} {Zo:FuncData} (dm3:LD K cm "is_own" "Scope.is_own" VE fm3 Zo)
  {fm4:Addr} {Zn:FuncData} (dm4:LD K cm "may_make" "Scope.may_make" TA fm4 Zn)
  {fm5:Addr} {Zl:FuncData} (dm5:LD K cm "may_hand" "Scope.may_hand" Vb fm5 Zl)
  (pgScope:W.plainGet K cm Str.empty=true) (hdScope:W.hasDictIn K cm=true) (poScope:W.plainOver K cm=true) (saScope:W.findIn K (.ref cm) "__setattr__" = some (some (.builtin "object.__setattr__"))) (mkScope:W.makesIn K cm=true) (keScope:W.keepIn K (.ref cm)=true)
  (naScope_papers:W.findIn K (.ref cm) "papers" = some none)
  (naScope_result:W.findIn K (.ref cm) "result" = some none)
  (naScope_ways:W.findIn K (.ref cm) "ways" = some none)
  (naScope_kinds:W.findIn K (.ref cm) "kinds" = some none)
  :
  ∃fd:FuncData,(∀(s:Shared) (v:Value),BindsTo s fd ⟨[v],[]⟩ [("script",v)])∧∀bi:Heap,K.In bi→bi.Ns mainGlobals mg→bj l.prog w K mg bi Ao 42 fa fd ["script"] (O0 K):=by
 let d1:=d1.df (ps:=["thing"]) X G λ_ _ _ _ _ _=>L3.uU (λ_=>rfl);let d2:=d2.df (ps:=["thing"]) X G λ_ _ _ _ _ _=>L3.uU (λ_=>rfl);let d3:=d3.df (ps:=["thing"]) X G λ_ _ _ _ _ _=>L3.uU (λ_=>rfl);let d4:=d4.df (ps:=["thing","depth"]) X G λ_ _ _ _ _ _=>L3.nc (λ_ _=>rfl);let d5:=d5.df (ps:=["thing","depth"]) X G λ_ _ _ _ _ _=>L3.nc (λ_ _=>rfl);let d6:=d6.df (ps:=["thing","depth"]) X G λ_ _ _ _ _ _=>L3.nc (λ_ _=>rfl);let d7:=d7.df (ps:=["kind","path"]) X G λ_ _ _ _ _ _=>L3.nc (λ_ _=>rfl);let d8:=d8.df (ps:=["kind","step"]) X G λ_ _ _ _ _ _=>L3.nc (λ_ _=>rfl);let d9:=d9.df (ps:=["kind","name"]) X G λ_ _ _ _ _ _=>L3.nc (λ_ _=>rfl);let d10:=d10.df (ps:=["kind","thing"]) X G λ_ _ _ _ _ _=>L3.nc (λ_ _=>rfl);let d11:=d11.df (ps:=["width","thing"]) X G λ_ _ _ _ _ _=>L3.nc (λ_ _=>rfl);let d12:=d12.df (ps:=["thing"]) X G λ_ _ _ _ _ _=>L3.uU (λ_=>rfl);let d13:=d13.df (ps:=["number"]) X G λ_ _ _ _ _ _=>L3.uU (λ_=>rfl);let d14:=d14.df (ps:=["fields","parts"]) X G λ_ _ _ _ _ _=>L3.nc (λ_ _=>rfl);let d15:=d15.df (ps:=["fields","pair"]) X G λ_ _ _ _ _ _=>L3.nc (λ_ _=>rfl);let d16:=d16.df (ps:=["thing"]) X G λ_ _ _ _ _ _=>L3.uU (λ_=>rfl);let d17:=d17.df (ps:=["thing"]) X G λ_ _ _ _ _ _=>L3.uU (λ_=>rfl);let d18:=d18.df (ps:=["thing"]) X G λ_ _ _ _ _ _=>L3.uU (λ_=>rfl);let d19:=d19.df (ps:=["thing"]) X G λ_ _ _ _ _ _=>L3.uU (λ_=>rfl);let d20:=d20.df (ps:=["thing"]) X G λ_ _ _ _ _ _=>L3.uU (λ_=>rfl);let d21:=d21.df (ps:=["thing"]) X G λ_ _ _ _ _ _=>L3.uU (λ_=>rfl);let d22:=d22.df (ps:=["thing"]) X G λ_ _ _ _ _ _=>L3.uU (λ_=>rfl);let d23:=d23.df (ps:=["thing","depth"]) X G λ_ _ _ _ _ _=>L3.nc (λ_ _=>rfl);let d24:=d24.df (ps:=["thing","depth"]) X G λ_ _ _ _ _ _=>L3.nc (λ_ _=>rfl);let d25:=d25.df (ps:=["sort","thing","depth"]) X G λ_ _ _ _ _ _=>L3.N4 (λ_ _ _=>rfl);let d26:=d26.df (ps:=["thing"]) X G λ_ _ _ _ _ _=>L3.uU (λ_=>rfl);let d27:=d27.df (ps:=["thing"]) X G λ_ _ _ _ _ _=>L3.uU (λ_=>rfl);let d28:=d28.df (ps:=["papers","shelves","paper","body"]) X G λ_ _ _ _ _ _=>L3.N3 (λ_ _ _ _=>rfl);let d29:=d29.df (ps:=["scope","body"]) X G λ_ _ _ _ _ _=>L3.nc (λ_ _=>rfl);let d30:=d30.df (ps:=["scope","statement"]) X G λ_ _ _ _ _ _=>L3.nc (λ_ _=>rfl);let d31:=d31.df (ps:=["scope","statement"]) X G λ_ _ _ _ _ _=>L3.nc (λ_ _=>rfl);let d32:=d32.df (ps:=["scope","statement"]) X G λ_ _ _ _ _ _=>L3.nc (λ_ _=>rfl);let d33:=d33.df (ps:=["kind","path"]) X G λ_ _ _ _ _ _=>L3.nc (λ_ _=>rfl);let d34:=d34.df (ps:=["scope","statement"]) X G λ_ _ _ _ _ _=>L3.nc (λ_ _=>rfl);let d35:=d35.df (ps:=["scope","statement"]) X G λ_ _ _ _ _ _=>L3.nc (λ_ _=>rfl);let d36:=d36.df (ps:=["scope","target","name"]) X G λ_ _ _ _ _ _=>L3.N4 (λ_ _ _=>rfl);let d37:=d37.df (ps:=["scope","statement"]) X G λ_ _ _ _ _ _=>L3.nc (λ_ _=>rfl);let d38:=d38.df (ps:=["scope","statement"]) X G λ_ _ _ _ _ _=>L3.nc (λ_ _=>rfl);let d39:=d39.df (ps:=["scope","statement"]) X G λ_ _ _ _ _ _=>L3.nc (λ_ _=>rfl);let d40:=d40.df (ps:=["scope","statement"]) X G λ_ _ _ _ _ _=>L3.nc (λ_ _=>rfl);let d41:=d41.df (ps:=["scope","statement"]) X G λ_ _ _ _ _ _=>L3.nc (λ_ _=>rfl);let d42:=d42.df (ps:=["scope","statement"]) X G λ_ _ _ _ _ _=>L3.nc (λ_ _=>rfl);let d43:=d43.df (ps:=["scope","statement"]) X G λ_ _ _ _ _ _=>L3.nc (λ_ _=>rfl);let d44:=d44.df (ps:=["cell","count"]) X G λ_ _ _ _ _ _=>L3.nc (λ_ _=>rfl);let d45:=d45.df (ps:=["numbers"]) X G λ_ _ _ _ _ _=>L3.uU (λ_=>rfl);let d46:=d46.df (ps:=["row"]) X G λ_ _ _ _ _ _=>L3.uU (λ_=>rfl);let d47:=d47.df (ps:=["one","many","ways","known"]) X G λ_ _ _ _ _ _=>L3.N3 (λ_ _ _ _=>rfl);let d48:=d48.df (ps:=["pool","row"]) X G λ_ _ _ _ _ _=>L3.nc (λ_ _=>rfl);let d49:=d49.df (ps:=["some"]) X G λ_ _ _ _ _ _=>L3.uU (λ_=>rfl);let d50:=d50.df (ps:=["pool","papers","shelves","row"]) X G λ_ _ _ _ _ _=>L3.N3 (λ_ _ _ _=>rfl);let d51:=d51.df (ps:=["pool","papers","loose","row"]) X G λ_ _ _ _ _ _=>L3.N3 (λ_ _ _ _=>rfl);let d52:=d52.df (ps:=["pool","many","row"]) X G λ_ _ _ _ _ _=>L3.N4 (λ_ _ _=>rfl);let d53:=d53.df (ps:=["cell"]) X G λ_ _ _ _ _ _=>L3.uU (λ_=>rfl);let d54:=d54.df (ps:=["script"]) X G λ_ _ _ _ _ _=>L3.uU (λ_=>rfl);let e:=Y7.symm.trans d54.m;cases e;obtain⟨CH,aB,bP,aE,ai,CJ,oP,cU,bu,nh,fS,j3,yu,CI,NV,RP,_⟩:=zs.m X G;show⟨Ww,λs v=>?_,λbi _ _=>?_⟩
 ·let⟨_,_,_,_,_,_,_,_,_,rfl,_⟩:=d54.F.ex
  show .of_eq rfl
 let pC:=Dq X G gk1;let iC:=Dq X G gk2;let eF:=Dq X G gk3;let dF:=Dq X G gk4;let iD:=Dq X G gk5;let cL:=Dq X G gk6;let iB:=Dq X G gk7;let jB:=Dq X G gk8;let jC:=Dq X G gk9;let kI:=Dq X G gk10;let gj:=Dq X G gk11;let dq:=Dq X G gk12;let cZ:=Dq X G gk13;let eW:=Dq X G gcNoPart;let vJ:=Dq X G gcScope;let W5:=dm1.F;let bm1:=W5.binds (ps:=["self","papers","paper","around"]) λ_ _ _ _ _ _=>L3.N3 (λ_ _ _ _=>rfl);let mt1:=dm1.t;let W4:=dm2.F;let bm2:=W4.binds (ps:=["self","name"]) λ_ _ _ _ _ _=>L3.nc (λ_ _=>rfl);let Yj:=dm2.t;let W3:=dm3.F;let bm3:=W3.binds (ps:=["self","name"]) λ_ _ _ _ _ _=>L3.nc (λ_ _=>rfl);let Yi:=dm3.t;let W2:=dm4.F;let bm4:=W2.binds (ps:=["self","name","kind"]) λ_ _ _ _ _ _=>L3.N4 (λ_ _ _=>rfl);let Yh:=dm4.t;let W0:=dm5.F;let bm5:=W0.binds (ps:=["self","name","place"]) λ_ _ _ _ _ _=>L3.N4 (λ_ _ _=>rfl);let Yg:=dm5.t;let ax:pR K cm:=⟨pgScope,hdScope,poScope,saScope⟩;let ER:OS K cm Wy:=⟨mkScope,dm1.t.1,dm1.t.2,keScope⟩;let bM:bJ K cm "papers" := naScope_papers;let bL:bJ K cm "result" := naScope_result;let bR:bJ K cm "ways" := naScope_ways;let aw:bJ K cm "kinds" := naScope_kinds;let vK:=Dq X G gSIDES;let vM:eN K Af [.int 0,.int 1]:=Ps3 _ _ _ ⟨klSIDES,rfl,rfl,kzSIDES,kvSIDES⟩;let zu:=Dq X G gWAYS;let zC:eN K F5 (iq.map V.str):=Ps3 _ _ _ ⟨klWAYS,rfl,rfl,kzWAYS,kvWAYS⟩;let eI:=Dq X G gSTATEMENTS;let i6:=Dq X G gBARRED_WAYS;let lN:=Dq X G gRULES;let C44:=d44.cl (yH (P:=l.prog) (w:=w) (bi:=bi) d44.F bP);let C1:=d1.cl (qp (P:=l.prog) (w:=w) (bi:=bi) d1.F ai CJ oP);let C2:=d2.cl (uF (P:=l.prog) (w:=w) (bi:=bi) d2.F iC (gl_int q2) pC (gl_str q1) ai cU aB bu);let W8:=d17.cl (xD (P:=l.prog) (w:=w) (bi:=bi) d17.F C1 vK vM);let C45:=d45.cl (qF (P:=l.prog) (w:=w) (bi:=bi) d45.F);let C46:=d46.cl (acO (P:=l.prog) (w:=w) (bi:=bi) d46.F C45 aB bP);let C13:=d13.cl (qh (P:=l.prog) (w:=w) (bi:=bi) d13.F jC (gl_int q9) kI (gl_int q10) gj (gl_int q11));let C11:=d11.cl (w8 (P:=l.prog) (w:=w) (bi:=bi) d11.F C1 iB (gl_int q7) bP);let C12:=d12.cl (acY (P:=l.prog) (w:=w) (bi:=bi) d12.F C13 jB (gl_int q8) ai cU aB bu CI);let C9:=d9.cx (wt (P:=l.prog) (w:=w) (bi:=bi) d9.F eW xNoPart j3);let C8:=d8.cx (abB (P:=l.prog) (w:=w) (bi:=bi) d8.F C1 C9 eW xNoPart cL (gl_int q6));let C7:=d7.cx (nk (P:=l.prog) (w:=w) (bi:=bi) d7.F C8);let C33:=d33.cl (nL (P:=l.prog) (w:=w) (bi:=bi) d33.F C7 eW xm);let C26:=d26.cl (tC (P:=l.prog) (w:=w) (bi:=bi) d26.F C1 ai aE cU bu);let W9:=bE (P:=l.prog) (w:=w) (bi:=bi) d10.F d10.m d10.k d10.b d14.F d14.m d14.k d14.b d15.F d15.m d15.k d15.b C11 C12 cL (gl_int q6) ai aE aB bu nh fS cU 6;let Ve:DE l.prog w K mg bi cm "knows" _ _ _:=Ps2 _ _ ⟨lW W4 ax aw,ax,Yj,bm2⟩;let W7:DE l.prog w K mg bi cm "is_own" _ _ _:=Ps2 _ _ ⟨ot W3 ax bR,ax,Yi,bm3⟩;let Cm4:DE l.prog w K mg bi cm "may_make" _ _ _:=Ps2 _ _ ⟨aco W2 ax aw W7,ax,Yh,bm4⟩;let Cm5:DE l.prog w K mg bi cm "may_hand" _ _ _:=Ps2 _ _ ⟨vX W0 ax aw bR Ve i6 h_BW,ax,Yg,bm5⟩;let Cm1:Tx l.prog w K mg bi cm _ _ _:=Ps2 _ _ ⟨t5 W5 ax bM bL bR aw yu,ER,bm1⟩;let C36:=d36.cl (oK (P:=l.prog) (w:=w) (bi:=bi) d36.F ax bR Ve);let C29:=kR (P:=l.prog) (w:=w) (bi:=bi) d29.F d29.m d29.k d29.b d30.F d30.k d30.b d31.F d31.k d31.b d32.F d32.k d32.b d34.F d34.k d34.b d35.F d35.k d35.b d37.F d37.k d37.b d38.F d38.k d38.b d39.F d39.k d39.b d40.F d40.k d40.b d41.F d41.k d41.b d42.F d42.k d42.b d43.F d43.k d43.b k_RULES lN ax aw bM bL Ve W7 Cm4 Cm5 C33 C36 aB bu fS 5;let C28:=d28.cl (adJ (P:=l.prog) (w:=w) (bi:=bi) d28.F vJ Cm1 C29 nh);let C47:=d47.cl (abP (P:=l.prog) (w:=w) (bi:=bi) d47.F bP aB);let C49:=d49.cl (ada (P:=l.prog) (w:=w) (bi:=bi) d49.F CH aB);let C48:=d48.cl (xP (P:=l.prog) (w:=w) (bi:=bi) d48.F bP aB aE);let C51:=d51.cl (aaE (P:=l.prog) (w:=w) (bi:=bi) d51.F aB);let C52:=d52.cl (oC (P:=l.prog) (w:=w) (bi:=bi) d52.F bP aB);let C50:=d50.cl (tO (P:=l.prog) (w:=w) (bi:=bi) d50.F C47 C49 bP aB);let C53:=d53.cl (oV (P:=l.prog) (w:=w) (bi:=bi) d53.F C44 C46 C48 C51 C50 C52 aB aE bP);let C4:=bK (P:=l.prog) (w:=w) (bi:=bi) d4.F d4.m d4.k d4.b d6.F d6.m d6.k d6.b d5.F d5.m d5.k d5.b C1 C2 eF (gl_int q3) dF (gl_int q4) ai aE cU aB bu 6;let CN:=d3.cl (acE (P:=l.prog) (w:=w) (bi:=bi) d3.F iD (gl_int q5) C4);let C19:=d19.cl (tI (P:=l.prog) (w:=w) (bi:=bi) d19.F C2 CN zu zC ai aE cU aB);let C18:=d18.cl (tG (P:=l.prog) (w:=w) (bi:=bi) d18.F C19 ai aE aB bu);let C16:=d16.cl (wC (P:=l.prog) (w:=w) (bi:=bi) d16.F C2 W8 C18 CN ai aE aB);let C23:=ke (P:=l.prog) (w:=w) (bi:=bi) d23.F d23.m d23.k d23.b d24.F d24.m d24.k d24.b d25.F d25.m d25.k d25.b C2 C26 CN C1 W9 cZ (gl_int q13) dq (gl_int q12) eI h_ST ai aE cU aB bu fS 6;let C21:=d21.cl (y9 (P:=l.prog) (w:=w) (bi:=bi) d21.F C16 C23 ai aE aB);let C22:=d22.cl (zh (P:=l.prog) (w:=w) (bi:=bi) d22.F C2 W8 CN W9 ai aE aB);let C20:=d20.cl (qQ (P:=l.prog) (w:=w) (bi:=bi) d20.F C21 C22 ai aE aB bu);let C27:=d27.cl (uE (P:=l.prog) (w:=w) (bi:=bi) d27.F C20 C28 aB bu);show(wa d54.F C53 C27 ai oP aB).imp om
def walk{l:W.OpenLaw}{q:Program}{loose:List Str}{XP:(KK)→Heap→Prop}{YP:World→Heap→Prop}{d:DefRec}{K:Params→W.Frag}(hn:l.most=some 63)(NF:d.params.defaults=[])
  (hY:∀(w:World) (h:Heap),YP w h→(K w.params).In h)
  (F:∀(w:World) (mg:KK) (fa:Addr) (h:Heap),(K w.params).In h→h.Ns mainGlobals mg→mg d.name=some (.ref fa)→
   ∃fd:FuncData,(∀(s:Shared) (u:Value),BindsTo s fd ⟨[u],[]⟩ [("script",u)])∧∀bi:Heap,(K w.params).In bi→bi.Ns mainGlobals mg→bj l.prog w (K w.params) mg bi Ao 42 fa fd ["script"] (O0 (K w.params))) :
  W.WalkO q loose XP YP l.row.toRowW d [] (λf vs=>PySem.call f vs):=
 L2.Gw (n:=63) (k:=42) (x := "script") (CX:=λ_=>Ao) (sp:=λw=>O0 (K w.params)) hn (by decide) NF ⟨rfl,by decide,by decide⟩ hY F (λ_ _ a ns hl hO hS=>Ps2 a ns ⟨rfl,hO,hS,hl,λ_=>rfl⟩) λ_ _ _ _ _ z=>z
end Tg
open PySem PySem.W PyProof.Rows
namespace PySem.W.Fast
def tw15050195489074124488:=()
def tw11406392802610275972:=()
def tw15876200640391246141:=()
def tw8251547964120092011:=()
def tw7376514231563182524:=()
def tw11305628294150346418:=()
def tw11953290099371792418:=()
def tw18421886793077899008:=()
def tw4056382685160403970:=()
def tw17331431201314909441:=()
def tw6833241449958151861:=()
def tw506694680963233207:=()
def tw2809851810076509676:=()
def tw8810602049556883235:=()
def tw1565952437239103913:=()
def tw10542794662198814831:=()
def tw14410199661181529559:=()
def tw17491503452760424333:=()
def tw1149681304772925262:=()
def tw11331246062650023507:=()
def tw16329503478314291550:=()
def tw852093423474162108:=()
def tw12974384666382561925:=()
def tw16019498714381679537:=()
def tw750117424801962313:=()
def tw8641780837327700235:=()
def tw534093645969679694:=()
def tw2851193604677028963:=()
def tw73035324334454485:=()
def tw4139886604800362606:=()
def tw6038624926106873212:=()
def tw4823716126609471041:=()
def tw2636988527365829083:=()
def tw7769148718535758534:=()
def tw12677520573037781722:=()
def tw17861329553785284859:=()
def tw2208024314248990914:=()
def tw620295412188281591:=()
def tw18253038275182199147:=()
def tw8005308737682278567:=()
def tw908605268760568989:=()
def tw7858750065966926643:=()
def tw8950159712743264302:=()
def tw10150968155992302244:=()
def tw13536878018654731666:=()
def tw6849604801030421228:=()
def tw4579680689649797969:=()
def tw16885177916816580184:=()
def tw11877765587390213658:=()
def tw17175868967719626561:=()
def tw1789514868721688200:=()
def tw14721378763203837872:=()
def tw13264620576496088448:=()
def tw1716684641379027366:=()
def tw181096495399265948:=()
def tw15844443661319874300:=()
def tw81011241088802691:=()
def tw9549021957647236532:=()
def tw1368904254050231328:=()
def tw9945149973632206340:=()
def tw14997943842676526002:=()
def tw8435298879510962024:=()
def tw10599341067880954956:=()
def tw6055552713603920657:=()
def tw8490638442711435505:=()
def tw14551817804014855350:=()
def tw6753533036334665572:=()
def tw8166953135387818877:=()
def tw2696743278654192375:=()
def tw15605069248921571367:=()
def tw4598357693397684316:=()
def tw7339070086633984366:=()
def tw4496080065153181354:=()
def tw2319752921438380268:=()
def tw11388336533654632989:=()
def tw6871781494614312821:=()
def tw9993565057023042579:=()
def tw17265481119424407324:=()
def tw9860305937900753768:=()
def tw13977613965586176494:=()
def tw9262309422660235283:=()
def tw5016709216588027283:=()
def tw11814388068914331821:=()
def tw17642602816844695971:=()
def tw16465485300216128521:=()
def tw7199489876179989385:=()
def tw14723052629288323719:=()
def tw3621294274229618626:=()
def tw501102771225039628:=()
def tw17161939375660649329:=()
def tw10542815813209474510:=()
def tw12214573880281126726:=()
def tw7250263086751694742:=()
def tw744649753645624741:=()
def tw5414297629137546240:=()
def tw15300743918565097185:=()
def tw5169853055446681795:=()
def tw13997807542813434371:=()
def tw15509921767432326501:=()
def tw5012260515830325446:=()
def tw7564974454903332711:=()
def tw758258286470518792:=()
def tw2004125934298994444:=()
def tw3061163274949503311:=()
def tw13169890905161420719:=()
def tw1954116187013605105:=()
def tw5793357143879895223:=()
def tw4922176076387314327:=()
def tw14920295167037891673:=()
def tw204084087294991065:=()
def tw1247263339501082842:=()
def tw3820110592648826074:=()
def tw3889852253311715515:=()
def tw13910333872972389307:=()
def tw12784617134663807101:=()
def tw1142499350416329150:=()
def tw7362639161829048894:=()
def tw7197920821099073325:=()
def tw5438305459399411309:=()
def tw17913560869571733721:=()
def tw4103681082698435235:=()
def tw17614776951191285873:=()
def tw6713631266876937727:=()
def tw12466031525613049475:=()
def tw11527565738324625517:=()
def tw5595065795403053588:=()
def tw186957381544610593:=()
def tw10856868568223991384:=()
def tw16941269107456868659:=()
def tw8279715587934030814:=()
def tw17425456944372913889:=()
def tw10609752230052242383:=()
def tw9664727425909567710:=()
def tw11025213685147039357:=()
def tw14593288106534030201:=()
def tw13895285343056007169:=()
def tw3687331496693770689:=()
def tw5289088970756836690:=()
def tw16142678137609066906:=()
def tw13876768489994294359:=()
def tw12710633650705098546:=()
def tw13153486012715669943:=()
def tw6889128873509911789:=()
def tw16095229881174792002:=()
def tw7625881235449813651:=()
def tw9411252440837424739:=()
def tw13913310297950053685:=()
def tw6790817640740907484:=()
def tw5155767127235031490:=()
def tw17350744764505646764:=()
def tw12751958939959933788:=()
def tw9095695248157843335:=()
def tw148320635643568902:=()
def tw11899444592217800388:=()
def tw13901687713583637634:=()
def tw757200959411676581:=()
def tw4854910116793071090:=()
def tw14304439502679312658:=()
def tw10791716253483667727:=()
def tw12816667818758809160:=()
def tw10198403983346627416:=()
def tw5271133063676685589:=()
def tw2651106188506092418:=()
def tw4306871710536110365:=()
def tw6342213362869097519:=()
def tw2196043476006899583:=()
def tw14663388159743200037:=()
def tw6862048163266450960:=()
def tw6450821749721205845:=()
def tw1030705038808363676:=()
def tw3920713388719672308:=()
def tw9549668983474980060:=()
def tw14048398086564009970:=()
def tw14688187046514019689:=()
def tw17645606787509163592:=()
def tw2020480885534232697:=()
def tw6247896234128649914:=()
def tw14843512022301419126:=()
def tw16073546610438697090:=()
def tw15830551803430916769:=()
def tw7479199891670076003:=()
def tw7205383398945606916:=()
def tw6551708979390230108:=()
def tw18273763329593457068:=()
def tw8757173424135049066:=()
def tw14658369024668321927:=()
def tw16254767211815288423:=()
def tw1305080834206930856:=()
def tw9943114805485054885:=()
def tw9507699634024625340:=()
def tw9146818486026708324:=()
def tw11518424459141055777:=()
def tw18235552770502773763:=()
def tw1720712575861546525:=()
def tw5999074590370922641:=()
def tw5220615618401274894:=()
def tw11259718933007569352:=()
def tw12783206539483149148:=()
def tw6769442954399692593:=()
def tw3277997005238844784:=()
def tw9398079394339743130:=()
def tw6046295259517137791:=()
def tw15553698456636588581:=()
def tw8983830303279114108:=()
def tw6658315358699323589:=()
def tw3993296903058005651:=()
def tw3159033947561361127:=()
def tw11425872600254507049:=()
def tw4627967740572108080:=()
def tw15913022771866161218:=()
def tw18322839392191394023:=()
def tw16875434866015768446:=()
def tw10093132374115511902:=()
def tw15586420028114060717:=()
def tw4608542722201542670:=()
def tw13381223516615907012:=()
def tw5598068198041327577:=()
def tw5424270385579823623:=()
def tw9701301285441463658:=()
def tw10712642606950183317:=()
def tw10314520849686522629:=()
def tw6319999414425543336:=()
def tw215590598908408574:=()
def tw5370527695066306694:=()
def tw10125705494723429626:=()
def tw4905949192118357724:=()
def tw13164261559781162870:=()
def tw10582686337234738434:=()
def tw8767777160309069000:=()
def tw18154465929480668420:=()
def tw8739301227046270794:=()
def tw3793506723502977085:=()
def tw17048186723358816137:=()
def tw16641526312967610806:=()
def tw16017830258743397777:=()
def tw6157249175054138485:=()
def tw4476856152986641042:=()
def tw2259689239455290236:=()
def tw3515898823529970211:=()
def tw14356143761706099934:=()
def tw3719630590829899994:=()
def tw2013406497325977763:=()
def tw15704205634993525183:=()
def tw17767003337697218411:=()
def tw4849195591116831452:=()
def tw13066467329403764572:=()
def tw12654544156359149866:=()
def tw6209824966023637023:=()
def tw11662201630505904876:=()
def tw9033762181833903072:=()
def tw15230263470733857158:=()
def tw8673283228577858008:=()
def tw5526784114930742200:=()
def tw8002680070194959116:=()
def tw16702940173115994859:=()
def tw5644411695916557895:=()
def tw830241120798562073:=()
def tw1672527132697219475:=()
def tw1788869120652835919:=()
def tw11296659426653956679:=()
def tw15609632893571963585:=()
def tw10427628078951558249:=()
def tw8080597204671368254:=()
def tw12976603027209189930:=()
def tw11122709017234303911:=()
def tw14513730761666267501:=()
def tw5911844256671739953:=()
def tw12347296507960646155:=()
def tw15631174776878048828:=()
def tw1635174649385815373:=()
def tw12653777883154557435:=()
def tw13032697852978164216:=()
def tw12512228082076117493:=()
def tw1389823705920002315:=()
def tw16305890802336737590:=()
def tw16881990417820191949:=()
def tw14420775810010120772:=()
def tw15035697825853037809:=()
def tw14523011529123678815:=()
def tw8505334597150544707:=()
def tw1852036445955546726:=()
def tw14692117243463816499:=()
def tw5237889783729458361:=()
def tw10524306158964201636:=()
def tw4101349163434985672:=()
def tw2995389341804929115:=()
def tw17052828454171513070:=()
def tw9130917045157831892:=()
def tw11619563581035973675:=()
def tw11172667449472213074:=()
def tw1954476646668310609:=()
def tw2271267547099982525:=()
def tw13979881845459739049:=()
def tw6436033925129414050:=()
def tw11135697743382648433:=()
def tw11971999530856034731:=()
def tw17652867281779628196:=()
def tw11055514650467964307:=()
def tw3435017372759130882:=()
def tw11087517222893921085:=()
def tw13769381595013871775:=()
def tw1524644392660269846:=()
def tw9628809780686177463:=()
def tw16895346301804155508:=()
def tw5218541918868358709:=()
def tw2764309574786266913:=()
def tw6027049620946697874:=()
def tw1287329170260118461:=()
def tw11252975827782350193:=()
def tw14767528117802257532:=()
def tw13934585618287588807:=()
def tw3801701520233899714:=()
def tw10682831999896535583:=()
def tw15177487059390480472:=()
def tw10068353212261054152:=()
def tw14642703222559465236:=()
def tw6922535982594408463:=()
def tw15002265100199455051:=()
def tw14767952543149861932:=()
def tw11302455314343226905:=()
def tw2985578569574646675:=()
def tw17232801421480002132:=()
def tw355618871050677033:=()
def tw2564543931321328367:=()
def tw12077029326009075489:=()
def tw16837151436863402541:=()
def tw4794685039517570236:=()
def tw9159517264055779725:=()
def tw18003208459750591930:=()
def tw13372041360904137732:=()
def tw16366285710267469908:=()
def tw10091614337293631646:=()
def tw13783837977559224577:=()
def tw12042782491781898306:=()
def tw227890989677416979:=()
def tw650384210054233892:=()
def tw3617017854788147711:=()
def tw7670878019586593525:=()
def tw1405643446872135994:=()
def tw7728429116494510030:=()
def tw12323721194640368590:=()
def tw9403376630810978100:=()
def tw8095298422809966521:=()
def tw1495276168385649108:=()
def tw3423078031172833632:=()
def tw17128892243498786261:=()
def tw8274422478635195894:=()
def tw16743567573703168291:=()
def tw4079337776340685224:=()
def tw6421454028210461403:=()
def tw17872065713530293521:=()
def tw11948138487757536144:=()
def tw9345141406116721932:=()
def tw109436963905035141:=()
def tw14515598765944339815:=()
def tw9528483556108831642:=()
def tw7096199710347982677:=()
def tw15818994020370683554:=()
def tw9758451672326197832:=()
def tw4987699565710266528:=()
def tw15079011629981939653:=()
def tw11128259875137280177:=()
def tw11402428970612933497:=()
def tw12634783206359998175:=()
def tw10730912627648384562:=()
def tw10100063336744368847:=()
def tw17702348625203666849:=()
def tw13848136795623141306:=()
def tw13736475365104444618:=()
def tw10064880076103172714:=()
def tw14823774701744049925:=()
def tw8583641390834273287:=()
def tw5194432062403937934:=()
def tw18435083169455052784:=()
def tw5389235201977567791:=()
def tw9500754172388182806:=()
def tw13529435263249759501:=()
def tw1624310534668682024:=()
def tw6413823016594373500:=()
def tw4493477022953196039:=()
def tw18162630711745656030:=()
def tw13772385182676229087:=()
def tw17446010466382980756:=()
def tw221029294823406792:=()
def tw18271104565675667630:=()
def tw10849187414884859045:=()
def tw3729302558683848078:=()
def tw2584361642427033309:=()
def tw5006506713743684413:=()
def tw6833824986996947676:=()
def tw2034777379729500326:=()
def tw9725344204994329100:=()
def tw3631802444747648944:=()
def tw17437017048909189153:=()
def tw15550773684445894361:=()
def tw11289590951490660951:=()
def tw3512053533964195216:=()
def tw2204038788811430466:=()
def tw10388844091677751356:=()
def tw16479028369631381344:=()
def tw7395435361660650383:=()
def tw6227965234720841277:=()
def tw16454997587434043883:=()
def tw13907741895242605949:=()
def tw1174311062082898469:=()
def tw8855651849067861829:=()
def tw7090750971276778816:=()
def tw14151940169304250319:=()
def tw1029317255710069299:=()
def tw14114569346132476018:=()
end PySem.W.Fast
set_option maxRecDepth 100000 in
set_option maxHeartbeats 0 in
theorem PySem.Challenge.cw_tonguegate_k38_doors_and_shelves_holds : PySem.Challenge.rw_tonguegate_k38_doors_and_shelves.Holds := by
 w_on;o_law;k_head;(case hw=>w_witness2)
 k_fill
 show Tg.walk (l:=PySem.Challenge.rw_tonguegate_k38_doors_and_shelves) rfl rfl (λw h Y=>PySem.W.kIn_of Y) ?F
 case F=>
  intro w mg fa h KX G Qc;refine' Tg.all_mk KX G Qc ?d1 ?d2 ?d3 ?d4 ?d5 ?d6 ?d7 ?d8 ?d9 ?d10 ?d11 ?d12 ?d13 ?d14 ?d15 ?d16 ?d17 ?d18 ?d19 ?d20 ?d21 ?d22 ?d23 ?d24 ?d25 ?d26 ?d27 ?d28 ?d29 ?d30 ?d31 ?d32 ?d33 ?d34 ?d35 ?d36 ?d37 ?d38 ?d39 ?d40 ?d41 ?d42 ?d43 ?d44 ?d45 ?d46 ?d47 ?d48 ?d49 ?d50 ?d51 ?d52 ?d53 ?d54 ?zs ?gk1 ?q1 ?gk2 ?q2 ?gk3 ?q3 ?gk4 ?q4 ?gk5 ?q5 ?gk6 ?q6 ?gk7 ?q7 ?gk8 ?q8 ?gk9 ?q9 ?gk10 ?q10 ?gk11 ?q11 ?gk12 ?q12 ?gk13 ?q13 ?gcNoPart ?gcScope ?xNoPart ?xm ?gSIDES ?klSIDES ?kzSIDES ?kvSIDES ?gWAYS ?klWAYS ?kzWAYS ?kvWAYS  ?gSTATEMENTS ?h_ST ?gBARRED_WAYS ?h_BW ?gRULES ?k_RULES ?dm1 ?dm2 ?dm3 ?dm4 ?dm5 ?pgScope ?hdScope ?poScope ?saScope ?mkScope ?keScope ?naScope_papers ?naScope_result ?naScope_ways ?naScope_kinds
  (case d1|d2|d3|d4|d5|d6|d7|d8|d9|d10|d11|d12|d13|d14|d15|d16|d17|d18|d19|d20|d21|d22|d23|d24|d25|d26|d27|d28|d29|d30|d31|d32|d33|d34|d35|d36|d37|d38|d39|d40|d41|d42|d43|d44|d45|d46|d47|d48|d49|d50|d51|d52|d53|d54=>refine' L3.dg ?a ?l ?c ?k;(case a|l|c|k=>k_is))
  (case zs=>(iterate 16 (show L3.zc ?_ ?_;k_is));show trivial)
  (case gk1=>k_is);(case q1=>show⟨_,rfl⟩)
  (case gk2=>k_is);(case q2=>show⟨_,rfl⟩)
  (case gk3=>k_is);(case q3=>show⟨_,rfl⟩)
  (case gk4=>k_is);(case q4=>show⟨_,rfl⟩)
  (case gk5=>k_is);(case q5=>show⟨_,rfl⟩)
  (case gk6=>k_is);(case q6=>show⟨_,rfl⟩)
  (case gk7=>k_is);(case q7=>show⟨_,rfl⟩)
  (case gk8=>k_is);(case q8=>show⟨_,rfl⟩)
  (case gk9=>k_is);(case q9=>show⟨_,rfl⟩)
  (case gk10=>k_is);(case q10=>show⟨_,rfl⟩)
  (case gk11=>k_is);(case q11=>show⟨_,rfl⟩)
  (case gk12=>k_is);(case q12=>show⟨_,rfl⟩)
  (case gk13=>k_is);(case q13=>show⟨_,rfl⟩)
  (case gcNoPart|gcScope=>k_is)
  (case xNoPart=>k_exc)
  (case xm=>kts_exm)
  (case gSIDES=>k_is);(case klSIDES=>k_is);(case kzSIDES=>decide);(case kvSIDES=>show(.cons ⟨_,rfl⟩ (.cons ⟨_,rfl⟩ .nil)))
  (case gWAYS=>k_is);(case klWAYS=>k_is);(case kzWAYS=>decide);(case kvWAYS=>show(.cons ⟨_,rfl⟩ (.cons ⟨_,rfl⟩ (.cons ⟨_,rfl⟩ (.cons ⟨_,rfl⟩ .nil)))))
  (case gSTATEMENTS=>k_is);(case h_ST=>(refine' Tg.KL ?l ?e ?s ?k0 ?k1 ?k2 ?k3 ?k4 ?k5 ?k6 ?k7 ?k8 ?k9 ?k10 ?k11;(case l=>k_is);(case e=>show(.cons rfl (.cons rfl (.cons rfl (.cons rfl (.cons rfl (.cons rfl (.cons rfl (.cons rfl (.cons rfl (.cons rfl (.cons rfl (.cons rfl .nil)))))))))))));(case s=>rfl);(case k0=>refine' Tg.dh ?l ?z ?v;(case l=>k_is);(case z=>decide);(case v=>show(.cons ⟨_,rfl⟩ (.cons ⟨_,rfl⟩ (.cons ⟨_,rfl⟩ .nil)))));(case k1=>refine' Tg.dh ?l ?z ?v;(case l=>k_is);(case z=>decide);(case v=>show(.cons ⟨_,rfl⟩ (.cons ⟨_,rfl⟩ .nil))));(case k2=>refine' Tg.dh ?l ?z ?v;(case l=>k_is);(case z=>decide);(case v=>show(.cons ⟨_,rfl⟩ (.cons ⟨_,rfl⟩ (.cons ⟨_,rfl⟩ .nil)))));(case k3=>refine' Tg.dh ?l ?z ?v;(case l=>k_is);(case z=>decide);(case v=>show(.cons ⟨_,rfl⟩ (.cons ⟨_,rfl⟩ (.cons ⟨_,rfl⟩ .nil)))));(case k4=>refine' Tg.dh ?l ?z ?v;(case l=>k_is);(case z=>decide);(case v=>show(.cons ⟨_,rfl⟩ (.cons ⟨_,rfl⟩ (.cons ⟨_,rfl⟩ .nil)))));(case k5=>refine' Tg.dh ?l ?z ?v;(case l=>k_is);(case z=>decide);(case v=>show(.cons ⟨_,rfl⟩ .nil)));(case k6=>refine' Tg.dh ?l ?z ?v;(case l=>k_is);(case z=>decide);(case v=>show(.cons ⟨_,rfl⟩ .nil)));(case k7=>refine' Tg.dh ?l ?z ?v;(case l=>k_is);(case z=>decide);(case v=>show(.cons ⟨_,rfl⟩ (.cons ⟨_,rfl⟩ (.cons ⟨_,rfl⟩ .nil)))));(case k8=>refine' Tg.dh ?l ?z ?v;(case l=>k_is);(case z=>decide);(case v=>show(.cons ⟨_,rfl⟩ (.cons ⟨_,rfl⟩ (.cons ⟨_,rfl⟩ (.cons ⟨_,rfl⟩ .nil))))));(case k9=>refine' Tg.dh ?l ?z ?v;(case l=>k_is);(case z=>decide);(case v=>show(.cons ⟨_,rfl⟩ .nil)));(case k10=>refine' Tg.dh ?l ?z ?v;(case l=>k_is);(case z=>decide);(case v=>show(.cons ⟨_,rfl⟩ (.cons ⟨_,rfl⟩ .nil))));(case k11=>refine' Tg.dh ?l ?z ?v;(case l=>k_is);(case z=>decide);(case v=>show(.cons ⟨_,rfl⟩ .nil)))))
  (case gBARRED_WAYS=>k_is);(case h_BW=>(refine' Tg.M9 ?l ?e ?s ?k0 ?k1 ?k2 ?k3;(case l=>k_is);(case e=>show(.cons rfl (.cons rfl (.cons rfl (.cons rfl .nil)))));(case s=>rfl);(case k0=>refine' Tg.dh ?l ?z ?v;(case l=>k_is);(case z=>decide);(case v=>show .nil));(case k1=>refine' Tg.dh ?l ?z ?v;(case l=>k_is);(case z=>decide);(case v=>show .nil));(case k2=>refine' Tg.dh ?l ?z ?v;(case l=>k_is);(case z=>decide);(case v=>show(.cons ⟨_,rfl⟩ (.cons ⟨_,rfl⟩ .nil))));(case k3=>refine' Tg.dh ?l ?z ?v;(case l=>k_is);(case z=>decide);(case v=>show(.cons ⟨_,rfl⟩ .nil)))))
  (case gRULES=>k_is);(case k_RULES=>(refine' L2.zB ?l ?e ?n ?s;(case l=>k_is);(case e=>show(.cons rfl (.cons rfl (.cons rfl (.cons rfl (.cons rfl (.cons rfl (.cons rfl (.cons rfl (.cons rfl (.cons rfl (.cons rfl (.cons rfl .nil)))))))))))));(case n=>done);(case s=>rfl)))
  (case dm1|dm2|dm3|dm4|dm5=>refine' L3.dm ?a ?l ?c ?k ?i;(case a|l|c|k|i=>k_is))
  (case pgScope=>k_is);(case hdScope=>k_is);(case poScope=>k_is);(case saScope=>k_is);(case mkScope=>k_is);(case keScope=>k_is)
  (case naScope_papers=>k_is)
  (case naScope_result=>k_is)
  (case naScope_ways=>k_is)
  (case naScope_kinds=>k_is)

import PyProof.Rows.All
import Wide.All
import OpenK.AllK
import Wide.FinOn
import Lean
import PyProof.EqAt
import PyProof.EqKinds
import PyProof.TupleCall
import PySem.Challenge.RW_tonguegate_k19_whole_the_book_again
abbrev Ym:=@PySem.wpAny_bind
abbrev Yn:=@PySem.Heap.get?_push_of_some
abbrev Yo:=@List.length_append
abbrev Yp:=@PySem.wpAny_pure
abbrev Yq:=@List.mem_cons
abbrev Yr:=@PySem.Heap.lt_size
abbrev Ys:=@PyProof.Rows.wpS_bind
abbrev Yt:=@List.append_assoc
abbrev Yu:=@Array.length_toList
abbrev Yv:=@PyProof.Rows.wpS_pure
abbrev Yw:=@List.length_map
abbrev Yx:=@Bool.false_ne_true
abbrev Yy:=@List.not_mem_nil
abbrev Yz:=@Nat.le_refl
abbrev YA:=@List.mem_singleton
abbrev YB:=@PySem.Heap.get?_push_size
abbrev YC:=@List.map_cons
abbrev YD:=@List.pairwise_append
abbrev YE:=@List.mem_append
abbrev YF:=@List.length_cons
abbrev YG:=@List.length_take
abbrev YH:=@List.map_append
abbrev YI:=@Nat.ne_of_lt
abbrev YJ:=@List.getElem?_eq_getElem
abbrev YK:=@Array.getElem?_toList
abbrev YL:=@List.size_toArray
abbrev YM:=@List.take_append_drop
abbrev YN:=@if_neg
abbrev YO:=@List.getElem?_eq_some_iff
abbrev YQ:=@Nat.lt_of_lt_of_le
abbrev YR:=@Array.size_push
abbrev YS:=@List.mem_map
abbrev YT:=@List.getElem?_append_right
abbrev YU:=@of_decide_eq_true
abbrev YV:=@if_pos
abbrev YW:=@beq_iff_eq
abbrev YX:=@List.take_of_length_le
abbrev YY:=@List.append_nil
abbrev YZ:=@List.mem_append_right
abbrev Y1:=@PySem.W.mg_of
abbrev Y2:=@List.getElem?_map
abbrev Y3:=@List.length_drop
abbrev Y4:=@decide_eq_false
abbrev Y5:=@Option.some.inj
abbrev Y6:=@List.getElem?_append_left
abbrev Y7:=@of_decide_eq_false
abbrev Y8:=@PySem.W.mg_none_of
abbrev Y9:=@decide_eq_true
abbrev Za:=@PySem.wpAny_field
abbrev Zb:=@PySem.F.plainAttrs_list
abbrev Zc:=@Array.toList_append
abbrev Zd:=@Array.mem_toList_iff
abbrev Ze:=@Array.mem_of_getElem?
abbrev Zf:=@Array.perm_iff_toList_perm
abbrev Zg:=@PySem.wpAny_seqItems
abbrev Zh:=@PySem.wpAny_callSpecial?_slot
abbrev Zi:=@Nat.le_of_lt
abbrev Zj:=@PyProof.Rows.wpS_forRange
abbrev Zk:=@PySem.sizeLine_eq
abbrev Zl:=@List.find?_cons
abbrev Zm:=@Int.toNat_natCast
abbrev Zn:=@List.mem_of_mem_drop
abbrev Zo:=@List.mem_cons_of_mem
abbrev Zp:=@Int.le_refl
abbrev Zq:=@List.nodup_cons
abbrev Zr:=@or_false
abbrev Zs:=@List.length_replicate
abbrev Zt:=@PySem.Heap.size_push
abbrev Zu:=@PySem.W.kia_one
abbrev Zv:=@PyProof.Rows.callWith_type1
abbrev Zw:=@List.mem_append_left
abbrev Zx:=@List.filter_cons
abbrev Zy:=@PySem.F.excBase_ValueError
abbrev Zz:=@PySem.wpAny_mono
abbrev ZA:=@List.replicate_succ
abbrev ZC:=@PySem.wpAny_call_entry
abbrev ZD:=@Nat.lt_irrefl
abbrev ZE:=@List.extract_eq_take_drop
abbrev ZF:=@Nat.min_eq_left
abbrev ZG:=@Nat.le_trans
abbrev ZH:=@List.eq_nil_of_length_eq_zero
abbrev ZI:=@List.all_eq_true
abbrev ZJ:=@List.mem_of_mem_take
abbrev ZK:=@Nat.ne_of_gt
abbrev ZL:=@Nat.zero_le
abbrev ZM:=@congrArg
abbrev ZN:=@PySem.wpAny_truthy_bool
abbrev ZO:=@List.cons_append
abbrev ZP:=@PySem.PassesOwn.never
abbrev ZQ:=@List.pairwise_iff_getElem
abbrev ZR:=@List.drop_eq_getElem_cons
abbrev ZS:=@PySem.wpAny_rule
abbrev ZT:=@List.mem_of_getElem?
abbrev ZU:=@Array.toList_extract
abbrev ZV:=@PySem.F.type_list_append
abbrev ZW:=@PySem.F.slot_list_append
abbrev ZX:=@Nat.lt_succ_of_lt
abbrev ZY:=@List.nodup_append
abbrev ZZ:=@List.getElem?_take_of_lt
abbrev Z0:=@List.flatten_cons
abbrev Z1:=@List.eraseIdx_eq_take_drop_succ
abbrev Z2:=@Array.size_append
abbrev Z3:=@beq_eq_false_iff_ne
abbrev Z4:=@Nat.add_sub_cancel_left
abbrev Z5:=@PySem.wpAny_updateSeq_pair
abbrev Z6:=@Nat.le_add_right
abbrev Z7:=@List.drop_append_of_le_length
abbrev Z8:=@PySem.F.slot_zip_next
abbrev Z9:=@PyProof.Rows.wpS_mono
abbrev aaa:=@PySem.boot_len
abbrev aab:=@PySem.wpAny_typeNameOfWhole_itemiter
abbrev aac:=@Nat.lt_of_le_of_lt
abbrev aad:=@List.pairwise_cons
abbrev aae:=@List.mem_filterMap
abbrev aaf:=@List.mem_cons_self
abbrev aag:=@List.perm_append_comm
abbrev aah:=@List.Perm.append_left
abbrev aai:=@PySem.F.slot_dict_itemiterator_next
abbrev aaj:=@PyProof.Rows.wpS_modify
abbrev aak:=@PySem.Heap.get?_update_other
abbrev aal:=@PySem.wpAny_passesOwn
abbrev aam:=@List.drop_zero
abbrev aan:=@PySem.Heap.get?_update_self
abbrev aao:=@PySem.wpAny_onRaise
abbrev aap:=@PySem.wpAny_newObj_type
abbrev aaq:=@PySem.wpAny_holding
abbrev aar:=@PySem.wpAny_attempt
abbrev aas:=@PySem.mem_of_lookup
abbrev aat:=@Nat.le_succ
abbrev aau:=@List.getElem_of_mem
abbrev aav:=@PySem.F.slot_tuple_iterator_next
abbrev aaw:=@PySem.wpAny_typeNameOf_itemiter
abbrev aax:=@List.pairwise_singleton
abbrev aay:=@List.getElem?_replicate
abbrev aaz:=@PySem.F.plain_extend_loop
abbrev aaA:=@Array.toList_push
abbrev aaB:=@List.drop_left
abbrev aaC:=@PySem.F.type_list_pop
abbrev aaD:=@PySem.F.slot_list_pop
abbrev aaE:=@Nat.lt_or_ge
abbrev aaF:=@List.zipIdx_cons
abbrev aaG:=@PySem.Heap.get?_push_ne
abbrev aaH:=@List.zipIdx_nil
abbrev aaI:=@List.take_left'
abbrev aaJ:=@List.nil_append
abbrev aaK:=@List.forIn_cons
abbrev aaL:=@Bool.eq_iff_iff
abbrev aaM:=@PySem.Heap.size_update
abbrev aaN:=@PySem.W.callWith_K
abbrev aaO:=@List.map_map
abbrev aaP:=@List.filter_append
abbrev aaQ:=@Int.emod_lt_of_pos
abbrev aaR:=@PySem.Around.under_plainId
abbrev aaS:=@Array.getElem?_eq_getElem
abbrev aaT:=@PySem.wpAny_updateSeq
abbrev aaU:=@PySem.wpAny_letGo
abbrev aaV:=@Ne.symm
abbrev aaW:=@List.getElem?_cons_succ
abbrev aaX:=@List.cons.inj
abbrev aaY:=@List.any_cons
abbrev aaZ:=@PyProof.Rows.wpS_get
abbrev aa0:=@PySem.wpAny_typeOf
abbrev aa1:=@PySem.wpAny_Call_Name_kw
abbrev aa2:=@Nat.lt_succ_self
abbrev aa3:=@Bool.and_eq_true
abbrev aa4:=@List.getElem?_set_self
abbrev aa5:=@PySem.wpAny_pyIter_list
abbrev aa6:=@PySem.W.methodCall_KW
abbrev aa7:=@Nat.sub_self
abbrev aa8:=@List.of_mem_zip
abbrev aa9:=@List.filter_nil
abbrev aba:=@List.eq_nil_or_concat
abbrev abb:=@List.concat_eq_append
abbrev abc:=@Int.emod_nonneg
abbrev abd:=@PySem.F.args_zip_next_1
abbrev abe:=@List.getElem?_set_ne
abbrev abf:=@Array.toList_reverse
abbrev abg:=@PySem.wpAny_pyIter_zip
abbrev abh:=@PySem.wpAny_isInstance
abbrev abi:=@List.forIn_nil
abbrev abj:=@PySem.F.entry_zip_next
abbrev abk:=@PySem.wpAny_nextOf_list_item
abbrev abl:=@PySem.wpAny_isOneOf_itemiter
abbrev abm:=@if_true
abbrev abn:=@PySem.W.plainGet_of
abbrev abo:=@Nat.add_le_add_left
abbrev abp:=@List.filterMap_cons
abbrev abq:=@PySem.wpAny_execs_nil
abbrev abr:=@decide_eq_true_iff
abbrev abt:=@PySem.codeAny_mono
abbrev abu:=@PySem.codeAny_builtin
abbrev abv:=@PySem.W.KFB.if_not
abbrev abw:=@List.zip_cons_cons
abbrev abx:=@List.getElem?_drop
abbrev aby:=@Bool.false_eq_true
abbrev abz:=@PySem.wpAny_newTuple
abbrev abA:=@Nat.succ_ne_self
abbrev abB:=@Nat.max_eq_right
abbrev abC:=@List.take_append_of_le_length
abbrev abD:=@List.perm_middle
abbrev abE:=@List.drop_length
abbrev abF:=@List.append_inj'
abbrev abG:=@PySem.Heap.SameBut.update
abbrev abH:=@Array.toList_zip
abbrev abI:=@Array.toList_map
abbrev abJ:=@if_false
abbrev abK:=@PySem.tupleKind_room_in1
abbrev abL:=@PySem.plainId_quiet
abbrev abM:=@Nat.not_lt_zero
abbrev abN:=@List.mem_filter
abbrev abO:=@Array.toList_setIfInBounds
abbrev abP:=@PyProof.Rows.wpS_lift
abbrev abQ:=@PySem.call_meets
abbrev abR:=@PySem.F.slot_dict_delitem
abbrev abS:=@List.mem_range
abbrev abT:=@PySem.F.args_dict_itemiterator_next_1
abbrev abU:=@Bool.false_and
abbrev abV:=@PyProof.Rows.boot_sorted
abbrev abW:=@Option.isSome_iff_exists
abbrev abX:=@PySem.F.entry_dict_itemiterator_next
abbrev abY:=@Int.eq_ofNat_of_zero_le
set_option Elab.async false
set_option linter.all false
set_option maxRecDepth 100000
namespace L2
open PySem PySem.Spec PyProof.Rows
abbrev Key:=Sum Int Str
def ki:Key→Value→Bool
 | .inl k,v=>Value.isInt k v
 | .inr x,v=>Value.isStrOf x v
def Md(w:World):Key→Int
 | .inl k=>hashInt k
 | .inr x=>hashStr w x
theorem bI:∀{k:Key} {v:Value},ki k v=true→(∃ i t,k=Sum.inl i∧v=Value.int i t)∨(∃ x t,k=Sum.inr x∧v=Value.str x t)
 | .inl i,v,h=>by
  obtain⟨t,e⟩:=Value.isInt_shape (k:=i) (v:=v) h;exact .inl ⟨i,t,rfl,e⟩
 | .inr x,v,h=>by
  obtain⟨t,e⟩:=Value.isStrOf_shape (x:=x) (v:=v) h;exact .inr ⟨x,t,rfl,e⟩
theorem tT(i:Int)(t:Tok):ki (.inl i) (.int i t)=true:=by simp[ki,Value.isInt]
theorem tR(x:Str)(t:Tok):ki (.inr x) (.str x t)=true:=by simp[ki,Value.isStrOf]
theorem B7(a b:Int):decide ((Sum.inl a:Key)=Sum.inl b)=(a == b):=by
 by_cases e:a=b
 ·subst e;simp
 ·have h:¬(Sum.inl a:Key)=Sum.inl b:=fun q=>e (Sum.inl.inj q)
  rw[Y4 h];exact(Z3.mpr e).symm
theorem BZ(a b:Str):decide ((Sum.inr a:Key)=Sum.inr b)=decide (a=b):=by
 by_cases e:a=b
 ·subst e;simp
 ·have h:¬(Sum.inr a:Key)=Sum.inr b:=fun q=>e (Sum.inr.inj q)
  rw[Y4 h,Y4 e]
theorem B6(a:Int)(b:Str):decide ((Sum.inl a:Key)=Sum.inr b)=false:=Y4 (fun q=>nomatch q)
theorem B0(a:Str)(b:Int):decide ((Sum.inr a:Key)=Sum.inl b)=false:=Y4 (fun q=>nomatch q)
def bW(prog:Program)(w:World):PySem.KeyKind prog w Key where
 is:=ki
 hash:=Md w
 inj:=fun v a b ha hb=>by
  rcases bI ha with⟨i,t,rfl,rfl⟩ | ⟨x,t,rfl,rfl⟩
  ·rcases bI hb with⟨j,u,rfl,e⟩ | ⟨y,u,rfl,e⟩
   ·injection e with e1 _;rw[e1]
   ·exact nomatch e
  ·rcases bI hb with⟨j,u,rfl,e⟩ | ⟨y,u,rfl,e⟩
   ·exact nomatch e
   ·injection e with e1 _;rw[e1]
 byValue:=fun k v h=>by
  rcases bI h with⟨i,t,rfl,rfl⟩ | ⟨x,t,rfl,rfl⟩<;>rfl
 pyHash:=fun hv h=>by
  rcases bI hv with⟨i,t,rfl,rfl⟩ | ⟨x,t,rfl,rfl⟩
  ·exact wpAny_pyHash_int h
  ·exact wpAny_pyHash_str h
 eqBool:=fun hu hv h=>by
  rcases bI hu with⟨i,t,rfl,rfl⟩ | ⟨x,t,rfl,rfl⟩
  ·rcases bI hv with⟨j,u,rfl,rfl⟩ | ⟨y,u,rfl,rfl⟩
   ·rw[B7]at h;exact wpAny_eqBool_int h
   ·rw[B6]at h;exact SeqAt.EqAt.int_str i t y u _ _ _ _ h
  ·rcases bI hv with⟨j,u,rfl,rfl⟩ | ⟨y,u,rfl,rfl⟩
   ·rw[B0]at h;exact SeqAt.EqAt.str_int x t j u _ _ _ _ h
   ·rw[BZ]at h;exact wpAny_eqBool_str h
 «strs»:=fun k x t v h=>by
  rcases bI h with⟨i,u,rfl,e⟩ | ⟨y,u,rfl,e⟩
  ·exact nomatch e
  ·injection e with e1 _
   subst e1;cases v<;>rfl
theorem oF(prog:Program)(w:World)(i:Int)(t:Tok):(bW prog w).is (.inl i) (.int i t)=true:=tT i t
theorem oE(prog:Program)(w:World)(x:Str)(t:Tok):(bW prog w).is (.inr x) (.str x t)=true:=tR x t
inductive V where
 | non | bl (b:Bool) | int (i:Int) | str (x:Str) | byt (b:Array UInt8) | flt (b:UInt64) | ref (a:Addr) | ty (n:String)
 deriving DecidableEq
def RelV:V→Value→Prop
 | .non,u=>u=Value.none
 | .bl b,u=>u=Value.bool b
 | .int i,u=>∃ t,u=Value.int i t
 | .str x,u=>∃ t,u=Value.str x t
 | .byt b,u=>∃ t,u=Value.bytes b t
 | .flt b,u=>∃ t,u=Value.float b t
 | .ref a,u=>u=Value.ref a
 | .ty n,u=>u=Value.type n
abbrev Vals:List V→List Value→Prop:=Paired RelV
theorem Vals.length{xs:List V}{us:List Value}(r:Vals xs us):xs.length=us.length:=Paired.length r
theorem Vals.get:∀{xs:List V} {us:List Value} {i:Nat} {x:V},Vals xs us→xs[i]? = some x→∃ u,us[i]? = some u∧RelV x u
 | _,_,_,_,.nil,e=>by simp at e
 | _,_,0,_,.cons r _,e=>by simp at e;subst e;exact⟨_,rfl,r⟩
 | _,_,i+1,x,.cons _ t,e=>by
  obtain⟨u,h1,h2⟩:=Vals.get (i:=i) (x:=x) t (by simpa using e);exact⟨u,by simpa using h1,h2⟩
theorem Vals.set{x:V}{u:Value}(r:RelV x u):∀{xs:List V} {us:List Value} (i:Nat),Vals xs us→Vals (xs.set i x) (us.set i u)
 | _,_,_,.nil=>.nil
 | _,_,0,.cons _ t=>.cons r t
 | _,_,i+1,.cons q t=>.cons q (Vals.set r i t)
theorem Vals.append:∀{xs ys:List V} {us ws:List Value},Vals xs us→Vals ys ws→Vals (xs++ys) (us++ws)
 | _,_,_,_,.nil,s=>s
 | _,_,_,_,.cons r t,s=>.cons r (Vals.append t s)
theorem Vals.take:∀{xs:List V} {us:List Value} (n:Nat),Vals xs us→Vals (xs.take n) (us.take n)
 | _,_,0,_=>.nil
 | _,_,_+1,.nil=>.nil
 | _,_,n+1,.cons r t=>.cons r (Vals.take n t)
theorem Vals.drop:∀{xs:List V} {us:List Value} (n:Nat),Vals xs us→Vals (xs.drop n) (us.drop n)
 | _,_,0,r=>r
 | _,_,_+1,.nil=>.nil
 | _,_,n+1,.cons _ t=>Vals.drop n t
def gH:Option V→Option Value→Prop
 | some v,some u=>RelV v u
 | none,none=>True
 | _,_=>False
def KV{κ:Type}:List (κ×V)→List (κ×Value)→Prop:=Paired fun(p:κ×V) (q:κ×Value)=>p.1=q.1∧RelV p.2 q.2
def kV:Key→V
 | .inl i=>.int i
 | .inr x=>.str x
inductive HO where
 /-- a list -/
 | lst (xs:List V)
 /-- a tuple (never changes) -/
 | tup (xs:List V)
 /-- a dict DW keys are ints and texts;one DW keys are tuples of ints and texts (rg empty one is both) -/
 | dK (ak:List (Key×V)) | dT (ak:List (List Key×V))
 /-- a set of ints: aA members,aA size -/
 | set (S:Int→Bool) (n:Nat)
 /-- an instance of rg class at C,aA dict at dx,aA attributes -/
 | ins (C dx:Addr) (fs:List (Str×V))
 /-- rg dict of rg instance at x -/
 | own (x:Addr)
 /-- rg dict of an exception -/
 | xd (fs:List (Str×V))
 /-- a bound method,f of x -/
 | met (f x:Addr)
 /-- a range object lo,lo+1,.. below hi -/
 | rng (lo hi:Int)
 /-- a D5 D6 is known to rg object (rg p7;a dict while a loop walks it): read,never written while it is so -/
 | frz (o:Obj) (u:HO)
 /-- a code FT table -/
 | tbl (ps:Array Value)
 /-- any other D5,by JI is true of aA one object (a def of PX own: Xd a S n:=HO.ext fun h=>..) -/
 | ext (φ:Heap→Prop)
abbrev Hp:=Addr→Option HO
def upd(H:Hp)(a:Addr)(o:HO):Hp:=fun b=>if b=a then some o else H b
theorem az{H:Hp}{a:Addr}{o:HO}:upd H a o a=some o:=by unfold upd;rw[YV rfl]
theorem au{H:Hp}{a b:Addr}{o:HO}(h:b≠a):upd H a o b=H b:=by unfold upd;rw[YN h]
theorem FX{H:Hp}{a b:Addr}{o u:HO}(h:H a=some o)(h':H b=some u)(d:o≠u):a≠b:=by
 intro e;subst e;rw[h]at h';exact d (Y5 h')
theorem aP{H:Hp}{a b:Addr}{o:HO}(h:H a=some o)(h':H b=none):a≠b:=by
 intro e;subst e;rw[h]at h';cases h'
section
variable (P:Program)(w:World)
def bK(H:Hp)(h:Heap)(a:Addr):HO→Prop
 | .lst xs=>xs.length≤sizeLine∧∃(aA:List Value) (n:Nat),Vals xs aA∧h.get? a=some {cls:=.type "list",data:=.seq aA.toArray n}
 | .tup xs=>xs.length≤sizeLine∧∃ aA:List Value,Vals xs aA∧IsTup h a aA.toArray
 | .dK ak=>ak.length≤sizeLine∧(a == sysModules)=false∧∃ vs,KV ak vs∧h.DictOf (bW P w) a vs
 | .dT ak=>ak.length≤sizeLine∧(a == sysModules)=false∧∃ xs:List (List Key×Addr×Value),
   Paired (fun(p:List Key×V) (q:List Key×Addr×Value)=>p.1=q.1∧H q.2.1=some (.tup (p.1.map kV))∧RelV p.2 q.2.2) ak xs ∧
   ∃ o es ep,h.get? a=some o∧o.ExactDict∧o.data=.dict es ep∧es.toList=xs.map (entryOfKey (tupleKind (bW P w)))∧(xs.map (·.1)).Nodup
 | .set S n=>h.SetOf (intKind P w) a S n
 | .ins C dx fs=>H dx=some (.own a)∧fs.length≤1000∧dx≠a∧h.get? a=some (W.instObj C dx) ∧
   ∃ mA,h.Ns1 dx mA∧(∀ f,gH (fs.lookup f) (mA f))∧PySem.Within mA (fs.map (·.1))
 | .own _=>∃ o,h.get? a=some o
 | .xd fs=>∃ mA,h.Ns1 a mA∧∀ f,gH (fs.lookup f) (mA f)
 | .rng lo hi=>∃ t u v,h.get? a=some {cls:=.type "range",data:=.fields #[.int lo t,.int hi u,.int 1 v]}
 | .frz o u=>h.get? a=some o∧bK H h a u
 | .tbl ps=>h.get? a=some {cls:=.none,data:=.fields ps}
 | .met f x=>h.get? a=some (W.methodObj (.ref f) (.ref x))
 | .ext φ=>φ h∧(∃ o,h.get? a=some o)∧∀ h1 h2:Heap,φ h1→(∀ o,h1.get? a=some o→h2.get? a=some o)→φ h2
def h9(H:Hp)(h:Heap):Prop:=∀ a o,H a=some o→bK P w H h a o
end
section
variable {P:Program}{w:World}{H H':Hp}{h h':Heap}{a:Addr}{o:HO}
theorem bK.lt(x:bK P w H h a o):a < h.objs.size:=by
 cases o with
 | lst xs=>obtain⟨_,_,_,_,e⟩:=x;exact Yr e
 | tup xs=>obtain⟨_,_,_,p⟩:=x;exact p.lt
 | dK ak=>obtain⟨_,_,_,_,o,_,_,e,_⟩:=x;exact Yr e
 | dT ak=>obtain⟨_,_,_,_,o,_,_,e,_⟩:=x;exact Yr e
 | set S n=>obtain⟨o,_,_,_,e,_⟩:=x;exact Yr e
 | ins C dx fs=>obtain⟨_,_,_,e,_⟩:=x;exact Yr e
 | own y=>obtain⟨_,e⟩:=x;exact Yr e
 | xd fs=>obtain⟨_,⟨_,_,_,e,_⟩,_⟩:=x;exact Yr e
 | rng lo hi=>obtain⟨_,_,_,e⟩:=x;exact Yr e
 | frz ob u=>obtain⟨e,_⟩:=x;exact Yr e
 | tbl ps=>exact Yr (show h.get? a=some _ from x)
 | met f y=>exact Yr (show h.get? a=some _ from x)
 | ext φ=>obtain⟨_,⟨_,e⟩,_⟩:=x;exact Yr e
theorem Paired.BQ{α β:Type}{F G:α→β→Prop}:∀{l₁:List α} {l₂:List β},Paired F l₁ l₂→(∀ a b,F a b→G a b)→Paired G l₁ l₂
 | _,_,.nil,_=>.nil
 | _,_,.cons r t,f=>.cons (f _ _ r) (Paired.BQ t f)
theorem bK.mC(x:bK P w H h a o)(k:∀ b u,(b=a∨H b=some (.own a))→h.get? b=some u→h'.get? b=some u)
  (ho:∀ b,H b=some (.own a)→H' b=some (.own a)) (ht:∀ b xs,H b=some (.tup xs)→H' b=some (.tup xs)):bK P w H' h' a o:=by
 induction o with
 | lst xs=>obtain⟨z,aA,n,r,e⟩:=x;exact⟨z,aA,n,r,k _ _ (.inl rfl) e⟩
 | tup xs=>obtain⟨z,aA,r,ob,e,c⟩:=x;exact⟨z,aA,r,ob,k _ _ (.inl rfl) e,c⟩
 | dK ak=>obtain⟨z,y,vs,r,ob,es,ep,e,c⟩:=x;exact⟨z,y,vs,r,ob,es,ep,k _ _ (.inl rfl) e,c⟩
 | dT ak=>
  obtain⟨z,y,xs,r,ob,es,ep,e,c⟩:=x;exact⟨z,y,xs,Paired.BQ r fun p q z=>⟨z.1,ht _ _ z.2.1,z.2.2⟩,ob,es,ep,k _ _ (.inl rfl) e,c⟩
 | set S n=>obtain⟨ob,es,ep,t,e,c⟩:=x;exact⟨ob,es,ep,t,k _ _ (.inl rfl) e,c⟩
 | ins C dx fs=>
  obtain⟨d,z,ne,e,mA,⟨od,es,ep,e2,c⟩,r⟩:=x;exact⟨ho _ d,z,ne,k _ _ (.inl rfl) e,mA,⟨od,es,ep,k _ _ (.inr d) e2,c⟩,r⟩
 | own y=>obtain⟨ob,e⟩:=x;exact⟨ob,k _ _ (.inl rfl) e⟩
 | xd fs=>obtain⟨mA,⟨od,es,ep,e,c⟩,r⟩:=x;exact⟨mA,⟨od,es,ep,k _ _ (.inl rfl) e,c⟩,r⟩
 | rng lo hi=>obtain⟨t,u,v,e⟩:=x;exact⟨t,u,v,k _ _ (.inl rfl) e⟩
 | frz ob u ih=>obtain⟨e,q⟩:=x;exact⟨k _ _ (.inl rfl) e,ih q⟩
 | tbl ps=>
  have e:h.get? a=some {cls:=.none,data:=.fields ps}:=x;show h'.get? a=some {cls:=.none,data:=.fields ps}
  exact k a _ (.inl rfl) e
 | met f y=>
  have e:h.get? a=some (W.methodObj (.ref f) (.ref y)):=x;show h'.get? a=some (W.methodObj (.ref f) (.ref y))
  exact k a _ (.inl rfl) e
 | ext φ=>obtain⟨p,⟨o,e⟩,st⟩:=x;exact⟨st _ _ p fun o q=>k _ _ (.inl rfl) q,⟨o,k _ _ (.inl rfl) e⟩,st⟩
theorem h9.lt(x:h9 P w H h)(e:H a=some o):a < h.objs.size:=(x a o e).lt
theorem h9.fresh(x:h9 P w H h)(e:h.objs.size≤a):H a=none:=by
 cases q:H a with
 | none=>rfl
 | some u=>exact absurd (YQ (x.lt q) e) (ZD _)
theorem h9.kept(x:h9 P w H h)(k:∀ b u,h.get? b=some u→h'.get? b=some u):h9 P w H h':=fun a o e=>
 (x a o e).mC (fun b u _ q=>k b u q) (fun _ q=>q) fun _ _ q=>q
theorem h9.laid(x:h9 P w H h)(k:∀ b u,h.get? b=some u→h'.get? b=some u)(hp:h.objs.size≤a)(new:bK P w (upd H a o) h' a o):h9 P w (upd H a o) h':=fun b u e=>by
 have hn:=x.fresh hp;by_cases hb:b=a
 ·subst hb;rw[az]at e;cases e;exact new
 ·rw[au hb]at e
  exact(x b u e).mC (fun c v _ q=>k c v q) (fun c q=>by rw[au (aP q hn)];exact q) fun c xs q=>by rw[au (aP q hn)];exact q
end
def Rd(H:Hp)(a:Addr)(u:HO):Prop:=H a=some u∨∃ o,H a=some (.frz o u)
theorem Rd.ok{P:Program}{w:World}{H:Hp}{h:Heap}{a:Addr}{u:HO}(r:Rd H a u)(x:h9 P w H h):bK P w H h a u:=by
 rcases r with r | ⟨o,r⟩
 ·exact x a u r
 ·obtain⟨_,q⟩:=x a _ r
  exact q
def Ir:Option HO→Prop
 | some (.lst _)=>True
 | some (.dK _)=>True
 | some (.dT _)=>True
 | some (.set _ _)=>True
 | some (.ins _ _ _)=>True
 | some (.ext _)=>True
 | _=>False
section
variable {P:Program}{w:World}{H:Hp}{h h':Heap}{x e:Addr}{o':HO}
theorem h9.write(ok:h9 P w H h)(mu:Ir (H x))(he:e=x∨H e=some (.own x))(k:∀ b u,b≠e→h.get? b=some u→h'.get? b=some u)(DB:∃ u,h'.get? e=some u)
  (new:bK P w (upd H x o') h' x o'):h9 P w (upd H x o') h':=fun b u q=>by
 have FV:∀ c y,H c=some (.own y)→c≠x:=fun c y r z=>by subst z;rw[r]at mu;exact mu
 have LO:∀ c xs,H c=some (.tup xs)→c≠x:=fun c xs r z=>by subst z;rw[r]at mu;exact mu
 by_cases hb:b=x
 ·subst hb;rw[az]at q;cases q;exact new
 ·rw[au hb]at q
  by_cases CB:b=e
  ·have q':H b=some (.own x):=by
    rcases he with z | z
    ·exact absurd (CB.trans z) hb
    ·rw[CB];exact z
   rw[q]at q';cases q';obtain⟨v,hv⟩:=DB;exact⟨v,by rw[CB];exact hv⟩
  ·refine(ok b u q).mC (fun c v hc r=>k c v ?_ r) (fun c r=>by rw[au (FV c b r)];exact r) fun c xs r=>by rw[au (LO c xs r)];exact r
   rcases hc with rfl | hc
   ·exact CB
   ·rintro rfl
    rcases he with z | z
    ·exact FV c b hc z
    ·rw[hc]at z;cases z;exact hb rfl
end
structure Un(fs ex:List Addr)(H H':Hp)(h h':Heap):Prop where
 keep:∀ b o,h.get? b=some o→H b=none→b∉fs→b∉ex→h'.get? b=some o
 slot:∀ b o,h.get? b=some o→H b=none→b∈fs→b∉ex→∃ sl,h'.get? b=some {o with slots:=sl}
 free:∀ b o,h.get? b=some o→H b=none→b∉ex→H' b=none
 there:∀ b o,h.get? b=some o→b∉ex→∃ o',h'.get? b=some o'
 gW:∀ b xs,H b=some (.tup xs)→H' b=some (.tup xs)
 gF:∀ b o u,H b=some (.frz o u)→H' b=some (.frz o u)
 gY:∀ b ps,H b=some (.tbl ps)→∃ more,H' b=some (.tbl (ps++more))
section
variable {fs t9 ex VU:List Addr}{H H1 H2:Hp}{h h1 h2 h':Heap}{a x e:Addr}{o:HO}
theorem Un.any(u:Un fs ex H H1 h h1){b:Addr}{ob:Obj}(q:h.get? b=some ob)(n:H b=none)(hx:b∉ex):∃ sl,h1.get? b=some {ob with slots:=sl}:=by
 by_cases hb:b∈fs
 ·exact u.slot b ob q n hb hx
 ·exact⟨ob.slots,u.keep b ob q n hb hx⟩
theorem Un.kept(k:∀ b u,h.get? b=some u→h'.get? b=some u):Un fs ex H H h h':=
 ⟨fun b ob q _ _ _=>k b ob q,fun b ob q _ _ _=>⟨ob.slots,k b ob q⟩,fun _ _ _ n _=>n,fun b ob q _=>⟨ob,k b ob q⟩,fun _ _ q=>q,fun _ _ _ q=>q,fun _ ps q=>⟨#[],by rw[q];simp⟩⟩
theorem Un.refl:Un fs ex H H h h:=Un.kept fun _ _ q=>q
theorem Un.laid(k:∀ b u,h.get? b=some u→h'.get? b=some u)(hp:h.objs.size≤a)(hn:H a=none):Un fs ex H (upd H a o) h h' where
 keep:=fun b u q _ _ _=>k b u q
 slot:=fun b u q _ _ _=>⟨u.slots,k b u q⟩
 free:=fun b u q n _=>by rw[au (YI (YQ (Yr q) hp))];exact n
 there:=fun b u q _=>⟨u,k b u q⟩
 gW:=fun b xs q=>by rw[au (aP q hn)];exact q
 gF:=fun b u xs q=>by rw[au (aP q hn)];exact q
 gY:=fun b ps q=>⟨#[],by rw[au (aP q hn),q];simp⟩
theorem Un.write(mu:Ir (H x))(he:e=x∨H e=some (.own x))(k:∀ b u,b≠e→h.get? b=some u→h'.get? b=some u)(DB:∃ u,h'.get? e=some u):Un fs ex H (upd H x o) h h':=by
 have hx:∀ b,H b=none→b≠x:=fun b n z=>by subst z;rw[n]at mu;exact mu
 have hb:∀ b,H b=none→b≠e:=fun b n z=>by
  subst z;rcases he with r | r
  ·exact hx b n r
  ·rw[n]at r;cases r
 have hm:∀ b u,H b=some u→¬Ir (some u)→b≠x:=fun b u q nm z=>by subst z;rw[q]at mu;exact nm mu
 refine⟨fun b u q n _ _=>k b u (hb b n) q,fun b u q n _ _=>⟨u.slots,k b u (hb b n) q⟩,fun b u q n _=>by rw[au (hx b n)];exact n,fun b u q _=>?_,
  fun b xs q=>by rw[au (hm b _ q fun z=>z)];exact q,fun b u xs q=>by rw[au (hm b _ q fun z=>z)];exact q,fun b ps q=>⟨#[],by rw[au (hm b _ q fun z=>z),q];simp⟩⟩
 by_cases CB:b=e
 ·subst CB;exact DB
 ·exact⟨u,k b u CB q⟩
end
def IH(h:Heap)(H:Hp):List Addr:=(List.range h.objs.size).filter fun a=>(H a).isSome
def mX(h:Heap)(H:Hp):Heap:=W.hideAll h (IH h H)
theorem tZ(h:Heap)(H:Hp):(mX h H).objs.size=h.objs.size:=W.hideAll_size _ _
theorem wt{h:Heap}{H:Hp}{b:Addr}{o:Obj}(e:h.get? b=some o)(n:H b=none):(mX h H).get? b=some o:=
 W.hideAll_get _ e fun hm=>by
  have q:(H b).isSome=true:=(abN.mp hm).2;rw[n]at q;simp at q
theorem yL{h:Heap}{H:Hp}{b:Addr}{o:Obj}(e:(mX h H).get? b=some o):h.get? b=some o∧H b=none:=by
 have e':h.get? b=some o:=W.of_hideAll (IH h H) e;refine⟨e',?_⟩;cases q:H b with
 | none=>rfl
 | some x=>
  have hm:b∈IH h H:=abN.mpr ⟨abS.mpr (Yr e'),by simp[q]⟩;have z:(mX h H).get? b=none:=W.hideAll_none (IH h H) hm;rw[z]at e;cases e
def zo(g h:Heap)(L:Addr):List (Addr×Obj):=(List.range h.objs.size).filterMap fun a=>if a=L∨(g.get? a).isSome=true then none else(h.get? a).map fun o=>(a,o)
def rest(g h:Heap)(L d:Addr):List (Addr×Obj):=(zo g h L).filter fun p=>decide (p.1≠d)
structure Mod(K:W.Frag)(mg:Str→Option Value)(base:Heap):Prop where
 BY:K.In base
 glob:base.Ns mainGlobals mg
 blt:∃ mb,base.Ns builtinsNs mb∧∀ x:Str,x ≠ "__name__" → mb x=bootBuiltins x
 nolimit:base.NoLimit
structure Cx where
 prog:Program
 w:World
 K:W.Frag
 mg:Str→Option Value
 base:Heap
 A:Around
 N:List Str
 s₀:Shared
 H₀:Hp
 env:Env
 outer:List Env
 stack:List Env
 ex:List Addr
 fn:Str→Bool
 calm:Bool
 pn:List (Addr×Obj)
 xe:Value→Shared→Prop
def kO(l:List Env):List Addr:=l.filterMap (·.frame)
abbrev Cx.fs(X:Cx):List Addr:=kO X.outer
def Io(sc:Scope)(x:Str):Prop:=sc.names.lookup x=some .local∨sc.names.lookup x=some .cell∨sc.names.lookup x=some .free
def Loc(sc:Scope)(x:Str):Prop:=sc.names.lookup x=some .local∨sc.names.lookup x=some .cell
def Look(env:Env)(h:Heap)(m:Str→Option Value)(x:Str)(u:Value):Prop:=
 (env.kindOf x=some .local∧m x=some u)∨((env.kindOf x=some .cell∨env.kindOf x=some .free)∧∃ c,env.cells.lookup x=some c∧h.IsCell c (some u))
structure Cx.Ok(X:Cx):Prop where
 mod:Mod X.K X.mg X.base
 kind:X.env.scope.kind=.function
 glob:X.env.globals=mainGlobals
 blt:X.env.builtins=builtinsNs
 above:X.s₀.heap.objs.size≤X.env.locals
 inj:∀ x y c,X.env.cells.lookup x=some c→X.env.cells.lookup y=some c→x=y
 has:∀ x,(X.env.kindOf x=some .cell∨X.env.kindOf x=some .free)→∃ c,X.env.cells.lookup x=some c
 Ac:∀ x c,X.fn x=true→X.env.cells.lookup x=some c→X.s₀.heap.objs.size≤c
 hd:X.calm=true→X.A.handled=none
 frames:X.A.frames=some X.stack
 AQ:X.stack=X.outer∨(X.stack=X.env::X.outer∧X.env.frame=some X.env.locals)
 DJ:∀ b∈X.ex,b≠X.env.locals∧∀ x c,X.env.cells.lookup x=some c→c≠b
 bs:∀ b o,X.base.get? b=some o→X.s₀.heap.get? b=some o∧X.H₀ b=none
 wQ:X.base.objs.size≤X.s₀.heap.objs.size
 oA:∀ b o,X.base.get? b=some o→b∉X.ex
 oW:∀ b∈X.ex,b∉X.fs
 gE:X.s₀.heap.FunFrames X.base X.outer
 xg:∀ b∈X.fs,X.H₀ b=none
structure Inv(X:Cx)(pins:List (Addr×Obj))(σ:List (Option V))(H:Hp)(s:Shared):Prop where
 ok:X.Ok
 os:s.os=X.s₀.os
 bare:AllBare s.gens
 base:Un X.fs X.ex X.H₀ H X.s₀.heap s.heap
 loc:∃ m,s.heap.Ns X.env.locals m∧∀(i:Nat) (x:Str) (v:V),X.N[i]? = some x→σ[i]? = some (some v)→Io X.env.scope x→∃ u,RelV v u∧Look X.env s.heap m x u
 cell:∀ x c,X.env.cells.lookup x=some c→∃ v,s.heap.IsCell c v
 free:H X.env.locals=none
 dG:∀ x c,X.env.cells.lookup x=some c→H c=none
 pin:∀ p∈X.pn++pins,s.heap.get? p.1=some p.2∧H p.1=none∧p.1≠X.env.locals∧p.1∉X.fs∧∀ v,p.2.data≠.cell v
 bB:h9 X.prog X.w H s.heap
 len:σ.length=X.N.length
section
variable {X:Cx}{pins:List (Addr×Obj)}{σ:List (Option V)}{H H':Hp}{s:Shared}{h':Heap}
theorem Cx.Ok.LQ(ok:X.Ok){b:Addr}{o:Obj}(e:X.base.get? b=some o):b∉X.fs:=fun hb=>by
 have:=(ok.gE.mem hb).1;rw[e]at this;cases this
theorem Inv.bs(I:Inv X pins σ H s):∀ b o,X.base.get? b=some o→s.heap.get? b=some o∧H b=none:=fun b o e=>
 ⟨I.base.keep b o (I.ok.bs b o e).1 (I.ok.bs b o e).2 (I.ok.LQ e) (I.ok.oA b o e),I.base.free b o (I.ok.bs b o e).1 (I.ok.bs b o e).2 (I.ok.oA b o e)⟩
theorem Inv.bk(I:Inv X pins σ H s):∀ b o,X.base.get? b=some o→s.heap.get? b=some o:=fun b o e=>(I.bs b o e).1
theorem Inv.mod(I:Inv X pins σ H s):Mod X.K X.mg X.base:=I.ok.mod
theorem Inv.iO(I:Inv X pins σ H s):X.K.In s.heap:=I.ok.mod.BY.keeps I.bk
theorem Inv.lt(I:Inv X pins σ H s):X.env.locals < s.heap.objs.size:=let⟨_,hn,_⟩:=I.loc;hn.lt
theorem Inv.sz(I:Inv X pins σ H s):X.s₀.heap.objs.size≤s.heap.objs.size:=ZG I.ok.above (Zi I.lt)
theorem Inv.LP(I:Inv X pins σ H s){a:Addr}(h:s.heap.objs.size≤a):a∉X.fs:=fun hb=>by
 obtain⟨_,o,ho,_⟩:=I.ok.gE.mem hb;exact absurd (YQ (Yr ho) (ZG I.sz h)) (ZD _)
theorem Inv.CS(I:Inv X pins σ H s):∀ x c,X.env.cells.lookup x=some c→c≠X.env.locals:=fun x c e z=>by
 obtain⟨v,o,ho,hd⟩:=I.cell x c e;obtain⟨m,⟨o',es,ep,jC,Cw,_⟩,_⟩:=I.loc;rw[z,jC]at ho;cases ho;rw[Cw]at hd;cases hd
theorem Inv.gE(I:Inv X pins σ H s):s.heap.FunFrames X.base X.outer:=by
 have all:∀(l:List Env),(∀ b∈kO l,b∈X.fs)→X.s₀.heap.FunFrames X.base l→s.heap.FunFrames X.base l:=by
  intro l;induction l with
  | nil=>intro _ _;trivial
  | cons env r ih=>
   intro hs hl;obtain⟨hk,⟨L,o,hf,hn,ho,hd⟩,hr⟩:=hl;have hL:L∈X.fs:=hs L (by unfold kO;rw[abp,hf];exact aaf);obtain⟨sl,e⟩:=I.base.slot L o ho (I.ok.xg L hL) hL fun z=>I.ok.oW L z hL;exact⟨hk,⟨L,_,hf,hn,e,hd⟩,ih (fun b hb=>hs b (by unfold kO;rw[abp,hf];exact Zo _ hb)) hr⟩
 exact all X.outer (fun _ hb=>hb) I.ok.gE
theorem Inv.stack(I:Inv X pins σ H s):s.heap.FunFrames X.base X.stack:=by
 rcases I.ok.AQ with e | ⟨e,hf⟩
 ·rw[e];exact I.gE
 ·rw[e]
  obtain⟨m,hn,_⟩:=I.loc;refine .cons (by rw[I.ok.kind];decide) hf hn ?_ I.gE;exact Heap.get?_none_of_le (ZG I.ok.wQ I.ok.above)
theorem Inv.mz(I:Inv X pins σ H s):∀ b∈kO X.stack,b∈X.env.locals::X.fs:=fun b hb=>by
 rcases I.ok.AQ with e | ⟨e,hf⟩
 ·rw[e]at hb;exact Zo _ hb
 ·rw[e]at hb
  unfold kO at hb;rw[abp,hf]at hb;exact hb
theorem Inv.jw(I:Inv X pins σ H s):∀ b∈kO X.stack,H b=none:=fun b hb=>by
 rcases Yq.mp (I.mz b hb)with e | hb
 ·rw[e];exact I.free
 ·obtain⟨_,o,ho,_⟩:=I.ok.gE.mem hb
  exact I.base.free b o ho (I.ok.xg b hb) fun z=>I.ok.oW b z hb
theorem Inv.step{g':Array GenState}{t':Nat}{d':Drawn}{ch:List Addr}(I:Inv X pins σ H s)
  (xf:∀ b∈ch,(b∈X.ex∨X.s₀.heap.objs.size≤b)∧b≠X.env.locals∧(∀ x c,X.env.cells.lookup x=some c→c≠b)∧∀ p∈X.pn++pins,p.1≠b)
  (keep:∀ b o,b≠X.env.locals→b∉X.fs→b∉ch→s.heap.get? b=some o→H b=none→h'.get? b=some o)
  (slot:∀ b o,b≠X.env.locals→b∈X.fs→b∉ch→s.heap.get? b=some o→H b=none→∃ sl,h'.get? b=some {o with slots:=sl}) (free:∀ b o,b∉ch→s.heap.get? b=some o→H b=none→H' b=none)
  (there:∀ b o,b∉ch→s.heap.get? b=some o→∃ o',h'.get? b=some o')
  (gW:∀ b xs,H b=some (.tup xs)→H' b=some (.tup xs)) (gF:∀ b o u,H b=some (.frz o u)→H' b=some (.frz o u)) (gY:∀ b ps,H b=some (.tbl ps)→∃ more,H' b=some (.tbl (ps++more)))
  (ns:∀ m,s.heap.Ns X.env.locals m→h'.Ns X.env.locals m) (bB:h9 X.prog X.w H' h') (hg:AllBare g') :
  Inv X pins σ H' {s with heap:=h',gens:=g',drawn:=d',toks:=t'}:=by
 have P4:∀ b o,X.s₀.heap.get? b=some o→b≠X.env.locals:=fun b o e=>YI (YQ (Yr e) I.ok.above);have IT:∀ b o,X.s₀.heap.get? b=some o→b∉X.ex→b∉ch:=fun b o e hx hb=>by
  rcases(xf b hb).1 with z | z
  ·exact hx z
  ·exact absurd (YQ (Yr e) z) (ZD _)
 have cellK:∀ x c,X.env.cells.lookup x=some c→∀ v,s.heap.IsCell c v→h'.IsCell c v:=fun x c e v ⟨o,ho,hd⟩=>by
  have vT:c∉ch:=fun z=>(xf c z).2.2.1 x c e rfl;by_cases hc:c∈X.fs
  ·obtain⟨sl,q⟩:=slot c o (I.CS x c e) hc vT ho (I.dG x c e)
   exact⟨_,q,hd⟩
  ·exact⟨o,keep c o (I.CS x c e) hc vT ho (I.dG x c e),hd⟩
 refine⟨I.ok,I.os,hg,⟨fun b o e n hb hx=>?_,fun b o e n hb hx=>?_,fun b o e n hx=>?_,fun b o e hx=>?_,fun b xs e=>gW b xs (I.base.gW b xs e),fun b o xs e=>gF b o xs (I.base.gF b o xs e),fun b ps e=>?_⟩,?_,fun x c e=>?_,?_,fun x c e=>?_,fun p hp=>?_,bB,I.len⟩
 ·exact keep b o (P4 b o e) hb (IT b o e hx) (I.base.keep b o e n hb hx) (I.base.free b o e n hx)
 ·obtain⟨sl,e1⟩:=I.base.slot b o e n hb hx
  obtain⟨Sl,e2⟩:=slot b _ (P4 b o e) hb (IT b o e hx) e1 (I.base.free b o e n hx);exact⟨Sl,e2⟩
 ·obtain⟨o',e1⟩:=I.base.there b o e hx
  exact free b o' (IT b o e hx) e1 (I.base.free b o e n hx)
 ·obtain⟨o',e1⟩:=I.base.there b o e hx
  exact there b o' (IT b o e hx) e1
 ·obtain⟨m1,e1⟩:=I.base.gY b ps e
  obtain⟨m2,e2⟩:=gY b _ e1;exact⟨m1++m2,by rw[e2,Array.append_assoc]⟩
 ·obtain⟨m,hn,hl⟩:=I.loc
  refine⟨m,ns m hn,fun i x v e1 e2 e3=>?_⟩;obtain⟨u,r,l⟩:=hl i x v e1 e2 e3;refine⟨u,r,?_⟩;rcases l with l | ⟨k,c,e,z⟩
  ·exact .inl l
  ·exact .inr ⟨k,c,e,cellK x c e _ z⟩
 ·obtain⟨v,z⟩:=I.cell x c e
  exact⟨v,cellK x c e v z⟩
 ·obtain⟨m,⟨o,_,_,ho,_⟩,_⟩:=I.loc
  exact free _ o (fun z=>(xf _ z).2.1 rfl) ho I.free
 ·obtain⟨v,o,ho,hd⟩:=I.cell x c e
  exact free c o (fun z=>(xf c z).2.2.1 x c e rfl) ho (I.dG x c e)
 ·obtain⟨e,n,ne,nf,d⟩:=I.pin p hp
  have vT:p.1∉ch:=fun z=>(xf p.1 z).2.2.2 p hp rfl;exact⟨keep p.1 p.2 ne nf vT e n,free p.1 p.2 vT e n,ne,nf,d⟩
theorem Inv.un{t':Nat}(I:Inv X pins σ H s)(u:Un X.fs [] H H' s.heap h')(bB:h9 X.prog X.w H' h'):Inv X pins σ H' {s with heap:=h',toks:=t'}:=by
 obtain⟨m,⟨o,es,ep,ho,r⟩,_⟩:=id I.loc;obtain⟨sl,hL⟩:=u.any ho I.free (by simp);exact I.step (g':=s.gens) (d':=s.drawn) (ch:=[]) (fun _ z=>nomatch z) (fun b o _ hb _ e n=>u.keep b o e n hb (by simp)) (fun b o _ hb _ e n=>u.slot b o e n hb (by simp)) (fun b o _ e n=>u.free b o e n (by simp)) (fun b o _ e=>u.there b o e (by simp)) u.gW u.gF u.gY (fun m' hm=>by
  obtain⟨o',NM,DK,jC,r'⟩:=hm;rw[ho]at jC;cases jC;exact⟨_,NM,DK,hL,r'⟩) bB I.bare
theorem Inv.call{g':Array GenState}{t':Nat}{d':Drawn}{ch:List Addr}(I:Inv X pins σ H s)(u:Un (kO X.stack) ch H H' s.heap h')(bB:h9 X.prog X.w H' h')(hg:AllBare g')
  (xf:∀ b∈ch,(b∈X.ex∨X.s₀.heap.objs.size≤b)∧b≠X.env.locals∧(∀ x c,X.env.cells.lookup x=some c→c≠b)∧∀ p∈X.pn++pins,p.1≠b) :
  Inv X pins σ H' {s with heap:=h',gens:=g',drawn:=d',toks:=t'}:=by
 obtain⟨m,⟨o,es,ep,ho,r⟩,_⟩:=id I.loc;obtain⟨sl,hL⟩:=u.any ho I.free fun z=>(xf _ z).2.1 rfl;exact I.step (ch:=ch) xf (fun b o hL hb hc e n=>u.keep b o e n (fun z=>(Yq.mp (I.mz b z)).elim hL hb) hc) (fun b o _ _ hc e n=>u.any e n hc) (fun b o hc e n=>u.free b o e n hc) (fun b o hc e=>u.there b o e hc) u.gW u.gF u.gY (fun m' hm=>by
  obtain⟨o',NM,DK,jC,r'⟩:=hm;rw[ho]at jC;cases jC;exact⟨_,NM,DK,hL,r'⟩) bB hg
theorem Inv.turned{t':Nat}{it:Addr}(I:Inv X pins σ H s)(k:∀ b o,b≠it→s.heap.get? b=some o→h'.get? b=some o)(hn:H it=none)(hL:it≠X.env.locals)
  (h1:it∈X.ex∨X.s₀.heap.objs.size≤it) (h2:∀ x c,X.env.cells.lookup x=some c→c≠it) (h3:∀ p∈X.pn++pins,p.1≠it):Inv X pins σ H {s with heap:=h',toks:=t'}:=by
 have P2:∀ b u,H b=some u→b≠it:=fun b u e z=>by rw[z,hn]at e;cases e
 refine I.step (g':=s.gens) (d':=s.drawn) (ch:=[it]) (fun b hb=>?_) (fun b o _ _ hc e _=>k b o (fun z=>hc (by simp[z])) e) (fun b o _ _ hc e _=>⟨o.slots,k b o (fun z=>hc (by simp[z])) e⟩) (fun _ _ _ _ n=>n)
  (fun b o hc e=>⟨o,k b o (fun z=>hc (by simp[z])) e⟩) (fun _ _ e=>e) (fun _ _ _ e=>e) (fun b ps e=>⟨#[],by rw[e];simp⟩) (fun m hm=>?_) (fun b u e=>?_) I.bare
 ·have e:b=it:=by simpa using hb
  subst e;exact⟨h1,hL,h2,h3⟩
 ·obtain⟨o,es,ep,ho,r⟩:=hm
  exact⟨o,es,ep,k _ o (aaV hL) ho,r⟩
 ·refine(I.bB b u e).mC (fun c v hc q=>k c v ?_ q) (fun _ q=>q) fun _ _ q=>q
  rcases hc with z | z
  ·rw[z];exact P2 b u e
  ·exact P2 c _ z
theorem Inv.tok(I:Inv X pins σ H s)(t:Nat):Inv X pins σ H {s with toks:=t}:=I.un (h':=s.heap) (t':=t) Un.refl I.bB
theorem Inv.kept{t':Nat}(I:Inv X pins σ H s)(k:∀ b u,s.heap.get? b=some u→h'.get? b=some u):Inv X pins σ H {s with heap:=h',toks:=t'}:=I.un (Un.kept k) (I.bB.kept k)
theorem Inv.laid{a:Addr}{o:HO}{t':Nat}(I:Inv X pins σ H s)(k:∀ b u,s.heap.get? b=some u→h'.get? b=some u)(hp:s.heap.objs.size≤a)(new:bK X.prog X.w (upd H a o) h' a o):
  Inv X pins σ (upd H a o) {s with heap:=h',toks:=t'}:=I.un (Un.laid k hp (I.bB.fresh hp)) (I.bB.laid k hp new)
theorem Inv.write{x e:Addr}{o:HO}{t':Nat}(I:Inv X pins σ H s)(mu:Ir (H x))(he:e=x∨H e=some (.own x))(k:∀ b u,b≠e→s.heap.get? b=some u→h'.get? b=some u)(DB:∃ u,h'.get? e=some u)
  (new:bK X.prog X.w (upd H x o) h' x o):Inv X pins σ (upd H x o) {s with heap:=h',toks:=t'}:=I.un (Un.write mu he k DB) (I.bB.write mu he k DB new)
theorem Inv.rC{j9:List (Addr×Obj)}(I:Inv X pins σ H s)(h:∀ p∈j9,s.heap.get? p.1=some p.2∧H p.1=none∧p.1≠X.env.locals∧p.1∉X.fs∧∀ v,p.2.data≠.cell v):Inv X j9 σ H s:=
 ⟨I.ok,I.os,I.bare,I.base,I.loc,I.cell,I.free,I.dG,fun p hp=>(YE.mp hp).elim (fun z=>I.pin p (Zw _ z)) (h p),I.bB,I.len⟩
theorem oB{N:List Str}(hN:N.Nodup){i j:Nat}{x:Str}(a:N[i]? = some x)(b:N[j]? = some x):i=j:=by
 obtain⟨h1,e1⟩:=YO.mp a;obtain⟨h2,e2⟩:=YO.mp b;exact(List.getElem_inj hN).mp (e1.trans e2.symm)
theorem lG{M:Model}{A:Around}{E:Value→Shared→Prop}{i:Nat}{x:Str}{v:V}{u:Value}{Q:Unit→Shared→Prop}(I:Inv X pins σ H s)(hN:X.N.Nodup)(hi:X.N[i]? = some x)(hx:Loc X.env.scope x)(r:RelV v u)
  (h:∀ s',Inv X pins (σ.set i (some v)) H s'→(∃ a,Heap.SameBut a s.heap s'.heap∧(a=X.env.locals∨X.env.cells.lookup x=some a))→Q () s') (hf:X.fn x=true∨X.env.scope.names.lookup x=some .local:=by first | exact .inl rfl | exact .inr rfl | assumption):wpAny M A (storeName X.env x u) Q E s:=by
 obtain⟨m,hn,hl⟩:=id I.loc;have Nb:(X.env.scope.kind == .class||(X.env.scope.kind == .module&&X.env.locals != X.env.globals))=false:=by rw[I.ok.kind];rfl
 have Qz:i < σ.length:=by rw[I.len];exact(YO.mp hi).1
 have CS:=I.CS;have tracked:∀{a:Addr} {h':Heap},(∃ o,s.heap.get? a=some o∧H a=none)→Heap.SameBut a s.heap h'→h9 X.prog X.w H h':=fun {a h'} ha hs b ob e=>by
  obtain⟨_,_,zQ⟩:=ha;refine(I.bB b ob e).mC (fun c w' hc q=>(hs.2 c ?_).trans q) (fun _ q=>q) fun _ _ q=>q;rintro rfl;rcases hc with rfl | hc
  ·rw[zQ]at e;cases e
  ·rw[zQ]at hc;cases hc
 rcases hx with hk | hk
 ·refine wpAny_storeName_local hk hn (fun h' Qu hs=>?_) Nb
  obtain⟨oL,_,_,GF,_⟩:=id hn;refine h _ ⟨I.ok,I.os,I.bare,⟨fun b o e n hb hx=>?_,fun b o e n hb hx=>?_,I.base.free,fun b o e hx=>?_,I.base.gW,I.base.gF,I.base.gY⟩,⟨_,Qu,fun j y v' e1 e2 e3=>?_⟩,fun y c e=>?_,I.free,I.dG,fun p hp=>?_,tracked ⟨oL,GF,I.free⟩ hs,by simpa using I.len⟩ ⟨_,hs,.inl rfl⟩
  ·exact(hs.2 b (YI (YQ (Yr e) I.ok.above))).trans (I.base.keep b o e n hb hx)
  ·obtain⟨sl,e1⟩:=I.base.slot b o e n hb hx
   exact⟨sl,(hs.2 b (YI (YQ (Yr e) I.ok.above))).trans e1⟩
  ·obtain⟨o',e1⟩:=I.base.there b o e hx
   exact⟨o',(hs.2 b (YI (YQ (Yr e) I.ok.above))).trans e1⟩
  ·by_cases hj:j=i
   ·subst hj
    rw[hi]at e1;cases e1;rw[aa4 Qz]at e2;cases e2;exact⟨u,r,.inl ⟨hk,by simp⟩⟩
   ·rw[abe (aaV hj)]at e2
    obtain⟨u',r',q⟩:=hl j y v' e1 e2 e3;refine⟨u',r',?_⟩;rcases q with⟨k,e⟩ | ⟨k,c,e,z⟩
    ·refine .inl ⟨k,?_⟩
     have:y≠x:=fun e=>hj (oB hN e1 (e ▸ hi));simp[this,e]
    ·exact .inr ⟨k,c,e,z.sameBut hs (CS y c e)⟩
  ·obtain⟨w',z⟩:=I.cell y c e
   exact⟨w',z.sameBut hs (CS y c e)⟩
  ·obtain⟨e,n,ne,nf,d⟩:=I.pin p hp
   exact⟨(hs.2 p.1 ne).trans e,n,ne,nf,d⟩
 ·have M7:X.fn x=true:=by
   rcases hf with z | z
   ·exact z
   ·rw[z]at hk;cases hk
  obtain⟨c,hc⟩:=I.ok.has x (.inl hk);obtain⟨w',z⟩:=I.cell x c hc;refine wpAny_storeName_cell I.ok.kind hk hc z (fun h' wu hs=>?_);obtain⟨oc,Jf,MT⟩:=id z;refine h {s with heap:=h'} ⟨I.ok,I.os,I.bare,⟨fun b o e n hb hx=>?_,fun b o e n hb hx=>?_,I.base.free,fun b o e hx=>?_,I.base.gW,I.base.gF,I.base.gY⟩,⟨m,hn.sameBut hs (aaV (CS x c hc)),fun j y v' e1 e2 e3=>?_⟩,fun y c' e=>?_,I.free,I.dG,fun p hp=>?_,tracked ⟨oc,Jf,I.dG x c hc⟩ hs,by simpa using I.len⟩ ⟨c,hs,.inr hc⟩
  ·exact(hs.2 b (YI (YQ (Yr e) (I.ok.Ac x c M7 hc)))).trans (I.base.keep b o e n hb hx)
  ·obtain⟨sl,e1⟩:=I.base.slot b o e n hb hx
   exact⟨sl,(hs.2 b (YI (YQ (Yr e) (I.ok.Ac x c M7 hc)))).trans e1⟩
  ·obtain⟨o',e1⟩:=I.base.there b o e hx
   exact⟨o',(hs.2 b (YI (YQ (Yr e) (I.ok.Ac x c M7 hc)))).trans e1⟩
  ·by_cases hj:j=i
   ·subst hj
    rw[hi]at e1;cases e1;rw[aa4 Qz]at e2;cases e2;exact⟨u,r,.inr ⟨.inl hk,c,hc,wu⟩⟩
   ·rw[abe (aaV hj)]at e2
    obtain⟨u',r',q⟩:=hl j y v' e1 e2 e3;refine⟨u',r',?_⟩;rcases q with q | ⟨k,c',e,z'⟩
    ·exact .inl q
    ·refine .inr ⟨k,c',e,z'.sameBut hs ?_⟩
     rintro rfl;exact hj (oB hN e1 (I.ok.inj _ _ _ e hc ▸ hi))
  ·by_cases QF:c'=c
   ·subst QF;exact⟨_,wu⟩
   ·obtain⟨w2,z2⟩:=I.cell y c' e
    exact⟨w2,z2.sameBut hs QF⟩
  ·obtain⟨e,n,ne,nf,d⟩:=I.pin p hp
   refine⟨(hs.2 p.1 ?_).trans e,n,ne,nf,d⟩;intro q;rw[q,Jf]at e;have q':oc=p.2:=Y5 e;exact d w' (by rw[← q'];exact MT)
theorem jP{M:Model}{A:Around}{E:Value→Shared→Prop}{i:Nat}{x:Str}{v:V}{u:Value}{Q:Unit→Shared→Prop}(I:Inv X pins σ H s)(hN:X.N.Nodup)(hi:X.N[i]? = some x)(hx:Loc X.env.scope x)(r:RelV v u)
  (h:∀ s',Inv X pins (σ.set i (some v)) H s'→Q () s') (hf:X.fn x=true∨X.env.scope.names.lookup x=some .local:=by first | exact .inl rfl | exact .inr rfl | assumption):wpAny M A (storeName X.env x u) Q E s:=
 lG I hN hi hx r (fun s' I' _=>h s' I') hf
theorem Inv.Ab{s':Shared}{ch:List Addr}(I:Inv X pins σ H s)(ho:s'.os=s.os)(u:Un (kO X.stack) ch H H' s.heap s'.heap)(bB:h9 X.prog X.w H' s'.heap)(hg:AllBare s'.gens)
  (xf:∀ b∈ch,(b∈X.ex∨X.s₀.heap.objs.size≤b)∧b≠X.env.locals∧(∀ x c,X.env.cells.lookup x=some c→c≠b)∧∀ p∈X.pn++pins,p.1≠b):Inv X pins σ H' s':=by
 obtain⟨h',g',d',t',o'⟩:=s';have e:o'=s.os:=ho;subst e;exact I.call (g':=g') (t':=t') (d':=d') u bB hg xf
end
abbrev XK:=Value→Option Addr→Hp→Prop
abbrev St:=List (Option V)
abbrev VK:=V→Hp→Prop
abbrev TE:=St→Hp→VK→Prop
abbrev TT:=St→Hp→(Bool→Hp→Prop)→Prop
abbrev TA:=St→Hp→(List V→Hp→Prop)→Prop
structure Ends where
 nx:St→Hp→Prop
 rt:VK
 bk:St→Hp→Prop:=fun _ _=>False
 ct:St→Hp→Prop:=fun _ _=>False
abbrev TS:=Ends→St→Hp→Prop
def EP(X:Cx)(pins:List (Addr×Obj))(σ:St)(Q:VK)(u:Value)(s':Shared):Prop:=∃ v H',Inv X pins σ H' s'∧RelV v u∧Q v H'
def TP(X:Cx)(pins:List (Addr×Obj))(σ:St)(Q:Bool→Hp→Prop)(b:Bool)(s':Shared):Prop:=∃ H',Inv X pins σ H' s'∧Q b H'
def AP(X:Cx)(pins:List (Addr×Obj))(σ:St)(Q:List V→Hp→Prop)(us:List Value)(s':Shared):Prop:=∃ vs H',Inv X pins σ H' s'∧Vals vs us∧Q vs H'
def SP(X:Cx)(pins:List (Addr×Obj))(D:Ends)(f:Flow)(s':Shared):Prop:=
 match f with
 | .next=>∃ σ' H',Inv X pins σ' H' s'∧D.nx σ' H'
 | .brk=>∃ σ' H',Inv X pins σ' H' s'∧D.bk σ' H'
 | .cont=>∃ σ' H',Inv X pins σ' H' s'∧D.ct σ' H'
 | .ret u=>∃ v σ' H',Inv X pins σ' H' s'∧RelV v u∧D.rt v H'
structure PE(X:Cx)(e:Expr)(t:TE):Prop where
 run:∀(pins:List (Addr×Obj)) (s:Shared) (σ:St) (H:Hp) (Q:VK),Inv X pins σ H s→t σ H Q→wpAny (model X.prog X.w) X.A (eval e X.env) (EP X pins σ Q) X.xe s
instance {X:Cx}{e:Expr}{t:TE}:CoeFun (PE X e t) fun _=>∀(pins:List (Addr×Obj)) (s:Shared) (σ:St) (H:Hp) (Q:VK),Inv X pins σ H s→t σ H Q→wpAny (model X.prog X.w) X.A (eval e X.env) (EP X pins σ Q) X.xe s:=⟨PE.run⟩
structure PT(X:Cx)(e:Expr)(t:TT):Prop where
 run:∀(pins:List (Addr×Obj)) (s:Shared) (σ:St) (H:Hp) (Q:Bool→Hp→Prop),Inv X pins σ H s→t σ H Q→wpAny (model X.prog X.w) X.A (isTrue e X.env (eval e X.env)) (TP X pins σ Q) X.xe s
instance {X:Cx}{e:Expr}{t:TT}:CoeFun (PT X e t) fun _=>∀(pins:List (Addr×Obj)) (s:Shared) (σ:St) (H:Hp) (Q:Bool→Hp→Prop),Inv X pins σ H s→t σ H Q→wpAny (model X.prog X.w) X.A (isTrue e X.env (eval e X.env)) (TP X pins σ Q) X.xe s:=⟨PT.run⟩
structure PW(X:Cx)(e:Expr)(t:TT):Prop where
 run:∀(whole:Sem Value) (pins:List (Addr×Obj)) (s:Shared) (σ:St) (H:Hp) (Q:Bool→Hp→Prop),Inv X pins σ H s→t σ H Q→wpAny (model X.prog X.w) X.A (isTrue e X.env whole) (TP X pins σ Q) X.xe s
instance {X:Cx}{e:Expr}{t:TT}:CoeFun (PW X e t) fun _=>∀(whole:Sem Value) (pins:List (Addr×Obj)) (s:Shared) (σ:St) (H:Hp) (Q:Bool→Hp→Prop),Inv X pins σ H s→t σ H Q→wpAny (model X.prog X.w) X.A (isTrue e X.env whole) (TP X pins σ Q) X.xe s:=⟨PW.run⟩
theorem PW.pt{X:Cx}{e:Expr}{t:TT}(h:PW X e t):PT X e t:=⟨h.run _⟩
structure PA(X:Cx)(es:List Expr)(t:TA):Prop where
 run:∀(pos:Pos) (pins:List (Addr×Obj)) (s:Shared) (σ:St) (H:Hp) (Q:List V→Hp→Prop),Inv X pins σ H s→t σ H Q→wpAny (model X.prog X.w) X.A (spliced (backTo pos (starEach es X.env))) (AP X pins σ Q) X.xe s
instance {X:Cx}{es:List Expr}{t:TA}:CoeFun (PA X es t) fun _=>∀(pos:Pos) (pins:List (Addr×Obj)) (s:Shared) (σ:St) (H:Hp) (Q:List V→Hp→Prop),Inv X pins σ H s→t σ H Q→wpAny (model X.prog X.w) X.A (spliced (backTo pos (starEach es X.env))) (AP X pins σ Q) X.xe s:=⟨PA.run⟩
structure PS(X:Cx)(st:Stmt)(t:TS):Prop where
 run:∀(pins:List (Addr×Obj)) (s:Shared) (σ:St) (H:Hp) (D:Ends),Inv X pins σ H s→t D σ H→wpAny (model X.prog X.w) X.A (exec st X.env) (SP X pins D) X.xe s
instance {X:Cx}{st:Stmt}{t:TS}:CoeFun (PS X st t) fun _=>∀(pins:List (Addr×Obj)) (s:Shared) (σ:St) (H:Hp) (D:Ends),Inv X pins σ H s→t D σ H→wpAny (model X.prog X.w) X.A (exec st X.env) (SP X pins D) X.xe s:=⟨PS.run⟩
structure gI(X:Cx)(st:List Stmt)(t:TS):Prop where
 run:∀(pins:List (Addr×Obj)) (s:Shared) (σ:St) (H:Hp) (D:Ends),Inv X pins σ H s→t D σ H→wpAny (model X.prog X.w) X.A (execs st X.env) (SP X pins D) X.xe s
instance {X:Cx}{st:List Stmt}{t:TS}:CoeFun (gI X st t) fun _=>∀(pins:List (Addr×Obj)) (s:Shared) (σ:St) (H:Hp) (D:Ends),Inv X pins σ H s→t D σ H→wpAny (model X.prog X.w) X.A (execs st X.env) (SP X pins D) X.xe s:=⟨gI.run⟩
theorem bL{α:Type}{t:Sem α}{Q Q':α→Shared→Prop}{M:Model}{A:Around}{E:Value→Shared→Prop}{s:Shared}(h:wpAny M A t Q E s)(hQ:∀ a s,Q a s→Q' a s):wpAny M A t Q' E s:=Zz h hQ fun _ _ x=>x
section
variable {X:Cx}
def Kb(i:Nat):TE:=fun σ H Q=>∃ v,σ[i]? = some (some v)∧Q v H
def tC(v:V):TE:=fun _ H Q=>Q v H
theorem Bo{i:Nat}{x:Str}{pos:Pos}(hN:X.N[i]? = some x)(hv:Io X.env.scope x)(hd:(x ==("__debug__" : Str))=false:=by decide)(qH:(x ==("__classdict__" : Str))=false:=by decide):PE X (.Name x pos) (Kb i):=by
 refine .mk ?_;intro pins s σ H Q I h;obtain⟨v,e,h⟩:=h;obtain⟨m,hn,hl⟩:=I.loc;obtain⟨u,r,l⟩:=hl i x v hN e hv;have fin:EP X pins σ Q u s:=⟨v,H,I,r,h⟩;rcases l with⟨hk,hm⟩ | ⟨hk,c,hc,rN⟩
 ·exact wpAny_Name (wpAny_loadName_local I.ok.kind hk hn hm fin) hd
 ·rcases hk with hk | hk
  ·exact wpAny_Name (wpAny_loadName_cell I.ok.kind hk hc rN fin) hd
  ·exact wpAny_Name (wpAny_loadName_free I.ok.kind hk hc rN fin qH) hd
theorem Bx{i j pos}:PE X (.Constant (.int i) j pos) (tC (.int i)):=.mk fun _ _ _ H _ I h=>wpAny_Constant_int ⟨.int i,H,I.tok _,⟨_,rfl⟩,h⟩
theorem FC{b j pos}:PE X (.Constant (.bool b) j pos) (tC (.bl b)):=.mk fun _ _ _ H _ I h=>Constant_bool ⟨.bl b,H,I,rfl,h⟩
theorem Bv{j pos}:PE X (.Constant .none j pos) (tC .non):=.mk fun _ _ _ H _ I h=>Constant_none ⟨.non,H,I,rfl,h⟩
theorem Bq{x j pos}:PE X (.Constant (.str x) j pos) (tC (.str x)):=.mk fun _ _ _ H _ I h=>Calls.Constant_str ⟨.str x,H,I.tok _,⟨_,rfl⟩,h⟩
def Gl(X:Cx)(x:Str):Prop:=X.env.kindOf x=some .globalImplicit
theorem iD{E:Value→Shared→Prop}{pins:List (Addr×Obj)}{s:Shared}{σ:St}{H:Hp}{x:Str}{u:Value}{pos:Pos}{Q:Value→Shared→Prop}(I:Inv X pins σ H s)(hg:Gl X x)(hm:X.mg x=some u)(h:Q u s)
  (hd:(x ==("__debug__" : Str))=false:=by decide):wpAny (model X.prog X.w) X.A (eval (.Name x pos) X.env) Q E s:=
 Calls.Name_function_global I.ok.kind hg (Calls.loadGlobal_global (by rw[I.ok.glob];exact I.mod.glob.keeps I.bk) hm h) hd
theorem fY{E:Value→Shared→Prop}{pins:List (Addr×Obj)}{s:Shared}{σ:St}{H:Hp}{x:Str}{u:Value}{pos:Pos}{Q:Value→Shared→Prop}(I:Inv X pins σ H s)(hg:Gl X x)(hm:X.mg x=none)(hv:bootBuiltins x=some u)(h:Q u s)
  (hn:x ≠ "__name__" := by decide) (hd:(x ==("__debug__" : Str))=false:=by decide):wpAny (model X.prog X.w) X.A (eval (.Name x pos) X.env) Q E s:=by
 obtain⟨mb,h1,h2⟩:=I.mod.blt;exact Calls.Name_function_global I.ok.kind hg (Calls.loadGlobal_builtin (by rw[I.ok.glob];exact I.mod.glob.keeps I.bk) hm (by rw[I.ok.blt];exact h1.keeps I.bk) ((h2 x hn).trans hv) h) hd
theorem yh{x:Str}{v:V}{u:Value}{pos:Pos}(hg:Gl X x)(hm:X.mg x=some u)(r:RelV v u)(hd:(x ==("__debug__" : Str))=false:=by decide):PE X (.Name x pos) (tC v):=
 .mk fun _ _ _ H _ I h=>iD I hg hm ⟨v,H,I,r,h⟩ hd
theorem yo{x:Str}{v:V}{u:Value}{pos:Pos}(hg:Gl X x)(hm:X.mg x=none)(hv:bootBuiltins x=some u)(r:RelV v u)(hn:x ≠ "__name__" := by decide)(hd:(x ==("__debug__" : Str))=false:=by decide):PE X (.Name x pos) (tC v):=
 .mk fun _ _ _ H _ I h=>fY I hg hm hv ⟨v,H,I,r,h⟩ hn hd
variable {a b:Expr}{ta tb:TE}{pos:Pos}
structure PC(X:Cx)(op:CmpOp)(a b:Expr)(t:TE):Prop where
 run:∀(pins:List (Addr×Obj)) (s:Shared) (σ:St) (H:Hp) (Q:VK),Inv X pins σ H s→t σ H Q →
  wpAny (model X.prog X.w) X.A (eval a X.env) (fun v s₁=>wpAny (model X.prog X.w) X.A (eval b X.env) (fun u s₂=>wpAny (model X.prog X.w) X.A (compareOp op v u) (EP X pins σ Q) X.xe s₂) X.xe s₁) X.xe s
instance {X:Cx}{op:CmpOp}{a b:Expr}{t:TE}:CoeFun (PC X op a b t) fun _=>∀(pins:List (Addr×Obj)) (s:Shared) (σ:St) (H:Hp) (Q:VK),Inv X pins σ H s→t σ H Q→wpAny (model X.prog X.w) X.A (eval a X.env) (fun v s₁=>wpAny (model X.prog X.w) X.A (eval b X.env) (fun u s₂=>wpAny (model X.prog X.w) X.A (compareOp op v u) (EP X pins σ Q) X.xe s₂) X.xe s₁) X.xe s:=⟨PC.run⟩
def tB(t:TE):TT:=fun σ H Q=>t σ H fun x H1=>∃ c,x=.bl c∧Q c H1
theorem A9{e:Expr}{t:TE}(h:PE X e t)(he:∀ whole,isTrue e X.env whole=(do let v ← whole;standAt e.pos;holding [v] (truthy v)):=by intro _;rfl):PT X e (tB t):=by
 refine .mk ?_;intro pins s σ H Q I hw;refine isTrue_plain (bL (h pins s σ H _ I hw) fun v s1 ⟨x,H1,I1,r1,q1⟩=>?_) (he _);obtain⟨d,rfl,q⟩:=q1;cases r1;exact ZN ⟨H1,I1,q⟩
variable {tA EI:TT}{rest:List Expr}
def Ko(t u:TT):TT:=fun σ H Q=>t σ H fun c H1=>if c=true then u σ H1 Q else Q false H1
def R7(t u:TT):TT:=fun σ H Q=>t σ H fun c H1=>if c=true then Q true H1 else u σ H1 Q
def Kf(t:TT):TT:=fun σ H Q=>t σ H fun c H1=>Q (!c) H1
theorem xR(ha:PT X a tA):PW X (.BoolOp .And [a] pos) tA:=by
 refine .mk ?_;intro wh pins s σ H Q I h;refine isTrue_and (bL (ha pins s σ H Q I h) fun c s1 e=>?_);cases c with
 | true=>exact isTrue_and_nil e
 | false=>exact e
theorem A7(ha:PT X a tA):PW X (.BoolOp .Or [a] pos) tA:=by
 refine .mk ?_;intro wh pins s σ H Q I h;refine isTrue_or (bL (ha pins s σ H Q I h) fun c s1 e=>?_);cases c with
 | false=>exact isTrue_or_nil e
 | true=>exact e
theorem A8(ha:PT X a tA)(hb:PW X (.BoolOp .And (b::rest) pos) EI):PW X (.BoolOp .And (a::b::rest) pos) (Ko tA EI):=by
 refine .mk ?_;intro wh pins s σ H Q I h;refine isTrue_and (bL (ha pins s σ H _ I h) fun c s1 ⟨H1,I1,q1⟩=>?_);cases c with
 | true=>exact hb wh pins s1 σ H1 Q I1 q1
 | false=>exact⟨H1,I1,q1⟩
theorem Ft(ha:PT X a tA)(hb:PW X (.BoolOp .Or (b::rest) pos) EI):PW X (.BoolOp .Or (a::b::rest) pos) (R7 tA EI):=by
 refine .mk ?_;intro wh pins s σ H Q I h;refine isTrue_or (bL (ha pins s σ H _ I h) fun c s1 ⟨H1,I1,q1⟩=>?_);cases c with
 | true=>exact⟨H1,I1,q1⟩
 | false=>exact hb wh pins s1 σ H1 Q I1 q1
theorem Ba(ha:PT X a tA):PT X (.UnaryOp .Not a pos) (Kf tA):=by
 refine .mk ?_;intro pins s σ H Q I h;exact isTrue_not (ha pins s σ H (fun c H1=>Q (!c) H1) I h)
def EJ(ta tb:TE):TE:=fun σ H Q=>ta σ H fun x H1=>∃ c,x=.bl c∧if c=true then tb σ H1 Q else Q (.bl false) H1
def EB(ta:TE):TE:=fun σ H Q=>ta σ H fun x H1=>∃ c,x=.bl c∧Q (.bl (!c)) H1
theorem Br{op}{t:TE}(h:PE X a t):PE X (.BoolOp op [a] pos) t:=.mk fun pins s σ H Q I hw=>BoolOp_one (h pins s σ H Q I hw)
theorem BA(ha:PE X a ta)(hb:PE X (.BoolOp .And (b::rest) pos) tb):PE X (.BoolOp .And (a::b::rest) pos) (EJ ta tb):=by
 refine .mk ?_;intro pins s σ H Q I h;refine BoolOp_and (bL (ha pins s σ H _ I h) fun v s1 ⟨x,H1,I1,r1,q1⟩=>?_);obtain⟨c,rfl,q1⟩:=q1;cases r1;refine ZN ?_;cases c with
 | true=>exact hb pins s1 σ H1 Q I1 q1
 | false=>exact⟨.bl false,H1,I1,rfl,q1⟩
theorem Bu(ha:PE X a ta):PE X (.UnaryOp .Not a pos) (EB ta):=by
 refine .mk ?_;intro pins s σ H Q I h;refine UnaryOp_ (bL (ha pins s σ H _ I h) fun v s1 ⟨x,H1,I1,r1,q1⟩=>?_);obtain⟨c,rfl,q1⟩:=q1;cases r1;exact not_of (ZN ⟨.bl (!c),H1,I1,rfl,q1⟩)
def R8(t:TT)(ta tb:TE):TE:=fun σ H Q=>t σ H fun c H1=>if c=true then ta σ H1 Q else tb σ H1 Q
theorem vB{c:Expr}(hc:PT X c tA)(ha:PE X a ta)(hb:PE X b tb):PE X (.IfExp c a b pos) (R8 tA ta tb):=by
 refine .mk ?_;intro pins s σ H Q I h;refine wpAny_IfExp (bL (hc pins s σ H _ I h) fun d s1 ⟨H1,I1,q1⟩=>?_);cases d with
 | true=>exact ha pins s1 σ H1 Q I1 q1
 | false=>exact hb pins s1 σ H1 Q I1 q1
end
def dF(K:W.Frag)(H:Hp)(a:Addr)(xs:List V):Prop:=
 Rd H a (.lst xs) ∨
  ∃(o:Obj) (aA:Array Value) (n:Nat),K.lookup a=some o∧o.cls=.type "list" ∧ o.dict=none∧o.data=.seq aA n∧aA.size≤sizeLine∧Vals xs aA.toList
def iM(K:W.Frag)(H:Hp)(a:Addr)(xs:List V):Prop:=
 Rd H a (.tup xs) ∨
  ∃(o:Obj) (aA:Array Value) (n:Nat),K.lookup a=some o∧o.cls=.type "tuple" ∧ o.data=.seq aA n∧aA.size≤sizeLine∧Vals xs aA.toList
def OO:Value→Option V
 | .none=>some .non
 | .bool b=>some (.bl b)
 | .int i _=>some (.int i)
 | .str x _=>some (.str x)
 | .bytes b _=>some (.byt b)
 | .float b _=>some (.flt b)
 | .ref a=>some (.ref a)
 | .type n=>some (.ty n)
 | _=>none
theorem RelV.abs{x:V}{u:Value}(r:RelV x u):OO u=some x:=by
 cases x with
 | non=>cases r;rfl
 | bl _=>cases r;rfl
 | int _=>obtain⟨t,rfl⟩:=r;rfl
 | str _=>obtain⟨t,rfl⟩:=r;rfl
 | byt _=>obtain⟨t,rfl⟩:=r;rfl
 | flt _=>obtain⟨t,rfl⟩:=r;rfl
 | ref _=>cases r;rfl
 | ty _=>cases r;rfl
theorem RelV.inj{x y:V}{u:Value}(r:RelV x u)(q:RelV y u):x=y:=Y5 (r.abs.symm.trans q.abs)
theorem Vals.inj:∀{xs ys:List V} {us:List Value},Vals xs us→Vals ys us→xs=ys
 | _,_,_,.nil,.nil=>rfl
 | _,_,_,.cons r t,.cons r' t'=>by rw[r.inj r',Vals.inj t t']
section
variable {X:Cx}{pins:List (Addr×Obj)}{σ:St}{H:Hp}{s:Shared}{a:Addr}{xs ys:List V}
theorem dF.of{K:W.Frag}(h:H a=some (.lst xs)):dF K H a xs:=.inl (.inl h)
theorem iM.of{K:W.Frag}(h:H a=some (.tup xs)):iM K H a xs:=.inl (.inl h)
theorem Inv.list(I:Inv X pins σ H s)(h:dF X.K H a xs):∃ aA:List Value,Vals xs aA∧PlainL s.heap a aA.toArray∧xs.length≤sizeLine:=by
 rcases h with h | ⟨o,aA,n,hk,hc,hd,hs,hz,r⟩
 ·obtain⟨z,aA,n,r,e⟩:=h.ok I.bB
  exact⟨aA,r,⟨_,n,e,rfl,rfl,rfl⟩,z⟩
 ·refine⟨aA.toList,r,⟨o,n,I.iO a o hk,hc,hd,by simpa using hs⟩,?_⟩
  have e:=r.length;simp only[Yu]at e;omega
theorem Inv.tuple(I:Inv X pins σ H s)(h:iM X.K H a xs):∃ aA:List Value,Vals xs aA∧IsTup s.heap a aA.toArray∧xs.length≤sizeLine:=by
 rcases h with h | ⟨o,aA,n,hk,hc,hs,hz,r⟩
 ·obtain⟨z,aA,r,p⟩:=h.ok I.bB
  exact⟨aA,r,p,z⟩
 ·refine⟨aA.toList,r,⟨o,I.iO a o hk,hc,n,by simpa using hs⟩,?_⟩
  have e:=r.length;simp only[Yu]at e;omega
theorem Inv.iC(I:Inv X pins σ H s)(h:dF X.K H a xs)(h':dF X.K H a ys):xs=ys:=by
 obtain⟨aA,r,⟨o,n,e,_,_,d⟩,_⟩:=I.list h;obtain⟨its',r',⟨o',n',e',_,_,d'⟩,_⟩:=I.list h';rw[e]at e';cases e';rw[d]at d';injection d' with d1 _
 have:aA=its':=by simpa using ZM Array.toList d1
 subst this;exact r.inj r'
theorem Inv.lE(I:Inv X pins σ H s)(h:iM X.K H a xs)(h':iM X.K H a ys):xs=ys:=by
 obtain⟨aA,r,⟨o,e,_,n,d⟩,_⟩:=I.tuple h;obtain⟨its',r',⟨o',e',_,n',d'⟩,_⟩:=I.tuple h';rw[e]at e';cases e';rw[d]at d';injection d' with d1 _
 have:aA=its':=by simpa using ZM Array.toList d1
 subst this;exact r.inj r'
end
abbrev Cx.kQ(X:Cx)(E:Value→Shared→Prop):Cx:={X with xe:=E}
abbrev Cx.tJ(X:Cx):Cx:=X.kQ fun _ _=>False
theorem Cx.Ok.kQ{X:Cx}(ok:X.Ok)(E:Value→Shared→Prop):(X.kQ E).Ok:=
 ⟨ok.mod,ok.kind,ok.glob,ok.blt,ok.above,ok.inj,ok.has,ok.Ac,ok.hd,ok.frames,ok.AQ,ok.DJ,ok.bs,ok.wQ,ok.oA,ok.oW,ok.gE,ok.xg⟩
theorem Cx.Ok.fK{X:Cx}{E:Value→Shared→Prop}(ok:(X.kQ E).Ok):X.Ok:=
 ⟨ok.mod,ok.kind,ok.glob,ok.blt,ok.above,ok.inj,ok.has,ok.Ac,ok.hd,ok.frames,ok.AQ,ok.DJ,ok.bs,ok.wQ,ok.oA,ok.oW,ok.gE,ok.xg⟩
section
variable {X:Cx}{pins:List (Addr×Obj)}{σ:St}{H:Hp}{s:Shared}{E:Value→Shared→Prop}
theorem Inv.kQ(I:Inv X pins σ H s)(E:Value→Shared→Prop):Inv (X.kQ E) pins σ H s:=⟨I.ok.kQ E,I.os,I.bare,I.base,I.loc,I.cell,I.free,I.dG,I.pin,I.bB,I.len⟩
theorem Inv.fK(I:Inv (X.kQ E) pins σ H s):Inv X pins σ H s:=⟨I.ok.fK,I.os,I.bare,I.base,I.loc,I.cell,I.free,I.dG,I.pin,I.bB,I.len⟩
theorem SP.fK{D:Ends}{f:Flow}{s':Shared}(h:SP (X.kQ E) pins D f s'):SP X pins D f s':=by
 cases f with
 | next=>obtain⟨σ',H',I,q⟩:=h;exact⟨σ',H',I.fK,q⟩
 | brk=>obtain⟨σ',H',I,q⟩:=h;exact⟨σ',H',I.fK,q⟩
 | cont=>obtain⟨σ',H',I,q⟩:=h;exact⟨σ',H',I.fK,q⟩
 | ret u=>obtain⟨v,σ',H',I,r,q⟩:=h;exact⟨v,σ',H',I.fK,r,q⟩
theorem gI.tJ{st:List Stmt}{t:TS}(h:gI X.tJ st t):gI X st t:=.mk fun pins s σ H D I hw=>
 Zz (h pins s σ H D (I.kQ _) hw) (fun _ _ q=>q.fK) fun _ _ z=>False.elim z
end
section
variable {X:Cx}{st:Stmt}{rest:List Stmt}{t u:TS}{e:Expr}{te:TE}{pos:Pos}
def EC:TS:=fun D σ H=>D.nx σ H
def Kd(t u:TS):TS:=fun D σ H=>t {D with nx:=u D} σ H
theorem xW:gI X [] EC:=.mk fun _ _ σ H _ I h=>abq ⟨σ,H,I,h⟩
theorem vn(h1:PS X st t)(h2:gI X rest u):gI X (st::rest) (Kd t u):=by
 refine .mk ?_;intro pins s σ H D I h;refine wpAny_execs_cons (bL (h1 pins s σ H {D with nx:=u D} I h) fun f s1 q=>?_);cases f with
 | next=>
  obtain⟨σ',H',I',q⟩:=q;exact h2 pins s1 σ' H' D I' q
 | ret v=>exact q
 | brk=>exact q
 | cont=>exact q
theorem Inv.quiet{pins:List (Addr×Obj)}{σ:St}{H:Hp}{s:Shared}(I:Inv X pins σ H s):interactive X.env=false:=by simp[interactive,I.ok.kind]
def EF(te:TE):TS:=fun D σ H=>te σ H fun _ H1=>D.nx σ H1
theorem xZ(he:PE X e te)(hs:swapsWith e none pos.line X.env=pure false:=by rfl):PS X (.Expr e pos) (EF te):=by
 refine .mk ?_;intro pins s σ H D I h;exact wpAny_Expr_any (bL (he pins s σ H _ I h) fun v s1 ⟨x,H1,I1,r1,q1⟩=>⟨σ,H1,I1,q1⟩) I.quiet hs
def Ke(te:TE):TS:=fun D σ H=>te σ H D.rt
theorem Be(he:PE X e te):PS X (.Return (some e) pos) (Ke te):=by
 refine .mk ?_;intro pins s σ H D I h;exact wpAny_Return_some (bL (he pins s σ H _ I h) fun v s1 ⟨x,H1,I1,r1,q1⟩=>⟨x,σ,H1,I1,r1,q1⟩)
def Kh(c:TT)(t u:TS):TS:=fun D σ H=>c σ H fun b H1=>if b=true then t D σ H1 else u D σ H1
theorem Fu{c:Expr}{a b:List Stmt}{tc:TT}(hc:PT X c tc)(ha:gI X a t)(hb:gI X b u):PS X (.If c a b pos) (Kh tc t u):=by
 refine .mk ?_;intro pins s σ H D I h;refine wpAny_If (bL (hc pins s σ H _ I h) fun d s1 ⟨H1,I1,q1⟩=>?_);cases d with
 | true=>exact ha pins s1 σ H1 D I1 q1
 | false=>exact hb pins s1 σ H1 D I1 q1
end
abbrev TG:=V→St→Hp→(St→Hp→Prop)→Prop
abbrev wV:=List V→St→Hp→(St→Hp→Prop)→Prop
structure PG(X:Cx)(target:Expr)(t:TG):Prop where
 run:∀(pins:List (Addr×Obj)) (s:Shared) (σ:St) (H:Hp) (v:V) (u:Value) (Q:St→Hp→Prop),Inv X pins σ H s→RelV v u→t v σ H Q →
  wpAny (model X.prog X.w) X.A (assign target X.env u) (fun _ s'=>∃ σ' H',Inv X pins σ' H' s'∧Q σ' H') X.xe s
instance {X:Cx}{target:Expr}{t:TG}:CoeFun (PG X target t) fun _=>∀(pins:List (Addr×Obj)) (s:Shared) (σ:St) (H:Hp) (v:V) (u:Value) (Q:St→Hp→Prop),Inv X pins σ H s→RelV v u→t v σ H Q→wpAny (model X.prog X.w) X.A (assign target X.env u) (fun _ s'=>∃ σ' H',Inv X pins σ' H' s'∧Q σ' H') X.xe s:=⟨PG.run⟩
structure sx(X:Cx)(ts:List Expr)(t:wV):Prop where
 run:∀(pins:List (Addr×Obj)) (s:Shared) (σ:St) (H:Hp) (vs:List V) (us:List Value) (Q:St→Hp→Prop),Inv X pins σ H s→Vals vs us→t vs σ H Q →
  wpAny (model X.prog X.w) X.A (assignInOrder ((assignEach ts X.env).map (·.2)) us) (fun _ s'=>∃ σ' H',Inv X pins σ' H' s'∧Q σ' H') X.xe s
instance {X:Cx}{ts:List Expr}{t:wV}:CoeFun (sx X ts t) fun _=>∀(pins:List (Addr×Obj)) (s:Shared) (σ:St) (H:Hp) (vs:List V) (us:List Value) (Q:St→Hp→Prop),Inv X pins σ H s→Vals vs us→t vs σ H Q→wpAny (model X.prog X.w) X.A (assignInOrder ((assignEach ts X.env).map (·.2)) us) (fun _ s'=>∃ σ' H',Inv X pins σ' H' s'∧Q σ' H') X.xe s:=⟨sx.run⟩
abbrev Df:=V→V→V→Hp→(Hp→Prop)→Prop
def Iq(X:Cx)(t:Df):Prop:=
 ∀(pins:List (Addr×Obj)) (s:Shared) (σ:St) (H:Hp) (o i v:V) (ov iv u:Value) (Q:Hp→Prop),Inv X pins σ H s→RelV o ov→RelV i iv→RelV v u→t o i v H Q →
  wpAny (model X.prog X.w) X.A (setItem ov iv u) (fun _ s'=>∃ H',Inv X pins σ H' s'∧Q H') X.xe s
abbrev OP:=V→V→Hp→VK→Prop
def Xe(X:Cx)(op:Operator)(t:OP):Prop:=
 ∀(pins:List (Addr×Obj)) (s:Shared) (σ:St) (H:Hp) (x y:V) (v u:Value) (Q:VK),Inv X pins σ H s→RelV x v→RelV y u→t x y H Q →
  wpAny (model X.prog X.w) X.A (inplaceOp op v u) (EP X pins σ Q) X.xe s
section
variable {X:Cx}{pos:Pos}
def zW(i:Nat):TG:=fun v σ H Q=>Q (σ.set i (some v)) H
theorem yd{i:Nat}{x:Str}(hN:X.N.Nodup)(hi:X.N[i]? = some x)(hx:Loc X.env.scope x)(hf:X.fn x=true∨X.env.scope.names.lookup x=some .local:=by first | exact .inl rfl | exact .inr rfl | assumption):PG X (.Name x pos) (zW i):=by
 refine .mk ?_;intro pins s σ H v u Q I r h;exact wpAny_assign_Name (jP I hN hi hx r (fun s' I'=>⟨_,H,I',h⟩) hf)
def Nz:wV:=fun vs σ H Q=>vs=[]∧Q σ H
def Ha(t:TG)(u:wV):wV:=fun vs σ H Q=>∃ v r,vs=v::r∧t v σ H fun σ' H'=>u r σ' H' Q
theorem yc:sx X [] Nz:=by
 refine .mk ?_;intro pins s σ H vs us Q I r h;obtain⟨e,h⟩:=h;subst e;cases r;exact assignInOrder_nil ⟨σ,H,I,h⟩
theorem vw{e:Expr}{es:List Expr}{t:TG}{u:wV}(h1:PG X e t)(h2:sx X es u)
  (hs:(assignEach (e::es) X.env).map (·.2)=assign e X.env::(assignEach es X.env).map (·.2):=by rfl):sx X (e::es) (Ha t u):=by
 refine .mk ?_;intro pins s σ H vs us Q I r h;obtain⟨v,vr,e1,h⟩:=h;subst e1;cases r with
 | cons r rr=>
  rw[hs];refine assignInOrder_cons (bL (h1 pins s σ H _ _ _ I r h) fun _ s1 ⟨σ1,H1,I1,q1⟩=>?_);exact h2 pins s1 σ1 H1 _ _ Q I1 rr q1
def Nx(K:W.Frag)(n:Nat)(t:wV):TG:=fun v σ H Q=>∃ a xs,v=.ref a∧iM K H a xs∧xs.length=n∧t xs σ H Q
theorem Bm{es:List Expr}{k:Nat}{t:wV}{n:Nat}(hc:X.calm=true)(h:sx X es t)
  (hn:(assignEach es X.env).length=n:=by rfl) (kr:(assignEach es X.env).findIdx? (·.1)=none:=by rfl):PG X (.Tuple es k pos) (Nx X.K n t):=by
 refine .mk ?_;intro pins s σ H v u Q I r hw;obtain⟨a,xs,e1,hq,hl,hw⟩:=hw;subst e1;cases r;obtain⟨aA,rv,ht,hz⟩:=I.tuple hq;refine assign_Tuple_tuple (I.ok.hd hc) ht (by simp[hn,← hl,rv.length]) kr fun h' hx=>?_;have I1:Inv X pins σ H {s with heap:=h'}:=I.kept (t':=s.toks) fun b o e=>hx b o (YI (Yr e)) e;exact h pins _ σ H xs _ Q I1 (by simpa using rv) hw
def Ny(to ti:TE)(t:Df):TG:=fun v σ H Q=>to σ H fun o H1=>ti σ H1 fun i H2=>t o i v H2 fun H3=>Q σ H3
theorem Bn{o i:Expr}{to ti:TE}{t:Df}(ho:PE X o to)(hi:PE X i ti)(hs:Iq X t)
  (ha:∀ v,assign (.Subscript o i pos) X.env v=(do
   let ov ← holding [v] (eval o X.env)
   let iv ← holding [v,ov] (eval i X.env)
   standAt pos
   holding [v,ov,iv] (setItem ov iv v)
   release [v,ov,iv] []):=by intro _;rfl):PG X (.Subscript o i pos) (Ny to ti t):=by
 refine .mk ?_;intro pins s σ H v u Q I r h;rw[ha];refine Ym (aaq (bL (ho pins s σ H _ I h) fun ov s1 ⟨x,H1,I1,r1,q1⟩=>?_));refine Ym (aaq (bL (hi pins s1 σ H1 _ I1 q1) fun iv s2 ⟨y,H2,I2,r2,q2⟩=>?_));refine Ym (wpAny_standAt (Ym (aaq (bL (hs pins s2 σ H2 x y v ov iv u _ I2 r1 r2 r q2) fun _ s3 ⟨H3,I3,q3⟩=>?_))));exact wpAny_release ⟨σ,H3,I3,q3⟩
def AM(te:TE)(g:TG):TS:=fun D σ H=>te σ H fun x H1=>g x σ H1 D.nx
theorem Bi{tg e:Expr}{te:TE}{g:TG}(he:PE X e te)(hg:PG X tg g)(hs:swapsWithSole [tg] e pos.line X.env=pure false:=by rfl)(hw:swappedStores [tg] e X.env=pure none:=by rfl)
  (h1:(assignEach [tg] X.env).map (·.2)=[assign tg X.env]:=by rfl):PS X (.Assign [tg] e pos) (AM te g):=by
 refine .mk ?_;intro pins s σ H D I h;refine wpAny_Assign_stores (bL (he pins s σ H _ I h) fun v s1 ⟨x,H1,I1,r1,q1⟩=>?_) hs hw;rw[h1];exact bL (hg pins s1 σ H1 x v _ I1 r1 q1) fun _ s2 q=>q
theorem Bb{i:Nat}{x:Str}{e:Expr}{te:TE}{pos':Pos}(hN:X.N.Nodup)(hi:X.N[i]? = some x)(hx:Loc X.env.scope x)(he:PE X e te)(hs:swapsWith e (some (.Name x pos')) pos.line X.env=pure false:=by rfl)(hf:X.fn x=true∨X.env.scope.names.lookup x=some .local:=by first | exact .inl rfl | exact .inr rfl | assumption):
  PS X (.Assign [.Name x pos'] e pos) (AM te (zW i)):=by
 refine .mk ?_;intro pins s σ H D I h;refine wpAny_Assign_Name (bL (he pins s σ H _ I h) fun v s1 ⟨y,H1,I1,r1,q1⟩=>?_) hs;exact jP I1 hN hi hx r1 (fun s2 I2=>⟨_,H1,I2,q1⟩) hf
def Kn(i:Nat)(te:TE)(ti:OP):TS:=fun D σ H=>∃ x,σ[i]? = some (some x)∧te σ H fun y H1=>ti x y H1 fun z H2=>D.nx (σ.set i (some z)) H2
theorem Bh{i:Nat}{x:Str}{e:Expr}{te:TE}{op:Operator}{ti:OP}{pos':Pos}(hN:X.N.Nodup)(hi:X.N[i]? = some x)(hx:Loc X.env.scope x)(he:PE X e te)(ho:Xe X op ti)(hf:X.fn x=true∨X.env.scope.names.lookup x=some .local:=by first | exact .inl rfl | exact .inr rfl | assumption):
  PS X (.AugAssign (.Name x pos') op e pos) (Kn i te ti):=by
 refine .mk ?_;intro pins s σ H D I h;obtain⟨v,e1,h⟩:=h;obtain⟨m,hn,hl⟩:=I.loc;have RE:Io X.env.scope x:=by rcases hx with k | k;exact .inl k;exact .inr (.inl k)
 obtain⟨u,r,l⟩:=hl i x v hi e1 RE;refine wpAny_AugAssign_Name ?_;have go:wpAny (model X.prog X.w) X.A (eval e X.env) (fun w s₂=>wpAny (model X.prog X.w) X.A (inplaceOp op u w) (fun r s₃=>wpAny (model X.prog X.w) X.A (storeName X.env x r) (fun _=>SP X pins D .next) X.xe s₃) X.xe s₂) X.xe s:=by
  refine bL (he pins s σ H _ I h) fun w s1 ⟨y,H1,I1,r1,q1⟩=>?_;refine bL (ho pins s1 σ H1 v y u w _ I1 r r1 q1) fun z s2 ⟨zv,H2,I2,r2,q2⟩=>?_;exact jP I2 hN hi hx r2 (fun s3 I3=>⟨_,H2,I3,q2⟩) hf
 rcases l with⟨hk,hm⟩ | ⟨hk,c,hc,rN⟩
 ·exact wpAny_loadName_local I.ok.kind hk hn hm go
 ·rcases hk with hk | hk
  ·exact wpAny_loadName_cell I.ok.kind hk hc rN go
  ·rcases hx with k | k
   ·have:X.env.scope.names.lookup x=some .free:=hk
    rw[k]at this;cases this
   ·have:X.env.scope.names.lookup x=some .free:=hk
    rw[k]at this;cases this
def AH(c:TT)(tb:TS):TS:=fun D σ H=>∃ W:Nat→St→Hp→Prop,(∃ m,W m σ H)∧∀ m σ H,W m σ H →
 c σ H fun b H1=>if b=true then ∃ N:St→Hp→Prop,(∀ σ' H',N σ' H'→∃ m',m' < m∧W m' σ' H')∧tb {D with nx:=N,ct:=N,bk:=D.nx} σ H1 else D.nx σ H1
theorem vo{c:Expr}{body:List Stmt}{tc:TT}{tb:TS}(hp:PassesOwn (model X.prog X.w) X.A X.env X.xe)(hc:PT X c tc)(hb:gI X body tb):PS X (.While c body [] pos) (AH tc tb):=by
 refine .mk ?_;intro pins s σ H D I h;obtain⟨W,⟨m0,w0⟩,turn⟩:=h;refine wpAny_While (codeAny_whileLoop (fun n s'=>∃ σ' H',Inv X pins σ' H' s'∧W n σ' H') ?_ m0 ⟨σ,H,I,w0⟩);rintro n s1 ⟨σ1,H1,I1,w1⟩;refine aal hp (bL (hc pins s1 σ1 H1 _ I1 (turn n σ1 H1 w1)) fun b s2 ⟨H2,I2,q2⟩=>?_);cases b with
 | true=>
  obtain⟨N,hN,q2⟩:=q2;rw[YV rfl];refine aal hp (bL (hb pins s2 σ1 H2 _ I2 q2) fun f s3 q3=>?_);cases f with
  | next=>
   obtain⟨σ3,H3,I3,n3⟩:=q3;obtain⟨m',hm,w3⟩:=hN σ3 H3 n3;exact⟨m',hm,σ3,H3,I3,w3⟩
  | cont=>
   obtain⟨σ3,H3,I3,n3⟩:=q3;obtain⟨m',hm,w3⟩:=hN σ3 H3 n3;exact⟨m',hm,σ3,H3,I3,w3⟩
  | brk=>exact q3
  | ret v=>exact q3
 | false=>
  rw[YN Yx];exact abq ⟨σ1,H2,I2,q2⟩
end
structure It where
 go:Nat→Hp→Prop
 sD:Nat→Hp→V→Hp→Prop
 stop:Nat→Hp→Prop
def eX(X:Cx)(pins:List (Addr×Obj))(H:Hp)(b:Addr):Prop:=
 H b=none∧b≠X.env.locals∧b∉X.fs∧(b∈X.ex∨X.s₀.heap.objs.size≤b)∧(∀ x c,X.env.cells.lookup x=some c→c≠b)∧∀ p∈X.pn++pins,p.1≠b
theorem Inv.oV{X:Cx}{pins:List (Addr×Obj)}{σ:St}{H H':Hp}{s:Shared}{b:Addr}(I:Inv X pins σ H s)(hb:s.heap.objs.size≤b)(hn:H' b=none):eX X pins H' b:=by
 refine⟨hn,ZK (YQ I.lt hb),I.LP hb,.inr (ZG I.sz hb),fun x c e z=>?_,fun p hp z=>?_⟩
 ·obtain⟨v,q⟩:=I.cell x c e
  exact absurd (YQ q.lt (by rw[z];exact hb)) (ZD _)
 ·exact absurd (YQ (Yr (I.pin p hp).1) (by rw[z];exact hb)) (ZD _)
structure Turn(P:Program)(w:World)(K:W.Frag)(tg:Expr)(J:It)(fp:List Addr)(it:Addr)(tn:Nat→Heap→Prop):Prop where
 mem:it∈fp
 obj:∀ i h,tn i h→∀ b∈fp,∃ o,h.get? b=some o∧∀ v,o.data≠.cell v
 keep:∀ i h h',tn i h→(∀ b∈fp,∀ o,h.get? b=some o→h'.get? b=some o)→tn i h'
 item:∀(X:Cx),X.prog=P→X.w=w→X.K=K→X.calm=true→∀(i:Nat) (pins:List (Addr×Obj)) (s:Shared) (σ:St) (H:Hp) (E:Value→Shared→Prop),Inv X pins σ H s→(∀ b∈fp,eX X pins H b)→tn i s.heap→J.go i H →
  wpAny (model P w) X.A (pyNext (.ref it)) (fun r s1=>∃ u,r=some u ∧
   wpAny (model P w) X.A (letOwnedTupleGo tg (.ref it) u) (fun _ s2=>∃ x H',Inv X pins σ H' s2∧RelV x u∧J.sD i H x H'∧tn (i+1) s2.heap∧∀ b∈fp,H' b=none) E s1) E s
 done:∀(X:Cx),X.prog=P→X.w=w→X.K=K→X.calm=true→∀(i:Nat) (pins:List (Addr×Obj)) (s:Shared) (σ:St) (H:Hp) (E:Value→Shared→Prop),Inv X pins σ H s→(∀ b∈fp,eX X pins H b)→tn i s.heap→J.stop i H →
  wpAny (model P w) X.A (pyNext (.ref it)) (fun r s1=>r=none∧Inv X pins σ H s1) E s
 self:∀(A:Around) (i:Nat) (s:Shared) (Q:Value→Shared→Prop) (E:Value→Shared→Prop),tn i s.heap→Q (.ref it) s→wpAny (model P w) A (pyIter (.ref it)) Q E s
abbrev TI:=St→Hp→(It→Hp→Prop)→Prop
def OQ(X:Cx)(pins:List (Addr×Obj))(σ:St)(tg:Expr)(R:It→Hp→Prop)(Ja:Value)(s2:Shared):Prop:=
 ∃(it:Addr) (fp:List Addr) (tn:Nat→Heap→Prop) (J:It) (H':Hp),Ja=.ref it∧Inv X pins σ H' s2∧Turn X.prog X.w X.K tg J fp it tn∧tn 0 s2.heap∧(∀ b∈fp,eX X pins H' b)∧R J H'
structure PI(X:Cx)(tg iter:Expr)(wi:TI):Prop where
 run:∀(pins:List (Addr×Obj)) (s:Shared) (σ:St) (H:Hp) (R:It→Hp→Prop),Inv X pins σ H s→wi σ H R →
  wpAny (model X.prog X.w) X.A (eval iter X.env) (fun v s1=>wpAny (model X.prog X.w) X.A (pyIter v) (OQ X pins σ tg R) X.xe s1) X.xe s
instance {X:Cx}{tg iter:Expr}{wi:TI}:CoeFun (PI X tg iter wi) fun _=>∀(pins:List (Addr×Obj)) (s:Shared) (σ:St) (H:Hp) (R:It→Hp→Prop),Inv X pins σ H s→wi σ H R→wpAny (model X.prog X.w) X.A (eval iter X.env) (fun v s1=>wpAny (model X.prog X.w) X.A (pyIter v) (OQ X pins σ tg R) X.xe s1) X.xe s:=⟨PI.run⟩
theorem zT{M:Model}{A:Around}{E:Value→Shared→Prop}{s:Shared}{tg:Expr}{it:Addr}{u:Value}{o:Obj}{n:String}{vs:Array Value}{Q:Unit→Shared→Prop}(ho:s.heap.get? it=some o)(hc:o.cls=.type n)(hd:o.data=.fields vs)
    (hn:["enumerate","zip","dict_itemiterator","dict_reverseitemiterator","odict_iterator","itertools.zip_longest","itertools.pairwise"].contains n=false) (hQ:Q () s):wpAny M A (letOwnedTupleGo tg (.ref it) u) Q E s:=by
  unfold letOwnedTupleGo;cases tg<;>first
    | exact Yp hQ
    | (cases u<;>first
        | exact Yp hQ
        | (refine Ym (wpAny_load ho ?_)
           rw[hc,hd];show wpAny M A (if(["enumerate","zip","dict_itemiterator","dict_reverseitemiterator","odict_iterator","itertools.zip_longest","itertools.pairwise"].contains n&&vs[0]? == some (rawInt _))=true then _ else _) Q E s
           rw[YN (by intro h;rw[hn,abU]at h;cases h)];exact Yp hQ))
def O0(K:W.Frag)(a:Addr):It:=
 ⟨fun i H=>∃ xs x,dF K H a xs∧xs[i]? = some x,fun i H x H'=>H'=H∧∀ xs,dF K H a xs→xs[i]? = some x,fun i H=>∃ xs,dF K H a xs∧xs.length≤i⟩
def Iu(lo:Int)(n:Nat):It:=⟨fun i _=>i < n,fun i H x H'=>H'=H∧x=.int (lo+i),fun i _=>n≤i⟩
theorem sJ{P:Program}{w:World}{K:W.Frag}{tg:Expr}(a it:Addr):Turn P w K tg (O0 K a) [it] it (fun i h=>h.IsListIter it a i) where
 mem:=by simp
 obj:=fun i h st b hb=>by
  have e:b=it:=by simpa using hb
  subst e;obtain⟨o,e,c,d⟩:=st;exact⟨o,e,fun v z=>by rw[d]at z;cases z⟩
 keep:=fun i h h' st k=>st.at fun o e=>k it (by simp) o e
 item:=by
  intro X hP hw hK hc i pins s σ H E I hf st hg;subst hP hw hK;obtain⟨xs,x,hq,hx⟩:=hg;obtain⟨aA,rv,p,hz⟩:=I.list hq;obtain⟨u,hu,ru⟩:=rv.get hx;obtain⟨f0,f1,f2,f3,f4,f5⟩:=hf it (by simp);refine wpAny_pyNext_list_item st p.isList (x:=u) (by simpa using hu) fun h' aR sb=>?_;have I1:Inv X pins σ H {s with heap:=h'}:=I.turned (t':=s.toks) (fun b o hb e=>(sb.2 b hb).trans e) f0 f1 f3 f4 f5;obtain⟨o,e,c,d⟩:=id aR;exact⟨u,rfl,zT (s:={s with heap:=h'}) e c d (by decide) ⟨x,H,I1,ru,⟨rfl,fun ys hy=>by rw[I.iC hy hq];exact hx⟩,aR,fun b hb=>(hf b hb).1⟩⟩
 done:=by
  intro X hP hw hK hc i pins s σ H E I hf st hg;subst hP hw hK;obtain⟨xs,hq,hx⟩:=hg;obtain⟨aA,rv,p,hz⟩:=I.list hq;obtain⟨f0,f1,f2,f3,f4,f5⟩:=hf it (by simp);have hl:=rv.length;exact wpAny_pyNext_list_end (I.ok.hd hc) st p.isList (by simp;omega) fun h' eb=>⟨rfl,I.turned (t':=s.toks) (fun b o hb e=>eb b o hb e) f0 f1 f3 f4 f5⟩
 self:=fun _ _ _ _ _ st h=>wpAny_pyIter_listiter st h
theorem pV{P:Program}{w:World}{K:W.Frag}{tg:Expr}(it:Addr)(lo:Int)(n:Nat):Turn P w K tg (Iu lo n) [it] it (fun i h=>IsRangeIter h it (lo+(i:Nat) * 1) ((n:Int)-(i:Nat)) 1) where
 mem:=by simp
 obj:=fun i h st b hb=>by
  have e:b=it:=by simpa using hb
  subst e;exact⟨_,st,fun v z=>by
   have z':Data.fields _=Data.cell v:=z;cases z'⟩
 keep:=fun i h h' st k=>k it (by simp) _ st
 item:=by
  intro X hP hw hK hc i pins s σ H E I hf st hg;subst hP hw hK;obtain⟨f0,f1,f2,f3,f4,f5⟩:=hf it (by simp);have W:=Walks.range (prog:=X.prog) (w:=X.w) (I.ok.hd hc) it lo 1 n;refine W.item i s _ _ hg st fun v h' tk hv aR kk=>?_;obtain⟨t,rfl⟩:=hv;have I1:Inv X pins σ H {s with heap:=h',toks:=tk}:=I.turned (fun b o hb e=>kk b o (by simpa using hb) e) f0 f1 f3 f4 f5;refine⟨_,rfl,zT (s:={s with heap:=h',toks:=tk}) (n := "range_iterator") aR rfl rfl (by decide) ⟨.int (lo+i),H,I1,⟨t,?_⟩,⟨rfl,rfl⟩,aR,fun b hb=>(hf b hb).1⟩⟩;rw[Int.mul_one]
 done:=by
  intro X hP hw hK hc i pins s σ H E I hf st hg;subst hP hw hK;obtain⟨f0,f1,f2,f3,f4,f5⟩:=hf it (by simp);exact wpAny_pyNext_range_end (I.ok.hd hc) st (by have:n≤i:=hg;omega) fun h' eb=>⟨rfl,I.turned (t':=s.toks) (fun b o hb e=>eb b o hb e) f0 f1 f3 f4 f5⟩
 self:=fun _ _ _ _ _ st h=>wpAny_pyIter_rangeiter st h
section
variable {X:Cx}{tg:Expr}
def Gv(K:W.Frag)(tl:TE):TI:=fun σ H R=>tl σ H fun x H1=>∃ a,x=.ref a∧(∃ xs,dF K H1 a xs)∧R (O0 K a) H1
theorem yb{l:Expr}{tl:TE}(hl:PE X l tl):PI X tg l (Gv X.K tl):=by
 refine .mk ?_;intro pins s σ H R I h;refine bL (hl pins s σ H _ I h) fun v s1 ⟨x,H1,I1,r1,q1⟩=>?_;obtain⟨a,e,⟨xs,hq⟩,q⟩:=q1;subst e;cases r1;obtain⟨aA,rv,p,hz⟩:=I1.list hq;refine aa5 p.isList ?_;refine⟨s1.heap.objs.size,[s1.heap.objs.size],_,_,H1,rfl,I1.kept (t':=s1.toks) fun b o e=>Yn _ e,sJ a _,⟨_,YB _ rfl,rfl,rfl⟩,fun b hb=>?_,q⟩;have e:b=s1.heap.objs.size:=by simpa using hb
 subst e;exact I1.oV (Yz _) (I1.bB.fresh (Yz _))
theorem n6{pins:List (Addr×Obj)}{σ:St}{H:Hp}{s:Shared}{R:It→Hp→Prop}{E:Value→Shared→Prop}{lo hi:Int}{t u v:Tok}{tk:Nat}(I:Inv X pins σ H s)(h1:-(2 ^ 62)≤lo)(h2:lo < 2 ^ 62)(h3:-(2 ^ 62)≤hi)(h4:hi < 2 ^ 62)
  (q:R (Iu lo (hi-lo).toNat) H):wpAny (model X.prog X.w) X.A (pyIter (.ref s.heap.objs.size)) (OQ X pins σ tg R) E {s with heap:=s.heap.push {cls:=.type "range",data:=.fields #[.int lo t,.int hi u,.int 1 v]},toks:=tk}:=by
 refine wpAny_pyIter_range (IsRange.new ..) (small_one h1 h2 h3 h4) ?_;have I1:Inv X pins σ H {s with heap:=s.heap.push {cls:=.type "range",data:=.fields #[.int lo t,.int hi u,.int 1 v]},toks:=tk}:=I.kept fun b o e=>Yn _ e;refine⟨(s.heap.push {cls:=.type "range",data:=.fields #[.int lo t,.int hi u,.int 1 v]}).objs.size,[(s.heap.push {cls:=.type "range",data:=.fields #[.int lo t,.int hi u,.int 1 v]}).objs.size],_,_,H,rfl,
  I1.kept (t':=tk) fun b o e=>Yn _ e,pV _ lo (hi-lo).toNat,?_,fun b hb=>?_,q⟩
 ·have e1:lo+((0:Nat):Int) * 1=lo:=by simp
  have e2:(((hi-lo).toNat:Nat):Int)-((0:Nat):Int)=Builtin.Range.rangeSize lo hi 1:=by rw[rangeSize_one];split<;>omega
  show IsRangeIter _ _ (lo+((0:Nat):Int) * 1) ((((hi-lo).toNat:Nat):Int)-((0:Nat):Int)) 1
  rw[e1,e2];exact YB _ rfl
 ·have e:b=(s.heap.push {cls:=.type "range",data:=.fields #[.int lo t,.int hi u,.int 1 v]}).objs.size:=by simpa using hb
  subst e;exact I1.oV (Yz _) (I1.bB.fresh (Yz _))
def Gr(ta:TA):TI:=fun σ H R=>ta σ H fun vs H1=>∃ j:Int,vs=[.int j]∧-(2 ^ 62)≤j∧j < 2 ^ 62∧R (Iu 0 j.toNat) H1
def Gq(ta:TA):TI:=fun σ H R=>ta σ H fun vs H1=>∃ i j:Int,vs=[.int i,.int j]∧(-(2 ^ 62)≤i∧i < 2 ^ 62∧-(2 ^ 62)≤j∧j < 2 ^ 62)∧R (Iu i (j-i).toNat) H1
theorem sZ{a:Expr}{ta:TA}{p pos:Pos}(hg:Gl X "range")(hm:X.mg "range" = none)(ha:PA X [a] ta)(hs:starEach [a] X.env=[(false,eval a X.env)]:=by rfl):PI X tg (.Call (.Name "range" p) [a] [] pos) (Gr ta):=by
 refine .mk ?_;intro pins s σ H R I h;refine Call_ (fY I hg hm boot_range (Zv (bL (ha pos pins s σ H _ I h) fun us s1 ⟨vs,H1,I1,r1,q1⟩=>?_) hs rfl));obtain⟨j,e,q1,q2,q⟩:=q1;subst e;cases r1 with
 | cons r rr=>
  cases rr;obtain⟨t,rfl⟩:=r;exact call_range_1 (n6 I1 (by omega) (by omega) q1 q2 (by simpa using q))
theorem sY{a b:Expr}{ta:TA}{p pos:Pos}(hg:Gl X "range")(hm:X.mg "range" = none)(ha:PA X [a,b] ta)(hs:starEach [a,b] X.env=[(false,eval a X.env),(false,eval b X.env)]:=by rfl)(js:starEach [b] X.env=[(false,eval b X.env)]:=by rfl):
  PI X tg (.Call (.Name "range" p) [a,b] [] pos) (Gq ta):=by
 refine .mk ?_;intro pins s σ H R I h;refine Call_ (fY I hg hm boot_range (Zv (bL (ha pos pins s σ H _ I h) fun us s1 ⟨vs,H1,I1,r1,q1⟩=>?_) (by rw[hs,js]) (by rw[js];rfl)));obtain⟨i,j,e,⟨q1,q2,q3,q4⟩,q⟩:=q1;subst e;cases r1 with
 | cons r rr=>
  cases rr with
  | cons r' rr=>
   cases rr;obtain⟨t,rfl⟩:=r;obtain⟨t',rfl⟩:=r';exact call_range_2 (n6 I1 q1 q2 q3 q4 q)
def Ki(wi:TI)(g:TG)(tb:TS):TS:=fun D σ H=>wi σ H fun J H1=>∃ W:Nat→Nat→St→Hp→Prop,(∃ m,W 0 m σ H1)∧∀ i m σ H,W i m σ H →
 (J.stop i H∧D.nx σ H)∨(J.go i H∧∃ N:St→Hp→Prop,(∀ σ' H',N σ' H'→∃ m',m' < m∧W (i+1) m' σ' H')∧∀ x H',J.sD i H x H'→g x σ H' fun σ2 H2=>tb {D with nx:=N,ct:=N,bk:=D.nx} σ2 H2)
def j0(fp:List Addr)(h:Heap):List (Addr×Obj):=fp.filterMap fun b=>(h.get? b).map fun o=>(b,o)
theorem fj{fp:List Addr}{h:Heap}{b:Addr}{o:Obj}(hb:b∈fp)(e:h.get? b=some o):(b,o)∈j0 fp h:=aae.mpr ⟨b,hb,by rw[e];rfl⟩
theorem tF{fp:List Addr}{h:Heap}{p:Addr×Obj}(hp:p∈j0 fp h):p.1∈fp∧h.get? p.1=some p.2:=by
 obtain⟨b,hb,e⟩:=aae.mp hp;cases q:h.get? b with
 | none=>rw[q]at e;cases e
 | some o=>
  rw[q]at e;have e':(b,o)=p:=Y5 e;subst e';exact⟨hb,q⟩
theorem Inv.pinned{pins:List (Addr×Obj)}{σ:St}{H:Hp}{s:Shared}{fp:List Addr}(I:Inv X pins σ H s)(hf:∀ b∈fp,eX X pins H b)(ho:∀ b∈fp,∃ o,s.heap.get? b=some o∧∀ v,o.data≠.cell v):Inv X (pins++j0 fp s.heap) σ H s:=
 I.rC fun p hp=>(YE.mp hp).elim (fun z=>I.pin p (YZ _ z)) fun z=>by
  obtain⟨hb,e⟩:=tF z;obtain⟨f0,f1,f2,_⟩:=hf p.1 hb;obtain⟨o,e',d⟩:=ho p.1 hb;rw[e]at e';cases e';exact⟨e,f0,f1,f2,d⟩
theorem Inv.iq{pins pl:List (Addr×Obj)}{σ:St}{H:Hp}{s:Shared}(I:Inv X (pins++pl) σ H s):Inv X pins σ H s:=I.rC fun p hp=>I.pin p (YZ _ (Zw _ hp))
theorem Bf{iter:Expr}{body:List Stmt}{wi:TI}{g:TG}{tb:TS}{pos:Pos}(hp:PassesOwn (model X.prog X.w) X.A X.env X.xe)(hc:X.calm=true)(hi:PI X tg iter wi)(hg:PG X tg g)(hb:gI X body tb)
  (hs:∀ x,foldedSetIterable iter X.env x=pure x:=by intro _;rfl):PS X (.For tg iter body [] pos) (Ki wi g tb):=by
 refine .mk ?_;intro pins s σ H D I h;refine wpAny_For (bL (hi pins s σ H _ I h) fun v s1 h1=>bL h1 fun Ja s2 h2=>?_) hs;obtain⟨it,fp,tn,J,H2,e,I2,T,fO,f2,W,⟨m0,w0⟩,turn⟩:=h2;subst e
 -- JI stays true of rg Cb objects through rg loop
 have AR:∀{H':Hp},(∀ b∈fp,H' b=none)→∀ b∈fp,eX X pins H' b:=fun hn b hb=>⟨hn b hb,(f2 b hb).2⟩;refine codeAny_forLoop_any (fun n s'=>∃ i σ' H',Inv X pins σ' H' s'∧tn i s'.heap∧(∀ b∈fp,H' b=none)∧W i n σ' H') ?_ m0 ⟨0,σ,H2,I2,fO,fun b hb=>(f2 b hb).1,w0⟩;rintro n s3 ⟨i,σ3,H3,I3,fN,uc,w3⟩;rcases turn i n σ3 H3 w3 with⟨stop,qn⟩ | ⟨go,N,hN,step⟩
 ·refine aal hp (bL (T.done X rfl rfl rfl hc i pins s3 σ3 H3 X.xe I3 (AR uc) fN stop) fun r s4 ⟨hr,I4⟩=>?_)
  subst hr;exact abq ⟨σ3,H3,I4,qn⟩
 ·refine aal hp (bL (T.item X rfl rfl rfl hc i pins s3 σ3 H3 X.xe I3 (AR uc) fN go) fun r s4 ⟨u,hr,h4⟩=>?_)
  subst hr;refine aal hp (bL h4 fun _ s5 ⟨x,H5,I5,r5,y5,ja,DH⟩=>?_);have O1:=I5.pinned (AR DH) (T.obj _ _ ja);refine aal hp (bL (hg _ s5 σ3 H5 x u _ O1 r5 (step x H5 y5)) fun _ s6 ⟨σ6,H6,I6,q6⟩=>?_);refine aal hp (bL (hb _ s6 σ6 H6 _ I6 q6) fun f s7 q7=>?_);have again:∀{σ7:St} {H7:Hp},Inv X (pins++j0 fp s5.heap) σ7 H7 s7→N σ7 H7→∃ m,m < n∧∃ i σ' H',Inv X pins σ' H' s7∧tn i s7.heap∧(∀ b∈fp,H' b=none)∧W i m σ' H':=fun {σ7 H7} I7 n7=>by
   obtain⟨m',hm,w7⟩:=hN σ7 H7 n7;refine⟨m',hm,i+1,σ7,H7,I7.iq,T.keep _ _ _ ja fun b hb o e=>(I7.pin (b,o) (YZ _ (YZ _ (fj hb e)))).1,fun b hb=>?_,w7⟩;obtain⟨o,e,d⟩:=T.obj _ _ ja b hb;exact(I7.pin (b,o) (YZ _ (YZ _ (fj hb e)))).2.1
  cases f with
  | next=>obtain⟨σ7,H7,I7,n7⟩:=q7;exact again I7 n7
  | cont=>obtain⟨σ7,H7,I7,n7⟩:=q7;exact again I7 n7
  | brk=>obtain⟨σ7,H7,I7,q7⟩:=q7;exact⟨σ7,H7,I7.iq,q7⟩
  | ret v=>obtain⟨x7,σ7,H7,I7,r7,q7⟩:=q7;exact⟨x7,σ7,H7,I7.iq,r7,q7⟩
end
abbrev R2:=V→V→Hp→VK→Prop
def gJ(X:Cx)(f:Value→Value→Sem Value)(r:R2):Prop:=
 ∀(pins:List (Addr×Obj)) (s:Shared) (σ:St) (H:Hp) (x y:V) (v u:Value) (Q:VK),Inv X pins σ H s→RelV x v→RelV y u→r x y H Q →
  wpAny (model X.prog X.w) X.A (f v u) (EP X pins σ Q) X.xe s
def gk(X:Cx)(f:Value)(r:List V→Hp→VK→Prop):Prop:=
 ∀(pins:List (Addr×Obj)) (s:Shared) (σ:St) (H:Hp) (xs:List V) (us:List Value) (Q:VK),Inv X pins σ H s→Vals xs us→r xs H Q →
  wpAny (model X.prog X.w) X.A (call f us) (EP X pins σ Q) X.xe s
def EA(r:R2)(ta tb:TE):TE:=fun σ H Q=>ta σ H fun x H1=>tb σ H1 fun y H2=>r x y H2 Q
def rI(C:Int→Int→Prop)(g:Int→Int→V):R2:=fun x y H Q=>∃ i j,x=.int i∧y=.int j∧C i j∧Q (g i j) H
def xb(g:Int→Int→V):R2:=fun x y H Q=>∃ i j,x=.int i∧y=.int j∧Q (g i j) H
section
variable {X:Cx}{a b c:Expr}{ta tb tc:TE}{pos:Pos}
theorem CZ(ha:PE X a ta)(hb:PE X b tb){pins:List (Addr×Obj)}{s:Shared}{σ:St}{H:Hp}{R:V→V→Hp→Prop}(I:Inv X pins σ H s)
  (h:ta σ H fun x H1=>tb σ H1 fun y H2=>R x y H2) {Q:Value→Shared→Prop} {f:Value→Value→Sem Value}
  (hf:∀ v u s2 x y H2,Inv X pins σ H2 s2→RelV x v→RelV y u→R x y H2→wpAny (model X.prog X.w) X.A (f v u) Q X.xe s2) :
  wpAny (model X.prog X.w) X.A (eval a X.env) (fun v s₁=>wpAny (model X.prog X.w) X.A (eval b X.env) (fun u s₂=>wpAny (model X.prog X.w) X.A (f v u) Q X.xe s₂) X.xe s₁) X.xe s:=by
 refine bL (ha pins s σ H _ I h) fun v s1 ⟨x,H1,I1,r1,q1⟩=>?_;refine bL (hb pins s1 σ H1 _ I1 q1) fun u s2 ⟨y,H2,I2,r2,q2⟩=>?_;exact hf v u s2 x y H2 I2 r1 r2 q2
theorem Fz{op:Operator}{r:R2}(ho:gJ X (binaryOp op) r)(ha:PE X a ta)(hb:PE X b tb):PE X (.BinOp a op b pos) (EA r ta tb):=by
 refine .mk ?_;intro pins s σ H Q I h;exact wpAny_BinOp (CZ ha hb I h fun v u s2 x y H2 I2 rx ry q=>ho pins s2 σ H2 x y v u Q I2 rx ry q)
theorem IP{f:Value→Value→Sem Value}{C:Int→Int→Prop}{g:Int→Int→Int}
  (rule:∀(i j:Int) (t u:Tok) (s:Shared) (Q:Value→Shared→Prop) (E:Value→Shared→Prop),C i j→Q (.int (g i j) s.toks) {s with toks:=s.toks+1}→wpAny (model X.prog X.w) X.A (f (.int i t) (.int j u)) Q E s) :
  gJ X f (rI C fun i j=>.int (g i j)):=by
 intro pins s σ H x y v u Q I rx ry h;obtain⟨i,j,rfl,rfl,hc,q⟩:=h;obtain⟨t,rfl⟩:=rx;obtain⟨t',rfl⟩:=ry;exact rule i j t t' s _ _ hc ⟨.int (g i j),H,I.tok _,⟨_,rfl⟩,q⟩
theorem BJ{f:Value→Value→Sem Value}{g:Int→Int→Int}
  (rule:∀(i j:Int) (t u:Tok) (s:Shared) (Q:Value→Shared→Prop) (E:Value→Shared→Prop),Q (.int (g i j) s.toks) {s with toks:=s.toks+1}→wpAny (model X.prog X.w) X.A (f (.int i t) (.int j u)) Q E s) :
  gJ X f (xb fun i j=>.int (g i j)):=by
 intro pins s σ H x y v u Q I rx ry h;obtain⟨i,j,rfl,rfl,q⟩:=h;obtain⟨t,rfl⟩:=rx;obtain⟨t',rfl⟩:=ry;exact rule i j t t' s _ _ ⟨.int (g i j),H,I.tok _,⟨_,rfl⟩,q⟩
theorem yA{f:Value→Value→Sem Value}{g:Int→Int→Bool}
  (rule:∀(i j:Int) (t u:Tok) (s:Shared) (Q:Value→Shared→Prop) (E:Value→Shared→Prop),Q (.bool (g i j)) s→wpAny (model X.prog X.w) X.A (f (.int i t) (.int j u)) Q E s) :
  gJ X f (xb fun i j=>.bl (g i j)):=by
 intro pins s σ H x y v u Q I rx ry h;obtain⟨i,j,rfl,rfl,q⟩:=h;obtain⟨t,rfl⟩:=rx;obtain⟨t',rfl⟩:=ry;exact rule i j t t' s _ _ ⟨.bl (g i j),H,I,rfl,q⟩
def Iy(i j:Int):Prop:=0≤j∧j≤1000000∧i.natAbs < 2 ^ 64
def zw(i j:Int):Prop:=(-(2 ^ 64) < i∧i < 2 ^ 64)∨(-(2 ^ 64) < j∧j < 2 ^ 64)
theorem zw.ok{i j:Int}(h:zw i j):IntMulOk i j:=by
 rcases h with⟨h1,h2⟩ | ⟨h1,h2⟩
 ·exact .of_left (intBits_le_64 h1 h2)
 ·exact .of_right (intBits_le_64 h1 h2)
theorem BI:gJ X (binaryOp .Add) (xb fun i j=>.int (i+j)):=BJ fun _ _ _ _ _ _ _ q=>add_int q
theorem BB:gJ X (binaryOp .Sub) (xb fun i j=>.int (i-j)):=BJ fun _ _ _ _ _ _ _ q=>sub_int q
theorem BE:gJ X (binaryOp .Mult) (rI zw fun i j=>.int (i * j)):=IP fun _ _ _ _ _ _ _ hc q=>mul_int q hc.ok
theorem BF:gJ X (binaryOp .Mod) (rI (fun _ j=>0 < j) fun i j=>.int (i % j)):=IP fun i j _ _ _ _ _ hc q=>by
 have h1:(0:Int) < j:=hc;exact mod_int' (by omega) (by rw[Int.fmod_eq_emod_of_nonneg i (by omega)];exact q)
theorem BD:gJ X (binaryOp .Pow) (rI Iy fun i j=>.int (i ^ j.toNat)):=IP fun _ _ _ _ _ _ _ hc q=>pow_int_small hc.1 hc.2.1 hc.2.2 q
theorem yV:gJ X (inplaceOp .Sub) (xb fun i j=>.int (i-j)):=BJ fun _ _ _ _ _ _ _ q=>isub_int q
end
def xC:V→V→Bool
 | .non,.non=>true | .non,.int _=>true | .int _,.non=>true | .non,.bl _=>true | .bl _,.non=>true | .non,.str _=>true | .str _,.non=>true
 | .int _,.int _=>true | .bl _,.bl _=>true | .str _,.str _=>true | .byt _,.byt _=>true
 | .int _,.str _=>true | .str _,.int _=>true | .bl _,.str _=>true | .str _,.bl _=>true
 | _,_=>false
def Sw:R2:=fun x y H Q=>xC x y=true∧Q (.bl (decide (x=y))) H
def Su:R2:=fun x y H Q=>xC x y=true∧Q (.bl (!decide (x=y))) H
theorem gB{i j:Int}:decide (V.int i=V.int j)=(i == j):=by
 rw[aaL];simp
theorem wI{i j:Bool}:decide (V.bl i=V.bl j)=(i == j):=by
 rw[aaL];simp
theorem rW{i j:Str}:decide (V.str i=V.str j)=(i == j):=by
 rw[aaL];simp
theorem rX{i j:Array UInt8}:decide (V.byt i=V.byt j)=(i.toList == j.toList):=by
 rw[aaL];cases i;cases j;simp
section
variable {X:Cx}{a b c:Expr}{ta tb tc:TE}{pos:Pos}
theorem aW{pins:List (Addr×Obj)}{σ:St}{H:Hp}{s:Shared}{Q:VK}{k k':Bool}(I:Inv X pins σ H s)(q:Q (.bl k) H)(e:k=k'):EP X pins σ Q (.bool k') s:=by
 subst e;exact⟨.bl k,H,I,rfl,q⟩
theorem FO:gJ X (compareOp .Eq) Sw:=by
 intro pins s σ H x y v u Q I rx ry h;obtain⟨hs,q⟩:=h;cases x with
 | non=>
  cases rx;cases y with
  | non=>cases ry;exact PySem.EqNone.eq_none_none (aW I q (by simp))
  | bl j=>cases ry;exact PySem.EqNone.eq_none_bool (aW I q (by simp))
  | int j=>obtain⟨t',rfl⟩:=ry;exact PySem.EqNone.eq_none_int (aW I q (by simp))
  | str j=>obtain⟨t',rfl⟩:=ry;exact PySem.EqNone.eq_none_str (aW I q (by simp))
  | _=>exact absurd (show false=true from hs) Yx
 | bl i=>
  cases rx;cases y with
  | non=>cases ry;exact PySem.EqNone.eq_bool_none (aW I q (by simp))
  | bl j=>cases ry;exact eq_bool (aW I q wI)
  | str j=>obtain⟨t',rfl⟩:=ry;exact PySem.EqMixed.eq_bool_str (aW I q (by simp))
  | _=>exact absurd (show false=true from hs) Yx
 | int i=>
  obtain⟨t,rfl⟩:=rx;cases y with
  | non=>cases ry;exact PySem.EqNone.eq_int_none (aW I q (by simp))
  | int j=>obtain⟨t',rfl⟩:=ry;exact eq_int (aW I q gB)
  | str j=>obtain⟨t',rfl⟩:=ry;exact PySem.EqMixed.eq_int_str (aW I q (by simp))
  | _=>exact absurd (show false=true from hs) Yx
 | str i=>
  obtain⟨t,rfl⟩:=rx;cases y with
  | non=>cases ry;exact PySem.EqNone.eq_str_none (aW I q (by simp))
  | bl j=>cases ry;exact PySem.EqMixed.eq_str_bool (aW I q (by simp))
  | int j=>obtain⟨t',rfl⟩:=ry;exact PySem.EqMixed.eq_str_int (aW I q (by simp))
  | str j=>obtain⟨t',rfl⟩:=ry;exact eq_str (aW I q rW)
  | _=>exact absurd (show false=true from hs) Yx
 | byt i=>
  obtain⟨t,rfl⟩:=rx;cases y with
  | byt j=>obtain⟨t',rfl⟩:=ry;exact W.eq_bytes (aW I q rX)
  | _=>exact absurd (show false=true from hs) Yx
 | _=>cases y<;>exact absurd (show false=true from hs) Yx
theorem FI:gJ X (compareOp .NotEq) Su:=by
 intro pins s σ H x y v u Q I rx ry h;obtain⟨hs,q⟩:=h;cases x with
 | non=>
  cases rx;cases y with
  | non=>cases ry;exact PySem.EqNone.ne_none_none (aW I q (by simp))
  | bl j=>cases ry;exact PySem.EqNone.ne_none_bool (aW I q (by simp))
  | int j=>obtain⟨t',rfl⟩:=ry;exact PySem.EqNone.ne_none_int (aW I q (by simp))
  | str j=>obtain⟨t',rfl⟩:=ry;exact PySem.EqNone.ne_none_str (aW I q (by simp))
  | _=>exact absurd (show false=true from hs) Yx
 | bl i=>
  cases rx;cases y with
  | non=>cases ry;exact PySem.EqNone.ne_bool_none (aW I q (by simp))
  | bl j=>cases ry;exact ne_bool (aW I q (ZM not wI))
  | str j=>obtain⟨t',rfl⟩:=ry;exact PySem.EqMixed.ne_bool_str (aW I q (by simp))
  | _=>exact absurd (show false=true from hs) Yx
 | int i=>
  obtain⟨t,rfl⟩:=rx;cases y with
  | non=>cases ry;exact PySem.EqNone.ne_int_none (aW I q (by simp))
  | int j=>obtain⟨t',rfl⟩:=ry;exact ne_int (aW I q (ZM not gB))
  | str j=>obtain⟨t',rfl⟩:=ry;exact PySem.EqMixed.ne_int_str (aW I q (by simp))
  | _=>exact absurd (show false=true from hs) Yx
 | str i=>
  obtain⟨t,rfl⟩:=rx;cases y with
  | non=>cases ry;exact PySem.EqNone.ne_str_none (aW I q (by simp))
  | bl j=>cases ry;exact PySem.EqMixed.ne_str_bool (aW I q (by simp))
  | int j=>obtain⟨t',rfl⟩:=ry;exact PySem.EqMixed.ne_str_int (aW I q (by simp))
  | str j=>obtain⟨t',rfl⟩:=ry;exact ne_str (aW I q (ZM not rW))
  | _=>exact absurd (show false=true from hs) Yx
 | byt i=>
  obtain⟨t,rfl⟩:=rx;cases y with
  | byt j=>obtain⟨t',rfl⟩:=ry;exact W.ne_bytes (aW I q (ZM not rX))
  | _=>exact absurd (show false=true from hs) Yx
 | _=>cases y<;>exact absurd (show false=true from hs) Yx
theorem FJ:gJ X (compareOp .Lt) (xb fun i j=>.bl (decide (i < j))):=yA fun _ _ _ _ _ _ _ q=>lt_int q
theorem FK:gJ X (compareOp .LtE) (xb fun i j=>.bl (decide (i≤j))):=yA fun _ _ _ _ _ _ _ q=>le_int q
theorem FL:gJ X (compareOp .Gt) (xb fun i j=>.bl (decide (j < i))):=yA fun _ _ _ _ _ _ _ q=>gt_int q
theorem FN:gJ X (compareOp .GtE) (xb fun i j=>.bl (decide (j≤i))):=yA fun _ _ _ _ _ _ _ q=>ge_int q
theorem BG:gJ X (compareOp .Is) (fun x y H Q=>y=.non∧Q (.bl (decide (x=.non))) H):=by
 intro pins s σ H x y v u Q I rx ry h;obtain⟨rfl,q⟩:=h;cases ry;refine is_none_gen (aW I q ?_);cases x<;>first
  | (cases rx;rfl)
  | (obtain⟨t,rfl⟩:=rx;rfl)
theorem yy:gJ X (compareOp .IsNot) (fun x y H Q=>y=.non∧Q (.bl (!decide (x=.non))) H):=by
 intro pins s σ H x y v u Q I rx ry h;obtain⟨rfl,q⟩:=h;cases ry;refine isnot_none_gen (aW I q ?_);cases x<;>first
  | (cases rx;rfl)
  | (obtain⟨t,rfl⟩:=rx;rfl)
theorem aG(b:Expr){op:CmpOp}(h:op≠.In:=by decide)(h2:op≠.NotIn:=by decide):behindInMarks op b=false:=by
 have e1:(op == CmpOp.In)=false:=by cases op<;>first | rfl | exact absurd rfl h
 have e2:(op == CmpOp.NotIn)=false:=by cases op<;>first | rfl | exact absurd rfl h2
 cases b<;>simp[behindInMarks,e1,e2]
theorem ym{op:CmpOp}{r:R2}(ho:gJ X (compareOp op) r)(ha:PE X a ta)(hb:PE X b tb)(hm:behindInMarks op b=false):PE X (.Compare a [op] [b] pos) (EA r ta tb):=by
 refine .mk ?_;intro pins s σ H Q I h;exact wpAny_Compare1 (CZ ha hb I h fun v u s2 x y H2 I2 rx ry q=>ho pins s2 σ H2 x y v u Q I2 rx ry q) hm
def uY(t:TE):TT:=fun σ H Q=>t σ H fun x H'=>∃ k,x=.bl k∧Q k H'
theorem xV{op:CmpOp}{r:R2}(ho:gJ X (compareOp op) r)(ha:PE X a ta)(hb:PE X b tb)(hm:behindInMarks op b=false):PT X (.Compare a [op] [b] pos) (uY (EA r ta tb)):=by
 refine .mk ?_;intro pins s σ H Q I h;refine wpAny_isTrue_Compare1 (bL (ha pins s σ H _ I h) fun v s1 ⟨x,H1,I1,r1,q1⟩=>bL (hb pins s1 σ H1 _ I1 q1) fun u s2 ⟨y,H2,I2,r2,q2⟩=>
  bL (ho pins s2 σ H2 x y v u _ I2 r1 r2 q2) fun c s3 ⟨z,H3,I3,r3,k,e,q3⟩=>?_) hm
 subst e;cases r3;exact ZN ⟨H3,I3,q3⟩
def pY(r r':R2)(ta tb tc:TE):TE:=fun σ H Q=>ta σ H fun x H1=>tb σ H1 fun y H2=>r x y H2 fun z H3=>∃ k,z=.bl k ∧
 (if k=true then tc σ H3 fun w' H4=>r' y w' H4 Q else Q (.bl false) H3)
theorem vC{op rE:CmpOp}{r r':R2}(ho:gJ X (compareOp op) r)(jC:gJ X (compareOp rE) r')(ha:PE X a ta)(hb:PE X b tb)(hc:PE X c tc)
  (hm:lastMarks [op,rE] [b,c]=false:=by with_unfolding_all rfl):PE X (.Compare a [op,rE] [b,c] pos) (pY r r' ta tb tc):=by
 refine .mk ?_;intro pins s σ H Q I h;refine Compare_chain (bL (ha pins s σ H _ I h) fun v s1 ⟨x,H1,I1,r1,q1⟩=>chain_link (bL (hb pins s1 σ H1 _ I1 q1) fun u s2 ⟨y,H2,I2,r2,q2⟩=>
  bL (ho pins s2 σ H2 x y v u _ I2 r1 r2 q2) fun d s3 ⟨z,H3,I3,r3,k,e,q3⟩=>?_)) hm
 subst e;cases r3;refine ZN ?_;cases k with
 | false=>exact ite_ff ⟨.bl false,H3,I3,rfl,q3⟩
 | true=>exact ite_tt (chain_last (bL (hc pins s3 σ H3 _ I3 q3) fun w' s4 ⟨z',H4,I4,r4,q4⟩=>jC pins s4 σ H4 y z' u w' Q I4 r2 r4 q4))
theorem vm{op rE:CmpOp}{r r':R2}(ho:gJ X (compareOp op) r)(jC:gJ X (compareOp rE) r')(ha:PE X a ta)(hb:PE X b tb)(hc:PE X c tc)
  (hm:lastMarks [op,rE] [b,c]=false:=by with_unfolding_all rfl):PT X (.Compare a [op,rE] [b,c] pos) (uY (pY r r' ta tb tc)):=by
 refine .mk ?_;intro pins s σ H Q I h;refine isTrue_chain (bL (ha pins s σ H _ I h) fun v s1 ⟨x,H1,I1,r1,q1⟩=>test_link (bL (hb pins s1 σ H1 _ I1 q1) fun u s2 ⟨y,H2,I2,r2,q2⟩=>
  bL (ho pins s2 σ H2 x y v u _ I2 r1 r2 q2) fun d s3 ⟨z,H3,I3,r3,k,e,q3⟩=>?_)) hm
 subst e;cases r3;refine ZN ?_;cases k with
 | false=>
  obtain⟨k',e',q'⟩:=q3;cases e';exact ite_ff ⟨H3,I3,q'⟩
 | true=>
  refine ite_tt (test_last (bL (hc pins s3 σ H3 _ I3 q3) fun w' s4 ⟨z',H4,I4,r4,q4⟩=>bL (jC pins s4 σ H4 y z' u w' _ I4 r2 r4 q4) fun d' s5 ⟨z2,H5,I5,r5,k2,e2,q5⟩=>?_));subst e2;cases r5;exact ZN ⟨H5,I5,q5⟩
theorem kh:(sizeLine:Nat) < 2 ^ 63:=by rw[Zk];decide
theorem vals1{x:V}{us:List Value}(r:Vals [x] us):∃ u,us=[u]∧RelV x u:=by
 cases r with
 | cons r1 r2=>cases r2;exact⟨_,rfl,r1⟩
theorem vals2{x y:V}{us:List Value}(r:Vals [x,y] us):∃ u w',us=[u,w']∧RelV x u∧RelV y w':=by
 cases r with
 | cons r1 r2=>
  cases r2 with
  | cons r3 r4=>cases r4;exact⟨_,_,rfl,r1,r3⟩
theorem uo(hc:X.calm=true):gk X (.builtin "max") (fun xs H Q=>∃ i j,xs=[.int i,.int j]∧Q (.int (if j > i then j else i)) H):=by
 intro pins s σ H xs us Q I r h;obtain⟨i,j,rfl,q⟩:=h;obtain⟨u,w',rfl,⟨t,rfl⟩,⟨t',rfl⟩⟩:=vals2 r;refine max_two_ints (I.ok.hd hc) fun h' tk k=>⟨_,H,I.kept k,?_,q⟩;by_cases hj:j > i
 ·rw[YV hj,YV hj];exact⟨_,rfl⟩
 ·rw[YN hj,YN hj];exact⟨_,rfl⟩
theorem um(hc:X.calm=true):gk X (.builtin "min") (fun xs H Q=>∃ i j,xs=[.int i,.int j]∧Q (.int (if j < i then j else i)) H):=by
 intro pins s σ H xs us Q I r h;obtain⟨i,j,rfl,q⟩:=h;obtain⟨u,w',rfl,⟨t,rfl⟩,⟨t',rfl⟩⟩:=vals2 r;refine min_two_ints (I.ok.hd hc) fun h' tk k=>⟨_,H,I.kept k,?_,q⟩;by_cases hj:j < i
 ·rw[YV hj,YV hj];exact⟨_,rfl⟩
 ·rw[YN hj,YN hj];exact⟨_,rfl⟩
end
structure qS(h:Heap)(x dx C:Addr)(mA:Str→Option Value):Prop where
 obj:h.get? x=some (W.instObj C dx)
 ns:h.Ns1 dx mA
 ne:dx≠x
theorem tP{h:Heap}{dx:Addr}{mA:Str→Option Value}(n:h.Ns1 dx mA):∃ od,h.get? dx=some od∧∀ name,W.lookIn name od=some (mA name):=by
 obtain⟨o,es,ep,ho,hd,hk,_,hm⟩:=n;refine⟨o,ho,fun name=>?_⟩;have e:=hm name;unfold nsFind findBy at e;rw[← Array.find?_toList]at e;unfold W.lookIn;rw[hd];dsimp only;split
 ·rename_i y q
  rw[q]at e;exact ZM some e
 ·rename_i q
  rw[q]at e;have a:es.toList.any (·.refKey)=false:=by
   rw[List.any_eq_false];intro y hy;obtain⟨z,t,mW⟩:=hk y (Zd.mp hy);simp[DictEntry.refKey,mW]
  have a':¬es.toList.any (·.refKey)=true:=by rw[a];exact Yx
  rw[YN a'];exact ZM some e
theorem qS.look{h:Heap}{x dx C:Addr}{mA:Str→Option Value}(I:qS h x dx C mA):∃ od,W.InstAt h x (W.instObj C dx) C (some od)∧∀ name,W.lookIn name od=some (mA name):=
 let⟨od,ho,hl⟩:=tP I.ns
 ⟨od,⟨I.obj,rfl,rfl,ho⟩,hl⟩
section
variable {prog:Program}{w:World}{A:Around}{E:Value→Shared→Prop}{s:Shared}{K:W.Frag}{x dx C f:Addr}{mA:Str→Option Value}{name:Str}{v:Value}
theorem get_map{expr:Bool}{Q:Value→Shared→Prop}(X:K.In s.heap)(I:qS s.heap x dx C mA)(hg:W.plainGet K C name=true)(hh:W.hasDictIn K C=true)
  (ha:W.findIn K (.ref C) name=some none) (hv:mA name=some v) (uA:W.handedIn v=true) (h:Q v {s with toks:=s.toks+1}) :
  wpAny (model prog w) A (getAttr (.ref x) name expr) Q E s:=by
 obtain⟨od,J,hl⟩:=I.look;exact W.get_value X J (abn hg).1 (W.findObj_own hh ha rfl (by rw[hl,hv])) uA h
theorem wy{pl:Sem Bool}{Q:Value×List Value→Shared→Prop}(X:K.In s.heap)(I:qS s.heap x dx C mA)(hg:W.plainGet K C name=true)
  (hf:W.findIn K (.ref C) name=some (some (.ref f))) (ht:W.isFn K (.ref f)=true) (hv:mA name=none) (h:Q (.ref f,[.ref x]) s) :
  wpAny (model prog w) A (getMethod (.ref x) name pl) Q E s:=by
 obtain⟨od,J,hl⟩:=I.look;exact W.method_fn X J (abn hg).1 (abn hg).2 hf (YW.mp ht) (by show(W.lookIn name od).map (·.isSome)=some false;rw[hl,hv];rfl) h
theorem xB{ns:List Str}{Q:Unit→Shared→Prop}(X:K.In s.heap)(I:qS s.heap x dx C mA)
  (hs:W.findIn K (.ref C) "__setattr__" = some (some (.builtin "object.__setattr__"))) (hp:W.plainOver K C=true) (ht:W.takerIn K C name=some none) (hh:W.hasDictIn K C=true)
  (hw:PySem.Within mA ns) (hsz:ns.length≤sizeLine)
  (h:∀ h',qS h' x dx C (fun y=>if y=name then some v else mA y)→Heap.SameBut dx s.heap h'→Q () {s with heap:=h',toks:=s.toks+2}) :
  wpAny (model prog w) A (setAttr (.ref x) name v) Q E s:=by
 obtain⟨od,J,hl⟩:=I.look;refine W.set_plain X J hs (W.osa_open (s:={s with toks:=s.toks+1}) (r:=none) X J hp ht fun b=>?_);obtain⟨cd,hc,Cw⟩:=W.any_some hh;have hx:s.heap.get? x=some ⟨.ref C,some dx,.plain,#[]⟩:=I.obj;refine Ym (Yp (Ym (Ym (wpAny_loadPart hx (Ym (W.Looks.here (s:={s with toks:=s.toks+1}) (W.looks_clsIn X hc) ?_))))));rw[Cw];refine Yp (a:=some dx) (Ym (Yp (Ym ?_)));refine wpAny_nsSet1 (s:={s with toks:=s.toks+1}) I.ns fun h' Ji js=>?_;obtain⟨oD,Yb,Yc,U4,Vj,Vm⟩:=Ji.count (PySem.Within.cons name v hw);refine Ym (wpAny_lookBehind U4 (by rw[Vj];exact pastItsLine_dict (ZG Vm (by rw[YF];omega))) ?_);exact Yp (h _ ⟨(js.2 _ (aaV I.ne)).trans I.obj,Ji,I.ne⟩ js)
theorem vZ{R:Result→Shared→Prop}{vs:List Value}{kw:List (Str×Value)}(X:K.In s.heap)(hm:W.makesIn K C=true)
  (hi:W.findIn K (.ref C) "__init__" = some (some (.ref f))) (hf:W.typeIn K (.ref f)=some (.type "function"))
  (h:codeAny (model prog w) (A.under (.builtin "type.__call__" ⟨.ref C::vs,kw⟩)) (.call (.ref f) ⟨.ref (s.heap.objs.size+1)::vs,kw⟩) (W.InitBack (s.heap.objs.size+1) R)
   {s with heap:=(s.heap.push W.emptyDict).push (W.instObj C s.heap.objs.size)}) :
  codeAny (model prog w) A (.call (.ref C) ⟨vs,kw⟩) R s:=by
 obtain⟨hh,g,d,t,os⟩:=s;exact W.make_core (W.makes_of X hm) (W.looks_findIn X hi) (fun self=>W.bind_fn X self hf) (.inl rfl) h
end
def fi(f:Str)(v:V):List (Str×V)→List (Str×V)
 | []=>[(f,v)]
 | (g,x)::r=>if g=f then(g,v)::r else(g,x)::fi f v r
theorem jg(f g:Str)(v:V):∀ fs:List (Str×V),(fi f v fs).lookup g=if g=f then some v else fs.lookup g
 | []=>by
  show List.lookup g [(f,v)]=_
  by_cases h:g=f
  ·have hb:(g == f)=true:=YW.mpr h
   simp only[List.lookup,hb,YV h]
  ·have hb:(g == f)=false:=Z3.mpr h
   simp only[List.lookup,hb,YN h]
 | (k,x)::r=>by
  have ih:=jg f g v r;rw[show fi f v ((k,x)::r)=(if k=f then(k,v)::r else(k,x)::fi f v r)from rfl];by_cases hk:k=f
  ·rw[YV hk]
   by_cases h:g=k
   ·have hb:(g == k)=true:=YW.mpr h
    simp only[List.lookup,hb,YV (h.trans hk)]
   ·have hb:(g == k)=false:=Z3.mpr h
    simp only[List.lookup,hb,YN (fun e:g=f=>h (e.trans hk.symm))]
  ·rw[YN hk]
   by_cases h:g=k
   ·have hb:(g == k)=true:=YW.mpr h
    simp only[List.lookup,hb,YN (fun e:g=f=>hk (h.symm.trans e))]
   ·have hb:(g == k)=false:=Z3.mpr h
    simp only[List.lookup,hb];exact ih
theorem i0(f:Str)(v:V):∀ fs:List (Str×V),f∈(fi f v fs).map (·.1)∧∀ g,g∈fs.map (·.1)→g∈(fi f v fs).map (·.1)
 | []=>⟨by simp[fi],fun g h=>by simp at h⟩
 | (k,x)::r=>by
  obtain⟨i1,i2⟩:=i0 f v r;rw[show fi f v ((k,x)::r)=(if k=f then(k,v)::r else(k,x)::fi f v r)from rfl];by_cases hk:k=f
  ·rw[YV hk]
   subst hk;exact⟨by simp,fun g h=>by simpa using h⟩
  ·rw[YN hk]
   refine⟨?_,fun g h=>?_⟩
   ·rw[YC]
    exact Zo _ i1
   ·rw[YC]at h ⊢
    rcases Yq.mp h with e | e
    ·exact Yq.mpr (.inl e)
    ·exact Zo _ (i2 g e)
theorem jk(f:Str)(v:V):∀ fs:List (Str×V),(fi f v fs).length≤fs.length+1
 | []=>by simp[fi]
 | (k,x)::r=>by
  have ih:=jk f v r;rw[show fi f v ((k,x)::r)=(if k=f then(k,v)::r else(k,x)::fi f v r)from rfl];by_cases hk:k=f
  ·rw[YV hk,YF,YF];omega
  ·rw[YN hk,YF,YF];omega
theorem gH.some_of{v:V}{o:Option Value}(r:gH (some v) o):∃ u,o=some u∧RelV v u:=by
 cases o with
 | none=>exact(show False from r).elim
 | some u=>exact⟨u,rfl,r⟩
theorem gH.none_of{o:Option Value}(r:gH none o):o=none:=by
 cases o with
 | none=>rfl
 | some u=>exact(show False from r).elim
theorem t6{v:V}{u:Value}(r:RelV v u):W.handedIn u=true:=by
 cases v with
 | non=>cases(show u=Value.none from r);rfl
 | bl b=>cases(show u=Value.bool b from r);rfl
 | int i=>obtain⟨t,e⟩:=(show ∃ t,u=Value.int i t from r);cases e;rfl
 | str x=>obtain⟨t,e⟩:=(show ∃ t,u=Value.str x t from r);cases e;rfl
 | byt b=>obtain⟨t,e⟩:=(show ∃ t,u=Value.bytes b t from r);cases e;rfl
 | flt b=>obtain⟨t,e⟩:=(show ∃ t,u=Value.float b t from r);cases e;rfl
 | ref a=>cases(show u=Value.ref a from r);rfl
 | ty n=>cases(show u=Value.type n from r);rfl
section
variable {P:Program}{w:World}{H H':Hp}{h h':Heap}{a C dx:Addr}{fs t9:List (Str×V)}
theorem jB(bB:h9 P w H h)(e:H a=some (.ins C dx fs)):∃ mA,qS h a dx C mA∧(∀ f,gH (fs.lookup f) (mA f))∧PySem.Within mA (fs.map (·.1))∧fs.length≤1000∧H dx=some (.own a):=by
 obtain⟨d,z,ne,ob,mA,n,r,q⟩:=(show bK P w H h a (.ins C dx fs)from bB a _ e);exact⟨mA,⟨ob,n,ne⟩,r,q,z,d⟩
end
structure ju(K:W.Frag)(C:Addr):Prop where
 pg:W.plainGet K C Str.empty=true
 hd:W.hasDictIn K C=true
 po:W.plainOver K C=true
 sa:W.findIn K (.ref C) "__setattr__" = some (some (.builtin "object.__setattr__"))
theorem ju.get{K:W.Frag}{C:Addr}(c:ju K C)(f:Str):W.plainGet K C f=true:=c.pg
def aU(K:W.Frag)(C:Addr)(f:Str):Prop:=W.findIn K (.ref C) f=some none
theorem aU.D7{K:W.Frag}{C:Addr}{f:Str}(n:aU K C f):W.takerIn K C f=some none:=by
 unfold W.takerIn;rw[show W.findIn K (.ref C) f=some none from n];rfl
structure Meth(K:W.Frag)(C:Addr)(m:Str)(f:Addr):Prop where
 at_:W.findIn K (.ref C) m=some (some (.ref f))
 fn:W.isFn K (.ref f)=true
 kp:W.keepIn K (.ref f)=true
section
variable {X:Cx}{pins:List (Addr×Obj)}{σ:St}{H:Hp}{s:Shared}{a C dx:Addr}{fs:List (Str×V)}{f:Str}{v:V}{A:Around}{E:Value→Shared→Prop}
theorem qI{b:Bool}{Q:Value→Shared→Prop}(I:Inv X pins σ H s)(e:H a=some (.ins C dx fs))(c:ju X.K C)(n:aU X.K C f)(l:fs.lookup f=some v)
  (h:∀ u s',Inv X pins σ H s'→RelV v u→Q u s'):wpAny (model X.prog X.w) A (getAttr (.ref a) f b) Q E s:=by
 obtain⟨mA,O,r,_,_,_⟩:=jB I.bB e;obtain⟨u,hu,ru⟩:=gH.some_of (v:=v) (o:=mA f) (by rw[← l];exact r f);exact get_map I.iO O (c.get f) c.hd n hu (t6 ru) (h u _ (I.tok _) ru)
theorem hZ{m:Str}{g:Addr}{pl:Sem Bool}{Q:Value×List Value→Shared→Prop}(I:Inv X pins σ H s)(e:H a=some (.ins C dx fs))(c:ju X.K C)(k:Meth X.K C m g)(l:fs.lookup m=none)
  (h:Q (.ref g,[.ref a]) s):wpAny (model X.prog X.w) A (getMethod (.ref a) m pl) Q E s:=by
 obtain⟨mA,O,r,_,_,_⟩:=jB I.bB e;have hn:mA m=none:=gH.none_of (by rw[← l];exact r m);exact wy I.iO O (c.get m) k.at_ k.fn hn h
theorem p6{y:V}{u:Value}{Q:Unit→Shared→Prop}(I:Inv X pins σ H s)(e:H a=some (.ins C dx fs))(c:ju X.K C)(n:aU X.K C f)(hl:fs.length < 1000)(ry:RelV y u)
  (h:∀ s',Inv X pins σ (upd H a (.ins C dx (fi f y fs))) s'→Q () s'):wpAny (model X.prog X.w) A (setAttr (.ref a) f u) Q E s:=by
 obtain⟨mA,O,r,wi,_,ho⟩:=jB I.bB e;have hz:(fs.map (·.1)).length≤sizeLine:=by rw[Yw,Zk];omega
 refine xB I.iO O c.sa c.po n.D7 c.hd wi hz fun h' O' sb=>h _ ?_;have hd:∃ o,h'.get? dx=some o:=let⟨o,_,_,e',_⟩:=O'.ns;⟨o,e'⟩
 refine I.write (x:=a) (e:=dx) (by rw[e];exact True.intro) (.inr ho) (fun b q hb z=>(sb.2 b hb).trans z) hd ?_;refine⟨by rw[au O.ne];exact ho,?_,O.ne,O'.obj,_,O'.ns,fun g=>?_,fun g hg=>?_⟩
 ·have:=jk f y fs;omega
 ·show gH ((fi f y fs).lookup g) (if g=f then some u else mA g)
  rw[jg];by_cases q:g=f
  ·rw[YV q,YV q];exact ry
  ·rw[YN q,YN q];exact r g
 ·by_cases q:g=f
  ·rw[q];exact(i0 f y fs).1
  ·refine(i0 f y fs).2 g (wi g fun z=>hg ?_)
   show(if g=f then some u else mA g)=none
   rw[YN q];exact z
theorem Inv.made(I:Inv X pins σ H s):Inv X pins σ (upd (upd H s.heap.objs.size (.own (s.heap.objs.size+1))) (s.heap.objs.size+1) (.ins C s.heap.objs.size []))
  {s with heap:=(s.heap.push W.emptyDict).push (W.instObj C s.heap.objs.size)}:=by
 have e1:(s.heap.push W.emptyDict).get? s.heap.objs.size=some W.emptyDict:=YB s.heap rfl;have e2:((s.heap.push W.emptyDict).push (W.instObj C s.heap.objs.size)).get? (s.heap.objs.size+1)=some (W.instObj C s.heap.objs.size):=by
  have:=YB (s.heap.push W.emptyDict) (o:=W.instObj C s.heap.objs.size) rfl;rwa[Zt]at this
 have e3:(s.heap.push W.emptyDict).Ns s.heap.objs.size (fun _=>none):=⟨W.emptyDict,#[],_,e1,rfl,(fun e he=>absurd he (by simp)),fun _=>rfl⟩;have I1:=I.laid (a:=s.heap.objs.size) (o:=.own (s.heap.objs.size+1)) (h':=s.heap.push W.emptyDict) (t':=s.toks) (fun b u q=>Yn _ q) (Yz _) ⟨_,e1⟩;refine I1.laid (a:=s.heap.objs.size+1) (o:=.ins C s.heap.objs.size []) (t':=s.toks) (fun b u q=>Yn _ q) (Nat.le_of_eq (Zt _ _)) ?_;have ne:s.heap.objs.size≠s.heap.objs.size+1:=YI (aa2 _);refine⟨by rw[au ne,az],ZL _,ne,e2,fun _=>none,(Heap.Ns1.of_empty e3).at fun o q=>Yn _ q,fun _=>True.intro,fun y hy=>absurd rfl hy⟩
theorem zi{prog:Program}{w:World}{env:Env}{e:Expr}{f:Str}{pos:Pos}{s:Shared}{Q:Value→Shared→Prop}(hb:attributeBase e f env (eval e env)=eval e env)
  (h:wpAny (model prog w) A (eval e env) (fun o s₁=>wpAny (model prog w) A (getAttr o f true) Q E s₁) E s):wpAny (model prog w) A (eval (.Attribute e f pos) env) Q E s:=
 Attribute_any_ h (by rw[arm_eval_Attribute,hb])
end
def Kj(K:W.Frag)(ta:TE)(f:Str):TE:=fun σ H Q=>ta σ H fun x H1=>∃ a C dx fs v,x=.ref a∧H1 a=some (.ins C dx fs)∧ju K C∧aU K C f∧fs.lookup f=some v∧Q v H1
def KR(K:W.Frag)(ta tv:TE)(f:Str):TS:=fun D σ H=>tv σ H fun y H1=>ta σ H1 fun x H2=>∃ a C dx fs,x=.ref a∧H2 a=some (.ins C dx fs)∧ju K C∧aU K C f∧fs.length < 1000 ∧
 D.nx σ (upd H2 a (.ins C dx (fi f y fs)))
section
variable {X:Cx}{o e value:Expr}{f:Str}{pos pos' eO:Pos}{ta tv:TE}
theorem By(he:PE X e ta)(hb:attributeBase e f X.env (eval e X.env)=eval e X.env):PE X (.Attribute e f pos) (Kj X.K ta f):=by
 refine .mk ?_;intro pins s σ H Q I h;refine zi hb (bL (he pins s σ H _ I h) fun u s1 ⟨x,H1,I1,rx,a,C,dx,fs,v,ex,ea,c,n,l,q⟩=>?_);subst ex;obtain rfl:u=Value.ref a:=rx;exact qI I1 ea c n l fun u' s2 I2 ru=>⟨v,H1,I2,ru,q⟩
theorem Bg(ha:PE X o ta)(hv:PE X value tv)(hs:swapsWith value (some (.Attribute o f pos')) pos.line X.env=pure false):PS X (.Assign [.Attribute o f pos'] value pos) (KR X.K ta tv f):=by
 refine .mk ?_;intro pins s σ H D I h;refine plainObj_wpAny_Assign_Attribute (bL (hv pins s σ H _ I h) fun u s1 ⟨y,H1,I1,ry,q⟩=>bL (ha pins s1 σ H1 _ I1 q) fun ov s2 ⟨x,H2,I2,rx,a,C,dx,fs,ex,ea,c,n,l,q2⟩=>?_) hs;subst ex;obtain rfl:ov=Value.ref a:=rx;exact p6 I2 ea c n l ry fun s3 I3=>⟨σ,_,I3,q2⟩
end
section
variable {X:Cx}{pins:List (Addr×Obj)}{σ:St}{H:Hp}{s:Shared}{A:Around}{E:Value→Shared→Prop}{Q:Value→Shared→Prop}{c:Value}{b:Bool}
inductive h8(K:W.Frag)(H:Hp):V→Value→Prop where
 | non:h8 K H .non (.type "NoneType")
 | bl (x:Bool):h8 K H (.bl x) (.type "bool")
 | int (i:Int):h8 K H (.int i) (.type "int")
 | str (x:Str):h8 K H (.str x) (.type "str")
 | flt (x:UInt64):h8 K H (.flt x) (.type "float")
 | lst {a:Addr} {xs:List V} (e:H a=some (.lst xs)):h8 K H (.ref a) (.type "list")
 | frz {a:Addr} {o:Obj} {xs:List V} (e:H a=some (.frz o (.lst xs))):h8 K H (.ref a) (.type "list")
 | tup {a:Addr} {xs:List V} (e:H a=some (.tup xs)):h8 K H (.ref a) (.type "tuple")
 | dK {a:Addr} {ak:List (Key×V)} (e:H a=some (.dK ak)):h8 K H (.ref a) (.type "dict")
 | dT {a:Addr} {ak:List (List Key×V)} (e:H a=some (.dT ak)):h8 K H (.ref a) (.type "dict")
 | ins {a C dx:Addr} {fs:List (Str×V)} (e:H a=some (.ins C dx fs)) (cl:ju K C) (ha:W.findIn K (.ref C) "__class__" = some (some (.builtin "object.__class__")))
   (hn:W.specialIn K (.builtin "object.__class__") "__get__" = some (some (.builtin "getset_descriptor.__get__"))) (Qo:W.takesIn K (.builtin "object.__class__")=some true)
   (hm:W.mroIn K C (.type "object")=some true):h8 K H (.ref a) (.ref C)
theorem tV{x:V}{u t:Value}(I:Inv X pins σ H s)(rx:RelV x u)(ty:h8 X.K H x t)(e:W.kitOne X.K t c=some b)(h:∀ tk,Q (.bool b) {s with toks:=tk}):
  wpAny (model X.prog X.w) A (call (.builtin "isinstance") [u,c]) Q E s:=by
 cases ty with
 | non=>cases(show u=Value.none from rx);exact Zu W.kitx_none I.iO True.intro e (fun z=>nomatch z) h
 | bl y=>cases(show u=Value.bool y from rx);exact Zu W.kitx_bool I.iO True.intro e (fun z=>nomatch z) h
 | int i=>obtain⟨t,q⟩:=(show ∃ t,u=Value.int i t from rx);cases q;exact Zu W.kitx_int I.iO True.intro e (fun z=>nomatch z) h
 | str y=>obtain⟨t,q⟩:=(show ∃ t,u=Value.str y t from rx);cases q;exact Zu W.kitx_str I.iO True.intro e (fun z=>nomatch z) h
 | flt y=>obtain⟨t,q⟩:=(show ∃ t,u=Value.float y t from rx);cases q;exact Zu W.kitx_float I.iO True.intro e (fun z=>nomatch z) h
 | @lst a xs ea=>
  cases(show u=Value.ref a from rx);obtain⟨_,_,n,_,h1⟩:=(show bK X.prog X.w H s.heap a (.lst xs)from I.bB a _ ea);exact Zu W.kitx_list I.iO ⟨_,h1,rfl⟩ e (fun z=>nomatch z) h
 | @frz a ob xs ea=>
  cases(show u=Value.ref a from rx);obtain⟨_,_,_,n,_,h1⟩:=(show bK X.prog X.w H s.heap a (.frz ob (.lst xs))from I.bB a _ ea);exact Zu W.kitx_list I.iO ⟨_,h1,rfl⟩ e (fun z=>nomatch z) h
 | @tup a xs ea=>
  cases(show u=Value.ref a from rx);obtain⟨_,_,_,p⟩:=(show bK X.prog X.w H s.heap a (.tup xs)from I.bB a _ ea);obtain⟨o,h1,h2,_⟩:=p;exact Zu W.kitx_tuple I.iO ⟨o,h1,h2⟩ e (fun z=>nomatch z) h
 | @dK a ak ea=>
  cases(show u=Value.ref a from rx);obtain⟨_,_,vs,_,p⟩:=(show bK X.prog X.w H s.heap a (.dK ak)from I.bB a _ ea);obtain⟨o,es,ep,h1,h2,_⟩:=p;exact Zu W.kitx_dict I.iO ⟨o,h1,h2.1⟩ e (fun z=>nomatch z) h
 | @dT a ak ea=>
  cases(show u=Value.ref a from rx);obtain⟨_,_,xs,_,o,es,ep,h1,h2,_⟩:=(show bK X.prog X.w H s.heap a (.dT ak)from I.bB a _ ea);exact Zu W.kitx_dict I.iO ⟨o,h1,h2.1⟩ e (fun z=>nomatch z) h
 | @ins a C dx fs ea cl ha hn Qo hm=>
  cases(show u=Value.ref a from rx);obtain⟨mA,O,_⟩:=jB I.bB ea;obtain⟨od,J,_⟩:=O.look;exact Zu (W.kitx_own (cl.get _) cl.hd ha hn Qo hm) I.iO J e (fun z=>nomatch z) h
end
structure cq(k:Nat)(A:Around):Prop where
 hd:A.handled=none
 dp:A.depth+3 * k+5 < recursionLimit
 un:A.units+16 * k+200 < cLine
theorem cq.mono{j k:Nat}{A:Around}(r:cq k A)(h:j≤k):cq j A:=⟨r.hd,by have:=r.dp;omega,by have:=r.un;omega⟩
theorem cq.deeper{k:Nat}{A:Around}(r:cq (k+1) A)(env:Env):cq k (A.deeper env):=
 ⟨r.hd,by have:=r.dp;show A.depth+1+3 * k+5 < _;omega,by have:=r.un;show A.units+3+16 * k+200 < _;omega⟩
theorem qu{A:Around}{C:Addr}{us:List Value}{kw:List (Str×Value)}:(A.under (.builtin "type.__call__" ⟨.ref C::us,kw⟩)).depth=A.depth+1:=by
 first | rfl | simp[Around.under,Code.weight,Code.isCreation,Code.isGuard,Code.isCaller,Code.frames,Code.isFrame,guardIds]
theorem qt{A:Around}{C:Addr}{us:List Value}{kw:List (Str×Value)}:(A.under (.builtin "type.__call__" ⟨.ref C::us,kw⟩)).units=A.units+1:=by
 first | rfl | simp[Around.under,Code.cUnits,Code.frames,Code.isFrame]
theorem cq.make{k:Nat}{A:Around}(r:cq (k+1) A)(C:Addr)(us:List Value)(kw:List (Str×Value)):cq k (A.under (.builtin "type.__call__" ⟨.ref C::us,kw⟩)):=
 ⟨r.hd,by have:=r.dp;rw[qu];omega,by have:=r.un;rw[qt];omega⟩
theorem cq.depth{k:Nat}{A:Around}(r:cq k A):A.depth < recursionLimit:=by have:=r.dp;omega
theorem cq.units{k:Nat}{A:Around}(r:cq k A):A.units+64 < cLine:=by have:=r.un;omega
theorem cq.pU{k:Nat}{A:Around}(r:cq k A):A.units < cLine:=by have:=r.un;omega
def AJ:TA:=fun _ H Q=>Q [] H
def uZ(ta:TE)(tr:TA):TA:=fun σ H Q=>ta σ H fun x H1=>tr σ H1 fun xs H2=>Q (x::xs) H2
section
variable {X:Cx}{e:Expr}{es:List Expr}{te:TE}{t:TA}{pos:Pos}
theorem vF:PA X [] AJ:=.mk fun _ _ _ _ H Q I h=>Calls.spliced_nil ⟨[],H,I,.nil,h⟩
theorem mM(ha:PE X e te)(hr:PA X es t)(hs:starEach (e::es) X.env=(false,eval e X.env)::starEach es X.env:=by rfl):PA X (e::es) (uZ te t):=by
 refine .mk ?_;intro pos pins s σ H Q I h;rw[hs];show wpAny _ _ (spliced ((false,eval e X.env)::backTo pos (starEach es X.env))) _ _ s
 refine Calls.spliced_cons (bL (ha pins s σ H _ I h) fun u s1 ⟨x,H1,I1,r1,q1⟩=>?_);exact bL (hr pos pins s1 σ H1 _ I1 q1) fun us s2 ⟨xs,H2,I2,r2,q2⟩=>⟨x::xs,H2,I2,.cons r1 r2,q2⟩
def Kc(t:TA):TE:=fun σ H Q=>t σ H fun xs H1=>xs.length≤sizeLine∧∀ p,H1 p=none→Q (.ref p) (upd H1 p (.tup xs))
def Kg(t:TA):TE:=fun σ H Q=>t σ H fun xs H1=>xs.length≤sizeLine∧∀ p,H1 p=none→Q (.ref p) (upd H1 p (.lst xs))
theorem Bp{x1}(h:PA X es t):PE X (.Tuple es x1 pos) (Kc t):=by
 refine .mk ?_;intro pins s σ H Q I hq;refine wpAny_Tuple_spliced (bL (h pos pins s σ H _ I hq) fun us s1 ⟨xs,H1,I1,r,z,q⟩=>⟨by rw[← r.length];exact z,?_⟩);have hf:H1 s1.heap.objs.size=none:=I1.bB.fresh (Yz _);refine⟨.ref s1.heap.objs.size,upd H1 s1.heap.objs.size (.tup xs),I1.laid (t':=s1.toks) (fun b u e=>Yn _ e) (Yz _) ?_,rfl,q _ hf⟩;exact⟨z,us,r,⟨_,YB _ rfl,rfl,_,rfl⟩⟩
theorem Bw(h:PA X es t):PE X (.List es pos) (Kg t):=by
 refine .mk ?_;intro pins s σ H Q I hq;refine wpAny_List_spliced (bL (h pos pins s σ H _ I hq) fun us s1 ⟨xs,H1,I1,r,z,q⟩=>⟨by rw[← r.length];exact z,?_⟩);have hf:H1 s1.heap.objs.size=none:=I1.bB.fresh (Yz _);refine⟨.ref s1.heap.objs.size,upd H1 s1.heap.objs.size (.lst xs),I1.laid (t':=s1.toks) (fun b u e=>Yn _ e) (Yz _) ?_,rfl,q _ hf⟩;exact⟨z,us,0,r,YB _ rfl⟩
end
abbrev Sp:=List V→Hp→VK→XK→Prop
abbrev pR:=List Env→Hp→Shared→XK→Value→Shared→Prop
structure qU(P:Program)(w:World)(K:W.Frag)(mg:Str→Option Value)(base:Heap)(A:Around)(outer:List Env)(s:Shared)(H:Hp):Prop where
 frames:A.frames=some outer
 mod:Mod K mg base
 bs:∀ b o,base.get? b=some o→s.heap.get? b=some o∧H b=none
 wQ:base.objs.size≤s.heap.objs.size
 gE:s.heap.FunFrames base outer
 xg:∀ b∈kO outer,H b=none
 bB:h9 P w H s.heap
 bare:AllBare s.gens
def CE(outer:List Env)(P:Program)(w:World)(H:Hp)(s:Shared)(Q:VK)(u:Value)(s':Shared):Prop:=
 ∃ v H',s'.os=s.os∧AllBare s'.gens∧Un (kO outer) [] H H' s.heap s'.heap∧h9 P w H' s'.heap∧RelV v u∧Q v H'
def CR(CX:pR)(outer:List Env)(P:Program)(w:World)(H:Hp)(s:Shared)(Q:VK)(E:XK)(r:Result)(s':Shared):Prop:=
 match r with
 | .ok (.ret u)=>CE outer P w H s Q u s'
 | .ok _=>False
 | .error e=>CX outer H s E e s'
structure bJ(P:Program)(w:World)(K:W.Frag)(mg:Str→Option Value)(base:Heap)(CX:pR)(k:Nat)(f:Addr)(fd:FuncData)(ps:List Str)(sp:Sp):Prop where
 len:∀ vs H Q E,sp vs H Q E→vs.length=ps.length
 run:∀(A:Around) (outer:List Env) (s:Shared) (H:Hp) (args:Args) (us:List Value) (vs:List V) (Q:VK) (E:XK),cq k A→qU P w K mg base A outer s H→BindsTo s fd args (ps.zip us)→Vals vs us→sp vs H Q E →
  codeAny (model P w) A (.call (.ref f) args) (CR CX outer P w H s Q E) s
theorem bJ.imp{P:Program}{w:World}{K:W.Frag}{mg:Str→Option Value}{base:Heap}{CX:pR}{k:Nat}{f:Addr}{fd:FuncData}{ps:List Str}{sp PB:Sp}(F:bJ P w K mg base CX k f fd ps sp)
  (h:∀ vs H Q E,PB vs H Q E→sp vs H Q E):bJ P w K mg base CX k f fd ps PB:=
 ⟨fun vs H Q E q=>F.len vs H Q E (h _ _ _ _ q),fun A outer s H args us vs Q E hr he hb hv hs=>F.run A outer s H args us vs Q E hr he hb hv (h _ _ _ _ hs)⟩
theorem qU.make{P:Program}{w:World}{K:W.Frag}{mg:Str→Option Value}{base:Heap}{A:Around}{outer:List Env}{s:Shared}{H:Hp}(e:qU P w K mg base A outer s H)(C:Addr)(us:List Value)(kw:List (Str×Value)):
  qU P w K mg base (A.under (.builtin "type.__call__" ⟨.ref C::us,kw⟩)) outer s H:=⟨by first | exact e.frames | (simpa[Around.under,Code.envs,Code.isFrame,pushEnvs]using e.frames),e.mod,e.bs,e.wQ,e.gE,e.xg,e.bB,e.bare⟩
section
variable {X:Cx}{pins:List (Addr×Obj)}{σ:St}{H:Hp}{s s':Shared}
theorem Inv.CJ(I:Inv X pins σ H s):qU X.prog X.w X.K X.mg X.base X.A X.stack s H:=
 ⟨I.ok.frames,I.ok.mod,I.bs,ZG I.ok.wQ I.sz,I.stack,I.jw,I.bB,I.bare⟩
theorem Inv.after{Q:VK}{u:Value}(I:Inv X pins σ H s)(h:CE X.stack X.prog X.w H s Q u s'):EP X pins σ Q u s':=by
 obtain⟨v,H',os,bare,un,bB,r,q⟩:=h;obtain⟨hh,g,d,t,Td⟩:=s';obtain rfl:Td=s.os:=os;exact⟨v,H',I.call (h':=hh) (g':=g) (d':=d) (t':=t) (ch:=[]) un bB bare (fun b z=>absurd z (by simp)),r,q⟩
end
def zC(sp:Sp)(kP:List V)(E:XK)(t:TA):TE:=fun σ H Q=>t σ H fun vs H1=>sp (vs++kP) H1 Q E
def zB(C:Addr)(m:Str)(sp:Sp)(kP:List V)(E:XK)(ta:TE)(t:TA):TE:=fun σ H Q=>ta σ H fun x H1=>∃ a dx fs,x=.ref a∧H1 a=some (.ins C dx fs)∧fs.lookup m=none ∧
 t σ H1 fun vs H2=>sp (x::(vs++kP)) H2 Q E
def ED(C:Addr)(sp:Sp)(kP:List V)(E:XK)(t:TA):TE:=fun σ H Q=>t σ H fun vs H1=>∀ x dx,H1 x=none→H1 dx=none→dx≠x →
 sp (.ref x::(vs++kP)) (upd (upd H1 dx (.own x)) x (.ins C dx [])) (fun v H2=>v=.non∧Q (.ref x) H2) E
def Binds(K:W.Frag)(fd:FuncData)(ps:List Str)(ds:List Value):Prop:=
 ∀(s:Shared) (us:List Value),K.In s.heap→(us++ds).length=ps.length→BindsTo s fd ⟨us,[]⟩ (ps.zip (us++ds))
theorem Binds.all{K:W.Frag}{fd:FuncData}{ps:List Str}(h:∀ us:List Value,us.length=ps.length→bindArgs fd ⟨us,[]⟩=pure (ps.zip us)):Binds K fd ps []:=fun s us _ hl=>by
 rw[YY]at hl ⊢;exact .of_eq (h us hl)
def Passes(CX:pR)(X:Cx)(E:XK):Prop:=∀(pins:List (Addr×Obj)) (σ:St) (H:Hp) (s:Shared) (e:Value) (s':Shared),Inv X pins σ H s→CX X.stack H s E e s'→X.xe e s'
section
variable {X:Cx}{CX:pR}{k:Nat}{f C:Addr}{fd:FuncData}{ps:List Str}{sp:Sp}{kP:List V}{ds:List Value}{E:XK}{x m:Str}{p pos apos:Pos}{e o:Expr}{es:List Expr}{ta:TE}{t:TA}
theorem qd{pins:List (Addr×Obj)}{σ:St}{H:Hp}{s:Shared}{Q:VK}{us:List Value}{vs:List V}(F:bJ X.prog X.w X.K X.mg X.base CX k f fd ps sp)(hr:cq k X.A)(hb:Binds X.K fd ps ds)(hd:Vals kP ds)(hx:Passes CX X E)
  (I:Inv X pins σ H s) (r:Vals vs us) (h:sp (vs++kP) H Q E):wpAny (model X.prog X.w) X.A (call (.ref f) us) (EP X pins σ Q) X.xe s:=by
 have r2:Vals (vs++kP) (us++ds):=r.append hd;have hl:(us++ds).length=ps.length:=by rw[← r2.length];exact F.len _ _ _ _ h
 refine wpAny_call (abt (F.run X.A X.stack s H ⟨us,[]⟩ (us++ds) (vs++kP) Q E hr I.CJ (hb s us I.iO hl) r2 h) fun r s' hq=>?_);cases r with
 | error e=>exact hx pins σ H s e s' I hq
 | ok fl=>
  cases fl with
  | ret u=>exact I.after hq
  | next=>exact False.elim hq
  | brk=>exact False.elim hq
  | cont=>exact False.elim hq
theorem yn(F:bJ X.prog X.w X.K X.mg X.base CX k f fd ps sp)(hr:cq k X.A)(hg:Gl X x)(hm:X.mg x=some (.ref f))(hk:W.keepIn X.K (.ref f)=true)(hb:Binds X.K fd ps ds)(hd:Vals kP ds)(hx:Passes CX X E)
  (ha:PA X (e::es) t) (oT:(x ==("__debug__" : Str))=false:=by decide) (he:starEach (e::es) X.env=(false,eval e X.env)::starEach es X.env:=by rfl) (fA:(backTo pos (starEach es X.env)).any (·.1)=false:=by rfl) :
  PE X (.Call (.Name x p) (e::es) [] pos) (zC sp kP E t):=by
 refine .mk ?_;intro pins s σ H Q I h;refine aa1 (iD I hg hm ?_ oT);refine aaN (h₀:=X.base) I.ok.mod.BY hk (bL (ha pos pins s σ H _ I h) fun us s1 ⟨vs,H1,I1,r,q⟩=>⟨I1.iO,?_⟩) he fA;exact qd F hr hb hd hx I1 r q
theorem ye{pl:Sem Bool}(he:PE X o ta)(c:ju X.K C)(hm:Meth X.K C m f)(F:bJ X.prog X.w X.K X.mg X.base CX k f fd ps sp)(hr:cq k X.A)(hb:Binds X.K fd ps ds)(hd:Vals kP ds)(hx:Passes CX X E)(ha:PA X (e::es) t)
  (kr:starEach (e::es) X.env=(false,eval e X.env)::starEach es X.env:=by rfl) (fA:(backTo pos (starEach es X.env)).any (·.1)=false:=by rfl)
  (ht:eval (.Call (.Attribute o m apos) (e::es) [] pos) X.env=(do
   let ov ← eval o X.env
   standAt apos.atName
   let(f,first) ← holding [ov] (getMethod ov m pl)
   callWith pos f first (backTo pos (starEach (e::es) X.env)) (backToKw pos (keywordEach [] X.env))):=by rfl) :
  PE X (.Call (.Attribute o m apos) (e::es) [] pos) (zB C m sp kP E ta t):=by
 refine .mk ?_;intro pins s σ H Q I h;refine aa6 (pl:=pl) (bL (he pins s σ H _ I h) fun u s1 ⟨x,H1,I1,rx,a,dx,fs,ex,ea,l,q⟩=>?_) ht;subst ex;obtain rfl:u=Value.ref a:=rx;refine hZ I1 ea c hm l ?_;refine aaN (first:=[.ref a]) (h₀:=X.base) I.ok.mod.BY hm.kp (bL (ha pos pins s1 σ H1 _ I1 q) fun us s2 ⟨vs,H2,I2,r,q2⟩=>⟨I2.iO,?_⟩) kr fA;exact qd (us:=.ref a::us) (vs:=.ref a::vs) F hr hb hd hx I2 (.cons rfl r) q2
theorem vA{pl:Sem Bool}(he:PE X o ta)(c:ju X.K C)(hm:Meth X.K C m f)(F:bJ X.prog X.w X.K X.mg X.base CX k f fd ps sp)(hr:cq k X.A)(hb:Binds X.K fd ps ds)(hd:Vals kP ds)(hx:Passes CX X E)
  (ht:eval (.Call (.Attribute o m apos) [] [] pos) X.env=(do
   let ov ← eval o X.env
   standAt apos.atName
   let(f,first) ← holding [ov] (getMethod ov m pl)
   callWith pos f first (backTo pos (starEach [] X.env)) (backToKw pos (keywordEach [] X.env))):=by rfl) :
  PE X (.Call (.Attribute o m apos) [] [] pos) (zB C m sp kP E ta AJ):=by
 refine .mk ?_;intro pins s σ H Q I h;refine aa6 (pl:=pl) (bL (he pins s σ H _ I h) fun u s1 ⟨x,H1,I1,rx,a,dx,fs,ex,ea,l,q⟩=>?_) ht;subst ex;obtain rfl:u=Value.ref a:=rx;refine hZ I1 ea c hm l ?_;exact W.callWith_K0 (first:=[.ref a]) I1.iO hm.kp (qd (us:=[.ref a]) (vs:=[.ref a]) F hr hb hd hx I1 (.cons rfl .nil) q)
structure Mk(K:W.Frag)(C f:Addr):Prop where
 makes:W.makesIn K C=true
 init:W.findIn K (.ref C) "__init__" = some (some (.ref f))
 fn:W.isFn K (.ref f)=true
 kp:W.keepIn K (.ref C)=true
theorem vc{pins:List (Addr×Obj)}{σ:St}{H:Hp}{s:Shared}{Q:VK}{us:List Value}{vs:List V}(M:Mk X.K C f)(F:bJ X.prog X.w X.K X.mg X.base CX k f fd ps sp)(hr:cq (k+1) X.A)(hb:Binds X.K fd ps ds)(hd:Vals kP ds)
  (hx:Passes CX X E) (I:Inv X pins σ H s) (r:Vals vs us)
  (h:∀ x dx,H x=none→H dx=none→dx≠x→sp (.ref x::(vs++kP)) (upd (upd H dx (.own x)) x (.ins C dx [])) (fun v H2=>v=.non∧Q (.ref x) H2) E) :
  wpAny (model X.prog X.w) X.A (call (.ref C) us) (EP X pins σ Q) X.xe s:=by
 have hq:=h (s.heap.objs.size+1) s.heap.objs.size (I.bB.fresh (aat _)) (I.bB.fresh (Yz _)) (YI (aa2 _));have I2:=Inv.made (C:=C) I;have r2:Vals (V.ref (s.heap.objs.size+1)::(vs++kP)) (Value.ref (s.heap.objs.size+1)::(us++ds)):=.cons rfl (r.append hd);have hl:(Value.ref (s.heap.objs.size+1)::us++ds).length=ps.length:=by
  have e:=r2.length;rw[F.len _ _ _ _ hq]at e;exact e.symm
 refine wpAny_call (vZ (f:=f) I.iO M.makes M.init (YW.mp M.fn) (abt (F.run _ X.stack _ _ ⟨Value.ref (s.heap.objs.size+1)::us,[]⟩ (Value.ref (s.heap.objs.size+1)::(us++ds)) _ _ E (hr.make C us [])
  (I2.CJ.make C us []) (hb _ (Value.ref (s.heap.objs.size+1)::us) I2.iO hl) r2 hq) fun r s' GA=>?_))
 cases r with
 | error e=>exact hx pins σ _ _ e s' I2 GA
 | ok fl=>
  cases fl with
  | ret u=>
   obtain⟨v,H',I3,rv,ev,q3⟩:=I2.after GA;subst ev;exact⟨rv,⟨V.ref (s.heap.objs.size+1),H',I3,rfl,q3⟩⟩
  | next=>exact False.elim GA
  | brk=>exact False.elim GA
  | cont=>exact False.elim GA
theorem yf(M:Mk X.K C f)(F:bJ X.prog X.w X.K X.mg X.base CX k f fd ps sp)(hr:cq (k+1) X.A)(hg:Gl X x)(hm:X.mg x=some (.ref C))(hb:Binds X.K fd ps ds)(hd:Vals kP ds)(hx:Passes CX X E)
  (ha:PA X (e::es) t) (oT:(x ==("__debug__" : Str))=false:=by decide) (he:starEach (e::es) X.env=(false,eval e X.env)::starEach es X.env:=by rfl) (fA:(backTo pos (starEach es X.env)).any (·.1)=false:=by rfl) :
  PE X (.Call (.Name x p) (e::es) [] pos) (ED C sp kP E t):=by
 refine .mk ?_;intro pins s σ H Q I h;refine aa1 (iD I hg hm ?_ oT);refine aaN (h₀:=X.base) I.ok.mod.BY M.kp (bL (ha pos pins s σ H _ I h) fun us s1 ⟨vs,H1,I1,r,q⟩=>⟨I1.iO,?_⟩) he fA;exact vc M F hr hb hd hx I1 r q
end
structure PK(X:Cx)(Dx:List Keyword)(t:TA):Prop where
 run:∀(pos:Pos) (pins:List (Addr×Obj)) (s:Shared) (σ:St) (H:Hp) (Q:List V→Hp→Prop),Inv X pins σ H s→t σ H Q→wpAny (model X.prog X.w) X.A (evalAll ((backToKw pos (keywordEach Dx X.env)).map (·.2))) (AP X pins σ Q) X.xe s
instance {X:Cx}{Dx:List Keyword}{t:TA}:CoeFun (PK X Dx t) fun _=>∀(pos:Pos) (pins:List (Addr×Obj)) (s:Shared) (σ:St) (H:Hp) (Q:List V→Hp→Prop),Inv X pins σ H s→t σ H Q→wpAny (model X.prog X.w) X.A (evalAll ((backToKw pos (keywordEach Dx X.env)).map (·.2))) (AP X pins σ Q) X.xe s:=⟨PK.run⟩
section
variable {X:Cx}{CX:pR}{k:Nat}{f C:Addr}{fd:FuncData}{ps ks:List Str}{sp:Sp}{E:XK}{x m:Str}{p pos apos BW:Pos}{e o:Expr}{es:List Expr}{Dx:List Keyword}{te ta:TE}{t tk:TA}{nm:Option Str}
variable {g:List Value→List Value→List Value}{gV:List V→List V→List V}
end
structure aE(N P:List Str)(sc:Scope):Prop where
 kind:sc.kind=.function
 co:sc.isCoroutine=false
 gen:sc.isGenerator=false
 nd:N.Nodup
 pre:N.take P.length=P
 par:∀ x∈P,sc.names.lookup x=some .local∨sc.names.lookup x=some .cell
 BN:∀ y∈sc.names,y.2≠.free
theorem mj{kindOf:Str→Option NameKind}{x:Str}:∀{binds:List (Str×Value)} {m:Str→Option Value},(∀ v,(x,v)∉binds)→bindL kindOf binds m x=m x
 | [],_,_=>rfl
 | (n,v)::r,m,h=>by
  unfold bindL;rw[mj fun w hw=>h w (Zo _ hw)];split
  ·have:x≠n:=by rintro rfl;exact h v aaf
   simp[this]
  ·rfl
theorem mn{kindOf:Str→Option NameKind}{x:Str}:∀{binds:List (Str×Value)} {m:Str→Option Value},(∀ v,(x,v)∉binds)→bindC kindOf binds m x=m x
 | [],_,_=>rfl
 | (n,v)::r,m,h=>by
  unfold bindC;rw[mn fun w hw=>h w (Zo _ hw)];split
  ·rfl
  ·have:x≠n:=by rintro rfl;exact h v aaf
   simp[this]
theorem mm{kindOf:Str→Option NameKind}{x:Str}{v:Value}:∀{P:List Str} {vs:List Value} {i:Nat} {m:Str→Option Value},P.Nodup→P[i]? = some x→vs[i]? = some v→kindOf x=some .local →
  bindL kindOf (P.zip vs) m x=some v
 | [],_,_,_,_,h,_,_=>by simp at h
 | _::_,[],_,_,_,_,h,_=>by simp at h
 | p::P,w::vs,0,m,nd,h1,h2,hk=>by
  simp at h1 h2;subst h1;subst h2;show bindL kindOf ((p,w)::P.zip vs) m p=_
  unfold bindL;rw[mj fun v hv=>(Zq.mp nd).1 (aa8 hv).1,YV hk];simp
 | p::P,w::vs,i+1,m,nd,h1,h2,hk=>by
  show bindL kindOf ((p,w)::P.zip vs) m x=_
  unfold bindL;exact mm (i:=i) (Zq.mp nd).2 (by simpa using h1) (by simpa using h2) hk
theorem mv{kindOf:Str→Option NameKind}{x:Str}{v:Value}:∀{P:List Str} {vs:List Value} {i:Nat} {m:Str→Option Value},P.Nodup→P[i]? = some x→vs[i]? = some v→kindOf x≠some .local →
  bindC kindOf (P.zip vs) m x=some v
 | [],_,_,_,_,h,_,_=>by simp at h
 | _::_,[],_,_,_,_,h,_=>by simp at h
 | p::P,w::vs,0,m,nd,h1,h2,hk=>by
  simp at h1 h2;subst h1;subst h2;show bindC kindOf ((p,w)::P.zip vs) m p=_
  unfold bindC;rw[mn fun v hv=>(Zq.mp nd).1 (aa8 hv).1,YN hk];simp
 | p::P,w::vs,i+1,m,nd,h1,h2,hk=>by
  show bindC kindOf ((p,w)::P.zip vs) m x=_
  unfold bindC;exact mv (i:=i) (Zq.mp nd).2 (by simpa using h1) (by simpa using h2) hk
def start(N:List Str)(vs:List V):St:=vs.map some++List.replicate (N.length-vs.length) none
def pe(CX:pR)(P:Program)(w:World)(K:W.Frag)(mg:Str→Option Value)(base:Heap)(N:List Str)(qual:Str)(scope:Scope)(f:Addr)(cd:Value)(A:Around)(outer:List Env)(s:Shared)(H:Hp)(E:XK):Cx where
 prog:=P
 w:=w
 K:=K
 mg:=mg
 base:=base
 A:=A.deeper (envOfC qual scope s.heap.objs.size f cd)
 N:=N
 s₀:=s
 H₀:=H
 env:=envOfC qual scope s.heap.objs.size f cd
 outer:=outer
 stack:=envOfC qual scope s.heap.objs.size f cd::outer
 ex:=[]
 calm:=true
 fn:=fun _=>true
 pn:=[]
 xe:=fun e s'=>wpAny (model P w) (A.deeper (envOfC qual scope s.heap.objs.size f cd)) (leaving (envOfC qual scope s.heap.objs.size f cd) e) (fun _ sS=>CX outer H s E e sS) (fun e' sS=>CX outer H s E e' sS) s'
theorem pj{sc:Scope}{n:Nat}{x:Str}(h:sc.names.lookup x=some .cell):∃ c,(cellsFrom n sc.names []).lookup x=some c:=by
 have q:=W.cellsFrom_some sc.names n [] (.inl h);exact abW.mp q
theorem tW{CX:pR}{P:Program}{w:World}{K:W.Frag}{mg:Str→Option Value}{base:Heap}{N ps:List Str}{qual:Str}{scope:Scope}{f:Addr}{cd:Value}{A:Around}{outer:List Env}{s s1:Shared}{H:Hp}{E:XK}{us:List Value}{vs:List V}
  (S:aE N ps scope) (hd:A.handled=none) (e0:qU P w K mg base A outer s H) (hl:vs.length=ps.length) (r:Vals vs us)
  (x:InCallC s s.heap.objs.size (bindL (envOfC qual scope s.heap.objs.size f cd).kindOf (ps.zip us) fun _=>none) (cellsFrom (s.heap.objs.size+1) scope.names []) (bindC (envOfC qual scope s.heap.objs.size f cd).kindOf (ps.zip us) fun _=>none) s1) :
  Inv (pe CX P w K mg base N qual scope f cd A outer s H E) [] (start N vs) H s1:=by
 have fA:ps.length≤N.length:=by have:=ZM List.length S.pre;rw[YG]at this;omega
 obtain⟨h1,tk,rfl,hk⟩:=x.done;have FW:∀ b:Addr,b∉(pe CX P w K mg base N qual scope f cd A outer s H E).ex:=fun b z=>absurd (show b∈([]:List Addr)from z) (by simp);refine⟨⟨e0.mod,S.kind,rfl,rfl,Yz _,fun y z c h1 h2=>?_,fun y hy=>?_,fun y c _ h=>?_,fun _=>hd,Around.frames_deeper e0.frames,.inr ⟨rfl,rfl⟩,fun b z=>absurd z (FW b),e0.bs,e0.wQ,fun b _ _=>FW b,fun b z=>absurd z (FW b),e0.gE,e0.xg⟩,
  rfl,e0.bare,Un.kept hk,⟨_,x.toInCall.ns,fun i y v h1 h2 h3=>?_⟩,fun y c h=>⟨_,x.cell y c h⟩,e0.bB.fresh (Yz _),fun y c h=>?_,fun p hp=>absurd (show p∈([]:List (Addr×Obj))from hp) (by simp),e0.bB.kept hk,?_⟩
 ·exact name_of_addr x.apart (aas h1) (aas h2)
 ·have hy:scope.names.lookup y=some .cell∨scope.names.lookup y=some .free:=hy
  rcases hy with hy | hy
  ·exact pj hy
  ·exact absurd rfl (S.BN _ (aas hy))
 ·exact Zi (x.above y c (aas h))
 ·have hi:i < vs.length:=by
   unfold start at h2;by_cases hi:i < vs.length
   ·exact hi
   ·rw[YT (by simpa using hi)]at h2
    rw[aay]at h2;split at h2<;>cases h2
  have ha:vs[i]? = some v:=by
   unfold start at h2;rw[Y6 (by simpa using hi),Y2]at h2;cases e:vs[i]? with
   | none=>rw[e]at h2;cases h2
   | some a=>rw[e]at h2;cases h2;rfl
  obtain⟨u,hu,rv⟩:=r.get ha;have hp:ps[i]? = some y:=by
   rw[← S.pre,ZZ (by omega)];exact h1
  have P5:ps.Nodup:=by rw[← S.pre];exact S.nd.sublist (List.take_sublist _ _)
  refine⟨u,rv,?_⟩;rcases S.par y (ZT hp)with k | k
  ·exact .inl ⟨k,mm P5 hp hu k⟩
  ·obtain⟨c,e⟩:=pj (n:=s.heap.objs.size+1) k
   refine .inr ⟨.inl k,c,e,?_⟩;have q:=x.cell y c e;rw[mv P5 hp hu (by show scope.names.lookup y≠_;rw[k];decide)]at q;exact q
 ·exact e0.bB.fresh (Zi (x.above y c (aas h)))
 ·unfold start
  show _=N.length
  rw[Yo,Yw,Zs];omega
theorem zX{CX:pR}{P:Program}{w:World}{K:W.Frag}{mg:Str→Option Value}{base:Heap}{k:Nat}{f:Addr}{name qual:Str}{params:Arguments}{body:List Stmt}{scope:Scope}{dV kV doc pm cM ct oc:Value}{an od:Option Addr}
  {yt:Array (Option Value)} {N ps:List Str} {sp:Sp} (lk:K.lookup f=some ⟨oc,od,.func (W.fnOf name qual params body scope dV kV doc pm an cM ct),yt⟩) (qH:W.codeIn K cM qual=true) (S:aE N ps scope)
  (len:∀ vs H Q E,sp vs H Q E→vs.length=ps.length)
  (iE:∀(A:Around) (outer:List Env) (s:Shared) (H:Hp) (vs:List V) (Q:VK) (E:XK),cq k (A.deeper (envOfC qual scope s.heap.objs.size f cM))→sp vs H Q E →
   ∃ t,gI (pe CX P w K mg base N qual scope f cM A outer s H E) body t∧t {nx:=fun _ H'=>Q .non H',rt:=Q} (start N vs) H) :
  bJ P w K mg base CX (k+1) f (W.fnOf name qual params body scope dV kV doc pm an cM ct) ps sp:=by
 refine⟨len,fun A outer s H args us vs Q E hr e0 hb r pO=>?_⟩;have hl:=len _ _ _ _ pO;have KX:K.In s.heap:=e0.mod.BY.keeps fun b o e=>(e0.bs b o e).1;have lim:s.heap.NoLimit:=e0.mod.nolimit.keeps fun b o e=>(e0.bs b o e).1;have GL:∀ y∈ps.zip us,scope.names.lookup y.1=some .local∨(scope.names.lookup y.1=some .cell∧((cellsFrom (s.heap.objs.size+1) scope.names []).lookup y.1).isSome=true):=fun⟨n,v⟩ hy=>by
  rcases S.par n (aa8 hy).1 with q | q
  ·exact .inl q
  ·exact .inr ⟨q,W.cellsFrom_some _ _ _ (.inl q)⟩
 refine codeAny_call_function hr.depth (KX _ _ lk) rfl S.co S.gen rfl (W.codeRec_of KX qH) (hb _ _ _ _ ?_);refine wpAny_newFunctionEnv_cells S.kind GL fun env he s1 x=>?_;subst he;refine⟨lim.keeps x.toInCall.keep,codeAny_func ?_⟩;obtain⟨t,ht,hq⟩:=iE A outer s H vs Q E (hr.deeper _) pO;have I:Inv (pe CX P w K mg base N qual scope f cM A outer s H E) [] (start N vs) H s1:=tW S hr.hd e0 hl r x;refine Zz (ht [] s1 (start N vs) H _ I hq) (fun fl s' hs=>?_) fun e s' hs=>hs;have fin:∀{σ':St} {H':Hp} {v:V} {u:Value},Inv (pe CX P w K mg base N qual scope f cM A outer s H E) [] σ' H' s'→RelV v u→Q v H'→CE outer P w H s Q u s':=
  fun {σ' H' v u} J rv q=>⟨v,H',J.os,J.bare,J.base,J.bB,rv,q⟩
 cases fl with
 | ret u=>
  obtain⟨v,σ',H',J,rv,q⟩:=hs;exact fin J rv q
 | next=>
  obtain⟨σ',H',J,q⟩:=hs;exact fin (v:=V.non) (u:=Value.none) J rfl q
 | brk=>
  obtain⟨_,_,_,q⟩:=hs;exact False.elim q
 | cont=>
  obtain⟨_,_,_,q⟩:=hs;exact False.elim q
section
variable {X:Cx}{x:Str}{p pos:Pos}{e:Expr}{es:List Expr}{t:TA}{id T:String}{r:List V→Hp→VK→Prop}
def Kl(r:List V→Hp→VK→Prop)(t:TA):TE:=fun σ H Q=>t σ H fun vs H1=>r vs H1 Q
theorem oj(hc:gk X (.builtin id) r)(hg:Gl X x)(hm:X.mg x=none)(hv:bootBuiltins x=some (.builtin id))(ha:PA X (e::es) t)(hn:x ≠ "__name__" := by decide)(oT:(x ==("__debug__" : Str))=false:=by decide)
  (he:starEach (e::es) X.env=(false,eval e X.env)::starEach es X.env:=by rfl) (fA:(backTo pos (starEach es X.env)).any (·.1)=false:=by rfl):PE X (.Call (.Name x p) (e::es) [] pos) (Kl r t):=by
 refine .mk ?_;intro pins s σ H Q I h;refine aa1 (fY I hg hm hv ?_ hn oT);exact PyProof.Rows.callWith_builtin1 (bL (ha pos pins s σ H _ I h) fun us s1 ⟨vs,H1,I1,r1,q1⟩=>hc pins s1 σ H1 vs us Q I1 r1 q1) he fA
theorem tf(hc:gk X (.type T) r)(hg:Gl X x)(hm:X.mg x=none)(hv:bootBuiltins x=some (.type T))(ha:PA X (e::es) t)(hn:x ≠ "__name__" := by decide)(oT:(x ==("__debug__" : Str))=false:=by decide)
  (he:starEach (e::es) X.env=(false,eval e X.env)::starEach es X.env:=by rfl) (fA:(backTo pos (starEach es X.env)).any (·.1)=false:=by rfl):PE X (.Call (.Name x p) (e::es) [] pos) (Kl r t):=by
 refine .mk ?_;intro pins s σ H Q I h;refine aa1 (fY I hg hm hv ?_ hn oT);exact Zv (bL (ha pos pins s σ H _ I h) fun us s1 ⟨vs,H1,I1,r1,q1⟩=>hc pins s1 σ H1 vs us Q I1 r1 q1) he fA
end
end L2
namespace HT
open PySem PyProof.Rows
section
open PySem.SeqAt
open PySem.AutoSeq1 (wpAny_loadPart')
open PySem.MeetsSeq PySem.MeetsSeq2 PySem.MeetsSeq3
end
section
variable {prog:Program}{w:World}{A:Around}{E:Value→Shared→Prop}{s:Shared}
end
end HT
namespace L2
open PySem PySem.Spec PyProof.Rows
abbrev TO:=St→Hp→(Option Int→Hp→Prop)→Prop
structure PO(X:Cx)(e:Option Expr)(t:TO):Prop where
 run:∀(pins:List (Addr×Obj)) (s:Shared) (σ:St) (H:Hp) (Q:Option Int→Hp→Prop),Inv X pins σ H s→t σ H Q →
  wpAny (model X.prog X.w) X.A (evalPart e X.env) (fun u s'=>∃ o H',Inv X pins σ H' s'∧IsPart u o∧Q o H') X.xe s
instance {X:Cx}{e:Option Expr}{t:TO}:CoeFun (PO X e t) fun _=>∀(pins:List (Addr×Obj)) (s:Shared) (σ:St) (H:Hp) (Q:Option Int→Hp→Prop),Inv X pins σ H s→t σ H Q→wpAny (model X.prog X.w) X.A (evalPart e X.env) (fun u s'=>∃ o H',Inv X pins σ H' s'∧IsPart u o∧Q o H') X.xe s:=⟨PO.run⟩
def Ez(t:TE):TO:=fun σ H Q=>t σ H fun x H1=>∃ i,x=.int i∧Q (some i) H1
section
variable {X:Cx}{e:Expr}{te:TE}{lo hi:Option Expr}{tl th:TO}{pos p2:Pos}
theorem x9(h:PE X e te):PO X (some e) (Ez te):=by
 refine .mk ?_;intro pins s σ H Q I hw;rw[evalPart_some];refine bL (h pins s σ H _ I hw) fun u s1 ⟨x,H1,I1,r1,q1⟩=>?_;obtain⟨i,rfl,q⟩:=q1;obtain⟨t,rfl⟩:=r1;exact⟨some i,H1,I1,.int i t,q⟩
end
def oO(n:Nat)(i:Int):Option Nat:=if 0≤i then(if i < n then some i.toNat else none)else if -(n:Int)≤i then some (i+n).toNat else none
def jo{α:Type}(xs:List α)(i:Int):Option α:=(oO xs.length i).bind fun j=>xs[j]?
theorem mT{n:Nat}{i:Int}{j:Nat}(h:oO n i=some j):seqIndex? i n=some j∧j < n∧-(n:Int)≤i∧i < n:=by
 unfold oO at h;by_cases h0:0≤i
 ·rw[YV h0]at h
  by_cases h1:i < n
  ·rw[YV h1]at h
   have e:i.toNat=j:=Y5 h;exact⟨by rw[seqIndex_of h0 h1,e],by omega,by omega,h1⟩
  ·rw[YN h1]at h;cases h
 ·rw[YN h0]at h
  by_cases h1:-(n:Int)≤i
  ·rw[YV h1]at h
   have e:(i+n).toNat=j:=Y5 h;exact⟨by rw[seqIndex_neg (by omega) h1,e],by omega,h1,by omega⟩
  ·rw[YN h1]at h;cases h
theorem nF{α:Type}{xs:List α}{i:Int}{v:α}(h:jo xs i=some v):∃ j,seqIndex? i xs.length=some j∧xs[j]? = some v∧j < xs.length∧-(xs.length:Int)≤i∧i < xs.length:=by
 unfold jo at h;cases e:oO xs.length i with
 | none=>rw[e]at h;cases h
 | some j=>
  rw[e]at h;obtain⟨h1,h2,h3,h4⟩:=mT e;exact⟨j,h1,h,h2,h3,h4⟩
theorem bY{α:Type}{xs:List α}{j:Nat}{v:α}(h:xs[j]? = some v):jo xs (j:Int)=some v:=by
 have hj:j < xs.length:=(YO.mp h).1;have e:oO xs.length (j:Int)=some j:=by
  unfold oO;rw[YV (by omega),YV (by omega)];simp
 unfold jo;rw[e];exact h
def nG(b:Expr):Prop:=∀ o i,subscripted b false o i=operate [o,i] (getItem o i)
def zr(X:Cx)(r:R2):Prop:=
 ∀(value slice:Expr) (pins:List (Addr×Obj)) (s:Shared) (σ:St) (H:Hp) (x y:V) (v u:Value) (Q:VK),Inv X pins σ H s→RelV x v→RelV y u→r x y H Q →
  subscripted slice false v u=operate [v,u] (getItem v u)→wpAny (model X.prog X.w) X.A (subscriptTail value slice v u) (EP X pins σ Q) X.xe s
def JB(X:Cx)(id:String)(r:V→List V→Hp→VK→Prop):Prop:=
 ∀(pins:List (Addr×Obj)) (s:Shared) (σ:St) (H:Hp) (x:V) (xs:List V) (v:Value) (us:List Value) (Q:VK),Inv X pins σ H s→RelV x v→Vals xs us→r x xs H Q →
  wpAny (model X.prog X.w) X.A (call (.builtin id) (v::us)) (EP X pins σ Q) X.xe s
section
variable {X:Cx}{a b:Expr}{ta tb:TE}{pos:Pos}
theorem zr.or{r r':R2}(h:zr X r)(h':zr X r'):zr X (fun x y H Q=>r x y H Q∨r' x y H Q):=by
 intro value slice pins s σ H x y v u Q I rx ry q hs;rcases q with q | q
 ·exact h value slice pins s σ H x y v u Q I rx ry q hs
 ·exact h' value slice pins s σ H x y v u Q I rx ry q hs
theorem zL{r:R2}(hr:zr X r)(ha:PE X a ta)(hb:PE X b tb)(hs:nG b):PE X (.Subscript a b pos) (EA r ta tb):=by
 refine .mk ?_;intro pins s σ H Q I h;exact Subscript_ (CZ ha hb I h fun v u s2 x y H2 I2 rx ry q=>hr a b pins s2 σ H2 x y v u Q I2 rx ry q (hs _ _))
def Fn(K:W.Frag):R2:=fun x y H Q=>∃ p xs i v,x=.ref p∧y=.int i∧dF K H p xs∧jo xs i=some v∧Q v H
def Fl(K:W.Frag):R2:=fun x y H Q=>∃ p xs i v,x=.ref p∧y=.int i∧iM K H p xs∧jo xs i=some v∧Q v H
def Fm:R2:=fun x y H Q=>∃ z i c,x=.str z∧y=.int i∧z.length≤sizeLine∧jo z.cps.toList i=some c∧Q (.str ⟨#[c]⟩) H
theorem rJ:zr X (Fn X.K):=by
 intro value slice pins s σ H x y v u Q I rx ry h hs;obtain⟨p,xs,i,z,rfl,rfl,hq,he,q⟩:=h;cases rx;obtain⟨t,rfl⟩:=ry;obtain⟨aA,r,pl,hz⟩:=I.list hq;obtain⟨j,h1,h2,h3,h4,h5⟩:=nF he;obtain⟨w,ew,nV⟩:=r.get h2;have hl:=r.length;have hn:=kh;have fin:EP X pins σ Q w s:=⟨z,H,I,nV,q⟩;by_cases h0:0≤i
 ·have hj:i.toNat=j:=by
   rw[seqIndex_of h0 h5]at h1;exact Y5 h1
  exact item_listR pl.isList h0 (by omega) (by rw[hj];simpa using ew) fin hs
 ·have hj:(i+(aA.toArray.size:Int)).toNat=j:=by
   rw[seqIndex_neg (by omega) h4]at h1;rw[YL,← hl];exact Y5 h1
  exact subscriptTail_builtinR (x:=w) pl.isList.typeIs slot_list_getitem.lookup
   (wpAny_getItem_list_neg (Q:=fun r s'=>r=w∧EP X pins σ Q r s') pl.isList (by omega) (by rw[YL]<;>omega) (by omega) (by rw[hj];simpa using ew) ⟨rfl,fin⟩) hs
theorem B8:zr X (Fl X.K):=by
 intro value slice pins s σ H x y v u Q I rx ry h hs;obtain⟨p,xs,i,z,rfl,rfl,hq,he,q⟩:=h;cases rx;obtain⟨t,rfl⟩:=ry;obtain⟨aA,r,pl,hz⟩:=I.tuple hq;obtain⟨j,h1,h2,h3,h4,h5⟩:=nF he;obtain⟨w,ew,nV⟩:=r.get h2;have hl:=r.length;have hn:=kh;have fin:EP X pins σ Q w s:=⟨z,H,I,nV,q⟩;exact subscriptTail_builtinR (x:=w) pl.typeIs slot_tuple_getitem.lookup
  (getItem_tuple (j:=j) (Q:=fun r s'=>r=w∧EP X pins σ Q r s') pl (by omega) (by omega) (by rw[YL,← hl];exact h1) (by simpa using ew) ⟨rfl,fin⟩) hs
theorem B9:zr X Fm:=by
 intro value slice pins s σ H x y v u Q I rx ry h hs;obtain⟨z,i,c,rfl,rfl,hz,he,q⟩:=h;obtain⟨t,rfl⟩:=rx;obtain⟨t',rfl⟩:=ry;obtain⟨j,h1,h2,h3,h4,h5⟩:=nF he;have hl:z.cps.toList.length=z.length:=by simp[Str.length]
 rw[hl]at h1 h4 h5;have hn:=kh;exact tail_any (typeIs_str s z t) slot_str_getitem.lookup (getItem_str (c:=c) (by
  have e1:decide (i < -(2 ^ 63:Int))=false:=Y4 (by omega);have e2:decide (i ≥ 2 ^ 63)=false:=Y4 (by omega);rw[e1,e2,Bool.or_false]) (by rw[h1];simpa using h2) ⟨.str ⟨#[c]⟩,H,I.tok _,⟨_,rfl⟩,q⟩) hs
def Sv(K:W.Frag):R2:=fun x y H Q=>Fn K x y H Q∨Fl K x y H Q∨Fm x y H Q
theorem Ca:zr X (Sv X.K):=rJ.or (B8.or B9)
theorem qr(aA:List Value)(n j:Nat)(u:Value):Obj.mapSeq (·.setIfInBounds j u) {cls:=.type "list",data:=.seq aA.toArray n}={cls:=.type "list",data:=.seq (aA.set j u).toArray n}:=by
 simp[Obj.mapSeq]
theorem Inv.lst{pins:List (Addr×Obj)}{σ:St}{H:Hp}{s:Shared}{p:Addr}{xs:List V}(I:Inv X pins σ H s)(h:H p=some (.lst xs)):
  ∃(aA:List Value) (n:Nat),Vals xs aA∧s.heap.get? p=some {cls:=.type "list",data:=.seq aA.toArray n}∧xs.length≤sizeLine:=by
 obtain⟨z,aA,n,r,e⟩:=I.bB p _ h;exact⟨aA,n,r,e,z⟩
theorem Inv.BR{pins:List (Addr×Obj)}{σ:St}{H:Hp}{s:Shared}{p:Addr}{xs ys:List V}{aA its':List Value}{n n':Nat}{f:Obj→Obj}(I:Inv X pins σ H s)(h:H p=some (.lst xs))
  (ho:s.heap.get? p=some {cls:=.type "list",data:=.seq aA.toArray n}) (hf:f {cls:=.type "list",data:=.seq aA.toArray n}={cls:=.type "list",data:=.seq its'.toArray n'}) (r:Vals ys its') (hz:ys.length≤sizeLine) (t:Nat) :
  Inv X pins σ (upd H p (.lst ys)) {s with heap:=s.heap.update p f,toks:=t}:=by
 have e:(s.heap.update p f).get? p=some {cls:=.type "list",data:=.seq its'.toArray n'}:=by
  rw[aan f ho (by rw[hf]<;>rfl),hf]
 refine I.write (x:=p) (e:=p) (by rw[h];trivial) (.inl rfl) (fun b u hb q=>(aak _ _ (aaV hb)).trans q) ⟨_,e⟩ ?_;exact⟨hz,its',n',r,e⟩
def Fj:V→V→V→Hp→(Hp→Prop)→Prop:=fun o i v H Q=>∃ p xs k j,o=.ref p∧i=.int k∧H p=some (.lst xs)∧oO xs.length k=some j∧Q (upd H p (.lst (xs.set j v)))
theorem set_list:Iq X Fj:=by
 intro pins s σ H o i v ov iv u Q I ro ri rv h;obtain⟨p,xs,k,j,rfl,rfl,hp,hj,q⟩:=h;cases ro;obtain⟨t,rfl⟩:=ri;obtain⟨aA,n,r,ho,hz⟩:=I.lst hp;obtain⟨h1,h2,h3,h4⟩:=mT hj;have hl:=r.length;have hn:=kh;have I':Inv X pins σ (upd H p (.lst (xs.set j v))) {s with heap:=s.heap.update p (Obj.mapSeq (·.setIfInBounds j u))}:=
  I.BR hp ho (qr aA n j u) (r.set rv j) (by rw[List.length_set];exact hz) s.toks
 by_cases h0:0≤k
 ·have hk:k.toNat=j:=by
   rw[seqIndex_of h0 h4]at h1;exact Y5 h1
  exact W.ki_setAt ho h0 (by omega) (by rw[YL,← hl];exact h4) (by rw[hk];exact⟨_,I',q⟩)
 ·have hk:(k+(aA.toArray.size:Int)).toNat=j:=by
   rw[seqIndex_neg (by omega) h3]at h1;rw[YL,← hl];exact Y5 h1
  exact W.ki_setBack ho (by omega) (by rw[YL,← hl];exact h3) (by omega) (by rw[hk];exact⟨_,I',q⟩)
def zY:V→Bool
 | .non=>true
 | .bl _=>true
 | .int _=>true
 | .str _=>true
 | _=>false
def NN:V→V→Bool
 | .non,.non=>true
 | .bl a,.bl b=>a == b
 | .bl a,.int b=>(if a then 1 else 0) == b
 | .int a,.bl b=>a ==(if b then 1 else 0)
 | .int a,.int b=>a == b
 | .str a,.str b=>a == b
 | _,_=>false
theorem CI{A:Around}{s:Shared}{y x:V}{u v:Value}(ry:RelV y u)(rx:RelV x v)(fy:zY y=true)(fx:zY x=true):SeqAt.EqAt A s u v (NN y x):=by
 cases y with
 | non=>
  cases ry;cases x with
  | non=>cases rx;exact SeqAt.EqAt.same _
  | bl b=>cases rx;exact SeqAt.EqAt.none_bool b
  | int b=>obtain⟨t,rfl⟩:=rx;exact SeqAt.EqAt.none_int b t
  | str b=>obtain⟨t,rfl⟩:=rx;exact SeqAt.EqAt.none_str b t
  | _=>exact absurd (show false=true from fx) Yx
 | bl a=>
  cases ry;cases x with
  | non=>cases rx;exact SeqAt.EqAt.bool_none a
  | bl b=>cases rx;exact SeqAt.EqAt.bool_bool a b
  | int b=>obtain⟨t,rfl⟩:=rx;exact SeqAt.EqAt.bool_int a b t
  | str b=>obtain⟨t,rfl⟩:=rx;exact SeqAt.EqAt.bool_str a b t
  | _=>exact absurd (show false=true from fx) Yx
 | int a=>
  obtain⟨t',rfl⟩:=ry;cases x with
  | non=>cases rx;exact SeqAt.EqAt.int_none a t'
  | bl b=>cases rx;exact SeqAt.EqAt.int_bool a t' b
  | int b=>obtain⟨t,rfl⟩:=rx;exact SeqAt.EqAt.int_int a t' b t
  | str b=>obtain⟨t,rfl⟩:=rx;exact SeqAt.EqAt.int_str a t' b t
  | _=>exact absurd (show false=true from fx) Yx
 | str a=>
  obtain⟨t',rfl⟩:=ry;cases x with
  | non=>cases rx;exact SeqAt.EqAt.str_none a t'
  | bl b=>cases rx;exact SeqAt.EqAt.str_bool a t' b
  | int b=>obtain⟨t,rfl⟩:=rx;exact SeqAt.EqAt.str_int a t' b t
  | str b=>obtain⟨t,rfl⟩:=rx;exact SeqAt.EqAt.str_str a t' b t
  | _=>exact absurd (show false=true from fx) Yx
 | _=>exact absurd (show false=true from fy) Yx
theorem iH:gk X (.builtin "len") (fun xs H Q=>∃ p ys,xs=[.ref p]∧(dF X.K H p ys∨iM X.K H p ys)∧Q (.int ys.length) H):=by
 intro pins s σ H xs us Q I r h;obtain⟨p,ys,rfl,hq,q⟩:=h;obtain⟨u,rfl,rx⟩:=vals1 r;cases rx;have hn:=kh;rcases hq with hq | hq
 ·obtain⟨aA,r',pl,hz⟩:=I.list hq
  have hlen:=r'.length;exact Calls.call_len_list pl.isList (by simp only[YL]<;>omega) ⟨.int ys.length,H,I.tok _,⟨s.toks+1,by rw[YL,hlen]⟩,q⟩
 ·obtain⟨aA,r',pl,hz⟩:=I.tuple hq
  have hlen:=r'.length;exact len_tuple pl (by simp only[YL]<;>omega) ⟨.int ys.length,H,I.tok _,⟨s.toks+1,by rw[YL,hlen]⟩,q⟩
theorem nA:gk X (.type "list") (fun xs H Q=>∃ p ys,xs=[.ref p]∧(dF X.K H p ys∨iM X.K H p ys)∧∀ l,H l=none→Q (.ref l) (upd H l (.lst ys))):=by
 intro pins s σ H xs us Q I r h;obtain⟨p,ys,rfl,hq,q⟩:=h;obtain⟨u,rfl,rx⟩:=vals1 r;cases rx;have fin:∀(aA:List Value),Vals ys aA→ys.length≤sizeLine→∀(h':Heap) (c':Nat),(∀ b o',s.heap.get? b=some o'→h'.get? b=some o') →
   h'.get? s.heap.objs.size=some {cls:=.type "list",dict:=none,data:=.seq aA.toArray c',slots:=#[]}→EP X pins σ Q (.ref s.heap.objs.size) {s with heap:=h'}:=fun aA r' hz h' c' kp e=>
  ⟨.ref s.heap.objs.size,_,I.laid (t':=s.toks) kp (Yz _) (show bK X.prog X.w _ h' _ (.lst ys)from⟨hz,aA,c',r',e⟩),rfl,q _ (I.bB.fresh (Yz _))⟩
 rcases hq with hq | hq
 ·obtain⟨aA,r',pl,hz⟩:=I.list hq
  have hlen:=r'.length;obtain⟨o,ho,hc,n,hd⟩:=pl.isList;exact call_list_seq p (.inl rfl) ho hc hd (fun h' c' kp e=>fin aA r' hz h' c' kp e) (by simp only[YL]<;>omega)
 ·obtain⟨aA,r',pl,hz⟩:=I.tuple hq
  have hlen:=r'.length;obtain⟨o,ho,hc,n,hd⟩:=pl;exact call_list_seq p (.inr rfl) ho hc hd (fun h' c' kp e=>fin aA r' hz h' c' kp e) (by simp only[YL]<;>omega)
def IG(K:W.Frag)(T:String)(x:V)(H:Hp):Prop:=match x with
 | .str _=>T = "str"
 | .int _=>T = "int"
 | .ref p=>(T = "list" ∧ ∃ xs,dF K H p xs)∨(T = "tuple" ∧ ∃ o,K.lookup p=some o∧o.cls=.type "tuple" ∧ o.dict=none) ∨
   (T = "dict" ∧((∃ ak,H p=some (.dK ak))∨∃ ak,H p=some (.dT ak)))∨(T = "set" ∧ ∃ S n,H p=some (.set S n))
 | _=>False
theorem uR{pins:List (Addr×Obj)}{σ:St}{H:Hp}{s:Shared}{T:String}{x:V}{v:Value}(I:Inv X pins σ H s)(r:RelV x v)(ty:IG X.K T x H):
  s.TypeIs v T∧∀ a,v=.ref a→∃ ob,s.heap.get? a=some ob∧ob.dict=none:=by
 cases x with
 | str z=>
  obtain⟨t,rfl⟩:=r;cases(show T = "str" from ty);exact⟨typeIs_str s z t,fun _ e=>nomatch e⟩
 | int i=>
  obtain⟨t,rfl⟩:=r;cases(show T = "int" from ty);exact⟨typeIs_int s i t,fun _ e=>nomatch e⟩
 | ref p=>
  cases r;rcases ty with⟨rfl,xs,hq⟩ | ⟨rfl,o,hk,hc,hd⟩ | ⟨rfl,hk⟩ | ⟨rfl,S,n,hk⟩
  ·obtain⟨aA,_,pl,_⟩:=I.list hq
   refine⟨pl.isList.typeIs,fun a e=>?_⟩;cases e;obtain⟨o,n,e,c,hd,_⟩:=pl;exact⟨o,e,hd⟩
  ·refine⟨⟨o,I.iO p o hk,hc⟩,fun a e=>?_⟩
   cases e;exact⟨o,I.iO _ o hk,hd⟩
  ·have z:∃ o,s.heap.get? p=some o∧o.ExactDict:=by
    rcases hk with⟨ak,hk⟩ | ⟨ak,hk⟩
    ·obtain⟨_,_,_,_,o,_,_,e,ex,_⟩:=I.bB p _ hk
     exact⟨o,e,ex⟩
    ·obtain⟨_,_,_,_,o,_,_,e,ex,_⟩:=I.bB p _ hk
     exact⟨o,e,ex⟩
   obtain⟨o,e,ex⟩:=z;refine⟨⟨o,e,ex.1⟩,fun a e2=>?_⟩;cases e2;exact⟨o,e,ex.2.1⟩
  ·obtain⟨o,_,_,_,e,ex,_⟩:=I.bB p _ hk
   refine⟨⟨o,e,ex.1⟩,fun a e2=>?_⟩;cases e2;exact⟨o,e,ex.2.1⟩
 | _=>exact False.elim ty
def Km(K:W.Frag)(T:String)(r:V→List V→Hp→VK→Prop)(to:TE):TE:=fun σ H Q=>to σ H fun x H1=>IG K T x H1∧r x [] H1 Q
def R9(K:W.Frag)(T:String)(r:V→List V→Hp→VK→Prop)(to:TE)(t:TA):TE:=fun σ H Q=>to σ H fun x H1=>IG K T x H1∧t σ H1 fun xs H2=>r x xs H2 Q
variable {o e:Expr}{es:List Expr}{to:TE}{t:TA}{name:Str}{apos dE:Pos}{T id:String}{r:V→List V→Hp→VK→Prop}
theorem Bz(pa:PlainAttrs T)(slot:Slot T name id)(Ci:typeOf (.builtin id)=pure (.type "method_descriptor"))(hm:JB X id r)(ho:PE X o to)
  (ky:attributeBase o name X.env (eval o X.env)=eval o X.env:=by rfl) (ku:(apos.endLine == dE.line)=true:=by rfl):PE X (.Call (.Attribute o name apos) [] [] dE) (Km X.K T r to):=by
 refine .mk ?_;intro pins s σ H Q I h;refine wpAny_Call_method0_late ky ku (bL (ho pins s σ H _ I h) fun v s1 ⟨x,H1,I1,r1,ty,q1⟩=>?_);obtain⟨h1,h2⟩:=uR I1 r1 ty;exact⟨T,id,pa,slot,Ci,h1,h2,Calls.callWith_builtin rfl (PySem.evalArgs_none (hm pins s1 σ H1 x [] v [] Q I1 r1 .nil q1))⟩
theorem FA(pa:PlainAttrs T)(slot:Slot T name id)(Ci:typeOf (.builtin id)=pure (.type "method_descriptor"))(hm:JB X id r)(ho:PE X o to)(ha:PA X (e::es) t)
  (ky:attributeBase o name X.env (eval o X.env)=eval o X.env:=by rfl)
  (Cv:((backTo dE (starEach (e::es) X.env)).all (fun x=>!x.1)&&(backToKw dE (keywordEach [] X.env)).all (fun x=>x.1.isSome)
   && decide ((e::es).length+([]:List Keyword).length+(if([]:List Keyword).isEmpty then 0 else 1) < 30))=true:=by rfl)
  (ku:(apos.endLine == dE.line)=true:=by rfl) (hs:starEach (e::es) X.env=(false,eval e X.env)::starEach es X.env:=by rfl) (qC:(backTo dE (starEach es X.env)).any (·.1)=false:=by rfl) :
  PE X (.Call (.Attribute o name apos) (e::es) [] dE) (R9 X.K T r to t):=by
 refine .mk ?_;intro pins s σ H Q I h;refine wpAny_Call_method_late ky Cv ku rfl (bL (ho pins s σ H _ I h) fun v s1 ⟨x,H1,I1,r1,ty,q1⟩=>?_);obtain⟨h1,h2⟩:=uR I1 r1 ty;refine⟨T,id,pa,slot,Ci,h1,h2,?_⟩;have hA:=ha dE pins s1 σ H1 _ I1 q1;rw[hs]at hA ⊢;refine Calls.callWith_builtin (by show(false||(backTo dE (starEach es X.env)).any (·.1))=false;rw[qC]<;>rfl) (Calls.evalArgs_plain ?_)
 exact bL hA fun us s2 ⟨vs,H2,I2,r2,q2⟩=>hm pins s2 σ H2 x vs v us Q I2 r1 r2 q2
end
def OR(X:Cx)(id:String)(r:V→List V→Hp→VK→Prop):Prop:=
 ∀(pins:List (Addr×Obj)) (s:Shared) (σ:St) (H:Hp) (x:V) (xs:List V) (v:Value) (us:List Value) (Q:VK),Inv X pins σ H s→RelV x v→Vals xs us→r x xs H Q →
  wpAny (model X.prog X.w) X.A (call (.builtin id) (v::us)) (EP X pins σ Q) X.xe s
theorem Vals.one:∀{x:V} {us:List Value},Vals [x] us→∃ u,us=[u]∧RelV x u
 | _,_,.cons r .nil=>⟨_,rfl,r⟩
theorem Vals.two:∀{x y:V} {us:List Value},Vals [x,y] us→∃ u v,us=[u,v]∧RelV x u∧RelV y v
 | _,_,_,.cons r (.cons q .nil)=>⟨_,_,rfl,r,q⟩
theorem Vals.eraseIdx:∀{xs:List V} {us:List Value} (i:Nat),Vals xs us→Vals (xs.eraseIdx i) (us.eraseIdx i)
 | _,_,_,.nil=>.nil
 | _,_,0,.cons _ t=>t
 | _,_,i+1,.cons r t=>.cons r (Vals.eraseIdx i t)
theorem Vals.rep{xs:List V}{us:List Value}(h:Vals xs us):∀ k:Nat,Vals (List.replicate k xs).flatten (List.replicate k us).flatten
 | 0=>.nil
 | k+1=>by
  rw[ZA,ZA,Z0,Z0];exact Vals.append h (Vals.rep h k)
theorem lV{α:Type}:∀(l:List α) (i:Nat),(l.eraseIdx i).length≤l.length
 | [],_=>Yz _
 | _::_,0=>aat _
 | _::r,i+1=>Nat.succ_le_succ (lV r i)
theorem foldl_rep(aA:List Value):∀(k:Nat) (acc:List Value),
  List.foldl (fun x1 x2=>x1++x2) acc.toArray (List.replicate k aA.toArray)=(acc++(List.replicate k aA).flatten).toArray
 | 0,acc=>by simp
 | k+1,acc=>by
  have e:acc.toArray++aA.toArray=(acc++aA).toArray:=by simp
  have e2:(acc++aA)++(List.replicate k aA).flatten=acc++(List.replicate (k+1) aA).flatten:=by
   rw[ZA,Z0,Yt]
  rw[← e2,← foldl_rep aA k (acc++aA),← e,ZA,List.foldl_cons]
section
variable {X:Cx}{pins:List (Addr×Obj)}{σ:St}{H:Hp}{s:Shared}{l b:Addr}{xs ys zs:List V}
theorem Inv.yP{aA its':List Value}{n:Nat}{f:Array Value→Array Value}{t':Nat}(I:Inv X pins σ H s)(hH:H l=some (.lst xs))
  (e:s.heap.get? l=some {cls:=.type "list",data:=.seq aA.toArray n}) (hf:f aA.toArray=its'.toArray) (hv:Vals ys its') (hz:ys.length≤sizeLine) :
  Inv X pins σ (upd H l (.lst ys)) {s with heap:=s.heap.update l (Obj.mapSeq f),toks:=t'}:=by
 have q:=PySem.IsL.update e f;rw[hf]at q;refine I.write (x:=l) (e:=l) (by rw[hH];exact trivial) (.inl rfl) (fun b' u hb hu=>(aak s.heap (Obj.mapSeq f) (aaV hb)).trans hu) ⟨_,q⟩ ?_;exact⟨hz,its',_,hv,q⟩
theorem Inv.Gb{aA:List Value}{t':Nat}(I:Inv X pins σ H s)(hv:Vals ys aA)(hz:ys.length≤sizeLine):
  Inv X pins σ (upd H s.heap.objs.size (.lst ys)) {s with heap:=s.heap.push {cls:=.type "list",data:=.seq aA.toArray},toks:=t'}:=
 I.laid (fun _ _ q=>Yn _ q) (Yz _) ⟨hz,aA,0,hv,YB _ rfl⟩
theorem Inv.fresh(I:Inv X pins σ H s):H s.heap.objs.size=none:=I.bB.fresh (Yz _)
theorem Inv.oK(I:Inv X pins σ H s)(hH:H l=some (.lst xs)):xs.length≤sizeLine∧∃(aA:List Value) (n:Nat),Vals xs aA∧xs.length=aA.length∧s.heap.get? l=some {cls:=.type "list",data:=.seq aA.toArray n}:=by
 obtain⟨z,aA,n,r,e⟩:=I.bB l _ hH;exact⟨z,aA,n,r,r.length,e⟩
theorem kf{n:Nat}(h:n≤sizeLine):Builtin.List.listTooLong n=false:=by
 unfold Builtin.List.listTooLong;exact Y4 (by omega)
end
section
variable {X:Cx}
def xH:V→List V→Hp→VK→Prop:=fun x vs H Q=>∃ l xs y,x=.ref l∧vs=[y]∧H l=some (.lst xs)∧xs.length < sizeLine∧Q .non (upd H l (.lst (xs++[y])))
theorem lT:OR X "list.append" xH:=by
 intro pins s σ H x vs v us Q I rx rv h;obtain⟨l,xs,y,rfl,rfl,hH,hz,q⟩:=h;cases rx;obtain⟨u,rfl,ru⟩:=rv.one;obtain⟨z,aA,n,r,hl,e⟩:=I.oK hH;refine abQ F.slot_list_append ⟨_,e,rfl⟩ F.entry_list_append (F.args_list_append_2 _ _) (PySem.list_append l aA.toArray n u (by rw[YL];omega)) ⟨e,?_⟩;refine⟨.non,_,I.yP (its':=aA++[u]) hH e (by simp) (r.append (.cons ru .nil)) ?_,rfl,q⟩;rw[Yo,List.length_singleton];omega
def AX:V→List V→Hp→VK→Prop:=fun x vs H Q=>∃ l xs i k y,x=.ref l∧vs=[.int i]∧H l=some (.lst xs)∧-(2 ^ 63)≤i∧i < 2 ^ 63∧seqIndex? i xs.length=some k∧xs[k]? = some y∧Q y (upd H l (.lst (xs.eraseIdx k)))
theorem vU:OR X "list.pop" AX:=by
 intro pins s σ H x vs v us Q I rx rv h;obtain⟨l,xs,i,k,y,rfl,rfl,hH,h1,h2,hk,hy,q⟩:=h;cases rx;obtain⟨u,rfl,ru⟩:=rv.one;obtain⟨t,rfl⟩:=ru;obtain⟨z,aA,n,r,hl,e⟩:=I.oK hH;obtain⟨w,hw,nV⟩:=r.get hy;refine abQ F.slot_list_pop ⟨_,e,rfl⟩ F.entry_list_pop (F.args_list_pop_2 _ _)
  (MeetsSeq.list_pop_at l aA.toArray n i t k w (fitsIndex_both h1 h2) (by rw[YL,← hl];exact hk) (by rw[← YK];exact hw) (by rw[YL];omega)) ⟨e,?_⟩
 refine⟨y,_,I.yP (its':=aA.eraseIdx k) hH e ?_ (r.eraseIdx k) ?_,nV,q⟩
 ·show aA.toArray.eraseIdxIfInBounds k=(aA.eraseIdx k).toArray
  rw[List.eraseIdxIfInBounds_toArray]
 ·have:=lV xs k
  omega
def KU:R2:=fun x y H Q=>∃ l b xs zs,x=.ref l∧y=.ref b∧H l=some (.lst xs)∧H b=some (.lst zs)∧xs.length+zs.length≤sizeLine∧∀ p,H p=none→Q (.ref p) (upd H p (.lst (xs++zs)))
theorem BH:gJ X (binaryOp .Add) KU:=by
 intro pins s σ H x y v u Q I rx ry h;obtain⟨l,b,xs,zs,rfl,rfl,hH,hB,hz,q⟩:=h;cases rx;cases ry;obtain⟨z,aA,n,r,hl,e⟩:=I.oK hH;obtain⟨z2,fD,n2,r2,Jj,e2⟩:=I.oK hB;refine PySem.P.add_list e e2 ?_ (by rw[YL,YL];omega);have ea:aA.toArray++fD.toArray=(aA++fD).toArray:=by simp
 rw[ea];exact⟨.ref _,_,I.Gb (t':=s.toks) (r.append r2) (by rw[Yo];omega),rfl,q _ I.fresh⟩
def KS:R2:=fun x y H Q=>∃ l k xs,x=.ref l∧y=.int k∧H l=some (.lst xs)∧-(2 ^ 63)≤k∧k < 2 ^ 63∧xs.length * k.toNat≤sizeLine ∧
 ∀ p,H p=none→Q (.ref p) (upd H p (.lst (List.replicate k.toNat xs).flatten))
theorem len_rep{α:Type}(xs:List α)(k:Nat):(List.replicate k xs).flatten.length=k * xs.length:=by
 induction k with
 | zero=>simp
 | succ k ih=>rw[ZA,Z0,Yo,ih,Nat.succ_mul,Nat.add_comm]
theorem BC:gJ X (binaryOp .Mult) KS:=by
 intro pins s σ H x y v u Q I rx ry h;obtain⟨l,k,xs,rfl,rfl,hH,h1,h2,hz,q⟩:=h;cases rx;obtain⟨t,rfl⟩:=ry;obtain⟨z,aA,n,r,hl,e⟩:=I.oK hH;have hlen:aA.toArray.size * k.toNat≤sizeLine:=by rw[YL,← hl];exact hz
 have CA:¬aA.toArray.size * k.toNat > (2 ^ 63-1) / 8:=by
  have:(sizeLine:Nat)≤(2 ^ 63-1) / 8:=by decide
  omega
 have Cu:¬(!Builtin.List.listFitsIndex k)=true:=by
  rw[fitsIndex_both h1 h2];exact Yx
 have GJ:¬Builtin.List.listTooLong (aA.toArray.size * k.toNat)=true:=by
  rw[kf hlen];exact Yx
 have Cr:List.foldl (fun x1 x2=>x1++x2) #[] (List.replicate (if aA.toArray.isEmpty=true then 0 else k.toNat) aA.toArray)=(List.replicate k.toNat aA).flatten.toArray:=by
  have f0:∀ m:Nat,List.foldl (fun x1 x2=>x1++x2) #[] (List.replicate m aA.toArray)=(List.replicate m aA).flatten.toArray:=fun m=>by
   have:=foldl_rep aA m [];rw[aaJ]at this;exact this
  rw[f0];cases aA with
  | nil=>simp
  | cons a r'=>rw[YN (by simp)]
 refine wpAny_binaryOp_repeat_ref (T := "list") (U := "int") (by decide) ⟨_,e,rfl⟩ (fun s'=>typeIs_int s' k t) noFill_list_mul F.fills_int_mul F.slot_int_rmul repeat_list F.slot_int_index.lookup
  (abQ F.slot_int_rmul (typeIs_int s k t) F.entry_int_rmul (F.args_int_rmul_2 _ _) (int___rmul___int_list k t l aA.toArray n)
   ⟨e,rfl,⟨_,e,rfl⟩,abQ F.slot_list_mul ⟨_,e,rfl⟩ F.entry_list_mul (F.args_list_mul_2 _ _) (AutoListH.list___mul___list_int_3 l aA.toArray n k t Cu CA GJ) ⟨e,?_⟩⟩)
 rw[Cr];exact⟨.ref _,_,I.Gb (t':=s.toks) (r.rep k.toNat) (by rw[len_rep,Nat.mul_comm];exact hz),rfl,q _ I.fresh⟩
end
section
variable {prog:Program}{w:World}{A:Around}{E:Value→Shared→Prop}{s:Shared}
theorem sN(aA fD:List Value)(a c:Nat):aA.toArray.extract 0 a++fD.toArray++aA.toArray.extract c aA.toArray.size=(aA.take a++fD++aA.drop c).toArray:=by
  apply Array.toList_inj.mp
  first
    | (simp
       exact YX (by simp))
    | simp[YX]
    | simp
theorem qQ{a c n:Nat}(DC:a≤c)(hc:c≤n):sliceBounds (some (a:Int)) (some (c:Int)) none n=((a:Int),(c:Int),1):=by
 simp only[sliceBounds,Option.getD_none];have h1:¬((a:Int) < 0):=by omega
 have h2:¬((c:Int) < 0):=by omega
 simp only[h1,h2,abJ,show(1:Int) > 0 by decide,abm];congr 1
 ·omega
 ·congr 1;omega
set_option maxRecDepth 100000 in
theorem kR{l b sl:Addr}{items new:Array Value}{n n2:Nat}{vl vu:Value}{a c:Nat}{Q:Unit→Shared→Prop}
    (e:s.heap.get? l=some {cls:=.type "list",data:=.seq items n}) (e2:s.heap.get? b=some {cls:=.type "list",data:=.seq new n2}) (Cs:l≠b)
    (hs:s.heap.IsSliceOf sl vl vu .none) (pl:IsPart vl (some (a:Int))) (pu:IsPart vu (some (c:Int))) (DC:a≤c) (hc:c≤items.size)
    (hsz:items.size+new.size≤sizeLine) (h:Q () {s with heap:=s.heap.update l (Obj.mapSeq fun xs=>xs.extract 0 a++new++xs.extract c xs.size)}) :
    wpAny (model prog w) A (setItem (.ref l) (.ref sl) (.ref b)) Q E s:=by
  have hl:s.heap.IsList l items:=PySem.IsL.isList e;have hb:s.heap.IsList b new:=PySem.IsL.isList e2;obtain⟨os,Je,Vl,Jo⟩:=id hs;have QJ:s.TypeIs (.ref sl) "slice" :=⟨os,Je,Vl⟩;have Gy:¬((rawPart none == rawInt 0)=true):=Yx;have wj:Builtin.List.listSameRef (.ref l) (.ref b)=false:=by
    unfold Builtin.List.listSameRef;exact Z3.mpr Cs
  have MV:(max (a:Int) (c:Int)).toNat=c:=by omega
  have Ql:((fun xs:Array Value=>xs.extract 0 a++new++xs.extract c xs.size) items).size≤sizeLine+1:=by
    simp only[Z2,Array.size_extract];omega
  unfold setItem
  try with_reducible refine aaq ?_
  first | refine Ym (Yp ?_) | skip
  refine Ym (wpAny_sequenceKey hl.typeIs (by decide) ?_);refine Ym (Zh (name:=Str.ofString "__setitem__") hl.typeIs slot_list_setitem
    (ZC slot_list_setitem hl.typeIs entry_list_setitem ?_ (args_list_setitem _ _ _)))
  show wpAny _ _ (Builtin.List.listSubscript? (.ref sl) >>= _) _ _ s
  refine Ym ?_;unfold Builtin.List.listSubscript?;refine Ym (wpAny_specialOf QJ slice_no_index ?_);simp only[Option.isNone_none,abm];refine Yp ?_;show wpAny _ _ (typeOf (.ref sl) >>= _) _ _ s
  refine Ym (aa0 QJ ?_);first
    | rw[YN (by decide)]
    | refine abv (by decide) ?_
  rw[listSliceParts_eq];refine Ym (Ym (Za Je Jo (x:=.none) rfl (Ym (wpAny_listPart .none ?_))));rw[YN Gy];refine Ym (Za Je Jo (x:=vl) rfl (Ym (wpAny_listPart pl ?_)));refine Ym (Za Je Jo (x:=vu) rfl (Ym (wpAny_listPart pu (Yp ?_))));first
    | simp only[wj,aby,abJ]
    | refine abv wj ?_
    | (dsimp only
       rw[YN (by rw[wj];exact Yx)])
  refine Ym (m:=Builtin.List.listAllItems (.ref b) "must assign iterable to extended slice") ?_;unfold Builtin.List.listAllItems;refine Ym (aa0 hb.typeIs ?_);first
    | refine W.KFB.if_so (by decide) ?_
    | rw[YV (by decide)]
    | simp only[beq_self_eq_true,Bool.true_or,abm]
  unfold Builtin.List.listItems;refine Ym (Zg e2 rfl (Yp ?_));refine Ym (Ym (Zg e rfl (Yp ?_)));refine Ym (wpAny_of_eq ((sliceIndices_raw (some (a:Int)) (some (c:Int)) none items.size (by simp)).trans (ZM (pure:Int×Int×Int→Sem (Int×Int×Int)) (qQ DC hc))) ?_);show wpAny _ _ (if((1:Int) == 1)=true then _ else _) _ _ s
  rw[YV (by decide)];refine Ym (ZS ?_);first
    | simp only[kf hsz,aby,abJ]
    | refine abv (kf hsz) ?_
  first | refine Ym (Yp ?_) | skip
  show wpAny _ _ (updateSeq l (fun xs=>xs.extract 0 ((a:Int)).toNat++new++xs.extract (max (a:Int) (c:Int)).toNat xs.size) >>= _) _ _ s
  rw[MV,Zm];refine Ym (aaT (hz:=ZG (Z6 _ _) hsz) (_hz':=Ql) e rfl ?_);refine Ym (aaU ?_);first
    | exact Ym (Yp (Yp ⟨.none,rfl,Yp h⟩))
    | exact Yp ⟨.none,rfl,Yp h⟩
end
section
variable {X:Cx}
theorem sP{pins:List (Addr×Obj)}{s:Shared}{σ:St}{H:Hp}{l b sl:Addr}{xs ys:List V}{a c:Int}{vl vu:Value}{Q:Unit→Shared→Prop}(I:Inv X pins σ H s)
  (hH:H l=some (.lst xs)) (hB:H b=some (.lst ys)) (Cs:l≠b) (hs:s.heap.IsSliceOf sl vl vu .none) (ra:RelV (.int a) vl) (rc:RelV (.int c) vu) (h0:0≤a) (DC:a≤c) (hc:c≤xs.length)
  (hz:xs.length+ys.length≤sizeLine) (h:∀ s',Inv X pins σ (upd H l (.lst (xs.take a.toNat++ys++xs.drop c.toNat))) s'→Q () s') :
  wpAny (model X.prog X.w) X.A (setItem (.ref l) (.ref sl) (.ref b)) Q X.xe s:=by
 obtain⟨ta,rfl⟩:=ra;obtain⟨tc,rfl⟩:=rc;obtain⟨z,aA,n,r,hl,e⟩:=I.oK hH;obtain⟨z2,fD,n2,r2,Jj,e2⟩:=I.oK hB;obtain⟨a',rfl⟩:=abY h0;obtain⟨c',rfl⟩:=abY (Int.le_trans h0 DC);simp only[Zm]at h;refine kR (a:=a') (c:=c') e e2 Cs hs (.int _ _) (.int _ _) (by omega) (by rw[YL];omega) (by rw[YL,YL];omega) (h _ ?_);refine I.yP (its':=aA.take a'++fD++aA.drop c') (t':=s.toks) hH e ?_ (Vals.append (Vals.append (r.take _) r2) (r.drop _)) ?_
 ·exact sN aA fD a' c'
 ·rw[Yo,Yo,YG,Y3]
  omega
end
end L2
namespace JD
open PySem PySem.W PySem.Calls PyProof.Rows
theorem jr{P:Params}{h:Heap}:∀(ns:List Int) (vs:List Value),WellAll P h vs (ns.map WData.int)→IntsAre vs ns:=by
 intro ns;induction ns with
 | nil=>
  intro vs w;rw[List.map_nil]at w;cases w;exact .nil
 | cons n ns ih=>
  intro vs w;rw[YC]at w;cases w with
  | cons a b=>
   cases a;exact .cons _ _ (ih _ b)
theorem sQ{l:OpenLaw}{n:Nat}(hn:l.most=some n){P:Params}{h:Heap}{args:List WData}{vals:List Value}
  (yZ:l.row.toRowW.claim.pre args=true) (MC:WellAll P h vals args) :
  ∃ a vs ns,vals=[Value.ref a]∧args=[WData.list (ns.map WData.int)]∧h.get? a=some {cls:=.type "list",data:=.seq vs.toArray}∧IntsAre vs ns∧ns.length≤n:=by
 have UW:WShape.hasAll [] args [.list .int]=true:=(pre_splitW yZ).1;have hc:l.pre.holds [] {args:=args}=true:=(pre_splitW yZ).2;obtain⟨d,r,rfl,h1,h2⟩:=hasAllW_cons UW;obtain rfl:=hasAllW_nil h2;obtain⟨xs,rfl,h3⟩:=hasW_list h1;obtain⟨ns,rfl⟩:=items_int h3;have hlen:ns.length≤n:=by
  unfold OpenLaw.pre at hc;have h4:(WTm.not (.lt (.lit (.int (n:Int))) (.len (.arg 0)))).holds [] {args:=[.list (ns.map .int)]}=true:=by
   have h4:=(holds_andW hc).1;rw[hn]at h4;exact h4
  have h5:=condW_of h4 (w_not (w_lt w_lit (w_len_list (w_arg rfl))));rw[Yw]at h5;refine Nat.le_of_not_lt fun q=>?_;have q':(n:Int) < ((ns.length:Nat):Int):=by omega
  first
   | (rw[Y9 q']at h5;exact absurd h5 (by decide))
   | (simp at h5;omega)
 cases MC with
 | cons w1 w2=>
  cases w2;cases w1 with
  | list ho CC=>exact⟨_,_,ns,rfl,rfl,ho,jr ns _ CC,hlen⟩
theorem sX(l:OpenLaw)(args:List WData):l.row.toRowW.claim.post args (.bool true) args=true:=
 postW_of (r:=l.row.toRowW) (X:=(true == true))
  (show WShape.has [] (.bool true) .bool=true by first | rfl | decide | simp[WShape.has,WShape.arms,WShape.armsAll])
  (show(WTm.eq .res (.lit (.bool true))).value [] {args:=args,res:=some (.bool true),after:=args}=some (.bool (true == true))from w_eq_bool (w_res rfl) w_lit) rfl
theorem pE{l:OpenLaw}{n:Nat}{q:Program}{loose:List Str}{XP:(Str→Option Value)→Heap→Prop}{YP:World→Heap→Prop}{d:DefRec}
  (hn:l.most=some n) (GQ:d.params.defaults=[])
  (call:∀(w:World) (s₀ s₁:Shared) (mg mb:Str→Option Value) (fa:Addr) (o:Obj) (pm cd doc:Value) (a:Addr) (vs:List Value) (ns:List Int),
   Ground q loose [] XP w s₀ mg mb s₁.heap→YP w s₁.heap →
   s₁.heap.get? fa=some o→o.data=.func (docDef d.name d.params d.body d.scope pm cd doc)→s₁.heap.CodeRec cd d.name→mg d.name=some (.ref fa) →
   s₁.heap.get? a=some {cls:=.type "list",data:=.seq vs.toArray}→IntsAre vs ns→ns.length≤n→s₁.gens=#[] →
   codeAny (model l.prog w) callerA (.call (.ref fa) ⟨[.ref a],[]⟩) (fun r s'=>r=.ok (.ret (.bool true))∧OldK s₁.heap s'.heap∧s'.os=s₁.os∧AllBare s'.gens) s₁) :
  WalkO q loose XP YP l.row.toRowW d [] (fun f vs=>PySem.call f vs):=by
 intro w s₀ s₁ mg mb G Y fa o pm cd doc dV kV ho hd qH hD GH hg args vals as yZ Va XX MC X0;obtain rfl:dV=.none:=Dflts.none hD GQ;obtain rfl:kV=.none:=Dflts.noKw hD;obtain⟨a,vs,ns,rfl,rfl,Co,hints,hlen⟩:=sQ hn yZ MC;refine enter_call (abt (call w s₀ s₁ mg mb fa o pm cd doc a vs ns G Y ho (fd_plain hd) qH GH Co hints hlen hg) fun r s' hq=>?_);obtain⟨rfl,h2,h3,h4⟩:=hq;exact⟨.inl ⟨.bool true,.bool true,[],rfl,fun _=>rfl,.bool true,sX l _,fun _=>⟨List.Pairwise.nil,fun _ hm=>(nomatch hm)⟩⟩,h2,h3,h4⟩
section
variable {prog:Program}{w:World}{A:Around}{E:Value→Shared→Prop}{s:Shared}{K:Frag}
end
end JD
namespace L2
open PySem PySem.Spec PyProof.Rows
theorem lC:∀{vs:List Value} {ns:List Int},IntsAre vs ns→Vals (ns.map V.int) vs
 | _,_,.nil=>.nil
 | _,_,.cons n t h=>.cons ⟨t,rfl⟩ (lC h)
def zq(H:Hp):Prop:=∀ b,H b=none∨∃ o xs,H b=some (.frz o (.lst xs))
theorem wa{P:Program}{w:World}{K:W.Frag}{mg mb:Str→Option Value}{CX:pR}{k:Nat}{fa a:Addr}{fd:FuncData}{x:Str}{sp:Sp}{s₁:Shared}{vs:List Value}{ns:List Int}
  (KX:K.In s₁.heap) (Qt:s₁.heap.Ns mainGlobals mg) (hb:s₁.heap.Ns builtinsNs mb) (Vs:∀ x:Str,x ≠ "__name__" → mb x=bootBuiltins x) (MX:s₁.heap.NoLimit) (hg:s₁.gens=#[])
  (ha:s₁.heap.get? a=some {cls:=.type "list",data:=.seq vs.toArray}) (hi:IntsAre vs ns) (hl:ns.length≤sizeLine) (hr:cq k callerA)
  (F:∀ base:Heap,K.In base→base.Ns mainGlobals mg→bJ P w K mg base CX k fa fd [x] sp) (GV:∀(s:Shared) (u:Value),BindsTo s fd ⟨[u],[]⟩ [(x,u)])
  (pO:∀ H:Hp,zq H→dF K H a (ns.map V.int)→sp [.ref a] H (fun v _=>v=.bl true) fun _ _ _=>False)
  (Nh:∀ H e s',CX [] H s₁ (fun _ _ _=>False) e s'→False) :
  codeAny (model P w) callerA (.call (.ref fa) ⟨[.ref a],[]⟩) (fun r s'=>r=.ok (.ret (.bool true))∧OldK s₁.heap s'.heap∧s'.os=s₁.os∧AllBare s'.gens) s₁:=by
 have rv:=lC hi;have Ma:=hi.length
 -- from an abstract heap in O8 nothing but rg p7 may be tracked
 have core:∀ H:Hp,zq H→dF K H a (ns.map V.int)→h9 P w H s₁.heap→(∀ b,H b≠none→b=a)→(H a≠none→K.lookup a=none) →
   codeAny (model P w) callerA (.call (.ref fa) ⟨[.ref a],[]⟩) (fun r s'=>r=.ok (.ret (.bool true))∧OldK s₁.heap s'.heap∧s'.os=s₁.os∧AllBare s'.gens) s₁:=by
  intro H hO hS bB hA hK;have sv:∀{b:Addr} {o:Obj},s₁.heap.get? b=some o→H b=none→(mX s₁.heap H).get? b=some o:=fun e n=>wt e n;have FW:∀{b:Addr} {o:Obj} {es:Array DictEntry} {ep:Nat},s₁.heap.get? b=some o→o.data=.dict es ep→H b=none:=fun {b o es ep} e d=>by
   cases q:H b with
   | none=>rfl
   | some u=>
    have e':b=a:=hA b (by rw[q];simp);subst e';rw[ha]at e;cases e;have d':Data.seq vs.toArray _=Data.dict es ep:=d;cases d'
  have IS:∀{b:Addr} {m:Str→Option Value},s₁.heap.Ns b m→(mX s₁.heap H).Ns b m:=fun {b m} ⟨o,es,ep,e,d,r⟩=>⟨o,es,ep,sv e (FW e d),d,r⟩;have QL:K.In (mX s₁.heap H):=fun b o e=>sv (KX b o e) (by
   cases q:H b with
   | none=>rfl
   | some u=>
    have e':b=a:=hA b (by rw[q];simp);subst e';rw[hK (by rw[q];simp)]at e;cases e)
  have hM:Mod K mg (mX s₁.heap H):=⟨QL,IS Qt,⟨mb,IS hb,Vs⟩,let⟨mc,h1,h2⟩:=MX;⟨mc,IS h1,h2⟩⟩;have e0:qU P w K mg (mX s₁.heap H) callerA [] s₁ H:=⟨rfl,hM,fun b o e=>yL e,Nat.le_of_eq (tZ _ _),trivial,fun b hb=>absurd (show b∈([]:List Addr)from hb) (by simp),bB,.of_eq hg⟩;refine abt ((F _ QL (IS Qt)).run callerA [] s₁ H ⟨[.ref a],[]⟩ [.ref a] [.ref a] _ _ hr e0 (GV s₁ (.ref a)) (.cons rfl .nil) (pO H hO hS)) fun r s' h=>?_;cases r with
  | error e=>exact(Nh H e s' h).elim
  | ok fl=>
   cases fl with
   | next=>exact False.elim h
   | brk=>exact False.elim h
   | cont=>exact False.elim h
   | ret u=>
    obtain⟨v,H',os,bare,un,MS,r',q⟩:=h;have q':v=.bl true:=q;subst q';obtain rfl:u=Value.bool true:=r';refine⟨rfl,OldK.of_keep fun b o e=>?_,os,bare⟩;cases q:H b with
    | none=>exact un.keep b o e q (by intro z;exact absurd (show b∈([]:List Addr)from z) (by simp)) (by simp)
    | some u=>
     rcases hO b with z | ⟨ob,xs,z⟩
     ·rw[q]at z;cases z
     ·have z2:=un.gF b ob _ z
      obtain⟨e1,_⟩:=bB b _ z;obtain⟨e2,_⟩:=MS b _ z2;rw[e]at e1;cases e1;exact e2
 cases hk:K.lookup a with
 | some o=>
  -- rg p7 is one of rg Ga own objects
  have e:=KX a o hk;rw[ha]at e;cases e;refine core (fun _=>none) (fun _=>.inl rfl) (.inr ⟨_,vs.toArray,_,hk,rfl,rfl,rfl,by rw[YL,Ma];exact hl,by simpa using rv⟩) (fun b u z=>by have z':(none:Option HO)=some u:=z;cases z') (fun b z=>absurd rfl z) fun z=>absurd rfl z
 | none=>
  refine core (fun b=>if b=a then some (.frz {cls:=.type "list",data:=.seq vs.toArray} (.lst (ns.map V.int)))else none) (fun b=>?_) (.inl (.inr ⟨{cls:=.type "list",data:=.seq vs.toArray},YV rfl⟩)) (fun b u z=>?_) (fun b z=>?_) fun _=>hk
  ·by_cases hb:b=a
   ·exact .inr ⟨_,_,YV hb⟩
   ·exact .inl (YN hb)
  ·by_cases hb:b=a
   ·have z':=(YV hb).symm.trans z
    cases z';subst hb;exact⟨ha,by rw[Yw];exact hl,vs,_,rv,ha⟩
   ·have z':=(YN hb).symm.trans z
    cases z'
  ·by_cases hb:b=a
   ·exact hb
   ·exact absurd (YN hb) z
theorem xn{l:W.OpenLaw}{n k:Nat}{q:Program}{loose:List Str}{XP:(Str→Option Value)→Heap→Prop}{YP:World→Heap→Prop}{d:DefRec}{K:Params→W.Frag}{CX:World→pR}{sp:World→Sp}{x:Str}
  (hn:l.most=some n) (Ji:n≤sizeLine) (GQ:d.params.defaults=[]) (hr:cq k callerA)
  (hY:∀(w:World) (h:Heap),YP w h→(K w.params).In h)
  (F:∀(w:World) (mg:Str→Option Value) (fa:Addr) (h:Heap),(K w.params).In h→h.Ns mainGlobals mg→mg d.name=some (.ref fa) →
   ∃ fd:FuncData,(∀(s:Shared) (u:Value),BindsTo s fd ⟨[u],[]⟩ [(x,u)]) ∧
    ∀ base:Heap,(K w.params).In base→base.Ns mainGlobals mg→bJ l.prog w (K w.params) mg base (CX w) k fa fd [x] (sp w))
  (pO:∀(w:World) (H:Hp) (a:Addr) (ns:List Int),ns.length≤n→zq H→dF (K w.params) H a (ns.map V.int)→sp w [.ref a] H (fun v _=>v=.bl true) fun _ _ _=>False)
  (Nh:∀(w:World) (H:Hp) (s:Shared) (e:Value) (s':Shared),CX w [] H s (fun _ _ _=>False) e s'→False) :
  W.WalkO q loose XP YP l.row.toRowW d [] (fun f vs=>PySem.call f vs):=by
 refine JD.pE hn GQ fun w s₀ s₁ mg mb fa o pm cd doc a vs ns G Y ho hd qH GH Co hints hlen hg=>?_;have KX:=hY w _ Y;obtain⟨fd,hb,hF⟩:=F w mg fa _ KX G.T.g GH;exact wa KX G.T.g G.T.b G.T.builtins G.T.nolimit hg Co hints (ZG hlen Ji) hr hF hb (fun H hO hS=>pO w H a ns hlen hO hS) fun H e s'=>Nh w H s₁ e s'
def aH(s:Stmt):Arguments:=match s with
 | .FunctionDef _ a _ _ _ _ _ _ _ _=>a
 | _=>{posonlyargs:=[],args:=[],vararg:=none,kwonlyargs:=[],kw_defaults:=[],kwarg:=none,defaults:=[]}
def aC(s:Stmt):List Stmt:=match s with
 | .FunctionDef _ _ b _ _ _ _ _ _ _=>b
 | _=>[]
def ai(s:Stmt):Scope:=match s with
 | .FunctionDef _ _ _ _ _ _ sc _ _ _=>sc
 | _=>{kind:=.function,names:=[],isGenerator:=false,isCoroutine:=false}
abbrev ic:pR:=fun _ _ _ _ _ _=>False
abbrev E0:XK:=fun _ _ _=>False
theorem FD{X:Cx}:Passes ic X E0:=fun _ _ _ _ _ _ _ h=>h.elim
structure gj(K:W.Frag)(x qual:Str)(st:Stmt)(f:Addr)(fd:FuncData):Prop where
 ex:∃(oc:Value) (od:Option Addr) (kV doc pm:Value) (an:Option Addr) (cM ct:Value) (yt:Array (Option Value)),
  fd=W.fnOf x qual (aH st) (aC st) (ai st) .none kV doc pm an cM ct∧K.lookup f=some ⟨oc,od,.func fd,yt⟩∧W.codeIn K cM qual=true
 kp:W.keepIn K (.ref f)=true
section
variable {P:Program}{w:World}{K:W.Frag}{mg:Str→Option Value}{base:Heap}
theorem gj.ok{x qual:Str}{st:Stmt}{f:Addr}{fd:FuncData}{N ps:List Str}{k:Nat}{sp:Sp}(F:gj K x qual st f fd)(S:aE N ps (ai st))(len:∀ vs H Q E,sp vs H Q E→vs.length=ps.length)
  (iE:∀(cM:Value) (A:Around) (outer:List Env) (s:Shared) (H:Hp) (vs:List V) (Q:VK) (E:XK),cq k (A.deeper (envOfC qual (ai st) s.heap.objs.size f cM))→sp vs H Q E →
   ∃ t,gI (pe ic P w K mg base N qual (ai st) f cM A outer s H E).tJ (aC st) t∧t {nx:=fun _ H'=>Q .non H',rt:=Q} (start N vs) H):bJ P w K mg base ic (k+1) f fd ps sp:=by
 obtain⟨oc,od,kV,doc,pm,an,cM,ct,yt,rfl,lk,qH⟩:=F.ex;refine zX lk qH S len fun A outer s H vs Q E hr pO=>?_;obtain⟨t,h,q⟩:=iE cM A outer s H vs Q E hr pO;exact⟨t,h.tJ,q⟩
theorem gj.binds{x qual:Str}{st:Stmt}{f:Addr}{fd:FuncData}{ps:List Str}(F:gj K x qual st f fd)
  (h:∀(kV doc pm:Value) (an:Option Addr) (cM ct:Value) (us:List Value),us.length=ps.length→bindArgs (W.fnOf x qual (aH st) (aC st) (ai st) .none kV doc pm an cM ct) ⟨us,[]⟩=pure (ps.zip us)):Binds K fd ps []:=by
 obtain⟨oc,od,kV,doc,pm,an,cM,ct,yt,rfl,lk,qH⟩:=F.ex;exact .all (h kV doc pm an cM ct)
theorem bD{x qual:Str}{st:Stmt}{f:Addr}{oc:Value}{od an:Option Addr}{yt:Array (Option Value)}{kV doc pm cM ct:Value}(l:K.lookup f=some ⟨oc,od,.func (W.fnOf x qual (aH st) (aC st) (ai st) .none kV doc pm an cM ct),yt⟩)
  (c:W.codeIn K cM qual=true) (k:W.keepIn K (.ref f)=true):gj K x qual st f (W.fnOf x qual (aH st) (aC st) (ai st) .none kV doc pm an cM ct):=⟨⟨oc,od,kV,doc,pm,an,cM,ct,yt,rfl,l,c⟩,k⟩
end
theorem cO{n:Nat}(h:n≤1000):n < sizeLine:=aac h (by decide)
section
variable {X:Cx}
end
theorem nz{prog:Program}{w:World}{A:Around}{R:Result→Shared→Prop}{s:Shared}{elt target iter:Expr}{ifs:List Expr}{scope:Scope}{pos:Pos}{it acc:Value}{env:Env}(I:Nat→Shared→Prop)
  (turn:∀ n s,I n s→wpAny (model prog w) A (pyNext it) (fun r s₁=>match r with
   | none=>R (.ok .next) s₁
   | some v=>wpAny (model prog w) A (letOwnedTupleGo target it v) (fun _ Pw=>wpAny (model prog w) A (assign target env v) (fun _ s₂=>
     wpAny (model prog w) A (forIn ifs true fun c r=>if r=true then do let ok ← isTrue c env (eval c env);pure (ForInStep.yield ok)else pure (ForInStep.yield r)) (fun ok s₃=>
      if ok=true then wpAny (model prog w) A (eval elt env) (fun x s₄=>
       wpAny (model prog w) A (call (.builtin "list.append") [acc,x]) (fun _ s₅=>∃ m,m < n∧I m s₅) (notedBy (model prog w) A env fun e s'=>R (.error e) s') s₄) (notedBy (model prog w) A env fun e s'=>R (.error e) s') s₃
      else ∃ m,m < n∧I m s₃) (notedBy (model prog w) A env fun e s'=>R (.error e) s') s₂) (notedBy (model prog w) A env fun e s'=>R (.error e) s') Pw) (notedBy (model prog w) A env fun e s'=>R (.error e) s') s₁) (notedBy (model prog w) A env fun e s'=>R (.error e) s') s)
  (n:Nat) (h:I n s) :
  codeAny (model prog w) A (.compLoop (.ListComp elt [⟨target,iter,ifs,0⟩] scope pos) 0 it acc env) R s:=by
 refine codeAny_loop rfl I (fun n s hI=>?_) n h;show wpAny _ A ((compTurn (.ListComp elt [⟨target,iter,ifs,0⟩] scope pos) 0 it acc env).onRaise (fun x=>do noteFrame x env;theTreesLotGoes x)) _ _ s
 refine wpAny_noted ?_;rw[compTurn_list];refine Ym (wpAny_standAt (Ym (Zz (turn n s hI) (fun r s₁ h₁=>?_) fun _ _ h'=>h')));cases r with
 | none=>exact Yp h₁
 | some v=>
  refine Ym (Zz h₁ (fun _ Pw UL=>?_) fun _ _ h'=>h');refine Ym (Zz UL (fun _ s₂ h₂=>Ym (Zz h₂ (fun ok s₃ h₃=>?_) fun _ _ h'=>h')) fun _ _ h'=>h');cases ok with
  | false=>exact Yp ⟨rfl,h₃⟩
  | true=>
   exact Ym (Ym (Zz h₃ (fun x s₄ h₄=>Ym (Zz h₄ (fun _ s₅ h₅=>Yp (Yp ⟨rfl,h₅⟩)) fun _ _ h'=>h')) fun _ _ h'=>h'))
structure pQ(X:Cx)(ifs:List Expr)(t:TT):Prop where
 run:∀(pins:List (Addr×Obj)) (s:Shared) (σ:St) (H:Hp) (Q:Bool→Hp→Prop),Inv X pins σ H s→t σ H Q →
  wpAny (model X.prog X.w) X.A (forIn ifs true fun c r=>if r=true then do let ok ← isTrue c X.env (eval c X.env);pure (ForInStep.yield ok)else pure (ForInStep.yield r)) (TP X pins σ Q) X.xe s
instance {X:Cx}{ifs:List Expr}{t:TT}:CoeFun (pQ X ifs t) fun _=>∀(pins:List (Addr×Obj)) (s:Shared) (σ:St) (H:Hp) (Q:Bool→Hp→Prop),Inv X pins σ H s→t σ H Q→wpAny (model X.prog X.w) X.A (forIn ifs true fun c r=>if r=true then do let ok ← isTrue c X.env (eval c X.env);pure (ForInStep.yield ok)else pure (ForInStep.yield r)) (TP X pins σ Q) X.xe s:=⟨pQ.run⟩
def Ey:TT:=fun _ H Q=>Q true H
theorem xU{X:Cx}:pQ X [] Ey:=.mk fun _ _ _ H _ I h=>wpAny_tests_nil ⟨H,I,h⟩
theorem xT{X:Cx}{c:Expr}{t:TT}(h:PT X c t):pQ X [c] t:=.mk fun pins s σ H Q I q=>wpAny_tests_one (h pins s σ H Q I q)
def bX(X:Cx)(Nc:List Str)(scope:Scope)(cl:List (Str×Addr))(C:Addr)(s:Shared)(H:Hp)(fp:List Addr)(E:Value→Shared→Prop):Cx where
 prog:=X.prog
 w:=X.w
 K:=X.K
 mg:=X.mg
 base:=X.base
 A:=X.A
 N:=Nc
 s₀:=s
 H₀:=H
 env:=compEnvC scope cl C X.env
 outer:=X.stack
 stack:=X.stack
 ex:=fp
 calm:=X.calm
 fn:=fun _=>false
 pn:=[]
 xe:=E
def Iw(X:Cx)(scope:Scope)(cl:List (Str×Addr))(j:Nat)(x:Str):Prop:=
 X.N[j]? = some x∧Io X.env.scope x∧X.env.kindOf x≠some .local∧(relabel scope X.env).names.lookup x≠some .local∧((relabel scope X.env).names.lookup x=some .cell∨(relabel scope X.env).names.lookup x=some .free)
structure dW(X:Cx)(scope:Scope)(cl:List (Str×Addr))(own:List Str)(cap:List (Nat×Str)):Prop where
 zg:closureFor scope X.env=pure cl
 cell:∀ y∈scope.names,y.2≠.cell
 kind:scope.kind=.function
 names:∀ y∈scope.names,y.2=.local→scope.names.lookup y.1=some .local
 sub:∀ x c,cl.lookup x=some c→X.env.cells.lookup x=some c
 has:∀ p∈(relabel scope X.env).names,p.2=.cell∨p.2=.free→(cl.lookup p.1).isSome=true
 CU:∀ p∈cap,Iw X scope cl p.1 p.2
def gf(own:List Str)(cap:List (Nat×Str))(σ:St):St:=List.replicate own.length none++cap.map fun p=>(σ[p.1]?).getD none
theorem lookup_mem{α:Type}:∀{l:List (Str×α)} {n:Str} {c:α},l.lookup n=some c→(n,c)∈l:=fun h=>mem_of_lookup h
section
variable {X:Cx}{pins:List (Addr×Obj)}{σ:St}{H:Hp}{s:Shared}{scope:Scope}{cl:List (Str×Addr)}{own:List Str}{cap:List (Nat×Str)}{fp:List Addr}{E:Value→Shared→Prop}
theorem dW.GW(c:dW X scope cl own cap)(x:Str)(h:(relabel scope X.env).names.lookup x=some .cell∨(relabel scope X.env).names.lookup x=some .free):∃ a,cl.lookup x=some a:=by
 have:(cl.lookup x).isSome=true:=by
  rcases h with h | h
  ·exact c.has (x,.cell) (lookup_mem h) (.inl rfl)
  ·exact c.has (x,.free) (lookup_mem h) (.inr rfl)
 exact abW.mp this
theorem nq(c:dW X scope cl own cap)(I:Inv X pins σ H s)(hf:∀ b∈fp,eX X pins H b)(gC:∀ b∈fp,b < s.heap.objs.size){C:Addr}(hC:s.heap.objs.size≤C):
  (bX X (own++cap.map (·.2)) scope cl C s H fp E).Ok where
 mod:=I.ok.mod
 kind:=c.kind
 glob:=I.ok.glob
 blt:=I.ok.blt
 above:=hC
 inj:=fun x y a h1 h2=>I.ok.inj x y a (c.sub x a h1) (c.sub y a h2)
 has:=fun x h=>c.GW x h
 Ac:=fun x a h=>absurd h (by intro z;exact Bool.noConfusion z)
 hd:=I.ok.hd
 frames:=I.ok.frames
 AQ:=.inl rfl
 DJ:=fun b hb=>⟨fun z=>by
   have:=gC b hb;rw[z]at this;exact absurd (YQ this hC) (ZD _),fun x a h=>(hf b hb).2.2.2.2.1 x a (c.sub x a h)⟩
 bs:=I.bs
 wQ:=ZG I.ok.wQ I.sz
 oA:=fun b o e hb=>by
  rcases(hf b hb).2.2.2.1 with z | z
  ·exact I.ok.oA b o e z
  ·exact absurd (YQ (Yr (I.ok.bs b o e).1) z) (ZD _)
 oW:=fun b hb hs=>by
  rcases Yq.mp (I.mz b hs)with z | z
  ·exact(hf b hb).2.1 z
  ·exact(hf b hb).2.2.1 z
 gE:=I.stack
 xg:=I.jw
theorem qL{own:List Str}{cap:List (Nat×Str)}{σ:St}{i:Nat}{x:Str}{v:V}(h1:(own++cap.map (·.2))[i]? = some x)(h2:(gf own cap σ)[i]? = some (some v)):∃ p∈cap,p.2=x∧σ[p.1]? = some (some v):=by
 unfold gf at h2;by_cases hi:i < own.length
 ·rw[Y6 (by simpa using hi),aay]at h2
  split at h2<;>cases h2
 ·rw[YT (by simpa using hi)]at h2 h1
  rw[Zs,Y2]at h2;rw[Y2]at h1;cases e:cap[i-own.length]? with
  | none=>rw[e]at h2;cases h2
  | some p=>
   rw[e]at h1 h2;refine⟨p,ZT e,Y5 h1,?_⟩;have h3:(σ[p.1]?).getD none=some v:=Y5 h2;cases q:σ[p.1]? with
   | none=>rw[q]at h3;cases h3
   | some z=>rw[q]at h3;exact ZM some h3
theorem wK(c:dW X scope cl own cap)(I:Inv X pins σ H s)(hf:∀ b∈fp,eX X pins H b)(gC:∀ b∈fp,b < s.heap.objs.size){h₁:Heap}{tk:Nat}{m:Str→Option Value}
  (hk:∀ b o,s.heap.get? b=some o→h₁.get? b=some o) (hD:h₁.get? s.heap.objs.size=some {cls:=.type "list",data:=.seq ([]:List Value).toArray}) (hn:h₁.Ns (s.heap.objs.size+1) m) :
  Inv (bX X (own++cap.map (·.2)) scope cl (s.heap.objs.size+1) s H fp E) [] (gf own cap σ) (upd H s.heap.objs.size (.lst [])) {s with heap:=h₁,toks:=tk}:=by
 have Ct:H s.heap.objs.size=none:=I.fresh;have M6:H (s.heap.objs.size+1)=none:=I.bB.fresh (aat _);have Cr:bK X.prog X.w (upd H s.heap.objs.size (.lst [])) h₁ s.heap.objs.size (.lst []):=⟨ZL _,[],0,.nil,hD⟩;refine⟨nq c I hf gC (aat _),rfl,I.bare,Un.laid hk (Yz _) Ct,⟨m,hn,fun i x v e1 e2 _=>?_⟩,fun x a e=>?_,?_,fun x a e=>?_,fun p hp=>absurd (show p∈([]:List (Addr×Obj))from hp) (by simp),I.bB.laid hk (Yz _) Cr,?_⟩
 ·obtain⟨p,hp,ex,es⟩:=qL e1 e2
  obtain⟨q1,q2,q3,q4,q5⟩:=c.CU p hp;rw[ex]at q1 q2 q3 q4 q5;obtain⟨m',Qu,hl⟩:=I.loc;obtain⟨u,r,l⟩:=hl p.1 x v q1 es q2;refine⟨u,r,?_⟩;rcases l with l | ⟨k,a,e,z⟩
  ·exact absurd l.1 q3
  ·obtain⟨a',e'⟩:=c.GW x q5
   have ea:=c.sub x a' e';rw[e]at ea;cases ea;exact .inr ⟨q5,a,e',z.keeps hk⟩
 ·obtain⟨v,z⟩:=I.cell x a (c.sub x a e)
  exact⟨v,z.keeps hk⟩
 ·show upd H s.heap.objs.size (.lst []) (s.heap.objs.size+1)=none
  rw[au (abA _)];exact M6
 ·obtain⟨v,z⟩:=I.cell x a (c.sub x a e)
  show upd H s.heap.objs.size (.lst []) a=none
  rw[au (YI z.lt)];exact I.dG x a (c.sub x a e)
 ·show(gf own cap σ).length=(own++cap.map (·.2)).length
  simp[gf]
theorem qK{s2:Shared}{H':Hp}{σ':St}{C:Addr}{Nc:List Str}{j9:List (Addr×Obj)}(I:Inv X pins σ H s)(hf:∀ b∈fp,eX X pins H b)(hC:s.heap.objs.size≤C)(J:Inv (bX X Nc scope cl C s H fp E) j9 σ' H' s2):
  Inv X pins σ H' s2∧eX X pins H' C:=by
 have os:s2.os=s.os:=J.os;have un:Un (kO X.stack) fp H H' s.heap s2.heap:=J.base;exact⟨I.Ab os un J.bB J.bare fun b hb=>⟨(hf b hb).2.2.2.1,(hf b hb).2.1,(hf b hb).2.2.2.2.1,(hf b hb).2.2.2.2.2⟩,I.oV hC J.free⟩
end
def u3(wi:TI)(g:TG)(tc:TT)(te:TE)(own:List Str)(cap:List (Nat×Str)):TE:=fun σ H Q=>wi σ H fun J H1=>∀ D,H1 D=none →
 ∃ W:Nat→Nat→St→List V→Hp→Prop,(∃ m,W 0 m (gf own cap σ) [] (upd H1 D (.lst [])))∧∀ i m σ' ys H',W i m σ' ys H'→H' D=some (.lst ys) ∧
  ((J.stop i H'∧Q (.ref D) H')∨(J.go i H'∧ys.length < sizeLine∧∃ N:St→List V→Hp→Prop,(∀ σ ys H,N σ ys H→∃ m',m' < m∧W (i+1) m' σ ys H)∧∀ x H2,J.sD i H' x H2→g x σ' H2 fun σ3 H3=>tc σ3 H3 fun b H4=>if b=true then te σ3 H4 fun y H5=>H5 D=some (.lst ys)∧N σ3 (ys++[y]) (upd H5 D (.lst (ys++[y])))
   else N σ3 ys H4))
section
variable {X:Cx}{scope:Scope}{cl:List (Str×Addr)}{own:List Str}{cap:List (Nat×Str)}{tg iter elt:Expr}{ifs:List Expr}{wi:TI}{g:TG}{tc:TT}{te:TE}{pos:Pos}
theorem kE{pins:List (Addr×Obj)}{σ:St}{s2:Shared}{H2:Hp}{it:Addr}{fp:List Addr}{tn:Nat→Heap→Prop}{J:It}{Q:VK}{RR:Value→Addr→Result→Shared→Prop}{E':Value→Shared→Prop}
  (c:dW X scope cl own cap) (hc:X.calm=true)
  (hg:∀ C s H fp,PG (bX X (own++cap.map (·.2)) scope cl C s H fp fun _ _=>False) tg g) (ht:∀ C s H fp,pQ (bX X (own++cap.map (·.2)) scope cl C s H fp fun _ _=>False) ifs tc)
  (he:∀ C s H fp,PE (bX X (own++cap.map (·.2)) scope cl C s H fp fun _ _=>False) elt te)
  (I2:Inv X pins σ H2 s2) (T:Turn X.prog X.w X.K tg J fp it tn) (fO:tn 0 s2.heap) (f2:∀ b∈fp,eX X pins H2 b)
  (hw:∀ D,H2 D=none→∃ W:Nat→Nat→St→List V→Hp→Prop,(∃ m,W 0 m (gf own cap σ) [] (upd H2 D (.lst [])))∧∀ i m σ' ys H',W i m σ' ys H'→H' D=some (.lst ys) ∧
   ((J.stop i H'∧Q (.ref D) H')∨(J.go i H'∧ys.length < sizeLine∧∃ N:St→List V→Hp→Prop,(∀ σ ys H,N σ ys H→∃ m',m' < m∧W (i+1) m' σ ys H)∧∀ x H2,J.sD i H' x H2→g x σ' H2 fun σ3 H3=>tc σ3 H3 fun b H4=>if b=true then te σ3 H4 fun y H5=>H5 D=some (.lst ys)∧N σ3 (ys++[y]) (upd H5 D (.lst (ys++[y])))
    else N σ3 ys H4)))
  (Vw:∀ D C s' H' m,Inv X pins σ H' s'→eX X pins H' C→s'.heap.Ns C m→Q (.ref D) H'→RR (.ref D) C (.ok .next) s') :
  wpAny (model X.prog X.w) X.A (newList []) (fun acc s₃=>wpAny (model X.prog X.w) X.A (newFunctionEnv scope X.env.globals cl [] X.env.qual none .none (some X.env)) (fun HG s₄=>
   codeAny (model X.prog X.w) X.A (.compStart (.ListComp elt [⟨tg,iter,ifs,0⟩] scope pos) 0 (.ref it) acc {HG with scope:=relabel scope X.env}) (RR acc HG.locals) s₄) E' s₃) E' s2:=by
 refine aap (wpAny_newFunctionEnv c.cell (by intro y hy;simp at hy) (fun h₁ Cq Cj=>?_) c.kind);dsimp only at Cq Cj ⊢;have hsz:(s2.heap.push {cls:=.type "list",dict:=none,data:=.seq ([]:List Value).toArray}).objs.size=s2.heap.objs.size+1:=Zt _ _;have kk:∀ b o,s2.heap.get? b=some o→h₁.get? b=some o:=fun b o e=>Cj.extBut b o (by rw[hsz];exact YI (ZX (Yr e))) (Yn _ (Yn _ e));have hD:h₁.get? s2.heap.objs.size=some {cls:=.type "list",data:=.seq ([]:List Value).toArray}:=
  Cj.extBut _ _ (by rw[hsz];exact YI (aa2 _)) (Yn _ (YB _ rfl))
 rw[hsz]at Cq ⊢;have gC:∀ b∈fp,b < s2.heap.objs.size:=fun b hb=>by
  obtain⟨o,e,_⟩:=T.obj _ _ fO b hb;exact Yr e
 obtain⟨W,⟨m0,w0⟩,turn⟩:=hw s2.heap.objs.size I2.fresh;have J1:=wK (E:=fun _ _=>False) c I2 f2 gC (tk:=s2.toks+([]:List (Str×Value)).length) kk hD Cq;generalize uB:bX X (own++cap.map (·.2)) scope cl (s2.heap.objs.size+1) s2 H2 fp (fun _ _=>False)=X' at J1;have M4:PG X' tg g:=uB ▸ hg _ _ _ _;have UT:pQ X' ifs tc:=uB ▸ ht _ _ _ _;have Vf:PE X' elt te:=uB ▸ he _ _ _ _;have pX:X'.prog=X.prog:=by rw[← uB];rfl
 have wX:X'.w=X.w:=by rw[← uB];rfl
 have kX:X'.K=X.K:=by rw[← uB];rfl
 have aX:X'.A=X.A:=by rw[← uB];rfl
 have cX:X'.calm=true:=by rw[← uB];exact hc
 have nX:X'.env=compEnvC scope cl (s2.heap.objs.size+1) X.env:=by rw[← uB];rfl
 have xX:X'.xe=fun _ _=>False:=by rw[← uB];rfl
 have fX:∀ b∈fp,∀{H':Hp},H' b=none→eX X' [] H' b:=fun b hb {H'} hn=>by
  have o1:=(nq (E:=fun _ _=>False) c I2 f2 gC (C:=s2.heap.objs.size+1) (aat _)).DJ b hb;have o2:=(nq (E:=fun _ _=>False) c I2 f2 gC (C:=s2.heap.objs.size+1) (aat _)).oW b hb;rw[← uB];exact⟨hn,o1.1,o2,.inl hb,o1.2,fun p hp=>absurd (show p∈([]:List (Addr×Obj))from hp) (by simp)⟩
 have fin:∀{σ':St} {H':Hp} {s':Shared},Inv X' [] σ' H' s'→Q (.ref s2.heap.objs.size) H'→RR (.ref s2.heap.objs.size) (s2.heap.objs.size+1) (.ok .next) s':=fun {σ' H' s'} J' q=>by
  rw[← uB]at J';obtain⟨A1,A2⟩:=qK I2 f2 (aat _) J';obtain⟨m,hm,_⟩:=J'.loc;exact Vw _ _ s' H' m A1 A2 hm q
 have loop:codeAny (model X.prog X.w) X.A (.compLoop (.ListComp elt [⟨tg,iter,ifs,0⟩] scope pos) 0 (.ref it) (.ref s2.heap.objs.size) (compEnvC scope cl (s2.heap.objs.size+1) X.env)) (RR (.ref s2.heap.objs.size) (s2.heap.objs.size+1))
   {s2 with heap:=h₁,toks:=s2.toks+([]:List (Str×Value)).length}:=by
  refine nz (fun n s'=>∃ i σ' ys H',Inv X' [] σ' H' s'∧tn i s'.heap∧(∀ b∈fp,H' b=none)∧W i n σ' ys H') ?_ m0
   ⟨0,_,[],_,J1,T.keep _ _ _ fO fun b _ o e=>kk b o e,fun b hb=>by rw[au (YI (gC b hb))];exact(f2 b hb).1,w0⟩
  rintro n s3 ⟨i,σ3,ys,H3,I3,fN,uc,w3⟩;obtain⟨X2,w4⟩:=turn i n σ3 ys H3 w3;rw[← nX,← aX,← pX,← wX];have tJ:∀{α:Type} {t:Sem α} {Q1:α→Shared→Prop} {E1:Value→Shared→Prop} {s:Shared},wpAny (model X'.prog X'.w) X'.A t Q1 X'.xe s→wpAny (model X'.prog X'.w) X'.A t Q1 E1 s:=fun {α t Q1 E1 s} h=>by
   rw[xX]at h;exact Zz h (fun _ _ q=>q) fun _ _ f=>f.elim
  rcases w4 with⟨stop,qn⟩ | ⟨go,wg,N,hN,step⟩
  ·have d:=T.done X' pX wX kX cX i [] s3 σ3 H3 X'.xe I3 (fun b hb=>fX b hb (uc b hb)) fN stop
   rw[← pX,← wX]at d;refine tJ (bL d fun r s4 ⟨hr,I4⟩=>?_);subst hr;exact fin I4 qn
  ·have d:=T.item X' pX wX kX cX i [] s3 σ3 H3 X'.xe I3 (fun b hb=>fX b hb (uc b hb)) fN go
   rw[← pX,← wX]at d;refine tJ (bL d fun r s4 ⟨u,hr,h4⟩=>?_);subst hr;refine tJ (bL h4 fun _ s5 ⟨x,H5,I5,r5,y5,ja,DH⟩=>?_);have O1:=I5.pinned (fun b hb=>fX b hb (DH b hb)) (T.obj _ _ ja);have again:∀{σ7:St} {H7:Hp} {s7:Shared} {JE:List V},Inv X' ([]++j0 fp s5.heap) σ7 H7 s7→N σ7 JE H7 →
     ∃ m,m < n∧∃ i σ' ys H',Inv X' [] σ' H' s7∧tn i s7.heap∧(∀ b∈fp,H' b=none)∧W i m σ' ys H':=fun {σ7 H7 s7 JE} I7 n7=>by
    obtain⟨m',hm,w7⟩:=hN _ _ _ n7;refine⟨m',hm,i+1,σ7,JE,H7,I7.iq,T.keep _ _ _ ja fun b hb o e=>(I7.pin (b,o) (YZ _ (YZ _ (fj hb e)))).1,fun b hb=>?_,w7⟩;obtain⟨o,e,d⟩:=T.obj _ _ ja b hb;exact(I7.pin (b,o) (YZ _ (YZ _ (fj hb e)))).2.1
   refine tJ (bL (M4 _ s5 σ3 H5 x u _ O1 r5 (step x H5 y5)) fun _ s6 ⟨σ6,H6,I6,q6⟩=>?_);refine tJ (bL (UT _ s6 σ6 H6 _ I6 q6) fun b s7 ⟨H7,I7,q7⟩=>?_);cases b with
   | false=>
    rw[YN Yx]at q7 ⊢;exact again I7 q7
   | true=>
    rw[YV rfl]at q7 ⊢;refine tJ (bL (Vf _ s7 σ6 H7 _ I7 q7) fun u8 s8 ⟨y8,H8,I8,r8,d8,q8⟩=>?_);refine tJ (bL (lT _ s8 σ6 H8 (.ref s2.heap.objs.size) [y8] (.ref s2.heap.objs.size) [u8] (fun _ H9=>N σ6 (ys++[y8]) H9) I8 rfl (.cons r8 .nil) ⟨_,ys,y8,rfl,rfl,d8,wg,q8⟩) fun _ s9 ⟨_,H9,I9,_,q9⟩=>?_);exact again I9 q9
 exact codeAny_compStart_list loop (T.self X.A 0 _ _ _ (T.keep _ _ _ fO fun b _ o e=>kk b o e) loop)
theorem yk(c:dW X scope cl own cap)(hc:X.calm=true)(hi:PI X tg iter wi)
  (hg:∀ C s H fp,PG (bX X (own++cap.map (·.2)) scope cl C s H fp fun _ _=>False) tg g) (ht:∀ C s H fp,pQ (bX X (own++cap.map (·.2)) scope cl C s H fp fun _ _=>False) ifs tc)
  (he:∀ C s H fp,PE (bX X (own++cap.map (·.2)) scope cl C s H fp fun _ _=>False) elt te) (hs:∀ x,foldedSetIterable iter X.env x=pure x:=by intro _;rfl) :
  PE X (.ListComp elt [⟨tg,iter,ifs,0⟩] scope pos) (u3 wi g tc te own cap):=by
 refine .mk ?_;intro pins s σ H Q I h;rw[eval_ListComp];refine wpAny_comprehension_free (use:=none) rfl hs c.zg c.kind c.names (bL (hi pins s σ H _ I h) fun v s1 h1=>bL h1 fun Ja s2 h2=>?_);obtain⟨it,fp,tn,J,H2,e,I2,T,fO,f2,hw⟩:=h2;subst e;refine kE (Q:=Q) (RR:=fun acc C=>compPost (model X.prog X.w) X.A X.xe none (EP X pins σ Q) acc C) c hc hg ht he I2 T fO f2 hw ?_;intro D C s' H' m I' hC hm q;refine⟨m,hm,fun h' Gz=>⟨.ref D,H',?_,rfl,q⟩⟩;exact I'.turned (t':=s'.toks) (fun b o hb e=>(Gz.2 b hb).trans e) hC.1 hC.2.1 hC.2.2.2.1 hC.2.2.2.2.1 hC.2.2.2.2.2
def AL(i:Nat)(t:TE):TS:=fun D σ H=>t σ H fun x H1=>D.nx (σ.set i (some x)) H1
theorem x8{i:Nat}{y:Str}{py u4:Pos}(c:dW X scope cl own cap)(hc:X.calm=true)(hi:PI X tg iter wi)
  (hg:∀ C s H fp,PG (bX X (own++cap.map (·.2)) scope cl C s H fp fun _ _=>False) tg g) (ht:∀ C s H fp,pQ (bX X (own++cap.map (·.2)) scope cl C s H fp fun _ _=>False) ifs tc)
  (he:∀ C s H fp,PE (bX X (own++cap.map (·.2)) scope cl C s H fp fun _ _=>False) elt te)
  (hN:X.N.Nodup) (hy:X.N[i]? = some y) (hl:X.env.scope.names.lookup y=some .local)
  (MH:swapsWith (.ListComp elt [⟨tg,iter,ifs,0⟩] scope pos) (some (.Name y py)) u4.line X.env=pure true:=by rfl) (hs:∀ x,foldedSetIterable iter X.env x=pure x:=by intro _;rfl) :
  PS X (.Assign [.Name y py] (.ListComp elt [⟨tg,iter,ifs,0⟩] scope pos) u4) (AL i (u3 wi g tc te own cap)):=by
 refine .mk ?_;intro pins s σ H D I h;rw[exec_Assign_Name_used _ _ _ _ MH];refine Ym (wpAny_standAt (Ym ?_));show wpAny _ X.A (do let _ ← comprehension (.ListComp elt [⟨tg,iter,ifs,0⟩] scope pos) scope X.env _ (newList []) false (eval iter X.env) (some (assign (.Name y py) X.env))) _ _ s
 refine Ym (Zz (wpAny_comprehension_free (use:=some (assign (.Name y py) X.env)) (Q:=fun _ s'=>SP X pins D .next s') rfl hs c.zg c.kind c.names (bL (hi pins s σ H _ I h) fun v s1 h1=>bL h1 fun Ja s2 h2=>?_)) (fun _ s' hq=>Yp (Yp hq)) fun _ _ e=>e);obtain⟨it,fp,tn,J,H2,e,I2,T,fO,f2,hw⟩:=h2;subst e;refine kE (Q:=fun x H1=>D.nx (σ.set i (some x)) H1) (RR:=fun acc C=>compPost (model X.prog X.w) X.A X.xe (some (assign (.Name y py) X.env)) (fun _ s'=>SP X pins D .next s') acc C) c hc hg ht he I2 T fO f2 hw ?_;intro D' C s' H' m I' hC hm q;show wpAny _ X.A (assign (.Name y py) X.env (.ref D')) _ _ _
 refine wpAny_assign_Name (lG (v:=.ref D') I' hN hy (.inl hl) rfl (fun sS Xf ch=>?_) (.inr hl));obtain⟨a,sb,ha⟩:=ch;have Vy:C≠a:=by
  rcases ha with ha | ha
  ·rw[ha];exact hC.2.1
  ·exact fun z=>hC.2.2.2.2.1 _ _ ha z.symm
 refine⟨m,hm.sameBut sb Vy,fun h' Gz=>⟨_,H',?_,q⟩⟩;exact Xf.turned (t':=sS.toks) (fun b o hb e=>(Gz.2 b hb).trans e) hC.1 hC.2.1 hC.2.2.2.1 hC.2.2.2.2.1 hC.2.2.2.2.2
end
section
variable {K:W.Frag}{a:Addr}{xs:List V}{g:TG}{tc:TT}{te:TE}{own:List Str}{cap:List (Nat×Str)}{σ:St}{H1:Hp}{QD:Hp→Prop}{D:Addr}
end
section
variable {X:Cx}
end
section
variable {prog:Program}{w:World}{A:Around}{R:Result→Shared→Prop}{I:Addr}{fp wr:List Addr}{n:Nat}{P:Nat→Value→Prop}{St:Nat→Heap→Prop}
end
section
variable {X:Cx}{x:Str}{e v:Expr}{te tv:TE}{p pos BW:Pos}
end
section
variable {X:Cx}
theorem vJ(hu:X.A.units < cLine):gJ X (compareOp .NotEq) (fun x y H Q=>∃ a b xs,x=.ref a∧y=.ref b∧dF X.K H a xs∧dF X.K H b []∧Q (.bl (!xs.isEmpty)) H):=by
 intro pins s σ H x y v u Q I rx ry h;obtain⟨a,b,xs,rfl,rfl,ha,hb,q⟩:=h;cases rx;cases ry;obtain⟨aA,rv,pl,hz⟩:=I.list ha;obtain⟨fD,sT,mK,UM⟩:=I.list hb;cases sT;cases xs with
 | nil=>
  cases rv;exact SeqAt.RcNeAt.lists (e:=fun _=>true) pl.isList mK.isList rfl hu (fun j h1 _=>absurd h1 (by simp)) _ _ _ _ ⟨.bl false,H,I,rfl,q⟩
 | cons x r=>
  cases rv with
  | cons r1 r2=>exact SeqAt.RcNeAt.lists_lengths pl.isList mK.isList (by simp) hu _ _ _ _ ⟨.bl true,H,I,rfl,q⟩
end
section
variable {X:Cx}{x:Expr}{te:TE}{p p2 pos:Pos}{T:Str}{Ty:String}
def EE(K:W.Frag)(Ty:String)(te:TE):TE:=fun σ H Q=>te σ H fun v H1=>∃ v',[v,V.ty Ty]=[v',V.ty Ty]∧∃ t b,h8 K H1 v' t∧W.kitOne K t (.type Ty)=some b∧Q (.bl b) H1
theorem yg(hg:Gl X "isinstance")(hm:X.mg "isinstance" = none)(M1:Gl X T)(MW:X.mg T=none)(MF:bootBuiltins T=some (.type Ty))(he:PE X x te)(hn:T ≠ "__name__" := by decide)(M9:(T ==("__debug__" : Str))=false:=by decide)
  (hs:starEach [x,.Name T p2] X.env=(false,eval x X.env)::starEach [.Name T p2] X.env:=by rfl) (js:starEach [.Name T p2] X.env=[(false,eval (.Name T p2) X.env)]:=by rfl)
  (fA:(backTo pos (starEach [.Name T p2] X.env)).any (·.1)=false:=by rfl) :
  PE X (.Call (.Name "isinstance" p) [x,.Name T p2] [] pos) (EE X.K Ty te):=by
 have c:gk X (.builtin "isinstance") (fun xs H Q=>∃ v,xs=[v,.ty Ty]∧∃ t b,h8 X.K H v t∧W.kitOne X.K t (.type Ty)=some b∧Q (.bl b) H):=by
  intro pins s σ H xs us Q I r h;obtain⟨v,rfl,t,b,ty,e,q⟩:=h;obtain⟨u,w',rfl,ru,nV⟩:=vals2 r;cases(show w'=Value.type Ty from nV);exact tV I ru ty e fun tk=>⟨.bl b,H,I.tok tk,rfl,q⟩
 have pa:PA X [x,.Name T p2] (uZ te (uZ (tC (.ty Ty)) AJ)):=mM he (mM (yo M1 MW MF rfl hn M9) vF js) hs;exact oj (p:=p) (pos:=pos) c hg hm PyProof.Rows.boot_isinstance pa (by decide) (by decide) hs fA
end
def Callee(P:Program)(w:World)(K:W.Frag)(mg:Str→Option Value)(base:Heap)(x:Str)(k:Nat)(ps:List Str)(sp:Sp):Prop:=
 ∃ f fd,bJ P w K mg base ic k f fd ps sp∧mg x=some (.ref f)∧W.keepIn K (.ref f)=true∧Binds K fd ps []
section
variable {X:Cx}{x:Str}{k j:Nat}{ps:List Str}{sp:Sp}{p pos:Pos}{e:Expr}{es:List Expr}{t:TA}
theorem vD(c:Callee X.prog X.w X.K X.mg X.base x k ps sp)(hr:cq j X.A)(hk:k≤j)(hg:Gl X x)(ha:PA X (e::es) t)(oT:(x ==("__debug__" : Str))=false:=by decide)
  (he:starEach (e::es) X.env=(false,eval e X.env)::starEach es X.env:=by rfl) (fA:(backTo pos (starEach es X.env)).any (·.1)=false:=by rfl):PE X (.Call (.Name x p) (e::es) [] pos) (zC sp [] E0 t):=by
 obtain⟨f,fd,F,m,kp,b⟩:=c;exact yn F (hr.mono hk) hg m kp b .nil FD ha oT he fA
end
section
variable {X:Cx}{scope:Scope}{own:List Str}
theorem oJ{env:Env}{p:Str×NameKind}(h:p∈(relabel scope env).names):∃ q∈scope.names,q.1=p.1∧(p.2=q.2∨(q.2=.free∧p.2=.cell)):=by
 obtain⟨q,hq,e⟩:=YS.mp (show p∈scope.names.map _ from h);refine⟨q,hq,?_⟩;obtain⟨n,k⟩:=q;dsimp only at e;split at e
 ·rename_i c
  subst e;refine⟨rfl,.inr ⟨?_,rfl⟩⟩;simp only[aa3,YW]at c;exact c.1.1
 ·subst e
  exact⟨rfl,.inl rfl⟩
theorem ny(hk:scope.kind=.function)(hn:∀ y∈scope.names,y.2≠.free∧y.2≠.cell)(hl:∀ y∈scope.names,y.2=.local→scope.names.lookup y.1=some .local):dW X scope [] own [] where
 zg:=closureFor_none fun y hy=>(hn y hy).1
 cell:=fun y hy=>(hn y hy).2
 kind:=hk
 names:=hl
 sub:=fun x c h=>nomatch h
 has:=fun p hp h=>by
  obtain⟨q,hq,e1,e2⟩:=oJ hp;have n:=hn q hq;rcases e2 with e2 | ⟨e2,_⟩
  ·rw[e2]at h
   rcases h with h | h
   ·exact absurd h n.2
   ·exact absurd h n.1
  ·exact absurd e2 n.1
 CU:=fun p hp=>nomatch hp
def pI(cells:List (Str×Addr)):List (Str×Addr)→Prop
 | []=>True
 | p::r=>cells.lookup p.1=some p.2∧pI cells r
theorem pI.mem{cells:List (Str×Addr)}:∀{cl:List (Str×Addr)},pI cells cl→∀ p∈cl,cells.lookup p.1=some p.2
 | [],_,p,h=>nomatch h
 | q::r,h,p,hp=>by
  rcases Yq.mp hp with rfl | hp
  ·exact h.1
  ·exact pI.mem h.2 p hp
def kM(X:Cx)(scope:Scope):List (Nat×Str)→Prop
 | []=>True
 | p::r=>(X.N[p.1]? = some p.2∧X.env.kindOf p.2=some .cell∧(relabel scope X.env).names.lookup p.2=some .cell)∧kM X scope r
theorem kM.mem:∀{cap:List (Nat×Str)},kM X scope cap→∀ p∈cap,X.N[p.1]? = some p.2∧X.env.kindOf p.2=some .cell∧(relabel scope X.env).names.lookup p.2=some .cell
 | [],_,p,h=>nomatch h
 | q::r,h,p,hp=>by
  rcases Yq.mp hp with rfl | hp
  ·exact h.1
  ·exact kM.mem h.2 p hp
theorem se{cl:List (Str×Addr)}{cap:List (Nat×Str)}(hk:scope.kind=.function)(hn:∀ y∈scope.names,y.2≠.cell)(hl:∀ y∈scope.names,y.2=.local→scope.names.lookup y.1=some .local)
  (hc:closureFor scope X.env=pure cl) (ha:pI X.env.cells cl) (hh:((relabel scope X.env).names.all fun p=>!(p.2 == .cell||p.2 == .free)||(cl.lookup p.1).isSome)=true) (CA:kM X scope cap):dW X scope cl own cap where
 zg:=hc
 cell:=hn
 kind:=hk
 names:=hl
 sub:=fun x c h=>ha.mem _ (mem_of_lookup h)
 has:=fun p hp h=>by
  have q:=ZI.mp hh p hp;rcases h with h | h<;>· rw[h]at q;simpa using q
 CU:=fun p hp=>by
  obtain⟨h1,h2,h3⟩:=CA.mem p hp;exact⟨h1,.inr (.inl h2),by rw[h2];decide,by rw[h3];decide,.inl h3⟩
end
theorem sk:bootBuiltins "bool" = some (.type "bool"):=by decide +kernel
theorem qP:bootBuiltins "int" = some (.type "int"):=by decide +kernel
theorem wO:bootBuiltins "str" = some (.type "str"):=by decide +kernel
theorem pD:bootBuiltins "tuple" = some (.type "tuple"):=by decide +kernel
theorem jF:bootBuiltins "list" = some (.type "list"):=by decide +kernel
end L2
namespace Tg
open PySem L2
theorem zj{α:Type}{xs:List α}{r:Int}(h0:0≤r)(h1:r < xs.length):∃ x,jo xs r=some x∧x∈xs:=by
 have hk:r.toNat < xs.length:=by omega
 have e:r=((r.toNat:Nat):Int):=by omega
 have q:jo xs ((r.toNat:Nat):Int)=some xs[r.toNat]:=bY (by rw[YJ hk]<;>rfl)
 rw[← e]at q;exact⟨_,q,List.getElem_mem hk⟩
end Tg
set_option maxHeartbeats 1000000
namespace L2
open PySem PySem.Spec PyProof.Rows PySem.W
theorem zb{K:Frag}{h:Heap}{C:Addr}{Ah:List Value}{newId:String}(X:K.In h)(q:excIn K C Ah newId=true):
  ∃ bm N nm q bs hdct sn sub ab col dd k0 k1 k2 k3 k5 mN,h.get? C=some (excClassObj nm q C N bs bm hdct sn sub ab col dd k0 k1 k2 k3 k5 newId)∧h.Ns N mN∧mN "__init__" = none∧OwnTail h Ah bm:=by
 unfold excIn at q;split at q
 ·rename_i dd cd sl ho
  split at q
  ·rename_i C' bm k0 k1 k2 k3 n k5 hm hs
   simp only[aa3,YW,Bool.not_eq_true']at q;obtain⟨⟨⟨⟨⟨rfl,rfl⟩,GR⟩,ht⟩,bB⟩,Jh⟩:=q;obtain⟨nm,bs,mro,ns,qn,hd,sn,sub,ab,col,del⟩:=cd;dsimp only at hm GR bB Jh;subst hm GR;have UU:sl=#[k0,k1,k2,k3,some (.builtin n),k5]:=by
    obtain⟨l⟩:=sl;simp only at hs;rw[hs]
   subst UU;exact⟨bm,ns,nm,qn,bs,hd,sn,sub,ab,col,dd,k0,k1,k2,k3,k5,_,X _ _ ho,.of_isNs (isNs_of_in X bB),nsMap_none_of_in X bB Jh,tail_of_in X ht⟩
  ·cases q
 ·cases q
structure JA(fs:List Addr)(H H':Hp)(h B h':Heap):Prop where
 keep:∀ b o,h.get? b=some o→H b=none→b∉fs→B.get? b=some o
 slot:∀ b o,h.get? b=some o→H b=none→b∈fs→∃ sl,h'.get? b=some {o with slots:=sl}
 free:∀ b o,h.get? b=some o→H b=none→H' b=none
 there:∀ b o,h.get? b=some o→b∉fs→∃ o',B.get? b=some o'
 gW:∀ b xs,H b=some (.tup xs)→H' b=some (.tup xs)
 gF:∀ b o u,H b=some (.frz o u)→H' b=some (.frz o u)
 gY:∀ b ps,H b=some (.tbl ps)→∃ more,H' b=some (.tbl (ps++more))
theorem JA.un{fs:List Addr}{H H':Hp}{h B h':Heap}(u:JA fs H H' h B h')(st:B.StaysIn h')(hf:∀ b∈fs,H b=none):Un fs [] H H' h h':=
 ⟨fun b o e n hb _=>st b o (u.keep b o e n hb),fun b o e n hb _=>u.slot b o e n hb,fun b o e n _=>u.free b o e n,fun b o e _=>by
  by_cases hb:b∈fs
  ·obtain⟨sl,q⟩:=u.slot b o e (hf b hb) hb
   exact⟨_,q⟩
  ·obtain⟨o',q⟩:=u.there b o e hb
   exact⟨o',st b o' q⟩,u.gW,u.gF,u.gY⟩
def nL(P:Program)(w:World):pR:=fun outer H s E e s'=>∃(x:Addr) (C a0:Value) (H':Hp) (B:Heap),e=.ref x∧s'.os=s.os∧AllBare s'.gens ∧
 Heap.FlyingW B outer x C a0 s'.heap∧h9 P w H' B∧JA (kO outer) H H' s.heap B s'.heap∧E C none H'
def Raises(X:Cx)(E:XK):Prop:=∀(pins:List (Addr×Obj)) (σ:St) (H:Hp) (s:Shared) (h':Heap) (x:Addr) (C:Value) (vs:List Value),Inv X pins σ H s→Heap.MadeExcOf s.heap h' x C vs→E C none H→X.xe (.ref x) {s with heap:=h'}
section
variable {X:Cx}{x:Str}{C:Addr}{Ah:List Value}{B newId qA:String}{np dE pos:Pos}{e₀:Expr}{rest:List Expr}{t:TA}{E:XK}
def AI(E:XK)(C:Addr)(t:TA):TS:=fun _ σ H=>t σ H fun vs H1=>vs.length≤sizeLine∧E (.ref C) none H1
theorem vt(hc:X.calm=true)(hg:Gl X x)(hm:X.mg x=some (.ref C))(hx:excIn X.K C Ah newId=true)(FB:ExcBaseFacts B newId qA Ah)(ha:PA X (e₀::rest) t)(hE:Raises X E)
  (hd:(x ==("__debug__" : Str))=false:=by decide) (he:starEach (e₀::rest) X.env=(false,eval e₀ X.env)::starEach rest X.env:=by rfl) (fA:(backTo dE (starEach rest X.env)).any (·.1)=false:=by rfl) :
  PS X (.Raise (some (.Call (.Name x np) (e₀::rest) [] dE)) none pos) (AI E C t):=by
 refine .mk ?_;intro pins s σ H D I h;obtain⟨bm,N,nm,q,bs,hdct,sn,sub,ab,col,dd,k0,k1,k2,k3,k5,mN,hC,hN,Jh,T⟩:=zb I.mod.BY hx;refine wpAny_Raise_call_subT (C:=C) (nm:=nm) (q:=q) (N:=N) (bs:=bs) (bm:=bm) (hdct:=hdct) (sn:=sn) (sub:=sub) (ab:=ab) (col:=col) (dd:=dd) (k0:=k0) (k1:=k1) (k2:=k2) (k3:=k3) (k5:=k5)
  FB (mN:=mN) (T.hasType FB.hasBase) (I.ok.hd hc) (by rw[he];show(false||(backTo dE (starEach rest X.env)).any (·.1))=false;rw[fA];rfl) Jh (iD I hg hm ⟨rfl,?_⟩ hd)
 have hA:=ha dE pins s σ H _ I h;rw[he]at hA ⊢;refine Calls.evalArgs_plain (bL hA fun us s2 ⟨vs,H1,I1,r1,hz,q1⟩=>?_);refine⟨rfl,by rw[← r1.length];exact hz,I1.bk _ _ hC,hN.keeps I1.bk,T.keeps I1.bk,fun h' e hM=>hE pins σ H1 s2 h' e _ _ I1 hM q1⟩
end
section
variable {P:Program}{w:World}{K:W.Frag}{mg:Str→Option Value}{base:Heap}{N:List Str}{qual:Str}{scope:Scope}{f:Addr}{cd:Value}{A:Around}{outer:List Env}{s:Shared}{H:Hp}{E:XK}
abbrev ze(P:Program)(w:World)(K:W.Frag)(mg:Str→Option Value)(base:Heap)(N:List Str)(qual:Str)(scope:Scope)(f:Addr)(cd:Value)(A:Around)(outer:List Env)(s:Shared)(H:Hp)(E:XK):Cx:=
 pe (nL P w) P w K mg base N qual scope f cd A outer s H E
theorem eu{pins:List (Addr×Obj)}{σ:St}{H1:Hp}{s1:Shared}(I:Inv (ze P w K mg base N qual scope f cd A outer s H E) pins σ H1 s1){b:Addr}{o:Obj}(e:s.heap.get? b=some o)(hb:b∉kO outer):
  b∉kO (envOfC qual scope s.heap.objs.size f cd::outer):=fun hm=>by
 rcases Yq.mp (I.mz b hm)with z | z
 ·exact absurd (Yr e) (by rw[z];exact ZD _)
 ·exact hb z
theorem kB{pins:List (Addr×Obj)}{σ:St}{H1:Hp}{s1:Shared}(I:Inv (ze P w K mg base N qual scope f cd A outer s H E) pins σ H1 s1){b:Addr}{o:Obj}(e:s.heap.get? b=some o)(hb:b∈kO outer):∀ vs,o.data≠.fields vs:=by
 obtain⟨_,o',jC,Cw⟩:=I.ok.gE.mem hb;have e':s.heap.get? b=some o':=jC;rw[e]at e';cases e';exact Cw
theorem dN:Raises (ze P w K mg base N qual scope f cd A outer s H E) E:=by
 intro pins σ H1 s1 h' x C vs I M hE;show wpAny (model P w) (A.deeper (envOfC qual scope s.heap.objs.size f cd)) (leaving (envOfC qual scope s.heap.objs.size f cd) (.ref x)) (fun _ sS=>nL P w outer H s E (.ref x) sS) (fun e' sS=>nL P w outer H s E e' sS) {s1 with heap:=h'}
 have Jk:∀ wC∈envOfC qual scope s.heap.objs.size f cd::outer,∀ a,wC.frame=some a→a∈kO (envOfC qual scope s.heap.objs.size f cd::outer):=fun wC he a ha=>aae.mpr ⟨wC,he,ha⟩;refine wpAny_leaves_madeW (base:=hideAll s1.heap (kO (envOfC qual scope s.heap.objs.size f cd::outer))) (h:=s1.heap) I.ok.frames rfl (fun b o q=>of_hideAll _ q) (funFrames_hide I.stack Jk) M fun h2 t x1 x2 x3 x4=>?_;have nf:∀ b u,H1 b=some u→b∉kO (envOfC qual scope s.heap.objs.size f cd::outer):=fun b u q hm=>by
  have z:=I.jw b hm;rw[q]at z;cases z
 refine⟨x,C,.ref t,H1,_,rfl,I.os,I.bare,x1,fun a o q=>?_,⟨fun b o q n hb=>?_,fun b o q n hb=>?_,fun b o q n=>?_,fun b o q hb=>?_,I.base.gW,I.base.gF,I.base.gY⟩,hE⟩
 ·refine(I.bB a o q).mC (fun b u hb z=>hideAll_get _ z ?_) (fun _ z=>z) fun _ _ z=>z
  rcases hb with rfl | hb
  ·exact nf _ _ q
  ·exact nf _ _ hb
 ·exact hideAll_get _ (I.base.keep b o q n hb (by exact Yy)) (eu I q hb)
 ·obtain⟨sl,z⟩:=I.base.slot b o q n hb (by exact Yy)
  obtain⟨Dm,z2⟩:=x4 b _ (M.keeps _ _ z) (have fd:=kB I q hb;fun vs=>fd vs);exact⟨Dm,z2⟩
 ·exact I.base.free b o q n (by exact Yy)
 ·obtain⟨o',z⟩:=I.base.there b o q (by exact Yy)
  exact⟨o',hideAll_get _ z (eu I q hb)⟩
theorem om:Passes (nL P w) (ze P w K mg base N qual scope f cd A outer s H E) E:=by
 intro pins σ H1 s1 e s2 I h;obtain⟨x,C,a0,H',B,rfl,os,bare,fl,bB,u,hE⟩:=h;show wpAny (model P w) (A.deeper (envOfC qual scope s.heap.objs.size f cd)) (leaving (envOfC qual scope s.heap.objs.size f cd) (.ref x)) (fun _ sS=>nL P w outer H s E (.ref x) sS) (fun e' sS=>nL P w outer H s E e' sS) s2
 refine wpAny_leaves_onW I.ok.frames rfl fl fun h2 f2 up=>?_;refine⟨x,C,a0,H',B,rfl,os.trans I.os,bare,f2,bB,⟨fun b o q n hb=>?_,fun b o q n hb=>?_,fun b o q n=>?_,fun b o q hb=>?_,fun b xs q=>u.gW b xs (I.base.gW b xs q),fun b o v q=>u.gF b o v (I.base.gF b o v q),fun b ps q=>?_⟩,hE⟩
 ·exact u.keep b o (I.base.keep b o q n hb (by exact Yy)) (I.base.free b o q n (by exact Yy)) (eu I q hb)
 ·obtain⟨sl,z⟩:=I.base.slot b o q n hb (by exact Yy)
  have hm:b∈kO (envOfC qual scope s.heap.objs.size f cd::outer):=by
   obtain⟨wC,he,ha⟩:=aae.mp hb;exact aae.mpr ⟨wC,Zo _ he,ha⟩
  obtain⟨Dm,z2⟩:=u.slot b _ z (I.base.free b o q n (by exact Yy)) hm;obtain⟨KD,z3⟩:=up b _ z2 (have fd:=kB I q hb;fun vs=>fd vs);exact⟨KD,z3⟩
 ·obtain⟨o',z⟩:=I.base.there b o q (by exact Yy)
  exact u.free b o' z (I.base.free b o q n (by exact Yy))
 ·obtain⟨o',z⟩:=I.base.there b o q (by exact Yy)
  exact u.there b o' z (eu I q hb)
 ·obtain⟨m1,z1⟩:=I.base.gY b ps q
  obtain⟨m2,z2⟩:=u.gY b _ z1;exact⟨m1++m2,by rw[z2,Array.append_assoc]⟩
theorem yr:PassesOwn (model P w) (ze P w K mg base N qual scope f cd A outer s H E).A (ze P w K mg base N qual scope f cd A outer s H E).env (ze P w K mg base N qual scope f cd A outer s H E).xe:=PassesOwn.leaving
end
theorem gj.Te{P:Program}{w:World}{K:W.Frag}{mg:Str→Option Value}{base:Heap}{x qual:Str}{st:Stmt}{f:Addr}{fd:FuncData}{N ps:List Str}{k:Nat}{sp:Sp}(F:gj K x qual st f fd)(S:aE N ps (ai st))(len:∀ vs H Q E,sp vs H Q E→vs.length=ps.length)
  (iE:∀(cM:Value) (A:Around) (outer:List Env) (s:Shared) (H:Hp) (vs:List V) (Q:VK) (E:XK),cq k (A.deeper (envOfC qual (ai st) s.heap.objs.size f cM))→sp vs H Q E →
   ∃ t,gI (ze P w K mg base N qual (ai st) f cM A outer s H E) (aC st) t∧t {nx:=fun _ H'=>Q .non H',rt:=Q} (start N vs) H):bJ P w K mg base (nL P w) (k+1) f fd ps sp:=by
 obtain⟨oc,od,kV,doc,pm,an,cM,ct,yt,rfl,lk,qH⟩:=F.ex;exact zX lk qH S len fun A outer s H vs Q E hr pO=>iE cM A outer s H vs Q E hr pO
section
variable {X:Cx}{x:Str}{k j:Nat}{ps:List Str}{sp:Sp}{p pos:Pos}{e:Expr}{es:List Expr}{t:TA}{E:XK}
end
theorem bK.got{P:Program}{w:World}{H:Hp}{h:Heap}{a:Addr}{o:HO}(x:bK P w H h a o):∃ u,h.get? a=some u:=by
 cases o with
 | lst xs=>obtain⟨_,_,_,_,e⟩:=x;exact⟨_,e⟩
 | tup xs=>obtain⟨_,_,_,o,e,_⟩:=x;exact⟨_,e⟩
 | dK ak=>obtain⟨_,_,_,_,o,_,_,e,_⟩:=x;exact⟨_,e⟩
 | dT ak=>obtain⟨_,_,_,_,o,_,_,e,_⟩:=x;exact⟨_,e⟩
 | set S n=>obtain⟨o,_,_,_,e,_⟩:=x;exact⟨_,e⟩
 | ins C dx fs=>obtain⟨_,_,_,e,_⟩:=x;exact⟨_,e⟩
 | own y=>exact x
 | xd fs=>obtain⟨_,⟨_,_,_,e,_⟩,_⟩:=x;exact⟨_,e⟩
 | rng lo hi=>obtain⟨_,_,_,e⟩:=x;exact⟨_,e⟩
 | frz ob u=>obtain⟨e,_⟩:=x;exact⟨_,e⟩
 | tbl ps=>exact⟨_,(show h.get? a=some _ from x)⟩
 | met f y=>exact⟨_,(show h.get? a=some _ from x)⟩
 | ext φ=>obtain⟨_,e,_⟩:=x;exact e
section
variable {X:Cx}{pins:List (Addr×Obj)}{σ:St}{H:Hp}{s:Shared}
abbrev Cx.tr(X:Cx)(E':Value→Shared→Prop)(pn:List (Addr×Obj)):Cx:={X with xe:=E',pn:=pn}
abbrev Cx.su(X:Cx)(x:Addr):Cx:={X with A:=X.A.mark (some (.ref x)),calm:=false,xe:=fun _ _=>False}
theorem Cx.Ok.tr(ok:X.Ok)(E':Value→Shared→Prop)(pn:List (Addr×Obj)):(X.tr E' pn).Ok:=
 ⟨ok.mod,ok.kind,ok.glob,ok.blt,ok.above,ok.inj,ok.has,ok.Ac,ok.hd,ok.frames,ok.AQ,ok.DJ,ok.bs,ok.wQ,ok.oA,ok.oW,ok.gE,ok.xg⟩
theorem Cx.Ok.su(ok:X.Ok)(x:Addr):(X.su x).Ok:=
 ⟨ok.mod,ok.kind,ok.glob,ok.blt,ok.above,ok.inj,ok.has,ok.Ac,(fun z=>absurd (show false=true from z) (by decide)),ok.frames,ok.AQ,ok.DJ,ok.bs,ok.wQ,ok.oA,ok.oW,ok.gE,ok.xg⟩
theorem Inv.tr(I:Inv X pins σ H s)(E':Value→Shared→Prop):Inv (X.tr E' (X.pn++pins)) [] σ H s:=
 ⟨I.ok.tr E' _,I.os,I.bare,I.base,I.loc,I.cell,I.free,I.dG,fun p hp=>I.pin p (by simpa using hp),I.bB,I.len⟩
theorem Inv.uP{E':Value→Shared→Prop}{j9:List (Addr×Obj)}(ok:X.Ok)(I:Inv (X.tr E' (X.pn++pins)) j9 σ H s):Inv X pins σ H s:=
 ⟨ok,I.os,I.bare,I.base,I.loc,I.cell,I.free,I.dG,fun p hp=>I.pin p (Zw _ hp),I.bB,I.len⟩
theorem Inv.su(I:Inv X pins σ H s)(x:Addr):Inv (X.su x) pins σ H s:=⟨I.ok.su x,I.os,I.bare,I.base,I.loc,I.cell,I.free,I.dG,I.pin,I.bB,I.len⟩
theorem Inv.xo{x:Addr}(ok:X.Ok)(I:Inv (X.su x) pins σ H s):Inv X pins σ H s:=⟨ok,I.os,I.bare,I.base,I.loc,I.cell,I.free,I.dG,I.pin,I.bB,I.len⟩
end
section
variable {X:Cx}{body fL:List Stmt}{b₀:Stmt}{y n:Str}{np oS pos:Pos}{Cy:Addr}{j:Nat}{tb:(St→XK)→TS}{ts:TS}
def Hs(X:Cx)(pins:List (Addr×Obj))(D:Ends)(hs:List ExceptHandler):Value→Shared→Prop:=fun e s₁=>
 wpAny (model X.prog X.w) X.A (noteFrame e X.env) (fun _ s₂=>wpAny (model X.prog X.w) X.A (setFlight e none) (fun _ s₃=>wpAny (model X.prog X.w) X.A (handleBy e X.env hs) (SP X pins D) X.xe s₃) X.xe s₂) X.xe s₁
end
section
variable {X:Cx}{x:Str}{k j:Nat}{ps:List Str}{sp:Sp}{p pos:Pos}{e:Expr}{es:List Expr}{t:TA}{W:St→XK}
def nH(X:Cx)(W:St→XK):Prop:=∀(pins:List (Addr×Obj)) (σ:St) (H:Hp) (s:Shared) (e:Value) (s':Shared),Inv X pins σ H s→nL X.prog X.w X.stack H s (W σ) e s'→X.xe e s'
end
section
variable {X:Cx}{body fL:List Stmt}{b₀:Stmt}{y:Str}{np oS pos:Pos}{Cy:Addr}{tb:(St→XK)→TS}{ts:TS}
def uO(K:W.Frag)(Cy:Addr)(ts:TS)(D:Ends):St→XK:=fun σ C _ H'=>exmOne K C (.ref Cy)=some true∧ts D σ H'
def Ex(K:W.Frag)(Cy:Addr)(tb:(St→XK)→TS)(ts:TS):TS:=fun D σ H=>tb (uO K Cy ts D) D σ H
theorem zh{pins:List (Addr×Obj)}{D:Ends}(ok:X.Ok)(kr:X.stack=X.env::X.outer)(Ct:X.env.frame=some X.env.locals)(hy:Gl X y)(GG:X.mg y=some (.ref Cy))
  (hs:∀ x,gI (X.su x) (b₀::fL) ts) (hd:(y ==("__debug__" : Str))=false) {σ1:St} {H1:Hp} {s1:Shared} {e:Value} {s2:Shared} (J1:Inv X pins σ1 H1 s1) (Na:nL X.prog X.w X.stack H1 s1 (uO X.K Cy ts D σ1) e s2) :
  Hs X pins D [.ExceptHandler (some (.Name y np)) none (b₀::fL) oS] e s2:=by
 obtain⟨x,C,a0,H',B,rfl,os,bare,fl,bB,u,hm,hw⟩:=Na;have M5:X.A.frames=some (X.env::X.outer):=by rw[← kr];exact ok.frames
 have QZ:Heap.FlyingW B (X.env::X.outer) x C a0 s2.heap:=by rw[← kr];exact fl
 have data:∀ b∈kO X.stack,∀ o,s1.heap.get? b=some o→∀ vs,o.data≠.fields vs:=fun b hb o q=>by
  obtain⟨_,o',jC,Cw⟩:=J1.stack.mem hb;rw[q]at jC;cases jC;exact Cw
 have P8:∀ h5:Heap,B.StaysIn h5→s2.heap.UpToSlots h5→Inv X pins σ1 H' {s2 with heap:=h5}:=fun h5 st up=>by
  have u5:JA (kO X.stack) H1 H' s1.heap B h5:=⟨u.keep,fun b o q n' hb=>by
   obtain⟨sl,z⟩:=u.slot b o q n' hb;obtain⟨Dm,z2⟩:=up b _ z (have dd:=data b hb o q;fun vs=>dd vs);exact⟨Dm,z2⟩,u.free,u.there,u.gW,u.gF,u.gY⟩
  exact J1.Ab (s':={s2 with heap:=h5}) (ch:=[]) os (u5.un st J1.jw) (bB.kept st) bare (fun b hb=>nomatch hb)
 have UN:B.get? x=none:=QZ.2.1;have Hx:H' x=none:=by
  cases q:H' x with
  | none=>rfl
  | some o=>
   obtain⟨z,hz⟩:=(bB x o q).got;rw[UN]at hz;cases hz
 refine wpAny_looks_onW M5 Ct QZ fun h4 GP Pb=>?_;refine wpAny_landsW GP fun h5 NC Pa=>?_;have I5:=P8 h5 NC.1 (Pb.trans Pa);obtain⟨ob,U3,Jf⟩:=NC.there;have LT:Looks (model X.prog X.w) h5 (typeOf (.ref x)) C:=by rw[← Jf];exact(Looks.ld U3).andThen .now
 refine wpAny_handleBy_cons (codeAny_handlers_test (iD (X:=X.su x) (I5.su x) hy GG ?_ hd)) (by intro q;cases q);refine(exm_one I5.iO LT hm).here ?_;refine codeAny_handlers_suite ?_;refine lands_againW NC fun h6 VT RG=>?_;have I6:=P8 h6 VT.1 ((Pb.trans Pa).trans RG);refine Zz ((hs x).run pins {s2 with heap:=h6} _ _ _ (I6.su x) hw) (fun f s8 q=>?_) (fun _ _ z=>z.elim);cases f with
 | next=>obtain⟨σ2,H2,I8,q⟩:=q;exact⟨_,_,Inv.xo ok I8,q⟩
 | brk=>obtain⟨σ2,H2,I8,q⟩:=q;exact⟨_,_,Inv.xo ok I8,q⟩
 | cont=>obtain⟨σ2,H2,I8,q⟩:=q;exact⟨_,_,Inv.xo ok I8,q⟩
 | ret v=>obtain⟨v',σ2,H2,I8,r,q⟩:=q;exact⟨v',_,_,Inv.xo ok I8,r,q⟩
theorem xY(kr:X.stack=X.env::X.outer)(Ct:X.env.frame=some X.env.locals)(hy:Gl X y)(GG:X.mg y=some (.ref Cy))
  (hb:∀(E':Value→Shared→Prop) (pn:List (Addr×Obj)) (W:St→XK),(∀ pins σ H s e s',Inv (X.tr E' pn) pins σ H s→nL X.prog X.w X.stack H s (W σ) e s'→E' e s')→gI (X.tr E' pn) body (tb W))
  (hs:∀ x,gI (X.su x) (b₀::fL) ts) (hd:(y ==("__debug__" : Str))=false:=by decide) :
  PS X (.Try body [.ExceptHandler (some (.Name y np)) none (b₀::fL) oS] [] [] pos) (Ex X.K Cy tb ts):=by
 refine .mk ?_;intro pins s σ H D I h;have ok:=I.ok;refine wpAny_Try_except ?_;have fin:=(hb (Hs X pins D [.ExceptHandler (some (.Name y np)) none (b₀::fL) oS]) (X.pn++pins) (uO X.K Cy ts D) (fun j9 σ1 H1 s1 e s2 J Na=>zh ok kr Ct hy GG hs hd (Inv.uP ok J) Na)).run [] s σ H D (I.tr _) h;refine Zz fin (fun f s1 q=>?_) fun e s1 q=>q;cases f with
 | next=>
  obtain⟨σ',H',I',q⟩:=q;exact abq ⟨σ',H',Inv.uP ok I',q⟩
 | brk=>obtain⟨σ',H',I',q⟩:=q;exact⟨σ',H',Inv.uP ok I',q⟩
 | cont=>obtain⟨σ',H',I',q⟩:=q;exact⟨σ',H',Inv.uP ok I',q⟩
 | ret v=>obtain⟨v',σ',H',I',r,q⟩:=q;exact⟨v',σ',H',Inv.uP ok I',r,q⟩
end
end L2
namespace L2
open PySem PySem.Spec PyProof.Rows
section
variable {X:Cx}
def sy(i j:Int):Prop:=0 < j∧j < 2 ^ 200
theorem sy.LU{i j:Int}(h:sy i j):Builtin.divisionGoesByPylong i j=false:=by
 refine PyProof.noPylong_of_log2 ?_;have h1:j.natAbs < 2 ^ 200:=by have:=h.1;have:=h.2;omega
 have h2:j.natAbs≠0:=by have:=h.1;omega
 have:=(Nat.log2_lt h2).mpr h1;omega
theorem vK:gJ X (binaryOp .FloorDiv) (rI sy fun i j=>.int (i / j)):=IP fun i j _ _ _ _ _ hc q=>by
 have h1:(0:Int) < j:=hc.1;exact floordiv_int (by omega) (by rw[Int.fdiv_eq_ediv_of_nonneg i (by omega)];exact q) (.inl hc.LU)
theorem wR{bs:List Bool}:∀{us:List Value},Vals (bs.map V.bl) us→us=bs.map Value.bool:=by
 induction bs with
 | nil=>intro us r;rw[List.map_nil]at r;cases r;rfl
 | cons n ns ih=>
  intro us r;rw[YC]at r;cases r with
  | cons r1 r2=>
   rw[ih r2];cases r1;rfl
theorem range_all{bs:List Bool}:(List.range bs.length).all (fun i=>bs.getD i true)=bs.all id:=by
 rw[aaL,ZI,ZI];constructor
 ·intro h b hb
  obtain⟨i,hi,rfl⟩:=aau hb;have:=h i (abS.mpr hi);simpa[List.getD,YJ hi]using this
 ·intro h i hi
  have fE:=abS.mp hi;have:=h bs[i] (List.getElem_mem fE);simpa[List.getD,YJ fE]using this
theorem yS{s:Shared}{o₀:Obj}{h':Heap}(hk:∀ b o,b∉[s.heap.objs.size]→(s.heap.push o₀).get? b=some o→h'.get? b=some o):∀ b o,s.heap.get? b=some o→h'.get? b=some o:=fun b o e=>by
 refine hk b o (fun hm=>?_) (Yn _ e);exact absurd ((YA.mp hm) ▸ Yr e) (ZD _)
theorem uq(hc:X.calm=true):gk X (.builtin "all") (fun xs H Q=>∃(p:Addr) (bs:List Bool),xs=[.ref p]∧dF X.K H p (bs.map V.bl)∧Q (.bl (bs.all id)) H):=by
 intro pins s σ H xs us Q I r h;obtain⟨p,bs,rfl,hq,q⟩:=h;obtain⟨u,rfl,ru⟩:=vals1 r;cases ru;obtain⟨aA,rv,pl,hz⟩:=I.list hq;have eb:=wR rv;have hl:s.heap.IsList p aA.toArray:=pl.isList;have gC:p < s.heap.objs.size:=by obtain⟨_,e,_⟩:=hl;exact Yr e
 refine call_all_walk (aa5 hl ?_);refine⟨s.heap.objs.size,_,_,_,_,_,fun i=>bs.getD i true,rfl,Walks.list (prog:=X.prog) (w:=X.w) (A:=X.A.in1) (I.ok.hd hc) s.heap.objs.size p (YI gC) aA.toArray,⟨⟨_,YB _ rfl,rfl,rfl⟩,hl.push _⟩,?_,?_⟩
 ·intro i v s' Q' E' hP hQ
  have e:v=.bool (bs.getD i true):=by
   rw[eb]at hP;simp only[List.getElem?_toArray,Y2,Option.map_eq_some_iff]at hP;obtain⟨b,hb,rfl⟩:=hP;simp[List.getD,hb]
  rw[e];exact ZN hQ
 ·intro h' tk hk
  refine⟨.bl (bs.all id),H,I.kept (yS hk),?_,q⟩;have e2:aA.toArray.size=bs.length:=by rw[eb];simp
  rw[e2,range_all];rfl
end
section
variable {own:List Str}{cap:List (Nat×Str)}{σ:St}{H1:Hp}{D:Addr}{g:TG}{tc:TT}{te:TE}{QD:Hp→Prop}
end
end L2
namespace Tg
def val:List Int→Int
 | []=>0
 | d::ds=>d+65536 * val ds
end Tg
namespace L2
open PySem PySem.Spec PyProof.Rows
section
variable {X:Cx}
def EG:TE:=fun _ H Q=>∀ p,H p=none→Q (.ref p) (upd H p (.dK []))
theorem yi{pos:Pos}:PE X (.Dict [] [] pos) EG:=by
 refine .mk ?_;intro pins s σ H Q I h;refine wpAny_Dict_empty ⟨.ref s.heap.objs.size,_,I.laid (a:=s.heap.objs.size) (o:=.dK []) (t':=s.toks) (fun _ _ q=>Yn _ q) (Yz _) ?_,rfl,h _ (I.bB.fresh (Yz _))⟩;have hb:sysModules < s.heap.objs.size:=Nat.lt_trans (by decide) (I.mod.glob.keeps I.bk).lt;exact⟨ZL _,Z3.mpr fun z=>YI hb z.symm,[],.nil,Heap.DictOf.new s.heap⟩
end
section
variable {X:Cx}{pins:List (Addr×Obj)}{σ:St}{H:Hp}{s:Shared}{h':Heap}
theorem Inv.iT{t':Nat}{ch:List Addr}{a:Addr}{o:HO}(I:Inv X pins σ H s)(k:∀ b u,b∉ch→s.heap.get? b=some u→h'.get? b=some u)(hf:∀ b∈ch,eX X pins H b)(ha:s.heap.objs.size≤a)
  (new:bK X.prog X.w (upd H a o) h' a o):Inv X pins σ (upd H a o) {s with heap:=h',toks:=t'}:=by
 have hn:H a=none:=I.bB.fresh ha;have vT:∀ b u,H b=some u→b∉ch:=fun b u e z=>by rw[(hf b z).1]at e;cases e
 refine I.step (g':=s.gens) (d':=s.drawn) (ch:=ch) (fun b hb=>?_) (fun b o _ _ hc e _=>k b o hc e) (fun b o _ _ hc e _=>⟨o.slots,k b o hc e⟩) (fun b o _ e n=>?_)
  (fun b o hc e=>⟨o,k b o hc e⟩) (fun b xs e=>by rw[au (aP e hn)];exact e) (fun b u v e=>by rw[au (aP e hn)];exact e) (fun b ps e=>⟨#[],by rw[au (aP e hn),e];simp⟩) (fun m hm=>?_) (fun b u e=>?_) I.bare
 ·obtain⟨f0,f1,f2,f3,f4,f5⟩:=hf b hb
  exact⟨f3,f1,f4,f5⟩
 ·rw[au (YI (YQ (Yr e) ha))]
  exact n
 ·obtain⟨o,es,ep,ho,r⟩:=hm
  exact⟨o,es,ep,k _ o (fun z=>(hf _ z).2.1 rfl) ho,r⟩
 ·by_cases hb:b=a
  ·subst hb;rw[az]at e;cases e;exact new
  ·rw[au hb]at e
   refine(I.bB b u e).mC (fun c v hc q=>k c v ?_ q) (fun c q=>by rw[au (aP q hn)];exact q) fun c xs q=>by rw[au (aP q hn)];exact q
   rcases hc with z | z
   ·rw[z];exact vT b u e
   ·exact vT c _ z
theorem Inv.lD{t':Nat}{ch:List Addr}(I:Inv X pins σ H s)(k:∀ b u,b∉ch→s.heap.get? b=some u→h'.get? b=some u)(hf:∀ b∈ch,eX X pins H b):Inv X pins σ H {s with heap:=h',toks:=t'}:=by
 have vT:∀ b u,H b=some u→b∉ch:=fun b u e z=>by rw[(hf b z).1]at e;cases e
 refine I.step (g':=s.gens) (d':=s.drawn) (ch:=ch) (fun b hb=>?_) (fun b o _ _ hc e _=>k b o hc e) (fun b o _ _ hc e _=>⟨o.slots,k b o hc e⟩) (fun b o _ e n=>n)
  (fun b o hc e=>⟨o,k b o hc e⟩) (fun b xs e=>e) (fun b u v e=>e) (fun b ps e=>⟨#[],by rw[e];simp⟩) (fun m hm=>?_) (fun b u e=>?_) I.bare
 ·obtain⟨f0,f1,f2,f3,f4,f5⟩:=hf b hb
  exact⟨f3,f1,f4,f5⟩
 ·obtain⟨o,es,ep,ho,r⟩:=hm
  exact⟨o,es,ep,k _ o (fun z=>(hf _ z).2.1 rfl) ho,r⟩
 ·refine(I.bB b u e).mC (fun c v hc q=>k c v ?_ q) (fun _ q=>q) fun _ _ q=>q
  rcases hc with z | z
  ·rw[z];exact vT b u e
  ·exact vT c _ z
end
section
variable {X:Cx}{tg:Expr}
end
section
variable {own:List Str}{cap:List (Nat×Str)}{σ:St}{H1:Hp}{D:Addr}{g:TG}{tc:TT}{te:TE}{QD:Hp→Prop}
end
section
variable {prog:Program}{w:World}{A:Around}{E:Value→Shared→Prop}{s:Shared}
theorem hX{j u:Addr}{i:Nat}{vs:Array Value}{v:Value}{Q:Value→Shared→Prop}(hj:s.heap.IsTupleIter j u i)(hu:s.heap.IsTuple u vs)(hv:vs[i]? = some v)
  (q:∀ h',h'.IsTupleIter j u (i+1)→Heap.SameBut j s.heap h'→Q v {s with heap:=h'}):wpAny (model prog w) A (Builtin.SmallTypes.nextOf (.ref j)) Q E s:=by
 obtain⟨ob,b1,b2,b3⟩:=id hj;obtain⟨ou,c1,_,nu,c3⟩:=hu;unfold Builtin.SmallTypes.nextOf;refine Ym (Zh (name:=Str.ofString "__next__") hj.typeIs aav (ZC aav hj.typeIs F.entry_tuple_iterator_next ?_ (F.args_tuple_iterator_next_1 _)));show wpAny _ _ (field (.ref j) 0 >>= _) _ _ s
 refine Ym (Za b1 b3 (x:=.ref u) rfl ?_);show wpAny _ _ (if(Value.ref u == Value.none)=true then _ else _) _ _ s
 rw[YN (show ¬((Value.ref u == Value.none)=true)from Yx)];show wpAny _ _ (field (.ref j) 1 >>= _) _ _ s
 refine Ym (Za b1 b3 (x:=.int i 0) rfl ?_);show wpAny _ _ (seqItems? (.ref u) >>= _) _ _ s
 refine Ym (Zg c1 c3 ?_);simp only[Zm,hv];refine Ym (wpAny_setField b1 b3 (by simp) (Yp ⟨v,rfl,Yp (q _ ?_ (abG ..))⟩));exact⟨_,aan _ b1 (Obj.isFreed_of_fields (Obj.data_mapFields b3 _)),(Obj.cls_mapFields ..).trans b2,by rw[Obj.data_mapFields b3];simp[rawInt]⟩
theorem lS{j u:Addr}{i:Nat}{vs:Array Value}{Q:Value→Shared→Prop}(hh:A.handled=none)(hj:s.heap.IsTupleIter j u i)(hu:s.heap.IsTuple u vs)(hv:vs[i]? = none)
  (q:∀ h' e,Heap.ExtBut j s.heap h'→(∃ o,h'.get? e=some o∧o.cls=.type "StopIteration")→E (.ref e) {s with heap:=h'}):wpAny (model prog w) A (Builtin.SmallTypes.nextOf (.ref j)) Q E s:=by
 obtain⟨ob,b1,b2,b3⟩:=id hj;obtain⟨ou,c1,_,nu,c3⟩:=hu;unfold Builtin.SmallTypes.nextOf;refine Ym (Zh (name:=Str.ofString "__next__") hj.typeIs aav (ZC aav hj.typeIs F.entry_tuple_iterator_next ?_ (F.args_tuple_iterator_next_1 _)));show wpAny _ _ (field (.ref j) 0 >>= _) _ _ s
 refine Ym (Za b1 b3 (x:=.ref u) rfl ?_);show wpAny _ _ (if(Value.ref u == Value.none)=true then _ else _) _ _ s
 rw[YN (show ¬((Value.ref u == Value.none)=true)from Yx)];show wpAny _ _ (field (.ref j) 1 >>= _) _ _ s
 refine Ym (Za b1 b3 (x:=.int i 0) rfl ?_);show wpAny _ _ (seqItems? (.ref u) >>= _) _ _ s
 refine Ym (Zg c1 c3 ?_);simp only[Zm,hv];refine Ym (ZS (Ym (wpAny_setField b1 b3 (by simp) ?_)));show wpAny _ _ (newExc (.type "StopIteration") [] >>= _) _ _ _
 refine Ym ?_;simp only[newExc,newTuple];refine Ym (aap ?_ (by show 0≤sizeLine;exact ZL _));refine Ym (m:=firstArgMember _ _) (wpAny_of_eq (a:=Value.none) (by first | rfl | (simp only[firstArgMember]<;>rfl)) ?_)
 refine aap ?_ (by size_fits);simp only[raiseNew];refine Ym (wpAny_handled ?_);first | rw[show A.in1.handled=none from hh] | rw[hh]
 refine Ym (Yp (wpAny_throw ?_));exact q _ _ (((abG ..).extBut.push _).push _) ⟨_,YB _ rfl,rfl⟩
structure Apart(z p r j1 j2 u1 u2:Addr):Prop where
 pz:p≠z
 rz:r≠z
 pN:j1≠z
 uz:j2≠z
 pr:p≠r
 PM:p≠j1
 PL:p≠j2
 zG:r≠j1
 zF:r≠j2
 Dy:j1≠j2
 Dk:u1≠z
 Xt:u1≠r
 RJ:u1≠j1
 RI:u1≠j2
 IE:u2≠z
 IF:u2≠r
 xp:u2≠j1
 RH:u2≠j2
theorem yU{h h':Heap}{a t:Addr}{i:Nat}(x:h.IsTupleIter a t i)(e:∀ o,h.get? a=some o→h'.get? a=some o):h'.IsTupleIter a t i:=let⟨o,ho,r⟩:=x;⟨o,e o ho,r⟩
theorem sA{z p r j1 j2 u1 u2:Addr}{i:Nat}{vs ws:Array Value}{x y a b:Value}{Q:Value→Shared→Prop}(D:Apart z p r j1 j2 u1 u2)
  (hz:IsZip s.heap z p r .none) (hp:IsPair s.heap p (.ref j1) (.ref j2)) (hr:IsPair s.heap r a b)
  (h1:s.heap.IsTupleIter j1 u1 i) (h2:s.heap.IsTupleIter j2 u2 i) (l1:s.heap.IsTuple u1 vs) (l2:s.heap.IsTuple u2 ws) (hx:vs[i]? = some x) (hy:ws[i]? = some y)
  (q:∀ h',IsZip h' z p r (rawInt s.heap.objs.size)→IsPair h' r x y→h'.IsTupleIter j1 u1 (i+1)→h'.IsTupleIter j2 u2 (i+1)→IsPair h' s.heap.objs.size x y→h'.objs.size=s.heap.objs.size+1 →
   (∀ c o,c≠z→c≠r→c≠j1→c≠j2→s.heap.get? c=some o→h'.get? c=some o)→Q (.ref s.heap.objs.size) {s with heap:=h'}) :
  wpAny (model prog w) A (Builtin.«zip.__next__» ⟨[.ref z],[]⟩) (fun fin s'=>∃ v,fin=.done (.ret v)∧Q v s') E s:=by
 show wpAny _ _ (field (.ref z) 2 >>= _) _ _ _
 refine Ym (Za hz rfl (x:=.bool false) rfl ?_);show wpAny _ _ (field (.ref z) 3 >>= _) _ _ _
 refine Ym (Za hz rfl (x:=.ref p) rfl ?_);refine Ym (Zg hp rfl ?_);show wpAny _ _ (Builtin.SmallTypes.ownedTupleIsFree (.ref z) >>= _) _ _ _
 refine Ym ?_;unfold Builtin.SmallTypes.ownedTupleIsFree;refine Ym (Za hz rfl (x:=.none) rfl (Yp ?_));simp only[abm];refine Ym (ZS ?_);refine Ym (Za hz rfl (x:=.ref r) rfl ?_);refine Ym (wpAny_setField_rec hz (by simp) fun g1 z1 e1=>?_)
 replace z1:IsZip g1 z p r .ellipsis:=z1
 refine Ym ?_;simp only[aaF,aaH,aaK,abi];refine Ym (Ym (aao ?_));show wpAny _ _ (Builtin.SmallTypes.nextOf (.ref j1) >>= _) _ _ _
 refine Ym (hX (h1.extBut e1.extBut D.pN) (l1.extBut e1.extBut D.Dk) hx fun g2 a2 e2=>Yp ?_);have r2:IsPair g2 r a b:=e2.extBut _ _ D.zG (e1.extBut _ _ D.rz hr);refine Ym (Zg r2 rfl ?_);refine Ym (Z5 r2 fun g3 r3 e3=>?_)
 replace r3:IsPair g3 r x b:=r3
 refine Ym (aaU (Yp ?_));refine Ym (Ym (aao ?_));show wpAny _ _ (Builtin.SmallTypes.nextOf (.ref j2) >>= _) _ _ _
 refine Ym (hX (((h2.extBut e1.extBut D.uz).extBut e2.extBut D.Dy.symm).extBut e3.extBut D.zF.symm) (((l2.extBut e1.extBut D.IE).extBut e2.extBut D.xp).extBut e3.extBut D.IF) hy fun g4 a4 e4=>Yp ?_);have r4:IsPair g4 r x b:=e4.extBut _ _ D.zF r3;refine Ym (Zg r4 rfl ?_);refine Ym (Z5 r4 fun g5 r5 e5=>?_)
 replace r5:IsPair g5 r x y:=r5
 refine Ym (aaU (Yp (Yp ?_)));refine Ym (Zg r5 rfl ?_);refine Ym (abz ?_);have sz:g5.objs.size=s.heap.objs.size:=by rw[e5.1,e4.1,e3.1,e2.1,e1.1]
 have z5:IsZip g5 z p r .ellipsis:=e5.extBut _ _ D.rz.symm (e4.extBut _ _ D.uz.symm (e3.extBut _ _ D.rz.symm (e2.extBut _ _ D.pN.symm z1)));have k5:∀ c o,c≠z→c≠r→c≠j1→c≠j2→s.heap.get? c=some o→g5.get? c=some o:=fun c o n1 n2 n3 n4 e=>
  e5.extBut _ _ n2 (e4.extBut _ _ n4 (e3.extBut _ _ n2 (e2.extBut _ _ n3 (e1.extBut _ _ n1 e))))
 have b1:g5.IsTupleIter j1 u1 (i+1):=((a2.extBut e3.extBut D.zG.symm).extBut e4.extBut D.Dy).extBut e5.extBut D.zG.symm;have b2:g5.IsTupleIter j2 u2 (i+1):=a4.extBut e5.extBut D.zF.symm;have zl:z < g5.objs.size:=Yr z5;show wpAny _ _ (Builtin.SmallTypes.ownedTupleHandOut (.ref z) (.ref g5.objs.size) >>= _) _ _ _
 refine Ym ?_;unfold Builtin.SmallTypes.ownedTupleHandOut;have z6:IsZip (g5.push {cls:=.type "tuple",data:=.seq #[x,y]}) z p r .ellipsis:=Yn _ z5;refine Ym (wpAny_setField_rec z6 (by simp) fun g7 z7 e7=>?_)
 replace z7:IsZip g7 z p r (rawInt g5.objs.size):=z7
 refine wpAny_setField_rec z7 (by simp) fun g8 z8 e8=>?_
 replace z8:IsZip g8 z p r (rawInt g5.objs.size):=z8
 have up:∀ c o,c≠z→g5.get? c=some o→g8.get? c=some o:=fun c o n1 e=>e8.extBut _ _ n1 (e7.extBut _ _ n1 (Yn _ e));have t8:IsPair g8 g5.objs.size x y:=e8.extBut _ _ (ZK zl) (e7.extBut _ _ (ZK zl) (YB _ rfl));have s8:g8.objs.size=g5.objs.size+1:=by rw[e8.1,e7.1,Zt]
 rw[sz]at z8 t8 s8;refine Yp ⟨_,rfl,?_⟩;show Q (.ref g5.objs.size) _
 rw[sz];exact q g8 z8 (up _ _ D.rz r5) (yU b1 fun o e=>up _ o D.pN e) (yU b2 fun o e=>up _ o D.uz e) t8 s8 fun c o n1 n2 n3 n4 e=>up c o n1 (k5 c o n1 n2 n3 n4 e)
theorem uF{z p r j1 j2 u1 u2:Addr}{i:Nat}{vs ws:Array Value}{a b:Value}{Q:Fin→Shared→Prop}(hh:A.handled=none)(D:Apart z p r j1 j2 u1 u2)
  (hz:IsZip s.heap z p r .none) (hp:IsPair s.heap p (.ref j1) (.ref j2)) (hr:IsPair s.heap r a b)
  (h1:s.heap.IsTupleIter j1 u1 i) (h2:s.heap.IsTupleIter j2 u2 i) (l1:s.heap.IsTuple u1 vs) (l2:s.heap.IsTuple u2 ws) (qF:vs[i]? = none∨ws[i]? = none)
  (q:∀ h' e,(∀ c o,c≠z→c≠r→c≠j1→c≠j2→s.heap.get? c=some o→h'.get? c=some o)→(∃ o,h'.get? e=some o∧o.cls=.type "StopIteration")→E (.ref e) {s with heap:=h'}) :
  wpAny (model prog w) A (Builtin.«zip.__next__» ⟨[.ref z],[]⟩) Q E s:=by
 show wpAny _ _ (field (.ref z) 2 >>= _) _ _ _
 refine Ym (Za hz rfl (x:=.bool false) rfl ?_);show wpAny _ _ (field (.ref z) 3 >>= _) _ _ _
 refine Ym (Za hz rfl (x:=.ref p) rfl ?_);refine Ym (Zg hp rfl ?_);show wpAny _ _ (Builtin.SmallTypes.ownedTupleIsFree (.ref z) >>= _) _ _ _
 refine Ym ?_;unfold Builtin.SmallTypes.ownedTupleIsFree;refine Ym (Za hz rfl (x:=.none) rfl (Yp ?_));simp only[abm];refine Ym (ZS ?_);refine Ym (Za hz rfl (x:=.ref r) rfl ?_);refine Ym (wpAny_setField_rec hz (by simp) fun g1 z1 e1=>?_)
 replace z1:IsZip g1 z p r .ellipsis:=z1
 refine Ym ?_;simp only[aaF,aaH,aaK,abi];refine Ym (Ym (aao ?_));show wpAny _ _ (Builtin.SmallTypes.nextOf (.ref j1) >>= _) _ _ _
 cases hx:vs[i]? with
 | none=>
  refine Ym (lS hh (h1.extBut e1.extBut D.pN) (l1.extBut e1.extBut D.Dk) hx fun g2 e e2 he=>?_);obtain⟨oe,qG,t5⟩:=he;have z2:IsZip g2 z p r .ellipsis:=e2 _ _ D.pN.symm z1;have BO:e≠z:=fun x=>by subst x;rw[z2]at qG;cases qG;simp at t5
  refine wpAny_setField_rec z2 (by simp) fun g3 _ e3=>q g3 e (fun c o n1 _ n3 _ x=>e3.extBut _ _ n1 (e2 _ _ n3 (e1.extBut _ _ n1 x))) ⟨oe,e3.extBut _ _ BO qG,t5⟩
 | some x=>
  have hy:ws[i]? = none:=by rcases qF with h | h;rw[hx]at h;cases h;exact h
  refine Ym (hX (h1.extBut e1.extBut D.pN) (l1.extBut e1.extBut D.Dk) hx fun g2 a2 e2=>Yp ?_);have r2:IsPair g2 r a b:=e2.extBut _ _ D.zG (e1.extBut _ _ D.rz hr);refine Ym (Zg r2 rfl ?_);refine Ym (Z5 r2 fun g3 r3 e3=>?_);refine Ym (aaU (Yp ?_));refine Ym (Ym (aao ?_));show wpAny _ _ (Builtin.SmallTypes.nextOf (.ref j2) >>= _) _ _ _
  refine Ym (lS hh (((h2.extBut e1.extBut D.uz).extBut e2.extBut D.Dy.symm).extBut e3.extBut D.zF.symm) (((l2.extBut e1.extBut D.IE).extBut e2.extBut D.xp).extBut e3.extBut D.IF) hy fun g4 e e4 he=>?_);obtain⟨oe,qG,t5⟩:=he;have z4:IsZip g4 z p r .ellipsis:=e4 _ _ D.uz.symm (e3.extBut _ _ D.rz.symm (e2.extBut _ _ D.pN.symm z1));have BO:e≠z:=fun x=>by subst x;rw[z4]at qG;cases qG;simp at t5
  refine wpAny_setField_rec z4 (by simp) fun g5 _ e5=>q g5 e (fun c o n1 n2 n3 n4 x=>e5.extBut _ _ n1 (e4 _ _ n4 (e3.extBut _ _ n2 (e2.extBut _ _ n3 (e1.extBut _ _ n1 x))))) ⟨oe,e5.extBut _ _ BO qG,t5⟩
end
def OY(K:W.Frag)(a b:Addr):It:=
  ⟨fun i H=>∃ xs ys x y,iM K H a xs∧iM K H b ys∧xs[i]? = some x∧ys[i]? = some y,
   fun i H v H'=>∃ p x y,H p=none∧v=.ref p∧H'=upd H p (.tup [x,y])∧(∀ xs,iM K H a xs→xs[i]? = some x)∧(∀ ys,iM K H b ys→ys[i]? = some y),
   fun i H=>∃ xs ys,iM K H a xs∧iM K H b ys∧(xs.length≤i∨ys.length≤i)⟩
theorem uT{P:Program}{w:World}{K:W.Frag}{elts:List Expr}{kk:Nat}{pos:Pos}(a b z p r j1 j2:Addr)(D:Apart z p r j1 j2 a b):
  Turn P w K (.Tuple elts kk pos) (OY K a b) [z,p,r,j1,j2] z (fun i h=>IsZip h z p r .none∧IsPair h p (.ref j1) (.ref j2)∧(∃ u v,IsPair h r u v)∧h.IsTupleIter j1 a i∧h.IsTupleIter j2 b i) where
 mem:=by simp
 obj:=fun i h st c hc=>by
  obtain⟨hz,hp,⟨u,v,hr⟩,⟨o1,e1,_,d1⟩,⟨o2,e2,_,d2⟩⟩:=st;simp only[Yq,Yy,Zr]at hc;rcases hc with rfl | rfl | rfl | rfl | rfl
  ·exact⟨_,hz,fun v z=>by have z':Data.fields _=Data.cell v:=z;cases z'⟩
  ·exact⟨_,hp,fun v z=>by have z':Data.seq _ _=Data.cell v:=z;cases z'⟩
  ·exact⟨_,hr,fun v z=>by have z':Data.seq _ _=Data.cell v:=z;cases z'⟩
  ·exact⟨o1,e1,fun v z=>by rw[d1]at z;cases z⟩
  ·exact⟨o2,e2,fun v z=>by rw[d2]at z;cases z⟩
 keep:=fun i h h' st k=>by
  obtain⟨hz,hp,⟨u,v,hr⟩,h1,h2⟩:=st;exact⟨k z (by simp) _ hz,k p (by simp) _ hp,⟨u,v,k r (by simp) _ hr⟩,yU h1 fun o e=>k j1 (by simp) o e,yU h2 fun o e=>k j2 (by simp) o e⟩
 item:=by
  intro X hP hw hK hc i pins s σ H E I hf st hg;subst hP hw hK;obtain⟨hz,hp,⟨u,v,hr⟩,h1,h2⟩:=st;obtain⟨xs,ys,x,y,rM,wg,hx,hy⟩:=hg;obtain⟨aA,rv,pl,_⟩:=I.tuple rM;obtain⟨fD,sT,mK,_⟩:=I.tuple wg;obtain⟨vx,ex,rx⟩:=rv.get hx;obtain⟨vy,ey,ry⟩:=sT.get hy;have hT:s.TypeIs (.ref z) "zip" :=⟨_,hz,rfl⟩;have n0:H s.heap.objs.size=none:=I.bB.fresh (Yz _);unfold pyNext;refine Ym (aar (Zh (name:=Str.ofString "__next__") hT Z8 (ZC Z8 hT abj
   (sA D hz hp hr h1 h2 pl mK (by simpa using ex) (by simpa using ey) fun g a1 a2 a3 a4 a5 a6 a7=>Yp ?_) (abd _))))
  refine⟨_,rfl,?_⟩;refine wpAny_letOwnedTupleGo_zip a1 fun g2 b1 b2=>?_;have zl:z < s.heap.objs.size:=Yr hz;have lt:∀ c∈[z,p,r,j1,j2],c < s.heap.objs.size:=fun c hc=>by
   simp only[Yq,Yy,Zr]at hc;obtain⟨_,q1,_⟩:=h1;obtain⟨_,q2,_⟩:=h2;rcases hc with rfl | rfl | rfl | rfl | rfl
   ·exact zl
   ·exact Yr hp
   ·exact Yr hr
   ·exact Yr q1
   ·exact Yr q2
  refine⟨.ref s.heap.objs.size,upd H s.heap.objs.size (.tup [x,y]),?_,rfl,⟨_,x,y,n0,rfl,rfl,fun zs yW=>by rw[I.lE yW rM];exact hx,fun zs yW=>by rw[I.lE yW wg];exact hy⟩,⟨b1,?_,⟨vx,vy,?_⟩,?_,?_⟩,fun c hc=>?_⟩
  ·refine I.iT (t':=s.toks) (ch:=[z,r,j1,j2]) (fun c o hc e=>?_) (fun c hc=>hf c ?_) (Yz _) ⟨by show 2≤sizeLine;decide,[vx,vy],.cons rx (.cons ry .nil),?_⟩
   ·simp only[Yq,Yy,Zr,not_or]at hc
    exact b2.extBut _ _ hc.1 (a7 c o hc.1 hc.2.1 hc.2.2.1 hc.2.2.2 e)
   ·simp only[Yq,Yy,Zr]at hc ⊢
    rcases hc with rfl | rfl | rfl | rfl<;>simp
   ·exact⟨_,b2.extBut _ _ (ZK zl) a5,rfl,0,rfl⟩
  ·exact b2.extBut _ _ D.pz (a7 _ _ D.pz D.pr D.PM D.PL hp)
  ·exact b2.extBut _ _ D.rz a2
  ·exact a3.extBut b2.extBut D.pN
  ·exact a4.extBut b2.extBut D.uz
  ·rw[au (YI (lt c hc))]
   exact(hf c hc).1
 done:=by
  intro X hP hw hK hc i pins s σ H E I hf st hg;subst hP hw hK;obtain⟨hz,hp,⟨u,v,hr⟩,h1,h2⟩:=st;obtain⟨xs,ys,rM,wg,he⟩:=hg;obtain⟨aA,rv,pl,_⟩:=I.tuple rM;obtain⟨fD,sT,mK,_⟩:=I.tuple wg;have l1:=rv.length;have l2:=sT.length;have qF:aA.toArray[i]? = none∨fD.toArray[i]? = none:=he.imp (fun e=>by simp;omega) (fun e=>by simp;omega);have hT:s.TypeIs (.ref z) "zip" :=⟨_,hz,rfl⟩;unfold pyNext;refine Ym (aar (Zh (name:=Str.ofString "__next__") hT Z8 (ZC Z8 hT abj
   (uF (I.ok.hd hc) D hz hp hr h1 h2 pl mK qF fun g e kk he=>?_) (abd _))))
  obtain⟨o,ho,Nd⟩:=he;refine Ym (abh (T := "StopIteration") (b:=true) ⟨o,ho,Nd⟩ isSubtype_stop ?_);refine Yp ⟨rfl,I.lD (t':=s.toks) (ch:=[z,r,j1,j2]) (fun c o hc e=>?_) (fun c hc=>hf c ?_)⟩
  ·simp only[Yq,Yy,Zr,not_or]at hc
   exact kk c o hc.1 hc.2.1 hc.2.2.1 hc.2.2.2 e
  ·simp only[Yq,Yy,Zr]at hc ⊢
   rcases hc with rfl | rfl | rfl | rfl<;>simp
 self:=fun _ _ _ _ _ st h=>abg st.1 h
abbrev IC(h:Heap)(a:Addr):Heap:=h.push {cls:=.type "tuple_iterator",data:=.fields #[.ref a,.int 0 0]}
abbrev IB(h:Heap)(a b:Addr):Heap:=(IC h a).push {cls:=.type "tuple_iterator",data:=.fields #[.ref b,.int 0 0]}
abbrev IA(h:Heap)(a b:Addr):Heap:=(IB h a b).push {cls:=.type "tuple",data:=.seq #[.ref h.objs.size,.ref (IC h a).objs.size]}
abbrev Iz(h:Heap)(a b:Addr):Heap:=(IA h a b).push {cls:=.type "tuple",data:=.seq #[.none,.none]}
abbrev Dj(h:Heap)(a b:Addr):Heap:=(Iz h a b).push {cls:=.type "zip",data:=.fields #[.none,.bool false,.bool false,.ref (IB h a b).objs.size,.ref (IA h a b).objs.size]}
theorem uE(a b:Addr)(vs ws:Array Value):
  Meets (Builtin.«zip.__new__» ⟨[.type "zip",.ref a,.ref b],[]⟩) (fun _ R s=>s.heap.IsTuple a vs∧s.heap.IsTuple b ws∧R (.ok (.ret (.ref (Iz s.heap a b).objs.size))) {s with heap:=Dj s.heap a b}):=
 .of_wp fun prog w A R s h=>by
  obtain⟨hp,g,d,tk,os⟩:=s;obtain⟨la,lb,h⟩:=h;have MI:=sub_zip;have L1:Heap.IsTuple (Shared.heap ⟨hp,g,d,tk,os⟩) a vs:=la;have L2:Heap.IsTuple (Shared.heap ⟨hp.push {cls:=.type "tuple_iterator",data:=.fields #[.ref a,.int 0 0]},g,d,tk,os⟩) b ws:=Heap.IsTuple.push lb _
  wp_walk using wpAny_pyIter_tuple L1,wpAny_pyIter_tuple L2
  exact⟨_,rfl,h⟩
theorem uj{prog:Program}{w:World}{A:Around}{E:Value→Shared→Prop}{s:Shared}{a b:Addr}{vs ws:Array Value}{Q:Value→Shared→Prop}(la:s.heap.IsTuple a vs)(lb:s.heap.IsTuple b ws)
  (q:∀ h',IsZip h' (s.heap.objs.size+4) (s.heap.objs.size+2) (s.heap.objs.size+3) .none→IsPair h' (s.heap.objs.size+2) (.ref s.heap.objs.size) (.ref (s.heap.objs.size+1)) →
   IsPair h' (s.heap.objs.size+3) .none .none→h'.IsTupleIter s.heap.objs.size a 0→h'.IsTupleIter (s.heap.objs.size+1) b 0→(∀ c o,s.heap.get? c=some o→h'.get? c=some o)→Q (.ref (s.heap.objs.size+4)) {s with heap:=h'}) :
  wpAny (model prog w) A (call (.type "zip") [.ref a,.ref b]) Q E s:=by
 refine callType_new F.called_zip (by decide) (F.typeCall_zip_2 _ _) (F.newCall_zip_2 _ _) (fun obj=>F.args_object_init_3 obj _ _) F.entry_zip_new (uE a b vs ws) ⟨la,lb,?_⟩;have z1:(IC s.heap a).objs.size=s.heap.objs.size+1:=Zt ..;have z2:(IB s.heap a b).objs.size=s.heap.objs.size+2:=by rw[Zt,z1]
 have z3:(IA s.heap a b).objs.size=s.heap.objs.size+3:=by rw[Zt,z2]
 have z4:(Iz s.heap a b).objs.size=s.heap.objs.size+4:=by rw[Zt,z3]
 have g5:(Dj s.heap a b).get? (Iz s.heap a b).objs.size=some _:=YB _ rfl;have g4:(Dj s.heap a b).get? (IA s.heap a b).objs.size=some _:=Yn _ (YB _ rfl);have g3:(Dj s.heap a b).get? (IB s.heap a b).objs.size=some _:=Yn _ (Yn _ (YB _ rfl));have g2:(Dj s.heap a b).get? (IC s.heap a).objs.size=some _:=Yn _ (Yn _ (Yn _ (YB _ rfl)));have g1:(Dj s.heap a b).get? s.heap.objs.size=some _:=Yn _ (Yn _ (Yn _ (Yn _ (YB _ rfl))));show _∧_
 rw[z2,z3,z4]at g5;rw[z1,z2]at g3;rw[z3]at g4;rw[z1]at g2;rw[z4];exact⟨⟨_,g5,rfl⟩,q _ g5 g3 g4 ⟨_,g1,rfl,rfl⟩ ⟨_,g2,rfl,rfl⟩ fun c o x=>Yn _ (Yn _ (Yn _ (Yn _ (Yn _ x))))⟩
theorem apart_new{n a b:Addr}(ha:a < n)(hb:b < n):Apart (n+4) (n+2) (n+3) n (n+1) a b:=by
 have ne:∀ i j:Nat,i≠j→(Nat.add n i:Addr)≠Nat.add n j:=fun i j h e=>h (Nat.add_left_cancel e);have lo:∀(c:Addr) (i:Nat),c < n→c≠Nat.add n i:=fun c i h=>YI (YQ h (Z6 n i));exact⟨ne 2 4 (by decide),ne 3 4 (by decide),ne 0 4 (by decide),ne 1 4 (by decide),ne 2 3 (by decide),ne 2 0 (by decide),ne 2 1 (by decide),ne 3 0 (by decide),ne 3 1 (by decide),ne 0 1 (by decide),
  lo a 4 ha,lo a 3 ha,lo a 0 ha,lo a 1 ha,lo b 4 hb,lo b 3 hb,lo b 0 hb,lo b 1 hb⟩
section
variable {X:Cx}{elts:List Expr}{kk:Nat}{eO:Pos}
def Mz(K:W.Frag)(ta:TA):TI:=fun σ H R=>ta σ H fun vs H1=>∃ a b xs ys,vs=[.ref a,.ref b]∧iM K H1 a xs∧iM K H1 b ys∧R (OY K a b) H1
theorem Bl{a b:Expr}{ta:TA}{p pos:Pos}(hg:Gl X "zip")(hm:X.mg "zip" = none)(ha:PA X [a,b] ta)(hs:starEach [a,b] X.env=[(false,eval a X.env),(false,eval b X.env)]:=by rfl)(js:starEach [b] X.env=[(false,eval b X.env)]:=by rfl):
  PI X (.Tuple elts kk eO) (.Call (.Name "zip" p) [a,b] [] pos) (Mz X.K ta):=by
 refine .mk ?_;intro pins s σ H R I h;refine Call_ (fY I hg hm boot_zip (Zv (bL (ha pos pins s σ H _ I h) fun us s1 ⟨vs,H1,I1,r1,q1⟩=>?_) (by rw[hs,js]) (by rw[js];rfl)));obtain⟨u1,u2,xs,ys,e,hx,hy,q⟩:=q1;subst e;cases r1 with
 | cons r rr=>
  cases rr with
  | cons r' rr=>
   cases rr;cases r;cases r';obtain⟨aA,rv,pl,_⟩:=I1.tuple hx;obtain⟨fD,sT,mK,_⟩:=I1.tuple hy;obtain⟨o1,e1,_⟩:=id pl;obtain⟨o2,e2,_⟩:=id mK;refine uj pl mK fun h' hz hp hr j1 j2 k=>?_;refine abg hz ?_;refine⟨s1.heap.objs.size+4,[s1.heap.objs.size+4,s1.heap.objs.size+2,s1.heap.objs.size+3,s1.heap.objs.size,s1.heap.objs.size+1],_,_,H1,rfl,I1.kept (t':=s1.toks) k,uT u1 u2 _ _ _ _ _ (apart_new (Yr e1) (Yr e2)),⟨hz,hp,⟨_,_,hr⟩,j1,j2⟩,fun c hc=>?_,q⟩;have wu:s1.heap.objs.size≤c:=by
    simp only[Yq,Yy,Zr]at hc;rcases hc with rfl | rfl | rfl | rfl | rfl<;>first | exact Yz _ | exact Z6 _ _
   exact I1.oV wu (I1.bB.fresh wu)
end
section
variable {own:List Str}{cap:List (Nat×Str)}{σ:St}{H1:Hp}{D:Addr}{g:TG}{tc:TT}{te:TE}{QD:Hp→Prop}{K:W.Frag}{a b:Addr}{xs ys:List V}
end
end L2
namespace L2
open PySem PySem.Spec PyProof.Rows PySem.W PySem.Calls PySem.Builtin PySem.Builtin.ObjectAttr PySem.Builtin.Getset_descriptor
section
variable {K:Frag}{x D:Addr}
variable {prog:Program}{w:World}{A:Around}{E:Value→Shared→Prop}{s:Shared}
end
end L2
namespace L2
open PySem PySem.Spec PyProof.Rows
section
variable {X:Cx}{pins:List (Addr×Obj)}{σ:St}{H:Hp}{s:Shared}{scope:Scope}{cl:List (Str×Addr)}{own:List Str}{cap:List (Nat×Str)}{fp:List Addr}{E:Value→Shared→Prop}
end
def more(S:Str→Bool)(n:Nat)(k:Str):Nat:=if S k then n else n+1
section
variable {X:Cx}{scope:Scope}{cl:List (Str×Addr)}{own:List Str}{cap:List (Nat×Str)}{tg iter elt:Expr}{wi:TI}{g:TG}{te:TE}{pos:Pos}
end
section
variable {P:Program}{w:World}{K:W.Frag}{a:Addr}{xs:List V}{g:TG}{te:TE}{own:List Str}{cap:List (Nat×Str)}{σ:St}{H1:Hp}{QD:Hp→Prop}{D:Addr}
end
section
variable {X:Cx}
end
section
variable {X:Cx}{elts:List Expr}{kk:Nat}{eO:Pos}
end
section
variable {prog:Program}{w:World}{A:Around}{E:Value→Shared→Prop}{s:Shared}
end
section
variable {X:Cx}{pins:List (Addr×Obj)}{σ:St}{H:Hp}{s:Shared}{z p r j1 j2 u1 u2 t:Addr}{xs ys:List V}
theorem eX.upd{b T:Addr}{o:HO}(h:eX X pins H b)(n:b≠T):eX X pins (L2.upd H T o) b:=⟨by rw[au n];exact h.1,h.2⟩
end
section
variable {X:Cx}{pins:List (Addr×Obj)}{σ:St}{H:Hp}{s:Shared}{z p r j1 j2 u1 u2:Addr}{xs ys:List V}
end
section
variable {X:Cx}{a b:Expr}{ta:TA}{p1 p2 Sy Sx:Pos}
end
section
variable {X:Cx}
theorem vL(hu:X.A.units < cLine):gJ X (compareOp .Eq) (fun x y H Q=>∃ a b xs,x=.ref a∧y=.ref b∧dF X.K H a xs∧dF X.K H b []∧Q (.bl xs.isEmpty) H):=by
 intro pins s σ H x y v u Q I rx ry h;obtain⟨a,b,xs,rfl,rfl,ha,hb,q⟩:=h;cases rx;cases ry;obtain⟨aA,rv,pl,hz⟩:=I.list ha;obtain⟨fD,sT,mK,UM⟩:=I.list hb;cases sT;cases xs with
 | nil=>
  cases rv;exact SeqAt.eq_listAt (e:=fun _=>true) pl.isList mK.isList rfl hu (fun j h1 _=>absurd h1 (by simp)) ⟨.bl true,H,I,rfl,q⟩
 | cons x r=>
  cases rv with
  | cons r1 r2=>exact SeqAt.eq_list_lengthsAt pl.isList mK.isList (by simp) hu ⟨.bl false,H,I,rfl,q⟩
end
def OS(H:Hp)(P:Addr)(q:Str)(pos:Pos):Prop:=H P=some (.tbl #[])∨∃(c':Addr) (oc:Obj) (vs:Array Value) (t:Tok) (u:HO),
 H P=some (.tbl #[rawInt pos.line,rawInt pos.col,.ref c'])∧H c'=some (.frz oc u)∧oc.data=.fields vs∧vs[1]? = some (.str q t)
section
variable {X:Cx}{params:Arguments}{body:Expr}{scope:Scope}{pos:Pos}{c P:Addr}
end
section
variable {X:Cx}{pins:List (Addr×Obj)}{σ:St}{H:Hp}{s s':Shared}
end
section
variable {X:Cx}{pins:List (Addr×Obj)}{σ:St}{H:Hp}{s s1:Shared}{A:Around}{a kS:Addr}{vs:List Value}{zs:List Str}{f:Value}{E:Value→Shared→Prop}{keys:Array Value}{e e1:Nat}{Pp:PySem.Fin→Shared→Prop}
end
end L2
namespace L3
open PySem PySem.Spec L2
open PyProof.Rows hiding St
inductive T where
 | non | bl (b:Bool) | int (i:Int) | str (z:Str) | tup (ts:List T) | ref (a:Addr) | ty (n:String)
 /-- a list D6 LR changes (rg p7) -/
 | scr (K:W.Frag) (a:Addr) (ts:List T)
def zp(K:W.Frag)(H:Hp)(a:Addr)(vs:List V):Prop:=(∃ o,H a=some (.frz o (.lst vs))) ∨
 ∃(o:Obj) (aA:Array Value) (n:Nat),K.lookup a=some o∧o.cls=.type "list" ∧ o.dict=none∧o.data=.seq aA n∧aA.size≤sizeLine∧Vals vs aA.toList
inductive O where
 | lst (ts:List T)
 | ins (C dx:Addr) (fs:List (Str×T))
 | own (x:Addr)
 | dK (ak:List (Key×T))
 | ext (φ:Heap→Prop)
 /-- rg table of a def D6 makes a Mc -/
 | lam (q:Str) (pos:Pos)
abbrev Gp:=Addr→Option O
def up(Γ:Gp)(a:Addr)(o:O):Gp:=fun b=>if b=a then some o else Γ b
theorem bt{Γ:Gp}{a:Addr}{o:O}:up Γ a o a=some o:=by unfold up;rw[YV rfl]
theorem eN{Γ:Gp}{a b:Addr}{o:O}(h:b≠a):up Γ a o b=Γ b:=by unfold up;rw[YN h]
theorem uC{Γ:Gp}{a b:Addr}{o u:O}(h:Γ a=some o)(h':Γ b=some u)(d:o≠u):a≠b:=by
 intro e;subst e;rw[h]at h';exact d (Y5 h')
theorem jD{Γ:Gp}{a b:Addr}{o:O}(h:Γ a=some o)(h':Γ b=none):a≠b:=by
 intro e;subst e;rw[h]at h';cases h'
section
mutual
def R(H:Hp):V→T→Prop
 | v,.non=>v=.non
 | v,.bl b=>v=.bl b
 | v,.int i=>v=.int i
 | v,.str z=>v=.str z
 | v,.ref a=>v=.ref a
 | v,.ty n=>v=.ty n
 | v,.tup ts=>∃ a vs,v=.ref a∧H a=some (.tup vs)∧Rs H vs ts
 | v,.scr K a ts=>v=.ref a∧∃ vs,zp K H a vs∧Rs H vs ts
def Rs(H:Hp):List V→List T→Prop
 | vs,[]=>vs=[]
 | vs,t::r=>∃ v ws,vs=v::ws∧R H v t∧Rs H ws r
end
def Tq(H H':Hp):Prop:=(∀ a vs,H a=some (.tup vs)→H' a=some (.tup vs))∧∀ a o u,H a=some (.frz o u)→H' a=some (.frz o u)
end
section
variable {H H':Hp}
theorem Tq.refl:Tq H H:=⟨fun _ _ h=>h,fun _ _ _ h=>h⟩
theorem Tq.trans{H1:Hp}(a:Tq H H1)(b:Tq H1 H'):Tq H H':=⟨fun x vs h=>b.1 x vs (a.1 x vs h),fun x o u h=>b.2 x o u (a.2 x o u h)⟩
theorem zp.mono(t:Tq H H'){K:W.Frag}{a:Addr}{vs:List V}(h:zp K H a vs):zp K H' a vs:=by
 rcases h with⟨o,h⟩ | h
 ·exact .inl ⟨o,t.2 _ _ _ h⟩
 ·exact .inr h
mutual
theorem R.mono(t:Tq H H'):∀{x:T} {v:V},R H v x→R H' v x
 | .non,v,h=>by unfold R at h ⊢;exact h
 | .bl _,v,h=>by unfold R at h ⊢;exact h
 | .int _,v,h=>by unfold R at h ⊢;exact h
 | .str _,v,h=>by unfold R at h ⊢;exact h
 | .ref _,v,h=>by unfold R at h ⊢;exact h
 | .ty _,v,h=>by unfold R at h ⊢;exact h
 | .tup ts,v,h=>by
  unfold R at h ⊢;obtain⟨a,vs,e,s,q⟩:=h;exact⟨a,vs,e,t.1 a vs s,Rs.mono t q⟩
 | .scr K a ts,v,h=>by
  unfold R at h ⊢;obtain⟨e,vs,s,q⟩:=h;exact⟨e,vs,s.mono t,Rs.mono t q⟩
theorem Rs.mono(t:Tq H H'):∀{xs:List T} {vs:List V},Rs H vs xs→Rs H' vs xs
 | [],vs,h=>by unfold Rs at h ⊢;exact h
 | x::r,vs,h=>by
  unfold Rs at h ⊢;obtain⟨v,ws,e,p,q⟩:=h;exact⟨v,ws,e,R.mono t p,Rs.mono t q⟩
end
theorem Rs.length:∀{xs:List T} {vs:List V},Rs H vs xs→vs.length=xs.length
 | [],vs,h=>by unfold Rs at h;subst h;rfl
 | x::r,vs,h=>by
  unfold Rs at h;obtain⟨v,ws,e,_,q⟩:=h;rw[e,YF,YF,Rs.length q]
theorem Rs.get:∀{xs:List T} {vs:List V} {i:Nat} {x:T},Rs H vs xs→xs[i]? = some x→∃ v,vs[i]? = some v∧R H v x
 | [],vs,i,x,h,e=>by simp at e
 | y::r,vs,i,x,h,e=>by
  unfold Rs at h;obtain⟨v,ws,e1,p,q⟩:=h;subst e1;cases i with
  | zero=>cases e;exact⟨v,rfl,p⟩
  | succ i=>exact Rs.get (i:=i) q e
theorem Rs.t7{xs:List T}{vs:List V}{i:Nat}{v:V}(h:Rs H vs xs)(e:vs[i]? = some v):∃ x,xs[i]? = some x∧R H v x:=by
 have hl:=h.length;obtain⟨hi,_⟩:=YO.mp e;have fE:i < xs.length:=by omega
 obtain⟨v',e',r⟩:=h.get (i:=i) (x:=xs[i]) (by simp[fE]);rw[e]at e';cases e';exact⟨xs[i],by simp[fE],r⟩
theorem Rs.app:∀{xs ys:List T} {vs ws:List V},Rs H vs xs→Rs H ws ys→Rs H (vs++ws) (xs++ys)
 | [],ys,vs,ws,h,h'=>by unfold Rs at h;subst h;exact h'
 | x::r,ys,vs,ws,h,h'=>by
  unfold Rs at h;obtain⟨v,us,e,p,q⟩:=h;subst e;show Rs H (v::(us++ws)) (x::(r++ys))
  unfold Rs;exact⟨v,_,rfl,p,Rs.app q h'⟩
theorem bT:Rs H [] []:=by unfold Rs;rfl
theorem aY{v:V}{x:T}{vs:List V}{xs:List T}(a:R H v x)(b:Rs H vs xs):Rs H (v::vs) (x::xs):=by
 unfold Rs;exact⟨v,vs,rfl,a,b⟩
theorem cV{vs:List V}{x:T}{xs:List T}(h:Rs H vs (x::xs)):∃ v ws,vs=v::ws∧R H v x∧Rs H ws xs:=by unfold Rs at h;exact h
theorem ck{vs:List V}(h:Rs H vs []):vs=[]:=by unfold Rs at h;exact h
theorem Rs.drop:∀{xs:List T} {vs:List V} (n:Nat),Rs H vs xs→Rs H (vs.drop n) (xs.drop n)
 | xs,vs,0,h=>h
 | [],vs,n+1,h=>by rw[ck h];exact bT
 | x::r,vs,n+1,h=>by
  obtain⟨v,ws,e,_,q⟩:=cV h;subst e;exact Rs.drop n q
theorem Rs.take:∀{xs:List T} {vs:List V} (n:Nat),Rs H vs xs→Rs H (vs.take n) (xs.take n)
 | xs,vs,0,h=>by rw[List.take_zero,List.take_zero];exact bT
 | [],vs,n+1,h=>by rw[ck h];exact bT
 | x::r,vs,n+1,h=>by
  obtain⟨v,ws,e,p,q⟩:=cV h;subst e;exact aY p (Rs.take n q)
theorem Rs.set:∀{xs:List T} {vs:List V} {v:V} {x:T} (n:Nat),Rs H vs xs→R H v x→Rs H (vs.set n v) (xs.set n x)
 | [],vs,v,x,n,h,p=>by rw[ck h];exact bT
 | y::r,vs,v,x,0,h,p=>by
  obtain⟨u,ws,e,_,q⟩:=cV h;subst e;exact aY p q
 | y::r,vs,v,x,n+1,h,p=>by
  obtain⟨u,ws,e,p',q⟩:=cV h;subst e;exact aY p' (Rs.set n q p)
end
def Fs(H:Hp):List (Str×V)→List (Str×T)→Prop:=Paired fun(p:Str×V) (q:Str×T)=>p.1=q.1∧R H p.2 q.2
def Ks(H:Hp):List (Key×V)→List (Key×T)→Prop:=Paired fun(p:Key×V) (q:Key×T)=>p.1=q.1∧R H p.2 q.2
theorem hW{α β:Type}{P Q:α→β→Prop}(h:∀ a b,P a b→Q a b):∀{xs:List α} {ys:List β},Paired P xs ys→Paired Q xs ys
 | _,_,.nil=>.nil
 | _,_,.cons a b=>.cons (h _ _ a) (hW h b)
theorem Fs.mono{H H':Hp}(t:Tq H H'){a:List (Str×V)}{b:List (Str×T)}(h:Fs H a b):Fs H' a b:=hW (fun _ _ q=>⟨q.1,q.2.mono t⟩) h
theorem Ks.mono{H H':Hp}(t:Tq H H'){a:List (Key×V)}{b:List (Key×T)}(h:Ks H a b):Ks H' a b:=hW (fun _ _ q=>⟨q.1,q.2.mono t⟩) h
def Ho(H:Hp)(a:Addr):O→Prop
 | .lst ts=>∃ vs,H a=some (.lst vs)∧Rs H vs ts
 | .ins C dx fs=>∃ gs,H a=some (.ins C dx gs)∧Fs H gs fs
 | .own x=>H a=some (.own x)
 | .dK ak=>∃ us,H a=some (.dK us)∧Ks H us ak
 | .ext φ=>H a=some (.ext φ)
 | .lam q pos=>OS H a q pos
def HR(H:Hp)(Γ:Gp):Prop:=∀ a o,Γ a=some o→Ho H a o
structure dw(H:Hp)(Γ:Gp)(H':Hp)(Γ':Gp):Prop where
 tq:Tq H H'
 CO:∀ a,H a≠none→H' a≠none
 new:∀ a,H a≠none→Γ a=none→Γ' a=none
 CH:∀ a o,H a=some o→Γ a=none→H' a=some o
section
variable {H H' H1:Hp}{Γ Γ' Γ1:Gp}
theorem dw.refl:dw H Γ H Γ:=⟨.refl,fun _ h=>h,fun _ _ h=>h,fun _ _ h _=>h⟩
theorem dw.trans(a:dw H Γ H1 Γ1)(b:dw H1 Γ1 H' Γ'):dw H Γ H' Γ':=
 ⟨a.tq.trans b.tq,fun x h=>b.CO x (a.CO x h),fun x h g=>b.new x (a.CO x h) (a.new x h g),fun x o h g=>b.CH x o (a.CH x o h g) (a.new x (by rw[h];exact fun z=>(nomatch z)) g)⟩
theorem Ho.mono{a:Addr}{o:O}(t:Tq H H')(e:∀ u,H a=some u→H' a=some u)(h:Ho H a o):Ho H' a o:=by
 cases o with
 | lst ts=>obtain⟨vs,h,r⟩:=h;exact⟨vs,e _ h,r.mono t⟩
 | ins C dx fs=>obtain⟨vs,h,r⟩:=h;exact⟨vs,e _ h,r.mono t⟩
 | own x=>exact e _ h
 | dK ak=>obtain⟨vs,h,r⟩:=h;exact⟨vs,e _ h,r.mono t⟩
 | ext φ=>exact e _ h
 | lam q pos=>
  rcases h with h | ⟨c',oc,vs,t',u,h1,h2,h3⟩
  ·exact .inl (e _ h)
  ·exact .inr ⟨c',oc,vs,t',u,e _ h1,t.2 _ _ _ h2,h3⟩
theorem Ho.some{a:Addr}{o:O}(h:Ho H a o):∃ u,H a=some u∧(∀ vs:List V,u≠.tup vs)∧∀ b w,u≠.frz b w:=by
 cases o with
 | lst ts=>obtain⟨vs,h,r⟩:=h;exact⟨_,h,⟨fun _ z=>(nomatch z),fun _ _ z=>(nomatch z)⟩⟩
 | ins C dx fs=>obtain⟨vs,h,r⟩:=h;exact⟨_,h,⟨fun _ z=>(nomatch z),fun _ _ z=>(nomatch z)⟩⟩
 | own x=>exact⟨_,h,⟨fun _ z=>(nomatch z),fun _ _ z=>(nomatch z)⟩⟩
 | dK ak=>obtain⟨vs,h,r⟩:=h;exact⟨_,h,⟨fun _ z=>(nomatch z),fun _ _ z=>(nomatch z)⟩⟩
 | ext φ=>exact⟨_,h,⟨fun _ z=>(nomatch z),fun _ _ z=>(nomatch z)⟩⟩
 | lam q pos=>
  rcases h with h | ⟨c',oc,vs,t',u,h,_⟩
  ·exact⟨_,h,⟨fun _ z=>(nomatch z),fun _ _ z=>(nomatch z)⟩⟩
  ·exact⟨_,h,⟨fun _ z=>(nomatch z),fun _ _ z=>(nomatch z)⟩⟩
theorem HR.free(h:HR H Γ){a:Addr}(n:H a=none):Γ a=none:=by
 cases e:Γ a with
 | none=>rfl
 | some o=>
  obtain⟨u,hu,_⟩:=(h a o e).some;rw[n]at hu;cases hu
theorem cU(k:∀ b o,H b=some o→H' b=some o):Tq H H':=⟨fun a vs h=>k _ _ h,fun a o u h=>k _ _ h⟩
theorem dw.keep(k:∀ b o,H b=some o→H' b=some o):dw H Γ H' Γ:=
 ⟨cU k,fun a h z=>by
  cases e:H a with
  | none=>exact h e
  | some o=>exact(by rw[k a o e]at z;cases z),fun _ _ h=>h,fun a o h _=>k a o h⟩
theorem HR.keep(h:HR H Γ)(k:∀ b o,H b=some o→H' b=some o):HR H' Γ:=fun a o e=>(h a o e).mono (cU k) (k a)
theorem bA{p:Addr}{o:HO}(h:H p=none):∀ b u,H b=some u→upd H p o b=some u:=fun b u q=>by rw[au (aP q h)];exact q
theorem dw.make{p:Addr}{o:HO}{o3:O}(h:H p=none):dw H Γ (upd H p o) (up Γ p o3):=by
 refine⟨cU (bA h),fun a q z=>?_,fun a q g=>?_,fun a u q _=>bA h a u q⟩
 ·by_cases e:a=p
  ·subst e;exact q h
  ·rw[au e]at z;exact q z
 ·have e:a≠p:=fun e=>q (by rw[e];exact h)
  rw[eN e];exact g
theorem HR.make(hr:HR H Γ){p:Addr}{o:HO}{o3:O}(h:H p=none)(k:Ho (upd H p o) p o3):HR (upd H p o) (up Γ p o3):=fun a u e=>by
 by_cases z:a=p
 ·subst z;rw[bt]at e;cases e;exact k
 ·rw[eN z]at e
  exact(hr a u e).mono (cU (bA h)) fun _ q=>by rw[au z];exact q
theorem gX{a:Addr}{o u:HO}(h:H a=some u)(n:(∀ vs:List V,u≠.tup vs)∧∀ b w,u≠.frz b w):Tq H (upd H a o):=⟨fun x vs q=>by
 have:x≠a:=fun e=>by subst e;rw[h]at q;exact n.1 vs (Y5 q)
 rw[au this];exact q,fun x b w q=>by
 have:x≠a:=fun e=>by subst e;rw[h]at q;exact n.2 b w (Y5 q)
 rw[au this];exact q⟩
theorem dw.set{a:Addr}{o:HO}{o2 o3:O}(hr:HR H Γ)(g:Γ a=some o2):dw H Γ (upd H a o) (up Γ a o3):=by
 obtain⟨u,hu,n⟩:=(hr a o2 g).some;refine⟨gX hu n,fun x q z=>?_,fun x q g'=>?_,fun x w q g'=>?_⟩
 ·by_cases e:x=a
  ·subst e;rw[az]at z;cases z
  ·rw[au e]at z;exact q z
 ·have e:x≠a:=fun e=>by subst e;rw[g]at g';cases g'
  rw[eN e];exact g'
 ·have e:x≠a:=fun e=>by subst e;rw[g]at g';cases g'
  rw[au e];exact q
theorem HR.set{a:Addr}{o:HO}{o2 o3:O}(hr:HR H Γ)(g:Γ a=some o2)(k:Ho (upd H a o) a o3):HR (upd H a o) (up Γ a o3):=fun x u e=>by
 obtain⟨w,hw,n⟩:=(hr a o2 g).some;by_cases z:x=a
 ·subst z;rw[bt]at e;cases e;exact k
 ·rw[eN z]at e
  exact(hr x u e).mono (gX hw n) fun _ q=>by rw[au z];exact q
theorem HR.hide{a:Addr}{o u:HO}(hr:HR H Γ)(g:Γ a=none)(h:H a=some u)(n:(∀ vs:List V,u≠.tup vs)∧∀ b w,u≠.frz b w):HR (upd H a o) Γ:=fun x w e=>by
 have z:x≠a:=fun z=>by subst z;rw[g]at e;cases e
 exact(hr x w e).mono (gX h n) fun _ q=>by rw[au z];exact q
end
abbrev S3:=List (Option T)
abbrev X3:=S3→Value→Gp→Prop
abbrev K3:=T→Gp→Prop
abbrev E3:=X3→S3→Gp→K3→Prop
abbrev T3:=X3→S3→Gp→(Bool→Gp→Prop)→Prop
abbrev A3:=X3→S3→Gp→(List T→Gp→Prop)→Prop
structure D3 where
 nx:S3→Gp→Prop
 rt:K3
 bk:S3→Gp→Prop:=fun _ _=>False
 ct:S3→Gp→Prop:=fun _ _=>False
abbrev C3:=X3→D3→S3→Gp→Prop
def Ip(H:Hp):Option V→Option T→Prop
 | _,none=>True
 | some v,some x=>R H v x
 | none,some _=>False
def RS(H:Hp):St→S3→Prop
 | [],[]=>True
 | v::r,x::q=>Ip H v x∧RS H r q
 | _,_=>False
section
variable {H H':Hp}{Γ Γ':Gp}
theorem Ip.mono(t:Tq H H'){v:Option V}{x:Option T}(h:Ip H v x):Ip H' v x:=by
 cases x with
 | none=>exact trivial
 | some x=>cases v with
  | none=>exact h.elim
  | some v=>exact R.mono t h
theorem RS.mono(t:Tq H H'):∀{σ:St} {τ:S3},RS H σ τ→RS H' σ τ
 | [],[],_=>trivial
 | _::_,_::_,h=>⟨h.1.mono t,RS.mono t h.2⟩
 | [],_::_,h=>h.elim
 | _::_,[],h=>h.elim
theorem RS.get:∀{σ:St} {τ:S3} {i:Nat} {x:T},RS H σ τ→τ[i]? = some (some x)→∃ v,σ[i]? = some (some v)∧R H v x
 | [],[],i,x,_,e=>by simp at e
 | v::r,y::q,i,x,h,e=>by
  cases i with
  | zero=>
   cases e;cases v with
   | none=>exact h.1.elim
   | some v=>exact⟨v,rfl,h.1⟩
  | succ i=>exact RS.get (i:=i) h.2 e
 | [],_::_,_,_,h,_=>h.elim
 | _::_,[],_,_,h,_=>h.elim
theorem RS.set{v:V}{x:T}(r:R H v x):∀{σ:St} {τ:S3} (i:Nat),RS H σ τ→RS H (σ.set i (some v)) (τ.set i (some x))
 | [],[],_,_=>trivial
 | _::_,_::_,0,h=>⟨r,h.2⟩
 | _::_,_::_,i+1,h=>⟨h.1,RS.set r i h.2⟩
 | [],_::_,_,h=>h.elim
 | _::_,[],_,h=>h.elim
def XR(H:Hp)(Γ:Gp)(Y:X3)(E:St→XK):Prop:=∀ σ τ C H' Γ',dw H Γ H' Γ'→HR H' Γ'→RS H' σ τ→Y τ C Γ'→E σ C none H'
theorem XR.mono{Y:X3}{E:St→XK}(x:XR H Γ Y E)(s:dw H Γ H' Γ'):XR H' Γ' Y E:=fun σ τ C H2 Γ2 s2 h2 r y=>x σ τ C H2 Γ2 (s.trans s2) h2 r y
def VR(H:Hp)(Γ:Gp)(Z:K3)(Q:VK):Prop:=∀ v x H' Γ',dw H Γ H' Γ'→HR H' Γ'→R H' v x→Z x Γ'→Q v H'
theorem VR.mono{Z:K3}{Q:VK}(x:VR H Γ Z Q)(s:dw H Γ H' Γ'):VR H' Γ' Z Q:=fun v x' H2 Γ2 s2 h2 r y=>x v x' H2 Γ2 (s.trans s2) h2 r y
def NR(H:Hp)(Γ:Gp)(Z:S3→Gp→Prop)(Q:St→Hp→Prop):Prop:=∀ σ τ H' Γ',dw H Γ H' Γ'→HR H' Γ'→RS H' σ τ→Z τ Γ'→Q σ H'
theorem NR.mono{Z:S3→Gp→Prop}{Q:St→Hp→Prop}(x:NR H Γ Z Q)(s:dw H Γ H' Γ'):NR H' Γ' Z Q:=fun v x' H2 Γ2 s2 h2 r y=>x v x' H2 Γ2 (s.trans s2) h2 r y
structure DR(H:Hp)(Γ:Gp)(Z:D3)(Q:Ends):Prop where
 nx:NR H Γ Z.nx Q.nx
 rt:VR H Γ Z.rt Q.rt
 bk:NR H Γ Z.bk Q.bk
 ct:NR H Γ Z.ct Q.ct
theorem DR.mono{Z:D3}{Q:Ends}(x:DR H Γ Z Q)(s:dw H Γ H' Γ'):DR H' Γ' Z Q:=⟨x.nx.mono s,x.rt.mono s,x.bk.mono s,x.ct.mono s⟩
end
section
variable (E:St→XK)
def bH(t:E3):TE:=fun σ H Q=>∃ τ Γ Y Z,RS H σ τ∧HR H Γ∧t Y τ Γ Z∧VR H Γ Z Q∧XR H Γ Y E
def iN(t:T3):TT:=fun σ H Q=>∃ τ Γ Y Z,RS H σ τ∧HR H Γ∧t Y τ Γ Z∧(∀ b H' Γ',dw H Γ H' Γ'→HR H' Γ'→Z b Γ'→Q b H')∧XR H Γ Y E
def lU(t:A3):TA:=fun σ H Q=>∃ τ Γ Y Z,RS H σ τ∧HR H Γ∧t Y τ Γ Z∧(∀ vs xs H' Γ',dw H Γ H' Γ'→HR H' Γ'→Rs H' vs xs→Z xs Γ'→Q vs H')∧XR H Γ Y E
def gQ(t:C3):TS:=fun D σ H=>∃ τ Γ Y Z,RS H σ τ∧HR H Γ∧t Y Z τ Γ∧DR H Γ Z D∧XR H Γ Y E
end
section
variable {X:Cx}{E:St→XK}
theorem ik{e:Expr}{t t':TE}(h:PE X e t)(w:∀ σ H Q,t' σ H Q→t σ H Q):PE X e t':=⟨fun pins s σ H Q I q=>h.run pins s σ H Q I (w _ _ _ q)⟩
theorem qZ{e:Expr}{t t':TT}(h:PT X e t)(w:∀ σ H Q,t' σ H Q→t σ H Q):PT X e t':=⟨fun pins s σ H Q I q=>h.run pins s σ H Q I (w _ _ _ q)⟩
theorem DX{e:Expr}{t t':TT}(h:PW X e t)(w:∀ σ H Q,t' σ H Q→t σ H Q):PW X e t':=⟨fun wh pins s σ H Q I q=>h.run wh pins s σ H Q I (w _ _ _ q)⟩
theorem D1{e:List Expr}{t t':TA}(h:PA X e t)(w:∀ σ H Q,t' σ H Q→t σ H Q):PA X e t':=⟨fun pos pins s σ H Q I q=>h.run pos pins s σ H Q I (w _ _ _ q)⟩
theorem uL{e:Stmt}{t t':TS}(h:PS X e t)(w:∀ D σ H,t' D σ H→t D σ H):PS X e t':=⟨fun pins s σ H D I q=>h.run pins s σ H D I (w _ _ _ q)⟩
theorem Ao{e:List Stmt}{t t':TS}(h:gI X e t)(w:∀ D σ H,t' D σ H→t D σ H):gI X e t':=⟨fun pins s σ H D I q=>h.run pins s σ H D I (w _ _ _ q)⟩
theorem D0{e:Expr}{t t':TG}(h:PG X e t)(w:∀ v σ H Q,t' v σ H Q→t v σ H Q):PG X e t':=⟨fun pins s σ H v u Q I r q=>h.run pins s σ H v u Q I r (w _ _ _ _ q)⟩
theorem Aq{e:List Expr}{t t':wV}(h:sx X e t)(w:∀ v σ H Q,t' v σ H Q→t v σ H Q):sx X e t':=⟨fun pins s σ H v u Q I r q=>h.run pins s σ H v u Q I r (w _ _ _ _ q)⟩
theorem DZ{tg e:Expr}{t t':TI}(h:PI X tg e t)(w:∀ σ H Q,t' σ H Q→t σ H Q):PI X tg e t':=⟨fun pins s σ H Q I q=>h.run pins s σ H Q I (w _ _ _ q)⟩
theorem Am{e:List Expr}{t t':TT}(h:pQ X e t)(w:∀ σ H Q,t' σ H Q→t σ H Q):pQ X e t':=⟨fun pins s σ H Q I q=>h.run pins s σ H Q I (w _ _ _ q)⟩
theorem cj{e:Expr}{t0:TE}{t:E3}(h:PE X e t0)(w:∀ σ H Q τ Γ Y Z,RS H σ τ→HR H Γ→t Y τ Γ Z→VR H Γ Z Q→XR H Γ Y E→t0 σ H Q):PE X e (bH E t):=
 ik h (by rintro σ H Q ⟨τ,Γ,Y,Z,rs,hr,q,vr,xr⟩;exact w σ H Q τ Γ Y Z rs hr q vr xr)
theorem An{e:Expr}{t0:TT}{t:T3}(h:PT X e t0)(w:∀ σ H Q τ Γ Y Z,RS H σ τ→HR H Γ→t Y τ Γ Z→(∀ b H' Γ',dw H Γ H' Γ'→HR H' Γ'→Z b Γ'→Q b H')→XR H Γ Y E→t0 σ H Q):PT X e (iN E t):=
 qZ h (by rintro σ H Q ⟨τ,Γ,Y,Z,rs,hr,q,vr,xr⟩;exact w σ H Q τ Γ Y Z rs hr q vr xr)
theorem uK{e:Expr}{t0:TT}{t:T3}(h:PW X e t0)(w:∀ σ H Q τ Γ Y Z,RS H σ τ→HR H Γ→t Y τ Γ Z→(∀ b H' Γ',dw H Γ H' Γ'→HR H' Γ'→Z b Γ'→Q b H')→XR H Γ Y E→t0 σ H Q):PW X e (iN E t):=
 DX h (by rintro σ H Q ⟨τ,Γ,Y,Z,rs,hr,q,vr,xr⟩;exact w σ H Q τ Γ Y Z rs hr q vr xr)
theorem uM{e:List Expr}{t0:TA}{t:A3}(h:PA X e t0)(w:∀ σ H Q τ Γ Y Z,RS H σ τ→HR H Γ→t Y τ Γ Z→(∀ vs xs H' Γ',dw H Γ H' Γ'→HR H' Γ'→Rs H' vs xs→Z xs Γ'→Q vs H')→XR H Γ Y E→t0 σ H Q):PA X e (lU E t):=
 D1 h (by rintro σ H Q ⟨τ,Γ,Y,Z,rs,hr,q,vr,xr⟩;exact w σ H Q τ Γ Y Z rs hr q vr xr)
theorem xm{e:List Expr}{t0:TT}{t:T3}(h:pQ X e t0)(w:∀ σ H Q τ Γ Y Z,RS H σ τ→HR H Γ→t Y τ Γ Z→(∀ b H' Γ',dw H Γ H' Γ'→HR H' Γ'→Z b Γ'→Q b H')→XR H Γ Y E→t0 σ H Q):pQ X e (iN E t):=
 Am h (by rintro σ H Q ⟨τ,Γ,Y,Z,rs,hr,q,vr,xr⟩;exact w σ H Q τ Γ Y Z rs hr q vr xr)
theorem cT{e:Stmt}{t0:TS}{t:C3}(h:PS X e t0)(w:∀ D σ H τ Γ Y Z,RS H σ τ→HR H Γ→t Y Z τ Γ→DR H Γ Z D→XR H Γ Y E→t0 D σ H):PS X e (gQ E t):=
 uL h (by rintro D σ H ⟨τ,Γ,Y,Z,rs,hr,q,dr,xr⟩;exact w D σ H τ Γ Y Z rs hr q dr xr)
theorem rd{e:List Stmt}{t0:TS}{t:C3}(h:gI X e t0)(w:∀ D σ H τ Γ Y Z,RS H σ τ→HR H Γ→t Y Z τ Γ→DR H Γ Z D→XR H Γ Y E→t0 D σ H):gI X e (gQ E t):=
 Ao h (by rintro D σ H ⟨τ,Γ,Y,Z,rs,hr,q,dr,xr⟩;exact w D σ H τ Γ Y Z rs hr q dr xr)
section
variable {H:Hp}
theorem n9:R H .non .non:=by unfold R;rfl
theorem fQ{b:Bool}:R H (.bl b) (.bl b):=by unfold R;rfl
theorem dD{i:Int}:R H (.int i) (.int i):=by unfold R;rfl
theorem zJ{z:Str}:R H (.str z) (.str z):=by unfold R;rfl
theorem d7{a:Addr}:R H (.ref a) (.ref a):=by unfold R;rfl
theorem n8{a:Addr}{vs:List V}{ts:List T}(h:H a=some (.tup vs))(r:Rs H vs ts):R H (.ref a) (.tup ts):=by unfold R;exact⟨a,vs,rfl,h,r⟩
theorem lY{v:V}(h:R H v .non):v=.non:=by unfold R at h;exact h
theorem mV{v:V}{b:Bool}(h:R H v (.bl b)):v=.bl b:=by unfold R at h;exact h
theorem cm{v:V}{b:Int}(h:R H v (.int b)):v=.int b:=by unfold R at h;exact h
theorem oR{v:V}{b:Str}(h:R H v (.str b)):v=.str b:=by unfold R at h;exact h
theorem bz{v:V}{b:Addr}(h:R H v (.ref b)):v=.ref b:=by unfold R at h;exact h
theorem My{v:V}{b:String}(h:R H v (.ty b)):v=.ty b:=by unfold R at h;exact h
theorem we{K:W.Frag}{v:V}{a:Addr}{ts:List T}(h:R H v (.scr K a ts)):v=.ref a∧∃ vs,zp K H a vs∧Rs H vs ts:=by unfold R at h;exact h
theorem Fi{K:W.Frag}{a:Addr}{vs:List V}{ts:List T}(h:zp K H a vs)(q:Rs H vs ts):R H (.ref a) (.scr K a ts):=by unfold R;exact⟨rfl,vs,h,q⟩
theorem zp.sq{K:W.Frag}{a:Addr}{vs:List V}(h:zp K H a vs):dF K H a vs:=by
 rcases h with⟨o,h⟩ | h
 ·exact .inl (.inr ⟨o,h⟩)
 ·exact .inr h
theorem ko{v:V}{ts:List T}(h:R H v (.tup ts)):∃ a vs,v=.ref a∧H a=some (.tup vs)∧Rs H vs ts:=by unfold R at h;exact h
end
def Hq(i:Nat):E3:=fun _ τ Γ Z=>∃ x,τ[i]? = some (some x)∧Z x Γ
def eC(x:T):E3:=fun _ _ Γ Z=>Z x Γ
theorem qv(i:Nat){x:Str}{pos:Pos}(hN:X.N[i]? = some x:=by rfl)(hv:Io X.env.scope x:=by first | exact Or.inl rfl | exact Or.inr (Or.inl rfl) | exact Or.inr (Or.inr rfl))(hd:(x ==("__debug__" : Str))=false:=by decide)
  (qH:(x ==("__classdict__" : Str))=false:=by decide):PE X (.Name x pos) (bH E (Hq i)):=
 cj (Bo hN hv hd qH) fun σ H Q τ Γ Y Z rs hr q0 vr xr=>by
  obtain⟨x,e,z⟩:=q0;obtain⟨v,hv,r⟩:=rs.get e;exact⟨v,hv,vr v x H Γ .refl hr r z⟩
theorem Fq{e:Expr}{v:V}{x:T}(h:PE X e (tC v))(r:∀ H,R H v x):PE X e (bH E (eC x)):=
 cj h fun σ H Q τ Γ Y Z rs hr z vr xr=>vr v x H Γ .refl hr (r H) z
theorem aj{i j pos}:PE X (.Constant (.int i) j pos) (bH E (eC (.int i))):=Fq Bx fun _=>dD
theorem ef{b j pos}:PE X (.Constant (.bool b) j pos) (bH E (eC (.bl b))):=Fq FC fun _=>fQ
theorem cY{j pos}:PE X (.Constant .none j pos) (bH E (eC .non)):=Fq Bv fun _=>n9
theorem dt{x j pos}:PE X (.Constant (.str x) j pos) (bH E (eC (.str x))):=Fq Bq fun _=>zJ
def qT(u:Value)(x:T):Prop:=∃ v,RelV v u∧∀ H,R H v x
theorem xO{x:Str}{t:T}{u:Value}{pos:Pos}(hg:Gl X x)(hm:X.mg x=some u)(r:qT u t)(hd:(x ==("__debug__" : Str))=false:=by decide):PE X (.Name x pos) (bH E (eC t)):=by
 obtain⟨v,r,h⟩:=r;exact Fq (yh hg hm r hd) h
theorem gl_int{i:Int}{u:Value}(h:RelV (.int i) u):qT u (.int i):=⟨_,h,fun _=>dD⟩
abbrev R3:=T→T→Gp→K3→Prop
def ie(X:Cx)(f:Value→Value→Sem Value)(r3:R3):Prop:=∃ r:R2,gJ X f r∧∀ x y a b H Γ Q Z,R H x a→R H y b→HR H Γ→r3 a b Γ Z→VR H Γ Z Q→r x y H Q
def CL(r3:R3)(ta tb:E3):E3:=fun Y τ Γ Z=>ta Y τ Γ fun x Γ1=>tb Y τ Γ1 fun y Γ2=>r3 x y Γ2 Z
theorem kc{r:R2}{r3:R3}{ta tb:E3}(h:∀ x y a b H Γ Q Z,R H x a→R H y b→HR H Γ→r3 a b Γ Z→VR H Γ Z Q→r x y H Q)(σ:St)(H:Hp)(Q:VK)(q:bH E (CL r3 ta tb) σ H Q):EA r (bH E ta) (bH E tb) σ H Q:=by
 obtain⟨τ,Γ,Y,Z,rs,hr,t,vr,xr⟩:=q;refine⟨τ,Γ,Y,_,rs,hr,t,fun v x H1 Γ1 s1 h1 r1 z1=>?_,xr⟩;refine⟨τ,Γ1,Y,_,rs.mono s1.tq,h1,z1,fun u y H2 Γ2 s2 h2 r2 z2=>?_,xr.mono s1⟩;exact h v u x y H2 Γ2 Q Z (r1.mono s2.tq) r2 h2 z2 (vr.mono (s1.trans s2))
section
variable {a b c:Expr}{ta tb tc:E3}{pos:Pos}{op rE:CmpOp}{r3 Dr:R3}
theorem aO{op:Operator}(ho:ie X (binaryOp op) r3)(ha:PE X a (bH E ta))(hb:PE X b (bH E tb)):PE X (.BinOp a op b pos) (bH E (CL r3 ta tb)):=by
 obtain⟨r,ho,h⟩:=ho;exact ik (Fz ho ha hb) (kc h)
theorem mJ(ho:ie X (compareOp op) r3)(ha:PE X a (bH E ta))(hb:PE X b (bH E tb))(hm:behindInMarks op b=false):PE X (.Compare a [op] [b] pos) (bH E (CL r3 ta tb)):=by
 obtain⟨r,ho,h⟩:=ho;exact ik (ym ho ha hb hm) (kc h)
def eT(t:E3):T3:=fun Y τ Γ Z=>t Y τ Γ fun x Γ1=>∃ k,x=.bl k∧Z k Γ1
theorem jO{t2:TE}{t:E3}(h:∀ σ H Q,bH E t σ H Q→t2 σ H Q)(σ:St)(H:Hp)(Q:Bool→Hp→Prop)(q:iN E (eT t) σ H Q):uY t2 σ H Q:=by
 obtain⟨τ,Γ,Y,Z,rs,hr,t,vr,xr⟩:=q;refine h σ H _ ⟨τ,Γ,Y,_,rs,hr,t,fun v x H1 Γ1 s1 h1 r1 z1=>?_,xr⟩;obtain⟨k,rfl,z⟩:=z1;exact⟨k,mV r1,vr k H1 Γ1 s1 h1 z⟩
theorem aw(ho:ie X (compareOp op) r3)(ha:PE X a (bH E ta))(hb:PE X b (bH E tb))(hm:behindInMarks op b=false):PT X (.Compare a [op] [b] pos) (iN E (eT (CL r3 ta tb))):=by
 obtain⟨r,ho,h⟩:=ho;exact qZ (xV ho ha hb hm) (jO (kc h))
def ng(r r':R3)(ta tb tc:E3):E3:=fun Y τ Γ Z=>ta Y τ Γ fun x Γ1=>tb Y τ Γ1 fun y Γ2=>r x y Γ2 fun z Γ3=>∃ k,z=.bl k∧(if k=true then tc Y τ Γ3 fun w' Γ4=>r' y w' Γ4 Z else Z (.bl false) Γ3)
theorem mh{r r':R2}(h:∀ x y a b H Γ Q Z,R H x a→R H y b→HR H Γ→r3 a b Γ Z→VR H Γ Z Q→r x y H Q)(h':∀ x y a b H Γ Q Z,R H x a→R H y b→HR H Γ→Dr a b Γ Z→VR H Γ Z Q→r' x y H Q)
  (σ:St) (H:Hp) (Q:VK) (q:bH E (ng r3 Dr ta tb tc) σ H Q):pY r r' (bH E ta) (bH E tb) (bH E tc) σ H Q:=by
 obtain⟨τ,Γ,Y,Z,rs,hr,t,vr,xr⟩:=q;refine⟨τ,Γ,Y,_,rs,hr,t,fun v x H1 Γ1 s1 h1 r1 z1=>?_,xr⟩;refine⟨τ,Γ1,Y,_,rs.mono s1.tq,h1,z1,fun u y H2 Γ2 s2 h2 r2 z2=>?_,xr.mono s1⟩;refine h v u x y H2 Γ2 _ _ (r1.mono s2.tq) r2 h2 z2 fun d z H3 Γ3 s3 h3 r3 z3=>?_;obtain⟨k,rfl,z3⟩:=z3;refine⟨k,mV r3,?_⟩;cases k with
 | false=>exact vr _ _ H3 Γ3 ((s1.trans s2).trans s3) h3 fQ z3
 | true=>
  refine⟨τ,Γ3,Y,_,rs.mono ((s1.trans s2).trans s3).tq,h3,z3,fun w' y' H4 Γ4 s4 h4 r4 z4=>?_,xr.mono ((s1.trans s2).trans s3)⟩;exact h' u w' y y' H4 Γ4 Q Z (r2.mono (s3.trans s4).tq) r4 h4 z4 (vr.mono (((s1.trans s2).trans s3).trans s4))
theorem vk(ho:ie X (compareOp op) r3)(jC:ie X (compareOp rE) Dr)(ha:PE X a (bH E ta))(hb:PE X b (bH E tb))(hc:PE X c (bH E tc))(hm:lastMarks [op,rE] [b,c]=false:=by with_unfolding_all rfl):
  PE X (.Compare a [op,rE] [b,c] pos) (bH E (ng r3 Dr ta tb tc)):=by
 obtain⟨r,ho,h⟩:=ho;obtain⟨r',jC,h'⟩:=jC;exact ik (vC ho jC ha hb hc hm) (mh h h')
theorem vh(ho:ie X (compareOp op) r3)(jC:ie X (compareOp rE) Dr)(ha:PE X a (bH E ta))(hb:PE X b (bH E tb))(hc:PE X c (bH E tc))(hm:lastMarks [op,rE] [b,c]=false:=by with_unfolding_all rfl):
  PT X (.Compare a [op,rE] [b,c] pos) (iN E (eT (ng r3 Dr ta tb tc))):=by
 obtain⟨r,ho,h⟩:=ho;obtain⟨r',jC,h'⟩:=jC;exact qZ (vm ho jC ha hb hc hm) (jO (mh h h'))
def Hy(ta tb:E3):E3:=fun Y τ Γ Z=>ta Y τ Γ fun x Γ1=>∃ c,x=.bl c∧if c=true then tb Y τ Γ1 Z else Z (.bl false) Γ1
def Ht(ta:E3):E3:=fun Y τ Γ Z=>ta Y τ Γ fun x Γ1=>∃ c,x=.bl c∧Z (.bl (!c)) Γ1
theorem jY{op}(h:PE X a (bH E ta)):PE X (.BoolOp op [a] pos) (bH E ta):=Br h
theorem iW{rest:List Expr}(ha:PE X a (bH E ta))(hb:PE X (.BoolOp .And (b::rest) pos) (bH E tb)):PE X (.BoolOp .And (a::b::rest) pos) (bH E (Hy ta tb)):=
 cj (BA ha hb) fun σ H Q τ Γ Y Z rs hr t vr xr=>by
  refine⟨τ,Γ,Y,_,rs,hr,t,fun v x H1 Γ1 s1 h1 r1 z1=>?_,xr⟩;obtain⟨k,rfl,z1⟩:=z1;refine⟨k,mV r1,?_⟩;cases k with
  | false=>exact vr _ _ H1 Γ1 s1 h1 fQ z1
  | true=>exact⟨τ,Γ1,Y,Z,rs.mono s1.tq,h1,z1,vr.mono s1,xr.mono s1⟩
theorem vj(ha:PE X a (bH E ta)):PE X (.UnaryOp .Not a pos) (bH E (Ht ta)):=
 cj (Bu ha) fun σ H Q τ Γ Y Z rs hr t vr xr=>by
  refine⟨τ,Γ,Y,_,rs,hr,t,fun v x H1 Γ1 s1 h1 r1 z1=>?_,xr⟩;obtain⟨k,rfl,z1⟩:=z1;exact⟨k,mV r1,vr _ _ H1 Γ1 s1 h1 fQ z1⟩
variable {tA tB:T3}
def Ij(t u:T3):T3:=fun Y τ Γ Z=>t Y τ Γ fun c Γ1=>if c=true then u Y τ Γ1 Z else Z false Γ1
def Rj(t u:T3):T3:=fun Y τ Γ Z=>t Y τ Γ fun c Γ1=>if c=true then Z true Γ1 else u Y τ Γ1 Z
def Ii(t:T3):T3:=fun Y τ Γ Z=>t Y τ Γ fun c Γ1=>Z (!c) Γ1
theorem ff(ha:PT X a (iN E tA)):PW X (.BoolOp .And [a] pos) (iN E tA):=xR ha
theorem jV(ha:PT X a (iN E tA)):PW X (.BoolOp .Or [a] pos) (iN E tA):=A7 ha
theorem fR{rest:List Expr}(ha:PT X a (iN E tA))(hb:PW X (.BoolOp .And (b::rest) pos) (iN E tB)):PW X (.BoolOp .And (a::b::rest) pos) (iN E (Ij tA tB)):=
 uK (A8 ha hb) fun σ H Q τ Γ Y Z rs hr t vr xr=>by
  refine⟨τ,Γ,Y,_,rs,hr,t,fun k H1 Γ1 s1 h1 z1=>?_,xr⟩;cases k with
  | false=>exact vr _ H1 Γ1 s1 h1 z1
  | true=>exact⟨τ,Γ1,Y,Z,rs.mono s1.tq,h1,z1,fun b H2 Γ2 s2 h2 z2=>vr b H2 Γ2 (s1.trans s2) h2 z2,xr.mono s1⟩
theorem lK{rest:List Expr}(ha:PT X a (iN E tA))(hb:PW X (.BoolOp .Or (b::rest) pos) (iN E tB)):PW X (.BoolOp .Or (a::b::rest) pos) (iN E (Rj tA tB)):=
 uK (Ft ha hb) fun σ H Q τ Γ Y Z rs hr t vr xr=>by
  refine⟨τ,Γ,Y,_,rs,hr,t,fun k H1 Γ1 s1 h1 z1=>?_,xr⟩;cases k with
  | true=>exact vr _ H1 Γ1 s1 h1 z1
  | false=>exact⟨τ,Γ1,Y,Z,rs.mono s1.tq,h1,z1,fun b H2 Γ2 s2 h2 z2=>vr b H2 Γ2 (s1.trans s2) h2 z2,xr.mono s1⟩
theorem eE(ha:PT X a (iN E tA)):PT X (.UnaryOp .Not a pos) (iN E (Ii tA)):=
 An (Ba ha) fun σ H Q τ Γ Y Z rs hr t vr xr=>⟨τ,Γ,Y,_,rs,hr,t,fun k H1 Γ1 s1 h1 z1=>vr _ H1 Γ1 s1 h1 z1,xr⟩
theorem cW{e:Expr}{t:E3}(h:PE X e (bH E t))(he:∀ whole,isTrue e X.env whole=(do let v ← whole;standAt e.pos;holding [v] (truthy v)):=by intro _;rfl):PT X e (iN E (eT t)):=
 qZ (A9 h he) (jO (t2:=bH E t) fun _ _ _ q=>q)
def Q2(c:T3)(ta tb:E3):E3:=fun Y τ Γ Z=>c Y τ Γ fun k Γ1=>if k=true then ta Y τ Γ1 Z else tb Y τ Γ1 Z
theorem oh{c:Expr}(hc:PT X c (iN E tA))(ha:PE X a (bH E ta))(hb:PE X b (bH E tb)):PE X (.IfExp c a b pos) (bH E (Q2 tA ta tb)):=
 cj (vB hc ha hb) fun σ H Q τ Γ Y Z rs hr t vr xr=>by
  refine⟨τ,Γ,Y,_,rs,hr,t,fun k H1 Γ1 s1 h1 z1=>?_,xr⟩;cases k with
  | true=>exact⟨τ,Γ1,Y,Z,rs.mono s1.tq,h1,z1,vr.mono s1,xr.mono s1⟩
  | false=>exact⟨τ,Γ1,Y,Z,rs.mono s1.tq,h1,z1,vr.mono s1,xr.mono s1⟩
end
section
variable {e:Expr}{es:List Expr}{te:E3}{t:A3}{pos:Pos}
def De:A3:=fun _ _ Γ Z=>Z [] Γ
def Ak(ta:E3)(tr:A3):A3:=fun Y τ Γ Z=>ta Y τ Γ fun x Γ1=>tr Y τ Γ1 fun xs Γ2=>Z (x::xs) Γ2
theorem ag:PA X [] (lU E De):=uM vF fun σ H Q τ Γ Y Z rs hr t vr xr=>vr [] [] H Γ .refl hr bT t
theorem ae(ha:PE X e (bH E te))(hr:PA X es (lU E t))(hs:starEach (e::es) X.env=(false,eval e X.env)::starEach es X.env:=by rfl):PA X (e::es) (lU E (Ak te t)):=
 uM (mM ha hr hs) fun σ H Q τ Γ Y Z rs hr t vr xr=>by
  refine⟨τ,Γ,Y,_,rs,hr,t,fun v x H1 Γ1 s1 h1 r1 z1=>?_,xr⟩;exact⟨τ,Γ1,Y,_,rs.mono s1.tq,h1,z1,fun vs xs H2 Γ2 s2 h2 r2 z2=>vr (v::vs) (x::xs) H2 Γ2 (s1.trans s2) h2 (aY (r1.mono s2.tq) r2) z2,xr.mono s1⟩
def Hr(t:A3):E3:=fun Y τ Γ Z=>t Y τ Γ fun xs Γ1=>xs.length≤sizeLine∧Z (.tup xs) Γ1
def Hu(t:A3):E3:=fun Y τ Γ Z=>t Y τ Γ fun xs Γ1=>xs.length≤sizeLine∧∀ p,Γ1 p=none→Z (.ref p) (up Γ1 p (.lst xs))
theorem dP{x1}(h:PA X es (lU E t)):PE X (.Tuple es x1 pos) (bH E (Hr t)):=
 cj (Bp h) fun σ H Q τ Γ Y Z rs hr t vr xr=>by
  refine⟨τ,Γ,Y,_,rs,hr,t,fun vs xs H1 Γ1 s1 h1 r1 z1=>?_,xr⟩;refine⟨by rw[r1.length];exact z1.1,fun p hp=>?_⟩;have k:=bA (o:=.tup vs) hp;exact vr _ _ _ Γ1 (s1.trans (.keep k)) (h1.keep k) (n8 az (r1.mono (cU k))) z1.2
theorem bU(h:PA X es (lU E t)):PE X (.List es pos) (bH E (Hu t)):=
 cj (Bw h) fun σ H Q τ Γ Y Z rs hr t vr xr=>by
  refine⟨τ,Γ,Y,_,rs,hr,t,fun vs xs H1 Γ1 s1 h1 r1 z1=>?_,xr⟩;refine⟨by rw[r1.length];exact z1.1,fun p hp=>?_⟩;have k:=bA (o:=.lst vs) hp;exact vr _ _ _ _ (s1.trans (.make hp)) (h1.make (o3:=.lst xs) hp ⟨vs,az,r1.mono (cU k)⟩) d7 (z1.2 p (h1.free hp))
end
abbrev eK:=List T→Gp→K3→(Value→Gp→Prop)→Prop
def cp(sp:eK):Sp:=fun vs H Q E=>∃ ts Γ Z Y,Rs H vs ts∧HR H Γ∧sp ts Γ Z Y∧VR H Γ Z Q∧∀ C H' Γ',dw H Γ H' Γ'→HR H' Γ'→Y C Γ'→E C none H'
abbrev fv(P:Program)(w:World)(K:W.Frag)(mg:Str→Option Value)(base:Heap)(x:Str)(k:Nat)(ps:List Str)(sp:eK):Prop:=Callee P w K mg base x k ps (cp sp)
def z9(sp:eK)(t:A3):E3:=fun Y τ Γ Z=>t Y τ Γ fun xs Γ1=>sp xs Γ1 Z fun _ _=>False
section
variable {x:Str}{k j:Nat}{ps:List Str}{sp:eK}{p pos:Pos}{e:Expr}{es:List Expr}{t:A3}
theorem ay(c:fv X.prog X.w X.K X.mg X.base x k ps sp)(hr:cq j X.A)(hk:k≤j)(hg:Gl X x)(ha:PA X (e::es) (lU E t))(oT:(x ==("__debug__" : Str))=false:=by decide)
  (he:starEach (e::es) X.env=(false,eval e X.env)::starEach es X.env:=by rfl) (fA:(backTo pos (starEach es X.env)).any (·.1)=false:=by rfl):PE X (.Call (.Name x p) (e::es) [] pos) (bH E (z9 sp t)):=
 cj (vD c hr hk hg ha oT he fA) fun σ H Q τ Γ Y Z rs hr t vr xr=>by
  refine⟨τ,Γ,Y,_,rs,hr,t,fun vs xs H1 Γ1 s1 h1 r1 z1=>?_,xr⟩;show cp sp (vs++[]) H1 Q E0
  rw[YY];exact⟨xs,Γ1,Z,_,r1,h1,z1,vr.mono s1,fun _ _ _ _ _ z=>z.elim⟩
end
end
section
variable {X:Cx}{E:St→XK}{st:Stmt}{Py:List Stmt}{e:Expr}{te:E3}{pos:Pos}{t u:C3}
def Ae:C3:=fun _ D τ Γ=>D.nx τ Γ
def HY(t u:C3):C3:=fun Y D τ Γ=>t Y {D with nx:=u Y D} τ Γ
def Af(te:E3):C3:=fun Y D τ Γ=>te Y τ Γ fun _ Γ1=>D.nx τ Γ1
def HZ(te:E3):C3:=fun Y D τ Γ=>te Y τ Γ D.rt
def Ri(c:T3)(t u:C3):C3:=fun Y D τ Γ=>c Y τ Γ fun b Γ1=>if b=true then t Y D τ Γ1 else u Y D τ Γ1
theorem af:gI X [] (gQ E Ae):=rd xW fun D σ H τ Γ Y Z rs hr t dr xr=>dr.nx σ τ H Γ .refl hr rs t
theorem aa(h1:PS X st (gQ E t))(h2:gI X Py (gQ E u)):gI X (st::Py) (gQ E (HY t u)):=
 rd (vn h1 h2) fun D σ H τ Γ Y Z rs hr t dr xr=>
  ⟨τ,Γ,Y,_,rs,hr,t,⟨fun σ' τ' H' Γ' s h r z=>⟨τ',Γ',Y,Z,r,h,z,dr.mono s,xr.mono s⟩,dr.rt,dr.bk,dr.ct⟩,xr⟩
theorem cL(he:PE X e (bH E te))(hs:swapsWith e none pos.line X.env=pure false:=by rfl):PS X (.Expr e pos) (gQ E (Af te)):=
 cT (xZ he hs) fun D σ H τ Γ Y Z rs hr t dr xr=>⟨τ,Γ,Y,_,rs,hr,t,fun v x H' Γ' s h r z=>dr.nx σ τ H' Γ' s h (rs.mono s.tq) z,xr⟩
theorem aI(he:PE X e (bH E te)):PS X (.Return (some e) pos) (gQ E (HZ te)):=
 cT (Be he) fun D σ H τ Γ Y Z rs hr t dr xr=>⟨τ,Γ,Y,_,rs,hr,t,dr.rt,xr⟩
theorem bF{c:Expr}{a b:List Stmt}{tc:T3}(hc:PT X c (iN E tc))(ha:gI X a (gQ E t))(hb:gI X b (gQ E u)):PS X (.If c a b pos) (gQ E (Ri tc t u)):=
 cT (Fu hc ha hb) fun D σ H τ Γ Y Z rs hr t dr xr=>by
  refine⟨τ,Γ,Y,_,rs,hr,t,fun k H1 Γ1 s1 h1 z1=>?_,xr⟩;cases k with
  | true=>exact⟨τ,Γ1,Y,Z,rs.mono s1.tq,h1,z1,dr.mono s1,xr.mono s1⟩
  | false=>exact⟨τ,Γ1,Y,Z,rs.mono s1.tq,h1,z1,dr.mono s1,xr.mono s1⟩
def Ov(t:C3):C3:=fun Y D τ Γ=>∃ P:S3→Gp→Prop,t Y {D with nx:=P} τ Γ∧∀ τ Γ,P τ Γ→D.nx τ Γ
theorem eI(h:PS X st (gQ E t)):PS X st (gQ E (Ov t)):=
 cT h fun D σ H τ Γ Y Z rs hr q0 dr xr=>by obtain⟨P,t,k⟩:=q0;exact⟨τ,Γ,Y,_,rs,hr,t,⟨fun σ' τ' H' Γ' s h r z=>dr.nx σ' τ' H' Γ' s h r (k _ _ z),dr.rt,dr.bk,dr.ct⟩,xr⟩
abbrev G3:=X3→T→S3→Gp→(S3→Gp→Prop)→Prop
abbrev xj:=X3→List T→S3→Gp→(S3→Gp→Prop)→Prop
def v8(E:St→XK)(g:G3):TG:=fun v σ H Q=>∃ x τ Γ Y Z,R H v x∧RS H σ τ∧HR H Γ∧g Y x τ Γ Z∧NR H Γ Z Q∧XR H Γ Y E
def v7(E:St→XK)(g:xj):wV:=fun v σ H Q=>∃ x τ Γ Y Z,Rs H v x∧RS H σ τ∧HR H Γ∧g Y x τ Γ Z∧NR H Γ Z Q∧XR H Γ Y E
theorem pS{e:Expr}{t0:TG}{t:G3}(h:PG X e t0)(w:∀ v σ H Q x τ Γ Y Z,R H v x→RS H σ τ→HR H Γ→t Y x τ Γ Z→NR H Γ Z Q→XR H Γ Y E→t0 v σ H Q):PG X e (v8 E t):=
 D0 h (by rintro v σ H Q ⟨x,τ,Γ,Y,Z,r,rs,hr,q,nr,xr⟩;exact w v σ H Q x τ Γ Y Z r rs hr q nr xr)
theorem rf{e:List Expr}{t0:wV}{t:xj}(h:sx X e t0)(w:∀ v σ H Q x τ Γ Y Z,Rs H v x→RS H σ τ→HR H Γ→t Y x τ Γ Z→NR H Γ Z Q→XR H Γ Y E→t0 v σ H Q):sx X e (v7 E t):=
 Aq h (by rintro v σ H Q ⟨x,τ,Γ,Y,Z,r,rs,hr,q,nr,xr⟩;exact w v σ H Q x τ Γ Y Z r rs hr q nr xr)
def hName(i:Nat):G3:=fun _ x τ Γ Z=>Z (τ.set i (some x)) Γ
def G0:xj:=fun _ xs τ Γ Z=>xs=[]∧Z τ Γ
def zR(g:G3)(gs:xj):xj:=fun Y xs τ Γ Z=>∃ x r,xs=x::r∧g Y x τ Γ fun τ1 Γ1=>gs Y r τ1 Γ1 Z
def GX(n:Nat)(gs:xj):G3:=fun Y x τ Γ Z=>∃ ts,x=.tup ts∧ts.length=n∧gs Y ts τ Γ Z
theorem aL{i:Nat}{x:Str}(hN:X.N.Nodup)(hi:X.N[i]? = some x)(hx:Loc X.env.scope x)(hf:X.fn x=true∨X.env.scope.names.lookup x=some .local:=by first | exact .inl rfl | exact .inr rfl | assumption):PG X (.Name x pos) (v8 E (hName i)):=
 pS (yd hN hi hx hf) fun v σ H Q x τ Γ Y Z r rs hr t nr xr=>nr _ _ H Γ .refl hr (rs.set r i) t
theorem dz:sx X [] (v7 E G0):=rf yc fun v σ H Q x τ Γ Y Z r rs hr q0 nr xr=>by
 obtain⟨e,t⟩:=q0;subst e;exact⟨ck r,nr _ _ H Γ .refl hr rs t⟩
theorem aN{es:List Expr}{g:G3}{gs:xj}(h1:PG X e (v8 E g))(h2:sx X es (v7 E gs))(hs:(assignEach (e::es) X.env).map (·.2)=assign e X.env::(assignEach es X.env).map (·.2):=by rfl):sx X (e::es) (v7 E (zR g gs)):=
 rf (vw h1 h2 hs) fun v σ H Q x τ Γ Y Z r rs hr q0 nr xr=>by
  obtain⟨y,ys,e,t⟩:=q0;subst e;obtain⟨w,ws,rfl,r1,r2⟩:=cV r;refine⟨w,ws,rfl,y,τ,Γ,Y,_,r1,rs,hr,t,fun σ' τ' H' Γ' s h r z=>?_,xr⟩;exact⟨ys,τ',Γ',Y,Z,r2.mono s.tq,r,h,z,nr.mono s,xr.mono s⟩
theorem eJ{es:List Expr}{k:Nat}{gs:xj}{n:Nat}(hc:X.calm=true)(h:sx X es (v7 E gs))
  (hn:(assignEach es X.env).length=n:=by rfl) (kr:(assignEach es X.env).findIdx? (·.1)=none:=by rfl):PG X (.Tuple es k pos) (v8 E (GX n gs)):=
 pS (Bm hc h hn kr) fun v σ H Q x τ Γ Y Z r rs hr q0 nr xr=>by
  obtain⟨ts,e,l,t⟩:=q0;subst e;obtain⟨a,vs,rfl,ha,r⟩:=ko r;exact⟨a,vs,rfl,iM.of ha,by rw[r.length];exact l,ts,τ,Γ,Y,Z,r,rs,hr,t,nr,xr⟩
def hSub(to ti:E3):G3:=fun Y v τ Γ Z=>to Y τ Γ fun o Γ1=>ti Y τ Γ1 fun i Γ2=>∃ a ts k j,o=.ref a∧i=.int k∧Γ2 a=some (.lst ts)∧oO ts.length k=some j∧Z τ (up Γ2 a (.lst (ts.set j v)))
theorem mI{o i:Expr}{to ti:E3}(ho:PE X o (bH E to))(hi:PE X i (bH E ti))
  (ha:∀ v,assign (.Subscript o i pos) X.env v=(do
   let ov ← holding [v] (eval o X.env)
   let iv ← holding [v,ov] (eval i X.env)
   standAt pos
   holding [v,ov,iv] (setItem ov iv v)
   release [v,ov,iv] []):=by intro _;rfl):PG X (.Subscript o i pos) (v8 E (hSub to ti)):=
 pS (Bn ho hi set_list ha) fun v σ H Q x τ Γ Y Z r rs hr t nr xr=>by
  refine⟨τ,Γ,Y,_,rs,hr,t,fun ov o H1 Γ1 s1 h1 r1 z1=>?_,xr⟩;refine⟨τ,Γ1,Y,_,rs.mono s1.tq,h1,z1,fun iv i H2 Γ2 s2 h2 r2 z2=>?_,xr.mono s1⟩;obtain⟨a,ts,k,j,rfl,rfl,ga,hj,z⟩:=z2;obtain⟨vs,hv,rv⟩:=h2 a _ ga;refine⟨a,vs,k,j,bz r1,cm r2,hv,by rw[rv.length];exact hj,?_⟩;have s3:dw H2 Γ2 (upd H2 a (.lst (vs.set j v))) (up Γ2 a (.lst (ts.set j x))):=.set h2 ga;exact nr σ τ _ _ ((s1.trans s2).trans s3) (h2.set ga ⟨_,az,Rs.set j (rv.mono s3.tq) (r.mono ((s1.trans s2).trans s3).tq)⟩) (rs.mono ((s1.trans s2).trans s3).tq) z
def CY(te:E3)(g:G3):C3:=fun Y D τ Γ=>te Y τ Γ fun x Γ1=>g Y x τ Γ1 D.nx
theorem zk{te:E3}{g:G3}(D:Ends)(σ:St)(H:Hp)(q:gQ E (CY te g) D σ H):AM (bH E te) (v8 E g) D σ H:=by
 obtain⟨τ,Γ,Y,Z,rs,hr,t,dr,xr⟩:=q;exact⟨τ,Γ,Y,_,rs,hr,t,fun v x H1 Γ1 s1 h1 r1 z1=>⟨x,τ,Γ1,Y,_,r1,rs.mono s1.tq,h1,z1,dr.nx.mono s1,xr.mono s1⟩,xr⟩
theorem hV{tg e:Expr}{te:E3}{g:G3}(he:PE X e (bH E te))(hg:PG X tg (v8 E g))(hs:swapsWithSole [tg] e pos.line X.env=pure false:=by rfl)(hw:swappedStores [tg] e X.env=pure none:=by rfl)
  (h1:(assignEach [tg] X.env).map (·.2)=[assign tg X.env]:=by rfl):PS X (.Assign [tg] e pos) (gQ E (CY te g)):=uL (Bi he hg hs hw h1) zk
def CW(i:Nat)(te:E3):C3:=fun Y D τ Γ=>te Y τ Γ fun x Γ1=>D.nx (τ.set i (some x)) Γ1
theorem aF{i:Nat}{x:Str}{e:Expr}{te:E3}{pos':Pos}(hN:X.N.Nodup)(hi:X.N[i]? = some x)(hx:Loc X.env.scope x)(he:PE X e (bH E te))(hs:swapsWith e (some (.Name x pos')) pos.line X.env=pure false:=by rfl)(hf:X.fn x=true∨X.env.scope.names.lookup x=some .local:=by first | exact .inl rfl | exact .inr rfl | assumption):
  PS X (.Assign [.Name x pos'] e pos) (gQ E (CW i te)):=cT (Bb hN hi hx he hs hf) fun D σ H τ Γ Y Z rs hr t dr xr=>
   ⟨τ,Γ,Y,_,rs,hr,t,fun v x H1 Γ1 s1 h1 r1 z1=>dr.nx _ _ H1 Γ1 s1 h1 ((rs.mono s1.tq).set r1 i) z1,xr⟩
def Ow(i:Nat)(te:E3)(r:R3):C3:=fun Y D τ Γ=>∃ x,τ[i]? = some (some x)∧te Y τ Γ fun y Γ1=>r x y Γ1 fun z Γ2=>D.nx (τ.set i (some z)) Γ2
theorem A0{i:Nat}{x:Str}{e:Expr}{te:E3}{op:Operator}{r3:R3}{pos':Pos}(hN:X.N.Nodup)(hi:X.N[i]? = some x)(hx:Loc X.env.scope x)(he:PE X e (bH E te))(ho:ie X (inplaceOp op) r3)(hf:X.fn x=true∨X.env.scope.names.lookup x=some .local:=by first | exact .inl rfl | exact .inr rfl | assumption):
  PS X (.AugAssign (.Name x pos') op e pos) (gQ E (Ow i te r3)):=by
 obtain⟨r,ho,h⟩:=ho;refine uL (Bh (ti:=r) hN hi hx he ho hf) fun D σ H ⟨τ,Γ,Y,Z,rs,hr,⟨x,e,t⟩,dr,xr⟩=>?_;obtain⟨v,ev,rv⟩:=rs.get e;refine⟨v,ev,τ,Γ,Y,_,rs,hr,t,fun w y H1 Γ1 s1 h1 r1 z1=>?_,xr⟩;refine h v w x y H1 Γ1 _ _ (rv.mono s1.tq) r1 h1 z1 fun u z H2 Γ2 s2 h2 r2 z2=>?_;exact dr.nx _ _ H2 Γ2 (s1.trans s2) h2 ((rs.mono (s1.trans s2).tq).set r2 i) z2
structure Walks(J:It)(ts:List T)(gd:Gp→Prop)(H0:Hp):Prop where
 go:∀ i H Γ,Tq H0 H→HR H Γ→gd Γ→i < ts.length→J.go i H
 sD:∀ i H Γ x H',Tq H0 H→HR H Γ→gd Γ→i < ts.length→J.sD i H x H'→dw H Γ H' Γ∧HR H' Γ∧∃ t,ts[i]? = some t∧R H' x t
 stop:∀ H Γ,Tq H0 H→HR H Γ→gd Γ→J.stop ts.length H
abbrev I3:=X3→S3→Gp→(List T→(Gp→Prop)→Gp→Prop)→Prop
def rG(E:St→XK)(wi:I3):TI:=fun σ H Q=>∃ τ Γ Y Z,RS H σ τ∧HR H Γ∧wi Y τ Γ Z∧(∀ J ts gd H' Γ',dw H Γ H' Γ'→HR H' Γ'→Walks J ts gd H'→Z ts gd Γ'→Q J H')∧XR H Γ Y E
theorem iQ{tg e:Expr}{t0:TI}{t:I3}(h:PI X tg e t0)(w:∀ σ H Q τ Γ Y Z,RS H σ τ→HR H Γ→t Y τ Γ Z→(∀ J ts gd H' Γ',dw H Γ H' Γ'→HR H' Γ'→Walks J ts gd H'→Z ts gd Γ'→Q J H')→XR H Γ Y E→t0 σ H Q):PI X tg e (rG E t):=
 DZ h (by rintro σ H Q ⟨τ,Γ,Y,Z,rs,hr,q,vr,xr⟩;exact w σ H Q τ Γ Y Z rs hr q vr xr)
def D2(gd:Gp→Prop)(g:G3)(tb:C3)(Y:X3)(D:D3)(ts:List T)(τ:S3)(Γ:Gp):Prop:=∃ P:List T→S3→Gp→Prop,P ts τ Γ∧(∀ τ Γ,P [] τ Γ→gd Γ∧D.nx τ Γ) ∧
 ∀ x r τ Γ,P (x::r) τ Γ→gd Γ∧g Y x τ Γ fun τ2 Γ2=>tb Y {D with nx:=P r,ct:=P r,bk:=D.nx} τ2 Γ2
def Ia(wi:I3)(g:G3)(tb:C3):C3:=fun Y D τ Γ=>wi Y τ Γ fun ts gd Γ1=>D2 gd g tb Y D ts τ Γ1
theorem drop_cons{α:Type}{xs:List α}{i:Nat}(h:i < xs.length):xs.drop i=xs[i]::xs.drop (i+1):=ZR h
theorem fS{iter:Expr}{body:List Stmt}{wi:I3}{g:G3}{tb:C3}{tg:Expr}(hp:PassesOwn (model X.prog X.w) X.A X.env X.xe)(hc:X.calm=true)(hi:PI X tg iter (rG E wi))(hg:PG X tg (v8 E g))(hb:gI X body (gQ E tb))
  (hs:∀ x,foldedSetIterable iter X.env x=pure x:=by intro _;rfl):PS X (.For tg iter body [] pos) (gQ E (Ia wi g tb)):=
 cT (Bf hp hc hi hg hb hs) fun D σ H τ Γ Y Z rs hr t dr xr=>by
  refine⟨τ,Γ,Y,_,rs,hr,t,fun J ts gd H1 Γ1 s1 h1 wk ⟨P,z1,p0,pc⟩=>?_,xr⟩;refine⟨fun i m σ' H'=>∃ τ' Γ',i≤ts.length∧m=ts.length-i∧RS H' σ' τ'∧HR H' Γ'∧dw H1 Γ1 H' Γ'∧P (ts.drop i) τ' Γ',⟨ts.length,τ,Γ1,ZL _,rfl,rs.mono s1.tq,h1,.refl,z1⟩,?_⟩;rintro i m σ2 H2 ⟨τ2,Γ2,hi,rfl,vg,h2,s2,w2⟩;by_cases gC:i < ts.length
  ·rw[drop_cons gC]at w2
   obtain⟨g2,w2⟩:=pc _ _ _ _ w2;refine .inr ⟨wk.go i H2 Γ2 s2.tq h2 g2 gC,fun σ' H'=>∃ τ' Γ',RS H' σ' τ'∧HR H' Γ'∧dw H1 Γ1 H' Γ'∧P (ts.drop (i+1)) τ' Γ',fun σ' H' ⟨τ',Γ',a,b,c,d⟩=>⟨ts.length-(i+1),by omega,τ',Γ',gC,rfl,a,b,c,d⟩,fun x H3 yl=>?_⟩;obtain⟨s3,h3,x3,e3,r3⟩:=wk.sD i H2 Γ2 x H3 s2.tq h2 g2 gC yl;rw[YJ gC]at e3;cases e3;refine⟨_,τ2,Γ2,Y,_,r3,vg.mono s3.tq,h3,w2,fun σ4 τ4 H4 Γ4 s4 h4 r4 z4=>?_,xr.mono ((s1.trans s2).trans s3)⟩;have s5:=(s2.trans s3).trans s4;refine⟨τ4,Γ4,Y,_,r4,h4,z4,⟨fun σ' τ' H' Γ' s h r z=>⟨τ',Γ',r,h,s5.trans s,z⟩,dr.rt.mono (s1.trans s5),dr.nx.mono (s1.trans s5),fun σ' τ' H' Γ' s h r z=>⟨τ',Γ',r,h,s5.trans s,z⟩⟩,xr.mono (s1.trans s5)⟩
  ·have e:i=ts.length:=by omega
   subst e;rw[abE]at w2;have w2:=p0 _ _ w2;exact .inl ⟨wk.stop H2 Γ2 s2.tq h2 w2.1,dr.nx σ2 τ2 H2 Γ2 (s1.trans s2) h2 vg w2.2⟩
def CV(c:T3)(tb:C3):C3:=fun Y D τ Γ=>∃ W:Nat→S3→Gp→Prop,(∃ m,W m τ Γ)∧∀ m τ Γ,W m τ Γ →
 c Y τ Γ fun b Γ1=>if b=true then ∃ N:S3→Gp→Prop,(∀ τ' Γ',N τ' Γ'→∃ m',m' < m∧W m' τ' Γ')∧tb Y {D with nx:=N,ct:=N,bk:=D.nx} τ Γ1 else D.nx τ Γ1
theorem og{c:Expr}{body:List Stmt}{tc:T3}{tb:C3}(hp:PassesOwn (model X.prog X.w) X.A X.env X.xe)(hc:PT X c (iN E tc))(hb:gI X body (gQ E tb)):PS X (.While c body [] pos) (gQ E (CV tc tb)):=
 cT (vo hp hc hb) fun D σ H τ Γ Y Z rs hr q0 dr xr=>by
  obtain⟨W,⟨m0,w0⟩,turn⟩:=q0;refine⟨fun m σ' H'=>∃ τ' Γ',RS H' σ' τ'∧HR H' Γ'∧dw H Γ H' Γ'∧W m τ' Γ',⟨m0,τ,Γ,rs,hr,.refl,w0⟩,?_⟩;rintro m σ1 H1 ⟨τ1,Γ1,qf,h1,s1,w1⟩;refine⟨τ1,Γ1,Y,_,qf,h1,turn m τ1 Γ1 w1,fun k H2 Γ2 s2 h2 z2=>?_,xr.mono s1⟩;cases k with
  | false=>exact dr.nx σ1 τ1 H2 Γ2 (s1.trans s2) h2 (qf.mono s2.tq) z2
  | true=>
   obtain⟨N,hN,z2⟩:=z2;refine⟨fun σ' H'=>∃ τ' Γ',RS H' σ' τ'∧HR H' Γ'∧dw H Γ H' Γ'∧N τ' Γ',fun σ' H' ⟨τ',Γ',a,b,c,d⟩=>?_,?_⟩
   ·obtain⟨m',hm,w'⟩:=hN τ' Γ' d
    exact⟨m',hm,τ',Γ',a,b,c,w'⟩
   ·have s3:=s1.trans s2
    exact⟨τ1,Γ2,Y,_,qf.mono s2.tq,h2,z2,⟨fun σ' τ' H' Γ' s h r z=>⟨τ',Γ',r,h,s3.trans s,z⟩,dr.rt.mono s3,dr.nx.mono s3,fun σ' τ' H' Γ' s h r z=>⟨τ',Γ',r,h,s3.trans s,z⟩⟩,xr.mono s3⟩
def Jy(own:List Str)(cap:List (Nat×Str))(τ:S3):S3:=List.replicate own.length none++cap.map fun p=>(τ[p.1]?).getD none
theorem vf{H:Hp}:∀{a:St} {b:S3} {c:St} {d:S3},RS H a b→RS H c d→RS H (a++c) (b++d)
 | [],[],_,_,_,h=>h
 | _::_,_::_,_,_,h,q=>⟨h.1,vf h.2 q⟩
 | [],_::_,_,_,h,_=>h.elim
 | _::_,[],_,_,h,_=>h.elim
theorem vd{H:Hp}:∀ n:Nat,RS H (List.replicate n none) (List.replicate n none)
 | 0=>trivial
 | n+1=>⟨trivial,vd n⟩
theorem xF{H:Hp}{σ:St}{τ:S3}(own:List Str)(h:RS H σ τ):∀ cap:List (Nat×Str),RS H (gf own cap σ) (Jy own cap τ):=fun cap=>by
 refine vf (vd _) ?_;induction cap with
 | nil=>exact trivial
 | cons p r ih=>
  refine⟨?_,ih⟩;show Ip H ((σ[p.1]?).getD none) ((τ[p.1]?).getD none)
  cases e:τ[p.1]? with
  | none=>exact trivial
  | some o=>
   cases o with
   | none=>exact trivial
   | some x=>
    obtain⟨v,ev,rv⟩:=h.get e;rw[ev];exact rv
abbrev Y0:X3:=fun _ _ _=>False
def zx(gd:Gp→Prop)(g:G3)(tc:T3)(te:E3)(C:List T→Gp→Prop)(ts:List T)(τ:S3)(ys:List T)(Γ:Gp):Prop:=∃ P:List T→S3→List T→Gp→Prop,P ts τ ys Γ∧(∀ τ ys Γ,P [] τ ys Γ→gd Γ∧C ys Γ) ∧
 ∀ x r τ ys Γ,P (x::r) τ ys Γ→gd Γ∧g Y0 x τ Γ fun τ3 Γ3=>tc Y0 τ3 Γ3 fun b Γ4=>if b=true then te Y0 τ3 Γ4 fun y Γ5=>P r τ3 (ys++[y]) Γ5 else P r τ3 ys Γ4
def rS(wi:I3)(g:G3)(tc:T3)(te:E3)(own:List Str)(cap:List (Nat×Str)):E3:=fun Y τ Γ Z=>wi Y τ Γ fun ts gd Γ1=>ts.length≤sizeLine ∧
 zx gd g tc te (fun ys Γ2=>∀ D,Γ2 D=none→Z (.ref D) (up Γ2 D (.lst ys))) ts (Jy own cap τ) [] Γ1
abbrev EN:St→XK:=fun _=>E0
theorem DS{H:Hp}{Γ:Gp}:XR H Γ Y0 EN:=fun _ _ _ _ _ _ _ _ z=>z.elim
theorem pf{wi:I3}{g:G3}{tc:T3}{te:E3}{own:List Str}{cap:List (Nat×Str)}(σ:St)(H:Hp)(Q:VK)(q:bH E (rS wi g tc te own cap) σ H Q):u3 (rG E wi) (v8 EN g) (iN EN tc) (bH EN te) own cap σ H Q:=by
 obtain⟨τ,Γ,Y,Z,rs,hr,t,vr,xr⟩:=q;refine⟨τ,Γ,Y,_,rs,hr,t,fun J ts gd H1 Γ1 s1 h1 wk ⟨hz,P,z1,p0,pc⟩=>?_,xr⟩;intro D hD;have nl:∀ vs:List V,(∀ us:List V,HO.lst vs≠.tup us)∧∀ b w,HO.lst vs≠.frz b w:=fun _=>⟨fun _ z=>(nomatch z),fun _ _ z=>(nomatch z)⟩;refine⟨fun i m σ' vs H'=>∃ τ' ys Γ',i≤ts.length∧m=ts.length-i∧vs.length≤i∧RS H' σ' τ'∧HR H' Γ'∧H' D=some (.lst vs)∧Γ' D=none∧Rs H' vs ys∧dw H1 Γ1 H' Γ'∧P (ts.drop i) τ' ys Γ',
  ⟨ts.length,Jy own cap τ,[],Γ1,ZL _,rfl,Yz _,(xF own (rs.mono s1.tq) cap).mono (cU (bA hD)),h1.keep (bA hD),az,h1.free hD,bT,.keep (bA hD),z1⟩,?_⟩
 rintro i m σ2 vs H2 ⟨τ2,ys,Γ2,hi,rfl,hv,vg,h2,d2,gD,ry,s2,w2⟩;refine⟨d2,?_⟩;by_cases gC:i < ts.length
 ·rw[drop_cons gC]at w2
  obtain⟨g2,w2⟩:=pc _ _ _ _ _ w2;refine .inr ⟨wk.go i H2 Γ2 s2.tq h2 g2 gC,by omega,fun σ' ws H'=>∃ τ' ys Γ',ws.length≤i+1∧RS H' σ' τ'∧HR H' Γ'∧H' D=some (.lst ws)∧Γ' D=none∧Rs H' ws ys∧dw H1 Γ1 H' Γ'∧P (ts.drop (i+1)) τ' ys Γ',
   fun σ' ws H' ⟨τ',ys,Γ',a,b,c,d,e,f,k,l⟩=>⟨ts.length-(i+1),by omega,τ',ys,Γ',gC,rfl,a,b,c,d,e,f,k,l⟩,fun x H3 yl=>?_⟩
  obtain⟨s3,h3,x3,e3,r3⟩:=wk.sD i H2 Γ2 x H3 s2.tq h2 g2 gC yl;rw[YJ gC]at e3;cases e3;refine⟨_,τ2,Γ2,Y0,_,r3,vg.mono s3.tq,h3,w2,fun σ4 τ4 H4 Γ4 s4 h4 r4 z4=>?_,DS⟩;refine⟨τ4,Γ4,Y0,_,r4,h4,z4,fun k H5 Γ5 s5 h5 z5=>?_,DS⟩;have Fh:=(s3.trans s4).trans s5;have d5:H5 D=some (.lst vs):=Fh.CH D _ d2 gD;have g5:Γ5 D=none:=Fh.new D (by rw[d2];exact fun z=>nomatch z) gD;cases k with
  | false=>exact⟨τ4,ys,Γ5,Nat.le_succ_of_le hv,r4.mono s5.tq,h5,d5,g5,ry.mono Fh.tq,s2.trans Fh,z5⟩
  | true=>
   refine⟨τ4,Γ5,Y0,_,r4.mono s5.tq,h5,z5,fun y y' H6 Γ6 s6 h6 r6 z6=>?_,DS⟩;have IJ:=Fh.trans s6;have d6:H6 D=some (.lst vs):=IJ.CH D _ d2 gD;have g6:Γ6 D=none:=IJ.new D (by rw[d2];exact fun z=>nomatch z) gD;have tq:Tq H6 (upd H6 D (.lst (vs++[y]))):=gX d6 (nl vs);refine⟨d6,τ4,ys++[y'],Γ6,by rw[Yo];exact Nat.succ_le_succ hv,(r4.mono (s5.trans s6).tq).mono tq,h6.hide g6 d6 (nl vs),az,g6,Rs.app ((ry.mono IJ.tq).mono tq) (aY (r6.mono tq) bT),?_,z6⟩;have s7:=s2.trans IJ;refine⟨s7.tq.trans tq,fun a h z=>?_,s7.new,fun a o h g=>?_⟩
   ·by_cases e:a=D
    ·subst e;exact h hD
    ·rw[au e]at z;exact s7.CO a h z
   ·have e:a≠D:=fun e=>by subst e;rw[hD]at h;cases h
    rw[au e];exact s7.CH a o h g
 ·have e:i=ts.length:=by omega
  subst e;rw[abE]at w2;have w2:=p0 _ _ _ w2;refine .inl ⟨wk.stop H2 Γ2 s2.tq h2 w2.1,?_⟩;have nK:=s1.trans s2;refine vr (.ref D) (.ref D) H2 (up Γ2 D (.lst ys)) ⟨nK.tq,nK.CO,fun a h g=>?_,nK.CH⟩ (fun a o g=>?_) d7 (w2.2 D gD)
  ·have e:a≠D:=fun e=>by subst e;exact s1.CO _ h hD
   rw[eN e];exact nK.new a h g
  ·by_cases e:a=D
   ·subst e;rw[bt]at g;cases g;exact⟨vs,d2,ry⟩
   ·rw[eN e]at g;exact h2 a o g
section
variable {scope:Scope}{cl:List (Str×Addr)}{own:List Str}{cap:List (Nat×Str)}{tg iter elt:Expr}{ifs:List Expr}{wi:I3}{g:G3}{tc:T3}{te:E3}
theorem jz(c:dW X scope cl own cap)(hc:X.calm=true)(hi:PI X tg iter (rG E wi))
  (hg:∀ C s H fp,PG (bX X (own++cap.map (·.2)) scope cl C s H fp fun _ _=>False) tg (v8 EN g)) (ht:∀ C s H fp,pQ (bX X (own++cap.map (·.2)) scope cl C s H fp fun _ _=>False) ifs (iN EN tc))
  (he:∀ C s H fp,PE (bX X (own++cap.map (·.2)) scope cl C s H fp fun _ _=>False) elt (bH EN te)) (hs:∀ x,foldedSetIterable iter X.env x=pure x:=by intro _;rfl) :
  PE X (.ListComp elt [⟨tg,iter,ifs,0⟩] scope pos) (bH E (rS wi g tc te own cap)):=ik (yk c hc hi hg ht he hs) pf
theorem xM{i:Nat}{y:Str}{py u4:Pos}(c:dW X scope cl own cap)(hc:X.calm=true)(hi:PI X tg iter (rG E wi))
  (hg:∀ C s H fp,PG (bX X (own++cap.map (·.2)) scope cl C s H fp fun _ _=>False) tg (v8 EN g)) (ht:∀ C s H fp,pQ (bX X (own++cap.map (·.2)) scope cl C s H fp fun _ _=>False) ifs (iN EN tc))
  (he:∀ C s H fp,PE (bX X (own++cap.map (·.2)) scope cl C s H fp fun _ _=>False) elt (bH EN te))
  (hN:X.N.Nodup) (hy:X.N[i]? = some y) (hl:X.env.scope.names.lookup y=some .local)
  (MH:swapsWith (.ListComp elt [⟨tg,iter,ifs,0⟩] scope pos) (some (.Name y py)) u4.line X.env=pure true:=by rfl) (hs:∀ x,foldedSetIterable iter X.env x=pure x:=by intro _;rfl) :
  PS X (.Assign [.Name y py] (.ListComp elt [⟨tg,iter,ifs,0⟩] scope pos) u4) (gQ E (CW i (rS wi g tc te own cap))):=
 cT (x8 c hc hi hg ht he hN hy hl MH hs) fun D σ H τ Γ Y Z rs hr t dr xr=>
  pf σ H _ ⟨τ,Γ,Y,_,rs,hr,t,fun v x H1 Γ1 s1 h1 r1 z1=>dr.nx _ _ H1 Γ1 s1 h1 ((rs.mono s1.tq).set r1 i) z1,xr⟩
def Aj:T3:=fun _ _ Γ Z=>Z true Γ
theorem mH:pQ X [] (iN E Aj):=xm xU fun σ H Q τ Γ Y Z rs hr t vr xr=>vr true H Γ .refl hr t
theorem rp{c:Expr}{t:T3}(h:PT X c (iN E t)):pQ X [c] (iN E t):=xT h
end
end
def aS:List Str→List T→S3
 | [],_=>[]
 | _::N,[]=>none::aS N []
 | _::N,t::ts=>some t::aS N ts
theorem lI{H:Hp}:∀ N:List Str,RS H (List.replicate N.length none) (aS N [])
 | []=>trivial
 | _::N=>⟨trivial,lI N⟩
theorem jT{H:Hp}:∀(N:List Str) {vs:List V} {ts:List T},Rs H vs ts→ts.length≤N.length→RS H (L2.start N vs) (aS N ts)
 | N,vs,[],h,_=>by
  rw[ck h];exact lI N
 | [],vs,t::ts,h,l=>absurd l (by simp)
 | n::N,vs,t::ts,h,l=>by
  obtain⟨v,ws,rfl,a,b⟩:=cV h;have:=jT N b (by simpa using l);refine⟨a,?_⟩;unfold L2.start at this;rw[YF,YF,Nat.add_sub_add_right];exact this
theorem u9{N ps:List Str}{sc:Scope}(S:aE N ps sc):ps.length≤N.length:=by
 have:=ZM List.length S.pre;rw[YG]at this;omega
section
variable {P:Program}{w:World}{K:W.Frag}{mg:Str→Option Value}{base:Heap}
end
section
variable {X:Cx}{x:Str}{C:Addr}{Ah:List Value}{B newId qA:String}{np dE pos:Pos}{e₀:Expr}{rest:List Expr}{t:A3}{E:XK}
def wN(C:Addr)(t:A3):C3:=fun Y D τ Γ=>t Y τ Γ fun xs Γ1=>xs.length≤sizeLine∧Y τ (.ref C) Γ1
theorem eQ(hc:X.calm=true)(hg:Gl X x)(hm:X.mg x=some (.ref C))(hx:W.excIn X.K C Ah newId=true)(FB:ExcBaseFacts B newId qA Ah)(ha:PA X (e₀::rest) (lU (fun _=>E) t))(hE:Raises X E)
  (hd:(x ==("__debug__" : Str))=false:=by decide) (he:starEach (e₀::rest) X.env=(false,eval e₀ X.env)::starEach rest X.env:=by rfl) (fA:(backTo dE (starEach rest X.env)).any (·.1)=false:=by rfl) :
  PS X (.Raise (some (.Call (.Name x np) (e₀::rest) [] dE)) none pos) (gQ (fun _=>E) (wN C t)):=
 cT (vt hc hg hm hx FB ha hE hd he fA) fun D σ H τ Γ Y Z rs hr t dr xr=>
  ⟨τ,Γ,Y,_,rs,hr,t,fun vs xs H1 Γ1 s1 h1 r1 z1=>⟨by rw[r1.length];exact z1.1,xr σ τ _ H1 Γ1 s1 h1 (rs.mono s1.tq) z1.2⟩,xr⟩
end
section
variable {X:Cx}{E:St→XK}{body fL:List Stmt}{b₀:Stmt}{y n:Str}{np oS pos:Pos}{Cy:Addr}{j:Nat}{tb ts:C3}
def wM(K:W.Frag)(Cy:Addr)(tb ts:C3):C3:=fun _ D τ Γ=>tb (fun τ' C Γ'=>W.exmOne K C (.ref Cy)=some true∧ts Y0 D τ' Γ') D τ Γ
theorem rq(kr:X.stack=X.env::X.outer)(Ct:X.env.frame=some X.env.locals)(hy:Gl X y)(GG:X.mg y=some (.ref Cy))
  (hb:∀(E':Value→Shared→Prop) (pn:List (Addr×Obj)) (W:St→XK),(∀ pins σ H s e s',Inv (X.tr E' pn) pins σ H s→nL X.prog X.w X.stack H s (W σ) e s'→E' e s')→gI (X.tr E' pn) body (gQ W tb))
  (hs:∀ x,gI (X.su x) (b₀::fL) (gQ EN ts)) (hd:(y ==("__debug__" : Str))=false:=by decide) :
  PS X (.Try body [.ExceptHandler (some (.Name y np)) none (b₀::fL) oS] [] [] pos) (gQ E (wM X.K Cy tb ts)):=
 cT (xY kr Ct hy GG hb hs hd) fun D σ H τ Γ Y Z rs hr t dr xr=>
  ⟨τ,Γ,_,Z,rs,hr,t,dr,fun σ1 τ1 C H1 Γ1 s1 h1 r1 y1=>⟨y1.1,_,_,Y0,_,r1,h1,y1.2,dr.mono s1,DS⟩⟩
end
def sc:T→Option V
 | .non=>some .non | .bl b=>some (.bl b) | .int i=>some (.int i) | .str z=>some (.str z) | _=>none
theorem xD{H:Hp}{v u:V}{x:T}(r:R H v x)(h:sc x=some u):v=u:=by
 cases x with
 | non=>cases h;exact lY r
 | bl b=>cases h;exact mV r
 | int i=>cases h;exact cm r
 | str z=>cases h;exact oR r
 | tup ts=>cases h
 | ref a=>cases h
 | ty n=>cases h
 | scr K a ts=>cases h
def So:List T→Option (List V)
 | []=>some []
 | x::r=>match sc x,So r with | some v,some vs=>some (v::vs) | _,_=>none
def oP(Γ:Gp):T→Option (List T)
 | .tup ts=>some ts
 | .ref a=>match Γ a with | some (.lst ts)=>some ts | _=>none
 | _=>none
theorem bx{Γ:Gp}{a:Addr}{ts:List T}(h:Γ a=some (.lst ts)):oP Γ (.ref a)=some ts:=by
 show(match Γ a with | some (.lst ts)=>some ts | _=>none)=_
 rw[h]
theorem gR{K:W.Frag}{H:Hp}{Γ:Gp}{a:Addr}{ts:List T}(hr:HR H Γ)(h:oP Γ (.ref a)=some ts):∃ vs,dF K H a vs∧Rs H vs ts:=by
 have h:(match Γ a with | some (.lst ts)=>some ts | _=>none)=some ts:=h;split at h
 ·rename_i Xv g;cases h;obtain⟨vs,ha,q⟩:=hr a _ g;exact⟨vs,dF.of ha,q⟩
 ·cases h
theorem wc{K:W.Frag}{H:Hp}{Γ:Gp}{v:V}{x:T}{ts:List T}(r:R H v x)(hr:HR H Γ)(h:oP Γ x=some ts):∃ p vs,v=.ref p∧(dF K H p vs∨iM K H p vs)∧Rs H vs ts:=by
 cases x with
 | tup us=>cases h;obtain⟨a,vs,e,ha,q⟩:=ko r;exact⟨a,vs,e,.inr (iM.of ha),q⟩
 | ref a=>obtain⟨vs,s,q⟩:=gR (K:=K) hr h;exact⟨a,vs,bz r,.inl s,q⟩
 | _=>cases h
section
variable {X:Cx}{E:St→XK}
def Dq(C:Int→Int→Prop)(g:Int→Int→T):R3:=fun x y Γ Z=>∃ i j,x=.int i∧y=.int j∧C i j∧Z (g i j) Γ
def xI(g:Int→Int→T):R3:=fun x y Γ Z=>∃ i j,x=.int i∧y=.int j∧Z (g i j) Γ
theorem yx{f:Value→Value→Sem Value}{C:Int→Int→Prop}{g:Int→Int→V}{g3:Int→Int→T}(h:gJ X f (rI C g))(e:∀ i j H,R H (g i j) (g3 i j)):ie X f (Dq C g3):=
 ⟨_,h,fun x y a b H Γ Q Z ra rb hr q0 vr=>by obtain⟨i,j,ea,eb,c,z⟩:=q0;subst ea eb;exact⟨i,j,cm ra,cm rb,c,vr _ _ H Γ .refl hr (e i j H) z⟩⟩
theorem qk{f:Value→Value→Sem Value}{g:Int→Int→V}{g3:Int→Int→T}(h:gJ X f (xb g))(e:∀ i j H,R H (g i j) (g3 i j)):ie X f (xI g3):=
 ⟨_,h,fun x y a b H Γ Q Z ra rb hr q0 vr=>by obtain⟨i,j,ea,eb,z⟩:=q0;subst ea eb;exact⟨i,j,cm ra,cm rb,vr _ _ H Γ .refl hr (e i j H) z⟩⟩
theorem bM:ie X (binaryOp .Add) (xI fun i j=>.int (i+j)):=qk BI fun _ _ _=>dD
theorem iZ:ie X (binaryOp .Sub) (xI fun i j=>.int (i-j)):=qk BB fun _ _ _=>dD
theorem qj:ie X (binaryOp .Mult) (Dq zw fun i j=>.int (i * j)):=yx BE fun _ _ _=>dD
theorem mQ:ie X (binaryOp .FloorDiv) (Dq sy fun i j=>.int (i / j)):=yx vK fun _ _ _=>dD
theorem ka:ie X (binaryOp .Mod) (Dq (fun _ j=>0 < j) fun i j=>.int (i % j)):=yx BF fun _ _ _=>dD
theorem qi:ie X (binaryOp .Pow) (Dq Iy fun i j=>.int (i ^ j.toNat)):=yx BD fun _ _ _=>dD
theorem gO:ie X (compareOp .Lt) (xI fun i j=>.bl (decide (i < j))):=qk FJ fun _ _ _=>fQ
theorem vI:ie X (compareOp .LtE) (xI fun i j=>.bl (decide (i≤j))):=qk FK fun _ _ _=>fQ
theorem lN:ie X (compareOp .Gt) (xI fun i j=>.bl (decide (j < i))):=qk FL fun _ _ _=>fQ
theorem FH:ie X (compareOp .GtE) (xI fun i j=>.bl (decide (j≤i))):=qk FN fun _ _ _=>fQ
theorem yv:ie X (inplaceOp .Sub) (xI fun i j=>.int (i-j)):=qk yV fun _ _ _=>dD
def AY:R3:=fun x y Γ Z=>∃ u v,sc x=some u∧sc y=some v∧xC u v=true∧Z (.bl (decide (u=v))) Γ
def Fo:R3:=fun x y Γ Z=>∃ u v,sc x=some u∧sc y=some v∧xC u v=true∧Z (.bl (!decide (u=v))) Γ
theorem gP:ie X (compareOp .Eq) AY:=
 ⟨_,FO,fun x y a b H Γ Q Z ra rb hr q0 vr=>by obtain⟨u,v,ea,eb,c,z⟩:=q0;rw[xD ra ea,xD rb eb];exact⟨c,vr _ _ H Γ .refl hr fQ z⟩⟩
theorem oq:ie X (compareOp .NotEq) Fo:=
 ⟨_,FI,fun x y a b H Γ Q Z ra rb hr q0 vr=>by obtain⟨u,v,ea,eb,c,z⟩:=q0;rw[xD ra ea,xD rb eb];exact⟨c,vr _ _ H Γ .refl hr fQ z⟩⟩
def wd:T→Bool | .non=>true | _=>false
theorem rK{H:Hp}{v:V}{x:T}(r:R H v x):decide (v=.non)=wd x:=by
 cases x with
 | non=>rw[lY r];rfl
 | bl b=>rw[mV r];rfl
 | int i=>rw[cm r];rfl
 | str z=>rw[oR r];rfl
 | tup ts=>obtain⟨a,vs,e,_⟩:=ko r;rw[e];rfl
 | ref a=>rw[bz r];rfl
 | ty n=>rw[My r];rfl
 | scr K a ts=>rw[(we r).1];rfl
theorem kb:ie X (compareOp .Is) (fun x y Γ Z=>y=.non∧Z (.bl (wd x)) Γ):=
 ⟨_,BG,fun x y a b H Γ Q Z ra rb hr q0 vr=>by obtain⟨eb,z⟩:=q0;subst eb;exact⟨lY rb,by rw[rK ra];exact vr _ _ H Γ .refl hr fQ z⟩⟩
theorem yu:ie X (compareOp .IsNot) (fun x y Γ Z=>y=.non∧Z (.bl (!wd x)) Γ):=
 ⟨_,yy,fun x y a b H Γ Q Z ra rb hr q0 vr=>by obtain⟨eb,z⟩:=q0;subst eb;exact⟨lY rb,by rw[rK ra];exact vr _ _ H Γ .refl hr fQ z⟩⟩
theorem rQ{H:Hp}{vs:List V}{ts:List T}(q:Rs H vs ts):vs.isEmpty=ts.isEmpty:=by
 have:=q.length;cases vs<;>cases ts<;>simp_all
theorem ox(hu:X.A.units < cLine):ie X (compareOp .Eq) (fun x y Γ Z=>∃ a b ts,x=.ref a∧y=.ref b∧Γ a=some (.lst ts)∧Γ b=some (.lst [])∧Z (.bl ts.isEmpty) Γ):=
 ⟨_,vL hu,fun x y a b H Γ Q Z ra rb hr q0 vr=>by
  obtain⟨p,p',ts,ea,eb,g1,g2,z⟩:=q0;subst ea eb;obtain⟨vs,hv,q⟩:=hr p _ g1;obtain⟨zy,uA,q'⟩:=hr p' _ g2;rw[ck q']at uA;exact⟨p,p',vs,bz ra,bz rb,dF.of hv,dF.of uA,by rw[rQ q];exact vr _ _ H Γ .refl hr fQ z⟩⟩
theorem vH(hu:X.A.units < cLine):ie X (compareOp .NotEq) (fun x y Γ Z=>∃ a b ts,x=.ref a∧y=.ref b∧Γ a=some (.lst ts)∧Γ b=some (.lst [])∧Z (.bl (!ts.isEmpty)) Γ):=
 ⟨_,vJ hu,fun x y a b H Γ Q Z ra rb hr q0 vr=>by
  obtain⟨p,p',ts,ea,eb,g1,g2,z⟩:=q0;subst ea eb;obtain⟨vs,hv,q⟩:=hr p _ g1;obtain⟨zy,uA,q'⟩:=hr p' _ g2;rw[ck q']at uA;exact⟨p,p',vs,bz ra,bz rb,dF.of hv,dF.of uA,by rw[rQ q];exact vr _ _ H Γ .refl hr fQ z⟩⟩
def AZ:R3:=fun x y Γ Z=>∃ a b ts us,x=.ref a∧y=.ref b∧Γ a=some (.lst ts)∧Γ b=some (.lst us)∧ts.length+us.length≤sizeLine∧∀ p,Γ p=none→Z (.ref p) (up Γ p (.lst (ts++us)))
theorem rD:ie X (binaryOp .Add) AZ:=
 ⟨_,BH,fun x y a b H Γ Q Z ra rb hr q0 vr=>by
  obtain⟨p,p',ts,us,ea,eb,g1,g2,l,z⟩:=q0;subst ea eb;obtain⟨vs,hv,q⟩:=hr p _ g1;obtain⟨zy,uA,q'⟩:=hr p' _ g2;refine⟨p,p',vs,zy,bz ra,bz rb,hv,uA,by rw[q.length,q'.length];exact l,fun c hc=>?_⟩;have k:=bA (o:=.lst (vs++zy)) hc;exact vr _ _ _ _ (.make hc) (hr.make (o3:=.lst (ts++us)) hc ⟨_,az,Rs.app (q.mono (cU k)) (q'.mono (cU k))⟩) d7 (z c (hr.free hc))⟩
theorem rm{H:Hp}{vs:List V}{ts:List T}(q:Rs H vs ts):∀ n:Nat,Rs H (List.replicate n vs).flatten (List.replicate n ts).flatten
 | 0=>bT
 | n+1=>by
  rw[ZA,ZA,Z0,Z0];exact Rs.app q (rm q n)
theorem Ik{H:Hp}{vs:List V}{ts:List T}{i:Int}{t:T}(q:Rs H vs ts)(h:jo ts i=some t):∃ v,jo vs i=some v∧R H v t:=by
 unfold jo at h ⊢;rw[q.length];cases e:oO ts.length i with
 | none=>rw[e]at h;cases h
 | some j=>
  rw[e]at h;have h':ts[j]? = some t:=h;obtain⟨v,hv,r⟩:=q.get h';exact⟨v,hv,r⟩
def sU:R3:=fun x y Γ Z=>∃ ts i t,oP Γ x=some ts∧y=.int i∧jo ts i=some t∧Z t Γ
variable {a b e:Expr}{ta tb te:E3}{pos p2:Pos}
theorem aV(ha:PE X a (bH E ta))(hb:PE X b (bH E tb))(hs:nG b):PE X (.Subscript a b pos) (bH E (CL sU ta tb)):=
 ik (zL Ca ha hb hs) (kc fun x y a b H Γ Q Z ra rb hr q0 vr=>by
  obtain⟨ts,i,t,ea,eb,h,z⟩:=q0;subst eb;obtain⟨p,vs,rfl,sq,q⟩:=wc (K:=X.K) ra hr ea;obtain⟨v,hv,r⟩:=Ik q h;rcases sq with sq | sq
  ·exact .inl ⟨p,vs,i,v,rfl,cm rb,sq,hv,vr _ _ H Γ .refl hr r z⟩
  ·exact .inr (.inl ⟨p,vs,i,v,rfl,cm rb,sq,hv,vr _ _ H Γ .refl hr r z⟩))
abbrev O3:=X3→S3→Gp→(Option Int→Gp→Prop)→Prop
def IY(E:St→XK)(t:O3):TO:=fun σ H Q=>∃ τ Γ Y Z,RS H σ τ∧HR H Γ∧t Y τ Γ Z∧(∀ i H' Γ',dw H Γ H' Γ'→HR H' Γ'→Z i Γ'→Q i H')∧XR H Γ Y E
theorem DY{e:Option Expr}{t t':TO}(h:PO X e t)(w:∀ σ H Q,t' σ H Q→t σ H Q):PO X e t':=⟨fun pins s σ H Q I q=>h.run pins s σ H Q I (w _ _ _ q)⟩
theorem Ap{e:Option Expr}{t0:TO}{t:O3}(h:PO X e t0)(w:∀ σ H Q τ Γ Y Z,RS H σ τ→HR H Γ→t Y τ Γ Z→(∀ i H' Γ',dw H Γ H' Γ'→HR H' Γ'→Z i Γ'→Q i H')→XR H Γ Y E→t0 σ H Q):PO X e (IY E t):=
 DY h (by rintro σ H Q ⟨τ,Γ,Y,Z,rs,hr,q,vr,xr⟩;exact w σ H Q τ Γ Y Z rs hr q vr xr)
def zN(t:E3):O3:=fun Y τ Γ Z=>t Y τ Γ fun x Γ1=>∃ i,x=.int i∧Z (some i) Γ1
theorem gr(h:PE X e (bH E te)):PO X (some e) (IY E (zN te)):=Ap (x9 h) fun σ H Q τ Γ Y Z rs hr t vr xr=>
 ⟨τ,Γ,Y,_,rs,hr,t,fun v x H1 Γ1 s1 h1 r1 q0=>by obtain⟨i,ex,z⟩:=q0;subst ex;exact⟨i,cm r1,vr _ H1 Γ1 s1 h1 z⟩,xr⟩
abbrev F3:=List T→Gp→K3→Prop
def gU(X:Cx)(f:Value)(r3:F3):Prop:=∃ r,gk X f r∧∀ vs ts H Γ Q Z,Rs H vs ts→HR H Γ→r3 ts Γ Z→VR H Γ Z Q→r vs H Q
def Jx(r:F3)(t:A3):E3:=fun Y τ Γ Z=>t Y τ Γ fun ts Γ1=>r ts Γ1 Z
theorem wL{r:List V→Hp→VK→Prop}{r3:F3}{t:A3}(h:∀ vs ts H Γ Q Z,Rs H vs ts→HR H Γ→r3 ts Γ Z→VR H Γ Z Q→r vs H Q)(σ:St)(H:Hp)(Q:VK)(q:bH E (Jx r3 t) σ H Q):Kl r (lU E t) σ H Q:=by
 obtain⟨τ,Γ,Y,Z,rs,hr,t,vr,xr⟩:=q;exact⟨τ,Γ,Y,_,rs,hr,t,fun vs xs H1 Γ1 s1 h1 r1 z1=>h vs xs H1 Γ1 Q Z r1 h1 z1 (vr.mono s1),xr⟩
section
variable {x:Str}{p pos:Pos}{e:Expr}{es:List Expr}{t:A3}{id Tn:String}{r3:F3}
theorem bO(hc:gU X (.builtin id) r3)(hg:Gl X x)(hm:X.mg x=none)(hv:bootBuiltins x=some (.builtin id))(ha:PA X (e::es) (lU E t))(hn:x ≠ "__name__" := by decide)(oT:(x ==("__debug__" : Str))=false:=by decide)
  (he:starEach (e::es) X.env=(false,eval e X.env)::starEach es X.env:=by rfl) (fA:(backTo pos (starEach es X.env)).any (·.1)=false:=by rfl):PE X (.Call (.Name x p) (e::es) [] pos) (bH E (Jx r3 t)):=by
 obtain⟨r,hr,h⟩:=hc;exact ik (oj hr hg hm hv ha hn oT he fA) (wL h)
theorem lL(hc:gU X (.type Tn) r3)(hg:Gl X x)(hm:X.mg x=none)(hv:bootBuiltins x=some (.type Tn))(ha:PA X (e::es) (lU E t))(hn:x ≠ "__name__" := by decide)(oT:(x ==("__debug__" : Str))=false:=by decide)
  (he:starEach (e::es) X.env=(false,eval e X.env)::starEach es X.env:=by rfl) (fA:(backTo pos (starEach es X.env)).any (·.1)=false:=by rfl):PE X (.Call (.Name x p) (e::es) [] pos) (bH E (Jx r3 t)):=by
 obtain⟨r,hr,h⟩:=hc;exact ik (tf hr hg hm hv ha hn oT he fA) (wL h)
end
theorem qf{H:Hp}{vs:List V}{x:T}(h:Rs H vs [x]):∃ v,vs=[v]∧R H v x:=by
 obtain⟨v,ws,rfl,a,b⟩:=cV h;exact⟨v,by rw[ck b],a⟩
theorem vg{H:Hp}{vs:List V}{x y:T}(h:Rs H vs [x,y]):∃ v w,vs=[v,w]∧R H v x∧R H w y:=by
 obtain⟨v,ws,rfl,a,b⟩:=cV h;obtain⟨w,rfl,c⟩:=qf b;exact⟨v,w,rfl,a,c⟩
theorem i8:gU X (.builtin "len") (fun xs Γ Z=>∃ x ts,xs=[x]∧oP Γ x=some ts∧Z (.int ts.length) Γ):=
 ⟨_,iH,fun vs xs H Γ Q Z r hr q0 vr=>by
  obtain⟨x,ts,e,h,z⟩:=q0;subst e;obtain⟨v,rfl,rv⟩:=qf r;obtain⟨p,us,rfl,sq,q⟩:=wc (K:=X.K) rv hr h;exact⟨p,us,rfl,sq,by rw[q.length];exact vr _ _ H Γ .refl hr dD z⟩⟩
theorem rZ:gU X (.type "list") (fun xs Γ Z=>∃ x ts,xs=[x]∧oP Γ x=some ts∧∀ p,Γ p=none→Z (.ref p) (up Γ p (.lst ts))):=
 ⟨_,nA,fun vs xs H Γ Q Z r hr q0 vr=>by
  obtain⟨x,ts,e,h,z⟩:=q0;subst e;obtain⟨v,rfl,rv⟩:=qf r;obtain⟨p,us,rfl,sq,q⟩:=wc (K:=X.K) rv hr h;refine⟨p,us,rfl,sq,fun l hl=>?_⟩;have k:=bA (o:=.lst us) hl;exact vr _ _ _ _ (.make hl) (hr.make (o3:=.lst ts) hl ⟨_,az,q.mono (cU k)⟩) d7 (z l (hr.free hl))⟩
theorem rY(hc:X.calm=true):gU X (.builtin "max") (fun xs Γ Z=>∃ i j,xs=[.int i,.int j]∧Z (.int (if j > i then j else i)) Γ):=
 ⟨_,uo hc,fun vs xs H Γ Q Z r hr q0 vr=>by
  obtain⟨i,j,e,z⟩:=q0;subst e;obtain⟨v,w,rfl,a,b⟩:=vg r;exact⟨i,j,by rw[cm a,cm b],vr _ _ H Γ .refl hr dD z⟩⟩
theorem zf(hc:X.calm=true):gU X (.builtin "min") (fun xs Γ Z=>∃ i j,xs=[.int i,.int j]∧Z (.int (if j < i then j else i)) Γ):=
 ⟨_,um hc,fun vs xs H Γ Q Z r hr q0 vr=>by
  obtain⟨i,j,e,z⟩:=q0;subst e;obtain⟨v,w,rfl,a,b⟩:=vg r;exact⟨i,j,by rw[cm a,cm b],vr _ _ H Γ .refl hr dD z⟩⟩
theorem ve{H:Hp}:∀{ns:List Bool} {vs:List V},Rs H vs (ns.map T.bl)→vs=ns.map V.bl
 | [],vs,h=>ck h
 | n::r,vs,h=>by
  obtain⟨v,ws,rfl,a,b⟩:=cV h;rw[mV a,ve b];rfl
theorem CQ(hc:X.calm=true):gU X (.builtin "all") (fun xs Γ Z=>∃(p:Addr) (bs:List Bool),xs=[.ref p]∧oP Γ (.ref p)=some (bs.map T.bl)∧Z (.bl (bs.all id)) Γ):=
 ⟨_,uq hc,fun vs xs H Γ Q Z r hr q0 vr=>by
  obtain⟨p,ns,e,g,z⟩:=q0;subst e;obtain⟨v,rfl,a⟩:=qf r;obtain⟨us,sq,q⟩:=gR (K:=X.K) hr g;rw[ve q]at sq;exact⟨p,ns,by rw[bz a],sq,vr _ _ H Γ .refl hr fQ z⟩⟩
def fC(Γ:Gp):T→Option String
 | .non=>some "NoneType" | .bl _=>some "bool" | .int _=>some "int" | .str _=>some "str" | .tup _=>some "tuple"
 | .ref a=>match Γ a with | some (.lst _)=>some "list" | some (.dK _)=>some "dict" | _=>none
 | .ty _=>none
 | .scr _ _ _=>none
theorem uS{K:W.Frag}{H:Hp}{Γ:Gp}{v:V}{x:T}{n:String}(r:R H v x)(hr:HR H Γ)(h:fC Γ x=some n):h8 K H v (.type n):=by
 cases x with
 | non=>cases h;rw[lY r];exact .non
 | bl b=>cases h;rw[mV r];exact .bl b
 | int i=>cases h;rw[cm r];exact .int i
 | str z=>cases h;rw[oR r];exact .str z
 | tup ts=>cases h;obtain⟨a,vs,e,ha,_⟩:=ko r;rw[e];exact .tup ha
 | ty n=>cases h
 | scr K a ts=>cases h
 | ref a=>
  rw[bz r];have h:(match Γ a with | some (.lst _)=>some "list" | some (.dK _)=>some "dict" | _=>none)=some n:=h;split at h
  ·rename_i g;cases h;obtain⟨vs,hv,_⟩:=hr a _ g;exact .lst hv
  ·rename_i g;cases h;obtain⟨vs,hv,_⟩:=hr a _ g;exact .dK hv
  ·cases h
def z0(K:W.Frag)(Ty:String)(te:E3):E3:=fun Y τ Γ Z=>te Y τ Γ fun x Γ1=>∃ n b,fC Γ1 x=some n∧W.kitOne K (.type n) (.type Ty)=some b∧Z (.bl b) Γ1
theorem cZ{x:Expr}{te:E3}{p p2 pos:Pos}{Tn:Str}{Ty:String}(hg:Gl X "isinstance")(hm:X.mg "isinstance" = none)(M1:Gl X Tn)(MW:X.mg Tn=none)(MF:bootBuiltins Tn=some (.type Ty))(he:PE X x (bH E te))(hn:Tn ≠ "__name__" := by decide)(M9:(Tn ==("__debug__" : Str))=false:=by decide)
  (hs:starEach [x,.Name Tn p2] X.env=(false,eval x X.env)::starEach [.Name Tn p2] X.env:=by rfl) (js:starEach [.Name Tn p2] X.env=[(false,eval (.Name Tn p2) X.env)]:=by rfl)
  (fA:(backTo pos (starEach [.Name Tn p2] X.env)).any (·.1)=false:=by rfl):PE X (.Call (.Name "isinstance" p) [x,.Name Tn p2] [] pos) (bH E (z0 X.K Ty te)):=
 cj (yg hg hm M1 MW MF he hn M9 hs js fA) fun σ H Q τ Γ Y Z rs hr t vr xr=>
  ⟨τ,Γ,Y,_,rs,hr,t,fun v x H1 Γ1 s1 h1 r1 ⟨n,b,ty,k,z⟩=>⟨v,rfl,.type n,b,uS r1 h1 ty,k,vr _ _ H1 Γ1 s1 h1 fQ z⟩,xr⟩
theorem sd:gU X (.builtin "len") (fun xs Γ Z=>∃ a ts,xs=[.scr X.K a ts]∧Z (.int ts.length) Γ):=
 ⟨_,iH,fun vs xs H Γ Q Z r hr q0 vr=>by
  obtain⟨a,ts,e,z⟩:=q0;subst e;obtain⟨v,rfl,rv⟩:=qf r;obtain⟨rfl,us,sq,q⟩:=we rv;exact⟨a,us,rfl,.inl sq.sq,by rw[q.length];exact vr _ _ H Γ .refl hr dD z⟩⟩
theorem A5(ha:PE X a (bH E ta))(hb:PE X b (bH E tb))(hs:nG b):PE X (.Subscript a b pos) (bH E (CL (fun x y Γ Z=>∃ p ts i t,x=.scr X.K p ts∧y=.int i∧jo ts i=some t∧Z t Γ) ta tb)):=
 ik (zL rJ ha hb hs) (kc fun x y a b H Γ Q Z ra rb hr q0 vr=>by
  obtain⟨p,ts,i,t,ea,eb,h,z⟩:=q0;subst ea eb;obtain⟨rfl,vs,sq,q⟩:=we ra;obtain⟨v,hv,r⟩:=Ik q h;exact⟨p,vs,i,v,rfl,cm rb,sq.sq,hv,vr _ _ H Γ .refl hr r z⟩)
end
section
variable {X:Cx}{E:St→XK}{tg l:Expr}{tl:E3}{pos p:Pos}
abbrev gT:Gp→Prop:=fun _=>True
def Qh(tl:E3):I3:=fun Y τ Γ Z=>tl Y τ Γ fun x Γ1=>∃ a ts,x=.ref a∧oP Γ1 (.ref a)=some ts∧Z ts (fun Γ'=>oP Γ' (.ref a)=some ts) Γ1
theorem sG{K:W.Frag}{H:Hp}{a:Addr}{ts:List T}:Walks (O0 K a) ts (fun Γ'=>oP Γ' (.ref a)=some ts) H where
 go:=fun i H' Γ t hr g hi=>by
  obtain⟨vs,sq,q⟩:=gR (K:=K) hr g;exact⟨vs,vs[i]'(by rw[q.length];exact hi),sq,by simp⟩
 sD:=fun i H' Γ x H2 t hr g hi q0=>by
  obtain⟨e,y⟩:=q0;subst e;obtain⟨vs,sq,q⟩:=gR (K:=K) hr g;obtain⟨t',e',r⟩:=q.t7 (y vs sq);exact⟨.refl,hr,t',e',r⟩
 stop:=fun H' Γ t hr g=>by
  obtain⟨vs,sq,q⟩:=gR (K:=K) hr g;exact⟨vs,sq,by rw[q.length];exact Yz _⟩
theorem dI(hl:PE X l (bH E tl)):PI X tg l (rG E (Qh tl)):=
 iQ (yb hl) fun σ H Q τ Γ Y Z rs hr t vr xr=>⟨τ,Γ,Y,_,rs,hr,t,fun v x H1 Γ1 s1 h1 r1 ⟨a,ts,ex,g,z⟩=>by
  subst ex;obtain⟨vs,sq,q⟩:=gR (K:=X.K) h1 g;exact⟨a,bz r1,⟨vs,sq⟩,vr _ ts _ H1 Γ1 s1 h1 sG z⟩,xr⟩
def hU(lo:Int):Nat→List T
 | 0=>[]
 | n+1=>.int lo::hU (lo+1) n
theorem iy:∀(n:Nat) (lo:Int),(hU lo n).length=n
 | 0,_=>rfl
 | n+1,lo=>by rw[hU,YF,iy n]
theorem nZ:∀(n:Nat) (lo:Int) (i:Nat),i < n→(hU lo n)[i]? = some (.int (lo+i))
 | 0,_,i,h=>absurd h (abM _)
 | n+1,lo,0,_=>by rw[hU];simp
 | n+1,lo,i+1,h=>by
  rw[hU,aaW,nZ n (lo+1) i (by omega)];congr 2
  omega
theorem jM{H:Hp}(lo:Int)(n:Nat):Walks (Iu lo n) (hU lo n) gT H where
 go:=fun i H' Γ t hr _ hi=>by rw[iy]at hi;exact hi
 sD:=fun i H' Γ x H2 t hr _ hi q0=>by
  obtain⟨e,y⟩:=q0;subst e y;rw[iy]at hi;exact⟨.refl,hr,_,nZ n lo i hi,dD⟩
 stop:=fun H' Γ t hr _=>by rw[iy];exact Yz _
def Gu(ta:A3):I3:=fun Y τ Γ Z=>ta Y τ Γ fun xs Γ1=>∃ j:Int,xs=[.int j]∧-(2 ^ 62)≤j∧j < 2 ^ 62∧Z (hU 0 j.toNat) gT Γ1
def Gs(ta:A3):I3:=fun Y τ Γ Z=>ta Y τ Γ fun xs Γ1=>∃ i j:Int,xs=[.int i,.int j]∧(-(2 ^ 62)≤i∧i < 2 ^ 62∧-(2 ^ 62)≤j∧j < 2 ^ 62)∧Z (hU i (j-i).toNat) gT Γ1
theorem sW{a:Expr}{ta:A3}(hg:Gl X "range")(hm:X.mg "range" = none)(ha:PA X [a] (lU E ta))(hs:starEach [a] X.env=[(false,eval a X.env)]:=by rfl):PI X tg (.Call (.Name "range" p) [a] [] pos) (rG E (Gu ta)):=
 iQ (sZ hg hm ha hs) fun σ H Q τ Γ Y Z rs hr t vr xr=>⟨τ,Γ,Y,_,rs,hr,t,fun vs xs H1 Γ1 s1 h1 r1 ⟨j,ex,b1,b2,z⟩=>by
  subst ex;obtain⟨v,rfl,a⟩:=qf r1;exact⟨j,by rw[cm a],b1,b2,vr _ _ gT H1 Γ1 s1 h1 (jM 0 _) z⟩,xr⟩
theorem sV{a b:Expr}{ta:A3}(hg:Gl X "range")(hm:X.mg "range" = none)(ha:PA X [a,b] (lU E ta))(hs:starEach [a,b] X.env=[(false,eval a X.env),(false,eval b X.env)]:=by rfl)(js:starEach [b] X.env=[(false,eval b X.env)]:=by rfl):PI X tg (.Call (.Name "range" p) [a,b] [] pos) (rG E (Gs ta)):=
 iQ (sY hg hm ha hs js) fun σ H Q τ Γ Y Z rs hr t vr xr=>⟨τ,Γ,Y,_,rs,hr,t,fun vs xs H1 Γ1 s1 h1 r1 ⟨i,j,ex,b1,z⟩=>by
  subst ex;obtain⟨v,w,rfl,a,b⟩:=vg r1;exact⟨i,j,by rw[cm a,cm b],b1,vr _ _ gT H1 Γ1 s1 h1 (jM i _) z⟩,xr⟩
def ij:List T→List T→List T
 | x::r,y::q=>.tup [x,y]::ij r q
 | _,_=>[]
theorem fG:∀{xs ys:List T},(ij xs ys).length=min xs.length ys.length
 | [],_=>by simp[ij]
 | _::_,[]=>by simp[ij]
 | x::r,y::q=>by rw[ij,YF,fG,YF,YF];omega
theorem jH:∀{xs ys:List T} {i:Nat} {x y:T},xs[i]? = some x→ys[i]? = some y→(ij xs ys)[i]? = some (.tup [x,y])
 | [],_,_,_,_,h,_=>by simp at h
 | _::_,[],_,_,_,_,h=>by simp at h
 | a::r,b::q,0,x,y,h,h'=>by cases h;cases h';rfl
 | a::r,b::q,i+1,x,y,h,h'=>by rw[ij,aaW];exact jH (by simpa using h) (by simpa using h')
def Qe(ta:A3):I3:=fun Y τ Γ Z=>ta Y τ Γ fun xs Γ1=>∃ ts us,xs=[.tup ts,.tup us]∧Z (ij ts us) gT Γ1
theorem uN{K:W.Frag}{H:Hp}{a b:Addr}{vs ws:List V}{ts us:List T}(ha:H a=some (.tup vs))(q:Rs H vs ts)(hb:H b=some (.tup ws))(q':Rs H ws us):Walks (OY K a b) (ij ts us) gT H where
 go:=fun i H' Γ t hr _ hi=>by
  rw[fG]at hi;exact⟨vs,ws,vs[i]'(by rw[q.length];omega),ws[i]'(by rw[q'.length];omega),iM.of (t.1 a vs ha),iM.of (t.1 b ws hb),by simp,by simp⟩
 sD:=fun i H' Γ v H2 t hr _ hi q0=>by
  obtain⟨p,x,y,hp,e1,e2,y1,y2⟩:=q0;subst e1 e2;obtain⟨t1,f1,r1⟩:=(q.mono t).t7 (y1 vs (iM.of (t.1 a vs ha)));obtain⟨t2,f2,r2⟩:=(q'.mono t).t7 (y2 ws (iM.of (t.1 b ws hb)));have k:=bA (o:=.tup [x,y]) hp;exact⟨.keep k,hr.keep k,_,jH f1 f2,n8 az (aY (r1.mono (cU k)) (aY (r2.mono (cU k)) bT))⟩
 stop:=fun H' Γ t hr _=>⟨vs,ws,iM.of (t.1 a vs ha),iM.of (t.1 b ws hb),by rw[fG,q.length,q'.length];omega⟩
theorem A4{a b:Expr}{ta:A3}{elts:List Expr}{kk:Nat}{eO:Pos}(hg:Gl X "zip")(hm:X.mg "zip" = none)(ha:PA X [a,b] (lU E ta))(hs:starEach [a,b] X.env=[(false,eval a X.env),(false,eval b X.env)]:=by rfl)(js:starEach [b] X.env=[(false,eval b X.env)]:=by rfl):
  PI X (.Tuple elts kk eO) (.Call (.Name "zip" p) [a,b] [] pos) (rG E (Qe ta)):=
 iQ (Bl hg hm ha hs js) fun σ H Q τ Γ Y Z rs hr t vr xr=>⟨τ,Γ,Y,_,rs,hr,t,fun vs xs H1 Γ1 s1 h1 r1 ⟨ts,us,ex,z⟩=>by
  subst ex;obtain⟨v,w,rfl,a,b⟩:=vg r1;obtain⟨pa,va,rfl,ha,qa⟩:=ko a;obtain⟨pb,vb,rfl,hb,qb⟩:=ko b;exact⟨pa,pb,va,vb,rfl,iM.of ha,iM.of hb,vr _ _ gT H1 Γ1 s1 h1 (uN ha qa hb qb) z⟩,xr⟩
def jn(n:Nat):List T→List T
 | []=>[]
 | x::r=>.tup [.int n,x]::jn (n+1) r
theorem i6:∀{xs:List T} {n:Nat},(jn n xs).length=xs.length
 | [],_=>rfl
 | x::r,n=>by rw[jn,YF,i6,YF]
theorem mf:∀{xs:List T} {n i:Nat} {x:T},xs[i]? = some x→(jn n xs)[i]? = some (.tup [.int ((n+i:Nat):Int),x])
 | [],_,_,_,h=>by simp at h
 | a::r,n,0,x,h=>by cases h;rfl
 | a::r,n,i+1,x,h=>by
  rw[jn,aaW,mf (n:=n+1) (by simpa using h)];congr 4
  omega
abbrev DQ:=T→List T→Gp→K3→Prop
def MQ(X:Cx)(id:String)(r3:DQ):Prop:=∃ r,JB X id r∧∀ v x vs ts H Γ Q Z,R H v x→Rs H vs ts→HR H Γ→r3 x ts Γ Z→VR H Γ Z Q→r v vs H Q
def Q4(Tn:String)(r3:DQ)(to:E3)(t:A3):E3:=fun Y τ Γ Z=>to Y τ Γ fun x Γ1=>fC Γ1 x=some Tn∧t Y τ Γ1 fun xs Γ2=>r3 x xs Γ2 Z
def Hw(Tn:String)(r3:DQ)(to:E3):E3:=fun Y τ Γ Z=>to Y τ Γ fun x Γ1=>fC Γ1 x=some Tn∧r3 x [] Γ1 Z
theorem uQ{K:W.Frag}{H:Hp}{Γ:Gp}{v:V}{x:T}{n:String}(r:R H v x)(hr:HR H Γ)(h:fC Γ x=some n)(hn:n = "list" ∨ n = "str" ∨ n = "dict"):IG K n v H:=by
 have ty:=uS (K:=K) r hr h;cases x with
 | non=>cases h;rcases hn with h | h | h<;>exact absurd h (by decide)
 | bl b=>cases h;rcases hn with h | h | h<;>exact absurd h (by decide)
 | int i=>cases h;rcases hn with h | h | h<;>exact absurd h (by decide)
 | str z=>cases h;rw[oR r];rfl
 | tup ts=>cases h;rcases hn with h | h | h<;>exact absurd h (by decide)
 | ty n=>cases h
 | scr K a ts=>cases h
 | ref a=>
  rw[bz r];have h:(match Γ a with | some (.lst _)=>some "list" | some (.dK _)=>some "dict" | _=>none)=some n:=h;split at h
  ·rename_i g;cases h;obtain⟨vs,hv,_⟩:=hr a _ g;exact .inl ⟨rfl,vs,dF.of hv⟩
  ·rename_i g;cases h;obtain⟨vs,hv,_⟩:=hr a _ g;exact .inr (.inr (.inl ⟨rfl,.inl ⟨vs,hv⟩⟩))
  ·cases h
section
variable {o e:Expr}{es:List Expr}{to:E3}{t:A3}{name:Str}{apos dE:Pos}{Tn id:String}{r3:DQ}
theorem A6(pa:PlainAttrs Tn)(slot:Slot Tn name id)(Ci:typeOf (.builtin id)=pure (.type "method_descriptor"))(hm:MQ X id r3)(ho:PE X o (bH E to))(hn:Tn = "list" ∨ Tn = "str" ∨ Tn = "dict" := by decide)
  (ky:attributeBase o name X.env (eval o X.env)=eval o X.env:=by rfl) (ku:(apos.endLine == dE.line)=true:=by rfl):PE X (.Call (.Attribute o name apos) [] [] dE) (bH E (Hw Tn r3 to)):=by
 obtain⟨r,hm,sim⟩:=hm;exact cj (Bz pa slot Ci hm ho ky ku) fun σ H Q τ Γ Y Z rs hr t vr xr=>⟨τ,Γ,Y,_,rs,hr,t,fun v x H1 Γ1 s1 h1 r1 ⟨ty,z⟩=>
  ⟨uQ r1 h1 ty hn,sim v x [] [] H1 Γ1 Q Z r1 bT h1 z (vr.mono s1)⟩,xr⟩
theorem gN(pa:PlainAttrs Tn)(slot:Slot Tn name id)(Ci:typeOf (.builtin id)=pure (.type "method_descriptor"))(hm:MQ X id r3)(ho:PE X o (bH E to))(ha:PA X (e::es) (lU E t))(hn:Tn = "list" ∨ Tn = "str" ∨ Tn = "dict" := by decide)
  (ky:attributeBase o name X.env (eval o X.env)=eval o X.env:=by rfl)
  (Cv:((backTo dE (starEach (e::es) X.env)).all (fun x=>!x.1)&&(backToKw dE (keywordEach [] X.env)).all (fun x=>x.1.isSome)
   && decide ((e::es).length+([]:List Keyword).length+(if([]:List Keyword).isEmpty then 0 else 1) < 30))=true:=by rfl)
  (ku:(apos.endLine == dE.line)=true:=by rfl) (hs:starEach (e::es) X.env=(false,eval e X.env)::starEach es X.env:=by rfl) (qC:(backTo dE (starEach es X.env)).any (·.1)=false:=by rfl) :
  PE X (.Call (.Attribute o name apos) (e::es) [] dE) (bH E (Q4 Tn r3 to t)):=by
 obtain⟨r,hm,sim⟩:=hm;exact cj (FA pa slot Ci hm ho ha ky Cv ku hs qC) fun σ H Q τ Γ Y Z rs hr t vr xr=>⟨τ,Γ,Y,_,rs,hr,t,fun v x H1 Γ1 s1 h1 r1 ⟨ty,z⟩=>
  ⟨uQ r1 h1 ty hn,τ,Γ1,Y,_,rs.mono s1.tq,h1,z,fun vs xs H2 Γ2 s2 h2 r2 z2=>sim v x vs xs H2 Γ2 Q Z (r1.mono s2.tq) r2 h2 z2 (vr.mono (s1.trans s2)),xr.mono s1⟩,xr⟩
end
theorem eS:MQ X "list.append" (fun x ts Γ Z=>∃ a us y,x=.ref a∧ts=[y]∧Γ a=some (.lst us)∧us.length < sizeLine∧Z .non (up Γ a (.lst (us++[y])))):=
 ⟨_,lT,fun v x vs ts H Γ Q Z r rs hr q0 vr=>by
  obtain⟨a,us,y,ex,et,g,l,z⟩:=q0;subst ex et;obtain⟨w,rfl,nV⟩:=qf rs;obtain⟨ws,hw,q⟩:=hr a _ g;refine⟨a,ws,w,bz r,rfl,hw,by rw[q.length];exact l,?_⟩;have s:dw H Γ (upd H a (.lst (ws++[w]))) (up Γ a (.lst (us++[y]))):=.set hr g;exact vr _ _ _ _ s (hr.set g ⟨_,az,Rs.app (q.mono s.tq) (aY (nV.mono s.tq) bT)⟩) n9 z⟩
section
variable {e st:Expr}{te ts:E3}{p2:Pos}
end
end
def Le(Γ Γ':Gp):Prop:=∀ a o,Γ a=some o→Γ' a=some o
theorem Le.refl{Γ:Gp}:Le Γ Γ:=fun _ _ h=>h
theorem Le.trans{Γ Γ1 Γ':Gp}(a:Le Γ Γ1)(b:Le Γ1 Γ'):Le Γ Γ':=fun x o h=>b x o (a x o h)
theorem Le.new{Γ:Gp}{p:Addr}{o:O}(h:Γ p=none):Le Γ (up Γ p o):=fun b u q=>by rw[eN (jD q h)];exact q
theorem HR.le{H:Hp}{Γ Γ':Gp}(h:HR H Γ')(l:Le Γ Γ'):HR H Γ:=fun a o e=>h a o (l a o e)
def Kq(l:List Addr)(Γ Γ':Gp):Prop:=∀ b o,b∉l→Γ b=some o→Γ' b=some o
theorem Kq.refl{l:List Addr}{Γ:Gp}:Kq l Γ Γ:=fun _ _ _ h=>h
theorem Kq.trans{l:List Addr}{Γ Γ1 Γ':Gp}(a:Kq l Γ Γ1)(b:Kq l Γ1 Γ'):Kq l Γ Γ':=fun c o n h=>b c o n (a c o n h)
theorem Kq.mono{l l':List Addr}{Γ Γ1:Gp}(a:Kq l Γ Γ1)(s:∀ b∈l,b∈l'):Kq l' Γ Γ1:=fun c o n h=>a c o (fun z=>n (s c z)) h
theorem Kq.set{l:List Addr}{Γ:Gp}{p:Addr}(h:p∈l)(o:O):Kq l Γ (up Γ p o):=fun b u n q=>by
 have e:b≠p:=fun z=>n (by rw[z];exact h);rw[eN e];exact q
theorem Le.kq{l:List Addr}{Γ Γ':Gp}(k:Le Γ Γ'):Kq l Γ Γ':=fun a o _ h=>k a o h
def Fr(l:List Addr)(Γ Γ':Gp):Prop:=∀ b,b∉l→Γ' b=Γ b
theorem Fr.kq{l:List Addr}{Γ Γ':Gp}(h:Fr l Γ Γ'):Kq l Γ Γ':=fun b o n q=>by rw[h b n];exact q
theorem Fr.set{l:List Addr}{Γ:Gp}{p:Addr}(h:p∈l)(o:O):Fr l Γ (up Γ p o):=fun b n=>eN fun z=>n (by rw[z];exact h)
def eW(Z:K3):K3:=fun x Γ'=>∃ Γ2,Le Γ2 Γ'∧Z x Γ2
theorem bh{Z:K3}{x:T}{Γ Γ':Gp}(k:Le Γ Γ')(z:Z x Γ):eW Z x Γ':=⟨Γ,k,z⟩
theorem CN{Z:K3}{x:T}{Γ Γ':Gp}{a:Addr}{o:O}(k:Kq [a] Γ Γ')(h:Γ' a=some o)(z:Z x (up Γ a o)):eW Z x Γ':=⟨up Γ a o,fun b u q=>by
 by_cases e:b=a
 ·subst e;rw[bt]at q;cases q;exact h
 ·rw[eN e]at q;exact k b u (by simpa using e) q,z⟩
theorem dw.cut{H H':Hp}{Γ Γ' Γ2:Gp}(s:dw H Γ H' Γ')(l:Le Γ2 Γ'):dw H Γ H' Γ2:=⟨s.tq,s.CO,fun a h g=>by
 cases e:Γ2 a with
 | none=>rfl
 | some o=>exact(by have:=l a o e;rw[s.new a h g]at this;cases this),s.CH⟩
section
variable {P:Program}{w:World}{K:W.Frag}{mg:Str→Option Value}{base:Heap}
theorem lO{x qual:Str}{st:Stmt}{f:Addr}{fd:FuncData}{N ps:List Str}{k:Nat}{sp:eK}(F:gj K x qual st f fd)(S:aE N ps (ai st))(len:∀ ts Γ Z Y,sp ts Γ Z Y→ts.length=ps.length)
  (iE:∀(cM:Value) (A:Around) (outer:List Env) (s:Shared) (H:Hp) (E:XK) (ts:List T) (Γ:Gp) (Z:K3) (Y:Value→Gp→Prop),cq k (A.deeper (envOfC qual (ai st) s.heap.objs.size f cM))→sp ts Γ Z Y →
   ∃ t,gI (pe ic P w K mg base N qual (ai st) f cM A outer s H E).tJ (aC st) (gQ EN t)∧t Y0 {nx:=fun _ Γ'=>eW Z .non Γ',rt:=eW Z} (aS N ts) Γ):bJ P w K mg base ic (k+1) f fd ps (cp sp):=by
 refine F.ok S (fun vs H Q E q0=>by obtain⟨ts,Γ,Z,Y,r,_,h,_⟩:=q0;rw[r.length];exact len _ _ _ _ h) fun cM A outer s H vs Q E hr ⟨ts,Γ,Z,Y,r,h,pO,vr,xr⟩=>?_;obtain⟨t,ht,hq⟩:=iE cM A outer s H E ts Γ Z Y hr pO;exact⟨_,ht,aS N ts,Γ,Y0,_,jT N r (by rw[len _ _ _ _ pO];exact u9 S),h,hq,⟨fun σ τ H' Γ' s' h' _ ⟨Γ2,l,z⟩=>vr .non .non H' Γ2 (s'.cut l) (h'.le l) n9 z,fun v x H' Γ' s' h' rv ⟨Γ2,l,z⟩=>vr v x H' Γ2 (s'.cut l) (h'.le l) rv z,fun _ _ _ _ _ _ _ z=>z.elim,fun _ _ _ _ _ _ _ z=>z.elim⟩,DS⟩
theorem vM{x qual:Str}{st:Stmt}{f:Addr}{fd:FuncData}{N ps:List Str}{k:Nat}{sp:eK}(F:gj K x qual st f fd)(S:aE N ps (ai st))(len:∀ ts Γ Z Y,sp ts Γ Z Y→ts.length=ps.length)
  (iE:∀(cM:Value) (A:Around) (outer:List Env) (s:Shared) (H:Hp) (E:XK) (ts:List T) (Γ:Gp) (Z:K3) (Y:Value→Gp→Prop),cq k (A.deeper (envOfC qual (ai st) s.heap.objs.size f cM))→sp ts Γ Z Y →
   ∃ t,gI (ze P w K mg base N qual (ai st) f cM A outer s H E) (aC st) (gQ (fun _=>E) t)∧t (fun _ C Γ'=>∃ Γ2,Le Γ2 Γ'∧Y C Γ2) {nx:=fun _ Γ'=>eW Z .non Γ',rt:=eW Z} (aS N ts) Γ):bJ P w K mg base (nL P w) (k+1) f fd ps (cp sp):=by
 refine F.Te S (fun vs H Q E q0=>by obtain⟨ts,Γ,Z,Y,r,_,h,_⟩:=q0;rw[r.length];exact len _ _ _ _ h) fun cM A outer s H vs Q E hr ⟨ts,Γ,Z,Y,r,h,pO,vr,xr⟩=>?_;obtain⟨t,ht,hq⟩:=iE cM A outer s H E ts Γ Z Y hr pO;exact⟨_,ht,aS N ts,Γ,_,_,jT N r (by rw[len _ _ _ _ pO];exact u9 S),h,hq,⟨fun σ τ H' Γ' s' h' _ ⟨Γ2,l,z⟩=>vr .non .non H' Γ2 (s'.cut l) (h'.le l) n9 z,fun v x H' Γ' s' h' rv ⟨Γ2,l,z⟩=>vr v x H' Γ2 (s'.cut l) (h'.le l) rv z,fun _ _ _ _ _ _ _ z=>z.elim,fun _ _ _ _ _ _ _ z=>z.elim⟩,fun σ τ C H' Γ' s' h' _ ⟨Γ2,l,y⟩=>xr C H' Γ2 (s'.cut l) (h'.le l) y⟩
theorem TU{f:Addr}{fd:FuncData}{ps:List Str}{sp:eK}{k:Nat}{CX:pR}(no:∀ ts Γ Z Y,¬sp ts Γ Z Y):bJ P w K mg base CX k f fd ps (cp sp):=
 ⟨fun vs H Q E ⟨ts,Γ,Z,Y,_,_,h,_⟩=>absurd h (no _ _ _ _),fun A outer s H args us vs Q E _ _ _ _ ⟨ts,Γ,Z,Y,_,_,h,_⟩=>absurd h (no _ _ _ _)⟩
end
theorem Oz{α:Type}{t:α}{ts:List α}:jo (t::ts) 0=some t:=by show jo (t::ts) ((0:Nat):Int)=some t;exact bY rfl
theorem Oy{α:Type}{t u:α}{ts:List α}:jo (t::u::ts) 1=some u:=by show jo (t::u::ts) ((1:Nat):Int)=some u;exact bY rfl
section
variable {Y:X3}{τ:S3}{Γ:Gp}{Z:K3}{D:D3}{B:Bool→Gp→Prop}{N:S3→Gp→Prop}
theorem D8{i:Nat}{x:T}(h:τ[i]? = some (some x))(z:Z x Γ):Hq i Y τ Γ Z:=⟨x,h,z⟩
theorem R0{x:T}(z:Z x Γ):eC x Y τ Γ Z:=z
theorem JQ{r:R3}{a b:E3}(h:a Y τ Γ fun x Γ1=>b Y τ Γ1 fun y Γ2=>r x y Γ2 Z):CL r a b Y τ Γ Z:=h
theorem R4{t:E3}(h:t Y τ Γ fun x Γ1=>∃ k,x=.bl k∧B k Γ1):eT t Y τ Γ B:=h
theorem J8{b:Bool}{Q:Bool→Prop}(h:Q b):∃ k,T.bl b=.bl k∧Q k:=⟨b,rfl,h⟩
theorem Eb{t u:C3}(h:t Y {D with nx:=u Y D} τ Γ):HY t u Y D τ Γ:=h
theorem JU{c:T3}{t u:C3}(h:c Y τ Γ fun b Γ1=>if b=true then t Y D τ Γ1 else u Y D τ Γ1):Ri c t u Y D τ Γ:=h
theorem Ea{i:Nat}{te:E3}(h:te Y τ Γ fun x Γ1=>D.nx (τ.set i (some x)) Γ1):CW i te Y D τ Γ:=h
theorem Ed{te:E3}(h:te Y τ Γ D.rt):HZ te Y D τ Γ:=h
theorem AA{te:E3}(h:te Y τ Γ fun _ Γ1=>D.nx τ Γ1):Af te Y D τ Γ:=h
theorem Au(h:D.nx τ Γ):Ae Y D τ Γ:=h
theorem Ew{a b:E3}(h:a Y τ Γ fun x Γ1=>∃ c,x=.bl c∧if c=true then b Y τ Γ1 Z else Z (.bl false) Γ1):Hy a b Y τ Γ Z:=h
theorem Ee{a:E3}(h:a Y τ Γ fun x Γ1=>∃ c,x=.bl c∧Z (.bl (!c)) Γ1):Ht a Y τ Γ Z:=h
theorem AG{a b:T3}(h:a Y τ Γ fun c Γ1=>if c=true then b Y τ Γ1 B else B false Γ1):Ij a b Y τ Γ B:=h
theorem Es{a b:T3}(h:a Y τ Γ fun c Γ1=>if c=true then B true Γ1 else b Y τ Γ1 B):Rj a b Y τ Γ B:=h
theorem AF{a:T3}(h:a Y τ Γ fun c Γ1=>B (!c) Γ1):Ii a Y τ Γ B:=h
theorem Er{c:T3}{a b:E3}(h:c Y τ Γ fun k Γ1=>if k=true then a Y τ Γ1 Z else b Y τ Γ1 Z):Q2 c a b Y τ Γ Z:=h
theorem Ef{A:List T→Gp→Prop}(h:A [] Γ):De Y τ Γ A:=h
theorem AB{A:List T→Gp→Prop}{te:E3}{t:A3}(h:te Y τ Γ fun x Γ1=>t Y τ Γ1 fun xs Γ2=>A (x::xs) Γ2):Ak te t Y τ Γ A:=h
theorem D9{t:A3}(h:t Y τ Γ fun xs Γ1=>xs.length≤sizeLine∧Z (.tup xs) Γ1):Hr t Y τ Γ Z:=h
theorem Eh{t:A3}(h:t Y τ Γ fun xs Γ1=>xs.length≤sizeLine∧∀ p,Γ1 p=none→Z (.ref p) (up Γ1 p (.lst xs))):Hu t Y τ Γ Z:=h
theorem Ei{n:Nat}{A:Prop}(h:Nat.ble n 1000=true)(a:A):n≤sizeLine∧A:=⟨ZG (Nat.le_of_ble_eq_true h) (by decide),a⟩
theorem AE{sp:eK}{t:A3}(h:t Y τ Γ fun xs Γ1=>sp xs Γ1 Z fun _ _=>False):z9 sp t Y τ Γ Z:=h
theorem J5{r:F3}{t:A3}(h:t Y τ Γ fun ts Γ1=>r ts Γ1 Z):Jx r t Y τ Γ Z:=h
theorem R5{g:Int→Int→T}{i j:Int}(h:Z (g i j) Γ):xI g (.int i) (.int j) Γ Z:=⟨i,j,rfl,rfl,h⟩
theorem Dl{C:Int→Int→Prop}{g:Int→Int→T}{i j:Int}(c:C i j)(h:Z (g i j) Γ):Dq C g (.int i) (.int j) Γ Z:=⟨i,j,rfl,rfl,c,h⟩
theorem Eo{a b:Str}(h:Z (.bl (decide (V.str a=V.str b))) Γ):AY (.str a) (.str b) Γ Z:=⟨_,_,rfl,rfl,rfl,h⟩
theorem Ep{a b:Int}(h:Z (.bl (decide (V.int a=V.int b))) Γ):AY (.int a) (.int b) Γ Z:=⟨_,_,rfl,rfl,rfl,h⟩
theorem Eg{a b:Int}(h:Z (.bl (!decide (V.int a=V.int b))) Γ):Fo (.int a) (.int b) Γ Z:=⟨_,_,rfl,rfl,rfl,h⟩
theorem Ek{t:T}{ts:List T}(z:Z t Γ):sU (.tup (t::ts)) (.int 0) Γ Z:=⟨_,0,t,rfl,rfl,Oz,z⟩
theorem Ej{t u:T}{ts:List T}(z:Z u Γ):sU (.tup (t::u::ts)) (.int 1) Γ Z:=⟨_,1,u,rfl,rfl,Oy,z⟩
theorem J7{Tn:String}{r:DQ}{to:E3}{t:A3}(h:to Y τ Γ fun x Γ1=>fC Γ1 x=some Tn∧t Y τ Γ1 fun xs Γ2=>r x xs Γ2 Z):Q4 Tn r to t Y τ Γ Z:=h
theorem Et{Tn:String}{r:DQ}{to:E3}(h:to Y τ Γ fun x Γ1=>fC Γ1 x=some Tn∧r x [] Γ1 Z):Hw Tn r to Y τ Γ Z:=h
theorem Ay{K:W.Frag}{Ty:String}{te:E3}(h:te Y τ Γ fun x Γ1=>∃ n b,fC Γ1 x=some n∧W.kitOne K (.type n) (.type Ty)=some b∧Z (.bl b) Γ1):z0 K Ty te Y τ Γ Z:=h
theorem Eu{te:E3}{g:G3}(h:te Y τ Γ fun x Γ1=>g Y x τ Γ1 D.nx):CY te g Y D τ Γ:=h
theorem JX{i:Nat}{x:T}(h:N (τ.set i (some x)) Γ):hName i Y x τ Γ N:=h
theorem JV{n:Nat}{gs:xj}{ts:List T}(l:Nat.beq ts.length n=true)(h:gs Y ts τ Γ N):GX n gs Y (.tup ts) τ Γ N:=⟨ts,rfl,Nat.eq_of_beq_eq_true l,h⟩
theorem JY{g:G3}{gs:xj}{x:T}{r:List T}(h:g Y x τ Γ fun τ1 Γ1=>gs Y r τ1 Γ1 N):zR g gs Y (x::r) τ Γ N:=⟨x,r,rfl,h⟩
theorem JZ(h:N τ Γ):G0 Y [] τ Γ N:=⟨rfl,h⟩
theorem JW{to ti:E3}{v:T}(h:to Y τ Γ fun o Γ1=>ti Y τ Γ1 fun i Γ2=>∃ a ts k j,o=.ref a∧i=.int k∧Γ2 a=some (.lst ts)∧oO ts.length k=some j∧N τ (up Γ2 a (.lst (ts.set j v)))):hSub to ti Y v τ Γ N:=h
theorem JP{Q:Option Int→Gp→Prop}{t:E3}(h:t Y τ Γ fun x Γ1=>∃ i,x=.int i∧Q (some i) Γ1):zN t Y τ Γ Q:=h
theorem JR{i:Int}{Q:Int→Prop}(h:Q i):∃ k,T.int i=.int k∧Q k:=⟨i,rfl,h⟩
theorem Em{wi:I3}{g:G3}{tb:C3}(h:wi Y τ Γ fun ts gd Γ1=>D2 gd g tb Y D ts τ Γ1):Ia wi g tb Y D τ Γ:=h
theorem AD{wi:I3}{g:G3}{tc:T3}{te:E3}{own:List Str}{cap:List (Nat×Str)}(h:wi Y τ Γ fun ts gd Γ1=>ts.length≤sizeLine∧zx gd g tc te (fun ys Γ2=>∀ D,Γ2 D=none→Z (.ref D) (up Γ2 D (.lst ys))) ts (Jy own cap τ) [] Γ1):rS wi g tc te own cap Y τ Γ Z:=h
theorem J6(h:B true Γ):Aj Y τ Γ B:=h
theorem xt{C:Addr}{t:A3}(h:t Y τ Γ fun xs Γ1=>xs.length≤sizeLine∧Y τ (.ref C) Γ1):wN C t Y D τ Γ:=h
theorem Ec{ta:A3}{I:List T→(Gp→Prop)→Gp→Prop}(h:ta Y τ Γ fun xs Γ1=>∃ j:Int,xs=[.int j]∧-(2 ^ 62)≤j∧j < 2 ^ 62∧I (hU 0 j.toNat) gT Γ1):Gu ta Y τ Γ I:=h
theorem JK{ta:A3}{I:List T→(Gp→Prop)→Gp→Prop}(h:ta Y τ Γ fun xs Γ1=>∃ ts us,xs=[.tup ts,.tup us]∧I (ij ts us) gT Γ1):Qe ta Y τ Γ I:=h
theorem El{tl:E3}{I:List T→(Gp→Prop)→Gp→Prop}(h:tl Y τ Γ fun x Γ1=>∃ a ts,x=.ref a∧oP Γ1 (.ref a)=some ts∧I ts (fun Γ'=>oP Γ' (.ref a)=some ts) Γ1):Qh tl Y τ Γ I:=h
theorem Ad{b:Bool}{A C:Prop}(h:b=true)(a:A):if b=true then A else C:=by rw[YV h];exact a
theorem sg{b:Bool}{A C:Prop}(h:b=false)(a:C):if b=true then A else C:=by rw[YN (by rw[h];exact Yx)];exact a
theorem cN{b:Bool}{A C:Prop}(h1:b=true→A)(h2:b=false→C):if b=true then A else C:=by
 cases b with
 | true=>rw[YV rfl];exact h1 rfl
 | false=>rw[YN Yx];exact h2 rfl
end
section
variable {X:Cx}
end
section
variable {Y:X3}{τ:S3}{Γ:Gp}{Z:K3}
theorem J9{us ws:List T}{Q:List T→List T→Prop}(h:Q us ws):∃ ts vs,[T.tup us,T.tup ws]=[T.tup ts,T.tup vs]∧Q ts vs:=⟨us,ws,rfl,h⟩
theorem J2{A:Prop}(h:A):gT Γ∧A:=⟨trivial,h⟩
theorem wJ{a b:Int}(h:decide (V.int a=V.int b)=true):a=b:=V.int.inj (YU h)
theorem Ax{us:List T}{Q:T→List T→Prop}(h:Q (.tup us) us):∃ x ts,[T.tup us]=[x]∧oP Γ x=some ts∧Q x ts:=⟨.tup us,us,rfl,rfl,h⟩
theorem xv{r r':R3}{a b c:E3}(h:a Y τ Γ fun x Γ1=>b Y τ Γ1 fun y Γ2=>r x y Γ2 fun z Γ3=>∃ k,z=.bl k∧(if k=true then c Y τ Γ3 fun w' Γ4=>r' y w' Γ4 Z else Z (.bl false) Γ3)):ng r r' a b c Y τ Γ Z:=h
theorem iU{p:Addr}{ts:List T}{Q:T→List T→Prop}(g:Γ p=some (.lst ts))(h:Q (.ref p) ts):∃ x us,[T.ref p]=[x]∧oP Γ x=some us∧Q x us:=⟨.ref p,ts,rfl,bx g,h⟩
theorem eP{p:Addr}{ts:List T}{i:Int}{t:T}(g:Γ p=some (.lst ts))(h:jo ts i=some t)(z:Z t Γ):sU (.ref p) (.int i) Γ Z:=⟨ts,i,t,bx g,rfl,h,z⟩
theorem fz{p:Addr}{ts:List T}{A:Prop}(g:Γ p=some (.lst ts))(h:A):fC Γ (.ref p)=some "list" ∧ A:=⟨by show(match Γ p with | some (.lst _)=>some "list" | some (.dK _)=>some "dict" | _=>none)=_;rw[g],h⟩
end
section
variable {Y:X3}{τ:S3}{Γ:Gp}{Z:K3}{N:S3→Gp→Prop}
theorem Ka{i j:Int}{Q:Int→Int→Prop}(h:Q i j):∃ i' j',[T.int i,T.int j]=[T.int i',T.int j']∧Q i' j':=⟨i,j,rfl,h⟩
theorem uX{p:Addr}{ts:List T}{k:Int}{j:Nat}{v:T}(g:Γ p=some (.lst ts))(h:oO ts.length k=some j)(z:N τ (up Γ p (.lst (ts.set j v)))):∃ a us k' j',T.ref p=.ref a∧T.int k=.int k'∧Γ a=some (.lst us)∧oO us.length k'=some j'∧N τ (up Γ a (.lst (us.set j' v))):=⟨p,ts,k,j,rfl,rfl,g,h,z⟩
end
section
variable {Y:X3}{τ:S3}{Γ:Gp}{Z:K3}{D:D3}
end
inductive Pl:T→Prop
 | int (i:Int):Pl (.int i)
 | str {z:Str}:Pl (.str z)
 | tup {ts:List T} (q:∀ t∈ts,Pl t):Pl (.tup ts)
theorem jG:∀ ts:List T,ij ts ts=ts.map fun y=>.tup [y,y]
 | []=>rfl
 | t::r=>by rw[ij,jG r];rfl
theorem ID{α:Type}{P:List α→Prop}(h:∀ a0,P [a0]):∀ us:List α,us.length=1→P us
 | [a0],_=>h _
theorem w9{α:Type}{P:List α→Prop}(h:∀ a0 a1,P [a0,a1]):∀ us:List α,us.length=2→P us
 | [a0,a1],_=>h _ _
theorem Ar{α:Type}{P:List α→Prop}(h:∀ a0 a1 a2,P [a0,a1,a2]):∀ us:List α,us.length=3→P us
 | [a0,a1,a2],_=>h _ _ _
theorem O9{α:Type}{P:List α→Prop}(h:∀ a0 a1 a2 a3,P [a0,a1,a2,a3]):∀ us:List α,us.length=4→P us
 | [a0,a1,a2,a3],_=>h _ _ _ _
theorem RF{α:Type}{P:List α→Prop}(h:∀ a0 a1 a2 a3 a4,P [a0,a1,a2,a3,a4]):∀ us:List α,us.length=5→P us
 | [a0,a1,a2,a3,a4],_=>h _ _ _ _ _
section
variable {X:Cx}
end
end L3
namespace Sr
open PySem PyProof.Rows
structure SB(a0:Array Keyed)(kd:SortKind)(st:SortSt):Prop where
 perm:(arrOf st).Perm a0
 kind:kindOf st=kd
 failed:failedOf st=none
 pend:pendingOf st=#[]
section
variable {prog:Program}{w:World}{A:Around}{E:Value→Shared→Prop}{s:Shared}{a0:Array Keyed}{kd:SortKind}{st:SortSt}
theorem SB.size(B:SB a0 kd st):(arrOf st).size=a0.size:=B.perm.size_eq
theorem SB.get(B:SB a0 kd st){i:Nat}(h:i < a0.size):∃ x,(arrOf st)[i]? = some x∧x∈a0.toList:=by
 have h':i < (arrOf st).size:=by rw[B.size];exact h
 refine⟨(arrOf st)[i],by simp[h'],?_⟩;have:=B.perm;rw[Zf]at this;exact this.mem_iff.mp (by simp)
end
section
variable {prog:Program}{w:World}{A:Around}{E:Value→Shared→Prop}{s:Shared}
theorem tj(vs:List Value):((pairsOf vs).map fun x=>x.2).toList=vs:=by
 unfold pairsOf;simp only[abI,abH];induction vs with
 | nil=>rfl
 | cons v r ih=>simp only[abw,YC];rw[ih]
theorem oo{vs:List Value}{xs:Array Keyed}(h:xs.Perm (pairsOf vs)):(xs.map fun x=>x.2).toList.Perm vs:=by
 rw[Zf]at h;have:=h.map (fun x:Keyed=>x.2);rw[abI];refine this.trans ?_;rw[← abI,tj]
end
section
variable {prog:Program}{w:World}{A:Around}{E:Value→Shared→Prop}{s:Shared}{M:Model}
theorem qX{α β:Type}{f:α→Sem β}(R:β→Prop):∀(vs:List α) {Q:List β→Shared→Prop},(∀ v∈vs,∀(Q':β→Shared→Prop),(∀ r,R r→Q' r s)→wpAny M A (f v) Q' E s)→(∀ rs:List β,rs.length=vs.length→(∀ r∈rs,R r)→Q rs s)→wpAny M A (List.mapM f vs) Q E s
 | [],Q,h,q=>by
  rw[List.mapM_nil];exact Yp (q [] rfl fun _ h=>nomatch h)
 | v::vs,Q,h,q=>by
  rw[List.mapM_cons];refine Ym (h v (by simp) _ fun r hr=>?_);refine Ym (qX R vs (fun v' hv=>h v' (by simp[hv])) fun rs hl UY=>?_);exact Yp (q (r::rs) (by rw[YF,YF,hl]) fun r' ML=>by
   rcases Yq.mp ML with rfl | h'
   ·exact hr
   ·exact UY _ h')
theorem qY{α β:Type}{f:α→Sem β}(R:β→Prop){vs:List α}{Q:Array β→Shared→Prop}(h:∀ v∈vs,∀(Q':β→Shared→Prop),(∀ r,R r→Q' r s)→wpAny M A (f v) Q' E s)(q:∀ rs:List β,rs.length=vs.length→(∀ r∈rs,R r)→Q rs.toArray s):wpAny M A (Array.mapM f vs.toArray) Q E s:=by
 rw[Array.mapM_eq_mapM_toList,map_eq_pure_bind];exact Ym (qX R vs h fun rs hl hr=>Yp (q rs hl hr))
end
end Sr
namespace L2
open PySem PySem.Spec PyProof.Rows
theorem sH:∀{us zA:List Value},zA.Perm us→∀{xs:List V},Vals xs us→∃ zs,zs.Perm xs∧Vals zs zA:=by
 intro us zA p;induction p with
 | nil=>intro xs h;exact⟨xs,.refl _,h⟩
 | @cons u l1 l2 p ih=>
  intro xs h;cases h with
  | @cons x u xs us r h'=>
   obtain⟨zs,pz,hz⟩:=ih h';exact⟨x::zs,pz.cons _,.cons r hz⟩
 | swap u v l=>
  intro xs h;cases h with
  | @cons x u xs us r h'=>
   cases h' with
   | @cons y v ys vs r2 h2=>exact⟨y::x::ys,.swap _ _ _,.cons r2 (.cons r h2)⟩
 | trans p1 p2 Cf Ce=>
  intro xs h;obtain⟨zs,pz,hz⟩:=Ce h;obtain⟨ws,pw,hw⟩:=Cf hz;exact⟨ws,pw.trans pz,hw⟩
section
variable {X:Cx}
end
end L2
namespace L3
open PySem PySem.Spec L2
theorem xE{H:Hp}{α:Type}{f:α→T}:∀{vs zy:List V},zy.Perm vs→∀{ns:List α},Rs H vs (ns.map f)→∃ ms:List α,ms.Perm ns∧Rs H zy (ms.map f):=by
 intro vs zy p;induction p with
 | nil=>intro ns h;exact⟨ns,.refl _,h⟩
 | @cons u l1 l2 p ih=>
  intro ns h;cases ns with
  | nil=>cases ck h
  | cons n ns=>
   obtain⟨v,ws,e,a,b⟩:=cV h;cases e;obtain⟨ms,pm,hm⟩:=ih b;exact⟨n::ms,pm.cons _,aY a hm⟩
 | swap u v l=>
  intro ns h;cases ns with
  | nil=>cases ck h
  | cons n ns=>
   obtain⟨_,_,e,a,b⟩:=cV h;cases e;cases ns with
   | nil=>cases ck b
   | cons m ns=>
    obtain⟨_,_,e,a2,b2⟩:=cV b;cases e;exact⟨m::n::ns,.swap _ _ _,aY a2 (aY a b2)⟩
 | trans p1 p2 Cf Ce=>
  intro ns h;obtain⟨zs,pz,hz⟩:=Ce h;obtain⟨ws,pw,hw⟩:=Cf hz;exact⟨ws,pw.trans pz,hw⟩
section
variable {X:Cx}
end
end L3
namespace L2
open PySem PySem.Spec PyProof.Rows
section
variable {prog:Program}{w:World}{A:Around}{E:Value→Shared→Prop}{s:Shared}
end
section
variable {X:Cx}
end
end L2
namespace L3
open PySem PySem.Spec L2
section
variable {X:Cx}{E:St→XK}
end
end L3
namespace L2
open PySem PySem.Spec PyProof.Rows
section
variable {X:Cx}{tg:Expr}
end
end L2
namespace L3
open PySem PySem.Spec L2
open PyProof.Rows hiding St
section
variable {X:Cx}{E:St→XK}{tg:Expr}{p pos:Pos}
theorem iA:MQ X "list.pop" (fun x ts Γ Z=>∃ a us k y,x=.ref a∧ts=[.int (k:Nat)]∧Γ a=some (.lst us)∧k < 2 ^ 30∧us[k]? = some y∧Z y (up Γ a (.lst (us.eraseIdx k)))):=
 ⟨_,vU,fun v x vs ts H Γ Q Z r rs hr q0 vr=>by
  obtain⟨a,us,k,y,ex,et,g,hk,hy,z⟩:=q0;subst ex et;obtain⟨w,rfl,nV⟩:=qf rs;obtain⟨va,ME,qa⟩:=hr a _ g;have hl:k < us.length:=(YO.mp hy).1;obtain⟨vy,UP,ry⟩:=qa.get hy;refine⟨a,va,(k:Int),k,vy,bz r,by rw[cm nV],ME,by omega,by omega,?_,UP,?_⟩
  ·have h:oO va.length (k:Int)=some k:=by
    unfold oO;rw[YV (by omega),YV (by rw[qa.length];omega),Zm]
   exact(mT h).1
  ·have s:dw H Γ (upd H a (.lst (va.eraseIdx k))) (up Γ a (.lst (us.eraseIdx k))):=.set hr g
   have qe:Rs H (va.eraseIdx k) (us.eraseIdx k):=by
    rw[Z1,Z1];exact Rs.app (qa.take k) (qa.drop (k+1))
   exact vr _ _ _ _ s (hr.set g ⟨_,az,qe.mono s.tq⟩) (ry.mono s.tq) z⟩
theorem mP:ie X (binaryOp .Mult) (fun x y Γ Z=>∃ a k ts,x=.ref a∧y=.int k∧Γ a=some (.lst ts)∧-(2 ^ 63)≤k∧k < 2 ^ 63∧ts.length * k.toNat≤sizeLine∧∀ p,Γ p=none→Z (.ref p) (up Γ p (.lst (List.replicate k.toNat ts).flatten))):=
 ⟨_,BC,fun x y a b H Γ Q Z ra rb hr q0 vr=>by
  obtain⟨p,k,ts,ea,eb,g,k1,k2,hl,z⟩:=q0;subst ea eb;obtain⟨vs,hv,q⟩:=hr p _ g;refine⟨p,k,vs,bz ra,by rw[cm rb],hv,k1,k2,by rw[q.length];exact hl,fun l DA=>?_⟩;have kk:=bA (o:=.lst (List.replicate k.toNat vs).flatten) DA;exact vr _ _ _ _ (.make DA) (hr.make (o3:=.lst (List.replicate k.toNat ts).flatten) DA ⟨_,az,(rm q _).mono (cU kk)⟩) d7 (z l (hr.free DA))⟩
end
end L3
namespace L2
open PySem PySem.Spec PyProof.Rows
section
variable {X:Cx}
def OX(K:W.Frag)(a:Addr)(xs:List V):Prop:=∃(o:Obj) (aA:Array Value) (n:Nat),K.lookup a=some o∧o.cls=.type "tuple" ∧ o.data=.seq aA n∧aA.size≤sizeLine∧Vals xs aA.toList
end
end L2
namespace L3
open PySem PySem.Spec L2
section
variable {X:Cx}
end
end L3
namespace Sr
open PySem PyProof.Rows
section
variable {O:KeyOrd}(κ:Keyed→O.α)(d0:O.α)
def Le(a b:O.α):Prop:=O.blt b a=false
theorem Le.refl(a:O.α):Le a a:=O.irrefl a
theorem Le.of_lt{a b:O.α}(h:O.blt a b=true):Le a b:=by
 unfold Le;cases e:O.blt b a with
 | false=>rfl
 | true=>have:=O.trans a b a h e;rw[O.irrefl]at this;cases this
def dv(xs:Array Keyed)(i:Nat):O.α:=match xs[i]? with
 | some p=>κ p
 | none=>d0
theorem du{xs:Array Keyed}{i:Nat}{p:Keyed}(h:xs[i]? = some p):dv κ d0 xs i=κ p:=by unfold dv;rw[h]
def wW(xs:Array Keyed)(n:Nat):Prop:=∀ i j,i≤j→j < n→Le (dv κ d0 xs i) (dv κ d0 xs j)
end
section
variable {prog:Program}{w:World}{A:Around}{E:Value→Shared→Prop}{s:Shared}{a0:Array Keyed}{kd:SortKind}{st:SortSt}{O:KeyOrd}{κ:Keyed→O.α}{d0:O.α}
def jt(M:Model)(A:Around)(s:Shared)(kd:SortKind)(a0:Array Keyed)(O:KeyOrd)(κ:Keyed→O.α):Prop:=∀ x∈a0.toList,∀ y∈a0.toList,κ x≠κ y→∀(Q:Bool→Shared→Prop) (E:Value→Shared→Prop),Q (O.blt (κ x) (κ y)) s→wpAny M A (keyLt' kd x.1 y.1) Q E s
def ux(κ:Keyed→O.α)(a0:Array Keyed):Prop:=(a0.toList.map κ).Nodup
theorem ux.ne(D:ux κ a0)(B:SB a0 kd st){i j:Nat}(hi:i < a0.size)(hj:j < a0.size)(n:i≠j):dv κ d0 (arrOf st) i≠dv κ d0 (arrOf st) j:=by
 have p:=B.perm;rw[Zf]at p;have nd:((arrOf st).toList.map κ).Nodup:=(p.map κ).nodup_iff.mpr D;obtain⟨x,ex,_⟩:=B.get hi;obtain⟨y,ey,_⟩:=B.get hj;rw[du κ d0 ex,du κ d0 ey];intro e;have hl:∀ k,k < a0.size→k < ((arrOf st).toList.map κ).length:=fun k hk=>by rw[Yw,Yu,B.size];exact hk
 have hx:((arrOf st).toList.map κ)[i]'(hl i hi)=κ x:=by
  have:((arrOf st).toList.map κ)[i]? = some (κ x):=by rw[Y2,YK,ex];rfl
  exact(YO.mp this).2
 have hy:((arrOf st).toList.map κ)[j]'(hl j hj)=κ y:=by
  have:((arrOf st).toList.map κ)[j]? = some (κ y):=by rw[Y2,YK,ey];rfl
  exact(YO.mp this).2
 have pw:=ZQ.mp nd;rcases Nat.lt_or_gt_of_ne n with h | h
 ·exact pw i j (hl i hi) (hl j hj) h (by rw[hx,hy,e])
 ·exact pw j i (hl j hj) (hl i hi) h (by rw[hx,hy,e])
theorem jf{a b:O.α}(n:a≠b)(h:O.blt a b=false):O.blt b a=true:=by
 cases e:O.blt b a with
 | true=>rfl
 | false=>exact absurd (O.total a b h e) n
theorem kI{xs:Array Keyed}{src d:Nat}(h:src < xs.size)(hd:d≤src)(k:Nat):dv κ d0 (bubble xs src d) k=if k=src-d then dv κ d0 xs src else if src-d < k∧k≤src then dv κ d0 xs (k-1)else dv κ d0 xs k:=by
 unfold dv;rw[getElem?_bubble h d hd k];by_cases c:k=src-d
 ·rw[YV c,YV c]
 ·rw[YN c,YN c]
  by_cases c2:src-d < k∧k≤src
  ·rw[YV c2,YV c2]
  ·rw[YN c2,YN c2]
end
end Sr
namespace L2
open PySem PySem.Spec PyProof.Rows
def zt(P:Program)(w:World)(K:W.Frag)(mg:Str→Option Value)(base:Heap)(C:Addr)(m:Str)(k:Nat)(ps:List Str)(sp:Sp):Prop:=
 ∃ f fd,bJ P w K mg base ic k f fd ps sp∧ju K C∧Meth K C m f∧Binds K fd ps []
def pH(P:Program)(w:World)(K:W.Frag)(mg:Str→Option Value)(base:Heap)(C:Addr)(m:Str)(k:Nat)(ps:List Str)(sp:Sp):Prop:=
 ∃ f fd,bJ P w K mg base (nL P w) k f fd ps sp∧ju K C∧Meth K C m f∧Binds K fd ps []
def zu(P:Program)(w:World)(K:W.Frag)(mg:Str→Option Value)(base:Heap)(C:Addr)(k:Nat)(ps:List Str)(sp:Sp):Prop:=
 ∃ f fd,bJ P w K mg base ic k f fd ps sp∧Mk K C f∧Binds K fd ps []
end L2
namespace L3
open PySem PySem.Spec L2
def oi(f:Str)(v:T):List (Str×T)→List (Str×T)
 | []=>[(f,v)]
 | (g,x)::r=>if g=f then(g,v)::r else(g,x)::oi f v r
section
variable {H:Hp}
theorem Fs.len:∀{gs:List (Str×V)} {fs:List (Str×T)},Fs H gs fs→gs.length=fs.length
 | _,_,.nil=>rfl
 | _,_,.cons a b=>by rw[YF,YF,Fs.len b]
theorem Fs.get:∀{gs:List (Str×V)} {fs:List (Str×T)} {f:Str} {t:T},Fs H gs fs→fs.lookup f=some t→∃ v,gs.lookup f=some v∧R H v t
 | _,_,f,t,.nil,h=>by cases h
 | (g,v)::gs,(g',x)::fs,f,t,.cons a b,h=>by
  obtain⟨e,r⟩:=a;have e:g=g':=e;subst e;rw[List.lookup_cons]at h ⊢;split at h
  ·cases h;exact⟨v,rfl,r⟩
  ·exact Fs.get b h
theorem Fs.non:∀{gs:List (Str×V)} {fs:List (Str×T)} {f:Str},Fs H gs fs→fs.lookup f=none→gs.lookup f=none
 | _,_,f,.nil,h=>rfl
 | (g,v)::gs,(g',x)::fs,f,.cons a b,h=>by
  obtain⟨e,r⟩:=a;have e:g=g':=e;subst e;rw[List.lookup_cons]at h ⊢;split at h
  ·cases h
  ·exact Fs.non b h
theorem Fs.put{v:V}{t:T}(r:R H v t)(f:Str):∀{gs:List (Str×V)} {fs:List (Str×T)},Fs H gs fs→Fs H (fi f v gs) (oi f t fs)
 | _,_,.nil=>.cons ⟨rfl,r⟩ .nil
 | (g,w)::gs,(g',x)::fs,.cons a b=>by
  obtain⟨e,q⟩:=a;have e:g=g':=e;subst e;unfold fi oi;split
  ·exact .cons ⟨rfl,r⟩ b
  ·exact .cons ⟨rfl,q⟩ (Fs.put r f b)
end
section
variable {X:Cx}{E:St→XK}{C:Addr}
def Hv(C:Addr)(to:E3)(f:Str):E3:=fun Y τ Γ Z=>to Y τ Γ fun x Γ1=>∃ a dx fs v,x=.ref a∧Γ1 a=some (.ins C dx fs)∧fs.lookup f=some v∧Z v Γ1
theorem bG{e:Expr}{f:Str}{to:E3}{pos:Pos}(c:ju X.K C)(n:aU X.K C f)(he:PE X e (bH E to))(hb:attributeBase e f X.env (eval e X.env)=eval e X.env:=by rfl):PE X (.Attribute e f pos) (bH E (Hv C to f)):=
 cj (By he hb) fun σ H Q τ Γ Y Z rs hr t vr xr=>by
  refine⟨τ,Γ,Y,_,rs,hr,t,fun v x H1 Γ1 s1 h1 r1 z1=>?_,xr⟩;obtain⟨a,dx,fs,u,rfl,g,l,z⟩:=z1;obtain⟨gs,hg,q⟩:=h1 a _ g;obtain⟨v',l',r'⟩:=q.get l;exact⟨a,C,dx,gs,v',bz r1,hg,c,n,l',vr v' u H1 Γ1 s1 h1 r' z⟩
def Ib(C:Addr)(to tv:E3)(f:Str):C3:=fun Y D τ Γ=>tv Y τ Γ fun y Γ1=>to Y τ Γ1 fun x Γ2=>∃ a dx fs,x=.ref a∧Γ2 a=some (.ins C dx fs)∧fs.length < 1000∧D.nx τ (up Γ2 a (.ins C dx (oi f y fs)))
theorem Cp{H:Hp}{a C dx:Addr}{u:HO}{gs:List (Str×V)}{fs:List (Str×T)}(h:H a=some u)(n:(∀ vs:List V,u≠.tup vs)∧∀ b w,u≠.frz b w)(q:Fs H gs fs):Ho (upd H a (.ins C dx gs)) a (.ins C dx fs):=⟨gs,az,q.mono (gX h n)⟩
theorem jX{o value:Expr}{f:Str}{to tv:E3}{pos pos':Pos}(c:ju X.K C)(n:aU X.K C f)(ha:PE X o (bH E to))(hv:PE X value (bH E tv))(hs:swapsWith value (some (.Attribute o f pos')) pos.line X.env=pure false:=by rfl):PS X (.Assign [.Attribute o f pos'] value pos) (gQ E (Ib C to tv f)):=
 cT (Bg ha hv hs) fun D σ H τ Γ Y Z rs hr t dr xr=>by
  refine⟨τ,Γ,Y,_,rs,hr,t,fun y y3 H1 Γ1 s1 h1 r1 z1=>?_,xr⟩;refine⟨τ,Γ1,Y,_,rs.mono s1.tq,h1,z1,fun v x H2 Γ2 s2 h2 r2 z2=>?_,xr.mono s1⟩;obtain⟨a,dx,fs,rfl,g,l,z⟩:=z2;obtain⟨gs,hg,q⟩:=h2 a _ g;refine⟨a,C,dx,gs,bz r2,hg,c,n,by rw[q.len];exact l,?_⟩;have hh:=(h2 a _ g).some;obtain⟨u,hu,nn⟩:=hh;have st:dw H2 Γ2 (upd H2 a (.ins C dx (fi f y gs))) (up Γ2 a (.ins C dx (oi f y3 fs))):=dw.set h2 g;exact dr.nx _ _ _ _ ((s1.trans s2).trans st) (h2.set g (Cp hu nn (Fs.put (r1.mono s2.tq) f q))) (rs.mono ((s1.trans s2).trans st).tq) z
abbrev w5(P:Program)(w:World)(K:W.Frag)(mg:Str→Option Value)(base:Heap)(C:Addr)(m:Str)(k:Nat)(ps:List Str)(sp:eK):Prop:=zt P w K mg base C m k ps (cp sp)
abbrev kL(P:Program)(w:World)(K:W.Frag)(mg:Str→Option Value)(base:Heap)(C:Addr)(m:Str)(k:Nat)(ps:List Str)(sp:eK):Prop:=pH P w K mg base C m k ps (cp sp)
abbrev O4(P:Program)(w:World)(K:W.Frag)(mg:Str→Option Value)(base:Heap)(C:Addr)(k:Nat)(ps:List Str)(sp:eK):Prop:=zu P w K mg base C k ps (cp sp)
def wF(C:Addr)(m:Str)(sp:eK)(to:E3)(t:A3):E3:=fun Y τ Γ Z=>to Y τ Γ fun x Γ1=>∃ a dx fs,x=.ref a∧Γ1 a=some (.ins C dx fs)∧fs.lookup m=none∧t Y τ Γ1 fun xs Γ2=>sp (.ref a::xs) Γ2 Z fun _ _=>False
variable {m:Str}{k j:Nat}{ps:List Str}{sp:eK}{o e:Expr}{es:List Expr}{to:E3}{t:A3}{apos pos p:Pos}{pl:Sem Bool}
theorem rA(c:w5 X.prog X.w X.K X.mg X.base C m k ps sp)(hr:cq j X.A)(hk:k≤j)(he:PE X o (bH E to))(ha:PA X (e::es) (lU E t))
  (kr:starEach (e::es) X.env=(false,eval e X.env)::starEach es X.env:=by rfl) (fA:(backTo pos (starEach es X.env)).any (·.1)=false:=by rfl)
  (ht:eval (.Call (.Attribute o m apos) (e::es) [] pos) X.env=(do
   let ov ← eval o X.env
   standAt apos.atName
   let(f,first) ← holding [ov] (getMethod ov m pl)
   callWith pos f first (backTo pos (starEach (e::es) X.env)) (backToKw pos (keywordEach [] X.env))):=by rfl):PE X (.Call (.Attribute o m apos) (e::es) [] pos) (bH E (wF C m sp to t)):=by
 obtain⟨f,fd,F,c,hm,hb⟩:=c;refine cj (ye (pl:=pl) (E:=E0) he c hm F (hr.mono hk) hb .nil (fun _ _ _ _ _ _ _ z=>z.elim) ha kr fA ht) fun σ H Q τ Γ Y Z rs hr t vr xr=>?_;refine⟨τ,Γ,Y,_,rs,hr,t,fun v x H1 Γ1 s1 h1 r1 z1=>?_,xr⟩;obtain⟨a,dx,fs,rfl,g,l,z⟩:=z1;obtain⟨gs,hg,q⟩:=h1 a _ g;refine⟨a,dx,gs,bz r1,hg,q.non l,?_⟩;refine⟨τ,Γ1,Y,_,rs.mono s1.tq,h1,z,fun vs xs H2 Γ2 s2 h2 r2 z2=>?_,xr.mono s1⟩;show cp sp (v::(vs++[])) H2 Q E0
 rw[YY,bz r1];exact⟨.ref a::xs,Γ2,Z,_,aY d7 r2,h2,z2,vr.mono (s1.trans s2),fun _ _ _ _ _ z=>z.elim⟩
theorem fU(c:w5 X.prog X.w X.K X.mg X.base C m k ps sp)(hr:cq j X.A)(hk:k≤j)(he:PE X o (bH E to))
  (ht:eval (.Call (.Attribute o m apos) [] [] pos) X.env=(do
   let ov ← eval o X.env
   standAt apos.atName
   let(f,first) ← holding [ov] (getMethod ov m pl)
   callWith pos f first (backTo pos (starEach [] X.env)) (backToKw pos (keywordEach [] X.env))):=by rfl):PE X (.Call (.Attribute o m apos) [] [] pos) (bH E (wF C m sp to De)):=by
 obtain⟨f,fd,F,c,hm,hb⟩:=c;refine cj (vA (pl:=pl) (E:=E0) he c hm F (hr.mono hk) hb .nil (fun _ _ _ _ _ _ _ z=>z.elim) ht) fun σ H Q τ Γ Y Z rs hr t vr xr=>?_;refine⟨τ,Γ,Y,_,rs,hr,t,fun v x H1 Γ1 s1 h1 r1 z1=>?_,xr⟩;obtain⟨a,dx,fs,rfl,g,l,z⟩:=z1;obtain⟨gs,hg,q⟩:=h1 a _ g;refine⟨a,dx,gs,bz r1,hg,q.non l,?_⟩;show cp sp (v::([]++[])) H1 Q E0
 rw[bz r1];exact⟨[.ref a],Γ1,Z,_,aY d7 bT,h1,z,vr.mono s1,fun _ _ _ _ _ z=>z.elim⟩
def zZ(C:Addr)(sp:eK)(t:A3):E3:=fun Y τ Γ Z=>t Y τ Γ fun xs Γ1=>∀ x dx,Γ1 x=none→Γ1 dx=none→dx≠x→sp (.ref x::xs) (up Γ1 x (.ins C dx [])) (fun v Γ2=>v=.non∧Z (.ref x) Γ2) fun _ _=>False
theorem rB{x:Str}(c:O4 X.prog X.w X.K X.mg X.base C k ps sp)(hr:cq j X.A)(hk:k+1≤j)(hg:Gl X x)(hm:X.mg x=some (.ref C))(ha:PA X (e::es) (lU E t))(oT:(x ==("__debug__" : Str))=false:=by decide)
  (he:starEach (e::es) X.env=(false,eval e X.env)::starEach es X.env:=by rfl) (fA:(backTo pos (starEach es X.env)).any (·.1)=false:=by rfl):PE X (.Call (.Name x p) (e::es) [] pos) (bH E (zZ C sp t)):=by
 obtain⟨f,fd,F,M,hb⟩:=c;refine cj (yf (E:=E0) M F (hr.mono hk) hg hm hb .nil (fun _ _ _ _ _ _ _ z=>z.elim) ha oT he fA) fun σ H Q τ Γ Y Z rs hr t vr xr=>?_;refine⟨τ,Γ,Y,_,rs,hr,t,fun vs xs H1 Γ1 s1 h1 r1 z1=>?_,xr⟩;intro x dx hx Jn ne;rw[YY];have k1:=bA (o:=.own x) Jn;have yY:(upd H1 dx (.own x)) x=none:=by rw[au (aaV ne)];exact hx
 have bR:dw H1 Γ1 (upd H1 dx (.own x)) Γ1:=.keep k1;have Vz:HR (upd H1 dx (.own x)) Γ1:=h1.keep k1;have fO:dw (upd H1 dx (.own x)) Γ1 (upd (upd H1 dx (.own x)) x (.ins C dx [])) (up Γ1 x (.ins C dx [])):=.make yY;have h2:=Vz.make (o:=.ins C dx []) (o3:=.ins C dx []) yY ⟨[],az,.nil⟩;refine⟨.ref x::xs,_,_,_,aY d7 (r1.mono (bR.trans fO).tq),h2,z1 x dx (h1.free hx) (h1.free Jn) ne,fun v u H3 Γ3 s3 h3 r3 z3=>?_,fun _ _ _ _ _ z=>z.elim⟩;obtain⟨rfl,z⟩:=z3;exact⟨lY r3,vr _ _ H3 Γ3 (s1.trans ((bR.trans fO).trans s3)) h3 d7 z⟩
end
end L3
namespace L2
open PySem PySem.Spec PyProof.Rows
section
variable {X:Cx}
def S(l:List Nat):Str:=⟨l.toArray⟩
end
end L2
namespace L3
open PySem PySem.Spec L2
section
variable {X:Cx}{E:St→XK}
end
end L3
namespace L2
open PySem PySem.Spec PyProof.Rows
section
variable {X:Cx}
end
end L2
namespace L3
open PySem PySem.Spec L2
section
variable {X:Cx}{E:St→XK}{e st:Expr}{te ts:E3}{p2 pos:Pos}
end
section
variable {Y:X3}{D:D3}{τ:S3}{Γ:Gp}{Z:K3}{A:Prop}{C a dx:Addr}{fs:List (Str×T)}{f m:Str}
theorem En{to:E3}(h:to Y τ Γ fun x Γ1=>∃ a dx fs v,x=.ref a∧Γ1 a=some (.ins C dx fs)∧fs.lookup f=some v∧Z v Γ1):Hv C to f Y τ Γ Z:=h
theorem Az{Q:T→Prop}{v:T}(g:Γ a=some (.ins C dx fs))(l:fs.lookup f=some v)(z:Q v):∃ a' DL t9 v',T.ref a=.ref a'∧Γ a'=some (.ins C DL t9)∧t9.lookup f=some v'∧Q v':=⟨a,dx,fs,v,rfl,g,l,z⟩
theorem As{to tv:E3}(h:tv Y τ Γ fun y Γ1=>to Y τ Γ1 fun x Γ2=>∃ a dx fs,x=.ref a∧Γ2 a=some (.ins C dx fs)∧fs.length < 1000∧D.nx τ (up Γ2 a (.ins C dx (oi f y fs)))):Ib C to tv f Y D τ Γ:=h
theorem xq{Q:Gp→Prop}{y:T}(g:Γ a=some (.ins C dx fs))(l:Nat.ble fs.length 900=true)(z:Q (up Γ a (.ins C dx (oi f y fs)))):∃ a' DL t9,T.ref a=.ref a'∧Γ a'=some (.ins C DL t9)∧t9.length < 1000∧Q (up Γ a' (.ins C DL (oi f y t9))):=⟨a,dx,fs,rfl,g,by have:=Nat.le_of_ble_eq_true l;omega,z⟩
theorem Av{sp:eK}{to:E3}{t:A3}(h:to Y τ Γ fun x Γ1=>∃ a dx fs,x=.ref a∧Γ1 a=some (.ins C dx fs)∧fs.lookup m=none∧t Y τ Γ1 fun xs Γ2=>sp (.ref a::xs) Γ2 Z fun _ _=>False):wF C m sp to t Y τ Γ Z:=h
theorem xu{Q:Addr→Prop}(g:Γ a=some (.ins C dx fs))(l:fs.lookup m=none)(z:Q a):∃ a' DL t9,T.ref a=.ref a'∧Γ a'=some (.ins C DL t9)∧t9.lookup m=none∧Q a':=⟨a,dx,fs,rfl,g,l,z⟩
theorem Aw{sp:eK}{t:A3}(h:t Y τ Γ fun xs Γ1=>∀ x dx,Γ1 x=none→Γ1 dx=none→dx≠x→sp (.ref x::xs) (up Γ1 x (.ins C dx [])) (fun v Γ2=>v=.non∧Z (.ref x) Γ2) fun _ _=>False):zZ C sp t Y τ Γ Z:=h
end
end L3
namespace L2
open PySem PySem.Spec PyProof.Rows
def Di(K:W.Frag)(a:Addr):It:=
  ⟨fun i H=>∃ xs x,dF K H a xs∧xs[i]? = some x,
   fun i H v H'=>∃ p x,H p=none∧v=.ref p∧H'=upd H p (.tup [.int i,x])∧(∀ xs,dF K H a xs→xs[i]? = some x),
   fun i H=>∃ xs,dF K H a xs∧xs.length=i⟩
theorem pW{P:Program}{w:World}{K:W.Frag}{elts:List Expr}{kk:Nat}{pos:Pos}(a e it:Addr)(M8:e≠it)(Vt:a≠e)(QI:a≠it):
  Turn P w K (.Tuple elts kk pos) (Di K a) [e,it] e (fun i h=>(∃ old,IsEnum h e it i old)∧h.IsListIter it a i) where
 mem:=by simp
 obj:=fun i h st c hc=>by
  obtain⟨⟨old,he⟩,⟨o1,e1,_,d1⟩⟩:=st;simp only[Yq,Yy,Zr]at hc;rcases hc with rfl | rfl
  ·exact⟨_,he,fun v z=>by have z':Data.fields _=Data.cell v:=z;cases z'⟩
  ·exact⟨o1,e1,fun v z=>by rw[d1]at z;cases z⟩
 keep:=fun i h h' st k=>by
  obtain⟨⟨old,he⟩,h1⟩:=st;exact⟨⟨old,k e (by simp) _ he⟩,h1.at fun o q=>k it (by simp) o q⟩
 item:=by
  intro X hP hw hK hc i pins s σ H E I hf st hg;subst hP hw hK;obtain⟨⟨old,he⟩,h1⟩:=st;obtain⟨xs,x,rM,hx⟩:=hg;obtain⟨aA,rv,Fy,_⟩:=I.list rM;have pl:=Fy.isList;obtain⟨vx,ex,rx⟩:=rv.get hx;have n0:H s.heap.objs.size=none:=I.bB.fresh (Yz _);have hi:i < aA.toArray.size:=by
   have:=(YO.mp ex).1;simpa using this
  refine wpAny_pyNext_enum_itemD (Draws.list (prog:=X.prog) (w:=X.w) (A:=X.A.in1) (I.ok.hd hc) it a QI aA.toArray) he ⟨h1,pl⟩ hi M8 (by simp[M8,Vt.symm]) fun v h' tk hv ho Gz ht hsz kk=>?_;have UQ:v=vx:=by
   have uA:aA[i]? = some v:=by simpa using hv
   rw[ex]at uA;exact(Y5 uA).symm
  subst UQ;refine⟨_,rfl,wpAny_letOwnedTupleGo_enum ho fun g2 t5 js=>?_⟩;have el:e < s.heap.objs.size:=Yr he;have il:it < s.heap.objs.size:=by obtain⟨_,q,_⟩:=h1;exact Yr q
  refine⟨.ref s.heap.objs.size,upd H s.heap.objs.size (.tup [.int i,x]),?_,rfl,⟨_,x,n0,rfl,rfl,fun zs yW=>by rw[I.iC yW rM];exact hx⟩,⟨⟨v,?_⟩,?_⟩,fun c hc=>?_⟩
  ·refine I.iT (t':=tk+1) (ch:=[e,it]) (fun c o hc q=>?_) (fun c hc=>hf c hc) (Yz _) ⟨by show 2≤sizeLine;decide,[.int i tk,v],.cons ⟨tk,rfl⟩ (.cons rx .nil),?_⟩
   ·simp only[Yq,Yy,Zr,not_or]at hc
    exact(js.2 c hc.1).trans (kk c o hc.1 hc.2 q)
   ·exact⟨_,(js.2 _ (ZK el)).trans ht,rfl,0,rfl⟩
  ·have:((i+1:Nat):Int)=(i:Int)+1:=by omega
   rw[this];exact t5
  ·exact Gz.1.at fun o q=>(js.2 it M8.symm).trans q
  ·have:c < s.heap.objs.size:=by
    simp only[Yq,Yy,Zr]at hc;rcases hc with rfl | rfl
    ·exact el
    ·exact il
   rw[au (YI this)];exact(hf c hc).1
 done:=by
  intro X hP hw hK hc i pins s σ H E I hf st hg;subst hP hw hK;obtain⟨⟨old,he⟩,h1⟩:=st;obtain⟨xs,rM,hl⟩:=hg;obtain⟨aA,rv,Fy,_⟩:=I.list rM;have pl:=Fy.isList;have l1:=rv.length;have ei:i=aA.toArray.size:=by simp;omega
  subst ei;refine wpAny_pyNext_enum_endD (Draws.list (prog:=X.prog) (w:=X.w) (A:=X.A.in1) (I.ok.hd hc) it a QI aA.toArray) he ⟨h1,pl⟩ fun h' hx=>⟨rfl,?_⟩;obtain⟨f0,f1,f2,f3,f4,f5⟩:=hf it (by simp);exact I.turned (t':=s.toks) (fun b o hb q=>hx b o hb q) f0 f1 f3 f4 f5
 self:=fun _ _ _ _ _ st h=>by
  obtain⟨⟨old,he⟩,_⟩:=st;exact wpAny_pyIter_enum he h
section
variable {X:Cx}{elts:List Expr}{kk:Nat}{eO:Pos}
def Cg(K:W.Frag)(ta:TA):TI:=fun σ H R=>ta σ H fun vs H1=>∃(a:Addr) (xs:List V),vs=[.ref a]∧dF K H1 a xs∧R (Di K a) H1
theorem vv{a:Expr}{ta:TA}{p pos:Pos}(hg:Gl X "enumerate")(hm:X.mg "enumerate" = none)(ha:PA X [a] ta)(hs:starEach [a] X.env=[(false,eval a X.env)]:=by rfl):
  PI X (.Tuple elts kk eO) (.Call (.Name "enumerate" p) [a] [] pos) (Cg X.K ta):=by
 refine .mk ?_;intro pins s σ H R I h;refine Call_ (fY I hg hm boot_enumerate (Zv (bL (ha pos pins s σ H _ I h) fun us s1 ⟨vs,H1,I1,r1,q1⟩=>?_) hs rfl));obtain⟨u1,xs,e,hx,q⟩:=q1;subst e;cases r1 with
 | cons r rr=>
  cases rr;cases r;obtain⟨aA,rv,Fy,_⟩:=I1.list hx;have pl:=Fy.isList;obtain⟨o1,e1,_⟩:=id pl;have l1:=Yr e1;refine call_enumerate_list pl fun h' he hi hsz k=>?_;refine wpAny_pyIter_enum he ?_;refine⟨s1.heap.objs.size+1,[s1.heap.objs.size+1,s1.heap.objs.size],_,_,H1,rfl,I1.kept (t':=s1.toks) k,pW u1 _ _ (abA _) (YI (ZX l1)) (YI l1),⟨⟨.none,he⟩,hi⟩,fun c hc=>?_,q⟩;have wu:s1.heap.objs.size≤c:=by
   simp only[Yq,Yy,Zr]at hc;rcases hc with rfl | rfl
   ·exact aat _
   ·exact Yz _
  exact I1.oV wu (I1.bB.fresh wu)
end
end L2
namespace L3
open PySem PySem.Spec L2
section
variable {X:Cx}{E:St→XK}{p pos:Pos}
def Qi(ta:A3):I3:=fun Y τ Γ Z=>ta Y τ Γ fun xs Γ1=>∃ a ts,xs=[.ref a]∧oP Γ1 (.ref a)=some ts∧Z (jn 0 ts) (fun Γ'=>oP Γ' (.ref a)=some ts) Γ1
theorem pT{K:W.Frag}{H:Hp}{a:Addr}{ts:List T}:Walks (Di K a) (jn 0 ts) (fun Γ'=>oP Γ' (.ref a)=some ts) H where
 go:=fun i H' Γ t hr g hi=>by
  obtain⟨vs,sq,q⟩:=gR (K:=K) hr g;rw[i6]at hi;exact⟨vs,vs[i]'(by rw[q.length];omega),sq,by simp⟩
 sD:=fun i H' Γ v H2 t hr g hi q0=>by
  obtain⟨p,x,hp,e1,e2,y1⟩:=q0;subst e1 e2;obtain⟨vs,sq,q⟩:=gR (K:=K) hr g;obtain⟨t1,f1,r1⟩:=q.t7 (y1 vs sq);have k:=bA (o:=.tup [.int i,x]) hp;refine⟨.keep k,hr.keep k,_,mf f1,n8 az (aY ?_ (aY (r1.mono (cU k)) bT))⟩;rw[Nat.zero_add];exact dD
 stop:=fun H' Γ t hr g=>by
  obtain⟨vs,sq,q⟩:=gR (K:=K) hr g;exact⟨vs,sq,by rw[i6,q.length]⟩
theorem vi{a:Expr}{ta:A3}{elts:List Expr}{kk:Nat}{eO:Pos}(hg:Gl X "enumerate")(hm:X.mg "enumerate" = none)(ha:PA X [a] (lU E ta))(hs:starEach [a] X.env=[(false,eval a X.env)]:=by rfl):
  PI X (.Tuple elts kk eO) (.Call (.Name "enumerate" p) [a] [] pos) (rG E (Qi ta)):=
 iQ (vv hg hm ha hs) fun σ H Q τ Γ Y Z rs hr t vr xr=>⟨τ,Γ,Y,_,rs,hr,t,fun vs xs H1 Γ1 s1 h1 r1 ⟨a,ts,ex,g,z⟩=>by
  subst ex;obtain⟨v,rfl,ra⟩:=qf r1;obtain⟨us,sq,q⟩:=gR (K:=X.K) h1 g;exact⟨a,us,by rw[bz ra],sq,vr _ _ _ H1 Γ1 s1 h1 pT z⟩,xr⟩
end
section
variable {X:Cx}{E:St→XK}
def Q3:E3:=fun _ _ Γ Z=>∀ p,Γ p=none→Z (.ref p) (up Γ p (.dK []))
theorem xP{pos:Pos}:PE X (.Dict [] [] pos) (bH E Q3):=
 cj yi fun σ H Q τ Γ Y Z rs hr t vr xr=>by
  intro p hp;exact vr _ _ _ _ (.make hp) (hr.make (o3:=.dK []) hp ⟨[],az,.nil⟩) d7 (t p (hr.free hp))
end
end L3
namespace L2
open PySem PySem.Spec PyProof.Rows
section
variable {prog:Program}{w:World}{A:Around}{E:Value→Shared→Prop}{s:Shared}
end
section
variable {X:Cx}{elts:List Expr}{kk:Nat}{eO:Pos}
end
abbrev TM:=St→Hp→(St→Hp→Prop)→Prop
section
variable {X:Cx}{elt tg iter:Expr}{ifs:List Expr}{gens:List Comprehension}{scope:Scope}{pos:Pos}{d:Nat}{D:Addr}{te:TE}{wi:TI}{g:TG}{tc:TT}{tm:TM}
end
section
variable {X:Cx}{scope:Scope}{cl:List (Str×Addr)}{own:List Str}{cap:List (Nat×Str)}{tg iter elt:Expr}{ifs:List Expr}{gens rest:List Comprehension}{wi:TI}{g:TG}{tc:TT}{tm:Addr→TM}{pos:Pos}
end
end L2
namespace L3
open PySem PySem.Spec L2
open PyProof.Rows hiding St
abbrev M3:=S3→List T→Gp→(S3→List T→Gp→Prop)→Prop
section
variable {X:Cx}{E:St→XK}{elt tg iter:Expr}{ifs:List Expr}{gens rest:List Comprehension}{scope:Scope}{cl:List (Str×Addr)}{own:List Str}{cap:List (Nat×Str)}{pos:Pos}{d:Nat}{D:Addr}{te:E3}{wi:I3}{g:G3}{tc:T3}{tm:M3}
end
end L3
namespace Sr
open PySem PyProof.Rows
section
variable {prog:Program}{w:World}{A:Around}{E:Value→Shared→Prop}{s:Shared}{a0:Array Keyed}{kd:SortKind}{st:SortSt}
end
section
variable {prog:Program}{w:World}{A:Around}{E:Value→Shared→Prop}{s:Shared}{M:Model}
end
end Sr
namespace L2
open PySem PySem.Spec PyProof.Rows
section
variable {X:Cx}
end
end L2
namespace L3
open PySem PySem.Spec L2
end L3
namespace L2
open PySem PySem.Spec PyProof.Rows
end L2
namespace L3
open PySem PySem.Spec L2
open PyProof.Rows hiding St
section
variable {X:Cx}{E:St→XK}{tg l:Expr}{tl:E3}{pos p:Pos}
def KT(K:W.Frag)(a:Addr)(ts:List T):Prop:=∃ vs,OX K a vs∧∀ H,Rs H vs ts
end
end L3
namespace L2
open PySem PySem.Spec PyProof.Rows
section
variable (P:Program)(w:World)
end
section
variable {P:Program}{w:World}{H H':Hp}{h h':Heap}{a:Addr}{o:HO}
end
section
variable {P:Program}{w:World}{H:Hp}{h h':Heap}{x e:Addr}{o':HO}
end
section
variable {fs t9 ex VU:List Addr}{H H1 H2:Hp}{h h1 h2 h':Heap}{a x e:Addr}{o:HO}
end
section
variable {X:Cx}{pins:List (Addr×Obj)}{σ:List (Option V)}{H H':Hp}{s:Shared}{h':Heap}
end
section
variable {X:Cx}
variable {a b:Expr}{ta tb:TE}{pos:Pos}
variable {tA EI:TT}{rest:List Expr}
end
section
variable {X:Cx}{pins:List (Addr×Obj)}{σ:St}{H:Hp}{s:Shared}{a:Addr}{xs ys:List V}
end
section
variable {X:Cx}{pins:List (Addr×Obj)}{σ:St}{H:Hp}{s:Shared}{E:Value→Shared→Prop}
end
section
variable {X:Cx}{st:Stmt}{rest:List Stmt}{t u:TS}{e:Expr}{te:TE}{pos:Pos}
end
section
variable {X:Cx}{pos:Pos}
end
section
variable {X:Cx}{tg:Expr}
end
section
variable {X:Cx}{a b c:Expr}{ta tb tc:TE}{pos:Pos}
end
section
variable {prog:Program}{w:World}{A:Around}{E:Value→Shared→Prop}{s:Shared}{K:W.Frag}{x dx C f:Addr}{mA:Str→Option Value}{name:Str}{v:Value}
end
section
variable {P:Program}{w:World}{H H':Hp}{h h':Heap}{a C dx:Addr}{fs t9:List (Str×V)}
end
section
variable {X:Cx}{pins:List (Addr×Obj)}{σ:St}{H:Hp}{s:Shared}{a C dx:Addr}{fs:List (Str×V)}{f:Str}{v:V}{A:Around}{E:Value→Shared→Prop}
end
section
variable {X:Cx}{o e value:Expr}{f:Str}{pos pos' eO:Pos}{ta tv:TE}
end
section
variable {X:Cx}{pins:List (Addr×Obj)}{σ:St}{H:Hp}{s:Shared}{A:Around}{E:Value→Shared→Prop}{Q:Value→Shared→Prop}{c:Value}{b:Bool}
end
section
variable {X:Cx}{e:Expr}{es:List Expr}{te:TE}{t:TA}{pos:Pos}
end
section
variable {X:Cx}{pins:List (Addr×Obj)}{σ:St}{H:Hp}{s s':Shared}
end
section
variable {X:Cx}{CX:pR}{k:Nat}{f C:Addr}{fd:FuncData}{ps:List Str}{sp:Sp}{kP:List V}{ds:List Value}{E:XK}{x m:Str}{p pos apos:Pos}{e o:Expr}{es:List Expr}{ta:TE}{t:TA}
end
section
variable {X:Cx}{CX:pR}{k:Nat}{f C:Addr}{fd:FuncData}{ps ks:List Str}{sp:Sp}{E:XK}{x m:Str}{p pos apos BW:Pos}{e o:Expr}{es:List Expr}{Dx:List Keyword}{te ta:TE}{t tk:TA}{nm:Option Str}
variable {g:List Value→List Value→List Value}{gV:List V→List V→List V}
end
section
variable {X:Cx}{x:Str}{p pos:Pos}{e:Expr}{es:List Expr}{t:TA}{id T:String}{r:List V→Hp→VK→Prop}
end
section
variable {κ:Type}[DecidableEq κ]
def fJ(ak:List (κ×V))(k:κ):Option V:=(ak.find? fun kv=>decide (kv.1=k)).map (·.2)
def putK(ak:List (κ×V))(k:κ)(v:V):List (κ×V):=
 if(ak.any fun kv=>decide (kv.1=k))=true then ak.map (fun kv=>if kv.1=k then(kv.1,v)else kv)else ak++[(k,v)]
def ft(ak:List (κ×V))(k:κ):List (κ×V):=ak.filter fun kv=>decide (kv.1≠k)
theorem ip{p:κ×V}{r:List (κ×V)}{k:κ}(e:p.1=k):fJ (p::r) k=some p.2:=by simp[fJ,Zl,e]
theorem fI{p:κ×V}{r:List (κ×V)}{k:κ}(e:¬p.1=k):fJ (p::r) k=fJ r k:=by simp[fJ,Zl,e]
theorem nN(k:κ):∀ ak:List (κ×V),(ak.any fun kv=>decide (kv.1=k))=(fJ ak k).isSome
 | []=>rfl
 | p::r=>by
  rw[aaY];by_cases e:p.1=k
  ·simp only[ip e,Y9 e,Bool.true_or,Option.isSome_some]
  ·rw[fI e,Y4 e,Bool.false_or];exact nN k r
theorem ji(ak:List (κ×V))(k:κ)(v:V):(putK ak k v).length≤ak.length+1:=by
 unfold putK;split
 ·rw[Yw];omega
 ·rw[Yo,YF,List.length_nil];omega
theorem gH.gy{o:Option V}{u:Option Value}(r:gH o u):o.isSome=u.isSome:=by
 cases o with
 | none=>cases u with
  | none=>rfl
  | some _=>exact(show False from r).elim
 | some _=>cases u with
  | none=>exact(show False from r).elim
  | some _=>rfl
theorem KV.val{ak:List (κ×V)}{vs:List (κ×Value)}(r:KV ak vs)(k:κ):gH (fJ ak k) (valueAt vs k):=by
 unfold KV at r;induction r with
 | nil=>exact True.intro
 | @cons p q ps qs h t ih=>
  obtain⟨h1,h2⟩:=h;by_cases e:p.1=k
  ·have e':q.1=k:=h1.symm.trans e
   have b:valueAt (q::qs) k=some q.2:=by simp[valueAt,Zl,e']
   rw[ip e,b];exact h2
  ·have e':¬q.1=k:=fun z=>e (h1.trans z)
   have b:valueAt (q::qs) k=valueAt qs k:=by simp[valueAt,Zl,e']
   rw[fI e,b];exact ih
theorem KV.any{ak:List (κ×V)}{vs:List (κ×Value)}(r:KV ak vs)(k:κ):(ak.any fun kv=>decide (kv.1=k))=vs.any fun kv=>decide (kv.1=k):=by
 unfold KV at r;induction r with
 | nil=>rfl
 | cons h t ih=>rw[aaY,aaY,ih,h.1]
theorem KV.AW{ak:List (κ×V)}{vs:List (κ×Value)}(r:KV ak vs)(k:κ){y:V}{u:Value}(ry:RelV y u):
  KV (ak.map fun kv=>if kv.1=k then(kv.1,y)else kv) (vs.map fun kv=>if kv.1=k then(kv.1,u)else kv):=by
 unfold KV at r ⊢;induction r with
 | nil=>exact .nil
 | @cons p q ps qs h t ih=>
  rw[YC,YC];refine .cons ?_ ih;obtain⟨h1,h2⟩:=h;by_cases e:p.1=k
  ·rw[YV e,YV (h1.symm.trans e)];exact⟨h1,ry⟩
  ·rw[YN e,YN (fun z=>e (h1.trans z))];exact⟨h1,h2⟩
theorem KV.put{ak:List (κ×V)}{vs:List (κ×Value)}(r:KV ak vs)(k:κ){y:V}{u:Value}(ry:RelV y u):KV (putK ak k y) (stored vs k u):=by
 unfold putK stored;rw[r.any k];by_cases e:(vs.any fun kv=>decide (kv.1=k))=true
 ·rw[YV e,YV e];exact r.AW k ry
 ·rw[YN e,YN e];exact Paired.snoc r ⟨rfl,ry⟩
theorem KV.drop{ak:List (κ×V)}{vs:List (κ×Value)}(r:KV ak vs)(k:κ):KV (ft ak k) (without vs k):=by
 unfold KV at r ⊢;unfold ft without;induction r with
 | nil=>exact .nil
 | @cons p q ps qs h t ih=>
  obtain⟨h1,h2⟩:=h;rw[Zx,Zx];by_cases e:p.1=k
  ·have a:¬decide (p.1≠k)=true:=by simp[e]
   have b:¬decide (q.1≠k)=true:=by simp[h1.symm.trans e]
   rw[YN a,YN b];exact ih
  ·have e':¬q.1=k:=fun z=>e (h1.trans z)
   have a:decide (p.1≠k)=true:=by simp[e]
   have b:decide (q.1≠k)=true:=by simp[e']
   rw[YV a,YV b];exact .cons ⟨h1,h2⟩ ih
theorem KV.keys{ak:List (κ×V)}{vs:List (κ×Value)}(r:KV ak vs):ak.map (·.1)=vs.map (·.1):=by
 unfold KV at r;induction r with
 | nil=>rfl
 | cons h t ih=>rw[YC,YC,ih,h.1]
theorem KV.length{ak:List (κ×V)}{vs:List (κ×Value)}(r:KV ak vs):ak.length=vs.length:=Paired.length r
theorem wG(ak:List (κ×V))(k:κ):(ft ak k).length≤ak.length:=List.length_filter_le _ _
end
theorem oN{P:Program}{w:World}{k:Key}{u:Value}(r:RelV (kV k) u):(bW P w).is k u=true:=by
 cases k with
 | inl i=>obtain⟨t,e⟩:=(show ∃ t,u=Value.int i t from r);subst e;exact oF P w i t
 | inr x=>obtain⟨t,e⟩:=(show ∃ t,u=Value.str x t from r);subst e;exact oE P w x t
theorem lX{P:Program}{w:World}:∀{ks:List Key} {us:List Value},Vals (ks.map kV) us→ItemsAre (bW P w) ks us
 | [],_,r=>by rw[List.map_nil]at r;cases r;exact .nil
 | k::ks,_,r=>by
  rw[YC]at r;cases r with
  | cons h t=>exact .cons (oN h) (lX t)
abbrev KT(H:Hp):List (List Key×V)→List (List Key×Addr×Value)→Prop:=Paired fun p q=>p.1=q.1∧H q.2.1=some (.tup (p.1.map kV))∧RelV p.2 q.2.2
theorem KT.val{H:Hp}{ak:List (List Key×V)}{xs:List (List Key×Addr×Value)}(r:KT H ak xs)(k:List Key):gH (fJ ak k) ((atKey xs k).map (·.2)):=by
 induction r with
 | nil=>exact True.intro
 | @cons p q ps qs h t ih=>
  obtain⟨h1,_,h2⟩:=h;by_cases e:p.1=k
  ·have e':q.1=k:=h1.symm.trans e
   have b:atKey (q::qs) k=some q.2:=by simp[atKey,Zl,e']
   rw[ip e,b];exact h2
  ·have e':¬q.1=k:=fun z=>e (h1.trans z)
   have b:atKey (q::qs) k=atKey qs k:=by simp[atKey,Zl,e']
   rw[fI e,b];exact ih
theorem KT.AW{H:Hp}{ak:List (List Key×V)}{xs:List (List Key×Addr×Value)}(r:KT H ak xs)(k:List Key){y:V}{u:Value}(ry:RelV y u):
  KT H (ak.map fun kv=>if kv.1=k then(kv.1,y)else kv) (xs.map (putAt k u)):=by
 induction r with
 | nil=>exact .nil
 | @cons p q ps qs h t ih=>
  rw[YC,YC];refine .cons ?_ ih;obtain⟨h1,h2,h3⟩:=h;unfold putAt;by_cases e:p.1=k
  ·rw[YV e,YV (h1.symm.trans e)];exact⟨h1,h2,ry⟩
  ·rw[YN e,YN (fun z=>e (h1.trans z))];exact⟨h1,h2,h3⟩
theorem KT.put{H:Hp}{ak:List (List Key×V)}{xs:List (List Key×Addr×Value)}(r:KT H ak xs)(k:List Key){b:Addr}{y:V}{u:Value}(hb:H b=some (.tup (k.map kV)))(ry:RelV y u):
  KT H (putK ak k y) (storedH xs k b u):=by
 have e:(ak.any fun kv=>decide (kv.1=k))=(atKey xs k).isSome:=by
  rw[nN,(r.val k).gy,Option.isSome_map]
 unfold putK storedH;rw[e];by_cases q:(atKey xs k).isSome=true
 ·rw[YV q,YV q];exact r.AW k ry
 ·rw[YN q,YN q];exact Paired.snoc r ⟨rfl,hb,ry⟩
theorem KT.keeps{H H':Hp}{ak:List (List Key×V)}{xs:List (List Key×Addr×Value)}(r:KT H ak xs)(ht:∀ b ys,H b=some (.tup ys)→H' b=some (.tup ys)):KT H' ak xs:=
 Paired.BQ r fun _ _ z=>⟨z.1,ht _ _ z.2.1,z.2.2⟩
section
variable {P:Program}{w:World}{H:Hp}{h:Heap}{a:Addr}
theorem zH{u:HO}(ok:h9 P w H h)(e:Rd H a u):bK P w H h a u:=e.ok ok
theorem rU{ak:List (Key×V)}(ok:h9 P w H h)(e:Rd H a (.dK ak)):ak.length≤sizeLine∧(a == sysModules)=false∧∃ vs,KV ak vs∧h.DictOf (bW P w) a vs:=
 show bK P w H h a (.dK ak)from zH ok e
theorem rV{ak:List (Key×V)}(ok:h9 P w H h)(e:H a=some (.dK ak)):ak.length≤sizeLine∧(a == sysModules)=false∧∃ vs,KV ak vs∧h.DictOf (bW P w) a vs:=rU ok (.inl e)
theorem mS{ks:List Key}(ok:h9 P w H h)(e:H a=some (.tup (ks.map kV))):(tupleKind (bW P w)).is h ks a:=by
 obtain⟨_,aA,r,o,h1,h2,n,h3⟩:=(show bK P w H h a (.tup (ks.map kV))from ok a _ e);exact⟨o,aA.toArray,n,h1,h2,h3,by simpa using lX r⟩
theorem rT{ak:List (List Key×V)}(ok:h9 P w H h)(e:Rd H a (.dT ak)):ak.length≤sizeLine∧(a == sysModules)=false ∧
  ∃ xs,KT H ak xs∧h.DictOfH (tupleKind (bW P w)) a xs:=by
 obtain⟨z,y,xs,r,o,es,ep,h1,h2,h3,h4,h5⟩:=(show bK P w H h a (.dT ak)from zH ok e);refine⟨z,y,xs,r,o,es,ep,h1,h2,h3,h4,fun x hx=>?_,h5⟩;have all:∀{l:List (List Key×V)} {m:List (List Key×Addr×Value)},KT H l m→∀ x∈m,(tupleKind (bW P w)).is h x.1 x.2.1:=by
  intro l m q;induction q with
  | nil=>intro x hx;exact nomatch hx
  | @cons p q ps qs hq t ih=>
   intro x hx;rcases Yq.mp hx with e | hx
   ·subst e
    exact mS ok (by rw[← hq.1];exact hq.2.1)
   ·exact ih x hx
 exact all r x hx
theorem Hz{ak:List (List Key×V)}(ok:h9 P w H h)(e:H a=some (.dT ak)):ak.length≤sizeLine∧(a == sysModules)=false ∧
  ∃ xs,KT H ak xs∧h.DictOfH (tupleKind (bW P w)) a xs:=rT ok (.inl e)
end
def nJ(H:Hp)(a:Addr)(y:V)(r:Option V):Prop:=
 (∃ ak k,Rd H a (.dK ak)∧y=kV k∧r=fJ ak k)∨∃ ak k b,Rd H a (.dT ak)∧y=.ref b∧H b=some (.tup (k.map kV))∧r=fJ ak k
def wZ(H:Hp)(a:Addr)(y v:V)(H':Hp):Prop:=
 (∃ ak k,H a=some (.dK ak)∧y=kV k∧ak.length < sizeLine∧H'=upd H a (.dK (putK ak k v))) ∨
 ∃ ak k b,H a=some (.dT ak)∧y=.ref b∧H b=some (.tup (k.map kV))∧ak.length < sizeLine∧H'=upd H a (.dT (putK ak k v))
theorem nJ.k{H:Hp}{a:Addr}{ak:List (Key×V)}{k:Key}(e:H a=some (.dK ak)):nJ H a (kV k) (fJ ak k):=.inl ⟨ak,k,.inl e,rfl,rfl⟩
theorem wZ.k{H:Hp}{a:Addr}{ak:List (Key×V)}{k:Key}{v:V}(e:H a=some (.dK ak))(hl:ak.length < sizeLine):wZ H a (kV k) v (upd H a (.dK (putK ak k v))):=.inl ⟨ak,k,e,rfl,hl,rfl⟩
section
variable {X:Cx}{pins:List (Addr×Obj)}{σ:St}{H:Hp}{s:Shared}{a:Addr}{y v:V}{u r:Value}{o:Option V}{A:Around}{E:Value→Shared→Prop}
theorem uf{Q:Value→Shared→Prop}(hu:A.units+1 < cLine)(I:Inv X pins σ H s)(g:nJ H a y (some v))(ry:RelV y u)(h:∀ w' s',Inv X pins σ H s'→RelV v w'→Q w' s'):
  wpAny (model X.prog X.w) A (getItem (.ref a) u) Q E s:=by
 rcases g with⟨ak,k,e,ey,l⟩ | ⟨ak,k,b,e,ey,eb,l⟩
 ·subst ey
  obtain⟨z,hd,vs,rel,dd⟩:=rU I.bB e;obtain⟨w',hw,nV⟩:=gH.some_of (v:=v) (o:=valueAt vs k) (by rw[l];exact rel.val k);exact wpAny_getItem_of (oN ry) dd.mapOf hw (h w' _ (I.tok _) nV)
 ·subst ey
  cases(show u=Value.ref b from ry);obtain⟨z,hd,xs,rel,dd⟩:=rT I.bB e;obtain⟨w',hw,nV⟩:=gH.some_of (v:=v) (o:=(atKey xs k).map (·.2)) (by rw[l];exact rel.val k);obtain⟨p,hp,Dz⟩:=Option.map_eq_some_iff.mp hw;refine wpAny_getItem_heap (abK hu) (mS I.bB eb) dd hp ?_;rw[Dz];exact h w' _ (I.tok _) nV
theorem zd{Q:Value→Shared→Prop}(hu:A.units+1 < cLine)(I:Inv X pins σ H s)(g:nJ H a y o)(ry:RelV y u)(h:∀ s',Inv X pins σ H s'→Q (.bool (!o.isSome)) s'):
  wpAny (model X.prog X.w) A (compareOp .NotIn u (.ref a)) Q E s:=by
 rcases g with⟨ak,k,e,ey,l⟩ | ⟨ak,k,b,e,ey,eb,l⟩
 ·subst ey
  obtain⟨z,hd,vs,rel,dd⟩:=rU I.bB e;refine wpAny_notIn_of (oN ry) hd dd.mapOf ?_;rw[← (rel.val k).gy,← l];exact h _ (I.tok _)
 ·subst ey
  cases(show u=Value.ref b from ry);obtain⟨z,hd,xs,rel,dd⟩:=rT I.bB e;refine wpAny_notIn_heap (abK hu) (mS I.bB eb) hd dd ?_;have q:=(rel.val k).gy;rw[Option.isSome_map]at q;rw[← q,← l];exact h _ (I.tok _)
theorem nh{h':Heap}{t':Nat}{ob:HO}(I:Inv X pins σ H s)(mu:Ir (H a))(hs:Heap.SameBut a s.heap h')(he:∃ q,h'.get? a=some q)(new:bK X.prog X.w (upd H a ob) h' a ob):
  Inv X pins σ (upd H a ob) {s with heap:=h',toks:=t'}:=
 I.write (x:=a) (e:=a) mu (.inl rfl) (fun b q hb z=>(hs.2 b hb).trans z) he new
theorem wH{P:Program}{w:World}{H':Hp}{h':Heap}{ak:List (Key×V)}{vs:List (Key×Value)}(z:ak.length≤sizeLine)(hd:(a == sysModules)=false)(rel:KV ak vs)(dd:h'.DictOf (bW P w) a vs):
  bK P w H' h' a (.dK ak):=⟨z,hd,vs,rel,dd⟩
theorem ue{H':Hp}{Q:Unit→Shared→Prop}(hu:A.units+1 < cLine)(I:Inv X pins σ H s)(g:wZ H a y v H')(ry:RelV y u)(rv:RelV v r)(h:∀ s',Inv X pins σ H' s'→Q () s'):
  wpAny (model X.prog X.w) A (setItem (.ref a) u r) Q E s:=by
 rcases g with⟨ak,k,e,ey,l,eH⟩ | ⟨ak,k,b,e,ey,eb,l,eH⟩
 ·subst ey eH
  obtain⟨z,hd,vs,rel,dd⟩:=rV I.bB e;have hz:vs.length≤sizeLine:=by rw[← rel.length];exact z
  have hl:(putK ak k v).length≤sizeLine:=by have:=ji ak k v;omega
  refine wpAny_setItem_pairs (hsz:=hz) (oN ry) dd fun h' zc hs=>h _ ?_;have he:∃ q,h'.get? a=some q:=let⟨q,_,_,hq,_⟩:=zc;⟨q,hq⟩
  exact nh I (by rw[e];exact True.intro) hs he (wH hl hd (rel.put k rv) zc)
 ·subst ey eH
  cases(show u=Value.ref b from ry);obtain⟨z,hd,xs,rel,dd⟩:=Hz I.bB e;have hz:xs.length≤sizeLine:=by rw[← Paired.length rel];exact z
  have hl:(putK ak k v).length≤sizeLine:=by have:=ji ak k v;omega
  refine wpAny_setItem_heap (hsz:=hz) (abK hu) (mS I.bB eb) dd fun h' zc hs=>h _ ?_;obtain⟨q,es,ep,hq,h2,h3,h4,_,h5⟩:=zc;refine nh I (by rw[e];exact True.intro) hs ⟨q,hq⟩ ⟨hl,hd,_,(rel.put k eb rv).keeps fun c ys ec=>?_,q,es,ep,hq,h2,h3,h4,h5⟩;rw[au (FX ec e (fun z=>nomatch z))];exact ec
end
section
variable {X:Cx}{pins:List (Addr×Obj)}{σ:St}{H:Hp}{s:Shared}{a:Addr}{ak:List (Key×V)}{k:Key}{u:Value}{A:Around}{E:Value→Shared→Prop}
theorem ug{Q:Unit→Shared→Prop}(I:Inv X pins σ H s)(e:H a=some (.dK ak))(ry:RelV (kV k) u)(l:(fJ ak k).isSome=true)(h:∀ s',Inv X pins σ (upd H a (.dK (ft ak k))) s'→Q () s'):
  wpAny (model X.prog X.w) A (delItem (.ref a) u) Q E s:=by
 obtain⟨z,hd,vs,rel,dd⟩:=rV I.bB e;refine wpAny_delItem_slot dd.typeIs (by decide) abR
  (call_meetsIn abR dd.typeIs PySem.F.entry_dict_delitem (PySem.F.args_dict_delitem_2 _ _) (meets_dict_delitem_pairs (bW X.prog X.w) a (oN ry)) ⟨vs,dd,by rw[← rel.length];exact z,by rw[← (rel.val k).gy];exact l,fun h' zc hs=>h _ ?_⟩)
 have he:∃ q,h'.get? a=some q:=let⟨q,_,_,hq,_⟩:=zc;⟨q,hq⟩
 exact nh I (by rw[e];exact True.intro) hs he (wH (ZG (wG ak k) z) hd (rel.drop k) zc)
end
def Dg(i:Expr):Prop:=∀ ov iv,subscripted i false ov iv=operate [ov,iv] (getItem ov iv)
theorem xw{prog:Program}{w:World}{A:Around}{E:Value→Shared→Prop}{s:Shared}{env:Env}{value slice:Expr}{pos:Pos}{T id:String}{Q:Value→Shared→Prop}
  (hl:typeLookup (.type T) "__getitem__" = pure (some (.builtin id))) (hs:Dg slice)
  (h:wpAny (model prog w) A (eval value env) (fun o s₁=>wpAny (model prog w) A (eval slice env) (fun i s₂=>s₂.TypeIs o T∧wpAny (model prog w) A (getItem o i) Q E s₂) E s₁) E s) :
  wpAny (model prog w) A (eval (.Subscript value slice pos) env) Q E s:=by
 refine Subscript_ (Zz h (fun o s₁ h₁=>Zz h₁ (fun i s₂ h₂=>?_) fun _ _ x=>x) fun _ _ x=>x);obtain⟨hT,h₂⟩:=h₂;unfold subscriptTail;refine Ym ?_;rw[getitemInPython_of_ne hT.not_modules];refine Ym (wpAny_specialOf hT hl ?_);have fin:wpAny (model prog w) A (subscripted slice false o i) (fun r s₃=>wpAny (model prog w) A (letTemporaryGo value o r >>= fun _=>pure r) Q E s₃) E s₂:=by
  rw[hs o i];exact wpAny_operating (Zz h₂ (fun r s₃ h₃=>Ym (wpAny_letTemporaryGo (Yp h₃))) fun _ _ x=>x)
 first
  | exact Yp (Ym fin)
  | exact Ym (Yp (Ym fin))
  | exact Ym fin
theorem oZ{X:Cx}{pins:List (Addr×Obj)}{σ:St}{H:Hp}{s:Shared}{a:Addr}{y:V}{o:Option V}(I:Inv X pins σ H s)(g:nJ H a y o):s.TypeIs (.ref a) "dict" := by
 rcases g with⟨ak,k,e,_,_⟩ | ⟨ak,k,b,e,_,_,_⟩
 ·obtain⟨_,_,vs,_,dd⟩:=rU I.bB e
  exact dd.typeIs
 ·obtain⟨_,_,xs,_,dd⟩:=rT I.bB e
  exact dd.typeIs
def EH(td ty:TE):TE:=fun σ H Q=>td σ H fun x H1=>ty σ H1 fun y H2=>∃ a v,x=.ref a∧nJ H2 a y (some v)∧Q v H2
def Ff(td ty tv:TE):TS:=fun D σ H=>tv σ H fun v H1=>td σ H1 fun x H2=>ty σ H2 fun y H3=>∃ a H4,x=.ref a∧wZ H3 a y v H4∧D.nx σ H4
def Fg(td ty:TE):TS:=fun D σ H=>td σ H fun x H1=>ty σ H1 fun y H2=>∃ a ak k,x=.ref a∧H2 a=some (.dK ak)∧y=kV k∧(fJ ak k).isSome=true∧D.nx σ (upd H2 a (.dK (ft ak k)))
section
variable {X:Cx}{o i e value:Expr}{pos pos' eO:Pos}{td ty tv:TE}
theorem yj(hu:X.A.units+1 < cLine)(ho:PE X o td)(hi:PE X i ty)(hs:Dg i):PE X (.Subscript o i pos) (EH td ty):=by
 refine .mk ?_;intro pins s σ H Q I h;refine xw PySem.F.slot_dict_getitem.lookup hs (bL (ho pins s σ H _ I h) fun u s1 ⟨x,H1,I1,rx,q1⟩=>bL (hi pins s1 σ H1 _ I1 q1) fun iv s2 ⟨y,H2,I2,ry,a,v,ex,g,q2⟩=>?_);subst ex;obtain rfl:u=Value.ref a:=rx;exact⟨oZ I2 g,uf hu I2 g ry fun w' s3 I3 nV=>⟨v,H2,I3,nV,q2⟩⟩
theorem x5(hu:X.A.units+1 < cLine)(ho:PE X o td)(hi:PE X i ty)(hv:PE X value tv)(hs:swapsWith value (some (.Subscript o i pos')) pos.line X.env=pure false):
  PS X (.Assign [.Subscript o i pos'] value pos) (Ff td ty tv):=by
 refine .mk ?_;intro pins s σ H D I h;refine wpAny_Assign_Subscript (bL (hv pins s σ H _ I h) fun r s1 ⟨v,H1,I1,rv,q1⟩=>bL (ho pins s1 σ H1 _ I1 q1) fun u s2 ⟨x,H2,I2,rx,q2⟩=>bL (hi pins s2 σ H2 _ I2 q2) fun iv s3 ⟨y,H3,I3,ry,a,H4,ex,g,q3⟩=>?_) hs;subst ex;obtain rfl:u=Value.ref a:=rx;exact ue hu I3 g ry rv fun s4 I4=>⟨σ,H4,I4,q3⟩
theorem x6(ho:PE X o td)(hi:PE X i ty):PS X (.Delete [.Subscript o i eO] pos) (Fg td ty):=by
 refine .mk ?_;intro pins s σ H D I h;refine wpAny_Delete (wpAny_deleteEach_cons (wpAny_delete_Subscript (bL (ho pins s σ H _ I h) fun u s1 ⟨x,H1,I1,rx,q1⟩=>bL (hi pins s1 σ H1 _ I1 q1) fun iv s2 ⟨y,H2,I2,ry,a,ak,k,ex,e,ey,l,q2⟩=>?_)));subst ex ey;obtain rfl:u=Value.ref a:=rx;exact ug I2 e ry l fun s3 I3=>wpAny_deleteEach_nil ⟨σ,_,I3,q2⟩
end
section
variable {X:Cx}{pos:Pos}
end
section
variable {X:Cx}{pins:List (Addr×Obj)}{σ:St}{H:Hp}{s:Shared}{a:Addr}{y d:V}{u r:Value}{o:Option V}{A:Around}{E:Value→Shared→Prop}
end
section
variable {X:Cx}{o e f:Expr}{apos dE:Pos}{td ty tx:TE}
end
section
variable {X:Cx}{pins:List (Addr×Obj)}{σ:St}{H:Hp}{s:Shared}{a:Addr}{ak:List (Key×V)}{A:Around}{E:Value→Shared→Prop}
end
section
variable {X:Cx}{pins:List (Addr×Obj)}{σ:St}{H:Hp}{s:Shared}{a:Addr}{y:V}{u:Value}{A:Around}{E:Value→Shared→Prop}
end
end L2
namespace JD
open PySem PySem.W PySem.Calls PyProof.Rows
section
variable {prog:Program}{w:World}{A:Around}{E:Value→Shared→Prop}{s:Shared}{K:Frag}
end
end JD
namespace L2
open PySem PySem.Spec PyProof.Rows
section
variable {P:Program}{w:World}{K:W.Frag}{mg:Str→Option Value}{base:Heap}
end
section
variable {X:Cx}
end
section
variable {κ:Type}[DecidableEq κ]
end
section
variable {X:Cx}{C:Addr}{m:Str}{k j:Nat}{ps:List Str}{sp:Sp}{o e:Expr}{es:List Expr}{ta:TE}{t:TA}{apos pos:Pos}{W:St→XK}
def AK(C:Addr)(m:Str)(sp:Sp)(W:St→XK)(ta:TE)(t:TA):TE:=fun σ H Q=>ta σ H fun x H1=>∃ a dx fs,x=.ref a∧H1 a=some (.ins C dx fs)∧fs.lookup m=none∧t σ H1 fun vs H2=>sp (.ref a::vs) H2 Q (W σ)
theorem vz{pl:Sem Bool}(c:pH X.prog X.w X.K X.mg X.base C m k ps sp)(hr:cq j X.A)(hk:k≤j)(hx:nH X W)(he:PE X o ta)(ha:PA X (e::es) t)
  (kr:starEach (e::es) X.env=(false,eval e X.env)::starEach es X.env:=by rfl) (fA:(backTo pos (starEach es X.env)).any (·.1)=false:=by rfl)
  (ht:eval (.Call (.Attribute o m apos) (e::es) [] pos) X.env=(do
   let ov ← eval o X.env
   standAt apos.atName
   let(f,first) ← holding [ov] (getMethod ov m pl)
   callWith pos f first (backTo pos (starEach (e::es) X.env)) (backToKw pos (keywordEach [] X.env))):=by rfl) :
  PE X (.Call (.Attribute o m apos) (e::es) [] pos) (AK C m sp W ta t):=by
 refine .mk ?_;obtain⟨f,fd,F,c,hm,b⟩:=c;intro pins s σ H Q I h;refine aa6 (pl:=pl) (bL (he pins s σ H _ I h) fun u s1 ⟨x,H1,I1,rx,a,dx,fs,ex,ea,l,q⟩=>?_) ht;subst ex;obtain rfl:u=Value.ref a:=rx;refine hZ I1 ea c hm l ?_;refine aaN (first:=[.ref a]) (h₀:=X.base) I.ok.mod.BY hm.kp (bL (ha pos pins s1 σ H1 _ I1 q) fun us s2 ⟨vs,H2,I2,r,q2⟩=>⟨I2.iO,?_⟩) kr fA;have r2:Vals (V.ref a::vs) (Value.ref a::us):=.cons rfl r;have hl:(Value.ref a::us).length=ps.length:=by rw[← r2.length];exact F.len _ _ _ _ q2
 have hb:=b s2 (Value.ref a::us) I2.iO (by rw[YY];exact hl);rw[YY]at hb;refine wpAny_call (abt (F.run X.A X.stack s2 H2 ⟨Value.ref a::us,[]⟩ (Value.ref a::us) (V.ref a::vs) Q (W σ) (hr.mono hk) I2.CJ hb r2 q2) fun r' s' hq=>?_);cases r' with
 | error e=>exact hx pins σ H2 s2 e s' I2 hq
 | ok fl=>
  cases fl with
  | ret u=>exact I2.after hq
  | next=>exact False.elim hq
  | brk=>exact False.elim hq
  | cont=>exact False.elim hq
theorem yz(hu:X.A.units+1 < cLine):gJ X (compareOp .NotIn) (fun y x H Q=>∃ a o,x=.ref a∧nJ H a y o∧Q (.bl (!o.isSome)) H):=by
 intro pins s σ H y x u v Q I ry rx h;obtain⟨a,o,rfl,g,q⟩:=h;cases rx;exact zd hu I g ry fun s3 I3=>⟨.bl (!o.isSome),H,I3,rfl,q⟩
def AU(tv to:TE)(tl th:TO):TS:=fun D σ H=>tv σ H fun v H1=>to σ H1 fun x H2=>tl σ H2 fun lo H3=>th σ H3 fun hi H4=>∃ l b xs ys a c,x=.ref l∧v=.ref b∧lo=some a∧hi=some c∧H4 l=some (.lst xs)∧H4 b=some (.lst ys)∧l≠b∧0≤a∧a≤c∧c≤(xs.length:Int)∧xs.length+ys.length≤sizeLine∧D.nx σ (upd H4 l (.lst (xs.take a.toNat++ys++xs.drop c.toNat)))
theorem vp{value:Expr}{lo hi:Option Expr}{tv to:TE}{tl th:TO}{p2 pos':Pos}(hv:PE X value tv)(ho:PE X o to)(hl:PO X lo tl)(hh:PO X hi th)(hs:swapsWith value (some (.Subscript o (.Slice lo hi none p2) pos')) pos.line X.env=pure false:=by rfl):PS X (.Assign [.Subscript o (.Slice lo hi none p2) pos'] value pos) (AU tv to tl th):=by
 refine .mk ?_;intro pins s σ H D I h;refine wpAny_Assign_Subscript (bL (hv pins s σ H _ I h) fun r s1 ⟨v,H1,I1,rv,q1⟩=>bL (ho pins s1 σ H1 _ I1 q1) fun u s2 ⟨x,H2,I2,rx,q2⟩=>?_) hs;refine wpAny_Slice (bL (hl pins s2 σ H2 _ I2 q2) fun vl s3 ⟨l0,H3,I3,pl,q3⟩=>bL (hh pins s3 σ H3 _ I3 q3) fun vu s4 ⟨u0,H4,I4,pu,q4⟩=>?_);rw[evalPart_none];refine Yp ?_;obtain⟨l,b,xs,ys,a,c,rfl,rfl,rfl,rfl,hH,hB,Cs,h0,DC,hc,hz,q⟩:=q4;cases rx;cases rv;have I5:Inv X pins σ H4 {s4 with heap:=s4.heap.push {cls:=.type "slice",data:=.fields #[vl,vu,.none]}}:=I4.kept (t':=s4.toks) fun b ob q=>Yn _ q;cases pl with
 | int _ Xw=>
  cases pu with
  | int _ Xu=>exact sP I5 hH hB Cs (Heap.IsSliceOf.new ..) ⟨_,rfl⟩ ⟨_,rfl⟩ h0 DC hc hz fun s' I'=>⟨σ,_,I',q⟩
theorem tX(l:Addr)(items:Array Value)(n:Nat)(x:Int)(u:Tok)(y:Value)(Vp:¬(!Builtin.List.listFitsIndex x)=true)(UX:items.size≤sizeLine):
  Meets (Builtin.«list.insert» ⟨[.ref l,.int x u,y],[]⟩) (fun _ R s=>s.heap.get? l=some {cls:=.type "list",data:=.seq items n}∧R (.ok (.ret Value.none)) {s with heap:=s.heap.update l (Obj.mapSeq fun xs=>(xs.extract 0 (if x < 0 then(x+(xs.size:Int)).toNat else min x.toNat xs.size)).push y++xs.extract (if x < 0 then(x+(xs.size:Int)).toNat else min x.toNat xs.size)),toks:=s.toks}):=AutoSeq1.list_insert_list_int_val_1 l items n x u y Vp UX
theorem ud{i:Int}(h0:0≤i)(h:i < 16777216):Builtin.List.listFitsIndex i=true:=fitsIndex_both (by omega) (by omega)
theorem Cd{i:Int}{n:Nat}(h0:0≤i)(h:i≤n):(if i < 0 then(i+(n:Int)).toNat else min i.toNat n)=i.toNat:=by
 rw[YN (by omega)];omega
def xG:V→List V→Hp→VK→Prop:=fun x vs H Q=>∃ l xs i y,x=.ref l∧vs=[.int i,y]∧H l=some (.lst xs)∧0≤i∧i≤xs.length∧xs.length < sizeLine∧Q .non (upd H l (.lst (xs.take i.toNat++[y]++xs.drop i.toNat)))
theorem tM:OR X "list.insert" xG:=by
 intro pins s σ H x vs v us Q I rx rv h;obtain⟨l,xs,i,y,rfl,rfl,hH,Jl,hi,hz,q⟩:=h;cases rx;obtain⟨u1,u2,rfl,ru,Sq⟩:=rv.two;obtain⟨t,rfl⟩:=ru;obtain⟨z,aA,n,r,hl,e⟩:=I.oK hH;have Ql:xs.length < 16777216:=by rw[Zk]at hz;exact hz
 have Cu:Builtin.List.listFitsIndex i=true:=ud Jl (by omega);have U5:¬(!Builtin.List.listFitsIndex i)=true:=by rw[Cu];exact Yx
 have hsz:aA.toArray.size≤sizeLine:=by rw[YL,← hl];exact Zi hz
 have M:=tX l aA.toArray n i t u2 U5 hsz;refine abQ F.slot_list_insert ⟨_,e,rfl⟩ F.entry_list_insert (F.args_list_insert_3 _ _ _) M ⟨e,?_⟩;refine⟨.non,_,I.yP (its':=aA.take i.toNat++[u2]++aA.drop i.toNat) hH e ?_ ((Vals.append (r.take i.toNat) (.cons Sq .nil)).append (r.drop i.toNat)) ?_,rfl,q⟩
 ·show((aA.toArray.extract 0 (if i < 0 then(i+(aA.toArray.size:Int)).toNat else min i.toNat aA.toArray.size)).push u2++aA.toArray.extract (if i < 0 then(i+(aA.toArray.size:Int)).toNat else min i.toNat aA.toArray.size))=_
  rw[Cd Jl (by rw[YL,← hl];exact hi)];apply Array.toList_inj.mp
  simp;exact YX (by rw[Y3];omega)
 ·rw[Yo,Yo,YG,Y3,List.length_singleton]
  omega
end
end L2
namespace L3
open PySem PySem.Spec L2
open PyProof.Rows hiding St
def kT:Key→T
 | .inl i=>.int i
 | .inr z=>.str z
theorem rL{H:Hp}{v:V}{k:Key}(h:R H v (kT k)):v=kV k:=by
 cases k with
 | inl i=>exact cm h
 | inr z=>exact oR h
def de(ak:List (Key×T))(k:Key):Option T:=(ak.find? fun kv=>decide (kv.1=k)).map (·.2)
def jd(ak:List (Key×T))(k:Key)(v:T):List (Key×T):=
 if(ak.any fun kv=>decide (kv.1=k))=true then ak.map (fun kv=>if kv.1=k then(kv.1,v)else kv)else ak++[(k,v)]
def fu(ak:List (Key×T))(k:Key):List (Key×T):=ak.filter fun kv=>decide (kv.1≠k)
section
variable {H:Hp}
theorem Ks.len:∀{us:List (Key×V)} {ak:List (Key×T)},Ks H us ak→us.length=ak.length
 | _,_,.nil=>rfl
 | _,_,.cons a b=>by rw[YF,YF,Ks.len b]
theorem Ks.val:∀{us:List (Key×V)} {ak:List (Key×T)} (k:Key),Ks H us ak→(fJ us k=none∧de ak k=none)∨∃ v t,fJ us k=some v∧de ak k=some t∧R H v t
 | _,_,k,.nil=>.inl ⟨rfl,rfl⟩
 | (k1,v)::us,(k2,t)::ak,k,.cons a b=>by
  obtain⟨e,r⟩:=a;have e:k1=k2:=e;subst e;by_cases h:k1=k
  ·exact .inr ⟨v,t,ip h,by simp[de,Zl,h],r⟩
  ·rcases Ks.val k b with⟨x,y⟩ | ⟨v',t',x,y,r'⟩
   ·exact .inl ⟨by rw[fI h];exact x,by rw[show de ((k1,t)::ak) k=de ak k by simp[de,Zl,h]];exact y⟩
   ·exact .inr ⟨v',t',by rw[fI h];exact x,by rw[show de ((k1,t)::ak) k=de ak k by simp[de,Zl,h]];exact y,r'⟩
theorem Ks.any:∀{us:List (Key×V)} {ak:List (Key×T)} (k:Key),Ks H us ak→(us.any fun kv=>decide (kv.1=k))=(ak.any fun kv=>decide (kv.1=k))
 | _,_,k,.nil=>rfl
 | (k1,v)::us,(k2,t)::ak,k,.cons a b=>by
  obtain⟨e,r⟩:=a;have e:k1=k2:=e;subst e;rw[aaY,aaY,Ks.any k b]
theorem Ks.map:∀{us:List (Key×V)} {ak:List (Key×T)} {v:V} {t:T} (k:Key),R H v t→Ks H us ak→Ks H (us.map fun kv=>if kv.1=k then(kv.1,v)else kv) (ak.map fun kv=>if kv.1=k then(kv.1,t)else kv)
 | _,_,v,t,k,r,.nil=>.nil
 | (k1,v1)::us,(k2,t1)::ak,v,t,k,r,.cons a b=>by
  obtain⟨e,r1⟩:=a;have e:k1=k2:=e;subst e;rw[YC,YC];by_cases h:k1=k
  ·rw[YV h,YV h];exact .cons ⟨rfl,r⟩ (Ks.map k r b)
  ·rw[YN h,YN h];exact .cons ⟨rfl,r1⟩ (Ks.map k r b)
theorem Ks.snoc:∀{us:List (Key×V)} {ak:List (Key×T)} {v:V} {t:T} (k:Key),R H v t→Ks H us ak→Ks H (us++[(k,v)]) (ak++[(k,t)])
 | _,_,v,t,k,r,.nil=>.cons ⟨rfl,r⟩ .nil
 | _::_,_::_,v,t,k,r,.cons a b=>.cons a (Ks.snoc k r b)
theorem Ks.put{us:List (Key×V)}{ak:List (Key×T)}{v:V}{t:T}(k:Key)(r:R H v t)(h:Ks H us ak):Ks H (putK us k v) (jd ak k t):=by
 unfold putK jd;rw[h.any k];split
 ·exact h.map k r
 ·exact h.snoc k r
theorem Ks.drop:∀{us:List (Key×V)} {ak:List (Key×T)} (k:Key),Ks H us ak→Ks H (ft us k) (fu ak k)
 | _,_,k,.nil=>.nil
 | (k1,v1)::us,(k2,t1)::ak,k,.cons a b=>by
  obtain⟨e,r1⟩:=a;have e:k1=k2:=e;subst e;unfold ft fu;rw[Zx,Zx];by_cases h:k1=k
  ·rw[YN (by simpa using h),YN (by simpa using h)];exact Ks.drop k b
  ·rw[YV (by simpa using h),YV (by simpa using h)];exact .cons ⟨rfl,r1⟩ (Ks.drop k b)
end
section
variable {X:Cx}{E:St→XK}{C:Addr}
def i7(C:Addr)(m:Str)(sp:eK)(to:E3)(t:A3):E3:=fun Y τ Γ Z=>to Y τ Γ fun x Γ1=>∃ a dx fs,x=.ref a∧Γ1 a=some (.ins C dx fs)∧fs.lookup m=none∧t Y τ Γ1 fun xs Γ2=>sp (.ref a::xs) Γ2 Z (Y τ)
theorem fT{m:Str}{k j:Nat}{ps:List Str}{sp:eK}{o e:Expr}{es:List Expr}{to:E3}{t:A3}{apos pos:Pos}{pl:Sem Bool}(c:kL X.prog X.w X.K X.mg X.base C m k ps sp)(hr:cq j X.A)(hk:k≤j)(hx:nH X E)(he:PE X o (bH E to))(ha:PA X (e::es) (lU E t))
  (kr:starEach (e::es) X.env=(false,eval e X.env)::starEach es X.env:=by rfl) (fA:(backTo pos (starEach es X.env)).any (·.1)=false:=by rfl)
  (ht:eval (.Call (.Attribute o m apos) (e::es) [] pos) X.env=(do
   let ov ← eval o X.env
   standAt apos.atName
   let(f,first) ← holding [ov] (getMethod ov m pl)
   callWith pos f first (backTo pos (starEach (e::es) X.env)) (backToKw pos (keywordEach [] X.env))):=by rfl):PE X (.Call (.Attribute o m apos) (e::es) [] pos) (bH E (i7 C m sp to t)):=by
 refine cj (vz (pl:=pl) c hr hk hx he ha kr fA ht) fun σ H Q τ Γ Y Z rs hr t vr xr=>?_;refine⟨τ,Γ,Y,_,rs,hr,t,fun v x H1 Γ1 s1 h1 r1 z1=>?_,xr⟩;obtain⟨a,dx,fs,rfl,g,l,z⟩:=z1;obtain⟨gs,hg,q⟩:=h1 a _ g;refine⟨a,dx,gs,bz r1,hg,q.non l,?_⟩;refine⟨τ,Γ1,Y,_,rs.mono s1.tq,h1,z,fun vs xs H2 Γ2 s2 h2 r2 z2=>?_,xr.mono s1⟩;have nK:=s1.trans s2;exact⟨.ref a::xs,Γ2,Z,Y τ,aY d7 r2,h2,z2,vr.mono nK,fun C H' Γ' s' h' y=>xr σ τ C H' Γ' (nK.trans s') h' (rs.mono (nK.trans s').tq) y⟩
theorem yw(hu:X.A.units+1 < cLine):ie X (compareOp .NotIn) (fun y x Γ Z=>∃ a ak k,x=.ref a∧y=kT k∧Γ a=some (.dK ak)∧Z (.bl (!(de ak k).isSome)) Γ):=
 ⟨_,yz hu,fun y x v b H Γ Q Z ra rb hr q0 vr=>by
  obtain⟨a,ak,k,ex,ey,g,z⟩:=q0;subst ex ey;obtain⟨us,hu,q⟩:=hr a _ g;rw[rL ra];refine⟨a,_,bz rb,nJ.k hu,?_⟩;have e:(fJ us k).isSome=(de ak k).isSome:=by
   rcases q.val k with⟨x,y⟩ | ⟨v,t,x,y,_⟩<;>rw[x,y]<;>rfl
  rw[e];exact vr _ _ H Γ .refl hr fQ z⟩
def rR(td ty:E3):E3:=fun Y τ Γ Z=>td Y τ Γ fun x Γ1=>ty Y τ Γ1 fun y Γ2=>∃ a ak k v,x=.ref a∧y=kT k∧Γ2 a=some (.dK ak)∧de ak k=some v∧Z v Γ2
theorem xQ{o i:Expr}{td ty:E3}{pos:Pos}(hu:X.A.units+1 < cLine)(ho:PE X o (bH E td))(hi:PE X i (bH E ty))(hs:Dg i:=by exact fun _ _=>rfl):PE X (.Subscript o i pos) (bH E (rR td ty)):=
 cj (yj hu ho hi hs) fun σ H Q τ Γ Y Z rs hr t vr xr=>by
  refine⟨τ,Γ,Y,_,rs,hr,t,fun v x H1 Γ1 s1 h1 r1 z1=>?_,xr⟩;refine⟨τ,Γ1,Y,_,rs.mono s1.tq,h1,z1,fun w y H2 Γ2 s2 h2 r2 z2=>?_,xr.mono s1⟩;obtain⟨a,ak,k,u,rfl,rfl,g,l,z⟩:=z2;obtain⟨us,hu,q⟩:=h2 a _ g;rcases q.val k with⟨_,y⟩ | ⟨v',t',x',y',r'⟩
  ·rw[l]at y;cases y
  rw[l]at y';cases y';refine⟨a,v',bz r1,?_,vr v' u H2 Γ2 (s1.trans s2) h2 r' z⟩;rw[rL r2,← x'];exact nJ.k hu
def Ag(td ty tv:E3):C3:=fun Y D τ Γ=>tv Y τ Γ fun v Γ1=>td Y τ Γ1 fun x Γ2=>ty Y τ Γ2 fun y Γ3=>∃ a ak k,x=.ref a∧y=kT k∧Γ3 a=some (.dK ak)∧ak.length < sizeLine∧D.nx τ (up Γ3 a (.dK (jd ak k v)))
theorem xJ{o i value:Expr}{td ty tv:E3}{pos pos':Pos}(hu:X.A.units+1 < cLine)(ho:PE X o (bH E td))(hi:PE X i (bH E ty))(hv:PE X value (bH E tv))(hs:swapsWith value (some (.Subscript o i pos')) pos.line X.env=pure false:=by rfl):PS X (.Assign [.Subscript o i pos'] value pos) (gQ E (Ag td ty tv)):=
 cT (x5 hu ho hi hv hs) fun D σ H τ Γ Y Z rs hr t dr xr=>by
  refine⟨τ,Γ,Y,_,rs,hr,t,fun v v3 H1 Γ1 s1 h1 r1 z1=>?_,xr⟩;refine⟨τ,Γ1,Y,_,rs.mono s1.tq,h1,z1,fun x x3 H2 Γ2 s2 h2 r2 z2=>?_,xr.mono s1⟩;refine⟨τ,Γ2,Y,_,rs.mono (s1.trans s2).tq,h2,z2,fun y y3 H3 Γ3 s3 h3 r3 z3=>?_,xr.mono (s1.trans s2)⟩;obtain⟨a,ak,k,rfl,rfl,g,l,z⟩:=z3;obtain⟨us,hu,q⟩:=h3 a _ g;have Dp:=(s1.trans s2).trans s3;have st:dw H3 Γ3 (upd H3 a (.dK (putK us k v))) (up Γ3 a (.dK (jd ak k v3))):=dw.set h3 g;refine⟨a,_,bz r2,by rw[rL r3];exact wZ.k hu (by rw[q.len];exact l),?_⟩;have tq:Tq H3 (upd H3 a (.dK (putK us k v))):=gX hu ⟨fun _ z=>(nomatch z),fun _ _ z=>(nomatch z)⟩;exact dr.nx _ _ _ _ (Dp.trans st) (h3.set g ⟨_,az,(q.put k (r1.mono (s2.trans s3).tq)).mono tq⟩) (rs.mono (Dp.trans st).tq) z
def sj(td ty:E3):C3:=fun Y D τ Γ=>td Y τ Γ fun x Γ1=>ty Y τ Γ1 fun y Γ2=>∃ a ak k,x=.ref a∧y=kT k∧Γ2 a=some (.dK ak)∧(de ak k).isSome=true∧D.nx τ (up Γ2 a (.dK (fu ak k)))
theorem xK{o i:Expr}{td ty:E3}{pos eO:Pos}(ho:PE X o (bH E td))(hi:PE X i (bH E ty)):PS X (.Delete [.Subscript o i eO] pos) (gQ E (sj td ty)):=
 cT (x6 ho hi) fun D σ H τ Γ Y Z rs hr t dr xr=>by
  refine⟨τ,Γ,Y,_,rs,hr,t,fun x x3 H1 Γ1 s1 h1 r1 z1=>?_,xr⟩;refine⟨τ,Γ1,Y,_,rs.mono s1.tq,h1,z1,fun y y3 H2 Γ2 s2 h2 r2 z2=>?_,xr.mono s1⟩;obtain⟨a,ak,k,rfl,rfl,g,l,z⟩:=z2;obtain⟨us,hu,q⟩:=h2 a _ g;have e:(fJ us k).isSome=(de ak k).isSome:=by
   rcases q.val k with⟨x,y⟩ | ⟨v,t,x,y,_⟩<;>rw[x,y]<;>rfl
  have nK:=s1.trans s2;have st:dw H2 Γ2 (upd H2 a (.dK (ft us k))) (up Γ2 a (.dK (fu ak k))):=dw.set h2 g;have tq:Tq H2 (upd H2 a (.dK (ft us k))):=gX hu ⟨fun _ z=>(nomatch z),fun _ _ z=>(nomatch z)⟩;exact⟨a,us,k,bz r1,hu,rL r2,by rw[e];exact l,dr.nx _ _ _ _ (nK.trans st) (h2.set g ⟨_,az,(q.drop k).mono tq⟩) (rs.mono (nK.trans st).tq) z⟩
def kG(tv to:E3)(tl th:O3):C3:=fun Y D τ Γ=>tv Y τ Γ fun v Γ1=>to Y τ Γ1 fun x Γ2=>tl Y τ Γ2 fun lo Γ3=>th Y τ Γ3 fun hi Γ4=>∃ l b xs ys a c,x=.ref l∧v=.ref b∧lo=some a∧hi=some c∧Γ4 l=some (.lst xs)∧Γ4 b=some (.lst ys)∧l≠b∧0≤a∧a≤c∧c≤(xs.length:Int)∧xs.length+ys.length≤sizeLine∧D.nx τ (up Γ4 l (.lst (xs.take a.toNat++ys++xs.drop c.toNat)))
theorem jW{o value:Expr}{lo hi:Option Expr}{tv to:E3}{tl th:O3}{p2 pos pos':Pos}(hv:PE X value (bH E tv))(ho:PE X o (bH E to))(hl:PO X lo (IY E tl))(hh:PO X hi (IY E th))(hs:swapsWith value (some (.Subscript o (.Slice lo hi none p2) pos')) pos.line X.env=pure false:=by rfl):PS X (.Assign [.Subscript o (.Slice lo hi none p2) pos'] value pos) (gQ E (kG tv to tl th)):=
 cT (vp hv ho hl hh hs) fun D σ H τ Γ Y Z rs hr t dr xr=>by
  refine⟨τ,Γ,Y,_,rs,hr,t,fun v v3 H1 Γ1 s1 h1 r1 z1=>?_,xr⟩;refine⟨τ,Γ1,Y,_,rs.mono s1.tq,h1,z1,fun x x3 H2 Γ2 s2 h2 r2 z2=>?_,xr.mono s1⟩;have nK:=s1.trans s2;refine⟨τ,Γ2,Y,_,rs.mono nK.tq,h2,z2,fun lo H3 Γ3 s3 h3 z3=>?_,xr.mono nK⟩;have Dp:=nK.trans s3;refine⟨τ,Γ3,Y,_,rs.mono Dp.tq,h3,z3,fun hi H4 Γ4 s4 h4 z4=>?_,xr.mono Dp⟩;have Dn:=Dp.trans s4;obtain⟨l,b,xs,ys,a,c,rfl,rfl,rfl,rfl,gl,gb,ne,a0,ac,cx,hz,z⟩:=z4;obtain⟨us,hu,q⟩:=h4 l _ gl;obtain⟨ws,hw,q'⟩:=h4 b _ gb;have st:dw H4 Γ4 (upd H4 l (.lst (us.take a.toNat++ws++us.drop c.toNat))) (up Γ4 l (.lst (xs.take a.toNat++ys++xs.drop c.toNat))):=dw.set h4 gl;have qe:Rs H4 (us.take a.toNat++ws++us.drop c.toNat) (xs.take a.toNat++ys++xs.drop c.toNat):=Rs.app (Rs.app (q.take _) q') (q.drop _);refine⟨l,b,us,ws,a,c,bz r2,bz r1,rfl,rfl,hu,hw,ne,a0,ac,by rw[q.length];exact cx,by rw[q.length,q'.length];exact hz,?_⟩;exact dr.nx _ _ _ _ (Dn.trans st) (h4.set gl ⟨_,az,qe.mono st.tq⟩) (rs.mono (Dn.trans st).tq) z
theorem tN:MQ X "list.insert" (fun x ts Γ Z=>∃ a us i y,x=.ref a∧ts=[.int i,y]∧Γ a=some (.lst us)∧0≤i∧i≤us.length∧us.length < sizeLine∧Z .non (up Γ a (.lst (us.take i.toNat++[y]++us.drop i.toNat)))):=
 ⟨_,tM,fun v x vs ts H Γ Q Z r rs hr q0 vr=>by
  obtain⟨a,us,i,y,ex,et,g,Jl,hi,hz,z⟩:=q0;subst ex et;obtain⟨w1,w2,rfl,r1,r2⟩:=vg rs;obtain⟨va,ME,qa⟩:=hr a _ g;refine⟨a,va,i,w2,bz r,by rw[cm r1],ME,Jl,by rw[qa.length];exact hi,by rw[qa.length];exact hz,?_⟩;have s:dw H Γ (upd H a (.lst (va.take i.toNat++[w2]++va.drop i.toNat))) (up Γ a (.lst (us.take i.toNat++[y]++us.drop i.toNat))):=.set hr g;have qe:Rs H (va.take i.toNat++[w2]++va.drop i.toNat) (us.take i.toNat++[y]++us.drop i.toNat):=Rs.app (Rs.app (qa.take _) (aY r2 bT)) (qa.drop _);exact vr _ _ _ _ s (hr.set g ⟨_,az,qe.mono s.tq⟩) n9 z⟩
end
end L3
namespace Sr
open PySem PyProof.Rows
section
variable {prog:Program}{w:World}{A:Around}{E:Value→Shared→Prop}{s:Shared}{Kk:Type}[DecidableEq Kk]{knd:KeyKind prog w Kk}
end
end Sr
namespace L2
open PySem PyProof.Rows
section
variable {X:Cx}
end
end L2
namespace L3
open PySem PySem.Spec L2
theorem Ks.keys{H:Hp}:∀{us:List (Key×V)} {ak:List (Key×T)},Ks H us ak→us.map (·.1)=ak.map (·.1)
 | _,_,.nil=>rfl
 | _,_,.cons a b=>by rw[YC,YC,a.1,Ks.keys b]
section
variable {X:Cx}{E:St→XK}
end
end L3
namespace L2
open PySem PySem.Spec PyProof.Rows PySem.W
section
variable {X:Cx}{body fL AO:List Stmt}{b₀ b₂:Stmt}{y y2:Str}{np oS TR GB pos:Pos}{Cy Cz:Addr}{tb:(St→XK)→TS}{ts RK:TS}
end
end L2
namespace L3
open PySem PySem.Spec L2
section
variable {X:Cx}{E:St→XK}{body fL AO:List Stmt}{b₀ b₂:Stmt}{y y2:Str}{np oS TR GB pos:Pos}{Cy Cz:Addr}{tb ts RK:C3}
end
end L3
namespace Sr
open PySem PyProof.Rows
def i3:KeyOrd where
 α:=Int
 blt a b:=decide (a < b)
 irrefl a:=by simp
 trans a b c h h':=by simp at *;omega
 negTrans a b c h:=by simp at *;omega
 total a b h h':=by simp at *;omega
def ly(h:Heap)(v:Value)(i:Int):Prop:=∃ a o t rest n,v=.ref a∧h.get? a=some o∧o.cls=.type "tuple" ∧ o.data=.seq (Value.int i t::rest).toArray n
def dX(h:Heap)(v:Value):Int:=match v with
 | .ref a=>match h.get? a with
  | some o=>match o.data with
   | .seq xs _=>match(xs[0]? : Option Value)with
    | some (Value.int i _)=>i
    | _=>0
   | _=>0
  | none=>0
 | _=>0
theorem ly.fst{h:Heap}{v:Value}{i:Int}(x:ly h v i):dX h v=i:=by
 obtain⟨a,o,t,rest,n,rfl,g,c,d⟩:=x;unfold dX;simp[g,d]
theorem ly.keep{h h':Heap}{v:Value}{i:Int}(x:ly h v i)(k:∀ b o,h.get? b=some o→v=.ref b→h'.get? b=some o):ly h' v i:=by
 obtain⟨a,o,t,rest,n,rfl,g,c,d⟩:=x;exact⟨a,o,t,rest,n,rfl,k a o g rfl,c,d⟩
theorem qV(f:Value→Int):∀ vs:List Value,(vs.zip vs).map (fun p=>f p.1)=vs.map f
 | []=>rfl
 | v::r=>by rw[abw,YC,YC,qV f r]
section
variable {M:Model}{prog:Program}{w:World}{A:Around}{E:Value→Shared→Prop}{s:Shared}
theorem za{v:Value}{i:Int}{Q:Option Value→Shared→Prop}(h:ly s.heap v i)(q:∀ t,Q (some (.int i t)) s):wpAny M A (firstOfTuple' v) Q E s:=by
 obtain⟨a,o,t,rest,n,rfl,g,c,d⟩:=h;show wpAny M A (typeOf (.ref a) >>= _) Q E s
 refine Ym (aa0 (T := "tuple") ⟨o,g,c⟩ ?_);rw[YN (by decide)];refine Ym (listItems_at g d ?_);refine Yp ?_;have e:(Value.int i t::rest).toArray[0]? = some (Value.int i t):=by simp
 first
  | exact q t
  | (rw[e];exact q t)
theorem BX{vs:List Value}{Q:SortKind→Shared→Prop}(h:∀ v∈vs,∃ i,ly s.heap v i)(ne:0 < vs.length)(q:Q (tuples' true) s):wpAny M A (keyKind' vs.toArray) Q E s:=by
 rw[keyKind'_eq];refine Ym (qY (fun r=>∃ i t,r=some (Value.int i t)) (fun v hv Q' hQ=>?_) fun rs hl hr=>?_)
 ·obtain⟨i,hp⟩:=h v hv
  exact za hp fun t=>hQ _ ⟨i,t,rfl⟩
 have ha:(rs.toArray.all fun x=>x.isSome)=true:=by
  rw[List.all_toArray,ZI];intro x hx;obtain⟨z,t,rfl⟩:=hr x hx;rfl
 rw[YV ha];refine Ym (ZS ?_);rw[oneTypeOnly'_eq];have hf:Array.filterMap id rs.toArray=(rs.filterMap id).toArray:=by simp
 rw[hf];have hm:∀ v∈rs.filterMap id,∃ z t,v=Value.int z t:=fun v hv=>by
  obtain⟨x,hx,e⟩:=aae.mp hv;obtain⟨z,t,rfl⟩:=hr x hx;cases e;exact⟨z,t,rfl⟩
 have hlen:(rs.filterMap id).length=rs.length:=by
  clear hf hm ha hl;induction rs with
  | nil=>rfl
  | cons x r ih=>
   obtain⟨z,t,rfl⟩:=hr x (by simp);show((Value.int z t)::r.filterMap id).length=_
   rw[YF,YF,ih fun y hy=>hr y (by simp[hy])]
 refine Ym (Ym (qY (fun r=>r=Value.type "int") (fun v hv Q' hQ=>?_) fun ts Jj ht=>?_))
 ·obtain⟨z,t,rfl⟩:=hm v hv
  exact aa0 (T := "int") rfl (hQ _ rfl)
 cases ts with
 | nil=>rw[hlen,hl]at Jj;simp at Jj;omega
 | cons x r=>
  have hx:=ht x (by simp);subst hx;have CC:((Value.type "int" :: r).toArray.all fun y=>y == Value.type "int")=true:=by
   rw[List.all_toArray,ZI];intro y hy;rw[ht y hy];decide
  show wpAny M A (pure (if((Value.type "int" :: r).toArray.all fun y=>y == Value.type "int")=true then some (Value.type "int")else none)) _ E s
  rw[YV CC];exact Yp (Yp q)
theorem L7{u v:Value}{i j:Int}{Q:Bool→Shared→Prop}(hu:ly s.heap u i)(hv:ly s.heap v j)(ne:i≠j)(q:Q (decide (i < j)) s):wpAny (model prog w) A (keyLt' (tuples' true) u v) Q E s:=by
 obtain⟨a,o1,t1,r1,n1,rfl,g1,c1,d1⟩:=hu;obtain⟨b,o2,t2,r2,n2,rfl,g2,c2,d2⟩:=hv;show wpAny (model prog w) A (Builtin.List.listItems (.ref a) >>= _) Q E s
 refine Ym (listItems_at g1 d1 ?_);refine Ym (listItems_at g2 d2 ?_);refine Ym ?_;have e0:((Value.int i t1::r1).toArray.toList.zip (Value.int j t2::r2).toArray.toList).zipIdx=((Value.int i t1,Value.int j t2),0)::(r1.zip r2).zipIdx 1:=rfl;rw[e0,aaK];refine Ym (Ym (L2.CI (y:=.int i) (x:=.int j) ⟨t1,rfl⟩ ⟨t2,rfl⟩ rfl rfl prog w _ _ ?_));have e1:L2.NN (.int i) (.int j)=false:=by simp[L2.NN,ne]
 rw[e1,YV (by decide)];refine Ym (oneLt_int ?_);refine Yp ?_;dsimp only;exact Yp (Yp q)
end
theorem fZ{h h':Heap}:∀{vs:List Value},(∀ v∈vs,∃ i,ly h v i∧ly h' v i)→vs.map (dX h)=vs.map (dX h')
 | [],_=>rfl
 | v::r,H=>by
  obtain⟨i,a,b⟩:=H v (by simp);rw[YC,YC,a.fst,b.fst,fZ fun v hv=>H v (by simp[hv])]
section
variable {prog:Program}{w:World}{A:Around}{E:Value→Shared→Prop}{s:Shared}
end
end Sr
namespace L2
open PySem PyProof.Rows
def wz(H:Hp):V→Int
 | .ref a=>match H a with
  | some (.tup (.int i::_))=>i
  | _=>0
 | _=>0
theorem rO{H:Hp}{a:Addr}{i:Int}{r:List V}(h:H a=some (.tup (.int i::r))):wz H (.ref a)=i:=by
 show(match H a with | some (.tup (.int i::_))=>i | _=>0)=i
 rw[h]
section
variable {X:Cx}{pins:List (Addr×Obj)}{σ:St}{H:Hp}{s:Shared}
theorem Cc(I:Inv X pins σ H s){a:Addr}{i:Int}{r:List V}(e:H a=some (.tup (.int i::r))):Sr.ly s.heap (.ref a) i:=by
 obtain⟨XW,r2,t2,_⟩:=I.tuple (iM.of (K:=X.K) e);cases r2 with
 | cons ra r3=>
  obtain⟨t,rfl⟩:=ra;obtain⟨o,g,c,n,d⟩:=t2;exact⟨a,o,t,_,n,rfl,g,c,d⟩
theorem keys_eq(I:Inv X pins σ H s):∀{ys:List V} {aA:List Value},Vals ys aA→(∀ y∈ys,∃ a i r,y=.ref a∧H a=some (.tup (.int i::r)))→aA.map (Sr.dX s.heap)=ys.map (wz H)∧∀ v∈aA,∃ i,Sr.ly s.heap v i
 | _,_,.nil,_=>⟨rfl,fun _ h=>(nomatch h)⟩
 | _,_,.cons (a:=y) r h',hy=>by
  obtain⟨a,i,rr,rfl,e⟩:=hy y (by simp);cases r;obtain⟨k1,k2⟩:=keys_eq I h' fun y hm=>hy y (by simp[hm]);have x:=Cc I e;refine⟨?_,fun v hv=>?_⟩
  ·rw[YC,YC,k1,x.fst,rO e]
  ·rcases Yq.mp hv with rfl | hv
   ·exact⟨i,x⟩
   ·exact k2 v hv
end
end L2
namespace L3
open PySem PySem.Spec L2
theorem mG{H:Hp}{α:Type}{f:α→T}{key:α→Int}(hf:∀ x,∃ r,f x=.tup (.int (key x)::r)):∀{ns:List α} {vs:List V},Rs H vs (ns.map f)→vs.map (wz H)=ns.map key∧∀ y∈vs,∃ a i r,y=.ref a∧H a=some (.tup (.int i::r))
 | [],vs,h=>by rw[ck h];exact⟨rfl,fun _ h=>(nomatch h)⟩
 | n::ns,vs,h=>by
  obtain⟨v,ws,rfl,a,b⟩:=cV h;obtain⟨r,er⟩:=hf n;rw[er]at a;obtain⟨p,us,rfl,hp,q⟩:=ko a;obtain⟨w,zA,rfl,r1,_⟩:=cV q;rw[cm r1]at hp;obtain⟨k1,k2⟩:=mG hf b;refine⟨by rw[YC,YC,k1,rO hp],fun y hy=>?_⟩;rcases Yq.mp hy with rfl | hy
  ·exact⟨p,_,_,rfl,hp⟩
  ·exact k2 y hy
section
variable {X:Cx}{E:St→XK}
end
end L3
namespace Sr
open PySem PyProof.Rows
abbrev nI(h:Heap)(it d:Addr)(i n ep:Nat)(own fl ok ov:Value):Prop:=
 h.get? it=some {cls:=.type "dict_itemiterator",dict:=none,data:=.fields #[own,fl,.ref d,.int i 0,.int n 0,.int ep 0,ok,ov],slots:=#[]}
theorem tQ:typeLookup (.type "dict_items") "__len__" = pure (some (.builtin "dict_items.__len__")):=by rw[typeLookup_type,builtinLookup_eq_fast];kernel_rfl
section
variable {prog:Program}{w:World}{K:Type}[DecidableEq K]{knd:PySem.KeyKind prog w K}{A:Around}{E:Value→Shared→Prop}{s:Shared}
theorem qz{it d t:Addr}{i ep:Nat}{ak:List (K×Value)}{k:K}{v ok ov:Value}{fl:Bool}{ot:Obj}{Q:Option Value→Shared→Prop}(hit:nI s.heap it d i ak.length ep (rawInt t) (.bool fl) ok ov)(ht:s.heap.get? t=some ot)(nt:t≠it)
  (hm:s.heap.DictAt knd d ak ep) (hx:ak[i]? = some (k,v))
  (hQ:∀ key h',knd.is k key=true→nI h' it d (i+1) ak.length ep (rawInt t) (.bool true) ok ov →
   h'.get? s.heap.objs.size=some {cls:=.type "tuple",data:=.seq #[key,v]} →
   (∀ b o,b≠it→s.heap.get? b=some o→h'.get? b=some o)→Q (some (.ref s.heap.objs.size)) {s with heap:=h'}) :
  wpAny (model prog w) A (pyNext (.ref it)) Q E s:=by
 obtain⟨hp,g,dr,tk,os⟩:=s;obtain⟨od,es,GD,qH,GS,hk,Jc,hn⟩:=id hm;have hT:Shared.TypeIs ⟨hp,g,dr,tk,os⟩ (.ref it) "dict_itemiterator" :=⟨_,hit,rfl⟩;unfold pyNext;refine Ym (aar (Zh (name:=Str.ofString "__next__") hT aai
  (ZC aai hT abX ?_ (abT _))))
 refine Ym (Yp ?_);refine Ym ?_;refine Ym ?_;first | refine Ym (aab hT (Yp ?_)) | refine Ym (aaw hT (Yp ?_))
 refine Ym (wpAny_fieldsOf hit rfl ?_);have Cn:Builtin.Dict_items.ownsTuple "dict_itemiterator" = true:=by decide
 simp only[Cn,abm];show wpAny _ _ (if(Value.ref d == Value.none)=true then _ else _) _ _ _
 rw[YN (show ¬((Value.ref d == Value.none)=true)from Yx)];refine Ym (Yp ?_);refine Ym (wpAny_dictEntries GD GS ?_);have hsz:es.size=ak.length:=by rw[← Jc.length];simp
 rw[YN (by rw[hsz];simp)];refine Ym (Yp ?_);refine Ym (wpAny_dictEpoch GD GS ?_);rw[YN (by simp)];refine Yp ?_;have gC:i < ak.length:=by
  rcases aaE i ak.length with h | h
  ·exact h
  ·simp[List.getElem?_eq_none h]at hx
 have GI:i < es.size:=by rw[hsz];exact gC
 obtain⟨mW,MD⟩:=Jc.get? (e:=es[i]) (by simp[GI]) hx;simp only[show ¬((i:Int) < 0)from by omega,abJ,Zm,aaS GI];refine Ym ?_;first | refine Ym (aab hT (Yp ?_)) | refine Ym (aaw hT (Yp ?_))
 refine Ym (abl hT ?_);show wpAny _ _ (setField (.ref it) 3 (rawInt ((i:Int)+1)) >>= _) _ _ ⟨hp,g,dr,tk,os⟩
 refine Ym (wpAny_setField_rec hit (by simp) fun h₁ GO Gx=>?_)
 replace Gx:Heap.SameBut it hp h₁:=Gx
 replace GO:nI h₁ it d (i+1) ak.length ep (rawInt t) (.bool fl) ok ov:=by
  have e:((i+1:Nat):Int)=(i:Int)+1:=by omega
  unfold nI;rw[e];simpa[rawInt]using GO
 have Ng:Shared.TypeIs ⟨h₁,g,dr,tk,os⟩ (.ref it) "dict_itemiterator" :=⟨_,GO,rfl⟩;refine Ym (aaq ?_);refine Ym (abl Ng ?_);refine Ym (abl Ng ?_);show wpAny _ _ (Builtin.Dict_items.pairFromOwner (.ref it) 6 es[i].key es[i].val) _ _ ⟨h₁,g,dr,tk,os⟩
 unfold Builtin.Dict_items.pairFromOwner;refine Ym (abz ?_);have GN:nI (h₁.push {cls:=.type "tuple",data:=.seq #[es[i].key,es[i].val]}) it d (i+1) ak.length ep (rawInt t) (.bool fl) ok ov:=Yn _ GO;generalize M0:h₁.push {cls:=.type "tuple",data:=.seq #[es[i].key,es[i].val]}=h₂ at GN;have MA:h₁.objs.size=hp.objs.size:=Gx.1;have Vb:it < hp.objs.size:=Yr hit;have US:h₂.get? hp.objs.size=some {cls:=.type "tuple",data:=.seq #[es[i].key,es[i].val]}:=by rw[← M0,← MA];exact YB _ rfl
 have Qy:∀ b o,b≠it→hp.get? b=some o→h₂.get? b=some o:=fun b o hb e=>by rw[← M0];exact Yn _ (Gx.extBut b o hb e)
 show wpAny _ _ (Builtin.Dict_items.ownedTupleIsFree (.ref it) >>= _) _ _ ⟨h₂,g,dr,tk,os⟩
 rw[MA];clear M0 GO Gx Ng MA h₁;have own:wpAny (model prog w) A.in1 (Builtin.Dict_items.ownedTupleIsFree (.ref it)) (fun b s'=>b=false∧∃ g1,s'=(⟨g1,g,dr,tk,os⟩:Shared)∧nI g1 it d (i+1) ak.length ep (rawInt t) (.bool true) ok ov∧Heap.SameBut it h₂ g1) (fun _ _=>False) ⟨h₂,g,dr,tk,os⟩:=by
  unfold Builtin.Dict_items.ownedTupleIsFree;refine Ym (Za GN rfl (x:=rawInt t) rfl ?_);show wpAny _ _ (loadIfAlive ((t:Nat):Int).toNat >>= _) _ _ _
  rw[Zm];refine Ym (W.kdx_alive (Qy t ot nt ht) ?_);dsimp only[Option.isNone];rw[YN Yx];refine Ym (Za GN rfl (x:=.bool fl) rfl ?_);cases fl with
  | true=>exact Yp ⟨rfl,h₂,rfl,GN,Heap.SameBut.refl _ _⟩
  | false=>
   rw[YV (by decide)];exact Ym (wpAny_setField_rec GN (by simp) fun g1 z1 e1=>Yp ⟨rfl,g1,rfl,z1,e1⟩)
 refine Ym (Zz own (fun b s' hb=>?_) fun _ _ e=>e.elim);obtain⟨rfl,g1,rfl,z1,e1⟩:=hb;rw[YN Yx];refine Yp (Yp ⟨_,rfl,Yp (hQ es[i].key g1 mW z1 ?_ ?_)⟩)
 ·rw[← MD];exact e1.extBut _ _ (ZK Vb) US
 ·exact fun b o hb e=>e1.extBut b o hb (Qy b o hb e)
theorem lW{it d:Addr}{i ep:Nat}{ak:List (K×Value)}{ok ov own fl:Value}{Q:Option Value→Shared→Prop}(hh:A.handled=none)(hit:nI s.heap it d i ak.length ep own fl ok ov)
  (hm:s.heap.DictAt knd d ak ep) (hx:ak[i]? = none)
  (hQ:∀ h',Heap.ExtBut it s.heap h'→Q none {s with heap:=h'}):wpAny (model prog w) A (pyNext (.ref it)) Q E s:=by
 obtain⟨od,es,GD,qH,GS,hk,Jc,hn⟩:=id hm;have hT:s.TypeIs (.ref it) "dict_itemiterator" :=⟨_,hit,rfl⟩;unfold pyNext;refine Ym (aar (Zh (name:=Str.ofString "__next__") hT aai
  (ZC aai hT abX ?_ (abT _))))
 refine Ym (Yp ?_);refine Ym ?_;refine Ym ?_;first | refine Ym (aab hT (Yp ?_)) | refine Ym (aaw hT (Yp ?_))
 refine Ym (wpAny_fieldsOf hit rfl ?_);have Cn:Builtin.Dict_items.ownsTuple "dict_itemiterator" = true:=by decide
 simp only[Cn,abm];show wpAny _ _ (if(Value.ref d == Value.none)=true then _ else _) _ _ s
 rw[YN (show ¬((Value.ref d == Value.none)=true)from Yx)];refine Ym (Yp ?_);refine Ym (wpAny_dictEntries GD GS ?_);have hsz:es.size=ak.length:=by rw[← Jc.length];simp
 rw[YN (by rw[hsz];simp)];refine Ym (Yp ?_);refine Ym (wpAny_dictEpoch GD GS ?_);rw[YN (by simp)];refine Yp ?_;have Jm:es.size≤i:=by rw[hsz];simpa using hx
 simp only[show ¬((i:Int) < 0)from by omega,abJ,Zm,Array.getElem?_eq_none Jm];refine Ym ?_;first | refine Ym (aab hT (Yp ?_)) | refine Ym (aaw hT (Yp ?_))
 show wpAny _ _ (setField (.ref it) 2 .none >>= _) _ _ s
 refine Ym (wpAny_setField hit rfl (by simp) ?_);show wpAny _ _ (newExc (.type "StopIteration") [] >>= _) _ _ _
 refine Ym ?_;simp only[newExc,newTuple];refine Ym (aap ?_ (by size_fits));refine Ym (m:=firstArgMember _ _) (wpAny_of_eq (a:=Value.none) (by first | rfl | (simp only[firstArgMember];rfl)) ?_);refine aap ?_ (by size_fits);simp only[raiseNew];refine Ym (wpAny_handled ?_);rw[show A.in1.handled=none from hh];refine Ym (Yp (wpAny_throw ?_));refine Ym (abh (T := "StopIteration") (b:=true) ⟨_,YB _ rfl,rfl⟩ isSubtype_stop ?_);exact Yp (hQ _ (((abG ..).extBut.push _).push _))
end
section
variable {prog:Program}{w:World}{K:Type}[DecidableEq K]{knd:PySem.KeyKind prog w K}{A:Around}{s:Shared}
def gG(knd:PySem.KeyKind prog w K)(ak:List (K×Value))(h:Heap)(bs:List Addr):Prop:=bs.Nodup∧∀(j:Nat) (b:Addr),bs[j]? = some b→∃ key k x,h.get? b=some {cls:=.type "tuple",data:=.seq #[key,x]}∧ak[j]? = some (k,x)∧knd.is k key=true
theorem gG.nil{ak:List (K×Value)}{h:Heap}:gG knd ak h []:=⟨.nil,fun j b e=>by simp at e⟩
theorem gG.keep{ak:List (K×Value)}{h h':Heap}{bs:List Addr}(t:gG knd ak h bs)(k:∀ b o,b∈bs→h.get? b=some o→h'.get? b=some o):gG knd ak h' bs:=⟨t.1,fun j b e=>by
 obtain⟨key,kk,x,g,r⟩:=t.2 j b e;exact⟨key,kk,x,k b _ (ZT e) g,r⟩⟩
theorem gG.lt{ak:List (K×Value)}{h:Heap}{bs:List Addr}(t:gG knd ak h bs):∀ b∈bs,b < h.objs.size:=fun b hb=>by
 obtain⟨j,hj,e⟩:=aau hb;obtain⟨_,_,_,g,_⟩:=t.2 j b (by rw[YJ hj,e]);exact Yr g
theorem gG.snoc{ak:List (K×Value)}{h:Heap}{bs:List Addr}{T:Addr}{key x:Value}{k:K}(t:gG knd ak h bs)(nT:T∉bs)(g:h.get? T=some {cls:=.type "tuple",data:=.seq #[key,x]})(e:ak[bs.length]? = some (k,x))(hk:knd.is k key=true):gG knd ak h (bs++[T]):=by
 refine⟨?_,fun j b ej=>?_⟩
 ·rw[ZY]
  exact⟨t.1,by simp,fun a ha b hb z=>nT (by rw[YA.mp hb]at z;exact z ▸ ha)⟩
 ·by_cases hj:j < bs.length
  ·rw[Y6 hj]at ej;exact t.2 j b ej
  ·rw[YT (by omega)]at ej
   have h0:j-bs.length=0:=by
    by_cases h0:j-bs.length=0
    ·exact h0
    ·rw[List.getElem?_eq_none (by simp;omega)]at ej;cases ej
   have V1:j=bs.length:=by omega
   subst V1;simp at ej;subst ej;exact⟨key,k,x,g,e,hk⟩
theorem qx{R:Result→Shared→Prop}{ak:List (K×Value)}{it d S:Addr}{ep:Nat}{res:Value}{n0:Nat}(hh:A.handled=none)(hn:ak.length≤sizeLine)(Vh:d≠it)(GY:S≠it)(Vi:d≠S):
  ∀(m i:Nat) (s:Shared) (bs:List Addr) (c:Nat),ak.length-i=m→i≤ak.length→n0≤s.heap.objs.size→((i=0∧IsItemIter s.heap it d i ak.length ep .none .none)∨∃(t:Addr) (ot:Obj) (fl:Bool) (ok ov:Value),nI s.heap it d i ak.length ep (rawInt t) (.bool fl) ok ov∧s.heap.get? t=some ot∧t≠it∧t∈bs)→s.heap.DictAt knd d ak ep →
  s.heap.get? S=some {cls:=.type "list",dict:=none,data:=.seq (bs.map Value.ref).toArray c,slots:=#[]}→bs.length=i→gG knd ak s.heap bs→(∀ b∈bs,n0≤b∧b≠it∧b≠S) →
  (∀(h':Heap) (Jz:List Addr) (c':Nat),(∀ b o,b≠it→b≠S→s.heap.get? b=some o→h'.get? b=some o)→h'.get? S=some {cls:=.type "list",dict:=none,data:=.seq (Jz.map Value.ref).toArray c',slots:=#[]}→Jz.length=ak.length→gG knd ak h' Jz→(∀ b∈Jz,n0≤b∧b≠it∧b≠S)→R (.ok (.ret res)) {s with heap:=h'}) →
  codeAny (model prog w) A (.builtin "list.extend.loop" ⟨[.ref S,.ref it,res],[]⟩) R s:=by
 intro m;induction m with
 | zero=>
  intro i s bs c hk hi MU kr hd hS hl tp hb hR;have Jk:i=ak.length:=by omega
  refine abu F.entry_extend_loop ?_;rw[aaR aaz _];show wpAny _ A.in1 (pyNext (.ref it) >>= _) _ _ s
  have fin:∀ h',Heap.ExtBut it s.heap h'→R (.ok (.ret res)) {s with heap:=h'}:=fun h' e=>hR h' bs c (fun b o nb _ g=>e b o nb g) (e S _ GY hS) (by omega) (tp.keep fun b o m g=>e b o (hb b m).2.1 g) hb;rcases kr with⟨_,h⟩ | ⟨t,ot,fl,ok,ov,h,_⟩
  ·exact Ym (lW (own:=.none) (fl:=.bool false) hh h hd (by rw[Jk];simp) fun h' e=>Yp (fin h' e))
  ·exact Ym (lW hh h hd (by rw[Jk];simp) fun h' e=>Yp (fin h' e))
 | succ m ih=>
  intro i s bs c hk hi MU kr hd hS hl tp hb hR;have gC:i < ak.length:=by omega
  obtain⟨⟨k,x⟩,hx⟩:∃ p,ak[i]? = some p:=⟨ak[i],by simp[gC]⟩;have Vu:=Yr hS;refine abu F.entry_extend_loop ?_;rw[aaR aaz _];show wpAny _ A.in1 (pyNext (.ref it) >>= _) _ _ s
  have MY:it < s.heap.objs.size:=by
   rcases kr with⟨_,h⟩ | ⟨t,ot,fl,ok,ov,h,_⟩<;>exact Yr h
  have nS:s.heap.objs.size≠S:=ZK Vu;have P7:s.heap.objs.size≠it:=ZK MY;have next:∀(key:Value) (h':Heap) (t:Addr) (ot:Obj) (fl:Bool) (ok ov:Value),knd.is k key=true→nI h' it d (i+1) ak.length ep (rawInt t) (.bool fl) ok ov→h'.get? t=some ot→t≠it→t∈bs++[s.heap.objs.size] →
    h'.get? s.heap.objs.size=some {cls:=.type "tuple",data:=.seq #[key,x]}→(∀ b o,b≠it→s.heap.get? b=some o→h'.get? b=some o) →
    codeAny (model prog w) A (.builtin "list.extend.loop" ⟨[.ref S,.ref it,res],[]⟩) R {s with heap:=h'.update S (Obj.mapSeq (·.push (.ref s.heap.objs.size)))}:=fun key h' t ot fl ok ov mW wq ht nt mt hT wo=>by
   have Jr:=wo S _ GY hS;have vG:∀ b o,b≠S→h'.get? b=some o→(h'.update S (Obj.mapSeq (·.push (Value.ref s.heap.objs.size)))).get? b=some o:=fun b o hb e=>(aak _ _ (aaV hb)).trans e;have tS:t≠S:=by
    rcases YE.mp mt with h | h
    ·exact(hb t h).2.2
    ·rw[YA.mp h];exact nS
   have Jq:=aan (Obj.mapSeq (·.push (Value.ref s.heap.objs.size))) Jr rfl;have RL:gG knd ak (h'.update S (Obj.mapSeq (·.push (Value.ref s.heap.objs.size)))) (bs++[s.heap.objs.size]):=
    gG.snoc (tp.keep fun b o m g=>vG b o (hb b m).2.2 (wo b o (hb b m).2.1 g)) (fun m=>ZD _ (tp.lt _ m)) (vG _ _ nS hT) (by rw[hl];exact hx) mW
   obtain⟨c3,GZ⟩:∃ c3,(h'.update S (Obj.mapSeq (·.push (Value.ref s.heap.objs.size)))).get? S=some {cls:=.type "list",dict:=none,data:=.seq ((bs.map Value.ref).toArray.push (Value.ref s.heap.objs.size)) c3,slots:=#[]}:=⟨_,Jq⟩;rw[show(bs.map Value.ref).toArray.push (Value.ref s.heap.objs.size)=((bs++[s.heap.objs.size]).map Value.ref).toArray by simp]at GZ;refine ih (i+1) _ (bs++[s.heap.objs.size]) c3 (by omega) gC ?_ (.inr ⟨t,ot,fl,ok,ov,vG _ _ GY.symm wq,vG _ _ tS ht,nt,mt⟩) (hd.at' fun o e=>vG _ _ Vi (wo _ _ Vh e)) GZ (by rw[Yo,hl];rfl) RL (fun b Vr=>?_) fun h2 WA c2 k2 g2 l2 t2 n2=>?_
   ·exact Zi (aac MU (Yr (vG _ _ nS hT)))
   ·rcases YE.mp Vr with h | h
    ·exact hb b h
    ·rw[YA.mp h];exact⟨MU,P7,nS⟩
   ·exact hR h2 WA c2 (fun b o n1 n2 g=>k2 b o n1 n2 (vG b o n2 (wo b o n1 g))) g2 l2 t2 n2
  have sz:(bs.map Value.ref).toArray.size≤sizeLine∧((bs.map Value.ref).toArray.push (Value.ref s.heap.objs.size)).size≤sizeLine+1:=by simp;omega
  rcases kr with⟨_,h⟩ | ⟨t,ot,fl,ok,ov,h,ht,nt,mt⟩
  ·refine Ym (wpAny_pyNext_items_item h hd hx fun key h' mW wq hT hz wo=>?_)
   show wpAny _ A.in1 (updateSeq S (·.push (.ref s.heap.objs.size)) >>= _) _ _ _
   refine Ym ?_;exact aaT (wo S _ GY hS) rfl (Yp ⟨abL aaz _,next key h' s.heap.objs.size _ false key x mW wq hT P7 (by simp) hT wo⟩) sz.1 sz.2
  ·refine Ym (qz h ht nt hd hx fun key h' mW wq hT wo=>?_)
   show wpAny _ A.in1 (updateSeq S (·.push (.ref s.heap.objs.size)) >>= _) _ _ _
   refine Ym ?_;exact aaT (wo S _ GY hS) rfl (Yp ⟨abL aaz _,next key h' t ot true ok ov mW wq (wo t _ nt ht) nt (Zw _ mt) hT wo⟩) sz.1 sz.2
theorem lj{E:Value→Shared→Prop}{v d:Addr}{ak:List (K×Value)}{ep:Nat}{Q:List Value→Shared→Prop}(hh:A.handled=none)(hv:s.heap.IsItemsView v d)(hm:s.heap.DictAt knd d ak ep)(hn:ak.length≤sizeLine)
  (hQ:∀(h':Heap) (bs:List Addr),s.heap.objs.size < h'.objs.size→(∀ b o,s.heap.get? b=some o→h'.get? b=some o)→bs.length=ak.length→gG knd ak h' bs→(∀ b∈bs,s.heap.objs.size≤b)→Q (bs.map Value.ref) {s with heap:=h'}):wpAny (model prog w) A (collect (.ref v)) Q E s:=by
 obtain⟨ov,MR,QE,QB⟩:=id hv;have UR:=Yr MR;have gC:=hm.lt_size;unfold collect;refine Ym (wpAny_runValue (abu F.entry_proto_collect ?_));rw[aaR F.plain_proto_collect _];show wpAny _ A.in1 (newList [] >>= fun l=>again (.builtin "list.__iadd__" ⟨[l,.ref v],[]⟩)) _ _ s
 refine Ym (aap ?_);refine Yp ⟨abL F.plain_list_iadd _,abu F.entry_list_iadd ?_⟩;rw[aaR F.plain_list_iadd _];show wpAny _ A.in1 (Builtin.List.listExtendWith (.ref s.heap.objs.size) (.ref v) (.ref s.heap.objs.size)) _ _ _
 have Qw:=hm.push {cls:=.type "list",data:=.seq ([]:List Value).toArray};have Qn:(s.heap.push {cls:=.type "list",data:=.seq ([]:List Value).toArray}).IsItemsView v d:=⟨ov,Yn _ MR,QE,QB⟩;have Vv:(s.heap.push {cls:=.type "list",data:=.seq ([]:List Value).toArray}).get? s.heap.objs.size=some {cls:=.type "list",data:=.seq ([]:List Value).toArray}:=YB _ rfl;have Qk:(s.heap.push {cls:=.type "list",data:=.seq ([]:List Value).toArray}).objs.size=s.heap.objs.size+1:=size_push' _ _;unfold Builtin.List.listExtendWith;refine Ym (aa0 (T := "dict_items") Qn.typeIs ?_);have h1:Builtin.List.listSameRef (.ref s.heap.objs.size) (.ref v)=false:=by simp[Builtin.List.listSameRef,ZK UR]
 have h2:(Value.type "dict_items" == Value.type "list")=false:=by decide
 have h3:(Value.type "dict_items" == Value.type "tuple")=false:=by decide
 simp only[h1,h2,h3,Bool.or_false,aby,abJ];refine Ym (wpAny_pyIter_items Qn Qw ?_);dsimp only;rw[Qk];refine Ym (aaq ?_);have U9:=Qw.push {cls:=.type "dict_itemiterator",data:=.fields #[.none,.bool false,.ref d,.int 0 0,.int ak.length 0,.int ep 0,.none,.none]};have MG:((s.heap.push {cls:=.type "list",data:=.seq ([]:List Value).toArray}).push {cls:=.type "dict_itemiterator",data:=.fields #[.none,.bool false,.ref d,.int 0 0,.int ak.length 0,.int ep 0,.none,.none]}).IsItemsView v d:=⟨ov,Yn _ (Yn _ MR),QE,QB⟩;have Jq:=Yn {cls:=.type "dict_itemiterator",data:=.fields #[.none,.bool false,.ref d,.int 0 0,.int ak.length 0,.int ep 0,.none,.none]} Vv;have Vx:IsItemIter ((s.heap.push {cls:=.type "list",data:=.seq ([]:List Value).toArray}).push {cls:=.type "dict_itemiterator",data:=.fields #[.none,.bool false,.ref d,.int 0 0,.int ak.length 0,.int ep 0,.none,.none]}) (s.heap.objs.size+1) d 0 ak.length ep .none .none:=by
  unfold IsItemIter;rw[← Qk];exact YB _ rfl
 have old:∀ b o,s.heap.get? b=some o→((s.heap.push {cls:=.type "list",data:=.seq ([]:List Value).toArray}).push {cls:=.type "dict_itemiterator",data:=.fields #[.none,.bool false,.ref d,.int 0 0,.int ak.length 0,.int ep 0,.none,.none]}).get? b=some o:=fun b o e=>Yn _ (Yn _ e);generalize ((s.heap.push {cls:=.type "list",data:=.seq ([]:List Value).toArray}).push {cls:=.type "dict_itemiterator",data:=.fields #[.none,.bool false,.ref d,.int 0 0,.int ak.length 0,.int ep 0,.none,.none]})=h2 at *
 unfold Builtin.List.listLengthHint;refine Ym (wpAny_specialOf (name:=Str.ofString "__len__") (s:={s with heap:=h2}) MG.typeIs tQ ?_)
 (generalize MZ:("dict_items.__len__" : String)=Qd;(fail_if_success (clear MZ Qd));wp_delta;rw[show splitId Qd=some ("dict_items","__len__")from by subst MZ;decide +kernel];subst MZ)
 refine Ym (abh (b:=true) (s:={s with heap:=h2}) MG.typeIs (by rw[isSubtype_type];kernel_rfl) ?_);refine Ym (aa0 (T := "dict_items") (s:={s with heap:=h2}) MG.typeIs ?_);refine Yp ?_;show wpAny _ A.in1 (rule "list.extend.makes-room" >>= fun _=>Builtin.List.listTouch (.ref s.heap.objs.size) >>= fun _=>
  again (.builtin "list.extend.loop" ⟨[.ref s.heap.objs.size,.ref (s.heap.objs.size+1),.ref s.heap.objs.size],[]⟩)) _ _ _
 refine Ym (ZS ?_);refine Ym ?_;show wpAny _ A.in1 (updateSeq s.heap.objs.size (·.push .none) >>= fun _=>updateSeq s.heap.objs.size (·.pop)) _ _ _
 refine Ym (aaT Jq rfl ?_);have GZ:=aan (Obj.mapSeq (·.push Value.none)) Jq rfl;refine aaT GZ rfl ?_;have QK:=aan (Obj.mapSeq (·.pop)) GZ rfl;have vG:∀ b o,b≠s.heap.objs.size→h2.get? b=some o→((h2.update s.heap.objs.size (Obj.mapSeq (·.push Value.none))).update s.heap.objs.size (Obj.mapSeq (·.pop))).get? b=some o:=
  fun b o hb e=>(aak _ _ (aaV hb)).trans ((aak _ _ (aaV hb)).trans e)
 refine Yp ⟨abL aaz _,qx (n0:=s.heap.objs.size) (knd:=knd) (A:=A) hh hn (YI (ZX gC)) (YI (aa2 _)) (YI gC) ak.length 0 _ [] _ rfl (ZL _) ?_ (.inl ⟨rfl,vG _ _ (abA _) Vx⟩) (U9.at' fun o e=>vG _ _ (YI gC) e) QK rfl gG.nil (fun _ h=>(nomatch h)) fun h' bs c' k' Jr DA RM T9=>?_⟩
 ·exact Zi (Yr QK)
 show wpAny _ A (load s.heap.objs.size >>= _) _ _ _
 refine Ym (wpAny_load Jr ?_);refine Yp ?_;refine hQ h' bs (Yr Jr) (fun b o hb=>k' b o ?_ ?_ (vG b o ?_ (old b o hb))) DA RM fun b m=>(T9 b m).1
 ·exact YI (ZX (Yr hb))
 ·exact YI (Yr hb)
 ·exact YI (Yr hb)
end
end Sr
namespace Sr
theorem iz{α β:Type}{f:α→β}:∀{xs ys:List β},ys.Perm xs→∀{ns:List α},xs=ns.map f→∃ ms:List α,ms.Perm ns∧ys=ms.map f:=by
 intro xs ys p;induction p with
 | nil=>intro ns h;exact⟨ns,.refl _,h⟩
 | @cons u l1 l2 p ih=>
  intro ns h;cases ns with
  | nil=>cases h
  | cons n ns=>
   rw[YC]at h;obtain⟨h1,h2⟩:=aaX h;obtain⟨ms,pm,hm⟩:=ih h2;exact⟨n::ms,pm.cons _,by rw[YC,← hm,h1]⟩
 | swap u v l=>
  intro ns h;cases ns with
  | nil=>cases h
  | cons n ns=>
   cases ns with
   | nil=>cases h
   | cons m ns=>
    rw[YC,YC]at h;obtain⟨h1,h2⟩:=aaX h;obtain⟨h3,h4⟩:=aaX h2;exact⟨m::n::ns,.swap _ _ _,by rw[YC,YC,← h4,h1,h3]⟩
 | trans p1 p2 Cf Ce=>
  intro ns h;obtain⟨zs,pz,hz⟩:=Ce h;obtain⟨ws,pw,hw⟩:=Cf hz;exact⟨ws,pw.trans pz,hw⟩
end Sr
namespace L2
open PySem PyProof.Rows
def gu(p d:Addr):Heap→Prop:=fun h=>h.IsItemsView p d
section
variable {X:Cx}{pins:List (Addr×Obj)}{σ:St}{H:Hp}{s:Shared}
theorem Inv.uV{a:Addr}{o1:HO}(I:Inv X pins σ H s)(f:eX X pins H a)(h0:X.s₀.heap.objs.size≤a)(new:bK X.prog X.w (upd H a o1) s.heap a o1):Inv X pins σ (upd H a o1) s where
 ok:=I.ok
 os:=I.os
 bare:=I.bare
 base:=⟨I.base.keep,I.base.slot,fun b o e n hx=>by rw[au (YI (YQ (Yr e) h0))];exact I.base.free b o e n hx,I.base.there,
  fun b xs q=>by have z:=I.base.gW b xs q;rw[au (aP z f.1)];exact z,fun b o u q=>by have z:=I.base.gF b o u q;rw[au (aP z f.1)];exact z,
  fun b ps q=>by obtain⟨m,z⟩:=I.base.gY b ps q;exact⟨m,by rw[au (aP z f.1)];exact z⟩⟩
 loc:=I.loc
 cell:=I.cell
 free:=by rw[au f.2.1.symm];exact I.free
 dG:=fun x c e=>by rw[au (f.2.2.2.2.1 x c e)];exact I.dG x c e
 pin:=fun p Qr=>by
  obtain⟨a1,a2,a3⟩:=I.pin p Qr;exact⟨a1,by rw[au (f.2.2.2.2.2 p Qr)];exact a2,a3⟩
 bB:=fun b o e=>by
  by_cases hb:b=a
  ·subst hb;rw[az]at e;cases e;exact new
  ·rw[au hb]at e
   exact(I.bB b o e).mC (fun _ _ _ q=>q) (fun c q=>by rw[au (aP q f.1)];exact q) fun c xs q=>by rw[au (aP q f.1)];exact q
 len:=I.len
theorem Inv.uU:∀(L:List (Addr×List V)) {H:Hp},Inv X pins σ H s→(L.map (·.1)).Nodup→(∀ q∈L,eX X pins H q.1∧X.s₀.heap.objs.size≤q.1∧q.2.length≤sizeLine∧∃ aA,Vals q.2 aA∧IsTup s.heap q.1 aA.toArray) →
  ∃ H',Inv X pins σ H' s∧(∀ c o,H c=some o→H' c=some o)∧(∀ c,c∉L.map (·.1)→H' c=H c)∧∀ q∈L,H' q.1=some (.tup q.2)
 | [],H,I,_,_=>⟨H,I,fun _ _ h=>h,fun _ _=>rfl,fun _ h=>(nomatch h)⟩
 | (a,ws)::L,H,I,nd,hq=>by
  rw[YC,Zq]at nd;obtain⟨f,h0,hz,aA,rv,tp⟩:=hq (a,ws) (by simp);have I1:=I.uV (o1:=.tup ws) f h0 ⟨hz,aA,rv,tp⟩;obtain⟨H',I',k,o,t⟩:=Inv.uU L I1 nd.2 fun q hm=>by
   obtain⟨f2,r⟩:=hq q (by simp[hm]);have ne:q.1≠a:=fun z=>nd.1 (by rw[← z];exact YS.mpr ⟨q,hm,rfl⟩);exact⟨f2.upd ne,r⟩
  refine⟨H',I',fun c u h=>k c u (by rw[au (aP h f.1)];exact h),fun c hc=>?_,fun q hm=>?_⟩
  ·rw[YC,Yq,not_or]at hc
   rw[o c hc.2,au hc.1]
  ·rcases Yq.mp hm with rfl | hm
   ·exact k _ _ az
   ·exact t q hm
theorem vV:JB X "dict.items" (fun x vs H Q=>∃ a ak,x=.ref a∧vs=[]∧H a=some (.dK ak)∧∀ p,H p=none→Q (.ref p) (upd H p (.ext (gu p a)))):=by
 intro pins s σ H x xs v us Q I rx rv h;obtain⟨a,ak,rfl,rfl,e,q⟩:=h;cases rx;cases rv;obtain⟨z,hd,vs,rel,dd⟩:=rV I.bB e;refine call_meetsIn F.slot_dict_items dd.typeIs F.entry_dict_items (F.args_dict_items_1 _) (meets_dict_items (bW X.prog X.w) a hd) ⟨⟨vs,dd⟩,?_⟩;refine⟨.ref s.heap.objs.size,_,I.laid (o:=.ext (gu s.heap.objs.size a)) (t':=s.toks) (fun b o e=>Yn _ e) (Yz _) ?_,rfl,q _ I.fresh⟩;refine⟨⟨_,YB _ rfl,rfl,rfl⟩,⟨_,YB _ rfl⟩,fun h1 h2 ⟨o,g,c,d⟩ k=>⟨o,k o g,c,d⟩⟩
theorem lM{α β:Type}{P:α→β→Prop}:∀{xs:List α} {ys:List β},Paired P xs ys→∀{j:Nat} {x:α},xs[j]? = some x→∃ y,ys[j]? = some y∧P x y
 | _,_,.nil,j,x,h=>by simp at h
 | _,_,.cons a b,0,x,h=>by cases h;exact⟨_,rfl,a⟩
 | _,_,.cons a b,j+1,x,h=>lM b (j:=j) h
def oM:Key→Int
 | .inl i=>i
 | .inr _=>0
end
end L2
namespace L3
open PySem PySem.Spec L2
section
variable {X:Cx}{E:St→XK}
def Gk(kv:Key×T):T:=.tup [kT kv.1,kv.2]
theorem vX:MQ X "dict.items" (fun x ts Γ Z=>∃ a ak,x=.ref a∧ts=[]∧Γ a=some (.dK ak)∧∀ p,Γ p=none→Z (.ref p) (up Γ p (.ext (gu p a)))):=
 ⟨_,vV,fun v x vs ts H Γ Q Z r rs hr q0 vr=>by
  obtain⟨a,ak,ex,et,g,z⟩:=q0;subst ex et;obtain⟨us,hu,q⟩:=hr a _ g;refine⟨a,us,bz r,ck rs,hu,fun p hp=>?_⟩;exact vr _ _ _ _ (.make hp) (hr.make (o3:=.ext (gu p a)) hp az) d7 (z p (hr.free hp))⟩
theorem yR{H:Hp}:∀{us zA:List (Key×V)},zA.Perm us→∀{ns:List (Key×T)},Ks H us ns→∃ ms:List (Key×T),ms.Perm ns∧Ks H zA ms:=by
 intro us zA p;induction p with
 | nil=>intro ns h;exact⟨ns,.refl _,h⟩
 | @cons u l1 l2 p ih=>
  intro ns h;cases h with
  | cons a b=>
   obtain⟨ms,pm,hm⟩:=ih b;exact⟨_::ms,pm.cons _,.cons a hm⟩
 | swap u v l=>
  intro ns h;cases h with
  | cons a b=>
   cases b with
   | cons a2 b2=>exact⟨_,.swap _ _ _,.cons a2 (.cons a b2)⟩
 | trans p1 p2 Cf Ce=>
  intro ns h;obtain⟨zs,pz,hz⟩:=Ce h;obtain⟨ws,pw,hw⟩:=Cf hz;exact⟨ws,pw.trans pz,hw⟩
theorem nW{H:Hp}:∀{L:List (Addr×(Key×V))} {ms:List (Key×T)},Ks H (L.map (·.2)) ms→(∀ q∈L,H q.1=some (.tup [kV q.2.1,q.2.2]))→Rs H (L.map fun q=>V.ref q.1) (ms.map Gk)∧(L.map fun q=>oM q.2.1)=ms.map fun kv=>oM kv.1
 | [],_,h,_=>by cases h;exact⟨bT,rfl⟩
 | q::L,_,h,ht=>by
  cases h with
  | @cons _ m _ ms a b=>
   obtain⟨i1,i2⟩:=nW b fun q hq=>ht q (by simp[hq]);have e:q.2.1=m.1:=a.1;have rk:R H (kV m.1) (kT m.1):=by
    cases m.1 with
    | inl i=>exact dD
    | inr z=>exact zJ
   refine⟨aY ?_ i1,?_⟩
   ·have Qp:=ht q (by simp)
    rw[e]at Qp;exact n8 Qp (aY rk (aY a.2 bT))
   ·rw[YC,YC,i2,e]
end
end L3
namespace L2
open PySem PySem.Spec PyProof.Rows
section
variable {prog:Program}{w:World}{A:Around}{E:Value→Shared→Prop}{s:Shared}
theorem sC{z p r j1 j2 u1 u2:Addr}{i:Nat}{vs ws:Array Value}{x y a b:Value}{Q:Value→Shared→Prop}(D:Apart z p r j1 j2 u1 u2)
  (hz:IsZip s.heap z p r .none) (hp:IsPair s.heap p (.ref j1) (.ref j2)) (hr:IsPair s.heap r a b)
  (h1:s.heap.IsListIter j1 u1 i) (h2:s.heap.IsListIter j2 u2 i) (l1:s.heap.IsList u1 vs) (l2:s.heap.IsList u2 ws) (hx:vs[i]? = some x) (hy:ws[i]? = some y)
  (q:∀ h',IsZip h' z p r (rawInt s.heap.objs.size)→IsPair h' r x y→h'.IsListIter j1 u1 (i+1)→h'.IsListIter j2 u2 (i+1)→IsPair h' s.heap.objs.size x y→h'.objs.size=s.heap.objs.size+1 →
   (∀ c o,c≠z→c≠r→c≠j1→c≠j2→s.heap.get? c=some o→h'.get? c=some o)→Q (.ref s.heap.objs.size) {s with heap:=h'}) :
  wpAny (model prog w) A (Builtin.«zip.__next__» ⟨[.ref z],[]⟩) (fun fin s'=>∃ v,fin=.done (.ret v)∧Q v s') E s:=by
 show wpAny _ _ (field (.ref z) 2 >>= _) _ _ _
 refine Ym (Za hz rfl (x:=.bool false) rfl ?_);show wpAny _ _ (field (.ref z) 3 >>= _) _ _ _
 refine Ym (Za hz rfl (x:=.ref p) rfl ?_);refine Ym (Zg hp rfl ?_);show wpAny _ _ (Builtin.SmallTypes.ownedTupleIsFree (.ref z) >>= _) _ _ _
 refine Ym ?_;unfold Builtin.SmallTypes.ownedTupleIsFree;refine Ym (Za hz rfl (x:=.none) rfl (Yp ?_));simp only[abm];refine Ym (ZS ?_);refine Ym (Za hz rfl (x:=.ref r) rfl ?_);refine Ym (wpAny_setField_rec hz (by simp) fun g1 z1 e1=>?_)
 replace z1:IsZip g1 z p r .ellipsis:=z1
 refine Ym ?_;simp only[aaF,aaH,aaK,abi];refine Ym (Ym (aao ?_));show wpAny _ _ (Builtin.SmallTypes.nextOf (.ref j1) >>= _) _ _ _
 refine Ym (abk (h1.extBut e1.extBut D.pN) (l1.extBut e1.extBut D.Dk) hx fun g2 a2 e2=>Yp ?_);have r2:IsPair g2 r a b:=e2.extBut _ _ D.zG (e1.extBut _ _ D.rz hr);refine Ym (Zg r2 rfl ?_);refine Ym (Z5 r2 fun g3 r3 e3=>?_)
 replace r3:IsPair g3 r x b:=r3
 refine Ym (aaU (Yp ?_));refine Ym (Ym (aao ?_));show wpAny _ _ (Builtin.SmallTypes.nextOf (.ref j2) >>= _) _ _ _
 refine Ym (abk (((h2.extBut e1.extBut D.uz).extBut e2.extBut D.Dy.symm).extBut e3.extBut D.zF.symm) (((l2.extBut e1.extBut D.IE).extBut e2.extBut D.xp).extBut e3.extBut D.IF) hy fun g4 a4 e4=>Yp ?_);have r4:IsPair g4 r x b:=e4.extBut _ _ D.zF r3;refine Ym (Zg r4 rfl ?_);refine Ym (Z5 r4 fun g5 r5 e5=>?_)
 replace r5:IsPair g5 r x y:=r5
 refine Ym (aaU (Yp (Yp ?_)));refine Ym (Zg r5 rfl ?_);refine Ym (abz ?_);have sz:g5.objs.size=s.heap.objs.size:=by rw[e5.1,e4.1,e3.1,e2.1,e1.1]
 have z5:IsZip g5 z p r .ellipsis:=e5.extBut _ _ D.rz.symm (e4.extBut _ _ D.uz.symm (e3.extBut _ _ D.rz.symm (e2.extBut _ _ D.pN.symm z1)));have k5:∀ c o,c≠z→c≠r→c≠j1→c≠j2→s.heap.get? c=some o→g5.get? c=some o:=fun c o n1 n2 n3 n4 e=>
  e5.extBut _ _ n2 (e4.extBut _ _ n4 (e3.extBut _ _ n2 (e2.extBut _ _ n3 (e1.extBut _ _ n1 e))))
 have b1:g5.IsListIter j1 u1 (i+1):=((a2.extBut e3.extBut D.zG.symm).extBut e4.extBut D.Dy).extBut e5.extBut D.zG.symm;have b2:g5.IsListIter j2 u2 (i+1):=a4.extBut e5.extBut D.zF.symm;have zl:z < g5.objs.size:=Yr z5;show wpAny _ _ (Builtin.SmallTypes.ownedTupleHandOut (.ref z) (.ref g5.objs.size) >>= _) _ _ _
 refine Ym ?_;unfold Builtin.SmallTypes.ownedTupleHandOut;have z6:IsZip (g5.push {cls:=.type "tuple",data:=.seq #[x,y]}) z p r .ellipsis:=Yn _ z5;refine Ym (wpAny_setField_rec z6 (by simp) fun g7 z7 e7=>?_)
 replace z7:IsZip g7 z p r (rawInt g5.objs.size):=z7
 refine wpAny_setField_rec z7 (by simp) fun g8 z8 e8=>?_
 replace z8:IsZip g8 z p r (rawInt g5.objs.size):=z8
 have up:∀ c o,c≠z→g5.get? c=some o→g8.get? c=some o:=fun c o n1 e=>e8.extBut _ _ n1 (e7.extBut _ _ n1 (Yn _ e));have t8:IsPair g8 g5.objs.size x y:=e8.extBut _ _ (ZK zl) (e7.extBut _ _ (ZK zl) (YB _ rfl));have s8:g8.objs.size=g5.objs.size+1:=by rw[e8.1,e7.1,Zt]
 rw[sz]at z8 t8 s8;refine Yp ⟨_,rfl,?_⟩;show Q (.ref g5.objs.size) _
 rw[sz];exact q g8 z8 (up _ _ D.rz r5) (b1.at fun o e=>up _ o D.pN e) (b2.at fun o e=>up _ o D.uz e) t8 s8 fun c o n1 n2 n3 n4 e=>up c o n1 (k5 c o n1 n2 n3 n4 e)
theorem uH{z p r j1 j2 u1 u2:Addr}{i:Nat}{vs ws:Array Value}{a b:Value}{Q:Fin→Shared→Prop}(hh:A.handled=none)(D:Apart z p r j1 j2 u1 u2)
  (hz:IsZip s.heap z p r .none) (hp:IsPair s.heap p (.ref j1) (.ref j2)) (hr:IsPair s.heap r a b)
  (h1:s.heap.IsListIter j1 u1 i) (h2:s.heap.IsListIter j2 u2 i) (l1:s.heap.IsList u1 vs) (l2:s.heap.IsList u2 ws) (qF:vs[i]? = none∨ws[i]? = none)
  (q:∀ h' e,(∀ c o,c≠z→c≠r→c≠j1→c≠j2→s.heap.get? c=some o→h'.get? c=some o)→(∃ o,h'.get? e=some o∧o.cls=.type "StopIteration")→E (.ref e) {s with heap:=h'}) :
  wpAny (model prog w) A (Builtin.«zip.__next__» ⟨[.ref z],[]⟩) Q E s:=by
 show wpAny _ _ (field (.ref z) 2 >>= _) _ _ _
 refine Ym (Za hz rfl (x:=.bool false) rfl ?_);show wpAny _ _ (field (.ref z) 3 >>= _) _ _ _
 refine Ym (Za hz rfl (x:=.ref p) rfl ?_);refine Ym (Zg hp rfl ?_);show wpAny _ _ (Builtin.SmallTypes.ownedTupleIsFree (.ref z) >>= _) _ _ _
 refine Ym ?_;unfold Builtin.SmallTypes.ownedTupleIsFree;refine Ym (Za hz rfl (x:=.none) rfl (Yp ?_));simp only[abm];refine Ym (ZS ?_);refine Ym (Za hz rfl (x:=.ref r) rfl ?_);refine Ym (wpAny_setField_rec hz (by simp) fun g1 z1 e1=>?_)
 replace z1:IsZip g1 z p r .ellipsis:=z1
 refine Ym ?_;simp only[aaF,aaH,aaK,abi];refine Ym (Ym (aao ?_));show wpAny _ _ (Builtin.SmallTypes.nextOf (.ref j1) >>= _) _ _ _
 cases hx:vs[i]? with
 | none=>
  refine Ym (wpAny_nextOf_list_end hh (h1.extBut e1.extBut D.pN) (l1.extBut e1.extBut D.Dk) hx fun g2 e e2 he=>?_);obtain⟨oe,qG,t5⟩:=he;have z2:IsZip g2 z p r .ellipsis:=e2 _ _ D.pN.symm z1;have BO:e≠z:=fun x=>by subst x;rw[z2]at qG;cases qG;simp at t5
  refine wpAny_setField_rec z2 (by simp) fun g3 _ e3=>q g3 e (fun c o n1 _ n3 _ x=>e3.extBut _ _ n1 (e2 _ _ n3 (e1.extBut _ _ n1 x))) ⟨oe,e3.extBut _ _ BO qG,t5⟩
 | some x=>
  have hy:ws[i]? = none:=by rcases qF with h | h;rw[hx]at h;cases h;exact h
  refine Ym (abk (h1.extBut e1.extBut D.pN) (l1.extBut e1.extBut D.Dk) hx fun g2 a2 e2=>Yp ?_);have r2:IsPair g2 r a b:=e2.extBut _ _ D.zG (e1.extBut _ _ D.rz hr);refine Ym (Zg r2 rfl ?_);refine Ym (Z5 r2 fun g3 r3 e3=>?_);refine Ym (aaU (Yp ?_));refine Ym (Ym (aao ?_));show wpAny _ _ (Builtin.SmallTypes.nextOf (.ref j2) >>= _) _ _ _
  refine Ym (wpAny_nextOf_list_end hh (((h2.extBut e1.extBut D.uz).extBut e2.extBut D.Dy.symm).extBut e3.extBut D.zF.symm) (((l2.extBut e1.extBut D.IE).extBut e2.extBut D.xp).extBut e3.extBut D.IF) hy fun g4 e e4 he=>?_);obtain⟨oe,qG,t5⟩:=he;have z4:IsZip g4 z p r .ellipsis:=e4 _ _ D.uz.symm (e3.extBut _ _ D.rz.symm (e2.extBut _ _ D.pN.symm z1));have BO:e≠z:=fun x=>by subst x;rw[z4]at qG;cases qG;simp at t5
  refine wpAny_setField_rec z4 (by simp) fun g5 _ e5=>q g5 e (fun c o n1 n2 n3 n4 x=>e5.extBut _ _ n1 (e4 _ _ n4 (e3.extBut _ _ n2 (e2.extBut _ _ n3 (e1.extBut _ _ n1 x))))) ⟨oe,e5.extBut _ _ BO qG,t5⟩
end
def OZ(K:W.Frag)(a b:Addr):It:=
  ⟨fun i H=>∃ xs ys x y,dF K H a xs∧dF K H b ys∧xs[i]? = some x∧ys[i]? = some y,
   fun i H v H'=>∃ p x y,H p=none∧v=.ref p∧H'=upd H p (.tup [x,y])∧(∀ xs,dF K H a xs→xs[i]? = some x)∧(∀ ys,dF K H b ys→ys[i]? = some y),
   fun i H=>∃ xs ys,dF K H a xs∧dF K H b ys∧(xs.length≤i∨ys.length≤i)⟩
theorem sI{P:Program}{w:World}{K:W.Frag}{elts:List Expr}{kk:Nat}{pos:Pos}(a b z p r j1 j2:Addr)(D:Apart z p r j1 j2 a b):
  Turn P w K (.Tuple elts kk pos) (OZ K a b) [z,p,r,j1,j2] z (fun i h=>IsZip h z p r .none∧IsPair h p (.ref j1) (.ref j2)∧(∃ u v,IsPair h r u v)∧h.IsListIter j1 a i∧h.IsListIter j2 b i) where
 mem:=by simp
 obj:=fun i h st c hc=>by
  obtain⟨hz,hp,⟨u,v,hr⟩,⟨o1,e1,_,d1⟩,⟨o2,e2,_,d2⟩⟩:=st;simp only[Yq,Yy,Zr]at hc;rcases hc with rfl | rfl | rfl | rfl | rfl
  ·exact⟨_,hz,fun v z=>by have z':Data.fields _=Data.cell v:=z;cases z'⟩
  ·exact⟨_,hp,fun v z=>by have z':Data.seq _ _=Data.cell v:=z;cases z'⟩
  ·exact⟨_,hr,fun v z=>by have z':Data.seq _ _=Data.cell v:=z;cases z'⟩
  ·exact⟨o1,e1,fun v z=>by rw[d1]at z;cases z⟩
  ·exact⟨o2,e2,fun v z=>by rw[d2]at z;cases z⟩
 keep:=fun i h h' st k=>by
  obtain⟨hz,hp,⟨u,v,hr⟩,h1,h2⟩:=st;exact⟨k z (by simp) _ hz,k p (by simp) _ hp,⟨u,v,k r (by simp) _ hr⟩,h1.at fun o e=>k j1 (by simp) o e,h2.at fun o e=>k j2 (by simp) o e⟩
 item:=by
  intro X hP hw hK hc i pins s σ H E I hf st hg;subst hP hw hK;obtain⟨hz,hp,⟨u,v,hr⟩,h1,h2⟩:=st;obtain⟨xs,ys,x,y,rM,wg,hx,hy⟩:=hg;obtain⟨aA,rv,pl,_⟩:=I.list rM;obtain⟨fD,sT,mK,_⟩:=I.list wg;obtain⟨vx,ex,rx⟩:=rv.get hx;obtain⟨vy,ey,ry⟩:=sT.get hy;have hT:s.TypeIs (.ref z) "zip" :=⟨_,hz,rfl⟩;have n0:H s.heap.objs.size=none:=I.bB.fresh (Yz _);unfold pyNext;refine Ym (aar (Zh (name:=Str.ofString "__next__") hT Z8 (ZC Z8 hT abj
   (sC D hz hp hr h1 h2 pl.isList mK.isList (by simpa using ex) (by simpa using ey) fun g a1 a2 a3 a4 a5 a6 a7=>Yp ?_) (abd _))))
  refine⟨_,rfl,?_⟩;refine wpAny_letOwnedTupleGo_zip a1 fun g2 b1 b2=>?_;have zl:z < s.heap.objs.size:=Yr hz;have lt:∀ c∈[z,p,r,j1,j2],c < s.heap.objs.size:=fun c hc=>by
   simp only[Yq,Yy,Zr]at hc;obtain⟨_,q1,_⟩:=h1;obtain⟨_,q2,_⟩:=h2;rcases hc with rfl | rfl | rfl | rfl | rfl
   ·exact zl
   ·exact Yr hp
   ·exact Yr hr
   ·exact Yr q1
   ·exact Yr q2
  refine⟨.ref s.heap.objs.size,upd H s.heap.objs.size (.tup [x,y]),?_,rfl,⟨_,x,y,n0,rfl,rfl,fun zs yW=>by rw[I.iC yW rM];exact hx,fun zs yW=>by rw[I.iC yW wg];exact hy⟩,⟨b1,?_,⟨vx,vy,?_⟩,?_,?_⟩,fun c hc=>?_⟩
  ·refine I.iT (t':=s.toks) (ch:=[z,r,j1,j2]) (fun c o hc e=>?_) (fun c hc=>hf c ?_) (Yz _) ⟨by show 2≤sizeLine;decide,[vx,vy],.cons rx (.cons ry .nil),?_⟩
   ·simp only[Yq,Yy,Zr,not_or]at hc
    exact b2.extBut _ _ hc.1 (a7 c o hc.1 hc.2.1 hc.2.2.1 hc.2.2.2 e)
   ·simp only[Yq,Yy,Zr]at hc ⊢
    rcases hc with rfl | rfl | rfl | rfl<;>simp
   ·exact⟨_,b2.extBut _ _ (ZK zl) a5,rfl,0,rfl⟩
  ·exact b2.extBut _ _ D.pz (a7 _ _ D.pz D.pr D.PM D.PL hp)
  ·exact b2.extBut _ _ D.rz a2
  ·exact a3.extBut b2.extBut D.pN
  ·exact a4.extBut b2.extBut D.uz
  ·rw[au (YI (lt c hc))]
   exact(hf c hc).1
 done:=by
  intro X hP hw hK hc i pins s σ H E I hf st hg;subst hP hw hK;obtain⟨hz,hp,⟨u,v,hr⟩,h1,h2⟩:=st;obtain⟨xs,ys,rM,wg,he⟩:=hg;obtain⟨aA,rv,pl,_⟩:=I.list rM;obtain⟨fD,sT,mK,_⟩:=I.list wg;have l1:=rv.length;have l2:=sT.length;have qF:aA.toArray[i]? = none∨fD.toArray[i]? = none:=he.imp (fun e=>by simp;omega) (fun e=>by simp;omega);have hT:s.TypeIs (.ref z) "zip" :=⟨_,hz,rfl⟩;unfold pyNext;refine Ym (aar (Zh (name:=Str.ofString "__next__") hT Z8 (ZC Z8 hT abj
   (uH (I.ok.hd hc) D hz hp hr h1 h2 pl.isList mK.isList qF fun g e kk he=>?_) (abd _))))
  obtain⟨o,ho,Nd⟩:=he;refine Ym (abh (T := "StopIteration") (b:=true) ⟨o,ho,Nd⟩ isSubtype_stop ?_);refine Yp ⟨rfl,I.lD (t':=s.toks) (ch:=[z,r,j1,j2]) (fun c o hc e=>?_) (fun c hc=>hf c ?_)⟩
  ·simp only[Yq,Yy,Zr,not_or]at hc
   exact kk c o hc.1 hc.2.1 hc.2.2.1 hc.2.2.2 e
  ·simp only[Yq,Yy,Zr]at hc ⊢
   rcases hc with rfl | rfl | rfl | rfl<;>simp
 self:=fun _ _ _ _ _ st h=>abg st.1 h
abbrev IX(h:Heap)(a:Addr):Heap:=h.push {cls:=.type "list_iterator",data:=.fields #[.ref a,.int 0 0]}
abbrev IW(h:Heap)(a b:Addr):Heap:=(IX h a).push {cls:=.type "list_iterator",data:=.fields #[.ref b,.int 0 0]}
abbrev IV(h:Heap)(a b:Addr):Heap:=(IW h a b).push {cls:=.type "tuple",data:=.seq #[.ref h.objs.size,.ref (IX h a).objs.size]}
abbrev IU(h:Heap)(a b:Addr):Heap:=(IV h a b).push {cls:=.type "tuple",data:=.seq #[.none,.none]}
abbrev Dv(h:Heap)(a b:Addr):Heap:=(IU h a b).push {cls:=.type "zip",data:=.fields #[.none,.bool false,.bool false,.ref (IW h a b).objs.size,.ref (IV h a b).objs.size]}
theorem uG(a b:Addr)(vs ws:Array Value):
  Meets (Builtin.«zip.__new__» ⟨[.type "zip",.ref a,.ref b],[]⟩) (fun _ R s=>s.heap.IsList a vs∧s.heap.IsList b ws∧R (.ok (.ret (.ref (IU s.heap a b).objs.size))) {s with heap:=Dv s.heap a b}):=
 .of_wp fun prog w A R s h=>by
  obtain⟨hp,g,d,tk,os⟩:=s;obtain⟨la,lb,h⟩:=h;have MI:=sub_zip;have L1:Heap.IsList (Shared.heap ⟨hp,g,d,tk,os⟩) a vs:=la;have L2:Heap.IsList (Shared.heap ⟨hp.push {cls:=.type "list_iterator",data:=.fields #[.ref a,.int 0 0]},g,d,tk,os⟩) b ws:=Heap.IsList.push lb _
  wp_walk using aa5 L1,aa5 L2
  exact⟨_,rfl,h⟩
theorem uk{prog:Program}{w:World}{A:Around}{E:Value→Shared→Prop}{s:Shared}{a b:Addr}{vs ws:Array Value}{Q:Value→Shared→Prop}(la:s.heap.IsList a vs)(lb:s.heap.IsList b ws)
  (q:∀ h',IsZip h' (s.heap.objs.size+4) (s.heap.objs.size+2) (s.heap.objs.size+3) .none→IsPair h' (s.heap.objs.size+2) (.ref s.heap.objs.size) (.ref (s.heap.objs.size+1)) →
   IsPair h' (s.heap.objs.size+3) .none .none→h'.IsListIter s.heap.objs.size a 0→h'.IsListIter (s.heap.objs.size+1) b 0→(∀ c o,s.heap.get? c=some o→h'.get? c=some o)→Q (.ref (s.heap.objs.size+4)) {s with heap:=h'}) :
  wpAny (model prog w) A (call (.type "zip") [.ref a,.ref b]) Q E s:=by
 refine callType_new F.called_zip (by decide) (F.typeCall_zip_2 _ _) (F.newCall_zip_2 _ _) (fun obj=>F.args_object_init_3 obj _ _) F.entry_zip_new (uG a b vs ws) ⟨la,lb,?_⟩;have z1:(IX s.heap a).objs.size=s.heap.objs.size+1:=Zt ..;have z2:(IW s.heap a b).objs.size=s.heap.objs.size+2:=by rw[Zt,z1]
 have z3:(IV s.heap a b).objs.size=s.heap.objs.size+3:=by rw[Zt,z2]
 have z4:(IU s.heap a b).objs.size=s.heap.objs.size+4:=by rw[Zt,z3]
 have g5:(Dv s.heap a b).get? (IU s.heap a b).objs.size=some _:=YB _ rfl;have g4:(Dv s.heap a b).get? (IV s.heap a b).objs.size=some _:=Yn _ (YB _ rfl);have g3:(Dv s.heap a b).get? (IW s.heap a b).objs.size=some _:=Yn _ (Yn _ (YB _ rfl));have g2:(Dv s.heap a b).get? (IX s.heap a).objs.size=some _:=Yn _ (Yn _ (Yn _ (YB _ rfl)));have g1:(Dv s.heap a b).get? s.heap.objs.size=some _:=Yn _ (Yn _ (Yn _ (Yn _ (YB _ rfl))));show _∧_
 rw[z2,z3,z4]at g5;rw[z1,z2]at g3;rw[z3]at g4;rw[z1]at g2;rw[z4];exact⟨⟨_,g5,rfl⟩,q _ g5 g3 g4 ⟨_,g1,rfl,rfl⟩ ⟨_,g2,rfl,rfl⟩ fun c o x=>Yn _ (Yn _ (Yn _ (Yn _ (Yn _ x))))⟩
section
variable {X:Cx}{elts:List Expr}{kk:Nat}{eO:Pos}
def Gn(K:W.Frag)(ta:TA):TI:=fun σ H R=>ta σ H fun vs H1=>∃ a b xs ys,vs=[.ref a,.ref b]∧dF K H1 a xs∧dF K H1 b ys∧R (OZ K a b) H1
theorem ya{a b:Expr}{ta:TA}{p pos:Pos}(hg:Gl X "zip")(hm:X.mg "zip" = none)(ha:PA X [a,b] ta)(hs:starEach [a,b] X.env=[(false,eval a X.env),(false,eval b X.env)]:=by rfl)(js:starEach [b] X.env=[(false,eval b X.env)]:=by rfl):
  PI X (.Tuple elts kk eO) (.Call (.Name "zip" p) [a,b] [] pos) (Gn X.K ta):=by
 refine .mk ?_;intro pins s σ H R I h;refine Call_ (fY I hg hm boot_zip (Zv (bL (ha pos pins s σ H _ I h) fun us s1 ⟨vs,H1,I1,r1,q1⟩=>?_) (by rw[hs,js]) (by rw[js];rfl)));obtain⟨u1,u2,xs,ys,e,hx,hy,q⟩:=q1;subst e;cases r1 with
 | cons r rr=>
  cases rr with
  | cons r' rr=>
   cases rr;cases r;cases r';obtain⟨aA,rv,pl,_⟩:=I1.list hx;obtain⟨fD,sT,mK,_⟩:=I1.list hy;obtain⟨o1,e1,_⟩:=pl.isList;obtain⟨o2,e2,_⟩:=mK.isList;refine uk pl.isList mK.isList fun h' hz hp hr j1 j2 k=>?_;refine abg hz ?_;refine⟨s1.heap.objs.size+4,[s1.heap.objs.size+4,s1.heap.objs.size+2,s1.heap.objs.size+3,s1.heap.objs.size,s1.heap.objs.size+1],_,_,H1,rfl,I1.kept (t':=s1.toks) k,sI u1 u2 _ _ _ _ _ (apart_new (Yr e1) (Yr e2)),⟨hz,hp,⟨_,_,hr⟩,j1,j2⟩,fun c hc=>?_,q⟩;have wu:s1.heap.objs.size≤c:=by
    simp only[Yq,Yy,Zr]at hc;rcases hc with rfl | rfl | rfl | rfl | rfl<;>first | exact Yz _ | exact Z6 _ _
   exact I1.oV wu (I1.bB.fresh wu)
end
end L2
namespace L3
open PySem PySem.Spec L2
open PyProof.Rows hiding St
section
variable {X:Cx}{E:St→XK}{p pos:Pos}
def Qf(ta:A3):I3:=fun Y τ Γ Z=>ta Y τ Γ fun xs Γ1=>∃ a b ts us,xs=[.ref a,.ref b]∧Γ1 a=some (.lst ts)∧Γ1 b=some (.lst us)∧Z (ij ts us) (fun Γ'=>Γ' a=some (.lst ts)∧Γ' b=some (.lst us)) Γ1
theorem sF{K:W.Frag}{H:Hp}{a b:Addr}{ts us:List T}:Walks (OZ K a b) (ij ts us) (fun Γ'=>Γ' a=some (.lst ts)∧Γ' b=some (.lst us)) H where
 go:=fun i H' Γ t hr g hi=>by
  rw[fG]at hi;obtain⟨vs,ha,q⟩:=hr a _ g.1;obtain⟨ws,hb,q'⟩:=hr b _ g.2;exact⟨vs,ws,vs[i]'(by rw[q.length];omega),ws[i]'(by rw[q'.length];omega),dF.of ha,dF.of hb,by simp,by simp⟩
 sD:=fun i H' Γ v H2 t hr g hi q0=>by
  obtain⟨vs,ha,q⟩:=hr a _ g.1;obtain⟨ws,hb,q'⟩:=hr b _ g.2;obtain⟨p,x,y,hp,e1,e2,y1,y2⟩:=q0;subst e1 e2;obtain⟨t1,f1,r1⟩:=q.t7 (y1 vs (dF.of ha));obtain⟨t2,f2,r2⟩:=q'.t7 (y2 ws (dF.of hb));have k:=bA (o:=.tup [x,y]) hp;exact⟨.keep k,hr.keep k,_,jH f1 f2,n8 az (aY (r1.mono (cU k)) (aY (r2.mono (cU k)) bT))⟩
 stop:=fun H' Γ t hr g=>by
  obtain⟨vs,ha,q⟩:=hr a _ g.1;obtain⟨ws,hb,q'⟩:=hr b _ g.2;exact⟨vs,ws,dF.of ha,dF.of hb,by rw[fG,q.length,q'.length];omega⟩
theorem xN{a b:Expr}{ta:A3}{elts:List Expr}{kk:Nat}{eO:Pos}(hg:Gl X "zip")(hm:X.mg "zip" = none)(ha:PA X [a,b] (lU E ta))(hs:starEach [a,b] X.env=[(false,eval a X.env),(false,eval b X.env)]:=by rfl)(js:starEach [b] X.env=[(false,eval b X.env)]:=by rfl):
  PI X (.Tuple elts kk eO) (.Call (.Name "zip" p) [a,b] [] pos) (rG E (Qf ta)):=
 iQ (ya hg hm ha hs js) fun σ H Q τ Γ Y Z rs hr t vr xr=>⟨τ,Γ,Y,_,rs,hr,t,fun vs xs H1 Γ1 s1 h1 r1 ⟨a,b,ts,us,ex,ga,gb,z⟩=>by
  subst ex;obtain⟨v,w,rfl,ra,rb⟩:=vg r1;obtain⟨vs,ha,qa⟩:=h1 _ _ ga;obtain⟨ws,hb,qb⟩:=h1 _ _ gb;rw[bz ra,bz rb];exact⟨a,b,vs,ws,rfl,dF.of ha,dF.of hb,vr _ _ _ H1 Γ1 s1 h1 sF z⟩,xr⟩
def Qg(i1 i2:I3):I3:=fun Y τ Γ Z=>i1 Y τ Γ Z∨i2 Y τ Γ Z
theorem Fp{tg e:Expr}{i1 i2:I3}(h1:PI X tg e (rG E i1))(h2:PI X tg e (rG E i2)):PI X tg e (rG E (Qg i1 i2)):=by
 refine .mk fun pins s σ H R I h=>?_;obtain⟨τ,Γ,Y,Z,rs,hr,q,r⟩:=h;rcases q with q | q
 ·exact h1.run pins s σ H R I ⟨τ,Γ,Y,Z,rs,hr,q,r⟩
 ·exact h2.run pins s σ H R I ⟨τ,Γ,Y,Z,rs,hr,q,r⟩
end
end L3
namespace L2
open PySem PySem.Spec PyProof.Rows PySem.W
section
variable {X:Cx}{body:List Stmt}{pos:Pos}{tb:(St→XK)→TS}{hs:List ExceptHandler}{cs:List (Addr×TS)}
end
end L2
namespace L3
open PySem PySem.Spec L2
section
variable {X:Cx}{E:St→XK}{body:List Stmt}{pos:Pos}{tb:C3}{hs:List ExceptHandler}
end
end L3
namespace Sr
open PySem PyProof.Rows
section
variable {prog:Program}{w:World}{A:Around}{E:Value→Shared→Prop}{s:Shared}{Kk:Type}[DecidableEq Kk]{knd:PySem.KeyKind prog w Kk}
end
end Sr
namespace L2
open PySem PyProof.Rows
section
variable {X:Cx}
end
end L2
namespace L3
open PySem PySem.Spec L2
section
variable {X:Cx}{E:St→XK}
end
end L3
namespace Sr
open PySem PyProof.Rows
def mZ:Bool→Keyed→Array Keyed→Nat→Nat→Nat→StateT SortSt Sem (Option Nat):=sortPriv% PySem.Builtin.gallop
def oG:Array Keyed→Array Keyed→StateT SortSt Sem (Array Keyed):=sortPriv% PySem.Builtin.mergeLo
def oI:Array Keyed→Array Keyed→StateT SortSt Sem (Array Keyed):=sortPriv% PySem.Builtin.mergeHi
section
variable {prog:Program}{w:World}{A:Around}{E:Value→Shared→Prop}{s:Shared}{a0:Array Keyed}{kd:SortKind}{st:SortSt}{O:KeyOrd}{κ:Keyed→O.α}{d0:O.α}
theorem yN{x y:Keyed}{Q:Option Bool→SortSt→Prop}(L:jt (model prog w) A s kd a0 O κ)(hk:kindOf st=kd)(mx:x∈a0.toList)(my:y∈a0.toList)(ne:κ x≠κ y)(q:Q (some (O.blt (κ x) (κ y))) st):wpS (model prog w) A E s (lt' x y) Q st:=by
 rw[lt'_eq];refine Ys (aaZ ?_);rw[hk];refine Ys (abP (aar (L x mx y my ne _ _ ⟨rfl,?_⟩)));exact Yv q
theorem bf{arr:Array Keyed}{i:Nat}{x:Keyed}{Q:Keyed→SortSt→Prop}(h:arr[i]? = some x)(q:Q x st):wpS (model prog w) A E s (elem' arr i) Q st:=by
 rw[elem'_eq,h];exact Yv q
theorem tK{a b:O.α}(n:a≠b):(!O.blt b a)=O.blt a b:=by
 cases e:O.blt b a with
 | true=>
  cases e2:O.blt a b with
  | false=>rfl
  | true=>have:=O.trans a b a e2 e;rw[O.irrefl]at this;cases this
 | false=>rw[jf n.symm e];rfl
theorem vS{Gd:Bool}{key:Keyed}{arr:Array Keyed}{bs n hint:Nat}{Q:Option Nat→SortSt→Prop}(L:jt (model prog w) A s kd a0 O κ)(hk:kindOf st=kd)(mk:key∈a0.toList)
  (mem:∀ i,i < n→∃ x,arr[bs+i]? = some x∧x∈a0.toList∧κ x≠κ key) (so:∀ i j,i < j→j < n→O.blt (dv κ d0 arr (bs+i)) (dv κ d0 arr (bs+j))=true) (hh:hint < n)
  (q:∀ k,k≤n→(∀ i,i < k→O.blt (dv κ d0 arr (bs+i)) (κ key)=true)→(∀ i,k≤i→i < n→O.blt (κ key) (dv κ d0 arr (bs+i))=true)→Q (some k) st):wpS (model prog w) A E s (mZ Gd key arr bs n hint) Q st:=by
 obtain⟨cmp,ec⟩:∃ cmp:Nat→Bool,cmp=fun i=>O.blt (dv κ d0 arr (bs+i)) (κ key):=⟨_,rfl⟩;have q:∀ k,k≤n→(∀ i,i < k→cmp i=true)→(∀ i,k≤i→i < n→O.blt (κ key) (dv κ d0 arr (bs+i))=true)→Q (some k) st:=fun k h1 h2 h3=>q k h1 (by rw[ec]at h2;exact h2) h3;have gt:∀ i,i < n→cmp i=false→O.blt (κ key) (dv κ d0 arr (bs+i))=true:=fun i hi h=>by
  obtain⟨x,ex,mx,nx⟩:=mem i hi;rw[ec]at h;dsimp only at h;rw[du κ d0 ex]at h ⊢;exact jf nx h
 have mono:∀ i j,i≤j→j < n→cmp j=true→cmp i=true:=fun i j zP hj h=>by
  by_cases e:i=j
  ·rw[e];exact h
  ·rw[ec]at h ⊢
   exact O.trans _ _ _ (so i j (by omega) hj) h
 have zm:∀ i j,i≤j→j < n→cmp i=false→cmp j=false:=fun i j zP hj h=>by
  cases e:cmp j with
  | false=>rfl
  | true=>rw[mono i j zP hj e]at h;cases h
 have Ih:∀(i:Nat),i < n→∀{Q':Option Bool→SortSt→Prop},Q' (some (cmp i)) st→wpS (model prog w) A E s (do
   let x ← elem' arr (bs+i)
   if Gd=true then lt' x key else do
    let r ← lt' key x
    pure (r.map (!·))) Q' st:=fun i hi Q' hq=>by
  obtain⟨x,ex,mx,nx⟩:=mem i hi;rw[ec]at hq;dsimp only at hq;rw[du κ d0 ex]at hq;refine Ys (bf ex ?_);cases Gd with
  | true=>
   rw[YV rfl];exact yN L hk mx mk nx hq
  | false=>
   rw[YN Yx];refine Ys (yN L hk mk mx nx.symm ?_);rw[← tK nx]at hq;exact Yv hq
 clear ec;unfold mZ;show wpS _ _ _ _ (_ >>= _) Q st
 refine Ys (Ih hint hh ?_);dsimp only;split
 ·rename_i hr
  refine Ys (Z9 (Q:=fun c aR=>st=aR∧∃ la of,c=(none,la,of)∧hint+la < n∧cmp (hint+la)=true∧la < of∧(hint+of < n→cmp (hint+of)=false)) ?_ ?_)
  ·refine Zj (fun t c aR=>st=aR∧∃ la of,c=(none,la,of)∧t+1≤of∧hint+la < n∧cmp (hint+la)=true∧la < of) (fun t c bR t1 t2 hI=>?_) (fun c bR hI=>?_) ⟨rfl,0,1,rfl,by omega,by omega,hr,by omega⟩
   ·obtain⟨rfl,la,of,rfl,to,h1,h2,h3⟩:=hI
    dsimp only;split
    ·rename_i c
     exact Yv ⟨rfl,la,of,rfl,h1,h2,h3,fun h=>by omega⟩
    ·rename_i c
     refine Ys (Ih (hint+of) (by omega) ?_);dsimp only;split
     ·rename_i b
      exact Yv ⟨rfl,la,of,rfl,h1,h2,h3,fun _=>by simpa using b⟩
     ·rename_i b
      exact Yv ⟨rfl,of,2 * of+1,rfl,by omega,by omega,by simpa using b,by omega⟩
   ·obtain⟨rfl,la,of,rfl,to,h1,h2,h3⟩:=hI
    exact⟨rfl,la,of,rfl,h1,h2,h3,fun h=>by omega⟩
  rintro c bR ⟨rfl,la,of,rfl,h1,h2,h3,h4⟩;dsimp only;have OW:hint+la+1≤hint+min of (n-hint):=by omega
  have OV:hint+min of (n-hint)≤n:=by omega
  have OU:∀ i,i < hint+la+1→cmp i=true:=fun i hi=>mono i _ (by omega) h1 h2;have OT:∀ i,hint+min of (n-hint)≤i→i < n→cmp i=false:=fun i a b=>zm (hint+of) i (by omega) b (h4 (by omega));refine Ys (Z9 (Q:=fun c aR=>st=aR∧∃ k,(∃ l,c=(none,l,k))∧k≤n∧(∀ i,i < k→cmp i=true)∧(∀ i,k≤i→i < n→cmp i=false)) ?_ ?_)
  ·refine Zj (fun t c aR=>st=aR∧∃ l h,c=(none,l,h)∧l≤h∧h≤n∧h-l≤n-t∧(∀ i,i < l→cmp i=true)∧(∀ i,h≤i→i < n→cmp i=false)) (fun t c bR t1 t2 hI=>?_) (fun c bR hI=>?_) ⟨rfl,_,_,rfl,OW,OV,by omega,OU,OT⟩
   ·obtain⟨rfl,l,h,rfl,lh,hn,hm,lo,hi⟩:=hI
    dsimp only;split
    ·rename_i c
     exact Yv ⟨rfl,h,⟨l,rfl⟩,hn,fun i fE=>lo i (by omega),hi⟩
    ·rename_i c
     refine Ys (Ih (l+(h-l) / 2) (by omega) ?_);dsimp only;split
     ·rename_i b
      exact Yv ⟨rfl,_,_,rfl,by omega,hn,by omega,fun i fE=>mono i _ (by omega) (by omega) b,hi⟩
     ·rename_i b
      exact Yv ⟨rfl,_,_,rfl,by omega,by omega,by omega,lo,fun i h1 h2=>zm _ i h1 h2 (by simpa using b)⟩
   ·obtain⟨rfl,l,h,rfl,lh,hn,hm,lo,hi⟩:=hI
    exact⟨rfl,h,⟨l,rfl⟩,hn,fun i fE=>lo i (by omega),hi⟩
  ·rintro c bR ⟨rfl,k,⟨l,rfl⟩,kn,lo,hi⟩
   dsimp only;exact Yv (q k kn lo fun i h1 h2=>gt i h2 (hi i h1 h2))
 ·rename_i hr
  have hr:cmp hint=false:=by simpa using hr
  refine Ys (Z9 (Q:=fun c aR=>st=aR∧∃ la of,c=(none,la,of)∧la≤hint∧cmp (hint-la)=false∧la < of∧(of≤hint→cmp (hint-of)=true)) ?_ ?_)
  ·refine Zj (fun t c aR=>st=aR∧∃ la of,c=(none,la,of)∧t+1≤of∧la≤hint∧cmp (hint-la)=false∧la < of) (fun t c bR t1 t2 hI=>?_) (fun c bR hI=>?_) ⟨rfl,0,1,rfl,by omega,by omega,hr,by omega⟩
   ·obtain⟨rfl,la,of,rfl,to,h1,h2,h3⟩:=hI
    dsimp only;split
    ·rename_i c
     exact Yv ⟨rfl,la,of,rfl,h1,h2,h3,fun h=>by omega⟩
    ·rename_i c
     refine Ys (Ih (hint-of) (by omega) ?_);dsimp only;split
     ·rename_i b
      exact Yv ⟨rfl,la,of,rfl,h1,h2,h3,fun _=>b⟩
     ·rename_i b
      exact Yv ⟨rfl,of,2 * of+1,rfl,by omega,by omega,by simpa using b,by omega⟩
   ·obtain⟨rfl,la,of,rfl,to,h1,h2,h3⟩:=hI
    exact⟨rfl,la,of,rfl,h1,h2,h3,fun h=>by omega⟩
  rintro c bR ⟨rfl,la,of,rfl,h1,h2,h3,h4⟩;dsimp only;have OW:hint+1-min of (hint+1)≤hint-la:=by omega
  have OV:hint-la≤n:=by omega
  have OU:∀ i,i < hint+1-min of (hint+1)→cmp i=true:=fun i hi=>mono i (hint-of) (by omega) (by omega) (h4 (by omega));have OT:∀ i,hint-la≤i→i < n→cmp i=false:=fun i a b=>zm (hint-la) i a b h2;refine Ys (Z9 (Q:=fun c aR=>st=aR∧∃ k,(∃ l,c=(none,l,k))∧k≤n∧(∀ i,i < k→cmp i=true)∧(∀ i,k≤i→i < n→cmp i=false)) ?_ ?_)
  ·refine Zj (fun t c aR=>st=aR∧∃ l h,c=(none,l,h)∧l≤h∧h≤n∧h-l≤n-t∧(∀ i,i < l→cmp i=true)∧(∀ i,h≤i→i < n→cmp i=false)) (fun t c bR t1 t2 hI=>?_) (fun c bR hI=>?_) ⟨rfl,_,_,rfl,OW,OV,by omega,OU,OT⟩
   ·obtain⟨rfl,l,h,rfl,lh,hn,hm,lo,hi⟩:=hI
    dsimp only;split
    ·rename_i c
     exact Yv ⟨rfl,h,⟨l,rfl⟩,hn,fun i fE=>lo i (by omega),hi⟩
    ·rename_i c
     refine Ys (Ih (l+(h-l) / 2) (by omega) ?_);dsimp only;split
     ·rename_i b
      exact Yv ⟨rfl,_,_,rfl,by omega,hn,by omega,fun i fE=>mono i _ (by omega) (by omega) b,hi⟩
     ·rename_i b
      exact Yv ⟨rfl,_,_,rfl,by omega,by omega,by omega,lo,fun i h1 h2=>zm _ i h1 h2 (by simpa using b)⟩
   ·obtain⟨rfl,l,h,rfl,lh,hn,hm,lo,hi⟩:=hI
    exact⟨rfl,h,⟨l,rfl⟩,hn,fun i fE=>lo i (by omega),hi⟩
  ·rintro c bR ⟨rfl,k,⟨l,rfl⟩,kn,lo,hi⟩
   dsimp only;exact Yv (q k kn lo fun i h1 h2=>gt i h2 (hi i h1 h2))
end
section
variable {O:KeyOrd}{κ:Keyed→O.α}
def fF(κ:Keyed→O.α)(l:List Keyed):Prop:=l.Pairwise fun x y=>O.blt (κ x) (κ y)=true
structure JL(κ:Keyed→O.α)(a b out:List Keyed)(ia ib:Nat)(ra rb:List Keyed):Prop where
 ea:a.drop ia=ra
 eb:b.drop ib=rb
 perm:(out++ra++rb).Perm (a++b)
 so:fF κ out
 oa:∀ x∈out,∀ y∈ra,O.blt (κ x) (κ y)=true
 ob:∀ x∈out,∀ y∈rb,O.blt (κ x) (κ y)=true
variable {a b out ra rb xs:List Keyed}{ia ib:Nat}
theorem fF.drop(h:fF κ a)(e:a.drop ia=ra):fF κ ra:=by rw[← e];exact List.Pairwise.sublist (List.drop_sublist _ _) h
theorem JL.nR(sa:fF κ a)(h:JL κ a b out ia ib (xs++ra) rb)(lt:∀ x∈xs,∀ y∈rb,O.blt (κ x) (κ y)=true):JL κ a b (out++xs) (ia+xs.length) ib ra rb:=by
 have sr:=sa.drop h.ea;have s2:=YD.mp sr;refine⟨?_,h.eb,?_,YD.mpr ⟨h.so,s2.1,fun x hx y hy=>h.oa x hx y (by simp[hy])⟩,fun x hx y hy=>?_,fun x hx y hy=>?_⟩
 ·rw[← List.drop_drop,h.ea,aaB]
 ·have:=h.perm
  rw[← Yt]at this;exact this
 ·rcases YE.mp hx with hx | hx
  ·exact h.oa x hx y (by simp[hy])
  ·exact s2.2.2 x hx y hy
 ·rcases YE.mp hx with hx | hx
  ·exact h.ob x hx y hy
  ·exact lt x hx y hy
theorem JL.jQ(sb:fF κ b)(h:JL κ a b out ia ib ra (xs++rb))(lt:∀ x∈xs,∀ y∈ra,O.blt (κ x) (κ y)=true):JL κ a b (out++xs) ia (ib+xs.length) ra rb:=by
 have sr:=sb.drop h.eb;have s2:=YD.mp sr;refine⟨h.ea,?_,?_,YD.mpr ⟨h.so,s2.1,fun x hx y hy=>h.ob x hx y (by simp[hy])⟩,fun x hx y hy=>?_,fun x hx y hy=>?_⟩
 ·rw[← List.drop_drop,h.eb,aaB]
 ·refine List.Perm.trans ?_ h.perm
  rw[Yt,Yt,Yt];refine aah _ ?_;rw[← Yt,← Yt];exact aag.append_right _
 ·rcases YE.mp hx with hx | hx
  ·exact h.oa x hx y hy
  ·exact lt x hx y hy
 ·rcases YE.mp hx with hx | hx
  ·exact h.ob x hx y (by simp[hy])
  ·exact s2.2.2 x hx y hy
structure pF(κ:Keyed→O.α)(a b m:List Keyed):Prop where
 perm:m.Perm (a++b)
 so:fF κ m
theorem JL.NS(sa:fF κ a)(h:JL κ a b out ia ib ra []):pF κ a b (out++ra++[]):=⟨h.perm,by
 rw[YY];exact YD.mpr ⟨h.so,sa.drop h.ea,h.oa⟩⟩
theorem JL.NO(sa:fF κ a)(sb:fF κ b)(h:JL κ a b out ia ib ra rb)(lt:∀ x∈rb,∀ y∈ra,O.blt (κ x) (κ y)=true):pF κ a b (out++rb++ra):=by
 refine⟨List.Perm.trans ?_ h.perm,?_⟩
 ·rw[Yt,Yt]
  exact aah _ aag
 ·refine YD.mpr ⟨YD.mpr ⟨h.so,sb.drop h.eb,h.ob⟩,sa.drop h.ea,fun x hx y hy=>?_⟩
  rcases YE.mp hx with hx | hx
  ·exact h.oa x hx y hy
  ·exact lt x hx y hy
end
section
variable {prog:Program}{w:World}{A:Around}{E:Value→Shared→Prop}{s:Shared}{a0:Array Keyed}{kd:SortKind}{st:SortSt}{O:KeyOrd}{κ:Keyed→O.α}{d0:O.α}
theorem aq{α:Type}{M:Model}{c:Prop}[Decidable c]{m1 m2:StateT SortSt Sem α}{Q:α→SortSt→Prop}(h1:c→wpS M A E s m1 Q st)(h2:¬c→wpS M A E s m2 Q st):wpS M A E s (if c then m1 else m2) Q st:=by
 by_cases h:c
 ·rw[YV h];exact h1 h
 ·rw[YN h];exact h2 h
theorem je{Gd:Bool}{key:Keyed}{arr:Array Keyed}{bs n hint:Nat}{r:List Keyed}{Q:Option Nat→SortSt→Prop}(L:jt (model prog w) A s kd a0 O κ)(hk:kindOf st=kd)(mk:key∈a0.toList)
  (hr:(arr.toList.drop bs).take n=r) (hn:bs+n≤arr.size) (sr:fF κ r) (mr:∀ x∈r,x∈a0.toList∧κ x≠κ key) (hh:hint < n)
  (q:∀ k,k≤n→(∀ x∈r.take k,O.blt (κ x) (κ key)=true)→(∀ x∈r.drop k,O.blt (κ key) (κ x)=true)→Q (some k) st):wpS (model prog w) A E s (mZ Gd key arr bs n hint) Q st:=by
 have rl:r.length=n:=by rw[← hr,YG,Y3,Yu];omega
 have at_:∀ i,i < n→∃ x,r[i]? = some x∧arr[bs+i]? = some x:=fun i hi=>by
  refine⟨r[i],YJ (by omega),?_⟩;have:r[i]? = arr[bs+i]? := by rw[← hr,ZZ hi,abx,YK]
  rw[← this];exact YJ (by omega)
 refine vS (d0:=κ key) L hk mk (fun i hi=>?_) (fun i j zP hj=>?_) hh fun k kn lo hi=>q k kn (fun x hx=>?_) (fun x hx=>?_)
 ·obtain⟨x,e1,e2⟩:=at_ i hi
  exact⟨x,e2,mr x (ZT e1)⟩
 ·obtain⟨x,e1,e2⟩:=at_ i (by omega)
  obtain⟨y,f1,f2⟩:=at_ j hj;rw[du κ _ e2,du κ _ f2];have:=ZQ.mp sr i j (by omega) (by omega) zP;rw[(YO.mp e1).2,(YO.mp f1).2]at this;exact this
 ·obtain⟨i,fE,e⟩:=List.mem_iff_getElem.mp hx
  rw[YG]at fE;have:=lo i (by omega);obtain⟨y,e1,e2⟩:=at_ i (by omega);rw[du κ _ e2]at this;rw[List.getElem_take,(YO.mp e1).2]at e;rw[← e];exact this
 ·obtain⟨i,fE,e⟩:=List.mem_iff_getElem.mp hx
  rw[Y3]at fE;have:=hi (k+i) (by omega) (by omega);obtain⟨y,e1,e2⟩:=at_ (k+i) (by omega);rw[du κ _ e2]at this;rw[List.getElem_drop,(YO.mp e1).2]at e;rw[← e];exact this
structure Dh(κ:Keyed→O.α)(a0:Array Keyed)(a b:List Keyed):Prop where
 sa:fF κ a
 sb:fF κ b
 ma:∀ x∈a,x∈a0.toList
 mb:∀ x∈b,x∈a0.toList
 ne:∀ x∈a,∀ y∈b,κ x≠κ y
def setG(st:SortSt)(g:Nat):SortSt:=SortSt.mk' (kindOf st) (arrOf st) (pendingOf st) g (failedOf st)
theorem kJ{a:Array Keyed}{i:Nat}{x:Keyed}{r:List Keyed}(h:a.toList.drop i=x::r):a[i]? = some x∧i < a.size:=by
 have e:a.toList[i]? = some x:=by
  have:=ZM (fun l:List Keyed=>l[0]?) h;rw[abx]at this;exact this
 rw[YK]at e;exact⟨e,(Array.getElem?_eq_some_iff.mp e).1⟩
theorem iF{a:Array Keyed}{i:Nat}{r:List Keyed}(h:a.toList.drop i=r):(a.extract i a.size).toList=r:=by
 rw[ZU,ZE,← h];exact YX (by rw[Y3,Yu];exact Yz _)
theorem kC{a:Array Keyed}{i k:Nat}{r:List Keyed}(h:a.toList.drop i=r):(a.extract i (i+k)).toList=r.take k:=by
 rw[ZU,ZE,← h,Z4]
structure LV(κ:Keyed→O.α)(a b out:Array Keyed)(ia ib:Nat)(ra rb:List Keyed):Prop where
 jl:JL κ a.toList b.toList out.toList ia ib ra rb
 la:2≤ra.length
 lb:1≤rb.length
theorem LV.len{a b out:Array Keyed}{ia ib:Nat}{ra rb:List Keyed}(h:LV κ a b out ia ib ra rb):out.size+ra.length+rb.length=a.size+b.size:=by
 have:=h.jl.perm.length_eq;simp only[Yo,Yu]at this;exact this
theorem rH{a:List Keyed}{a':List Keyed}{z:Keyed}{ia:Nat}{ra:List Keyed}(hz:a=a'++[z])(e:a.drop ia=ra)(h:1≤ra.length):∃ r',ra=r'++[z]:=by
 rw[hz]at e;have hl:ia≤a'.length:=by
  rcases aaE a'.length ia with c | c
  ·rw[List.drop_eq_nil_of_le (by rw[Yo];show a'.length+1≤ia;omega)]at e
   rw[← e]at h;exact absurd h (by decide)
  ·exact c
 rw[Z7 hl]at e;exact⟨_,e.symm⟩
theorem JL.jZ{a b out:Array Keyed}{ia ib:Nat}{y:Keyed}{ra rb:List Keyed}(sb:fF κ b.toList)(h:JL κ a.toList b.toList out.toList ia ib ra (y::rb))(lt:∀ x∈ra,O.blt (κ y) (κ x)=true):JL κ a.toList b.toList (out.push y).toList ia (ib+1) ra rb:=by
 rw[aaA];exact JL.jQ (xs:=[y]) sb h fun x hx z hz=>by rw[YA.mp hx];exact lt z hz
theorem JL.fV{a b out:Array Keyed}{ia ib:Nat}{x:Keyed}{ra rb:List Keyed}(sa:fF κ a.toList)(h:JL κ a.toList b.toList out.toList ia ib (x::ra) rb)(lt:∀ y∈rb,O.blt (κ x) (κ y)=true):JL κ a.toList b.toList (out.push x).toList (ia+1) ib ra rb:=by
 rw[aaA];exact JL.nR (xs:=[x]) sa h fun y hy z hz=>by rw[YA.mp hy];exact lt z hz
theorem fF.head{x:Keyed}{r:List Keyed}{y:Keyed}(h:fF κ (x::r))(l:O.blt (κ y) (κ x)=true):∀ z∈x::r,O.blt (κ y) (κ z)=true:=fun z hz=>by
 rcases Yq.mp hz with rfl | hz
 ·exact l
 ·exact O.trans _ _ _ l ((aad.mp h).1 z hz)
theorem JL.cJ{a b out:Array Keyed}{ia ib:Nat}{ra rb:List Keyed}(h:JL κ a.toList b.toList out.toList ia ib ra rb):ra.length=a.size-ia∧rb.length=b.size-ib:=by
 constructor
 ·rw[← h.ea,Y3,Yu]
 ·rw[← h.eb,Y3,Yu]
theorem tG{a b:Array Keyed}{a':List Keyed}{z:Keyed}{Q:Array Keyed→SortSt→Prop}(L:jt (model prog w) A s kd a0 O κ)(hk:kindOf st=kd)(M:Dh κ a0 a.toList b.toList)(hz:a.toList=a'++[z])(hl:∀ y∈b.toList,O.blt (κ y) (κ z)=true)(hb:1≤b.size)(hf:∀ x y,b[0]? = some x→y∈a.toList→O.blt (κ x) (κ y)=true)
  (q:∀ m g,pF κ a.toList b.toList m.toList→Q m (setG st g)):wpS (model prog w) A E s (oG a b) Q st:=by
 obtain⟨b0,IK,xh⟩:∃ x r,b.toList=x::r:=by
  cases e:b.toList with
  | nil=>have:=ZM List.length e;rw[Yu]at this;simp at this;rw[this]at hb;exact absurd hb (by decide)
  | cons x r=>exact⟨x,r,rfl⟩
 have uv:b[0]? = some b0:=by rw[← YK,xh];rfl
 have Uu:b.size=IK.length+1:=by rw[← Yu,xh,YF]
 have BU:a.size=a'.length+1:=by rw[← Yu,hz,Yo];rfl
 have J0:JL κ a.toList b.toList [b0] 0 1 a.toList IK:=⟨rfl,by rw[xh];rfl,by rw[xh,List.singleton_append,ZO];exact abD.symm,aax _ _,fun x hx y hy=>by rw[YA.mp hx];exact hf b0 y uv hy,fun x hx y hy=>by
  rw[YA.mp hx];have:=M.sb;rw[xh]at this;exact(aad.mp this).1 y hy⟩
 -- rg RD a merge ends
 have eL:∀{out:Array Keyed} {ia ib:Nat} {ra rb:List Keyed},JL κ a.toList b.toList out.toList ia ib ra rb→ia+1=a.size→pF κ a.toList b.toList (out++b.extract ib b.size++a.extract ia a.size).toList:=fun {out ia ib ra rb} j e=>by
  rw[Zc,Zc,iF j.ea,iF j.eb];have l1:ra.length=1:=by rw[← j.ea,Y3,Yu];omega
  obtain⟨r',er⟩:=rH hz j.ea (by omega);refine j.NO M.sa M.sb fun x hx y hy=>?_;have:r'=[]:=by rw[er,Yo]at l1;exact ZH (by simpa using l1)
  rw[er,this]at hy;rw[YA.mp hy];exact hl x (by rw[← j.eb]at hx;exact Zn hx)
 have eD:∀{out:Array Keyed} {ia ib:Nat} {ra rb:List Keyed},JL κ a.toList b.toList out.toList ia ib ra rb→ib=b.size→pF κ a.toList b.toList (out++a.extract ia a.size++b.extract ib b.size).toList:=fun {out ia ib ra rb} j e=>by
  have er:rb=[]:=by rw[← j.eb,e,← Yu,abE]
  rw[Zc,Zc,iF j.ea,iF j.eb,er];rw[er]at j;exact j.NS M.sa
 unfold oG;show wpS _ _ _ _ (_ >>= _) Q st
 refine Ys (abP (ZS ⟨rfl,?_⟩));refine Ys (bf uv ?_);refine aq (fun c=>?_) (fun c1=>?_)
 ·have c:1=b.size:=eq_of_beq c
  exact Yv (by have:=q _ (gallopOf st) (eD (out:=#[b0]) J0 c);exact this)
 refine aq (fun c=>?_) (fun c2=>?_)
 ·have c:0+1=a.size:=eq_of_beq c
  exact Yv (by have:=q _ (gallopOf st) (eL (out:=#[b0]) J0 c);exact this)
 have c1:¬1=b.size:=fun z=>c1 (YW.mpr z);have c2:¬0+1=a.size:=fun z=>c2 (YW.mpr z);have V0:LV κ a b #[b0] 0 1 a.toList IK:=⟨J0,by rw[Yu];omega,by omega⟩;refine Ys (aaZ ?_);refine Ys (Z9 (Q:=fun c aR=>∃ m g,c.1=some m∧aR=setG st g∧pF κ a.toList b.toList m.toList) (Zj (fun t c aR=>∃ out ia ib g g' ra rb,c=(none,out,ia,ib,g)∧aR=setG st g'∧LV κ a b out ia ib ra rb∧t+1≤out.size) (fun t c bR t1 t2 hI=>?_) (fun c bR hI=>?_) ⟨#[b0],0,1,_,gallopOf st,_,_,rfl,rfl,V0,Yz _⟩) ?_)
 ·obtain⟨out,ia,ib,g,g',ra,rb,rfl,rfl,V,tl⟩:=hI
  refine Ys (Z9 (Q:=fun c aR=>aR=setG st g'∧((∃ m,c.1=some m∧pF κ a.toList b.toList m.toList)∨∃ out ia ib ac bc ra rb,c=(none,out,ia,ib,ac,bc)∧LV κ a b out ia ib ra rb∧t+2≤out.size)) (Zj (fun u c aR=>aR=setG st g'∧∃ out ia ib ac bc ra rb,c=(none,out,ia,ib,ac,bc)∧LV κ a b out ia ib ra rb∧t+1+u≤out.size) (fun u c bR u1 u2 hJ=>?_) (fun c bR hJ=>?_) ⟨rfl,out,ia,ib,_,_,ra,rb,rfl,V,tl⟩) ?_)
  ·obtain⟨rfl,out,ia,ib,ac,bc,ra,rb,rfl,V,ul⟩:=hJ
   obtain⟨l1,l2⟩:=V.jl.cJ;have la:=V.la;have lb:=V.lb;match ra,rb,V,l1,l2,la,lb with
   | x::x2::r,y::r',V,l1,l2,la,lb=>
    obtain⟨ha,oQ⟩:=kJ V.jl.ea;obtain⟨lZ,UJ⟩:=kJ V.jl.eb;have ma:x∈a.toList:=Zd.mpr (Ze ha);have mb:y∈b.toList:=Zd.mpr (Ze lZ);have yO:=M.ne x ma y mb;show wpS _ _ _ _ (_ >>= _) _ _
    refine Ys (bf lZ ?_);refine Ys (bf ha ?_);refine Ys (yN L hk (M.mb y mb) (M.ma x ma) yO.symm ?_);refine aq (fun c=>?_) (fun c=>?_)
    ·refine Ys (bf lZ ?_)
     have j:=V.jl.jZ M.sb ((M.sa.drop V.jl.ea).head c);refine aq (fun c3=>?_) (fun c3=>?_)
     ·have c3:ib+1=b.size:=eq_of_beq c3
      exact Yv ⟨rfl,.inl ⟨_,rfl,eD j c3⟩⟩
     ·have c3:¬ib+1=b.size:=fun z=>c3 (YW.mpr z)
      have V':LV κ a b (out.push y) ia (ib+1) (x::x2::r) r':=⟨j,la,by have:=j.cJ.2;omega⟩;refine aq (fun _=>?_) (fun _=>?_)
      ·exact Yv ⟨rfl,.inr ⟨_,_,_,_,_,_,_,rfl,V',(show t+2≤(out.push y).size by rw[YR];omega)⟩⟩
      ·exact Yv ⟨rfl,_,_,_,_,_,_,_,rfl,V',(show t+1+(u+1)≤(out.push y).size by rw[YR];omega)⟩
    ·refine Ys (bf ha ?_)
     have j:=V.jl.fV M.sa ((M.sb.drop V.jl.eb).head (jf yO.symm (by simpa using c)));refine aq (fun c3=>?_) (fun c3=>?_)
     ·have c3:ia+1+1=a.size:=eq_of_beq c3
      exact Yv ⟨rfl,.inl ⟨_,rfl,eL j c3⟩⟩
     ·have c3:¬ia+1+1=a.size:=fun z=>c3 (YW.mpr z)
      have V':LV κ a b (out.push x) (ia+1) ib (x2::r) (y::r'):=⟨j,by have:=j.cJ.1;have:(x2::r).length=r.length+1:=rfl;omega,lb⟩;refine aq (fun _=>?_) (fun _=>?_)
      ·exact Yv ⟨rfl,.inr ⟨_,_,_,_,_,_,_,rfl,V',(show t+2≤(out.push x).size by rw[YR];omega)⟩⟩
      ·exact Yv ⟨rfl,_,_,_,_,_,_,_,rfl,V',(show t+1+(u+1)≤(out.push x).size by rw[YR];omega)⟩
  ·obtain⟨rfl,out,ia,ib,ac,bc,ra,rb,rfl,V,ul⟩:=hJ
   exact⟨rfl,.inr ⟨out,ia,ib,ac,bc,ra,rb,rfl,V,by have:=V.len;have:=V.la;omega⟩⟩
  clear V tl;rintro c bR ⟨rfl,⟨m,ec,ok⟩ | ⟨out,ia,ib,ac,bc,ra,rb,rfl,V,tl⟩⟩
  ·obtain⟨c1,c2,c3,c4,c5,c6⟩:=c
   cases ec;exact Yv ⟨m,g',rfl,rfl,ok⟩
  refine Ys (abP (ZS ⟨rfl,?_⟩));refine Ys (Z9 (Q:=fun c aR=>(∃ m g,c.1=some m∧aR=setG st g∧pF κ a.toList b.toList m.toList)∨∃ out ia ib g CG ac bc ra rb,c=(none,out,ia,ib,g,ac,bc)∧aR=setG st CG∧LV κ a b out ia ib ra rb∧t+2≤out.size) (Zj (fun u c aR=>∃ out ia ib g CG ac bc ra rb,c=(none,out,ia,ib,g,ac,bc)∧aR=setG st CG∧LV κ a b out ia ib ra rb∧t+2≤out.size) (fun u c bR u1 u2 hJ=>?_) (fun c bR hJ=>?_) ⟨out,ia,ib,_,g',_,_,ra,rb,rfl,rfl,V,tl⟩) ?_)
  ·clear V tl
   obtain⟨out,ia,ib,g2,g3,ac,bc,ra,rb,rfl,rfl,V,tl⟩:=hJ;obtain⟨l1,l2⟩:=V.jl.cJ;have la:=V.la;have lb:=V.lb;match rb,V,l2,lb with
   | y::r',V,l2,lb=>
   obtain⟨lZ,UJ⟩:=kJ V.jl.eb;have mb:y∈b.toList:=Zd.mpr (Ze lZ);have F0:∀ x∈ra,x∈a.toList:=fun x hx=>by rw[← V.jl.ea]at hx;exact Zn hx
   refine aq (fun _=>?_) (fun _=>?_)
   all_goals
    show wpS _ _ _ _ (_ >>= _) _ _
    refine Ys (aaj ?_);refine Ys (bf lZ ?_);refine Ys (je (arr:=a) (bs:=ia) (n:=a.size-ia) (hint:=0) (r:=ra) L hk (M.mb y mb) (by rw[V.jl.ea];exact YX (by omega)) (by omega) (M.sa.drop V.jl.ea) (fun x hx=>⟨M.ma x (F0 x hx),M.ne x (F0 x hx) y mb⟩) (by omega) fun k kn lo hi=>?_);have kl:k < ra.length:=by
     rcases aaE k ra.length with c | c
     ·exact c
     ·obtain⟨r0,er⟩:=rH hz V.jl.ea (by omega)
      have h1:=lo z (by rw[YX c,er];simp);have h2:=O.trans _ _ _ h1 (hl y mb);rw[O.irrefl]at h2;cases h2
    refine aq (fun c=>?_) (fun c=>?_)
    ·obtain⟨bV,qJ⟩:∃ o,o=out++a.extract ia (ia+k):=⟨_,rfl⟩
     have J1:JL κ a.toList b.toList bV.toList (ia+k) ib (ra.drop k) (y::r'):=by
      have:=JL.nR (xs:=ra.take k) (ra:=ra.drop k) M.sa (by rw[YM];exact V.jl) fun x hx=>(M.sb.drop V.jl.eb).head (lo x hx);rw[YG,ZF (by omega)]at this;rw[qJ,Zc,kC V.jl.ea];exact this
     have JJ:t+2≤bV.size:=by rw[qJ,Z2];omega
     rw[← qJ];refine aq (fun c4=>?_) (fun c4=>?_)
     ·have c4:ia+k+1=a.size:=eq_of_beq c4
      exact Yv (.inl ⟨_,_,rfl,rfl,eL J1 c4⟩)
     have c4:¬ia+k+1=a.size:=fun z=>c4 (YW.mpr z);refine aq (fun c5=>?_) (fun c5=>?_)
     ·exfalso
      have c5:ia+k=a.size:=eq_of_beq c5;omega
     obtain⟨oQ,wD⟩:∃ i,i=ia+k:=⟨_,rfl⟩;obtain⟨zI,oX⟩:∃ r,r=ra.drop k:=⟨_,rfl⟩;have yQ:2≤zI.length:=by rw[oX,Y3];omega
     have wx:∀ x∈zI,O.blt (κ y) (κ x)=true:=by rw[oX];exact hi
     rw[← wD,← oX]at J1;rw[← wD];show wpS _ _ _ _ (_ >>= _) _ _
     match zI,J1,yQ,wx with
     | x1::sE::r1,J1,yQ,wx=>
     refine Ys (bf lZ ?_);have j2:=JL.jZ M.sb J1 wx;obtain⟨l3,l4⟩:=j2.cJ;refine aq (fun c4=>?_) (fun c4=>?_)
     ·have c4:ib+1=b.size:=eq_of_beq c4
      exact Yv (.inl ⟨_,_,rfl,rfl,eD j2 c4⟩)
     have c4:¬ib+1=b.size:=fun z=>c4 (YW.mpr z);obtain⟨mY,UK⟩:=kJ j2.ea;have tO:x1∈a.toList:=Zd.mpr (Ze mY);have vW:∀ x∈r',x∈b.toList:=fun x hx=>by rw[← j2.eb]at hx;exact Zn hx
     refine Ys (bf mY ?_);refine Ys (je (arr:=b) (bs:=ib+1) (n:=b.size-(ib+1)) (hint:=0) (r:=r') L hk (M.ma x1 tO) (by rw[j2.eb];exact YX (by omega)) (by omega) (M.sb.drop j2.eb) (fun x hx=>⟨M.mb x (vW x hx),fun e=>M.ne x1 tO x (vW x hx) e.symm⟩) (by omega) fun k2 I0 v5 qD=>?_);have ge1:∀ y'∈r'.take k2,∀ x'∈x1::sE::r1,O.blt (κ y') (κ x')=true:=fun y' yX=>(M.sa.drop j2.ea).head (v5 y' yX);refine aq (fun c6=>?_) (fun c6=>?_)
     ·have j3:JL κ a.toList b.toList (bV.push y++b.extract (ib+1) (ib+1+k2)).toList oQ (ib+1+k2) (x1::sE::r1) (r'.drop k2):=by
       have:=JL.jQ (xs:=r'.take k2) (rb:=r'.drop k2) M.sb (by rw[YM];exact j2) ge1;rw[YG,ZF (by omega)]at this;rw[Zc,kC j2.eb];exact this
      refine aq (fun c7=>?_) (fun c7=>?_)
      ·have c7:ib+1+k2=b.size:=eq_of_beq c7
       exact Yv (.inl ⟨_,_,rfl,rfl,eD j3 c7⟩)
      have c7:¬ib+1+k2=b.size:=fun z=>c7 (YW.mpr z);have AN:t+2≤(bV.push y++b.extract (ib+1) (ib+1+k2)).size:=by rw[Z2,YR];omega
      refine Ys (bf mY ?_);have j4:=JL.fV M.sa j3 qD;refine aq (fun c5=>?_) (fun c5=>?_)
      ·have c5:oQ+1+1=a.size:=eq_of_beq c5
       exact Yv (.inl ⟨_,_,rfl,rfl,eL j4 c5⟩)
      ·have c5:¬oQ+1+1=a.size:=fun z=>c5 (YW.mpr z)
       have V':LV κ a b ((bV.push y++b.extract (ib+1) (ib+1+k2)).push x1) (oQ+1) (ib+1+k2) (sE::r1) (r'.drop k2):=⟨j4,by have:=j4.cJ.1;have:(sE::r1).length=r1.length+1:=rfl;omega,by have:=j4.cJ.2;omega⟩;have sz:t+2≤((bV.push y++b.extract (ib+1) (ib+1+k2)).push x1).size:=by rw[YR];omega
       refine aq (fun _=>?_) (fun _=>?_)
       ·exact Yv (.inr ⟨_,_,_,_,_,_,_,_,_,rfl,rfl,V',sz⟩)
       ·exact Yv ⟨_,_,_,_,_,_,_,_,_,rfl,rfl,V',sz⟩
     ·have c6:k2=0:=by have:¬k2 > 0:=c6;omega
      subst c6;have AN:t+2≤(bV.push y).size:=by rw[YR];omega
      refine Ys (bf mY ?_);have j4:=JL.fV M.sa j2 qD;refine aq (fun c5=>?_) (fun c5=>?_)
      ·have c5:oQ+1+1=a.size:=eq_of_beq c5
       exact Yv (.inl ⟨_,_,rfl,rfl,eL j4 c5⟩)
      ·have c5:¬oQ+1+1=a.size:=fun z=>c5 (YW.mpr z)
       have V':LV κ a b ((bV.push y).push x1) (oQ+1) (ib+1) (sE::r1) r':=⟨j4,by have:=j4.cJ.1;have:(sE::r1).length=r1.length+1:=rfl;omega,by have:=j4.cJ.2;omega⟩;have sz:t+2≤((bV.push y).push x1).size:=by rw[YR];omega
       refine aq (fun _=>?_) (fun _=>?_)
       ·exact Yv (.inr ⟨_,_,_,_,_,_,_,_,_,rfl,rfl,V',sz⟩)
       ·exact Yv ⟨_,_,_,_,_,_,_,_,_,rfl,rfl,V',sz⟩
    ·have c:k=0:=by have:¬k > 0:=c;omega
     subst c;obtain⟨bV,qJ⟩:∃ o,o=out:=⟨_,rfl⟩;obtain⟨oQ,wD⟩:∃ i,i=ia:=⟨_,rfl⟩;obtain⟨zI,oX⟩:∃ r,r=ra:=⟨_,rfl⟩;have J1:JL κ a.toList b.toList bV.toList oQ ib zI (y::r'):=by rw[qJ,wD,oX];exact V.jl
     have yQ:2≤zI.length:=by rw[oX];exact la
     have wx:∀ x∈zI,O.blt (κ y) (κ x)=true:=by rw[oX];exact hi
     have JJ:t+2≤bV.size:=by rw[qJ];exact tl
     rw[← qJ,← wD];show wpS _ _ _ _ (_ >>= _) _ _
     match zI,J1,yQ,wx with
     | x1::sE::r1,J1,yQ,wx=>
     refine Ys (bf lZ ?_);have j2:=JL.jZ M.sb J1 wx;obtain⟨l3,l4⟩:=j2.cJ;refine aq (fun c4=>?_) (fun c4=>?_)
     ·have c4:ib+1=b.size:=eq_of_beq c4
      exact Yv (.inl ⟨_,_,rfl,rfl,eD j2 c4⟩)
     have c4:¬ib+1=b.size:=fun z=>c4 (YW.mpr z);obtain⟨mY,UK⟩:=kJ j2.ea;have tO:x1∈a.toList:=Zd.mpr (Ze mY);have vW:∀ x∈r',x∈b.toList:=fun x hx=>by rw[← j2.eb]at hx;exact Zn hx
     refine Ys (bf mY ?_);refine Ys (je (arr:=b) (bs:=ib+1) (n:=b.size-(ib+1)) (hint:=0) (r:=r') L hk (M.ma x1 tO) (by rw[j2.eb];exact YX (by omega)) (by omega) (M.sb.drop j2.eb) (fun x hx=>⟨M.mb x (vW x hx),fun e=>M.ne x1 tO x (vW x hx) e.symm⟩) (by omega) fun k2 I0 v5 qD=>?_);have ge1:∀ y'∈r'.take k2,∀ x'∈x1::sE::r1,O.blt (κ y') (κ x')=true:=fun y' yX=>(M.sa.drop j2.ea).head (v5 y' yX);refine aq (fun c6=>?_) (fun c6=>?_)
     ·have j3:JL κ a.toList b.toList (bV.push y++b.extract (ib+1) (ib+1+k2)).toList oQ (ib+1+k2) (x1::sE::r1) (r'.drop k2):=by
       have:=JL.jQ (xs:=r'.take k2) (rb:=r'.drop k2) M.sb (by rw[YM];exact j2) ge1;rw[YG,ZF (by omega)]at this;rw[Zc,kC j2.eb];exact this
      refine aq (fun c7=>?_) (fun c7=>?_)
      ·have c7:ib+1+k2=b.size:=eq_of_beq c7
       exact Yv (.inl ⟨_,_,rfl,rfl,eD j3 c7⟩)
      have c7:¬ib+1+k2=b.size:=fun z=>c7 (YW.mpr z);have AN:t+2≤(bV.push y++b.extract (ib+1) (ib+1+k2)).size:=by rw[Z2,YR];omega
      refine Ys (bf mY ?_);have j4:=JL.fV M.sa j3 qD;refine aq (fun c5=>?_) (fun c5=>?_)
      ·have c5:oQ+1+1=a.size:=eq_of_beq c5
       exact Yv (.inl ⟨_,_,rfl,rfl,eL j4 c5⟩)
      ·have c5:¬oQ+1+1=a.size:=fun z=>c5 (YW.mpr z)
       have V':LV κ a b ((bV.push y++b.extract (ib+1) (ib+1+k2)).push x1) (oQ+1) (ib+1+k2) (sE::r1) (r'.drop k2):=⟨j4,by have:=j4.cJ.1;have:(sE::r1).length=r1.length+1:=rfl;omega,by have:=j4.cJ.2;omega⟩;have sz:t+2≤((bV.push y++b.extract (ib+1) (ib+1+k2)).push x1).size:=by rw[YR];omega
       refine aq (fun _=>?_) (fun _=>?_)
       ·exact Yv (.inr ⟨_,_,_,_,_,_,_,_,_,rfl,rfl,V',sz⟩)
       ·exact Yv ⟨_,_,_,_,_,_,_,_,_,rfl,rfl,V',sz⟩
     ·have c6:k2=0:=by have:¬k2 > 0:=c6;omega
      subst c6;have AN:t+2≤(bV.push y).size:=by rw[YR];omega
      refine Ys (bf mY ?_);have j4:=JL.fV M.sa j2 qD;refine aq (fun c5=>?_) (fun c5=>?_)
      ·have c5:oQ+1+1=a.size:=eq_of_beq c5
       exact Yv (.inl ⟨_,_,rfl,rfl,eL j4 c5⟩)
      ·have c5:¬oQ+1+1=a.size:=fun z=>c5 (YW.mpr z)
       have V':LV κ a b ((bV.push y).push x1) (oQ+1) (ib+1) (sE::r1) r':=⟨j4,by have:=j4.cJ.1;have:(sE::r1).length=r1.length+1:=rfl;omega,by have:=j4.cJ.2;omega⟩;have sz:t+2≤((bV.push y).push x1).size:=by rw[YR];omega
       refine aq (fun _=>?_) (fun _=>?_)
       ·exact Yv (.inr ⟨_,_,_,_,_,_,_,_,_,rfl,rfl,V',sz⟩)
       ·exact Yv ⟨_,_,_,_,_,_,_,_,_,rfl,rfl,V',sz⟩
  ·obtain⟨out,ia,ib,g,g3,ac,bc,ra,rb,rfl,rfl,V,tl⟩:=hJ
   exact .inr ⟨out,ia,ib,g,g3,ac,bc,ra,rb,rfl,rfl,V,tl⟩
  clear V tl;rintro c bR (⟨m,g3,ec,rfl,ok⟩ | ⟨out,ia,ib,g2,g3,ac,bc,ra,rb,rfl,rfl,V,tl⟩)
  ·obtain⟨c1,c2,c3,c4,c5,c6,c7⟩:=c
   cases ec;exact Yv ⟨m,g3,rfl,rfl,ok⟩
  ·refine Ys (aaj ?_)
   exact Yv ⟨out,ia,ib,_,_,ra,rb,rfl,rfl,V,by omega⟩
 ·exfalso
  obtain⟨out,ia,ib,g,g',ra,rb,rfl,rfl,V,tl⟩:=hI;have:=V.len;have:=V.la;omega
 ·rintro c bR ⟨m,g,ec,rfl,ok⟩
  obtain⟨c1,c2⟩:=c;cases ec;exact Yv (q m g ok)
end
section
variable {O:KeyOrd}{κ:Keyed→O.α}
structure JH(κ:Keyed→O.α)(a b rev:List Keyed)(na nb:Nat)(pa pb:List Keyed):Prop where
 ea:a.take na=pa
 eb:b.take nb=pb
 la:na≤a.length
 lb:nb≤b.length
 perm:(pa++pb++rev).Perm (a++b)
 so:fF κ rev
 oa:∀ x∈pa,∀ y∈rev,O.blt (κ x) (κ y)=true
 ob:∀ x∈pb,∀ y∈rev,O.blt (κ x) (κ y)=true
variable {a b rev pa pb xs:List Keyed}{na nb:Nat}
theorem JH.cJ(h:JH κ a b rev na nb pa pb):pa.length=na∧pb.length=nb:=by
 constructor
 ·rw[← h.ea,YG,ZF h.la]
 ·rw[← h.eb,YG,ZF h.lb]
theorem fF.take(h:fF κ a)(e:a.take na=pa):fF κ pa:=by rw[← e];exact List.Pairwise.sublist (List.take_sublist _ _) h
theorem nQ(e:a.take na=pa++xs):a.take pa.length=pa:=by
 have hl:pa.length≤na:=by
  have:=ZM List.length e;rw[YG,Yo]at this;omega
 have:(a.take na).take pa.length=pa:=by rw[e,aaI];rfl
 rw[List.take_take,ZF hl]at this;exact this
theorem JH.nR(sa:fF κ a)(h:JH κ a b rev na nb (pa++xs) pb)(lt:∀ y∈pb,∀ x∈xs,O.blt (κ y) (κ x)=true):JH κ a b (xs++rev) pa.length nb pa pb:=by
 have sr:=sa.take h.ea;have s2:=YD.mp sr;have hl:=h.cJ.1;rw[Yo]at hl;have:=h.la;refine⟨nQ h.ea,h.eb,by omega,h.lb,?_,YD.mpr ⟨s2.2.1,h.so,fun x hx y hy=>h.oa x (by simp[hx]) y hy⟩,fun x hx y hy=>?_,fun x hx y hy=>?_⟩
 ·refine List.Perm.trans ?_ h.perm
  rw[Yt,Yt,Yt];refine aah _ ?_;rw[← Yt,← Yt];exact aag.append_right _
 ·rcases YE.mp hy with hy | hy
  ·exact s2.2.2 x hx y hy
  ·exact h.oa x (by simp[hx]) y hy
 ·rcases YE.mp hy with hy | hy
  ·exact lt x hx y hy
  ·exact h.ob x hx y hy
theorem JH.jQ(sb:fF κ b)(h:JH κ a b rev na nb pa (pb++xs))(lt:∀ y∈pa,∀ x∈xs,O.blt (κ y) (κ x)=true):JH κ a b (xs++rev) na pb.length pa pb:=by
 have sr:=sb.take h.eb;have s2:=YD.mp sr;have hl:=h.cJ.2;rw[Yo]at hl;have:=h.lb;refine⟨h.ea,nQ h.eb,h.la,by omega,?_,YD.mpr ⟨s2.2.1,h.so,fun x hx y hy=>h.ob x (by simp[hx]) y hy⟩,fun x hx y hy=>?_,fun x hx y hy=>?_⟩
 ·refine List.Perm.trans (List.Perm.of_eq ?_) h.perm
  simp only[Yt]
 ·rcases YE.mp hy with hy | hy
  ·exact lt x hx y hy
  ·exact h.oa x hx y hy
 ·rcases YE.mp hy with hy | hy
  ·exact s2.2.2 x hx y hy
  ·exact h.ob x (by simp[hx]) y hy
theorem JH.NQ(sb:fF κ b)(h:JH κ a b rev na nb [] pb):pF κ a b ([]++pb++rev):=⟨h.perm,by
 rw[aaJ];exact YD.mpr ⟨sb.take h.eb,h.so,h.ob⟩⟩
theorem JH.NP(sa:fF κ a)(sb:fF κ b)(h:JH κ a b rev na nb pa pb)(lt:∀ x∈pb,∀ y∈pa,O.blt (κ x) (κ y)=true):pF κ a b (pb++pa++rev):=by
 refine⟨List.Perm.trans (aag.append_right _) h.perm,?_⟩;refine YD.mpr ⟨YD.mpr ⟨sb.take h.eb,sa.take h.ea,lt⟩,h.so,fun x hx y hy=>?_⟩;rcases YE.mp hx with hx | hx
 ·exact h.ob x hx y hy
 ·exact h.oa x hx y hy
end
section
variable {prog:Program}{w:World}{A:Around}{E:Value→Shared→Prop}{s:Shared}{a0:Array Keyed}{kd:SortKind}{st:SortSt}{O:KeyOrd}{κ:Keyed→O.α}{d0:O.α}
theorem gi{a:Array Keyed}{n:Nat}{x:Keyed}{r:List Keyed}(h:a.toList.take n=r++[x])(l:n≤a.toList.length):a[n-1]? = some x∧n=r.length+1:=by
 have hl:=ZM List.length h;rw[YG,ZF l,Yo]at hl;have hl:n=r.length+1:=hl;refine⟨?_,hl⟩;have e:(a.toList.take n)[n-1]? = some x:=by rw[h,hl];simp
 rw[ZZ (by omega),YK]at e;exact e
theorem gq{l:List Keyed}(h:1≤l.length):∃ l' x,l=l'++[x]:=by
 rcases aba l with e | ⟨l',x,e⟩
 ·rw[e]at h;exact absurd h (by decide)
 ·exact⟨l',x,by rw[e,abb]⟩
theorem fF.tail{x y:Keyed}{r:List Keyed}(h:fF κ (r++[x]))(l:O.blt (κ x) (κ y)=true):∀ z∈r++[x],O.blt (κ z) (κ y)=true:=fun z hz=>by
 rcases YE.mp hz with hz | hz
 ·exact O.trans _ _ _ ((YD.mp h).2.2 z hz x (by simp)) l
 ·rw[YA.mp hz];exact l
abbrev rv(out:Array Keyed):List Keyed:=out.toList.reverse
theorem rj(out:Array Keyed)(x:Keyed):rv (out.push x)=x::rv out:=by show(out.push x).toList.reverse=_;rw[aaA,List.reverse_append];rfl
theorem qc(out e:Array Keyed):rv (out++e.reverse)=e.toList++rv out:=by show(out++e.reverse).toList.reverse=_;rw[Zc,List.reverse_append,abf,List.reverse_reverse]
theorem JH.fV{a b:List Keyed}{out:Array Keyed}{na nb:Nat}{x:Keyed}{pa pb:List Keyed}(sa:fF κ a)(h:JH κ a b (rv out) na nb (pa++[x]) pb)(lt:∀ y∈pb,O.blt (κ y) (κ x)=true):JH κ a b (rv (out.push x)) (na-1) nb pa pb:=by
 rw[rj];have:=JH.nR sa h fun y hy z hz=>by rw[YA.mp hz];exact lt y hy
 have hl:=h.cJ.1;rw[Yo]at hl;have hl:pa.length+1=na:=hl;rw[show na-1=pa.length by omega];exact this
theorem JH.jZ{a b:List Keyed}{out:Array Keyed}{na nb:Nat}{x:Keyed}{pa pb:List Keyed}(sb:fF κ b)(h:JH κ a b (rv out) na nb pa (pb++[x]))(lt:∀ y∈pa,O.blt (κ y) (κ x)=true):JH κ a b (rv (out.push x)) na (nb-1) pa pb:=by
 rw[rj];have:=JH.jQ sb h fun y hy z hz=>by rw[YA.mp hz];exact lt y hy
 have hl:=h.cJ.2;rw[Yo]at hl;have hl:pb.length+1=nb:=hl;rw[show nb-1=pb.length by omega];exact this
theorem jE{a:Array Keyed}{n:Nat}{p:List Keyed}(h:a.toList.take n=p):(a.extract 0 n).toList=p:=by
 rw[ZU,ZE,aam,Nat.sub_zero,h]
theorem nc{a:Array Keyed}{k n:Nat}{p:List Keyed}(h:a.toList.take n=p):(a.extract k n).toList=p.drop k:=by
 rw[ZU,ZE,← h,List.drop_take]
structure LH(κ:Keyed→O.α)(a b out:Array Keyed)(na nb:Nat)(pa pb:List Keyed):Prop where
 jh:JH κ a.toList b.toList (rv out) na nb pa pb
 la:1≤pa.length
 lb:2≤pb.length
theorem LH.len{a b out:Array Keyed}{na nb:Nat}{pa pb:List Keyed}(h:LH κ a b out na nb pa pb):out.size+pa.length+pb.length=a.size+b.size:=by
 have:=h.jh.perm.length_eq;simp only[Yo,List.length_reverse,Yu]at this;omega
theorem tI{a b:Array Keyed}{a':List Keyed}{z:Keyed}{Q:Array Keyed→SortSt→Prop}(L:jt (model prog w) A s kd a0 O κ)(hk:kindOf st=kd)(M:Dh κ a0 a.toList b.toList)(hz:a.toList=a'++[z])(hl:∀ y∈b.toList,O.blt (κ y) (κ z)=true)(hb:1≤b.size)(hf:∀ x y,b[0]? = some x→y∈a.toList→O.blt (κ x) (κ y)=true)
  (q:∀ m g,pF κ a.toList b.toList m.toList→Q m (setG st g)):wpS (model prog w) A E s (oI a b) Q st:=by
 obtain⟨b0,IK,xh⟩:∃ x r,b.toList=x::r:=by
  cases e:b.toList with
  | nil=>have:=ZM List.length e;rw[Yu]at this;simp at this;rw[this]at hb;exact absurd hb (by decide)
  | cons x r=>exact⟨x,r,rfl⟩
 have uv:b[0]? = some b0:=by rw[← YK,xh];rfl
 have BU:a.size=a'.length+1:=by rw[← Yu,hz,Yo];rfl
 have RB:a[a.size-1]? = some z:=by rw[← YK,hz,BU];simp
 have Px:=M.sa;rw[hz]at Px;have J0:JH κ a.toList b.toList (rv #[z]) (a.size-1) b.size a' b.toList:=⟨by rw[hz,BU];simp,by rw[← Yu,List.take_length],by rw[Yu];omega,by rw[Yu];exact Yz _,by
  show(a'++b.toList++[z]).Perm _
  rw[hz,Yt,Yt];exact aah _ aag,aax _ _,fun x hx y hy=>by
  rw[YA.mp (show y∈[z]from hy)];exact(YD.mp Px).2.2 x hx z (by simp),fun x hx y hy=>by
  rw[YA.mp (show y∈[z]from hy)];exact hl x hx⟩
 have eB:∀{out:Array Keyed} {na nb:Nat} {pa pb:List Keyed},JH κ a.toList b.toList (rv out) na nb pa pb→na=0→pF κ a.toList b.toList (a.extract 0 na++b.extract 0 nb++out.reverse).toList:=fun {out na nb pa pb} j e=>by
  have ep:pa=[]:=ZH (by rw[j.cJ.1,e]);rw[Zc,Zc,jE j.ea,jE j.eb,abf,ep];rw[ep]at j;exact j.NQ M.sb
 have eF:∀{out:Array Keyed} {na nb:Nat} {pa pb:List Keyed},JH κ a.toList b.toList (rv out) na nb pa pb→nb=1→pF κ a.toList b.toList (b.extract 0 nb++a.extract 0 na++out.reverse).toList:=fun {out na nb pa pb} j e=>by
  have ep:pb=[b0]:=by rw[← j.eb,e,xh];rfl
  rw[Zc,Zc,jE j.ea,jE j.eb,abf];refine j.NP M.sa M.sb fun x hx y hy=>?_;rw[ep]at hx;rw[YA.mp hx];refine hf b0 y uv ?_;rw[← j.ea]at hy;exact ZJ hy
 unfold oI;show wpS _ _ _ _ (_ >>= _) Q st
 refine Ys (abP (ZS ⟨rfl,?_⟩));refine Ys (bf RB ?_);refine aq (fun c=>?_) (fun c1=>?_)
 ·have c:a.size-1=0:=eq_of_beq c
  exact Yv (by have:=q _ (gallopOf st) (eB (out:=#[z]) J0 c);exact this)
 refine aq (fun c=>?_) (fun c2=>?_)
 ·have c:b.size=1:=eq_of_beq c
  exact Yv (by have:=q _ (gallopOf st) (eF (out:=#[z]) J0 c);exact this)
 have c1:¬a.size-1=0:=fun z=>c1 (YW.mpr z);have c2:¬b.size=1:=fun z=>c2 (YW.mpr z);have V0:LH κ a b #[z] (a.size-1) b.size a' b.toList:=⟨J0,by omega,by rw[Yu];omega⟩;refine Ys (aaZ ?_);refine Ys (Z9 (Q:=fun c aR=>∃ m g,c.1=some m∧aR=setG st g∧pF κ a.toList b.toList m.toList) (Zj (fun t c aR=>∃ na nb out g g' pa pb,c=(none,na,nb,out,g)∧aR=setG st g'∧LH κ a b out na nb pa pb∧t+1≤out.size) (fun t c bR t1 t2 hI=>?_) (fun c bR hI=>?_) ⟨_,_,#[z],_,gallopOf st,_,_,rfl,rfl,V0,Yz _⟩) ?_)
 ·obtain⟨na,nb,out,g,g',pa,pb,rfl,rfl,V,tl⟩:=hI
  refine Ys (Z9 (Q:=fun c aR=>aR=setG st g'∧((∃ m,c.1=some m∧pF κ a.toList b.toList m.toList)∨∃ na nb out ac bc pa pb,c=(none,na,nb,out,ac,bc)∧LH κ a b out na nb pa pb∧t+2≤out.size)) (Zj (fun u c aR=>aR=setG st g'∧∃ na nb out ac bc pa pb,c=(none,na,nb,out,ac,bc)∧LH κ a b out na nb pa pb∧t+1+u≤out.size) (fun u c bR u1 u2 hJ=>?_) (fun c bR hJ=>?_) ⟨rfl,na,nb,out,_,_,pa,pb,rfl,V,tl⟩) ?_)
  ·obtain⟨rfl,na,nb,out,ac,bc,pa,pb,rfl,V,ul⟩:=hJ
   obtain⟨l1,l2⟩:=V.jh.cJ;have la:=V.la;have lb:=V.lb;obtain⟨PV,x,rfl⟩:=gq la;obtain⟨iX,y,rfl⟩:=gq (show 1≤pb.length by omega);obtain⟨ha,ea⟩:=gi V.jh.ea V.jh.la;obtain⟨lZ,eb⟩:=gi V.jh.eb V.jh.lb;have ma:x∈a.toList:=Zd.mpr (Ze ha);have mb:y∈b.toList:=Zd.mpr (Ze lZ);have yO:=M.ne x ma y mb;rw[Yo]at la lb;have lb:2≤iX.length+1:=lb;show wpS _ _ _ _ (_ >>= _) _ _
   refine Ys (bf lZ ?_);refine Ys (bf ha ?_);refine Ys (yN L hk (M.mb y mb) (M.ma x ma) yO.symm ?_);refine aq (fun c=>?_) (fun c=>?_)
   ·refine Ys (bf ha ?_)
    have j:=V.jh.fV M.sa ((M.sb.take V.jh.eb).tail c);refine aq (fun c3=>?_) (fun c3=>?_)
    ·have c3:na-1=0:=eq_of_beq c3
     exact Yv ⟨rfl,.inl ⟨_,rfl,eB j c3⟩⟩
    ·have c3:¬na-1=0:=fun z=>c3 (YW.mpr z)
     have V':LH κ a b (out.push x) (na-1) nb PV (iX++[y]):=⟨j,by omega,V.lb⟩;refine aq (fun _=>?_) (fun _=>?_)
     ·exact Yv ⟨rfl,.inr ⟨_,_,_,_,_,_,_,rfl,V',(show t+2≤(out.push x).size by rw[YR];omega)⟩⟩
     ·exact Yv ⟨rfl,_,_,_,_,_,_,_,rfl,V',(show t+1+(u+1)≤(out.push x).size by rw[YR];omega)⟩
   ·refine Ys (bf lZ ?_)
    have j:=V.jh.jZ M.sb ((M.sa.take V.jh.ea).tail (jf yO.symm (by simpa using c)));refine aq (fun c3=>?_) (fun c3=>?_)
    ·have c3:nb-1=1:=eq_of_beq c3
     exact Yv ⟨rfl,.inl ⟨_,rfl,eF j c3⟩⟩
    ·have c3:¬nb-1=1:=fun z=>c3 (YW.mpr z)
     have V':LH κ a b (out.push y) na (nb-1) (PV++[x]) iX:=⟨j,V.la,by omega⟩;refine aq (fun _=>?_) (fun _=>?_)
     ·exact Yv ⟨rfl,.inr ⟨_,_,_,_,_,_,_,rfl,V',(show t+2≤(out.push y).size by rw[YR];omega)⟩⟩
     ·exact Yv ⟨rfl,_,_,_,_,_,_,_,rfl,V',(show t+1+(u+1)≤(out.push y).size by rw[YR];omega)⟩
  ·obtain⟨rfl,na,nb,out,ac,bc,pa,pb,rfl,V,ul⟩:=hJ
   exact⟨rfl,.inr ⟨na,nb,out,ac,bc,pa,pb,rfl,V,by have:=V.len;have:=V.la;omega⟩⟩
  clear V tl;rintro c bR ⟨rfl,⟨m,ec,ok⟩ | ⟨na,nb,out,ac,bc,pa,pb,rfl,V,tl⟩⟩
  ·obtain⟨c1,c2,c3,c4,c5,c6⟩:=c
   cases ec;exact Yv ⟨m,g',rfl,rfl,ok⟩
  refine Ys (abP (ZS ⟨rfl,?_⟩));refine Ys (Z9 (Q:=fun c aR=>(∃ m g,c.1=some m∧aR=setG st g∧pF κ a.toList b.toList m.toList)∨∃ na nb out g CG ac bc pa pb,c=(none,na,nb,out,g,ac,bc)∧aR=setG st CG∧LH κ a b out na nb pa pb∧t+2≤out.size) (Zj (fun u c aR=>∃ na nb out g CG ac bc pa pb,c=(none,na,nb,out,g,ac,bc)∧aR=setG st CG∧LH κ a b out na nb pa pb∧t+2≤out.size) (fun u c bR u1 u2 hJ=>?_) (fun c bR hJ=>?_) ⟨na,nb,out,_,g',_,_,pa,pb,rfl,rfl,V,tl⟩) ?_)
  ·clear V tl
   obtain⟨na,nb,out,g2,g3,ac,bc,pa,pb,rfl,rfl,V,tl⟩:=hJ;obtain⟨l1,l2⟩:=V.jh.cJ;have la:=V.la;have lb:=V.lb;obtain⟨iX,y,rfl⟩:=gq (show 1≤pb.length by omega);obtain⟨lZ,eb⟩:=gi V.jh.eb V.jh.lb;have mb:y∈b.toList:=Zd.mpr (Ze lZ);have F0:∀ x∈pa,x∈a.toList:=fun x hx=>by rw[← V.jh.ea]at hx;exact ZJ hx
   have Uw:na≤a.size:=by have:=V.jh.la;rw[Yu]at this;exact this
   rw[Yo]at lb;have lb:2≤iX.length+1:=lb;refine aq (fun _=>?_) (fun _=>?_)
   all_goals
    show wpS _ _ _ _ (_ >>= _) _ _
    refine Ys (aaj ?_);refine Ys (bf lZ ?_);refine Ys (je (arr:=a) (bs:=0) (n:=na) (hint:=na-1) (r:=pa) L hk (M.mb y mb) (by rw[aam];exact V.jh.ea) (by omega) (M.sa.take V.jh.ea) (fun x hx=>⟨M.ma x (F0 x hx),M.ne x (F0 x hx) y mb⟩) (by omega) fun k kn lo hi=>?_);refine aq (fun c=>?_) (fun c=>?_)
    ·have c:na-k > 0:=c
     obtain⟨bV,qJ⟩:∃ o,o=out++(a.extract k na).reverse:=⟨_,rfl⟩;have J1:JH κ a.toList b.toList (rv bV) k nb (pa.take k) (iX++[y]):=by
      have:=JH.nR (xs:=pa.drop k) (pa:=pa.take k) M.sa (by rw[YM];exact V.jh) fun y' yX x hx=>(M.sb.take V.jh.eb).tail (hi x hx) y' yX;rw[YG,ZF (by omega)]at this;rw[qJ,qc,nc V.jh.ea];exact this
     have JJ:t+2≤bV.size:=by rw[qJ,Z2];omega
     rw[← qJ];refine aq (fun c4=>?_) (fun c4=>?_)
     ·have c4:k=0:=eq_of_beq c4
      exact Yv (.inl ⟨_,_,rfl,rfl,eB J1 c4⟩)
     have c4:¬k=0:=fun z=>c4 (YW.mpr z);obtain⟨pM,wD⟩:∃ i,i=k:=⟨_,rfl⟩;obtain⟨Ds,oX⟩:∃ r,r=pa.take k:=⟨_,rfl⟩;have yQ:1≤Ds.length:=by rw[oX,YG];omega
     have lo1:∀ x∈Ds,O.blt (κ x) (κ y)=true:=by rw[oX];exact lo
     rw[← oX,← wD]at J1;rw[← wD];clear lo hi oX;show wpS _ _ _ _ (_ >>= _) _ _
     refine Ys (bf lZ ?_);have j2:=JH.jZ M.sb J1 lo1;obtain⟨l3,l4⟩:=j2.cJ;refine aq (fun c4=>?_) (fun c4=>?_)
     ·have c4:nb-1=1:=eq_of_beq c4
      exact Yv (.inl ⟨_,_,rfl,rfl,eF j2 c4⟩)
     have c4:¬nb-1=1:=fun z=>c4 (YW.mpr z);obtain⟨mO,x1,rfl⟩:=gq yQ;obtain⟨mY,NU⟩:=gi j2.ea j2.la;have tO:x1∈a.toList:=Zd.mpr (Ze mY);have vW:∀ x∈iX,x∈b.toList:=fun x hx=>by rw[← j2.eb]at hx;exact ZJ hx
     have Ux:nb-1≤b.size:=by have:=j2.lb;rw[Yu]at this;exact this
     refine Ys (bf mY ?_);refine Ys (je (arr:=b) (bs:=0) (n:=nb-1) (hint:=nb-1-1) (r:=iX) L hk (M.ma x1 tO) (by rw[aam];exact j2.eb) (by omega) (M.sb.take j2.eb) (fun x hx=>⟨M.mb x (vW x hx),fun e=>M.ne x1 tO x (vW x hx) e.symm⟩) (by omega) fun k2 I0 v5 qD=>?_);have ge1:∀ x'∈mO++[x1],∀ y'∈iX.drop k2,O.blt (κ x') (κ y')=true:=fun x' MB y' yX=>(M.sa.take j2.ea).tail (qD y' yX) x' MB;have Mu:1≤k2:=by
      rcases aaE k2 1 with c | c
      ·exfalso
       have e0:k2=0:=by omega
       have L5:b0∈iX:=by
        rw[← j2.eb,xh,show nb-1=(nb-1-1)+1 by omega,List.take_succ_cons];simp
       have h1:=qD b0 (by rw[e0,aam];exact L5);have h2:=hf b0 x1 uv tO;have h3:=O.trans _ _ _ h1 h2;rw[O.irrefl]at h3;cases h3
      ·exact c
     refine aq (fun c6=>?_) (fun c6=>?_)
     ·have c6:nb-1-k2 > 0:=c6
      have j3:JH κ a.toList b.toList (rv (bV.push y++(b.extract k2 (nb-1)).reverse)) pM k2 (mO++[x1]) (iX.take k2):=by
       have:=JH.jQ (xs:=iX.drop k2) (pb:=iX.take k2) M.sb (by rw[YM];exact j2) ge1;rw[YG,ZF (by omega)]at this;rw[qc,nc j2.eb];exact this
      refine aq (fun c7=>?_) (fun c7=>?_)
      ·have c7:k2=1:=eq_of_beq c7
       exact Yv (.inl ⟨_,_,rfl,rfl,eF j3 c7⟩)
      have c7:¬k2=1:=fun z=>c7 (YW.mpr z);refine aq (fun c8=>?_) (fun c8=>?_)
      ·exfalso
       have c8:k2=0:=eq_of_beq c8;omega
      have AN:t+2≤(bV.push y++(b.extract k2 (nb-1)).reverse).size:=by rw[Z2,YR];omega
      refine Ys (bf mY ?_);have j4:=JH.fV M.sa j3 v5;refine aq (fun c5=>?_) (fun c5=>?_)
      ·have c5:pM-1=0:=eq_of_beq c5
       exact Yv (.inl ⟨_,_,rfl,rfl,eB j4 c5⟩)
      ·have c5:¬pM-1=0:=fun z=>c5 (YW.mpr z)
       have V':LH κ a b ((bV.push y++(b.extract k2 (nb-1)).reverse).push x1) (pM-1) k2 mO (iX.take k2):=⟨j4,by have:=j4.cJ.1;omega,by have:=j4.cJ.2;omega⟩;have sz:t+2≤((bV.push y++(b.extract k2 (nb-1)).reverse).push x1).size:=by rw[YR];omega
       refine aq (fun _=>?_) (fun _=>?_)
       ·exact Yv (.inr ⟨_,_,_,_,_,_,_,_,_,rfl,rfl,V',sz⟩)
       ·exact Yv ⟨_,_,_,_,_,_,_,_,_,rfl,rfl,V',sz⟩
     ·have c6:k2=nb-1:=by have:¬nb-1-k2 > 0:=c6;omega
      have AN:t+2≤(bV.push y).size:=by rw[YR];omega
      have L9:∀ x∈iX,O.blt (κ x) (κ x1)=true:=fun x hx=>v5 x (by rw[YX (by omega)];exact hx);refine Ys (bf mY ?_);have j4:=JH.fV M.sa j2 L9;refine aq (fun c5=>?_) (fun c5=>?_)
      ·have c5:pM-1=0:=eq_of_beq c5
       exact Yv (.inl ⟨_,_,rfl,rfl,eB j4 c5⟩)
      ·have c5:¬pM-1=0:=fun z=>c5 (YW.mpr z)
       have V':LH κ a b ((bV.push y).push x1) (pM-1) (nb-1) mO iX:=⟨j4,by have:=j4.cJ.1;omega,by have:=j4.cJ.2;omega⟩;have sz:t+2≤((bV.push y).push x1).size:=by rw[YR];omega
       refine aq (fun _=>?_) (fun _=>?_)
       ·exact Yv (.inr ⟨_,_,_,_,_,_,_,_,_,rfl,rfl,V',sz⟩)
       ·exact Yv ⟨_,_,_,_,_,_,_,_,_,rfl,rfl,V',sz⟩
    ·have c:k=na:=by have:¬na-k > 0:=c;omega
     obtain⟨bV,qJ⟩:∃ o,o=out:=⟨_,rfl⟩;obtain⟨pM,wD⟩:∃ i,i=na:=⟨_,rfl⟩;obtain⟨Ds,oX⟩:∃ r,r=pa:=⟨_,rfl⟩;have J1:JH κ a.toList b.toList (rv bV) pM nb Ds (iX++[y]):=by rw[qJ,wD,oX];exact V.jh
     have yQ:1≤Ds.length:=by rw[oX];exact la
     have lo1:∀ x∈Ds,O.blt (κ x) (κ y)=true:=by rw[oX];exact fun x hx=>lo x (by rw[YX (by omega)];exact hx)
     have JJ:t+2≤bV.size:=by rw[qJ];exact tl
     rw[← qJ,← wD];clear lo hi oX;show wpS _ _ _ _ (_ >>= _) _ _
     refine Ys (bf lZ ?_);have j2:=JH.jZ M.sb J1 lo1;obtain⟨l3,l4⟩:=j2.cJ;refine aq (fun c4=>?_) (fun c4=>?_)
     ·have c4:nb-1=1:=eq_of_beq c4
      exact Yv (.inl ⟨_,_,rfl,rfl,eF j2 c4⟩)
     have c4:¬nb-1=1:=fun z=>c4 (YW.mpr z);obtain⟨mO,x1,rfl⟩:=gq yQ;obtain⟨mY,NU⟩:=gi j2.ea j2.la;have tO:x1∈a.toList:=Zd.mpr (Ze mY);have vW:∀ x∈iX,x∈b.toList:=fun x hx=>by rw[← j2.eb]at hx;exact ZJ hx
     have Ux:nb-1≤b.size:=by have:=j2.lb;rw[Yu]at this;exact this
     refine Ys (bf mY ?_);refine Ys (je (arr:=b) (bs:=0) (n:=nb-1) (hint:=nb-1-1) (r:=iX) L hk (M.ma x1 tO) (by rw[aam];exact j2.eb) (by omega) (M.sb.take j2.eb) (fun x hx=>⟨M.mb x (vW x hx),fun e=>M.ne x1 tO x (vW x hx) e.symm⟩) (by omega) fun k2 I0 v5 qD=>?_);have ge1:∀ x'∈mO++[x1],∀ y'∈iX.drop k2,O.blt (κ x') (κ y')=true:=fun x' MB y' yX=>(M.sa.take j2.ea).tail (qD y' yX) x' MB;have Mu:1≤k2:=by
      rcases aaE k2 1 with c | c
      ·exfalso
       have e0:k2=0:=by omega
       have L5:b0∈iX:=by
        rw[← j2.eb,xh,show nb-1=(nb-1-1)+1 by omega,List.take_succ_cons];simp
       have h1:=qD b0 (by rw[e0,aam];exact L5);have h2:=hf b0 x1 uv tO;have h3:=O.trans _ _ _ h1 h2;rw[O.irrefl]at h3;cases h3
      ·exact c
     refine aq (fun c6=>?_) (fun c6=>?_)
     ·have c6:nb-1-k2 > 0:=c6
      have j3:JH κ a.toList b.toList (rv (bV.push y++(b.extract k2 (nb-1)).reverse)) pM k2 (mO++[x1]) (iX.take k2):=by
       have:=JH.jQ (xs:=iX.drop k2) (pb:=iX.take k2) M.sb (by rw[YM];exact j2) ge1;rw[YG,ZF (by omega)]at this;rw[qc,nc j2.eb];exact this
      refine aq (fun c7=>?_) (fun c7=>?_)
      ·have c7:k2=1:=eq_of_beq c7
       exact Yv (.inl ⟨_,_,rfl,rfl,eF j3 c7⟩)
      have c7:¬k2=1:=fun z=>c7 (YW.mpr z);refine aq (fun c8=>?_) (fun c8=>?_)
      ·exfalso
       have c8:k2=0:=eq_of_beq c8;omega
      have AN:t+2≤(bV.push y++(b.extract k2 (nb-1)).reverse).size:=by rw[Z2,YR];omega
      refine Ys (bf mY ?_);have j4:=JH.fV M.sa j3 v5;refine aq (fun c5=>?_) (fun c5=>?_)
      ·have c5:pM-1=0:=eq_of_beq c5
       exact Yv (.inl ⟨_,_,rfl,rfl,eB j4 c5⟩)
      ·have c5:¬pM-1=0:=fun z=>c5 (YW.mpr z)
       have V':LH κ a b ((bV.push y++(b.extract k2 (nb-1)).reverse).push x1) (pM-1) k2 mO (iX.take k2):=⟨j4,by have:=j4.cJ.1;omega,by have:=j4.cJ.2;omega⟩;have sz:t+2≤((bV.push y++(b.extract k2 (nb-1)).reverse).push x1).size:=by rw[YR];omega
       refine aq (fun _=>?_) (fun _=>?_)
       ·exact Yv (.inr ⟨_,_,_,_,_,_,_,_,_,rfl,rfl,V',sz⟩)
       ·exact Yv ⟨_,_,_,_,_,_,_,_,_,rfl,rfl,V',sz⟩
     ·have c6:k2=nb-1:=by have:¬nb-1-k2 > 0:=c6;omega
      have AN:t+2≤(bV.push y).size:=by rw[YR];omega
      have L9:∀ x∈iX,O.blt (κ x) (κ x1)=true:=fun x hx=>v5 x (by rw[YX (by omega)];exact hx);refine Ys (bf mY ?_);have j4:=JH.fV M.sa j2 L9;refine aq (fun c5=>?_) (fun c5=>?_)
      ·have c5:pM-1=0:=eq_of_beq c5
       exact Yv (.inl ⟨_,_,rfl,rfl,eB j4 c5⟩)
      ·have c5:¬pM-1=0:=fun z=>c5 (YW.mpr z)
       have V':LH κ a b ((bV.push y).push x1) (pM-1) (nb-1) mO iX:=⟨j4,by have:=j4.cJ.1;omega,by have:=j4.cJ.2;omega⟩;have sz:t+2≤((bV.push y).push x1).size:=by rw[YR];omega
       refine aq (fun _=>?_) (fun _=>?_)
       ·exact Yv (.inr ⟨_,_,_,_,_,_,_,_,_,rfl,rfl,V',sz⟩)
       ·exact Yv ⟨_,_,_,_,_,_,_,_,_,rfl,rfl,V',sz⟩
  ·obtain⟨na,nb,out,g,g3,ac,bc,pa,pb,rfl,rfl,V,tl⟩:=hJ
   exact .inr ⟨na,nb,out,g,g3,ac,bc,pa,pb,rfl,rfl,V,tl⟩
  clear V tl;rintro c bR (⟨m,g3,ec,rfl,ok⟩ | ⟨na,nb,out,g2,g3,ac,bc,pa,pb,rfl,rfl,V,tl⟩)
  ·obtain⟨c1,c2,c3,c4,c5,c6,c7⟩:=c
   cases ec;exact Yv ⟨m,g3,rfl,rfl,ok⟩
  ·refine Ys (aaj ?_)
   exact Yv ⟨na,nb,out,_,_,pa,pb,rfl,rfl,V,by omega⟩
 ·exfalso
  obtain⟨na,nb,out,g,g',pa,pb,rfl,rfl,V,tl⟩:=hI;have:=V.len;have:=V.la;omega
 ·rintro c bR ⟨m,g,ec,rfl,ok⟩
  obtain⟨c1,c2⟩:=c;cases ec;exact Yv (q m g ok)
end
structure SP(a0:Array Keyed)(kd:SortKind)(p:Array (Nat×Nat×Nat))(st:SortSt):Prop where
 perm:(arrOf st).Perm a0
 kind:kindOf st=kd
 failed:failedOf st=none
 pend:pendingOf st=p
section
variable {O:KeyOrd}(κ:Keyed→O.α)(d0:O.α)
def SR(xs:Array Keyed)(lo n:Nat):Prop:=∀ i j,lo≤i→i < j→j < lo+n→O.blt (dv κ d0 xs i) (dv κ d0 xs j)=true
theorem SR.one(xs:Array Keyed)(lo:Nat):SR κ d0 xs lo 1:=fun i j h h' X4=>by omega
theorem SR.step{xs:Array Keyed}{lo n:Nat}(h:SR κ d0 xs lo n)(h1:1≤n)(l:O.blt (dv κ d0 xs (lo+n-1)) (dv κ d0 xs (lo+n))=true):SR κ d0 xs lo (n+1):=fun i j a b c=>by
 by_cases e:j=lo+n
 ·subst e
  by_cases e2:i=lo+n-1
  ·rw[e2];exact l
  ·exact O.trans _ _ _ (h i (lo+n-1) a (by omega) (by omega)) l
 ·exact h i j a b (by omega)
def FR(xs:Array Keyed)(lo n:Nat):Prop:=∀ i j,lo≤i→i < j→j < lo+n→O.blt (dv κ d0 xs j) (dv κ d0 xs i)=true
theorem FR.step{xs:Array Keyed}{lo n:Nat}(h:FR κ d0 xs lo n)(h1:1≤n)(l:O.blt (dv κ d0 xs (lo+n)) (dv κ d0 xs (lo+n-1))=true):FR κ d0 xs lo (n+1):=fun i j a b c=>by
 by_cases e:j=lo+n
 ·subst e
  by_cases e2:i=lo+n-1
  ·rw[e2];exact l
  ·exact O.trans _ _ _ l (h i (lo+n-1) a (by omega) (by omega))
 ·exact h i j a b (by omega)
theorem ub{xs:Array Keyed}{lo n:Nat}(hn:lo+n≤xs.size)(h:FR κ d0 xs lo n):SR κ d0 (mirror xs lo (lo+n) ((lo+n-lo) / 2)) lo n:=fun i j a b c=>by
 have key:∀ k,lo≤k→k < lo+n→dv κ d0 (mirror xs lo (lo+n) ((lo+n-lo) / 2)) k=dv κ d0 xs (lo+(lo+n)-1-k):=fun k h1 h2=>by
  unfold dv;rw[getElem?_mirror_all hn k,YV ⟨h1,h2⟩]
 rw[key i (by omega) (by omega),key j (by omega) (by omega)];exact h _ _ (by omega) (by omega) (by omega)
theorem SR.keep{xs ys:Array Keyed}{lo n:Nat}(h:SR κ d0 xs lo n)(e:∀ k,lo≤k→k < lo+n→ys[k]? = xs[k]?):SR κ d0 ys lo n:=fun i j a b c=>by
 have key:∀ k,lo≤k→k < lo+n→dv κ d0 ys k=dv κ d0 xs k:=fun k h1 h2=>by unfold dv;rw[e k h1 h2]
 rw[key i (by omega) (by omega),key j (by omega) (by omega)];exact h i j a b c
end
section
variable {prog:Program}{w:World}{A:Around}{E:Value→Shared→Prop}{s:Shared}{a0:Array Keyed}{kd:SortKind}{p:Array (Nat×Nat×Nat)}{st:SortSt}{O:KeyOrd}{κ:Keyed→O.α}{d0:O.α}
theorem SP.size(B:SP a0 kd p st):(arrOf st).size=a0.size:=B.perm.size_eq
theorem SP.arr(B:SP a0 kd p st){xs:Array Keyed}(h:xs.Perm (arrOf st)):SP a0 kd p (setArr st xs):=⟨h.trans B.perm,B.kind,B.failed,B.pend⟩
theorem SP.get(B:SP a0 kd p st){i:Nat}(h:i < a0.size):∃ x,(arrOf st)[i]? = some x∧x∈a0.toList:=by
 have h':i < (arrOf st).size:=by rw[B.size];exact h
 refine⟨(arrOf st)[i],by simp[h'],?_⟩;have:=B.perm;rw[Zf]at this;exact this.mem_iff.mp (by simp)
theorem ux.nP(D:ux κ a0)(B:SP a0 kd p st){i j:Nat}(hi:i < a0.size)(hj:j < a0.size)(n:i≠j):dv κ d0 (arrOf st) i≠dv κ d0 (arrOf st) j:=by
 have:=ux.ne (d0:=d0) (st:=SortSt.mk' (kindOf st) (arrOf st) #[] (gallopOf st) (failedOf st)) D ⟨B.perm,B.kind,B.failed,rfl⟩ hi hj n;exact this
theorem iY{i j:Nat}{Q:Option Bool→SortSt→Prop}(L:jt (model prog w) A s kd a0 O κ)(D:ux κ a0)(B:SP a0 kd p st)(hi:i < a0.size)(hj:j < a0.size)(TV:i≠j)(q:Q (some (O.blt (dv κ d0 (arrOf st) i) (dv κ d0 (arrOf st) j))) st):wpS (model prog w) A E s (ltAt' i j) Q st:=by
 obtain⟨x,ex,mx⟩:=B.get hi;obtain⟨y,ey,my⟩:=B.get hj;have nk:=D.nP (d0:=d0) B hi hj TV;rw[du κ d0 ex,du κ d0 ey]at q nk;rw[ltAt'_eq];refine Ys (aaZ ?_);dsimp only;refine Ys ?_;rw[elem'_eq,ex];refine Yv ?_;refine Ys ?_;rw[elem'_eq,ey];refine Yv ?_;rw[lt'_eq];refine Ys (aaZ ?_);rw[B.kind];refine Ys (abP (aar (L x mx y my nk _ _ ⟨rfl,?_⟩)));exact Yv q
theorem yq{lo lg:Nat}{Q:Option Nat→SortSt→Prop}(L:jt (model prog w) A s kd a0 O κ)(D:ux κ a0)(B:SP a0 kd p st)(h:lo+lg≤a0.size)(h1:1≤lg)(q:∀ m aR,SP a0 kd p aR→1≤m→m≤lg→SR κ d0 (arrOf aR) lo m→(∀ k,k < lo→(arrOf aR)[k]? =(arrOf st)[k]?)→Q (some m) aR):wpS (model prog w) A E s (countRun' lo lg) Q st:=by
 rw[countRun'_eq];dsimp only;refine Ys (Z9 (Q:=fun c aR=>∃ n,c=(none,n)∧st=aR∧1≤n∧n≤lg∧SR κ d0 (arrOf st) lo n∧(n < lg→O.blt (dv κ d0 (arrOf st) (lo+n)) (dv κ d0 (arrOf st) (lo+n-1))=true)) ?_ ?_)
 ·refine Zj (fun i c aR=>c=(none,i)∧st=aR∧1≤i∧SR κ d0 (arrOf st) lo i) (fun i c bR h1 h2 hI=>?_) (fun c bR hI=>?_) ⟨rfl,rfl,Yz _,SR.one κ d0 _ _⟩
  ·obtain⟨rfl,rfl,hi,so⟩:=hI
   dsimp only;refine Ys (iY (d0:=d0) L D B (by omega) (by omega) (by omega) ?_);dsimp only;split
   ·rename_i hb
    exact Yv ⟨i,rfl,rfl,by omega,by omega,so,fun _=>hb⟩
   ·rename_i hb
    exact Yv ⟨rfl,rfl,by omega,so.step κ d0 hi (jf (D.nP B (by omega) (by omega) (by omega)) (by simpa using hb))⟩
  ·obtain⟨rfl,rfl,hi,so⟩:=hI
   refine⟨_,rfl,rfl,hi,by omega,so,fun h=>?_⟩;omega
 rintro c bR ⟨n,rfl,rfl,n1,n2,so,br⟩;dsimp only;split
 ·exact Yv (q n st B n1 n2 so fun _ _=>rfl)
 rename_i Cs;have gC:n < lg:=by
  rcases aaE n lg with h | h
  ·exact h
  ·exact absurd (by simpa using Nat.le_antisymm n2 h) Cs
 have Vq:=br gC;split
 ·rename_i U7
  refine Ys (iY (d0:=d0) L D B (by omega) (by omega) (by omega) ?_);dsimp only;have hr:O.blt (dv κ d0 (arrOf st) lo) (dv κ d0 (arrOf st) (lo+n-1))=true:=so lo (lo+n-1) (Yz _) (by omega) (by omega);rw[YV hr];exact Yv (q n st B n1 n2 so fun _ _=>rfl)
 ·rename_i U7
  have en:n=1:=by omega
  subst en;refine Ys (abP (ZS ⟨rfl,?_⟩));have f2:FR κ d0 (arrOf st) lo 2:=fun i j a b c=>by
   have e1:i=lo:=by omega
   have e2:j=lo+1:=by omega
   subst e1 e2;exact Vq
  refine Ys (Z9 (Q:=fun c aR=>∃ m,c=(none,m,0)∧st=aR∧2≤m∧m≤lg∧FR κ d0 (arrOf st) lo m) ?_ ?_)
  ·refine Zj (fun i c aR=>c=(none,i,0)∧st=aR∧2≤i∧FR κ d0 (arrOf st) lo i) (fun i c fO h1 h2 hI=>?_) (fun c fO hI=>?_) ⟨rfl,rfl,Yz _,f2⟩
   ·obtain⟨rfl,rfl,hi,fa⟩:=hI
    dsimp only;refine Ys (iY (d0:=d0) L D B (by omega) (by omega) (by omega) ?_);dsimp only;split
    ·rename_i hb
     rw[YN (by omega)];exact Yv ⟨rfl,rfl,by omega,fa.step κ d0 (by omega) hb⟩
    ·rename_i hb
     refine Ys (iY (d0:=d0) L D B (by omega) (by omega) (by omega) ?_);dsimp only;rw[YV (jf (D.nP B (by omega) (by omega) (by omega)) (by simpa using hb))];exact Yv ⟨i,rfl,rfl,hi,by omega,fa⟩
   ·obtain⟨rfl,rfl,hi,fa⟩:=hI
    exact⟨_,rfl,rfl,hi,by omega,fa⟩
  rintro c fO ⟨m,rfl,rfl,m1,m2,fa⟩;dsimp only;rw[YN (by omega)];refine Ys (wpS_reverse ?_);have B2:=B.arr (mirror_perm (arrOf st) lo (lo+m) ((lo+m-lo) / 2));have PD:SR κ d0 (arrOf (setArr st (mirror (arrOf st) lo (lo+m) ((lo+m-lo) / 2)))) lo m:=ub κ d0 (by rw[B.size];omega) fa;have kp:∀ k,k < lo→(arrOf (setArr st (mirror (arrOf st) lo (lo+m) ((lo+m-lo) / 2))))[k]? =(arrOf st)[k]? := fun k hk=>by
   show(mirror (arrOf st) lo (lo+m) ((lo+m-lo) / 2))[k]? = _
   rw[getElem?_mirror_all (by rw[B.size];omega) k,YN (by omega)]
  generalize setArr st (mirror (arrOf st) lo (lo+m) ((lo+m-lo) / 2))=fN at B2 PD kp ⊢;refine Ys (Z9 (Q:=fun c aR=>∃ n',c=(none,n')∧fN=aR∧1≤n'∧n'≤lg∧SR κ d0 (arrOf fN) lo n') ?_ ?_)
  ·refine Zj (fun i c aR=>c=(none,i)∧fN=aR∧1≤i∧SR κ d0 (arrOf fN) lo i) (fun i c fM h1 h2 hI=>?_) (fun c fM hI=>?_) ⟨rfl,rfl,by omega,PD⟩
   ·obtain⟨rfl,rfl,hi,so⟩:=hI
    dsimp only;refine Ys (iY (d0:=d0) L D B2 (by omega) (by omega) (by omega) ?_);dsimp only;split
    ·exact Yv ⟨i,rfl,rfl,by omega,by omega,so⟩
    ·rename_i hb
     exact Yv ⟨rfl,rfl,by omega,so.step κ d0 hi (jf (D.nP B2 (by omega) (by omega) (by omega)) (by simpa using hb))⟩
   ·obtain⟨rfl,rfl,hi,so⟩:=hI
    exact⟨_,rfl,rfl,hi,by omega,so⟩
  rintro c ja ⟨n5,rfl,rfl,Ub,Ua,Sd⟩;exact Yv (q n5 fN B2 Ub Ua Sd kp)
theorem sM{xs:Array Keyed}{lo k l:Nat}(hk:lo+k < xs.size)(hl:l≤k)(so:SR κ d0 xs lo k)(below:∀ i,i < l→O.blt (dv κ d0 xs (lo+i)) (dv κ d0 xs (lo+k))=true)(above:∀ i,l≤i→i < k→O.blt (dv κ d0 xs (lo+k)) (dv κ d0 xs (lo+i))=true):SR κ d0 (bubble xs (lo+k) (lo+k-(lo+l))) lo (k+1):=fun i j a b c=>by
 have e:lo+k-(lo+k-(lo+l))=lo+l:=by omega
 rw[kI hk (by omega) i,kI hk (by omega) j,e];by_cases ei:i=lo+l
 ·rw[YV ei,YN (show ¬j=lo+l by omega),YV ⟨by omega,by omega⟩]
  have:=above (j-1-lo) (by omega) (by omega);rw[show lo+(j-1-lo)=j-1 by omega]at this;exact this
 ·rw[YN ei]
  by_cases ii:lo+l < i∧i≤lo+k
  ·rw[YV ii,YN (show ¬j=lo+l by omega),YV ⟨by omega,by omega⟩]
   exact so (i-1) (j-1) (by omega) (by omega) (by omega)
  ·rw[YN ii]
   by_cases ej:j=lo+l
   ·rw[YV ej]
    have:=below (i-lo) (by omega);rw[show lo+(i-lo)=i by omega]at this;exact this
   ·rw[YN ej]
    by_cases jj:lo+l < j∧j≤lo+k
    ·rw[YV jj]
     exact so i (j-1) a (by omega) (by omega)
    ·rw[YN jj];exact so i j a b (by omega)
theorem FE{lo n ok:Nat}{Q:Bool→SortSt→Prop}(L:jt (model prog w) A s kd a0 O κ)(D:ux κ a0)(B:SP a0 kd p st)(h:lo+n≤a0.size)(h1:1≤ok)(bB:ok≤n)(so:SR κ d0 (arrOf st) lo ok)(q:∀ aR,SP a0 kd p aR→SR κ d0 (arrOf aR) lo n→(∀ k,k < lo→(arrOf aR)[k]? =(arrOf st)[k]?)→Q true aR):wpS (model prog w) A E s (binarySort' lo n ok) Q st:=by
 rw[binarySort'_eq];have em:max ok 1=ok:=by omega
 rw[em];refine Ys (Z9 (Q:=fun c aR=>c=(none,())∧SP a0 kd p aR∧SR κ d0 (arrOf aR) lo n∧∀ k,k < lo→(arrOf aR)[k]? =(arrOf st)[k]?) ?_ ?_)
 ·refine Zj (fun i c aR=>c=(none,())∧SP a0 kd p aR∧SR κ d0 (arrOf aR) lo i∧∀ k,k < lo→(arrOf aR)[k]? =(arrOf st)[k]?) (fun i c bR h1 h2 hI=>?_) (fun c bR hI=>?_) ⟨rfl,B,so,fun _ _=>rfl⟩
  ·obtain⟨rfl,B1,zE,Ge⟩:=hI
   dsimp only;refine Ys (Z9 (Q:=fun c aR=>(∃ l r,c=(none,l,r)∧r≤l∧l≤i∧(∀ j,j < l→O.blt (dv κ d0 (arrOf bR) (lo+j)) (dv κ d0 (arrOf bR) (lo+i))=true)∧(∀ j,l≤j→j < i→O.blt (dv κ d0 (arrOf bR) (lo+i)) (dv κ d0 (arrOf bR) (lo+j))=true))∧bR=aR) ?_ ?_)
   ·refine Zj (fun t c aR=>(∃ l r,c=(none,l,r)∧l≤r∧r≤i∧r-l≤i-t∧(∀ j,j < l→O.blt (dv κ d0 (arrOf bR) (lo+j)) (dv κ d0 (arrOf bR) (lo+i))=true)∧(∀ j,r≤j→j < i→O.blt (dv κ d0 (arrOf bR) (lo+i)) (dv κ d0 (arrOf bR) (lo+j))=true))∧bR=aR) (fun t c fO j1 j2 hJ=>?_) (fun c fO hJ=>?_) ⟨⟨0,i,rfl,ZL _,Yz _,Yz _,fun j hj=>absurd hj (abM _),fun j a b=>absurd b (by omega)⟩,rfl⟩
    ·obtain⟨⟨l,r,rfl,lr,hr,hm,kN,fE⟩,rfl⟩:=hJ
     dsimp only;split
     ·rename_i Jm
      exact Yv ⟨⟨l,r,rfl,Jm,by omega,kN,fun j a b=>fE j (by omega) b⟩,rfl⟩
     ·rename_i Jm
      refine Ys (iY (d0:=d0) L D B1 (by omega) (by omega) (by omega) ?_);dsimp only;split
      ·rename_i hb
       refine Yv ⟨⟨l,(l+r) / 2,rfl,by omega,by omega,by omega,kN,fun j a b=>?_⟩,rfl⟩;by_cases e:j=(l+r) / 2
       ·rw[e];exact hb
       ·exact O.trans _ _ _ hb (zE (lo+(l+r) / 2) (lo+j) (by omega) (by omega) (by omega))
      ·rename_i hb
       have lZ:=jf (D.nP (d0:=d0) B1 (by omega) (by omega) (by omega)) (show O.blt (dv κ d0 (arrOf bR) (lo+i)) (dv κ d0 (arrOf bR) (lo+(l+r) / 2))=false by simpa using hb);refine Yv ⟨⟨(l+r) / 2+1,r,rfl,by omega,hr,by omega,fun j a=>?_,fE⟩,rfl⟩;by_cases e:j=(l+r) / 2
       ·rw[e];exact lZ
       ·exact O.trans _ _ _ (zE (lo+j) (lo+(l+r) / 2) (by omega) (by omega) (by omega)) lZ
    ·obtain⟨⟨l,r,rfl,lr,hr,hm,kN,fE⟩,rfl⟩:=hJ
     exact⟨⟨l,r,rfl,by omega,by omega,kN,fun j a b=>fE j (by omega) b⟩,rfl⟩
   ·rintro c fO ⟨⟨l,r,rfl,rl,hl,kN,fE⟩,rfl⟩
    dsimp only;rw[moveDown'_eq];refine Ys (aaj ?_);refine Yv ⟨rfl,B1.arr (bubble_perm _ _ _),sM (by rw[B1.size];omega) hl zE kN fE,fun k hk=>?_⟩;show(bubble (arrOf bR) (lo+i) (lo+i-(lo+l)))[k]? = _
    rw[getElem?_bubble (by rw[B1.size];omega) _ (by omega) k,YN (by omega),YN (by omega)];exact Ge k hk
  ·obtain⟨rfl,B1,zE,Ge⟩:=hI
   rw[abB bB]at zE;exact⟨rfl,B1,zE,Ge⟩
 ·rintro c bR ⟨rfl,B1,zE,Ge⟩
  exact Yv (q bR B1 zE Ge)
end
theorem jL{b:Nat}:∀(m:List Keyed) (t:Nat) (pre mid post:List Keyed) (arr:Array Keyed),arr.toList=pre++mid++post→mid.length=m.length→b+t=pre.length→((m.zipIdx t).foldl (fun(a:Array Keyed) (x:Keyed×Nat)=>a.setIfInBounds (b+x.2) x.1) arr).toList=pre++m++post
 | [],t,pre,mid,post,arr,e,l,h=>by
  have:mid=[]:=ZH l;rw[aaH,List.foldl_nil,e,this]
 | x::r,t,pre,mid,post,arr,e,l,h=>by
  cases mid with
  | nil=>cases l
  | cons y mid=>
   rw[aaF,List.foldl_cons];have:=jL (b:=b) r (t+1) (pre++[x]) mid post (arr.setIfInBounds (b+t) x) (by
    rw[abO,e,h,Yt,Yt,List.set_append_right _ _ (Yz _),aa7,ZO,List.set_cons_zero];simp only[Yt,ZO,aaJ]) (by simpa using l) (by rw[Yo];show b+(t+1)=pre.length+1;omega)
   rw[this];simp only[Yt,ZO,aaJ]
section
variable {O:KeyOrd}{κ:Keyed→O.α}{d0:O.α}
theorem jx{xs:Array Keyed}{P R S:List Keyed}(e:xs.toList=P++R++S):SR κ d0 xs P.length R.length↔fF κ R:=by
 have at_:∀ i,(h:i < R.length)→dv κ d0 xs (P.length+i)=κ R[i]:=fun i h=>by
  refine du κ d0 ?_;rw[← YK,e,Yt,YT (Z6 _ _),Z4,Y6 h,YJ h]
 constructor
 ·intro h
  refine ZQ.mpr fun i j hi hj zP=>?_;have:=h (P.length+i) (P.length+j) (by omega) (by omega) (by omega);rw[at_ i hi,at_ j hj]at this;exact this
 ·intro h i j a b c
  have:=ZQ.mp h (i-P.length) (j-P.length) (by omega) (by omega) (by omega);rw[← at_ (i-P.length) (by omega),← at_ (j-P.length) (by omega),show P.length+(i-P.length)=i by omega,show P.length+(j-P.length)=j by omega]at this;exact this
theorem tU{P R R' S:List Keyed}{j:Nat}(l:R.length=R'.length)(h:j < P.length∨P.length+R.length≤j):(P++R++S)[j]? =(P++R'++S)[j]? := by
 rcases h with h | h
 ·rw[Yt,Yt,Y6 h,Y6 h]
 ·rw[YT (by rw[Yo];exact h),YT (by rw[Yo,← l];exact h),Yo,Yo,l]
theorem Ob(l:List Keyed)(i n:Nat)(h:i+n≤l.length):∃ P R S,l=P++R++S∧P.length=i∧R.length=n:=by
 refine⟨l.take i,(l.drop i).take n,(l.drop i).drop n,?_,by rw[YG];omega,by rw[YG,Y3];omega⟩;rw[Yt,YM,YM]
end
section
variable {prog:Program}{w:World}{A:Around}{E:Value→Shared→Prop}{s:Shared}{a0:Array Keyed}{kd:SortKind}{p:Array (Nat×Nat×Nat)}{st:SortSt}{O:KeyOrd}{κ:Keyed→O.α}{d0:O.α}
theorem xk{x:SortSt}{M:Model}{Q:PUnit→SortSt→Prop}(h:Q ⟨⟩ x):wpS M A E s (set x:StateT SortSt Sem PUnit) Q st:=by
 unfold wpS;rw[StateT.run_set];exact Yp ⟨rfl,h⟩
theorem tu{i sa na pw sb nb IL:Nat}{Q:Bool→SortSt→Prop}(L:jt (model prog w) A s kd a0 O κ)(D:ux κ a0)(B:SP a0 kd p st)(h1:p[i]? = some (sa,na,pw))(h2:p[i+1]? = some (sb,nb,IL))(es:sb=sa+na)(n1:1≤na)(n2:1≤nb)(hz:sb+nb≤a0.size)(s1:SR κ d0 (arrOf st) sa na)(s2:SR κ d0 (arrOf st) sb nb)
  (q:∀ aR,SP a0 kd ((p.setIfInBounds i (sa,na+nb,pw)).eraseIdxIfInBounds (i+1)) aR→SR κ d0 (arrOf aR) sa (na+nb)→(∀ k,k < sa∨sa+na+nb≤k→(arrOf aR)[k]? =(arrOf st)[k]?)→Q true aR):wpS (model prog w) A E s (mergeAt' i) Q st:=by
 obtain⟨P,R,S,ex,lP,lR⟩:=Ob (arrOf st).toList sa (na+nb) (by rw[Yu,B.size];omega);obtain⟨R1,R2,eR,l1,l2⟩:∃ R1 R2,R=R1++R2∧R1.length=na∧R2.length=nb:=⟨R.take na,R.drop na,(YM _ _).symm,by rw[YG];omega,by rw[Y3];omega⟩;subst eR;have S1:fF κ R1:=(jx (d0:=d0) (P:=P) (R:=R1) (S:=R2++S) (by rw[ex];simp only[Yt])).mp (by rw[lP,l1];exact s1);have S2:fF κ R2:=(jx (d0:=d0) (P:=P++R1) (R:=R2) (S:=S) (by rw[ex];simp only[Yt])).mp (by rw[Yo,lP,l1,l2,← es];exact s2);have pm:=Zf.mp B.perm;have mem:∀ x∈R1++R2,x∈a0.toList:=fun x hx=>pm.mem_iff.mp (by rw[ex];simp only[YE]at hx ⊢;exact .inl (.inr hx));have nd:((R1++R2).map κ).Nodup:=by
  have:((arrOf st).toList.map κ).Nodup:=(pm.map κ).nodup_iff.mpr D;rw[ex,YH,YH]at this;exact(ZY.mp (ZY.mp this).1).2.1
 have ne:∀ x∈R1,∀ y∈R2,κ x≠κ y:=fun x hx y hy=>by
  rw[YH]at nd;exact(ZY.mp nd).2.2 (κ x) (List.mem_map_of_mem hx) (κ y) (List.mem_map_of_mem hy)
 have Yj:(arrOf st).size=a0.size:=B.size;obtain⟨y0,Yk,Jw⟩:∃ y r,R2=y::r:=by
  cases e:R2 with
  | nil=>rw[e]at l2;simp at l2;omega
  | cons y r=>exact⟨y,r,rfl⟩
 obtain⟨DP,xl,CK⟩:=gq (show 1≤R1.length by omega);have JF:(arrOf st)[sb]? = some y0:=by
  rw[← YK,ex,Jw,es,← lP,← l1];simp
 have dA:((arrOf st).toList.drop sa).take na=R1:=by
  rw[ex,← lP,Yt,aaB,Yt,← l1];exact aaI rfl
 have dB:((arrOf st).toList.drop sb).take nb=R2:=by
  have:(arrOf st).toList=(P++R1)++(R2++S):=by rw[ex];simp only[Yt]
  rw[this,show sb=(P++R1).length by rw[Yo,lP,l1,es],aaB,← l2];exact aaI rfl
 have Al:y0∈R2:=by rw[Jw];simp
 have hp:(sortPriv% PySem.Builtin.SortState.pending) st=p:=B.pend;unfold mergeAt';show wpS _ _ _ _ (_ >>= _) Q st
 refine Ys (aaZ ?_);rw[hp,h1,h2];show wpS _ _ _ _ (_ >>= _) Q st
 obtain⟨p',DK⟩:∃ p',p'=(p.setIfInBounds i (sa,na+nb,pw)).eraseIdxIfInBounds (i+1):=⟨_,rfl⟩;rw[← DK]at q;refine Ys (xk ?_);have BP:SP a0 kd p' (SortSt.mk' (kindOf st) (arrOf st) p' (gallopOf st) (failedOf st)):=⟨B.perm,B.kind,B.failed,rfl⟩;rw[← DK];have q0:SR κ d0 (arrOf st) sa (na+nb)→Q true (SortSt.mk' (kindOf st) (arrOf st) p' (gallopOf st) (failedOf st)):=fun h=>q _ BP h fun _ _=>rfl;obtain⟨bR,wB⟩:∃ bR:SortSt,bR=SortSt.mk' (kindOf st) (arrOf st) p' (gallopOf st) (failedOf st):=⟨_,rfl⟩;have NU:arrOf bR=arrOf st:=by rw[wB]
 have Hm:kindOf bR=kd:=by rw[wB];exact B.kind
 have VY:pendingOf bR=p':=by rw[wB]
 have V3:failedOf bR=none:=by rw[wB];exact B.failed
 show wpS _ _ _ _ _ Q (SortSt.mk' (kindOf st) (arrOf st) p' (gallopOf st) (failedOf st))
 rw[← wB]at q0 ⊢;refine Ys (bf JF ?_);refine Ys (je (arr:=arrOf st) (bs:=sa) (n:=na) (hint:=0) (r:=R1) L Hm (mem y0 (by simp[Al])) dA (by omega) S1 (fun x hx=>⟨mem x (by simp[hx]),ne x hx y0 Al⟩) (by omega) fun k kn lo hi=>?_);have L8:∀ y∈R2,y=y0∨O.blt (κ y0) (κ y)=true:=fun y hy=>by
  rw[Jw]at hy S2;rcases Yq.mp hy with h | h
  ·exact .inl h
  ·exact .inr ((aad.mp S2).1 y h)
 have qw:∀ x∈R1.take k,∀ y∈R2,O.blt (κ x) (κ y)=true:=fun x hx y hy=>by
  rcases L8 y hy with h | h
  ·rw[h];exact lo x hx
  ·exact O.trans _ _ _ (lo x hx) h
 refine aq (fun c=>?_) (fun c=>?_)
 ·have c:na-k=0:=eq_of_beq c
  refine Yv (q0 ?_);have:fF κ (R1++R2):=YD.mpr ⟨S1,S2,fun x hx y hy=>qw x (by rw[YX (by omega)];exact hx) y hy⟩;have:=(jx (d0:=d0) ex).mpr this;rw[lP,lR]at this;exact this
 have c:¬na-k=0:=fun z=>c (YW.mpr z);have DT:xl∈R1.drop k:=by
  have:R1.drop k=DP.drop k++[xl]:=by rw[CK,Z7];rw[CK,Yo]at l1;have:DP.length+1=na:=l1;omega
  rw[this];simp
 have JG:(arrOf st)[sa+k+(na-k)-1]? = some xl:=by
  rw[← YK,ex,show sa+k+(na-k)-1=sa+(na-1)by omega,← lP,Yt,YT (Z6 _ _),Z4,Yt,Y6 (by omega),CK];rw[CK,Yo]at l1;have l1:DP.length+1=na:=l1;rw[show na-1=DP.length by omega];simp
 have O6:xl∈R1:=Zn DT;refine Ys (bf JG ?_);refine Ys (je (arr:=arrOf st) (bs:=sb) (n:=nb) (hint:=nb-1) (r:=R2) L Hm (mem xl (by simp[O6])) dB (by omega) S2 (fun y hy=>⟨mem y (by simp[hy]),fun e=>ne xl O6 y hy e.symm⟩) (by omega) fun k2 I0 v5 qD=>?_);have RC:O.blt (κ y0) (κ xl)=true:=hi xl DT;have Mu:1≤k2:=by
  rcases aaE k2 1 with z | z
  ·exfalso
   have h1:=qD y0 (by rw[show k2=0 by omega,aam];exact Al);have h3:=O.trans _ _ _ h1 RC;rw[O.irrefl]at h3;cases h3
  ·exact z
 refine aq (fun c3=>?_) (fun c3=>?_)
 ·exfalso
  have c3:k2=0:=eq_of_beq c3;omega
 have CP:(arrOf st).toList=(P++R1.take k)++(R1.drop k++R2.take k2)++(R2.drop k2++S):=by
  rw[ex]
  conv=>lhs;rw[← YM k R1,← YM k2 R2]
  simp only[Yt]
 have BS:(P++R1.take k).length=sa+k:=by rw[Yo,lP,YG];omega
 have P9:(R1.drop k).length=na-k:=by rw[Y3,l1]
 have L6:(R2.take k2).length=k2:=by rw[YG];omega
 have Jv:((arrOf st).extract (sa+k) sb).toList=R1.drop k:=by
  rw[ZU,ZE,CP,← BS,Yt,aaB,Yt,show sb-(P++R1.take k).length=(R1.drop k).length by rw[BS,P9];omega];exact aaI rfl
 have Hk:((arrOf st).extract sb (sb+k2)).toList=R2.take k2:=by
  have:(arrOf st).toList=(P++R1)++(R2.take k2++(R2.drop k2++S)):=by
   rw[ex]
   conv=>lhs;rw[← YM k2 R2]
   simp only[Yt]
  rw[ZU,ZE,this,show sb=(P++R1).length by rw[Yo,lP,l1,es],aaB,Z4];exact aaI L6
 have Qj:((arrOf st).extract (sa+k) sb).toList=DP.drop k++[xl]:=by
  rw[Jv,CK,Z7];rw[CK,Yo]at l1;have:DP.length+1=na:=l1;omega
 have MP:Dh κ a0 ((arrOf st).extract (sa+k) sb).toList ((arrOf st).extract sb (sb+k2)).toList:=by
  rw[Jv,Hk];exact⟨S1.drop rfl,S2.take rfl,fun x hx=>mem x (by simp[Zn hx]),fun x hx=>mem x (by simp[ZJ hx]),fun x hx y hy=>ne x (Zn hx) y (ZJ hy)⟩
 have Qx:∀ y∈((arrOf st).extract sb (sb+k2)).toList,O.blt (κ y) (κ xl)=true:=by rw[Hk];exact v5
 have QH:1≤((arrOf st).extract sb (sb+k2)).size:=by rw[← Yu,Hk,L6];exact Mu
 have QA:∀ x y,((arrOf st).extract sb (sb+k2))[0]? = some x→y∈((arrOf st).extract (sa+k) sb).toList→O.blt (κ x) (κ y)=true:=fun x y hx hy=>by
  rw[Jv]at hy;rw[← YK,Hk,ZZ (by omega),Jw]at hx;cases hx;exact hi y hy
 have fin:∀(m:Array Keyed) (g:Nat),pF κ ((arrOf st).extract (sa+k) sb).toList ((arrOf st).extract sb (sb+k2)).toList m.toList→Q (failedOf bR).isNone (SortSt.mk' (kindOf bR) (m.toList.zipIdx.foldl (fun(a:Array Keyed) (x:Keyed×Nat)=>a.setIfInBounds (sa+k+x.2) x.1) (arrOf bR)) (pendingOf bR) g (failedOf bR)):=fun m g ok=>by
  rw[V3,VY,NU];rw[Jv,Hk]at ok;have wl:=jL (b:=sa+k) m.toList 0 (P++R1.take k) (R1.drop k++R2.take k2) (R2.drop k2++S) (arrOf st) CP ok.perm.length_eq.symm (by rw[BS];rfl);generalize m.toList.zipIdx.foldl (fun(a:Array Keyed) (x:Keyed×Nat)=>a.setIfInBounds (sa+k+x.2) x.1) (arrOf st)=ar at wl ⊢;have O7:ar.toList=P++(R1.take k++m.toList++R2.drop k2)++S:=by rw[wl];simp only[Yt]
  have L4:m.toList.length=(na-k)+k2:=by rw[ok.perm.length_eq,Yo,P9,L6]
  have AV:(R1.take k++m.toList++R2.drop k2).length=na+nb:=by rw[Yo,Yo,L4,YG,Y3];omega
  refine q _ ⟨?_,Hm,rfl,rfl⟩ ?_ fun j hj=>?_
  ·rw[Zf]
   refine List.Perm.trans ?_ pm;rw[show arrOf (SortSt.mk' (kindOf bR) ar p' g none)=ar from rfl,wl,CP];exact(aah _ ok.perm).append_right _
  ·have so:fF κ (R1.take k++m.toList++R2.drop k2):=by
    have hm:∀ x∈m.toList,x∈R1.drop k∨x∈R2.take k2:=fun x hx=>YE.mp (ok.perm.mem_iff.mp hx);have nK:=YD.mp (by rw[YM];exact S1:fF κ (R1.take k++R1.drop k));have PF:=YD.mp (by rw[YM];exact S2:fF κ (R2.take k2++R2.drop k2));refine YD.mpr ⟨YD.mpr ⟨nK.1,ok.so,fun x hx y hy=>?_⟩,PF.2.1,fun x hx y hy=>?_⟩
    ·rcases hm y hy with h | h
     ·exact nK.2.2 x hx y h
     ·exact qw x hx y (ZJ h)
    ·rcases YE.mp hx with hx | hx
     ·exact qw x hx y (Zn hy)
     ·rcases hm x hx with h | h
      ·have UO:x=xl∨O.blt (κ x) (κ xl)=true:=by
        have yY:=Zn h;rw[CK]at yY S1;rcases YE.mp yY with z | z
        ·exact .inr ((YD.mp S1).2.2 x z xl (by simp))
        ·exact .inl (YA.mp z)
       rcases UO with z | z
       ·rw[z];exact qD y hy
       ·exact O.trans _ _ _ z (qD y hy)
      ·exact PF.2.2 x h y hy
   have:=(jx (d0:=d0) O7).mpr so;rw[lP,AV]at this;exact this
  ·show ar[j]? = _
   rw[← YK,← YK,O7,ex];exact tU (by rw[AV,lR]) (by rw[lP,AV];omega)
 refine aq (fun _=>?_) (fun _=>?_)
 ·refine Ys (tG L Hm MP Qj Qx QH QA fun m g ok=>?_)
  show wpS _ _ _ _ (_ >>= _) Q _
  refine Ys (aaj ?_);refine Ys (aaZ ?_);refine Yv ?_;exact fin m g ok
 ·refine Ys (tI L Hm MP Qj Qx QH QA fun m g ok=>?_)
  show wpS _ _ _ _ (_ >>= _) Q _
  refine Ys (aaj ?_);refine Ys (aaZ ?_);refine Yv ?_;exact fin m g ok
end
section
variable {O:KeyOrd}(κ:Keyed→O.α)(d0:O.α)
def bP(xs:Array Keyed):Nat→List (Nat×Nat×Nat)→Nat→Prop
 | b,[],e=>b=e
 | b,(s,n,_)::r,e=>s=b∧1≤n∧SR κ d0 xs s n∧bP xs (b+n) r e
end
section
variable {O:KeyOrd}{κ:Keyed→O.α}{d0:O.α}{xs ys:Array Keyed}
theorem bP.app:∀{l l':List (Nat×Nat×Nat)} {b e:Nat},bP κ d0 xs b (l++l') e↔∃ m,bP κ d0 xs b l m∧bP κ d0 xs m l' e
 | [],l',b,e=>⟨fun h=>⟨b,rfl,h⟩,fun⟨m,h,h'⟩=>by cases h;exact h'⟩
 | (s,n,w)::r,l',b,e=>by
  constructor
  ·rintro⟨h1,h2,h3,h4⟩
   obtain⟨m,a,c⟩:=bP.app.mp h4;exact⟨m,⟨h1,h2,h3,a⟩,c⟩
  ·rintro⟨m,⟨h1,h2,h3,a⟩,c⟩
   exact⟨h1,h2,h3,bP.app.mpr ⟨m,a,c⟩⟩
theorem bP.le:∀{l:List (Nat×Nat×Nat)} {b e:Nat},bP κ d0 xs b l e→b+l.length≤e
 | [],b,e,h=>by cases h;exact Yz _
 | (s,n,w)::r,b,e,h=>by
  obtain⟨h1,h2,h3,h4⟩:=h;have:=bP.le h4;rw[YF];omega
theorem bP.keep:∀{l:List (Nat×Nat×Nat)} {b e:Nat},bP κ d0 xs b l e→(∀ k,b≤k→k < e→ys[k]? = xs[k]?)→bP κ d0 ys b l e
 | [],b,e,h,_=>h
 | (s,n,w)::r,b,e,h,k=>by
  obtain⟨h1,h2,h3,h4⟩:=h;have:=bP.le h4;exact⟨h1,h2,h3.keep κ d0 (fun j a c=>k j (by omega) (by omega)),bP.keep h4 fun j a c=>k j (by omega) c⟩
theorem bP.qg:∀{l l':List (Nat×Nat×Nat)} {b e:Nat},l.map (fun x=>(x.1,x.2.1))=l'.map (fun x=>(x.1,x.2.1))→bP κ d0 xs b l e→bP κ d0 xs b l' e
 | [],[],b,e,_,h=>h
 | [],_::_,b,e,z,_=>by cases z
 | _::_,[],b,e,z,_=>by cases z
 | (s,n,w)::r,(s',n',w')::r',b,e,z,h=>by
  rw[YC,YC]at z;obtain⟨z1,z2⟩:=aaX z;cases z1;obtain⟨h1,h2,h3,h4⟩:=h;exact⟨h1,h2,h3,bP.qg z2 h4⟩
theorem bP.join{l1 l2:List (Nat×Nat×Nat)}{sa na pw sb nb IL b e:Nat}(h:bP κ d0 xs b (l1++(sa,na,pw)::(sb,nb,IL)::l2) e):sb=sa+na∧1≤na∧1≤nb∧b≤sa∧sb+nb≤e∧SR κ d0 xs sa na∧SR κ d0 xs sb nb∧∀ ys:Array Keyed,SR κ d0 ys sa (na+nb)→(∀ k,k < sa∨sa+na+nb≤k→ys[k]? = xs[k]?)→bP κ d0 ys b (l1++(sa,na+nb,pw)::l2) e:=by
 obtain⟨m,t1,t2⟩:=bP.app.mp h;obtain⟨a1,a2,a3,b1,b2,b3,t3⟩:=t2;have XU:=bP.le t1;have XT:=bP.le t3;subst a1;refine⟨b1,a2,b2,by omega,by omega,a3,b3,fun ys s k=>?_⟩;refine bP.app.mpr ⟨_,t1.keep fun j a c=>k j (.inl c),rfl,by omega,s,?_⟩;rw[← Nat.add_assoc];exact t3.keep fun j a c=>k j (.inr (by omega))
theorem qq{p:Array (Nat×Nat×Nat)}{l1 l2:List (Nat×Nat×Nat)}{x y v:Nat×Nat×Nat}(e:p.toList=l1++x::y::l2):((p.setIfInBounds l1.length v).eraseIdxIfInBounds (l1.length+1)).toList=l1++v::l2:=by
 have hs:l1.length+1 < (p.setIfInBounds l1.length v).size:=by
  rw[Array.size_setIfInBounds,← Yu,e,Yo];show l1.length+1 < l1.length+(l2.length+1+1)
  omega
 unfold Array.eraseIdxIfInBounds;rw[dif_pos hs,Array.toList_eraseIdx,abO,e,List.set_append_right _ _ (Yz _),aa7,List.set_cons_zero,List.eraseIdx_append_of_length_le (by omega),Z4];rfl
theorem iB{p:Array (Nat×Nat×Nat)}{i:Nat}{f:Nat×Nat×Nat→Nat×Nat×Nat}(h:∀ x,((f x).1,(f x).2.1)=(x.1,x.2.1)):p.toList.map (fun x=>(x.1,x.2.1))=(p.modify i f).toList.map (fun x=>(x.1,x.2.1)):=by
 apply List.ext_getElem?
 intro k;rw[Y2,Y2,YK,YK,Array.getElem?_modify];split
 ·rw[Option.map_map]
  congr 1
  funext x
  exact(h x).symm
 ·rfl
theorem u6{p:Array (Nat×Nat×Nat)}{i:Nat}(h:i+1 < p.size):∃ l1 x y l2,p.toList=l1++x::y::l2∧l1.length=i∧p[i]? = some x∧p[i+1]? = some y:=by
 have h':i+1 < p.toList.length:=by rw[Yu];exact h
 refine⟨p.toList.take i,p.toList[i],p.toList[i+1],p.toList.drop (i+2),?_,by rw[YG];omega,?_,?_⟩
 ·rw[← ZR h',← ZR (by omega),YM]
 ·rw[← YK,YJ (by omega)]
 ·rw[← YK,YJ h']
end
section
variable {prog:Program}{w:World}{A:Around}{E:Value→Shared→Prop}{s:Shared}{a0:Array Keyed}{kd:SortKind}{p:Array (Nat×Nat×Nat)}{st:SortSt}{O:KeyOrd}{κ:Keyed→O.α}{d0:O.α}
theorem qh{i e:Nat}{Q:Bool→SortSt→Prop}(L:jt (model prog w) A s kd a0 O κ)(D:ux κ a0)(B:SP a0 kd p st)(T:bP κ d0 (arrOf st) 0 p.toList e)(he:e≤a0.size)(hi:i+1 < p.size)
  (q:∀ p' aR,SP a0 kd p' aR→bP κ d0 (arrOf aR) 0 p'.toList e→p'.size+1=p.size→(∀ k,e≤k→(arrOf aR)[k]? =(arrOf st)[k]?)→Q true aR):wpS (model prog w) A E s (mergeAt' i) Q st:=by
 obtain⟨l1,⟨sa,na,pw⟩,⟨sb,nb,IL⟩,l2,el,ll,g1,g2⟩:=u6 hi;rw[el]at T;obtain⟨j1,j2,j3,j4,j5,j6,j7,j8⟩:=T.join;refine tu L D B g1 g2 j1 j2 j3 (by omega) j6 j7 fun aR B' S' K'=>?_;have ml:=qq (v:=(sa,na+nb,pw)) el;rw[ll]at ml;refine q _ aR B' (by rw[ml];exact j8 _ S' K') ?_ fun k hk=>K' k (.inr (by omega));rw[← Yu,ml,← Yu,el,Yo,Yo];rfl
theorem yM{Q:Unit→SortSt→Prop}(L:jt (model prog w) A s kd a0 O κ)(D:ux κ a0)(B:SB a0 kd st)(h2:2≤a0.size)(q:∀ aR,(arrOf aR).Perm a0→failedOf aR=none→wW κ d0 (arrOf aR) a0.size→Q () aR):wpS (model prog w) A E s sortRuns' Q st:=by
 rw[sortRuns'_eq];refine Ys (aaZ ?_);dsimp only;rw[B.size];obtain⟨mr,VZ⟩:∃ mr,mr=minRun' a0.size a0.size 0:=⟨_,rfl⟩;rw[← VZ];refine Ys (Z9 (Q:=fun c aR=>c=(none,a0.size)∧∃ p,SP a0 kd p aR∧bP κ d0 (arrOf aR) 0 p.toList a0.size) ?_ ?_)
 ·refine Zj (fun t c aR=>∃ lo p,c=(none,lo)∧SP a0 kd p aR∧bP κ d0 (arrOf aR) 0 p.toList lo∧lo≤a0.size∧(t≤lo∨lo=a0.size)) (fun t c bR h1 h2 hI=>?_) (fun c bR hI=>?_) ⟨0,#[],rfl,⟨B.perm,B.kind,B.failed,B.pend⟩,rfl,ZL _,.inl (Yz _)⟩
  ·obtain⟨lo,p,rfl,B1,T1,l1,tl⟩:=hI
   dsimp only;split
   ·rename_i hc
    have:lo=a0.size:=by omega
    subst this;exact Yv ⟨rfl,p,B1,T1⟩
   rename_i hc;refine Ys (yq (d0:=d0) L D B1 (by omega) (by omega) fun m fO B2 m1 m2 s2 k2=>?_);have T2:=T1.keep (ys:=arrOf fO) fun k a b=>k2 k b;dsimp only;refine aq (fun hm=>?_) (fun hm=>?_)
   ·refine Ys (abP (ZS ⟨rfl,?_⟩))
    obtain⟨nn,en⟩:∃ nn,nn=min (a0.size-lo) mr:=⟨_,rfl⟩;rw[← en];have n1:1≤nn:=by omega
    have n2:lo+nn≤a0.size:=by omega
    refine Ys (FE (d0:=d0) L D B2 n2 m1 (by omega) s2 fun fN B3 S3 k3=>?_);have T3:=T2.keep (ys:=arrOf fN) fun k a b=>k3 k b;rw[YN (by decide)];refine Ys (aaZ ?_);rw[B3.pend];have fin:∀(p4:Array (Nat×Nat×Nat)) fM,SP a0 kd p4 fM→bP κ d0 (arrOf fM) 0 p4.toList lo→SR κ d0 (arrOf fM) lo nn→SP a0 kd (p4.push (lo,nn,0)) (setPending fM (p4.push (lo,nn,0)))∧bP κ d0 (arrOf (setPending fM (p4.push (lo,nn,0)))) 0 (p4.push (lo,nn,0)).toList (lo+nn):=fun p4 fM B4 T4 S4=>⟨⟨B4.perm,B4.kind,B4.failed,rfl⟩,by
     rw[aaA];exact bP.app.mpr ⟨lo,T4,rfl,n1,S4,rfl⟩⟩
    split
    ·refine Ys (Z9 (Q:=fun c aR=>c=(none,())∧∃ p,SP a0 kd p aR∧bP κ d0 (arrOf aR) 0 p.toList lo∧SR κ d0 (arrOf aR) lo nn) ?_ ?_)
     ·refine Zj (fun t c aR=>c=(none,())∧∃ p,SP a0 kd p aR∧bP κ d0 (arrOf aR) 0 p.toList lo∧SR κ d0 (arrOf aR) lo nn) (fun t c fM h1 h2 hI=>?_) (fun c fM hI=>hI) ⟨rfl,p,B3,T3,S3⟩
      obtain⟨rfl,p4,B4,T4,S4⟩:=hI;refine Ys (aaZ ?_);rw[B4.pend];split
      ·rename_i eo
       have p2:p4.size > 1:=by
        by_cases z:p4.size > 1
        ·exact z
        ·rw[YN z]at eo;cases eo
       split
       ·exact Yv ⟨rfl,p4,B4,T4,S4⟩
       refine Ys (qh (d0:=d0) L D B4 T4 (by omega) (i:=p4.size-2) (by omega) fun p' ja B5 T5 _ k5=>?_);rw[YN (by decide)];exact Yv ⟨rfl,p',B5,T5,S4.keep κ d0 fun k a b=>k5 k a⟩
      ·exact Yv ⟨rfl,p4,B4,T4,S4⟩
     ·rintro c fM ⟨rfl,p4,B4,T4,S4⟩
      dsimp only;refine Ys (aaj ?_);refine Ys (aaj ?_);have fin2:=fun pw:Nat=>fin _ (setPending fM ((pendingOf fM).modify ((pendingOf fM).size-1) fun x=>(x.1,x.2.1,pw))) ⟨B4.perm,B4.kind,B4.failed,rfl⟩ (bP.qg (iB (fun _=>rfl)) (by rw[B4.pend];exact T4)) S4;exact Yv ⟨lo+nn,_,rfl,(fin2 _).1,(fin2 _).2,by omega,by omega⟩
    ·refine Ys (aaj ?_)
     rw[B3.pend];obtain⟨f1,f2⟩:=fin p fN B3 T3 S3;exact Yv ⟨lo+nn,_,rfl,f1,f2,by omega,by omega⟩
   ·obtain⟨nn,en⟩:∃ nn,nn=m:=⟨_,rfl⟩
    rw[← en]at s2 m1 m2 ⊢;have n1:1≤nn:=m1;have n2:lo+nn≤a0.size:=by omega
    obtain⟨fN,e3⟩:∃ fN,fN=fO:=⟨_,rfl⟩;rw[← e3]at B2 T2 s2 ⊢;have B3:=B2;have T3:=T2;have S3:=s2;refine Ys (aaZ ?_);rw[B3.pend];have fin:∀(p4:Array (Nat×Nat×Nat)) fM,SP a0 kd p4 fM→bP κ d0 (arrOf fM) 0 p4.toList lo→SR κ d0 (arrOf fM) lo nn→SP a0 kd (p4.push (lo,nn,0)) (setPending fM (p4.push (lo,nn,0)))∧bP κ d0 (arrOf (setPending fM (p4.push (lo,nn,0)))) 0 (p4.push (lo,nn,0)).toList (lo+nn):=fun p4 fM B4 T4 S4=>⟨⟨B4.perm,B4.kind,B4.failed,rfl⟩,by
     rw[aaA];exact bP.app.mpr ⟨lo,T4,rfl,n1,S4,rfl⟩⟩
    split
    ·refine Ys (Z9 (Q:=fun c aR=>c=(none,())∧∃ p,SP a0 kd p aR∧bP κ d0 (arrOf aR) 0 p.toList lo∧SR κ d0 (arrOf aR) lo nn) ?_ ?_)
     ·refine Zj (fun t c aR=>c=(none,())∧∃ p,SP a0 kd p aR∧bP κ d0 (arrOf aR) 0 p.toList lo∧SR κ d0 (arrOf aR) lo nn) (fun t c fM h1 h2 hI=>?_) (fun c fM hI=>hI) ⟨rfl,p,B3,T3,S3⟩
      obtain⟨rfl,p4,B4,T4,S4⟩:=hI;refine Ys (aaZ ?_);rw[B4.pend];split
      ·rename_i eo
       have p2:p4.size > 1:=by
        by_cases z:p4.size > 1
        ·exact z
        ·rw[YN z]at eo;cases eo
       split
       ·exact Yv ⟨rfl,p4,B4,T4,S4⟩
       refine Ys (qh (d0:=d0) L D B4 T4 (by omega) (i:=p4.size-2) (by omega) fun p' ja B5 T5 _ k5=>?_);rw[YN (by decide)];exact Yv ⟨rfl,p',B5,T5,S4.keep κ d0 fun k a b=>k5 k a⟩
      ·exact Yv ⟨rfl,p4,B4,T4,S4⟩
     ·rintro c fM ⟨rfl,p4,B4,T4,S4⟩
      dsimp only;refine Ys (aaj ?_);refine Ys (aaj ?_);have fin2:=fun pw:Nat=>fin _ (setPending fM ((pendingOf fM).modify ((pendingOf fM).size-1) fun x=>(x.1,x.2.1,pw))) ⟨B4.perm,B4.kind,B4.failed,rfl⟩ (bP.qg (iB (fun _=>rfl)) (by rw[B4.pend];exact T4)) S4;exact Yv ⟨lo+nn,_,rfl,(fin2 _).1,(fin2 _).2,by omega,by omega⟩
    ·refine Ys (aaj ?_)
     rw[B3.pend];obtain⟨f1,f2⟩:=fin p fN B3 T3 S3;exact Yv ⟨lo+nn,_,rfl,f1,f2,by omega,by omega⟩
  ·obtain⟨lo,p,rfl,B1,T1,l1,tl⟩:=hI
   have:lo=a0.size:=by rw[abB (ZL _)]at tl;omega
   subst this;exact⟨rfl,p,B1,T1⟩
 ·rintro c bR ⟨rfl,p,B1,T1⟩
  dsimp only;refine Ys (Z9 (Q:=fun c aR=>c=(none,())∧∃ p,SP a0 kd p aR∧bP κ d0 (arrOf aR) 0 p.toList a0.size∧p.size≤1) ?_ ?_)
  ·refine Zj (fun t c aR=>c=(none,())∧∃ p,SP a0 kd p aR∧bP κ d0 (arrOf aR) 0 p.toList a0.size∧p.size+t≤a0.size+1) (fun t c fO h1 h2 hI=>?_) (fun c fO hI=>?_) ⟨rfl,p,B1,T1,by have:=T1.le;rw[Yu]at this;omega⟩
   ·obtain⟨rfl,p,B2,T2,pl⟩:=hI
    refine Ys (aaZ ?_);rw[B2.pend];split
    ·rename_i hc
     exact Yv ⟨rfl,p,B2,T2,hc⟩
    rename_i hc;obtain⟨i,ei,hi⟩:∃ i,(if(if p.size-2 > 0 then Option.map (fun x=>x.2.1) p[p.size-2-1]? else none).any (fun x=>decide (x < p[p.size-2+1]?.elim 0 fun x=>x.2.1))=true then p.size-2-1 else p.size-2)=i∧i+1 < p.size:=by
     refine⟨_,rfl,?_⟩;by_cases z:p.size-2 > 0
     ·rw[YV z];split<;>omega
     ·rw[YN z];split
      ·rename_i zz;cases zz
      ·omega
    rw[ei];refine Ys (qh L D B2 T2 (Yz _) hi fun p' fN B3 T3 ps _=>?_);exact Yv ⟨rfl,p',B3,T3,by omega⟩
   ·obtain⟨rfl,p,B2,T2,pl⟩:=hI
    rw[abB (ZL _)]at pl;exact⟨rfl,p,B2,T2,by omega⟩
  ·rintro c fO ⟨rfl,p,B2,T2,p1⟩
   refine Yv (q _ B2.perm B2.failed ?_);have:SR κ d0 (arrOf fO) 0 a0.size:=by
    rw[← Yu]at p1;match p.toList,p1,T2 with
    | [],_,T2=>have:0=a0.size:=T2;omega
    | [(s,n,w)],_,T2=>
     obtain⟨t1,t2,t3,t4⟩:=T2;have:0+n=a0.size:=t4;rw[t1,show n=a0.size by omega]at t3;exact t3
    | _::_::_,p1,_=>rw[YF,YF]at p1;omega
   intro i j zP hj;by_cases e:i=j
   ·rw[e];exact Le.refl _
   ·exact Le.of_lt (this i j (ZL _) (by omega) (by omega))
end
section
variable {M:Model}{prog:Program}{w:World}{A:Around}{E:Value→Shared→Prop}{s:Shared}
theorem mD{a:Addr}{vs:List Value}{n:Nat}{P:Fin→Shared→Prop}(ho:s.heap.get? a=some (seqObj "list" vs.toArray n))(hI:∀ v∈vs,∃ i,ly s.heap v i∧v≠.ref a)(nd:(vs.map (dX s.heap)).Nodup)(oU:vs.length≤sizeLine)
  (h:∀ out:Array Value,out.toList.Perm vs→(out.toList.map (dX s.heap)).Pairwise (·≤·)→P (.done (.ret .none)) {s with heap:=sortedHeap s.heap a vs out}):wpAny (model prog w) A (Builtin.«list.sort» {pos:=[.ref a]}) P E s:=by
 rw[list_sort_plain];have ha:=Yr ho;refine Ym (listItems_at ho rfl ?_);refine Ym (listUpdate_at ho rfl ?_ (by simpa using oU) (by simp));obtain⟨e1,Qs⟩:∃ e,(s.heap.update a (Obj.mapSeq fun x=>#[])).get? a=some (seqObj "list" #[] e):=⟨_,get?_update_seq ho fun x=>#[]⟩;refine Ym (seqEpoch_at Qs rfl ?_);refine Ym (abz ?_ (by simpa using oU));refine Ym (wpAny_newList ?_);refine aaq ?_;have Jg:(((s.heap.update a (Obj.mapSeq fun x=>#[])).push (seqObj "tuple" vs.toArray 0)).push (seqObj "list" #[] 0)).get? a=some (seqObj "list" #[] e1):=by
  rw[aaG _ _ _ (by rw[size_push',aaM];exact YI (ZX ha)),aaG _ _ _ (by rw[aaM];exact YI ha)];exact Qs
 have keep:∀ b o,b≠a→s.heap.get? b=some o→(((s.heap.update a (Obj.mapSeq fun x=>#[])).push (seqObj "tuple" vs.toArray 0)).push (seqObj "list" #[] 0)).get? b=some o:=fun b o nb hb=>by
  have GU:=Yr hb;rw[aaG _ _ _ (by rw[size_push',aaM];exact YI (ZX GU)),aaG _ _ _ (by rw[aaM];exact YI GU)];rw[Heap.get?_update_ne _ _ _ _ nb];exact hb
 dsimp only;have sz:∀ out:Array Value,out.toList.Perm vs→out.size≤sizeLine+1:=fun out hp=>by
  have:=hp.length_eq;rw[Yu]at this;rw[this];exact Nat.le_succ_of_le (oU)
 by_cases h2:vs.length < 2
 ·have G1:vs.toArray.size < 2:=by simpa using h2
  rw[YV G1,YV G1];refine Ym (Yp ?_);rw[StateT.run_pure];refine Ym (Yp ?_);dsimp only;refine Ym (seqEpoch_at Jg rfl ?_);have hp:(((arrOf (SortSt.mk' general' (vs.toArray.zip vs.toArray) #[] 7 none)).map fun x=>x.2)).toList.Perm vs:=oo (Array.Perm.refl _);refine Ym (listUpdate_at Jg rfl ?_ (by simp) (sz _ hp));rw[YN (by simp)];refine Yp (h _ hp ?_);have hle:=hp.length_eq;generalize (((arrOf (SortSt.mk' general' (vs.toArray.zip vs.toArray) #[] 7 none)).map fun x=>x.2)).toList=l at hle;match l,hle with
  | [],_=>exact .nil
  | [x],_=>exact aax _ _
  | x::y::r,hle=>rw[YF,YF]at hle;omega
 ·have G1:¬vs.toArray.size < 2:=by simpa using h2
  rw[YN G1];have mem:∀ x∈(pairsOf vs).toList,x.1∈vs∧x.2=x.1:=fun x hx=>by
   unfold pairsOf at hx;rw[abH]at hx;obtain⟨p,q⟩:=x;refine⟨(aa8 hx).1,?_⟩;have:∀(l:List Value),(p,q)∈l.zip l→q=p:=fun l=>by
    induction l with
    | nil=>intro z;simp at z
    | cons y r ih=>
     intro z;rw[abw]at z;rcases Yq.mp z with z | z
     ·cases z;rfl
     ·exact ih z
   exact this _ hx
  refine Ym (BX (fun v hv=>?_) (by omega) ?_)
  ·obtain⟨i,hi,nv⟩:=hI v hv
   exact⟨i,hi.keep fun b o g e=>keep b o (fun z=>nv (by rw[e,z])) g⟩
  rw[YN G1];have B:SB (pairsOf vs) (tuples' true) (SortSt.mk' (tuples' true) (vs.toArray.zip vs.toArray) #[] 7 none):=⟨Array.Perm.refl _,rfl,rfl,rfl⟩;have XE:(pairsOf vs).size=vs.length:=by unfold pairsOf;simp
  have L:∀ A,jt (model prog w) A {s with heap:=((s.heap.update a (Obj.mapSeq fun x=>#[])).push (seqObj "tuple" vs.toArray 0)).push (seqObj "list" #[] 0)} (tuples' true) (pairsOf vs) i3 (fun p=>dX s.heap p.1):=fun A x hx y hy yO Q E q=>by
   obtain⟨i,hi,ni⟩:=hI x.1 (mem x hx).1;obtain⟨j,hj,nj⟩:=hI y.1 (mem y hy).1;dsimp only at yO q;rw[hi.fst,hj.fst]at yO q;exact L7 (hi.keep fun b o g e=>keep b o (fun z=>ni (by rw[e,z])) g) (hj.keep fun b o g e=>keep b o (fun z=>nj (by rw[e,z])) g) yO q
  have D:ux (O:=i3) (fun p:Keyed=>dX s.heap p.1) (pairsOf vs):=by
   unfold ux;have:(pairsOf vs).toList.map (fun p:Keyed=>dX s.heap p.1)=vs.map (dX s.heap):=by
    unfold pairsOf;rw[abH];exact qV (dX s.heap) vs
   exact Eq.mpr (ZM List.Nodup this) nd
  refine Ym (Zz (yM (d0:=(0:Int)) (Q:=fun _ aR=>(arrOf aR).Perm (pairsOf vs)∧failedOf aR=none∧wW (O:=i3) (fun p:Keyed=>dX s.heap p.1) (0:Int) (arrOf aR) (pairsOf vs).size) (L A) D B (by omega) fun aR hp hf so=>⟨hp,hf,so⟩) (fun r s' hr=>?_) (fun _ _ z=>z));obtain⟨rfl,hp,hf,so⟩:=hr;obtain⟨u,aR⟩:=r;dsimp only at hp hf so ⊢;refine Ym (seqEpoch_at Jg rfl ?_);have op:=oo hp;refine Ym (listUpdate_at Jg rfl ?_ (by simp) (sz _ op));rw[hf];dsimp only;rw[YN (by simp)];refine Yp (h _ op ?_);rw[ZQ];intro i j hi hj zP;rw[Yw,Yu,Array.size_map]at hi hj;have hz:=hp.size_eq;have:=so i j (Zi zP) (by omega);unfold Le at this;have k1:=du (O:=i3) (fun p:Keyed=>dX s.heap p.1) (0:Int) (aaS hi);have k2:=du (O:=i3) (fun p:Keyed=>dX s.heap p.1) (0:Int) (aaS hj);have this:=(congr (ZM i3.blt k2.symm) k1.symm).trans this;have m1:=mem (arrOf aR)[i] ((Zf.mp hp).mem_iff.mp (by simp));have m2:=mem (arrOf aR)[j] ((Zf.mp hp).mem_iff.mp (by simp));simp only[List.getElem_map,Array.getElem_toList,Array.getElem_map];rw[m1.2,m2.2];have:decide (dX s.heap (arrOf aR)[j].1 < dX s.heap (arrOf aR)[i].1)=false:=this;have:=Y7 this;omega
end
section
variable {prog:Program}{w:World}{A:Around}{E:Value→Shared→Prop}{s:Shared}
theorem lH{vs:List Value}{Q:Value→Shared→Prop}(oU:vs.length≤sizeLine)(hI:∀ v∈vs,∃ i,ly s.heap v i)(nd:(vs.map (dX s.heap)).Nodup)
  (h:∀(out:Array Value) (h':Heap),out.toList.Perm vs→(out.toList.map (dX s.heap)).Pairwise (·≤·)→(∀ b o,s.heap.get? b=some o→h'.get? b=some o)→(∃ e,h'.get? s.heap.objs.size=some (seqObj "list" out e))→Q (.ref s.heap.objs.size) {s with heap:=h'}) :
  wpAny (model prog w) A (do
   let l ← newList vs
   let _ ← holding [l] (call (.builtin "list.sort") [l] [])
   ret l) (fun fin s'=>∃ v,fin=Fin.done (Flow.ret v)∧Q v s') E s:=by
 have hz:vs.length≤sizeLine:=oU;refine Ym (wpAny_newList ?_ hz);have GF:(s.heap.push (seqObj "list" vs.toArray 0)).get? s.heap.objs.size=some (seqObj "list" vs.toArray 0):=YB _ rfl;have up:∀ v∈vs,∃ i,ly s.heap v i∧ly (s.heap.push (seqObj "list" vs.toArray 0)) v i:=fun v hv=>by
  obtain⟨i,x⟩:=hI v hv;exact⟨i,x,x.keep fun b o g _=>Yn _ g⟩
 refine Ym (aaq (ZC slot_list_sort ⟨_,GF,rfl⟩ entry_list_sort (mD GF (fun v hv=>?_) ?_ oU fun out hp hs=>⟨.none,rfl,Yp ⟨_,rfl,?_⟩⟩) (args_list_sort _)))
 ·obtain⟨i,x,y⟩:=up v hv
  refine⟨i,y,fun e=>?_⟩;obtain⟨a,o,t,r,n,e2,g,_⟩:=x;rw[e2]at e;cases e;exact ZD _ (Yr g)
 ·rw[← fZ up];exact nd
 ·rw[← fZ (vs:=out.toList) fun v hv=>up v (hp.mem_iff.mp hv)]at hs
  obtain⟨e,he⟩:=sortedHeap_at (vs:=vs) (out:=out) GF;refine h out _ hp hs (fun b o hb=>?_) ⟨e,he⟩;have hl:=Yr hb;rw[sortedHeap_old (YI hl) (by rw[size_push'];exact ZX hl)];exact Yn _ hb
theorem sO{l:Addr}{vs:List Value}{Q:Value→Shared→Prop}(hl:s.heap.IsList l vs.toArray)(oU:vs.length≤sizeLine)(hI:∀ v∈vs,∃ i,ly s.heap v i)(nd:(vs.map (dX s.heap)).Nodup)
  (h:∀(out:Array Value) (a:Addr) (h':Heap),out.toList.Perm vs→(out.toList.map (dX s.heap)).Pairwise (·≤·)→s.heap.objs.size≤a→(∀ b o,s.heap.get? b=some o→h'.get? b=some o)→(∃ e,h'.get? a=some (seqObj "list" out e))→Q (.ref a) {s with heap:=h'}) :
  wpAny (model prog w) A (call (.builtin "sorted") [.ref l]) Q E s:=by
 have hz:vs.length≤sizeLine:=oU;refine Calls.call_function_entry kind_sorted plain_sorted entry_sorted (args_sorted1 _) ?_;show wpAny _ _ (do
  checkCount "sorted" 1 1 1
  let __do_lift ← collect (.ref l)
  let l ← newList __do_lift
  let _ ← holding [l] (call (.builtin "list.sort") [l] [])
  ret l) _ _ _
 refine Ym (Yp ?_);refine Ym (collect_list hl ?_ hz);have keep:∀ b o,s.heap.get? b=some o→((s.heap.push (seqObj "list" #[] 0)).update s.heap.objs.size (Obj.mapSeq fun x=>x++vs.toArray)).get? b=some o:=fun b o hb=>by
  have GU:=Yr hb;rw[Heap.get?_update_ne _ _ _ _ (YI GU),aaG _ _ _ (YI GU)];exact hb
 have hsz:((s.heap.push (seqObj "list" #[] 0)).update s.heap.objs.size (Obj.mapSeq fun x=>x++vs.toArray)).objs.size=s.heap.objs.size+1:=by rw[aaM,size_push']
 have up:∀ v∈vs,∃ i,ly s.heap v i∧ly ((s.heap.push (seqObj "list" #[] 0)).update s.heap.objs.size (Obj.mapSeq fun x=>x++vs.toArray)) v i:=fun v hv=>by
  obtain⟨i,x⟩:=hI v hv;exact⟨i,x,x.keep fun b o g _=>keep b o g⟩
 refine lH (s:={s with heap:=(s.heap.push (seqObj "list" #[] 0)).update s.heap.objs.size (Obj.mapSeq fun x=>x++vs.toArray)}) oU (fun v hv=>let⟨i,_,y⟩:=up v hv;⟨i,y⟩) (by rw[← fZ up];exact nd) fun out h' hp hs k he=>?_;rw[← fZ (vs:=out.toList) fun v hv=>up v (hp.mem_iff.mp hv)]at hs;exact h out _ h' hp hs (by dsimp only;rw[hsz];exact aat _) (fun b o hb=>k b o (keep b o hb)) he
end
end Sr
namespace L2
open PySem PyProof.Rows
section
variable {X:Cx}{pins:List (Addr×Obj)}{σ:St}{H:Hp}{s:Shared}
theorem pv:gk X (.builtin "sorted") (fun xs H Q=>∃ p ys,xs=[.ref p]∧H p=some (.lst ys)∧ys.length≤sizeLine∧(∀ y∈ys,∃ a i r,y=.ref a∧H a=some (.tup (.int i::r)))∧(ys.map (wz H)).Nodup∧∀ zs l,zs.Perm ys→(zs.map (wz H)).Pairwise (·≤·)→H l=none→Q (.ref l) (upd H l (.lst zs))):=by
 intro pins s σ H xs us Q I r h;obtain⟨p,ys,rfl,hp,oU,hy,hd,q⟩:=h;obtain⟨u,rfl,rx⟩:=vals1 r;cases rx;obtain⟨aA,rv,pl,hz⟩:=I.list (dF.of (K:=X.K) hp);have hl:=rv.length;obtain⟨k1,k2⟩:=keys_eq I rv hy;refine Sr.sO pl.isList (by omega) k2 (by rw[k1];exact hd) fun out a h' wm hs ge keep he=>?_;obtain⟨e,he⟩:=he;obtain⟨zs,pz,Qm⟩:=sH wm rv;obtain⟨k3,_⟩:=keys_eq I Qm fun y hm=>hy y (pz.mem_iff.mp hm);rw[k3]at hs;have hf:H a=none:=I.bB.fresh ge;exact⟨.ref a,_,I.laid (t':=s.toks) keep ge (show bK X.prog X.w _ _ _ (.lst zs)from⟨by rw[pz.length_eq];exact hz,out.toList,e,Qm,by rw[he]⟩),rfl,q zs a pz hs hf⟩
theorem pk(hc:X.calm=true):gk X (.builtin "sorted") (fun xs H Q=>∃ p d ak,xs=[.ref p]∧H p=some (.ext (gu p d))∧H d=some (.dK ak)∧ak.length≤sizeLine∧(∀ kv∈ak,∃ i,kv.1=.inl i) ∧
  ∀(L:List (Addr×(Key×V))) (l:Addr) (H1:Hp),(L.map (·.2)).Perm ak→(L.map fun q=>oM q.2.1).Pairwise (·≤·)→(∀ b o,H b=some o→H1 b=some o)→(∀ q∈L,H1 q.1=some (.tup [kV q.2.1,q.2.2]))→H1 l=none→Q (.ref l) (upd H1 l (.lst (L.map fun q=>V.ref q.1)))):=by
 intro pins s σ H xs us Q I r h;obtain⟨p,d,ak,rfl,hp,hd,oU,hk,q⟩:=h;obtain⟨u,rfl,rx⟩:=vals1 r;cases rx;obtain⟨z,Jo,vs,rel,dd⟩:=rV I.bB hd;obtain⟨ep,da⟩:=dd.dictAt;have Gw:s.heap.IsItemsView p d:=(I.bB p _ hp).1;have vl:vs.length=ak.length:=rel.length.symm;refine Calls.call_function_entry kind_sorted plain_sorted entry_sorted (args_sorted1 _) ?_;show wpAny _ _ (do
  checkCount "sorted" 1 1 1
  let __do_lift ← collect (.ref p)
  let l ← newList __do_lift
  let _ ← holding [l] (call (.builtin "list.sort") [l] [])
  ret l) _ _ _
 refine Ym (Yp ?_);refine Ym (Sr.lj (A:=X.A.in1) (I.ok.hd hc) Gw da (by rw[vl];exact oU) fun h1 bs wx keep hl tp nb=>?_);obtain⟨L0,e1,e2⟩:∃ L0:List (Addr×(Key×V)),L0.map (·.1)=bs∧L0.map (·.2)=ak:=⟨bs.zip ak,List.map_fst_zip (by omega),List.map_snd_zip (by omega)⟩;have item:∀ q∈L0,∃ i t x,q.2.1=.inl i∧h1.get? q.1=some {cls:=.type "tuple",data:=.seq #[.int i t,x]}∧RelV q.2.2 x:=fun q hq=>by
  obtain⟨j,hj,ej⟩:=aau hq;have g1:bs[j]? = some q.1:=by rw[← e1,Y2,YJ hj,ej];rfl
  have g2:ak[j]? = some q.2:=by rw[← e2,Y2,YJ hj,ej];rfl
  obtain⟨key,k,x,gt,gv,is⟩:=tp.2 j q.1 g1;obtain⟨i,ei⟩:=hk q.2 (ZT g2);obtain⟨v',QQ,ek,rx⟩:=lM rel g2;rw[gv]at QQ;cases QQ;have ek:q.2.1=k:=ek;rw[ei]at ek;subst ek;rcases bI (show ki (.inl i) key=true from is)with⟨i',t,a1,a2⟩ | ⟨_,_,a1,_⟩
  ·cases a1
   subst a2;exact⟨i,t,x,ei,gt,rx⟩
  ·cases a1
 have Qc:∀ q∈L0,Sr.ly h1 (.ref q.1) (oM q.2.1):=fun q hq=>by
  obtain⟨i,t,x,ei,gt,_⟩:=item q hq;rw[ei];exact⟨q.1,_,t,[x],0,rfl,gt,rfl,rfl⟩
 have eb:bs.map Value.ref=L0.map fun q=>Value.ref q.1:=by rw[← e1,aaO];rfl
 have Hb:∀ M:List (Addr×(Key×V)),(∀ q∈M,q∈L0)→(M.map fun q=>Value.ref q.1).map (Sr.dX h1)=M.map fun q=>oM q.2.1:=fun M hM=>by
  rw[aaO];exact List.map_congr_left fun q hq=>(Qc q (hM q hq)).fst
 have TZ:(L0.map fun q=>oM q.2.1).Nodup:=by
  have nd:(ak.map (·.1)).Nodup:=by rw[rel.keys];exact da.nodup
  rw[← e2,aaO]at nd;rw[List.Nodup,List.pairwise_map]at nd ⊢;refine nd.imp_of_mem fun {a b} ha hb h z=>h ?_;obtain⟨i,_,_,ei,_⟩:=item a ha;obtain⟨i',_,_,V2,_⟩:=item b hb;show a.2.1=b.2.1
  rw[ei,V2]at z ⊢;have z:i=i':=z;rw[z]
 rw[eb];refine Sr.lH (s:={s with heap:=h1}) (by rw[Yw,← Yw (f:=fun q:Addr×(Key×V)=>q.2) ,e2];exact oU) (fun v hv=>?_) (by rw[Hb L0 fun _ h=>h];exact TZ) fun out h' wm hs k' he=>?_
 ·obtain⟨q,hq,rfl⟩:=YS.mp hv
  exact⟨_,Qc q hq⟩
 obtain⟨L,pL,eL⟩:=Sr.iz wm rfl;have mL:∀ q∈L,q∈L0:=fun q hq=>pL.mem_iff.mp hq;rw[eL,Hb L mL]at hs;obtain⟨e,he⟩:=he;have Gg:∀ b o,s.heap.get? b=some o→h'.get? b=some o:=fun b o g=>k' b o (keep b o g);have I1:Inv X pins σ H {s with heap:=h'}:=I.kept (t':=s.toks) Gg;have QS:X.s₀.heap.objs.size≤s.heap.objs.size:=I.sz;have LY:∀ q∈L0,s.heap.objs.size≤q.1:=fun q hq=>nb q.1 (by rw[← e1];exact YS.mpr ⟨q,hq,rfl⟩);obtain⟨H1,I2,kH,oH,tH⟩:=Inv.uU (s:={s with heap:=h'}) (L0.map fun q=>(q.1,[kV q.2.1,q.2.2])) I1 (by rw[aaO];show(L0.map fun q=>q.1).Nodup;rw[e1];exact tp.1) fun p hp=>by
  obtain⟨q,hq,rfl⟩:=YS.mp hp;obtain⟨i,t,x,ei,gt,rx⟩:=item q hq;refine⟨I.oV (LY q hq) (I.bB.fresh (LY q hq)),ZG QS (LY q hq),by show 2≤sizeLine;decide,[.int i t,x],?_,⟨_,k' _ _ gt,rfl,0,rfl⟩⟩;rw[ei];exact .cons ⟨t,rfl⟩ (.cons rx .nil)
 have fa:H h1.objs.size=none:=I.bB.fresh (Zi wx);have Q0:H1 h1.objs.size=none:=by
  rw[oH _ fun m=>?_]
  ·exact fa
  ·rw[aaO]at m
   have m:h1.objs.size∈bs:=by rw[← e1];exact m
   exact ZD _ (tp.lt _ m)
 have lv:Vals (L.map fun q=>V.ref q.1) (L.map fun q=>Value.ref q.1):=by
  clear eL hs pL mL;induction L with
  | nil=>exact .nil
  | cons q r ih=>exact .cons rfl ih
 have I3:=I2.uV (o1:=.lst (L.map fun q=>V.ref q.1)) (I.oV (Zi wx) Q0) (ZG QS (Zi wx)) ⟨by rw[Yw,pL.length_eq,← Yw (f:=fun q:Addr×(Key×V)=>q.2),e2];exact z,_,e,lv,by
  dsimp only;rw[he,← eL]⟩
 refine⟨.ref h1.objs.size,_,I3,rfl,q L h1.objs.size H1 ?_ hs kH (fun q hq=>tH (q.1,[kV q.2.1,q.2.2]) (YS.mpr ⟨q,mL q hq,rfl⟩)) Q0⟩;rw[← e2];exact pL.map _
end
end L2
namespace L3
open PySem PySem.Spec L2
section
variable {X:Cx}{E:St→XK}
theorem ui{α:Type}(f:α→T)(key:α→Int)(hf:∀ x,∃ r,f x=.tup (.int (key x)::r)):gU X (.builtin "sorted") (fun xs Γ Z=>∃(p:Addr) (ns:List α),xs=[.ref p]∧Γ p=some (.lst (ns.map f))∧ns.length≤sizeLine∧(ns.map key).Nodup∧∀(ms:List α) (l:Addr),ms.Perm ns→(ms.map key).Pairwise (·≤·)→Γ l=none→Z (.ref l) (up Γ l (.lst (ms.map f)))):=
 ⟨_,pv,fun vs xs H Γ Q Z r hr q0 vr=>by
  obtain⟨p,ns,e,g,oU,nd,z⟩:=q0;subst e;obtain⟨v,rfl,a⟩:=qf r;obtain⟨us,hu,q⟩:=hr p _ g;obtain⟨k1,k2⟩:=mG hf q;refine⟨p,us,by rw[bz a],hu,by rw[q.length,Yw];exact oU,k2,by rw[k1];exact nd,fun zs l pz hs hl=>?_⟩;obtain⟨ms,pm,hm⟩:=xE pz q;have k:=bA (o:=.lst zs) hl;rw[(mG hf hm).1]at hs;exact vr _ _ _ _ (.make hl) (hr.make (o3:=.lst (ms.map f)) hl ⟨_,az,hm.mono (cU k)⟩) d7 (z ms l pm hs (hr.free hl))⟩
theorem uh(hc:X.calm=true):gU X (.builtin "sorted") (fun xs Γ Z=>∃(p d:Addr) (ak:List (Key×T)),xs=[.ref p]∧Γ p=some (.ext (gu p d))∧Γ d=some (.dK ak)∧ak.length≤sizeLine∧(∀ kv∈ak,∃ i,kv.1=.inl i) ∧
  ∀(ms:List (Key×T)) (l:Addr),ms.Perm ak→(ms.map fun kv=>oM kv.1).Pairwise (·≤·)→Γ l=none→Z (.ref l) (up Γ l (.lst (ms.map Gk)))):=
 ⟨_,pk hc,fun vs xs H Γ Q Z r hr q0 vr=>by
  obtain⟨p,d,ak,e,gp,gd,oU,hk,z⟩:=q0;subst e;obtain⟨v,rfl,a⟩:=qf r;obtain⟨us,hu,q⟩:=hr d _ gd;refine⟨p,d,us,by rw[bz a],hr p _ gp,hu,by rw[q.len];exact oU,fun kv GK=>?_,fun L l H1 pL hs kH tL hl=>?_⟩
  ·have:kv.1∈ak.map (·.1):=by rw[← q.keys];exact YS.mpr ⟨_,GK,rfl⟩
   obtain⟨Uy,m,e⟩:=YS.mp this;obtain⟨i,ei⟩:=hk Uy m;exact⟨i,by rw[← e];exact ei⟩
  ·obtain⟨ms,pm,hm⟩:=yR pL (q.mono (cU kH))
   obtain⟨r1,r2⟩:=nW hm tL;rw[r2]at hs;have Qq:HR H1 Γ:=hr.keep kH;have k:=bA (o:=.lst (L.map fun q=>V.ref q.1)) hl;exact vr _ _ _ _ ((dw.keep kH).trans (.make hl)) (Qq.make (o3:=.lst (ms.map Gk)) hl ⟨_,az,r1.mono (cU k)⟩) d7 (z ms l pm hs (Qq.free hl))⟩
end
end L3
namespace Sr
open PySem PyProof.Rows
section
variable {M:Model}{prog:Program}{w:World}{A:Around}{E:Value→Shared→Prop}{s:Shared}
end
section
variable {prog:Program}{w:World}{A:Around}{E:Value→Shared→Prop}{s:Shared}{Kk:Type}[DecidableEq Kk]{knd:PySem.KeyKind prog w Kk}
end
end Sr
namespace L2
open PySem PyProof.Rows
section
variable {X:Cx}
end
end L2
namespace L3
open PySem PySem.Spec L2
section
variable {X:Cx}{E:St→XK}
end
end L3
namespace L2
open PySem PySem.Spec PyProof.Rows
end L2
namespace L3
open PySem PySem.Spec L2
section
variable {X:Cx}{E:St→XK}{pos eO:Pos}
end
theorem yp{X:Cx}:nH X EN:=fun _ _ _ _ _ _ _ h=>by
 obtain⟨_,_,_,_,_,_,_,_,_,_,_,z⟩:=h;exact z.elim
section
variable {X:Cx}{E:St→XK}
end
end L3
namespace L2
open PySem PySem.Spec PyProof.Rows
section
variable {X:Cx}{H:Hp}{f P c:Addr}{q x:Str}{params:Arguments}{scope:Scope}{p1 p2 p3:Pos}{j:Nat}
end
end L2
namespace L3
open PySem PySem.Spec L2
section
variable {X:Cx}{E:St→XK}{P c:Addr}{q x:Str}{params:Arguments}{scope:Scope}{p1 p2 p3 p Ut BW pos:Pos}{j:Nat}{e:Expr}{t:A3}
end
end L3
namespace L2
open PySem PySem.Spec PyProof.Rows
section
variable {X:Cx}{pins:List (Addr×Obj)}{σ:St}{H:Hp}{s:Shared}{A:Around}{E:Value→Shared→Prop}{a:Addr}{ak:List (Key×V)}{k:Key}{v:V}{u r:Value}
end
section
variable {X:Cx}{scope:Scope}{cl:List (Str×Addr)}{own:List Str}{cap:List (Nat×Str)}{tg iter kx vx:Expr}{wi:TI}{g:TG}{tk tv:TE}{pos:Pos}
end
section
variable {X:Cx}{tg:Expr}
end
end L2
namespace L3
open PySem PySem.Spec L2
section
variable {X:Cx}{E:St→XK}{p pos:Pos}
end
end L3
namespace L3
open PySem PySem.Spec L2
open PyProof.Rows hiding St
section
variable {P:Program}{w:World}{K:W.Frag}{mg:Str→Option Value}{base:Heap}
end
section
variable {Y:X3}{τ:S3}{Γ:Gp}{Z:K3}
end
end L3
namespace Sr
open PySem PyProof.Rows
section
variable {M:Model}{prog:Program}{w:World}{A:Around}{E:Value→Shared→Prop}{s:Shared}
end
section
variable {prog:Program}{w:World}{A:Around}{E:Value→Shared→Prop}{s:Shared}
end
end Sr
namespace L2
open PySem PyProof.Rows
section
variable {X:Cx}{pins:List (Addr×Obj)}{σ:St}{H:Hp}{s:Shared}
end
end L2
namespace L3
open PySem PySem.Spec L2
section
variable {X:Cx}{E:St→XK}
end
end L3
namespace L3
open PySem PySem.Spec L2
open PyProof.Rows hiding St
section
variable {X:Cx}
end
end L3
namespace Tg
open PySem L2 L3
def vx:T→V
 | .int i=>.int i
 | .str z=>.str z
 | _=>.non
def Mw:T→Bool
 | .tup _=>true
 | _=>false
mutual
def dT:T→Nat
 | .tup us=>1+(us.filter Mw).length+dL us
 | _=>0
def dL:List T→Nat
 | []=>0
 | t::r=>max (dT t) (dL r)
end
end Tg
namespace Rk
abbrev dC:=Int×Int
abbrev bq:=Int×Int×Int
def aK:List dC→Int→Prop
 | [],_=>True
 | g::r,lo=>lo < g.1∧g.1 < g.2∧aK r g.2
def ig(G:List dC)(x:Int):Prop:=∃ g∈G,g.1≤x∧x < g.2
def uw(size:Int)(B:List bq)(x:Int):Prop:=1≤x∧x≤size∧∀ q∈B,¬(q.1≤x∧x < q.1+q.2.1)
structure SI(size:Int)(B:List bq)(G:List dC):Prop where
 sep:aK G 0
 fr:∀ x,ig G x↔uw size B x
 pos:∀ q∈B,1≤q.1∧1≤q.2.1∧q.1+q.2.1≤size+1
 HA:B.Pairwise fun p q=>p.1+p.2.1≤q.1∨q.1+q.2.1≤p.1
def Fits(size:Int)(B:List bq)(at_ many:Int):Prop:=at_+many-1≤size∧∀ q∈B,¬(at_ < q.1+q.2.1∧q.1 < at_+many)
theorem aK.weak{lo kN:Int}(h:kN≤lo):∀{G:List dC},aK G lo→aK G kN
 | [],_=>trivial
 | _::_,⟨a,b,c⟩=>⟨by omega,b,c⟩
theorem aK.mem:∀{G:List dC} {lo:Int} {g:dC},aK G lo→g∈G→lo < g.1∧g.1 < g.2
 | x::r,lo,g,⟨a,b,c⟩,h=>by
  rcases Yq.mp h with rfl | h
  ·exact⟨a,b⟩
  ·have:=aK.mem c h
   exact⟨by omega,this.2⟩
theorem aK.Hl:∀{G:List dC} {lo:Int} {g:dC},aK G lo→g∈G→¬ig G g.2
 | x::r,lo,g,⟨a,b,c⟩,h=>by
  rintro⟨k,hk,k1,k2⟩;rcases Yq.mp h with rfl | h
  ·rcases Yq.mp hk with rfl | hk
   ·omega
   ·have:=aK.mem c hk;omega
  ·have hg:=aK.mem c h
   rcases Yq.mp hk with rfl | hk
   ·omega
   ·exact aK.Hl c h ⟨k,hk,k1,k2⟩
theorem aK.zK:∀{G:List dC} {lo:Int} {g:dC},aK G lo→g∈G→¬ig G (g.1-1)
 | x::r,lo,g,⟨a,b,c⟩,h=>by
  rintro⟨k,hk,k1,k2⟩;rcases Yq.mp h with rfl | h
  ·rcases Yq.mp hk with rfl | hk
   ·omega
   ·have:=aK.mem c hk;omega
  ·have hg:=aK.mem c h
   rcases Yq.mp hk with rfl | hk
   ·omega
   ·exact aK.zK c h ⟨k,hk,k1,k2⟩
def GE:List dC→Int→Int
 | [],lo=>lo
 | g::r,_=>GE r g.2
theorem aK.app:∀{L M:List dC} {lo:Int},aK (L++M) lo↔aK L lo∧aK M (GE L lo)
 | [],M,lo=>⟨fun h=>⟨trivial,h⟩,fun h=>h.2⟩
 | g::r,M,lo=>by
  show(lo < g.1∧g.1 < g.2∧aK (r++M) g.2) ↔(lo < g.1∧g.1 < g.2∧aK r g.2)∧aK M (GE r g.2)
  rw[aK.app];exact⟨fun⟨a,b,c,d⟩=>⟨⟨a,b,c⟩,d⟩,fun⟨⟨a,b,c⟩,d⟩=>⟨a,b,c,d⟩⟩
theorem GE.ge:∀{L:List dC} {lo:Int},aK L lo→lo≤GE L lo∧∀ g∈L,g.2≤GE L lo
 | [],lo,_=>⟨Zp _,fun _ h=>nomatch h⟩
 | g::r,lo,⟨a,b,c⟩=>by
  obtain⟨h1,h2⟩:=GE.ge c;have e:GE (g::r) lo=GE r g.2:=rfl;rw[e];refine⟨by omega,fun k hk=>?_⟩;rcases Yq.mp hk with rfl | hk
  ·exact h1
  ·exact h2 k hk
theorem GE.le:∀{L:List dC} {lo b:Int},lo < b→(∀ g∈L,g.2 < b)→GE L lo < b
 | [],lo,b,h,_=>h
 | g::r,lo,b,h,hL=>by
  show GE r g.2 < b
  exact GE.le (hL g (by simp)) fun k hk=>hL k (by simp[hk])
theorem aK.mid{L R:List dC}{g:dC}{lo:Int}(h:aK (L++g::R) lo):(∀ l∈L,l.2 < g.1)∧(∀ r∈R,g.2 < r.1)∧aK L lo∧lo < g.1∧g.1 < g.2∧aK R g.2:=by
 obtain⟨a,b,c,d⟩:=aK.app.mp h;obtain⟨g0,g1⟩:=GE.ge a;exact⟨fun l hl=>by have:=g1 l hl;omega,fun r hr=>(aK.mem d hr).1,a,by omega,c,d⟩
theorem aK.join{L R:List dC}{lo b e:Int}(a:aK L lo)(h0:lo < b)(hL:∀ l∈L,l.2 < b)(be:b < e)(d:aK R e):aK (L++(b,e)::R) lo:=aK.app.mpr ⟨a,GE.le h0 hL,be,d⟩
theorem aK.Gj{L R:List dC}{lo e:Int}(a:aK L lo)(h0:lo < e)(hL:∀ l∈L,l.2 < e)(d:aK R e):aK (L++R) lo:=aK.app.mpr ⟨a,d.weak (Int.le_of_lt (GE.le h0 hL))⟩
section
variable {size:Int}{B:List bq}{G:List dC}
theorem SI.jy(h:SI size B G){g:dC}(m:g∈G):1≤g.1∧g.1 < g.2∧g.2≤size+1:=by
 obtain⟨a,b⟩:=aK.mem h.sep m;have:=((h.fr (g.2-1)).mp ⟨g,m,by omega,by omega⟩).2.1;exact⟨by omega,b,by omega⟩
theorem Fits.gap(h:SI size B G){at_ many:Int}(a1:1≤at_)(m1:1≤many)(f:Fits size B at_ many):∃ g∈G,g.1≤at_∧at_+many≤g.2:=by
 have fr:∀ x,at_≤x→x < at_+many→ig G x:=fun x x1 x2=>(h.fr x).mpr ⟨by omega,by have:=f.1;omega,fun q hq=>fun⟨q1,q2⟩=>f.2 q hq ⟨by omega,by omega⟩⟩;obtain⟨g,hg,g1,g2⟩:=fr at_ (Zp _) (by omega);refine⟨g,hg,g1,?_⟩;by_cases c:at_+many≤g.2
 ·exact c
 ·exact absurd (fr g.2 (by omega) (by omega)) (aK.Hl h.sep hg)
theorem fits_of(h:SI size B G){at_ many:Int}{g:dC}(hg:g∈G)(g1:g.1≤at_)(m1:1≤many)(g2:at_+many≤g.2):Fits size B at_ many:=by
 refine⟨?_,fun q hq=>fun⟨q1,q2⟩=>?_⟩
 ·have:=((h.fr (at_+many-1)).mp ⟨g,hg,by omega,by omega⟩).2.1
  omega
 ·have hp:=h.pos q hq
  by_cases c:at_≤q.1
  ·exact((h.fr q.1).mp ⟨g,hg,by omega,by omega⟩).2.2 q hq ⟨by omega,by omega⟩
  ·exact((h.fr at_).mp ⟨g,hg,by omega,by omega⟩).2.2 q hq ⟨by omega,by omega⟩
theorem oC(h:SI size B G){many:Int}(m1:1≤many)(no:∀ g∈G,g.2-g.1 < many)(at_:Int)(a1:1≤at_):¬Fits size B at_ many:=fun f=>by
 obtain⟨g,hg,g1,g2⟩:=f.gap h a1 m1;have:=no g hg;omega
theorem lF(h:SI size B G){many b e:Int}{L R:List dC}(eG:G=L++(b,e)::R)(m1:1≤many)(no:∀ g∈L,g.2-g.1 < many)(yes:many≤e-b):
  (b=1∨∃ q∈B,b=q.1+q.2.1)∧Fits size B b many∧∀ at_,1≤at_→Fits size B at_ many→b≤at_:=by
 have mg:(b,e)∈G:=by rw[eG];simp
 have sz:=h.jy mg;refine⟨?_,fits_of h mg (Zp _) m1 (by show b+many≤e;omega),fun at_ a1 f=>?_⟩
 ·by_cases c:b=1
  ·exact .inl c
  right
  have hn:=aK.zK h.sep mg;have hf:uw size B b:=(h.fr b).mp ⟨_,mg,Zp _,sz.2.1⟩;have U6:¬uw size B (b-1):=fun z=>hn ((h.fr _).mpr z);have:∃ q∈B,q.1≤b-1∧b-1 < q.1+q.2.1:=by
   apply Classical.byContradiction
   intro hc;refine U6 ⟨?_,?_,fun q hq hz=>hc ⟨q,hq,hz⟩⟩
   ·have:1≤b:=sz.1
    omega
   ·have:=hf.2.1;omega
  obtain⟨q,hq,q1,q2⟩:=this;refine⟨q,hq,?_⟩;have:=hf.2.2 q hq;by_cases c2:b < q.1+q.2.1
  ·exact absurd ⟨by omega,c2⟩ this
  ·omega
 ·obtain⟨g,hg,g1,g2⟩:=f.gap h a1 m1
  rw[eG]at hg;rcases YE.mp hg with hg | hg
  ·have:=no g hg;omega
  rcases Yq.mp hg with rfl | hg
  ·exact g1
  ·have sp:=h.sep
   rw[eG]at sp;have:=(aK.mid sp).2.1 g hg;have:e < g.1:=this;have:b < e:=sz.2.1;omega
theorem ig.app{L M:List dC}{x:Int}:ig (L++M) x↔ig L x∨ig M x:=by
 constructor
 ·rintro⟨g,hg,h⟩
  rcases YE.mp hg with hg | hg
  ·exact .inl ⟨g,hg,h⟩
  ·exact .inr ⟨g,hg,h⟩
 ·rintro(⟨g,hg,h⟩ | ⟨g,hg,h⟩)
  ·exact⟨g,Zw _ hg,h⟩
  ·exact⟨g,YZ _ hg,h⟩
theorem ig.cons{g:dC}{M:List dC}{x:Int}:ig (g::M) x ↔(g.1≤x∧x < g.2)∨ig M x:=by
 constructor
 ·rintro⟨k,hk,h⟩
  rcases Yq.mp hk with rfl | hk
  ·exact .inl h
  ·exact .inr ⟨k,hk,h⟩
 ·rintro(h | ⟨k,hk,h⟩)
  ·exact⟨g,by simp,h⟩
  ·exact⟨k,by simp[hk],h⟩
theorem ua{q:bq}{x:Int}:uw size (B++[q]) x↔uw size B x∧¬(q.1≤x∧x < q.1+q.2.1):=by
 constructor
 ·rintro⟨a,b,c⟩
  exact⟨⟨a,b,fun p hp=>c p (by simp[hp])⟩,c q (by simp)⟩
 ·rintro⟨⟨a,b,c⟩,d⟩
  refine⟨a,b,fun p hp=>?_⟩;rcases YE.mp hp with hp | hp
  ·exact c p hp
  ·rw[YA.mp hp];exact d
def gM(b many e:Int):List dC:=if b+many < e then [(b+many,e)]else []
theorem SI.take(h:SI size B G){many b e hand:Int}{L R:List dC}(eG:G=L++(b,e)::R)(m1:1≤many)(yes:many≤e-b):SI size (B++[(b,many,hand)]) (L++gM b many e++R):=by
 have mg:(b,e)∈G:=by rw[eG];simp
 have sz:=h.jy mg;have Sa:1≤b:=sz.1;have Xx:e≤size+1:=sz.2.2;have fit:Fits size B b many:=fits_of h mg (Zp _) m1 (by show b+many≤e;omega);have sp:=h.sep;rw[eG]at sp;obtain⟨hL,hR,sL,_,be,sR⟩:=aK.mid sp;have hL:∀ l∈L,l.2 < b:=hL;have hR:∀ r∈R,e < r.1:=hR;have be:b < e:=be;have sR:aK R e:=sR;refine⟨?_,fun x=>?_,fun q hq=>?_,?_⟩
 ·unfold gM
  split
  ·rw[Yt]
   exact aK.join sL (by omega) (fun l hl=>by have:=hL l hl;omega) (by omega) sR
  ·rw[YY]
   exact aK.Gj sL (by omega) (fun l hl=>by have:=hL l hl;omega) sR
 ·rw[ua,← h.fr x,eG,ig.app,ig.app,ig.app,ig.cons]
  have hx:ig (gM b many e) x ↔(b+many≤x∧x < e):=by
   unfold gM;split
   ·exact⟨fun⟨k,hk,z⟩=>by rw[YA.mp hk]at z;exact z,fun z=>⟨(b+many,e),by simp,z⟩⟩
   ·exact⟨fun⟨k,hk,z⟩=>(nomatch hk),fun z=>by omega⟩
  rw[hx];constructor
  ·rintro((⟨l,hl,z⟩ | z) | ⟨r,hr,z⟩)
   ·exact⟨.inl ⟨l,hl,z⟩,by show ¬(b≤x∧x < b+many);have:=hL l hl;omega⟩
   ·exact⟨.inr (.inl ⟨by show b≤x;omega,z.2⟩),by show ¬(b≤x∧x < b+many);omega⟩
   ·exact⟨.inr (.inr ⟨r,hr,z⟩),by show ¬(b≤x∧x < b+many);have:=hR r hr;omega⟩
  ·rintro⟨z | z | z,n⟩
   ·exact .inl (.inl z)
   ·have n:¬(b≤x∧x < b+many):=n
    have z:b≤x∧x < e:=z;exact .inl (.inr (by omega))
   ·exact .inr z
 ·rcases YE.mp hq with hq | hq
  ·exact h.pos q hq
  ·rw[YA.mp hq];exact⟨Sa,m1,by show b+many≤size+1;omega⟩
 ·rw[YD]
  refine⟨h.HA,aax _ _,fun p hp q hq=>?_⟩;rw[YA.mp hq];have:=fit.2 p hp;show p.1+p.2.1≤b∨b+many≤p.1
  omega
theorem SI.Fb(h:SI size B G){q:bq}(hq:q∈B){L R:List dC}(eG:G=L++R)(hL:∀ l∈L,l.1 < q.1)(hR:∀ r∈R,q.1≤r.1):(∀ l∈L,l.2≤q.1)∧∀ r∈R,q.1+q.2.1≤r.1:=by
 have hp:=h.pos q hq;refine⟨fun l hl=>?_,fun r hr=>?_⟩
 ·have ml:l∈G:=by rw[eG];exact Zw _ hl
  have:=hL l hl;by_cases c:l.2≤q.1
  ·exact c
  ·exact absurd ⟨Zp _,by omega⟩ (((h.fr q.1).mp ⟨l,ml,by omega,by omega⟩).2.2 q hq)
 ·have mr:r∈G:=by rw[eG];exact YZ _ hr
  have:=hR r hr;have rr:=aK.mem h.sep mr;have:=((h.fr r.1).mp ⟨r,mr,Zp _,rr.2⟩).2.2 q hq;omega
theorem SI.give(h:SI size B G){B1 B2:List bq}{q:bq}(eB:B=B1++q::B2){L R:List dC}{b e:Int}(hG:∀ x,ig G x∨(q.1≤x∧x < q.1+q.2.1)↔ig (L++(b,e)::R) x)(sL:aK L 0)(sR:aK R e)(b0:0 < b)(hL:∀ l∈L,l.2 < b)(be:b < e):
  SI size (B1++B2) (L++(b,e)::R):=by
 have hq:q∈B:=by rw[eB];simp
 have hp:=h.pos q hq;have ds:=h.HA;rw[eB,YD,aad]at ds;obtain⟨d1,⟨d2,d3⟩,d4⟩:=ds;have dq:∀ p∈B1++B2,p.1+p.2.1≤q.1∨q.1+q.2.1≤p.1:=fun p hp=>by
  rcases YE.mp hp with hp | hp
  ·exact d4 p hp q (by simp)
  ·have:=d2 p hp;omega
 refine⟨aK.join sL b0 hL be sR,fun x=>?_,fun p hp=>h.pos p (by rw[eB];rcases YE.mp hp with hp | hp<;>simp[hp]),?_⟩
 ·rw[← hG x,h.fr x]
  constructor
  ·rintro(⟨x1,x2,x3⟩ | ⟨x1,x2⟩)
   ·exact⟨x1,x2,fun p hp=>x3 p (by rw[eB];rcases YE.mp hp with hp | hp<;>simp[hp])⟩
   ·refine⟨by omega,by omega,fun p hp=>?_⟩
    have:=dq p hp;omega
  ·rintro⟨x1,x2,x3⟩
   by_cases c:q.1≤x∧x < q.1+q.2.1
   ·exact .inr c
   ·refine .inl ⟨x1,x2,fun p hp=>?_⟩
    rw[eB]at hp;rcases YE.mp hp with hp | hp
    ·exact x3 p (Zw _ hp)
    ·rcases Yq.mp hp with rfl | hp
     ·exact c
     ·exact x3 p (YZ _ hp)
 ·rw[YD]
  exact⟨d1,d3,fun p hp r hr=>d4 p hp r (by simp[hr])⟩
theorem SI.init{size:Int}(h:1≤size):SI size [] [(1,size+1)]:=by
 refine⟨⟨by show(0:Int) < 1;decide,by show 1 < size+1;omega,trivial⟩,fun x=>?_,fun q hq=>(nomatch hq),.nil⟩;constructor
 ·rintro⟨g,hg,g1,g2⟩
  rw[YA.mp hg]at g1 g2;exact⟨g1,by have:x < size+1:=g2;omega,fun q hq=>(nomatch hq)⟩
 ·rintro⟨x1,x2,_⟩
  exact⟨(1,size+1),by simp,x1,by show x < size+1;omega⟩
theorem DU{L R:List dC}{b e:Int}(sep:aK (L++R) 0)(sR:∀ r∈R,e≤r.1)(be:b < e):
  ∃(R':List dC) (e':Int),((∃ R2,R=(e,e')::R2∧R'=R2)∨(R'=R∧e'=e∧∀ g r,R=g::r→g.1≠e))∧(aK R' e'∧∀ x,ig R x∨(b≤x∧x < e)↔ig R' x∨(b≤x∧x < e'))∧e≤e':=by
 obtain⟨_,sr⟩:=aK.app.mp sep;cases R with
 | nil=>exact⟨[],e,.inr ⟨rfl,rfl,fun g r h=>(nomatch h)⟩,⟨trivial,fun x=>Iff.rfl⟩,Zp _⟩
 | cons g r=>
  obtain⟨h1,h2,h3⟩:=sr;by_cases c:g.1=e
  ·refine⟨r,g.2,.inl ⟨r,?_,rfl⟩,⟨h3,fun x=>?_⟩,by omega⟩
   ·rw[← c]
   ·rw[ig.cons]
    constructor
    ·rintro((z | z) | z)
     ·exact .inr (by omega)
     ·exact .inl z
     ·exact .inr (by omega)
    ·rintro(z | z)
     ·exact .inl (.inr z)
     ·by_cases d:x < e
      ·exact .inr ⟨z.1,d⟩
      ·exact .inl (.inl ⟨by omega,z.2⟩)
  ·refine⟨g::r,e,.inr ⟨rfl,rfl,fun g' r' h=>by cases h;exact c⟩,⟨⟨?_,h2,h3⟩,fun x=>Iff.rfl⟩,Zp _⟩
   have:=sR g (by simp);omega
theorem DV{L R:List dC}{b:Int}(sep:aK (L++R) 0)(sL:∀ l∈L,l.2≤b)(b0:0 < b):
  ∃(L':List dC) (b':Int),((L=L'++[(b',b)])∨(L'=L∧b'=b∧∀ L2 g,L=L2++[g]→g.2≠b))∧(aK L' 0∧∀ e' x,b < e'→(ig L x∨(b≤x∧x < e')↔ig L' x∨(b'≤x∧x < e')))∧b'≤b∧0 < b'∧∀ l∈L',l.2 < b':=by
 obtain⟨sl,_⟩:=aK.app.mp sep;rcases aba L with e | ⟨L2,g,e⟩
 ·subst e
  exact⟨[],b,.inr ⟨rfl,rfl,fun L2 g h=>by simp at h⟩,⟨trivial,fun e' x _=>Iff.rfl⟩,Zp _,b0,fun l h=>(nomatch h)⟩
 rw[abb]at e;subst e;obtain⟨m1,m2,m3,m4,m5,m6⟩:=aK.mid sl;have gb:=sL g (by simp);by_cases c:g.2=b
 ·refine⟨L2,g.1,.inl (by rw[← c]),⟨m3,fun e' x be=>?_⟩,by omega,m4,m1⟩
  rw[ig.app,ig.cons];constructor
  ·rintro((z | z | ⟨_,z,_⟩) | z)
   ·exact .inl z
   ·exact .inr (by omega)
   ·cases z
   ·exact .inr (by omega)
  ·rintro(z | z)
   ·exact .inl (.inl z)
   ·by_cases d:x < b
    ·exact .inl (.inr (.inl (by omega)))
    ·exact .inr (by omega)
 ·refine⟨L2++[g],b,.inr ⟨rfl,rfl,fun L3 g3 h=>?_⟩,⟨sl,fun e' x _=>Iff.rfl⟩,Zp _,b0,fun l hl=>?_⟩
  ·have:=abF h rfl
   cases this.2;exact c
  ·rcases YE.mp hl with hl | hl
   ·have:=m1 l hl;omega
   ·rw[YA.mp hl];omega
theorem aK.len:∀{G:List dC} {lo M:Int},aK G lo→(∀ g∈G,g.2≤M)→lo≤M→(G.length:Int)≤M-lo
 | [],lo,M,_,_,h=>by simp;omega
 | g::r,lo,M,⟨a,b,c⟩,hM,h=>by
  have hg:=hM g (by simp);have:=aK.len c (fun k hk=>hM k (by simp[hk])) hg;rw[YF];omega
theorem SI.CF{size:Int}{B:List bq}{G:List dC}(h:SI size B G)(s:1≤size):(G.length:Int)≤size+1:=by
 have:=h.sep.len (M:=size+1) (fun g hg=>(h.jy hg).2.2) (by omega);omega
theorem SI.diff{size:Int}{B1 B2:List bq}{q:bq}{G:List dC}(h:SI size (B1++q::B2) G):∀ p∈B1++B2,p.1≠q.1:=fun p hp e=>by
 have hq:=h.pos q (by simp);have XY:=h.pos p (by rcases YE.mp hp with hp | hp<;>simp[hp])
 have ds:=h.HA;rw[YD,aad]at ds;obtain⟨d1,⟨d2,d3⟩,d4⟩:=ds;rcases YE.mp hp with hp | hp
 ·have:=d4 p hp q (by simp);omega
 ·have:=d2 p hp;omega
theorem aK.mono:∀{G:List dC} {lo:Int} {i j:Nat} {g k:dC},aK G lo→i < j→G[i]? = some g→G[j]? = some k→g.1 < k.1
 | x::r,lo,0,j+1,g,k,⟨a,b,c⟩,h,hi,hj=>by
  cases hi;have hk:k∈r:=ZT (by simpa using hj);have:=aK.mem c hk;omega
 | x::r,lo,i+1,j+1,g,k,⟨a,b,c⟩,h,hi,hj=>aK.mono (i:=i) (j:=j) c (by omega) (by simpa using hi) (by simpa using hj)
end
end Rk
set_option maxHeartbeats 4000000
namespace Tg
open PySem L2 L3 Rk
def top(i:Nat):Stmt:=PySem.Challenge.pw_tonguegate_k19_whole_the_book_again.main.body.getD i (.Pass ⟨0,0,0,0⟩)
def mem(i j:Nat):Stmt:=match top i with
 | .ClassDef _ _ _ b _ _ _ _ _ _ _=>b.getD j (.Pass ⟨0,0,0,0⟩)
 | _=>.Pass ⟨0,0,0,0⟩
local macro_rules | `(tactic| left)=>`(tactic| repeat (first
 | with_reducible refine Eb ?_ | with_reducible refine JU ?_ | with_reducible refine JQ ?_ | with_reducible refine R4 ?_ | with_reducible refine R0 ?_
 | ((with_reducible apply D8);exact rfl) | with_reducible refine Ea ?_ | with_reducible refine Ed ?_ | with_reducible refine JO ?_ | with_reducible refine AA ?_ | with_reducible refine Au ?_ | with_reducible refine Pu ?_
 | with_reducible refine Ek ?_ | with_reducible refine Ej ?_ | with_reducible refine R5 ?_ | with_reducible refine Eo ?_ | with_reducible refine Ep ?_ | with_reducible refine Pn ?_ | with_reducible refine Eg ?_ | with_reducible refine J8 ?_
 | with_reducible refine AG ?_ | with_reducible refine Es ?_ | with_reducible refine AF ?_ | with_reducible refine Ew ?_ | with_reducible refine RQ ?_ | with_reducible refine Ee ?_ | with_reducible refine Er ?_
 | with_reducible refine AB ?_ | with_reducible refine Ef ?_ | with_reducible refine D9 ?_ | with_reducible refine Eh ?_ | with_reducible refine AE ?_ | with_reducible refine II ?_ | with_reducible refine J5 ?_
 | with_reducible refine J7 ?_ | with_reducible refine Et ?_ | with_reducible refine Ay ?_ | with_reducible refine Pg ?_ | with_reducible refine Eu ?_ | with_reducible refine JX ?_ | ((with_reducible refine JV ?_ ?_);exact rfl) | with_reducible refine JY ?_ | with_reducible refine JZ ?_ | with_reducible refine JW ?_
 | with_reducible refine RN ?_ | with_reducible refine Pm ?_ | with_reducible refine RP ?_ | with_reducible refine RT ?_ | with_reducible refine JP ?_ | with_reducible refine JR ?_ | with_reducible refine Pk ?_ | with_reducible refine Em ?_ | with_reducible refine Po ?_ | with_reducible refine RO ?_ | with_reducible refine AD ?_ | with_reducible refine J6 ?_ | with_reducible refine xt ?_ | with_reducible refine Ec ?_ | with_reducible refine JK ?_ | with_reducible refine RY ?_ | with_reducible refine El ?_ | with_reducible refine Pq ?_ | with_reducible refine Ph ?_
 | with_reducible refine Ka ?_ | ((with_reducible apply eP);(first | assumption | exact bt);(first | exact Oz | exact Oy)) | ((with_reducible apply uX);(first | assumption | exact bt);exact rfl)
 | with_reducible refine And.intro (rfl:T.non=T.non) ?_ | with_reducible refine Pf ?_ | with_reducible refine RU ?_ | with_reducible refine RZ ?_ | with_reducible refine xv ?_ | ((with_reducible apply Pr);exact rfl;exact rfl;exact rfl) | with_reducible refine Pe ?_ | with_reducible refine R6 ?_ | with_reducible refine J9 ?_ | with_reducible refine J3 ?_ | with_reducible refine J4 ?_ | with_reducible refine JS ?_ | with_reducible refine JT ?_ | with_reducible refine J2 ?_ | with_reducible refine Ax ?_
 | with_reducible refine En ?_ | ((with_reducible apply Az);(first | assumption | exact bt);exact rfl) | with_reducible refine As ?_ | ((with_reducible apply xq);(first | assumption | exact bt);exact rfl) | with_reducible refine Pj ?_ | ((with_reducible apply JM);(first | assumption | exact bt);exact rfl) | ((with_reducible apply JN);(first | assumption | exact bt);exact rfl)
 | with_reducible refine Av ?_ | ((with_reducible apply xu);(first | assumption | exact bt);exact rfl) | with_reducible refine Aw ?_ | with_reducible refine RW ?_ | with_reducible refine RV ?_ | with_reducible refine RX ?_
 | ((with_reducible refine Ei ?_ ?_);exact rfl)
 | ((with_reducible refine Dl ?_ ?_);(first | exact⟨by decide,by decide,by decide⟩ | exact⟨by decide,by decide⟩ | exact Or.inl ⟨by decide,by decide⟩ | exact Or.inr ⟨by decide,by decide⟩ | ((show(0:Int) < _);decide)))
 | ((with_reducible refine Ad ?_ ?_);(first | exact rfl | decide +kernel)) | ((with_reducible refine sg ?_ ?_);(first | exact rfl | decide +kernel))))
theorem lJ{lo:Int}{n:Nat}{x:T}{r:List T}(h:x::r=hU lo n):∃ m,n=m+1∧x=.int lo∧r=hU (lo+1) m:=by
 cases n with
 | zero=>cases h
 | succ m=>cases h;exact⟨m,rfl,rfl,rfl⟩
theorem nY{lo:Int}{n:Nat}(h:[]=hU lo n):n=0:=by
 cases n with
 | zero=>rfl
 | succ m=>cases h
theorem menu{ns:List Int}{r:Int}(h0:0≤r)(h1:r < ns.length):∃ n,n∈ns∧jo (ns.map T.int) r=some (.int n):=by
 obtain⟨x,hx,hm⟩:=zj (xs:=ns.map T.int) h0 (by simpa using h1);obtain⟨n,hn,rfl⟩:=YS.mp hm;exact⟨n,hn,hx⟩
theorem bw{Γ G:Gp}{p:Addr}{o:O}(e:up Γ p o=G):G p=some o:=(congrFun e p).symm.trans bt
theorem cz{Γ G:Gp}{p:Addr}{o:O}(e:up Γ p o=G)(hp:Γ p=none):Le Γ G:=e ▸ .new hp
inductive Pt(Γ:Gp):T→Prop
 | non:Pt Γ .non
 | bl (b:Bool):Pt Γ (.bl b)
 | int (i:Int):Pt Γ (.int i)
 | str {z:Str} (l:z.length≤1000):Pt Γ (.str z)
 | tup {ts:List T} (l:ts.length≤999) (h:∀ t∈ts,Pt Γ t):Pt Γ (.tup ts)
 | lst {a:Addr} {ts:List T} (g:Γ a=some (.lst ts)):Pt Γ (.ref a)
 | dct {a:Addr} {ak:List (Key×T)} (g:Γ a=some (.dK ak)):Pt Γ (.ref a)
def isTup:T→Bool | .tup _=>true | _=>false
def isStr:T→Bool | .str _=>true | _=>false
def isInt:T→Bool | .int _=>true | .bl _=>true | _=>false
def Mx:T→Bool | .bl _=>true | _=>false
section
variable {K:W.Frag}{Γ:Gp}{t:T}
theorem iS{a:Addr}{ts:List T}(g:Γ a=some (.lst ts)):fC Γ (.ref a)=some "list" := by
 show(match Γ a with | some (.lst _)=>some "list" | some (.dK _)=>some "dict" | _=>none)=_
 rw[g]
theorem jN{a:Addr}{ts:List (Key×T)}(g:Γ a=some (.dK ts)):fC Γ (.ref a)=some "dict" := by
 show(match Γ a with | some (.lst _)=>some "list" | some (.dK _)=>some "dict" | _=>none)=_
 rw[g]
theorem mU(h:Pt Γ t):∃ n,fC Γ t=some n∧W.kitOne K (.type n) (.type "tuple")=some (isTup t):=by
 cases h with
 | lst g=>exact⟨_,iS g,rfl⟩
 | dct g=>exact⟨_,jN g,rfl⟩
 | _=>exact⟨_,rfl,rfl⟩
theorem in_str(h:Pt Γ t):∃ n,fC Γ t=some n∧W.kitOne K (.type n) (.type "str")=some (isStr t):=by
 cases h with
 | lst g=>exact⟨_,iS g,rfl⟩
 | dct g=>exact⟨_,jN g,rfl⟩
 | _=>exact⟨_,rfl,rfl⟩
theorem km(h:Pt Γ t):∃ n,fC Γ t=some n∧W.kitOne K (.type n) (.type "int")=some (isInt t):=by
 cases h with
 | lst g=>exact⟨_,iS g,rfl⟩
 | dct g=>exact⟨_,jN g,rfl⟩
 | _=>exact⟨_,rfl,rfl⟩
theorem Gm(h:Pt Γ t):∃ n,fC Γ t=some n∧W.kitOne K (.type n) (.type "bool")=some (Mx t):=by
 cases h with
 | lst g=>exact⟨_,iS g,rfl⟩
 | dct g=>exact⟨_,jN g,rfl⟩
 | _=>exact⟨_,rfl,rfl⟩
theorem ir{Ty:String}{B:T→Bool}{Q:Bool→Prop}(h:∃ n,fC Γ t=some n∧W.kitOne K (.type n) (.type Ty)=some (B t))(q:Q (B t)):∃ n b,fC Γ t=some n∧W.kitOne K (.type n) (.type Ty)=some b∧Q b:=by
 obtain⟨n,a,b⟩:=h;exact⟨n,_,a,b,q⟩
end
theorem jU{H:Hp}:∀ ns:List Int,Rs H (ns.map V.int) (ns.map T.int)
 | []=>bT
 | n::r=>aY dD (jU r)
def cG(Γ:Gp)(a:Addr)(c:Nat):Prop:=∃ b0 b1 b2:Int,Γ a=some (.lst [.int b0,.int b1,.int b2])∧0≤b1∧b1 < 2147483647∧0≤b2∧b2+c≤1000000000
theorem cG.kq{Γ Γ':Gp}{a:Addr}{c:Nat}{l:List Addr}(h:cG Γ a c)(f:Kq l Γ Γ')(n:a∉l):cG Γ' a c:=by
 obtain⟨b0,b1,b2,e,r⟩:=h;exact⟨b0,b1,b2,f a _ n e,r⟩
theorem cG.le{Γ Γ':Gp}{a:Addr}{c:Nat}(h:cG Γ a c)(f:Le Γ Γ'):cG Γ' a c:=h.kq (l:=[]) f.kq (by simp)
theorem cG.nn{Γ:Gp}{a p:Addr}{c:Nat}(h:cG Γ a c)(n:Γ p=none):p≠a:=by
 obtain⟨b0,b1,b2,e,r⟩:=h;exact(jD e n).symm
theorem cG.less{Γ:Gp}{a:Addr}{c d:Nat}(h:cG Γ a c)(l:d≤c):cG Γ a d:=by
 obtain⟨b0,b1,b2,e,r0,r1,r2,r3⟩:=h;exact⟨b0,b1,b2,e,r0,r1,r2,by omega⟩
section
variable {P:Program}{w:World}{K:W.Frag}{mg:Str→Option Value}{base:Heap}{f:Addr}{fd:FuncData}
abbrev cc:Stmt:=top 14
theorem jR:aE ["script","k"] ["script","k"] (ai cc):=⟨rfl,rfl,rfl,by decide +kernel,rfl,by decide +kernel,by decide +kernel⟩
def E5(K:W.Frag):eK:=fun ts Γ Z _=>∃(a:Addr) (ns:List Int) (k:Int),ts=[.scr K a (ns.map T.int),.int k]∧0≤k∧∀ c:Int,Z (.int c) Γ
theorem vP(F:gj K "_law_cell_at" "_law_cell_at" cc f fd)(bZ:mg "len" = none):bJ P w K mg base ic 1 f fd ["script","k"] (cp (E5 K)):=by
 refine lO F jR (fun ts Γ Z Y h=>?_) (fun cM A outer s H E ts Γ Z Y hr h=>?_)
 ·obtain⟨a,ns,k,rfl,_⟩:=h
  rfl
 obtain⟨a,ns,k,rfl,k0,q⟩:=h;refine⟨_,(aa (bF (aw gO (qv 1) (bO sd rfl bZ aaa (ae (qv 0) ag)) (aG _)) (aa (aI (A5 (qv 0) (qv 1) (fun _ _=>rfl)))
  af) af)
  (aa (aI aj)
  af)),?_⟩
 simp only[aS];left;refine⟨a,_,rfl,?_⟩;left;refine cN (fun c=>?_) (fun c=>?_)
 ·have c:=YU c
  rw[Yw]at c;left;obtain⟨j,rfl⟩:∃ j:Nat,k=j:=⟨k.toNat,by omega⟩;have hk:j < ns.length:=by omega
  have e:jo (ns.map T.int) (j:Int)=some (.int ns[j]):=bY (by simp[hk]);refine⟨a,_,_,_,rfl,rfl,e,?_⟩;exact bh .refl (q _)
 ·left
  exact bh .refl (q _)
abbrev dJ:Stmt:=top 15
theorem jS:aE ["cell","place","start"] ["cell","place"] (ai dJ):=⟨rfl,rfl,rfl,by decide +kernel,rfl,by decide +kernel,by decide +kernel⟩
def E7:eK:=fun ts Γ Z _=>∃(c:Int) (p:Int),ts=[.int c,.int p]∧0≤p∧p≤63∧∀(a:Addr) (Γ':Gp),Γ a=none→cG Γ' a 1000→Le Γ Γ'→Z (.ref a) Γ'
theorem BM(F:gj K "_law_bag" "_law_bag" dJ f fd)(lz:mg "max" = none):bJ P w K mg base ic 1 f fd ["cell","place"] (cp E7):=by
 refine lO F jS (fun ts Γ Z Y h=>?_) (fun cM A outer s H E ts Γ Z Y hr h=>?_)
 ·obtain⟨c,p,rfl,_⟩:=h
  rfl
 obtain⟨c,p,rfl,p0,p1,q⟩:=h;refine⟨_,(aa (aF (i:=2) jS.nd rfl (Or.inl rfl) (aO ka (aO bM (aO qj (aO ka (qv 0) aj) aj) (aO qj aj (aO qi (aO bM (qv 1) aj) aj))) aj))
  (aa (aI (bU (ae (bO (rY rfl) rfl lz PyProof.Rows.boot_max (ae aj (ae (aO iZ (qv 0) (aO qi aj aj)) ag))) (ae (qv 2) (ae (qv 1) ag)))))
  af)),?_⟩
 simp only[aS];left;refine Dl ⟨by decide,by decide,YQ (show(p+1).natAbs < 100 by omega) (by decide)⟩ ?_;left;have h0:=abc (c % 2147483647 * 69621+7919 * (p+1) ^ Int.toNat 3) (by decide:(2147483647:Int)≠0);have h1:=aaQ (c % 2147483647 * 69621+7919 * (p+1) ^ Int.toNat 3) (by decide:(0:Int) < 2147483647);generalize (c % 2147483647 * 69621+7919 * (p+1) ^ Int.toNat 3) % 2147483647=st at *
 intro a ha;generalize e1:up _ a (O.lst _)=Γ1;have g1:=bw e1;have l1:=cz e1 ha
 exact bh .refl (q a Γ1 ha ⟨_,_,_,g1,h0,h1,p0,by omega⟩ l1)
abbrev dk:Stmt:=top 16
theorem jc:aE ["bag","many","found"] ["bag","many"] (ai dk):=⟨rfl,rfl,rfl,by decide +kernel,rfl,by decide +kernel,by decide +kernel⟩
def xA:eK:=fun ts Γ Z _=>∃(a:Addr) (m:Int) (c:Nat),ts=[.ref a,.int m]∧cG Γ a (c+1)∧0 < m∧m≤1000000000∧∀(r:Int) (Γ':Gp),0≤r→r < m→cG Γ' a c→Fr [a] Γ Γ'→Z (.int r) Γ'
theorem yI(F:gj K "_law_draw" "_law_draw" dk f fd):bJ P w K mg base ic 1 f fd ["bag","many"] (cp xA):=by
 refine lO F jc (fun ts Γ Z Y h=>?_) (fun cM A outer s H E ts Γ Z Y hr h=>?_)
 ·obtain⟨a,m,c,rfl,_⟩:=h
  rfl
 obtain⟨a,m,c,rfl,⟨b0,b1,b2,g,r0,r1,r2,r3⟩,m0,m1,q⟩:=h;refine⟨_,(aa (bF (aw lN (aV (qv 0) aj (fun _ _=>rfl)) aj (aG _)) (aa (aF (i:=2) jc.nd rfl (Or.inl rfl) (aO ka (aV (qv 0) aj (fun _ _=>rfl)) (qv 1)))
  (aa (hV (aO mQ (aV (qv 0) aj (fun _ _=>rfl)) (qv 1)) (mI (qv 0) aj))
  (aa (aI (qv 2))
  af))) af)
  (aa (hV (aO bM (aV (qv 0) aj (fun _ _=>rfl)) aj) (mI (qv 0) aj))
  (aa (hV (aO ka (aO qi (aO bM (aV (qv 0) aj (fun _ _=>rfl)) (aO qj aj (aV (qv 0) aj (fun _ _=>rfl)))) aj) aj) (mI (qv 0) aj))
  (aa (aI (aO ka (aO mQ (aV (qv 0) aj (fun _ _=>rfl)) aj) (qv 1)))
  af)))),?_⟩
 simp only[aS];left;have Oz:∀{x y z:T},jo [x,y,z] 0=some x:=fun {x y z}=>bY (j:=0) rfl;have Oy:∀{x y z:T},jo [x,y,z] 1=some y:=fun {x y z}=>bY (j:=1) rfl;have at2:∀{x y z:T},jo [x,y,z] 2=some z:=fun {x y z}=>bY (j:=2) rfl;refine cN (fun c0=>?_) (fun c0=>?_)
 ·left
  refine Dl (show(0:Int) < m from m0) ?_;left;refine Dl ⟨m0,Int.lt_of_le_of_lt m1 (by decide)⟩ ?_;left;refine bh .refl (q _ _ (abc _ (by omega)) (aaQ _ m0) ⟨b0 / m,b1,b2,bt,r0,r1,r2,by omega⟩ (Fr.set (by simp) _))
 left;refine eP g at2 ?_;left;refine eP (i:=2) (t:=.int (b2+1)) bt at2 ?_;left;refine Dl ⟨by decide,by decide,?_⟩ ?_
 ·exact aac (show(b1+15485863 * (b2+1)).natAbs≤15485863000000000+2147483647 by omega) (by decide)
 left;have h0:=abc ((b1+15485863 * (b2+1)) ^ Int.toNat 5) (by decide:(2147483647:Int)≠0);have h1:=aaQ ((b1+15485863 * (b2+1)) ^ Int.toNat 5) (by decide:(0:Int) < 2147483647);generalize (b1+15485863 * (b2+1)) ^ Int.toNat 5 % 2147483647=nb at *
 refine Dl (show(0:Int) < m from m0) ?_;refine CN (o:=.lst [.int b0,.int nb,.int (b2+1)]) ((Kq.set (by simp) _).trans (.set (by simp) _)) bt ?_;exact q _ _ (abc _ (by omega)) (aaQ _ m0) ⟨b0,nb,b2+1,bt,h0,h1,by omega,by omega⟩ (Fr.set (by simp) _)
end
theorem fm{Γ Γ':Gp}{l:List Addr}{p:Addr}(k:Kq l Γ Γ')(h:Γ' p=none)(n:p∉l):Γ p=none:=by
 cases e:Γ p with
 | none=>rfl
 | some o=>have:=k p o n e;rw[h]at this;cases this
theorem eV{α β:Type}(f:α→β):∀(ls:List α) (j:Nat),(ls.map f).eraseIdx j=(ls.eraseIdx j).map f
 | [],j=>rfl
 | x::r,0=>rfl
 | x::r,j+1=>by
  show f x::(r.map f).eraseIdx j=f x::(r.eraseIdx j).map f
  rw[eV f r j]
theorem i5{α:Type}:∀(L:List α) (g:α) (R:List α),(L++g::R).eraseIdx L.length=L++R
 | [],g,R=>rfl
 | x::r,g,R=>by
  show x::(r++g::R).eraseIdx r.length=x::(r++R)
  rw[i5 r g R]
theorem wJ{i j:Int}(h:decide (V.int i=V.int j)=true):i=j:=V.int.inj (YU h)
theorem dR(x:T)(n:Nat):(List.replicate n [x]).flatten=List.replicate n x:=by
 induction n with
 | zero=>rfl
 | succ n ih=>rw[ZA,Z0,ih];rfl
abbrev DO:=Int→Option Int
def wT:Option Int→T
 | none=>.non
 | some n=>.int n
def pG(size:Int)(W:DO)(cs:List T):Prop:=∀ a:Int,1≤a→a≤size→cs[a.toNat]? = some (wT (W a))
def w8(W:DO)(a n:Int)(v:Option Int):DO:=fun x=>if a≤x∧x < a+n then v else W x
theorem pG.slice{size a n:Int}{W:DO}{cs:List T}{v:Option Int}(h:pG size W cs)(l:(cs.length:Int)=size+1)(a1:1≤a)(n0:0≤n)(an:a+n≤size+1):pG size (w8 W a n v) (cs.take a.toNat++List.replicate n.toNat (wT v)++cs.drop (a+n).toNat):=by
 intro x x1 x2;have l1:(cs.take a.toNat).length=a.toNat:=by rw[YG];omega
 have l2:(cs.take a.toNat++List.replicate n.toNat (wT v)).length=(a+n).toNat:=by rw[Yo,l1,Zs];omega
 unfold w8;by_cases c1:x < a
 ·rw[YN (by omega),Y6 (by omega),Y6 (by omega),ZZ (by omega)]
  exact h x x1 x2
 by_cases c2:x < a+n
 ·rw[YV ⟨by omega,c2⟩,Y6 (by omega),YT (by omega),l1,aay,YV (by omega)]
 ·rw[YN (by omega),YT (by omega),l2,abx,show(a+n).toNat+(x.toNat-(a+n).toNat)=x.toNat by omega]
  exact h x x1 x2
theorem pG.set{size a:Int}{W:DO}{cs:List T}{v:Option Int}(h:pG size W cs)(l:(cs.length:Int)=size+1)(a1:1≤a)(as:a≤size):pG size (w8 W a 1 v) (cs.set a.toNat (wT v)):=by
 intro x x1 x2;unfold w8;by_cases c:x=a
 ·subst c
  rw[YV (by omega),aa4 (by omega)]
 ·rw[YN (by omega),abe (by omega)]
  exact h x x1 x2
structure Mm where
 w:DO
 d:List T
def Mm.D4(W:Mm)(b many hand:Int):Mm:=⟨w8 W.w b many (some 0),W.d++[.tup [.str "take",.int hand,.int b,.int many]]⟩
def Mm.G9(W:Mm)(ad len hand:Int):Mm:=⟨w8 W.w ad len none,W.d++[.tup [.str "give",.int hand,.int ad]]⟩
def jm(g:dC):T:=.tup [.int g.1,.int g.2]
def qy(q:bq):Key×T:=(.inl q.1,.tup [.int q.2.1,.int q.2.2])
structure qR(Γ:Gp)(C a pc pg ph pd:Addr)(size:Int)(G:List dC)(ak:List (Key×T))(nd:Nat)(W:Mm):Prop where
 ins:∃ dx,Γ a=some (.ins C dx [("words",.int size),("cells",.ref pc),("gaps",.ref pg),("held",.ref ph),("deeds",.ref pd)])
 cells:∃ cs,Γ pc=some (.lst cs)∧(cs.length:Int)=size+1∧pG size W.w cs
 i4:Γ pg=some (.lst (G.map jm))
 held:Γ ph=some (.dK ak)
 fB:∃ ds,Γ pd=some (.lst ds)∧ds.length+nd≤1000000∧ds=W.d
 n1:pc≠pg
 n2:pc≠pd
 n3:pg≠pd
 sz:1≤size∧size≤100000
def dy(ak:List (Key×T))(B:List bq):Prop:=(ak.map (·.1)).Nodup∧ak.Perm (B.map qy)
def iK(Γ:Gp)(C a:Addr)(own:List Addr)(size:Int)(B:List bq)(nd:Nat)(W:Mm):Prop:=∃ pc pg ph pd G ak,own=[pc,pg,ph,pd]∧qR Γ C a pc pg ph pd size G ak nd W∧SI size B G∧dy ak B
theorem qR.ne{Γ:Gp}{C a pc pg ph pd:Addr}{size:Int}{G:List dC}{ak:List (Key×T)}{nd:Nat}{W:Mm}(h:qR Γ C a pc pg ph pd size G ak nd W):a≠pc∧a≠pg∧a≠ph∧a≠pd∧ph≠pc∧ph≠pg∧ph≠pd:=by
 obtain⟨dx,hi⟩:=h.ins;obtain⟨cs,hc,_⟩:=h.cells;obtain⟨ds,hd,_⟩:=h.fB;exact⟨uC hi hc (by intro z;cases z),uC hi h.i4 (by intro z;cases z),uC hi h.held (by intro z;cases z),uC hi hd (by intro z;cases z),uC h.held hc (by intro z;cases z),uC h.held h.i4 (by intro z;cases z),uC h.held hd (by intro z;cases z)⟩
theorem qR.le{Γ Γ':Gp}{C a pc pg ph pd:Addr}{size:Int}{G:List dC}{ak:List (Key×T)}{nd:Nat}{W:Mm}(h:qR Γ C a pc pg ph pd size G ak nd W){l:List Addr}(k:Kq l Γ Γ')(na:a∉l)(n1:pc∉l)(n2:pg∉l)(n3:ph∉l)(n4:pd∉l):qR Γ' C a pc pg ph pd size G ak nd W:=by
 obtain⟨dx,hi⟩:=h.ins;obtain⟨cs,hc,lc⟩:=h.cells;obtain⟨ds,hd,ld⟩:=h.fB;exact⟨⟨dx,k _ _ na hi⟩,⟨cs,k _ _ n1 hc,lc⟩,k _ _ n2 h.i4,k _ _ n3 h.held,⟨ds,k _ _ n4 hd,ld⟩,h.n1,h.n2,h.n3,h.sz⟩
theorem iK.kq{Γ Γ':Gp}{C a:Addr}{own:List Addr}{size:Int}{B:List bq}{nd:Nat}{W:Mm}(h:iK Γ C a own size B nd W){l:List Addr}(k:Kq l Γ Γ')(na:a∉l)(n:∀ o∈own,o∉l):iK Γ' C a own size B nd W:=by
 obtain⟨pc,pg,ph,pd,G,ak,rfl,hf,si,he⟩:=h;exact⟨pc,pg,ph,pd,G,ak,rfl,hf.le k na (n _ (by simp)) (n _ (by simp)) (n _ (by simp)) (n _ (by simp)),si,he⟩
theorem iK.le{Γ Γ':Gp}{C a:Addr}{own:List Addr}{size:Int}{B:List bq}{nd:Nat}{W:Mm}(h:iK Γ C a own size B nd W)(k:Le Γ Γ'):iK Γ' C a own size B nd W:=h.kq (l:=[]) k.kq (by simp) (by simp)
theorem iK.nn{Γ:Gp}{C a p:Addr}{own:List Addr}{size:Int}{B:List bq}{nd:Nat}{W:Mm}(h:iK Γ C a own size B nd W)(n:Γ p=none):p≠a∧p∉own:=by
 obtain⟨pc,pg,ph,pd,G,ak,rfl,hf,si,he⟩:=h;obtain⟨dx,hi⟩:=hf.ins;obtain⟨cs,hc,lc⟩:=hf.cells;obtain⟨ds,hd,ld⟩:=hf.fB;refine⟨(jD hi n).symm,fun m=>?_⟩;simp only[Yq,Yy,Zr]at m;rcases m with rfl | rfl | rfl | rfl
 ·exact jD hc n rfl
 ·exact jD hf.i4 n rfl
 ·exact jD hf.held n rfl
 ·exact jD hd n rfl
theorem iK.less{Γ:Gp}{C a:Addr}{own:List Addr}{size:Int}{B:List bq}{n m:Nat}{W:Mm}(h:iK Γ C a own size B n W)(l:m≤n):iK Γ C a own size B m W:=by
 obtain⟨pc,pg,ph,pd,G,ak,e,hf,si,he⟩:=h;obtain⟨ds,hd,ld⟩:=hf.fB;exact⟨pc,pg,ph,pd,G,ak,e,{hf with fB:=⟨ds,hd,by omega,ld.2⟩},si,he⟩
section
variable {P:Program}{w:World}{K:W.Frag}{mg:Str→Option Value}{base:Heap}{f C aZ:Addr}{fd:FuncData}
abbrev cD:Stmt:=mem 12 0
theorem kU:aE ["self","words"] ["self","words"] (ai cD):=⟨rfl,rfl,rfl,by decide +kernel,rfl,by decide +kernel,by decide +kernel⟩
def ET(C:Addr):eK:=fun ts Γ Z _=>∃(x dx:Addr) (n:Int),ts=[.ref x,.int n]∧Γ x=some (.ins C dx [])∧1≤n∧n≤100000∧∀(own:List Addr) (Γ':Gp),(∀ o∈own,Γ o=none)→iK Γ' C x own n [] 1000000 ⟨fun _=>none,[]⟩→Kq [x] Γ Γ'→Z .non Γ'
theorem kZ(F:gj K "__init__" "Store.__init__" cD f fd)(ah:ju K C)(cg:aU K C "words")(aB:aU K C "cells")(ao:aU K C "gaps")(aM:aU K C "held")(aQ:aU K C "deeds"):bJ P w K mg base ic 1 f fd ["self","words"] (cp (ET C)):=by
 refine lO F kU (fun ts Γ Z Y h=>?_) (fun cM A outer s H E ts Γ Z Y hr h=>?_)
 ·obtain⟨x,dx,n,rfl,_⟩:=h
  rfl
 obtain⟨x,dx,n,rfl,gx,n1,n2,q⟩:=h;refine⟨_,(aa (jX ah cg (qv 0) (qv 1))
  (aa (jX ah aB (qv 0) (aO mP (bU (ae cY ag)) (aO bM (qv 1) aj)))
  (aa (jX ah ao (qv 0) (bU (ae (dP (ae aj (ae (aO bM (qv 1) aj) ag))) ag)))
  (aa (jX ah aM (qv 0) xP)
  (aa (jX ah aQ (qv 0) (bU ag))
  af))))),?_⟩
 simp only[aS];left;generalize e0:up Γ x (O.ins C dx _)=Γ0;have VC:=bw e0;have k0:Kq [x] Γ Γ0:=e0 ▸ .set (by simp) _
 intro p1 tY;generalize e1:up _ p1 (O.lst _)=Γ1;have g1:=bw e1;have l1:=cz e1 tY
 have DE:=l1 _ _ VC;left;refine⟨p1,n+1,_,rfl,rfl,g1,by omega,by omega,by show 1 * _≤_;rw[Zk];omega,?_⟩;intro pc MN;generalize e2:up _ pc (O.lst _)=Γ2;have gc:=bw e2;have l2:=cz e2 MN
 have Nk:=l2 _ _ DE;have k2:Kq [x] Γ Γ2:=k0.trans (l1.trans l2).kq;have FU:pc≠x:=(jD DE MN).symm;have fc:Γ pc=none:=fm (k0.trans l1.kq) MN (by simpa using FU);clear e0 e1 e2;left;generalize e3:up Γ2 x (O.ins C dx _)=Γ3;have zS:=bw e3;have k3:Kq [x] Γ2 Γ3:=e3 ▸ .set (by simp) _
 have QU:=k3 _ _ (by simpa using FU) gc;intro pg Jd;generalize e4:up _ pg (O.lst _)=Γ4;have gg:=bw e4;have l4:=cz e4 Jd
 have Nj:=l4 _ _ zS;have Nv:=l4 _ _ QU;have k4:Kq [x] Γ Γ4:=(k2.trans k3).trans l4.kq;have IQ:pg≠x:=(jD zS Jd).symm;have T7:pc≠pg:=jD QU Jd;have fg:Γ pg=none:=fm (k2.trans k3) Jd (by simpa using IQ);clear e3 e4;left;generalize e5:up Γ4 x (O.ins C dx _)=Γ5;have DD:=bw e5;have k5:Kq [x] Γ4 Γ5:=e5 ▸ .set (by simp) _
 have Nu:=k5 _ _ (by simpa using FU) Nv;have Nq:=k5 _ _ (by simpa using IQ) gg;unfold Q3;intro ph MM;generalize e6:up _ ph (O.dK _)=Γ6;have gh:=bw e6;have l6:=cz e6 MM
 have QP:=l6 _ _ DD;have Nt:=l6 _ _ Nu;have Np:=l6 _ _ Nq;have k6:Kq [x] Γ Γ6:=(k4.trans k5).trans l6.kq;have LN:ph≠x:=(jD DD MM).symm;have fh:Γ ph=none:=fm (k4.trans k5) MM (by simpa using LN);clear e5 e6;left;generalize e7:up Γ6 x (O.ins C dx _)=Γ7;have QO:=bw e7;have k7:Kq [x] Γ6 Γ7:=e7 ▸ .set (by simp) _
 have QT:=k7 _ _ (by simpa using FU) Nt;have QR:=k7 _ _ (by simpa using IQ) Np;have VG:=k7 _ _ (by simpa using LN) gh;intro pd GC;generalize e8:up _ pd (O.lst _)=Γ8;have gd:=bw e8;have l8:=cz e8 GC
 have Ni:=l8 _ _ QO;have k8:Kq [x] Γ Γ8:=(k6.trans k7).trans l8.kq;have PY:pd≠x:=(jD QO GC).symm;have T8:pc≠pd:=jD QT GC;have TY:pg≠pd:=jD QR GC;have X7:Γ pd=none:=fm (k6.trans k7) GC (by simpa using PY);clear e7 e8;left;generalize e9:up Γ8 x (O.ins C dx _)=Γ9;have QN:=bw e9;have k9:Kq [x] Γ8 Γ9:=e9 ▸ .set (by simp) _
 refine bh .refl (q [pc,pg,ph,pd] Γ9 (fun o ho=>?_) ⟨pc,pg,ph,pd,[(1,n+1)],[],rfl,⟨⟨dx,QN⟩,⟨_,k9 _ _ (by simpa using FU) (l8 _ _ QT),?_⟩,k9 _ _ (by simpa using IQ) (l8 _ _ QR),k9 _ _ (by simpa using LN) (l8 _ _ VG),⟨[],k9 _ _ (by simpa using PY) gd,by decide,rfl⟩,T7,T8,TY,n1,n2⟩,SI.init n1,.nil,.refl _⟩ (k8.trans k9))
 ·simp only[Yq,Yy,Zr]at ho
  rcases ho with rfl | rfl | rfl | rfl<;>assumption
 ·rw[dR]
  refine⟨by rw[Zs];omega,fun a h1 h2=>?_⟩;rw[aay,YV (by omega)];rfl
abbrev bC:Stmt:=mem 12 2
theorem bS:aE ["self","many","place","begin","end"] ["self","many"] (ai bC):=⟨rfl,rfl,rfl,by decide +kernel,rfl,by decide +kernel,by decide +kernel⟩
def EZ(C aZ:Addr):eK:=fun ts Γ Z Y=>∃(x pc pg ph pd:Addr) (many size:Int) (G:List dC) (ak:List (Key×T)) (nd:Nat) (W:Mm),ts=[.ref x,.int many]∧qR Γ C x pc pg ph pd size G ak nd W∧G.length≤100001 ∧
 (∀(L R:List dC) (b e:Int),G=L++(b,e)::R→(∀ g∈L,g.2-g.1 < many)→many≤e-b→Z (.int (L.length:Nat)) Γ)∧((∀ g∈G,g.2-g.1 < many)→Y (.ref aZ) Γ)
theorem mR(F:gj K "first_gap" "Store.first_gap" bC f fd)(ah:ju K C)(ao:aU K C "gaps")(eU:mg "NoRoom" = some (.ref aZ))(jK:W.excIn K aZ [.type "ValueError",.type "Exception",.type "BaseException",.type "object"] "ValueError.__new__" = true)(fH:mg "enumerate" = none):bJ P w K mg base (nL P w) 1 f fd ["self","many"] (cp (EZ C aZ)):=by
 refine vM F bS (fun ts Γ Z Y h=>?_) (fun cM A outer s H E ts Γ Z Y hr h=>?_)
 ·obtain⟨x,pc,pg,ph,pd,many,size,G,ak,nd,W,rfl,_⟩:=h
  rfl
 obtain⟨x,pc,pg,ph,pd,many,size,G,ak,nd,W,rfl,st,gl,q,qE⟩:=h;refine⟨_,(aa (fS yr rfl (vi rfl fH (ae (bG ah ao (qv 0)) ag)) (eJ (n:=2) rfl (aN (aL (i:=2) bS.nd rfl (Or.inl rfl)) (aN (eJ (n:=2) rfl (aN (aL (i:=3) bS.nd rfl (Or.inl rfl)) (aN (aL (i:=4) bS.nd rfl (Or.inl rfl)) dz))) dz))) (aa (bF (aw FH (aO iZ (qv 4) (qv 3)) (qv 1) (aG _)) (aa (aI (qv 2))
  af) af)
  af))
  (aa (eQ rfl rfl eU jK Zy (ae dt ag) dN)
  af)),?_⟩
 simp only[aS];obtain⟨dx,gx⟩:=st.ins;have gg:=st.i4;left;unfold Qi;left;refine⟨pg,_,rfl,bx gg,?_⟩;refine⟨fun rest τ Γ'=>∃(L M:List dC) (o2 o3 o4:Option T),rest=jn L.length (M.map jm)∧G=L++M∧(∀ g∈L,g.2-g.1 < many)∧τ=[some (.ref x),some (.int many),o2,o3,o4]∧Γ'=Γ,⟨[],G,none,none,none,rfl,rfl,fun _ h=>(nomatch h),rfl,rfl⟩,?_,?_⟩
 ·rintro τ Γ' ⟨L,M,o2,o3,o4,er,eG,hL,rfl,rfl⟩
  have hM:M=[]:=by
   cases M with
   | nil=>rfl
   | cons _ _=>cases er
  subst hM;rw[YY]at eG;subst eG;refine⟨bx gg,?_⟩;left;exact⟨_,.refl,qE hL⟩
 ·rintro y r τ Γ' ⟨L,M,o2,o3,o4,er,eG,hL,rfl,rfl⟩
  cases M with
  | nil=>cases er
  | cons g M=>
   obtain⟨b,e⟩:=g;cases er;refine⟨bx gg,?_⟩;left;unfold jm;left;refine cN (fun c=>?_) (fun c=>?_)
   ·have c:=YU c
    left;exact bh .refl (q L M b e eG hL c)
   ·have c:=Y7 c
    left;refine⟨L++[(b,e)],M,_,_,_,?_,by rw[eG];simp,fun g hg=>?_,rfl,rfl⟩
    ·rw[Yo];rfl
    ·rcases YE.mp hg with hg | hg
     ·exact hL g hg
     ·rw[YA.mp hg];show e-b < many;omega
abbrev bu:Stmt:=mem 12 5
theorem bp:aE ["self","address","low","high","middle"] ["self","address"] (ai bu):=⟨rfl,rfl,rfl,by decide +kernel,rfl,by decide +kernel,by decide +kernel⟩
def EX(C:Addr):eK:=fun ts Γ Z _=>∃(x pc pg ph pd:Addr) (ad size:Int) (G:List dC) (ak:List (Key×T)) (nd:Nat) (W:Mm),ts=[.ref x,.int ad]∧qR Γ C x pc pg ph pd size G ak nd W∧aK G 0∧G.length≤100001 ∧
 ∀(L R:List dC),G=L++R→(∀ g∈L,g.1 < ad)→(∀ g∈R,ad≤g.1)→Z (.int (L.length:Nat)) Γ
theorem kY(F:gj K "gaps_ahead" "Store.gaps_ahead" bu f fd)(ah:ju K C)(ao:aU K C "gaps")(bZ:mg "len" = none):bJ P w K mg base ic 1 f fd ["self","address"] (cp (EX C)):=by
 refine lO F bp (fun ts Γ Z Y h=>?_) (fun cM A outer s H E ts Γ Z Y hr h=>?_)
 ·obtain⟨x,pc,pg,ph,pd,ad,size,G,ak,nd,W,rfl,_⟩:=h
  rfl
 obtain⟨x,pc,pg,ph,pd,ad,size,G,ak,nd,W,rfl,st,sep,gl,q⟩:=h;refine⟨_,(aa (aF (i:=2) bp.nd rfl (Or.inl rfl) aj)
  (aa (aF (i:=3) bp.nd rfl (Or.inl rfl) (bO i8 rfl bZ aaa (ae (bG ah ao (qv 0)) ag)))
  (aa (og ZP (aw gO (qv 2) (qv 3) (aG _)) (aa (aF (i:=4) bp.nd rfl (Or.inl rfl) (aO mQ (aO bM (qv 2) (qv 3)) aj))
  (aa (eI (bF (aw gO (aV (aV (bG ah ao (qv 0)) (qv 4) (fun _ _=>rfl)) aj (fun _ _=>rfl)) (qv 1) (aG _)) (aa (aF (i:=2) bp.nd rfl (Or.inl rfl) (aO bM (qv 4) aj))
  af) (aa (aF (i:=3) bp.nd rfl (Or.inl rfl) (qv 4))
  af)))
  af)))
  (aa (aI (qv 2))
  af)))),?_⟩
 simp only[aS];obtain⟨dx,gx⟩:=st.ins;have gg:=st.i4;left;refine iU gg ?_;rw[Yw];left;refine⟨fun m τ Γ'=>∃(lo hi:Nat) (o4:Option T),m=hi-lo∧lo≤hi∧hi≤G.length∧(∀ j g,j < lo→G[j]? = some g→g.1 < ad)∧(∀ j g,hi≤j→G[j]? = some g→ad≤g.1)∧τ=[some (.ref x),some (.int ad),some (.int (lo:Nat)),some (.int (hi:Nat)),o4]∧Γ'=Γ,⟨G.length,0,G.length,none,rfl,ZL _,Yz _,fun j g h=>absurd h (abM _),fun j g h e=>absurd (YO.mp e).1 (by omega),rfl,rfl⟩,?_⟩;rintro m τ Γ' ⟨lo,hi,o4,rfl,lh,hn,h1,h2,rfl,rfl⟩;left;refine cN (fun c=>?_) (fun c=>?_)
 ·have c:=YU c
  refine⟨fun τ Γ3=>∃(kN fE:Nat) (o4:Option T),fE-kN < hi-lo∧kN≤fE∧fE≤G.length∧(∀ j g,j < kN→G[j]? = some g→g.1 < ad)∧(∀ j g,fE≤j→G[j]? = some g→ad≤g.1)∧τ=[some (.ref x),some (.int ad),some (.int (kN:Nat)),some (.int (fE:Nat)),o4]∧Γ3=Γ',fun τ' Γ3 ⟨kN,fE,o4,a,b,c,d,e,f,g⟩=>⟨fE-kN,a,kN,fE,o4,rfl,b,c,d,e,f,g⟩,?_⟩;left;have em:((lo:Nat)+(hi:Nat):Int) / 2=(((lo+hi) / 2:Nat):Int):=by omega
  rw[em];have mlt:(lo+hi) / 2 < G.length:=by omega
  have eg:(G.map jm)[(lo+hi) / 2]? = some (jm G[(lo+hi) / 2]):=by simp[mlt]
  have eG:G[(lo+hi) / 2]? = some G[(lo+hi) / 2]:=by simp[mlt]
  generalize G[(lo+hi) / 2]=gm at *
  have U8:(lo+hi) / 2 < hi∧lo≤(lo+hi) / 2:=by omega
  generalize (lo+hi) / 2=mid at *
  refine⟨fun τ Γ3=>∃(kN fE:Nat) (o4:Option T),fE-kN < hi-lo∧kN≤fE∧fE≤G.length∧(∀ j g,j < kN→G[j]? = some g→g.1 < ad)∧(∀ j g,fE≤j→G[j]? = some g→ad≤g.1)∧τ=[some (.ref x),some (.int ad),some (.int (kN:Nat)),some (.int (fE:Nat)),o4]∧Γ3=Γ',?_,?_⟩
  ·left
   refine eP gg (bY eg) ?_;unfold jm;left;refine cN (fun c2=>?_) (fun c2=>?_)
   ·have c2:=YU c2
    left;refine⟨mid+1,hi,_,by omega,by omega,hn,fun j g hj ej=>?_,h2,rfl,rfl⟩;by_cases e:j=mid
    ·subst e;rw[eG]at ej;cases ej;exact c2
    ·exact Int.lt_trans (aK.mono sep (show j < mid by omega) ej eG) c2
   ·have c2:=Y7 c2
    left;refine⟨lo,mid,_,by omega,by omega,by omega,h1,fun j g hj ej=>?_,rfl,rfl⟩;by_cases e:j=mid
    ·subst e;rw[eG]at ej;cases ej;omega
    ·have:=aK.mono sep (show mid < j by omega) eG ej
     omega
  ·rintro τ Γ3 h
   left;exact h
 ·have c:=Y7 c
  have e:lo=hi:=by omega
  subst e;left;have hl:(G.take lo).length=lo:=by rw[YG];omega
  have z:=q (G.take lo) (G.drop lo) (YM _ _).symm (fun g hg=>by
   obtain⟨j,hj,rfl⟩:=aau hg;rw[hl]at hj;exact h1 j _ hj (by rw[List.getElem_take];simp[show j < G.length by omega])) (fun g hg=>by
   obtain⟨j,hj,rfl⟩:=aau hg;rw[Y3]at hj;exact h2 (lo+j) _ (by omega) (by rw[List.getElem_drop];simp[show lo+j < G.length by omega]))
  rw[hl]at z;exact bh .refl z
abbrev cf:Stmt:=mem 12 4
theorem cv:aE ["self","begin","end","place"] ["self","begin","end"] (ai cf):=⟨rfl,rfl,rfl,by decide +kernel,rfl,by decide +kernel,by decide +kernel⟩
def EO(C:Addr):eK:=fun ts Γ Z _=>∃(x pc pg ph pd:Addr) (b e size:Int) (G:List dC) (ak:List (Key×T)) (nd:Nat) (W:Mm),ts=[.ref x,.int b,.int e]∧qR Γ C x pc pg ph pd size G ak nd W∧aK G 0∧G.length≤100001∧0 < b∧b < e ∧
 (∀(L R:List dC),G=L++R→(∀ g∈L,g.1 < b)→(∀ g∈R,b≤g.1)→(∀ l∈L,l.2≤b)∧∀ r∈R,e≤r.1) ∧
 ∀(L R:List dC) (b' e':Int) (Γ':Gp),(∀ x,ig G x∨(b≤x∧x < e)↔ig (L++(b',e')::R) x)→aK L 0→aK R e'→0 < b'→(∀ l∈L,l.2 < b')→b' < e'→qR Γ' C x pc pg ph pd size (L++(b',e')::R) ak nd W→Kq [pg] Γ Γ'→Z .non Γ'
theorem vN(F:gj K "widen" "Store.widen" cf f fd)(h7:w5 P w K mg base C "gaps_ahead" 1 ["self","address"] (EX C))(ah:ju K C)(ao:aU K C "gaps")(bZ:mg "len" = none):bJ P w K mg base ic 2 f fd ["self","begin","end"] (cp (EO C)):=by
 refine lO F cv (fun ts Γ Z Y h=>?_) (fun cM A outer s H E ts Γ Z Y hr h=>?_)
 ·obtain⟨x,pc,pg,ph,pd,b,e,size,G,ak,nd,W,rfl,_⟩:=h
  rfl
 obtain⟨x,pc,pg,ph,pd,b,e,size,G,ak,nd,W,rfl,st,sep,gl,b0,be,hs,q⟩:=h;refine⟨_,(aa (aF (i:=3) cv.nd rfl (Or.inl rfl) (rA h7 hr (by omega) (qv 0) (ae (qv 1) ag)))
  (aa (eI (bF (PW.pt (fR (aw gO (qv 3) (bO i8 rfl bZ aaa (ae (bG ah ao (qv 0)) ag)) (aG _)) (ff (aw gP (aV (aV (bG ah ao (qv 0)) (qv 3) (fun _ _=>rfl)) aj (fun _ _=>rfl)) (qv 2) (aG _))))) (aa (aF (i:=2) cv.nd rfl (Or.inl rfl) (aV (gN Zb aaD aaC iA (bG ah ao (qv 0)) (ae (qv 3) ag)) aj (fun _ _=>rfl)))
  af) af))
  (aa (eI (bF (PW.pt (fR (aw lN (qv 3) aj (aG _)) (ff (aw gP (aV (aV (bG ah ao (qv 0)) (aO iZ (qv 3) aj) (fun _ _=>rfl)) aj (fun _ _=>rfl)) (qv 1) (aG _))))) (aa (A0 (i:=3) cv.nd rfl (Or.inl rfl) aj yv)
  (aa (aF (i:=1) cv.nd rfl (Or.inl rfl) (aV (gN Zb aaD aaC iA (bG ah ao (qv 0)) (ae (qv 3) ag)) aj (fun _ _=>rfl)))
  af)) af))
  (aa (cL (gN Zb PySem.F.slot_list_insert PySem.F.type_list_insert tN (bG ah ao (qv 0)) (ae (qv 3) (ae (dP (ae (qv 1) (ae (qv 2) ag))) ag))))
  af)))),?_⟩
 simp only[aS];obtain⟨dx,gx⟩:=st.ins;have gg:=st.i4;have ne:=st.ne;left;refine⟨x,pc,pg,ph,pd,b,size,G,ak,nd,W,rfl,st,sep,gl,fun L R eG hL hR=>?_⟩;obtain⟨sL,sR⟩:=hs L R eG hL hR;obtain⟨R',e',Js,iR,ee⟩:=DU (L:=L) (R:=R) (b:=b) (by rw[← eG];exact sep) sR be;obtain⟨L',b',Jt,iL,bb,WT,lb⟩:=DV (L:=L) (R:=R) (b:=b) (by rw[← eG];exact sep) sL b0;have Uv:L.length+R.length≤100001:=by rw[eG,Yo]at gl;exact gl
 left;refine⟨fun τ Γ1=>τ=[some (.ref x),some (.int b),some (.int e'),some (.int (L.length:Nat))]∧Γ1 pg=some (.lst ((L++R').map jm))∧Kq [pg] Γ Γ1,?_,?_⟩
 ·left
  refine iU gg ?_;rw[Yw];left;refine cN (fun c=>?_) (fun c=>?_)
  ·have c:=YU c
   have hl:L.length < G.length:=by omega
   cases R with
   | nil=>rw[eG,YY]at hl;omega
   | cons g r=>
    have eg:(G.map jm)[L.length]? = some (jm g):=by rw[eG,Y2,YT (Yz _),aa7];rfl
    left;refine eP gg (bY eg) ?_;unfold jm;left;refine cN (fun c2=>?_) (fun c2=>?_)
    ·have c2:g.1=e:=wJ c2
     rcases Js with⟨R2,h1,h2⟩ | ⟨_,_,h3⟩
     rotate_left
     ·exact absurd c2 (h3 g r rfl)
     cases h1;subst h2;left;refine fz gg ?_;left;refine⟨pg,_,L.length,jm (e,e'),rfl,rfl,gg,by omega,eg,?_⟩;unfold jm;left;refine⟨rfl,?_,.set (by simp) _⟩;rw[bt,eV,eG,i5]
    ·have c2:g.1≠e:=fun z=>by rw[z]at c2;revert c2;simp
     rcases Js with⟨R2,h1,h2⟩ | ⟨h1,h2,_⟩
     ·cases h1;exact absurd rfl c2
     subst h1 h2;left;exact⟨rfl,by rw[← eG];exact gg,.refl⟩
  ·have c:=Y7 c
   have hl:R=[]:=by
    rw[eG,Yo]at c;exact ZH (by omega)
   subst hl;rcases Js with⟨R2,h1,h2⟩ | ⟨h1,h2,_⟩
   ·cases h1
   subst h1 h2;left;exact⟨rfl,by rw[← eG];exact gg,.refl⟩
 rintro τ Γ1 ⟨rfl,g1,k1⟩;have DE:=k1 _ _ (by simpa using ne.2.1) gx;have XQ:R'.length≤R.length:=by
  rcases Js with⟨R2,h1,h2⟩ | ⟨h1,_⟩
  ·rw[h1,h2];simp
  ·rw[h1];exact Yz _
 have XS:L'.length≤L.length:=by
  rcases Jt with h1 | ⟨h1,_⟩
  ·rw[h1];simp
  ·rw[h1];exact Yz _
 left;refine⟨fun τ Γ2=>τ=[some (.ref x),some (.int b'),some (.int e'),some (.int (L'.length:Nat))]∧Γ2 pg=some (.lst ((L'++R').map jm))∧Kq [pg] Γ Γ2,?_,?_⟩
 ·left
  refine cN (fun c=>?_) (fun c=>?_)
  ·have c:=YU c
   rcases aba L with eL | ⟨L2,g,eL⟩
   ·rw[eL]at c;exact absurd c (by simp)
   rw[abb]at eL;have ll:L.length=L2.length+1:=by rw[eL,Yo];rfl
   have ei:((L.length:Nat):Int)-1=((L2.length:Nat):Int):=by omega
   have eg:((L++R').map jm)[L2.length]? = some (jm g):=by
    rw[Y2,eL,Yt,YT (Yz _),aa7];rfl
   left;rw[ei];refine eP g1 (bY eg) ?_;unfold jm;left;refine cN (fun c2=>?_) (fun c2=>?_)
   ·have c2:g.2=b:=wJ c2
    rcases Jt with h1 | ⟨_,_,h3⟩
    rotate_left
    ·exact absurd c2 (h3 L2 g eL)
    obtain⟨h4,h5⟩:=abF (eL.symm.trans h1) rfl;cases h5;subst h4;left;refine⟨_,rfl,?_⟩;left;refine fz g1 ?_;left;refine⟨pg,_,L2.length,jm (b',b),rfl,by rw[ei],g1,by omega,eg,?_⟩;unfold jm;left;refine⟨by rw[ei];rfl,?_,k1.trans (.set (by simp) _)⟩;rw[bt,eV,eL,Yt];show some (O.lst ((L2++(b',b)::R').eraseIdx L2.length |>.map _))=_
    rw[i5]
   ·have c2:g.2≠b:=fun z=>by rw[z]at c2;revert c2;simp
    rcases Jt with h1 | ⟨h1,h2,_⟩
    ·obtain⟨h4,h5⟩:=abF (eL.symm.trans h1) rfl
     cases h5;exact absurd rfl c2
    subst h1 h2;left;exact⟨rfl,g1,k1⟩
  ·have c:=Y7 c
   have hl:L=[]:=ZH (by omega);subst hl;rcases Jt with h1 | ⟨h1,h2,_⟩
   ·simp at h1
   subst h1 h2;left;exact⟨rfl,g1,k1⟩
 rintro τ Γ2 ⟨rfl,g2,k2⟩;have Nk:=k2 _ _ (by simpa using ne.2.1) gx;left;refine fz g2 ?_;left;refine⟨pg,_,(L'.length:Nat),_,rfl,rfl,g2,by omega,by rw[Yw,Yo];omega,by rw[Yw,Yo,Zk];omega,?_⟩;left;have kF:Kq [pg] Γ2 (up Γ2 pg (.lst (((L'++R').map jm).take (L'.length:Int).toNat++[.tup [.int b',.int e']]++((L'++R').map jm).drop (L'.length:Int).toNat))):=.set (by simp) _;refine bh .refl (q L' R' b' e' _ (fun y=>?_) iL.1 iR.1 WT lb (by omega) ?_ (k2.trans kF))
 ·rw[eG,ig.app,ig.app,ig.cons]
  have i1:=iR.2 y;have i2:=iL.2 e' y (by omega);constructor
  ·rintro((z | z) | z)
   ·rcases i2.mp (.inl z)with z | z
    ·exact .inl z
    ·exact .inr (.inl z)
   ·rcases i1.mp (.inl z)with z | z
    ·exact .inr (.inr z)
    ·rcases i2.mp (.inr z)with z | z
     ·exact .inl z
     ·exact .inr (.inl z)
   ·rcases i1.mp (.inr z)with z | z
    ·exact .inr (.inr z)
    ·rcases i2.mp (.inr z)with z | z
     ·exact .inl z
     ·exact .inr (.inl z)
  ·rintro(z | z | z)
   ·rcases i2.mpr (.inl z)with z | z
    ·exact .inl (.inl z)
    ·rcases i1.mpr (.inr z)with z | z
     ·exact .inl (.inr z)
     ·exact .inr z
   ·rcases i2.mpr (.inr z)with z | z
    ·exact .inl (.inl z)
    ·rcases i1.mpr (.inr z)with z | z
     ·exact .inl (.inr z)
     ·exact .inr z
   ·rcases i1.mpr (.inl z)with z | z
    ·exact .inl (.inr z)
    ·exact .inr z
 ·obtain⟨cs,hc,lc⟩:=st.cells
  obtain⟨ds,hd,ld⟩:=st.fB;have kk:=k2.trans kF;refine⟨⟨dx,kk _ _ (by simpa using ne.2.1) gx⟩,⟨cs,kk _ _ (by simpa using st.n1) hc,lc⟩,?_,kk _ _ (by simpa using ne.2.2.2.2.2.1) st.held,⟨ds,kk _ _ (by simpa using st.n3.symm) hd,ld⟩,st.n1,st.n2,st.n3,st.sz⟩;rw[bt,YH,YH,Zm];congr 2
  rw[abC (by simp),Z7 (by simp),YX (by simp),List.drop_of_length_le (by simp)];simp[jm]
theorem mw:∀{ak:List (Key×T)} {k:Key} {v:T},(ak.map (·.1)).Nodup→(k,v)∈ak→de ak k=some v
 | (k1,v1)::r,k,v,nd,h=>by
  rw[YC,Zq]at nd;rcases Yq.mp h with e | h
  ·cases e;simp[de,Zl]
  ·have ne:k1≠k:=fun z=>nd.1 (by rw[z];exact YS.mpr ⟨_,h,rfl⟩)
   have:=mw nd.2 h;simpa[de,Zl,ne]using this
theorem nO:∀{ak:List (Key×T)} {k:Key} {v:T},de ak k=some v→(k,v)∈ak
 | (k1,v1)::r,k,v,h=>by
  by_cases e:k1=k
  ·simp[de,Zl,e]at h
   rw[e,h];simp
  ·have:de r k=some v:=by simpa[de,Zl,e]using h
   exact Zo _ (nO this)
theorem dy.val{ak:List (Key×T)}{B:List bq}(h:dy ak B){q:bq}(m:q∈B):de ak (.inl q.1)=some (.tup [.int q.2.1,.int q.2.2]):=mw h.1 (h.2.mem_iff.mpr (YS.mpr ⟨q,m,rfl⟩))
theorem dy.non{ak:List (Key×T)}{B:List bq}(h:dy ak B){ad:Int}(n:∀ q∈B,q.1≠ad):de ak (.inl ad)=none:=by
 cases e:de ak (.inl ad)with
 | none=>rfl
 | some v=>
  obtain⟨q,hq,eq⟩:=YS.mp (h.2.mem_iff.mp (nO e));have:=ZM Prod.fst eq;have:Sum.inl q.1=(Sum.inl ad:Key):=this;exact absurd (Sum.inl.inj this) (n q hq)
theorem dy.len{ak:List (Key×T)}{B:List bq}(h:dy ak B):ak.length=B.length:=by rw[h.2.length_eq,Yw]
theorem xS{ak:List (Key×T)}{k:Key}{v:T}(h:de ak k=none):jd ak k v=ak++[(k,v)]:=by
 unfold jd;rw[YN];intro z;obtain⟨p,hp,e⟩:=List.any_eq_true.mp z;have e:p.1=k:=YU e;have:(ak.find? fun kv=>decide (kv.1=k))≠none:=by
  rw[Ne,List.find?_eq_none];intro y;exact y p hp (Y9 e)
 unfold de at h;cases e2:ak.find? fun kv=>decide (kv.1=k)with
 | none=>exact this e2
 | some y=>rw[e2]at h;cases h
theorem dy.put{ak:List (Key×T)}{B:List bq}(h:dy ak B)(q:bq)(n:∀ p∈B,p.1≠q.1):dy (jd ak (.inl q.1) (.tup [.int q.2.1,.int q.2.2])) (B++[q]):=by
 rw[xS (h.non n)];refine⟨?_,?_⟩
 ·rw[YH,ZY]
  refine⟨h.1,by simp,fun a ha b hb e=>?_⟩;have hb:b=.inl q.1:=by simpa using hb
  subst hb;obtain⟨p,hp,ep⟩:=YS.mp ha;have:=mw h.1 (show(p.1,p.2)∈ak from hp);rw[ep,e,h.non n]at this;cases this
 ·rw[YH]
  exact h.2.append (.refl _)
theorem dy.drop{ak:List (Key×T)}{B1 B2:List bq}{q:bq}(h:dy ak (B1++q::B2))(n:∀ p∈B1++B2,p.1≠q.1):dy (fu ak (.inl q.1)) (B1++B2):=by
 unfold fu;refine⟨h.1.sublist ((List.filter_sublist).map _),?_⟩;have:=h.2.filter fun kv=>decide (kv.1≠(.inl q.1:Key));refine this.trans ?_;have keep:∀ B:List bq,(∀ p∈B,p.1≠q.1)→(B.map qy).filter (fun kv=>decide (kv.1≠(.inl q.1:Key)))=B.map qy:=fun B hB=>by
  rw[List.filter_eq_self];intro kv GK;obtain⟨p,hp,rfl⟩:=YS.mp GK;exact Y9 fun z=>hB p hp (Sum.inl.inj z)
 rw[YH,YC,aaP,Zx,YN (by simp[qy]),keep B1 fun p hp=>n p (by simp[hp]),keep B2 fun p hp=>n p (by simp[hp]),← YH]
end
theorem oY{α:Type}:∀(L:List α) (g:α) (R:List α),(L++g::R).drop (L.length+1)=R
 | [],g,R=>rfl
 | x::r,g,R=>oY r g R
section
variable {P:Program}{w:World}{K:W.Frag}{mg:Str→Option Value}{base:Heap}{f C aZ aD aJ:Addr}{fd:FuncData}
abbrev cE:Stmt:=mem 12 3
theorem eA:aE ["self","hand","address","many","taker"] ["self","hand","address"] (ai cE):=⟨rfl,rfl,rfl,by decide +kernel,rfl,by decide +kernel,by decide +kernel⟩
def EW(C aD aJ:Addr):eK:=fun ts Γ Z Y=>∃(x:Addr) (own:List Addr) (ad hand size:Int) (B:List bq) (nd:Nat) (W:Mm),ts=[.ref x,.int hand,.int ad]∧iK Γ C x own size B (nd+1) W∧(∀(B1 B2:List bq) (len:Int) (Γ':Gp),B=B1++(ad,len,hand)::B2→iK Γ' C x own size (B1++B2) nd (W.G9 ad len hand)→Kq own Γ Γ'→Z .non Γ')∧((∀ q∈B,q.1≠ad)→Y (.ref aD) Γ)∧(∀ q∈B,q.1=ad→q.2.2≠hand→Y (.ref aJ) Γ)
theorem yF(F:gj K "give" "Store.give" cE f fd)(lu:w5 P w K mg base C "widen" 2 ["self","begin","end"] (EO C))(ah:ju K C)(aM:aU K C "held")(aB:aU K C "cells")(aQ:aU K C "deeds")(dO:mg "NoBlock" = some (.ref aD))(iP:W.excIn K aD [.type "ValueError",.type "Exception",.type "BaseException",.type "object"] "ValueError.__new__" = true)(fW:mg "WrongHand" = some (.ref aJ))(nM:W.excIn K aJ [.type "ValueError",.type "Exception",.type "BaseException",.type "object"] "ValueError.__new__" = true):bJ P w K mg base (nL P w) 3 f fd ["self","hand","address"] (cp (EW C aD aJ)):=by
 refine vM F eA (fun ts Γ Z Y h=>?_) (fun cM A outer s H E ts Γ Z Y hr h=>?_)
 ·obtain⟨x,own,ad,hand,size,B,nd,W,rfl,_⟩:=h
  rfl
 obtain⟨x,own,ad,hand,size,B,nd,W,rfl,⟨pc,pg,ph,pd,G,ak,rfl,st,si,he⟩,q,qB,qW⟩:=h;refine⟨_,(aa (bF (aw (yw (aac (abo (by decide:1≤64) _) hr.units)) (qv 2) (bG ah aM (qv 0)) (by with_unfolding_all rfl)) (aa (eQ rfl rfl dO iP Zy (ae dt ag) dN)
  af) af)
  (aa (hV (xQ (aac (abo (by decide:1≤64) _) hr.units) (bG ah aM (qv 0)) (qv 2)) (eJ (n:=2) rfl (aN (aL (i:=3) eA.nd rfl (Or.inl rfl)) (aN (aL (i:=4) eA.nd rfl (Or.inl rfl)) dz))))
  (aa (bF (aw oq (qv 1) (qv 4) (aG _)) (aa (eQ rfl rfl fW nM Zy (ae dt ag) dN)
  af) af)
  (aa (xK (bG ah aM (qv 0)) (qv 2))
  (aa (jW (aO mP (bU (ae cY ag)) (qv 3)) (bG ah aB (qv 0)) (gr (qv 2)) (gr (aO bM (qv 2) (qv 3))))
  (aa (cL (rA lu hr (by omega) (qv 0) (ae (qv 2) (ae (aO bM (qv 2) (qv 3)) ag))))
  (aa (cL (gN Zb ZW ZV eS (bG ah aQ (qv 0)) (ae (dP (ae dt (ae (qv 1) (ae (qv 2) ag)))) ag)))
  af))))))),?_⟩
 simp only[aS];obtain⟨dx,gx⟩:=st.ins;have gh:=st.held;have ne:=st.ne;by_cases hex:∃ q∈B,q.1=ad
 rotate_left
 ·have no:∀ q∈B,q.1≠ad:=fun q hq z=>hex ⟨q,hq,z⟩
  unfold rR sj kG;left;refine⟨ph,ak,.inl ad,rfl,rfl,gh,?_⟩;rw[he.non no];left;exact⟨_,.refl,qB no⟩
 obtain⟨⟨lx,len,md⟩,Jb,NT⟩:=hex;have NT:lx=ad:=NT;subst NT;by_cases eh:md=hand
 rotate_left
 ·have vq:=he.val Jb
  have vq:de ak (.inl lx)=some (.tup [.int len,.int md]):=vq;unfold rR sj kG;left;refine⟨ph,ak,.inl lx,rfl,rfl,gh,?_⟩;rw[vq];left;refine⟨ph,ak,.inl lx,_,rfl,rfl,gh,vq,?_⟩;left;refine Ad (by rw[Y4 fun z=>eh (V.int.inj z).symm];rfl) ?_;left;exact⟨_,.refl,qW _ Jb rfl eh⟩
 subst eh;obtain⟨B1,B2,eB⟩:=List.append_of_mem Jb;subst eB;have q:=fun Γ'=>q B1 B2 len Γ' rfl;clear qB qW Jb;have mq:(lx,len,md)∈B1++(lx,len,md)::B2:=by simp
 have vq:=he.val mq;have vq:de ak (.inl lx)=some (.tup [.int len,.int md]):=vq;have hp:=si.pos _ mq;have tY:1≤lx:=hp.1;have Dz:1≤len:=hp.2.1;have pP:lx+len≤size+1:=hp.2.2;have sz:=st.sz;unfold rR sj kG;left;refine⟨ph,ak,.inl lx,rfl,rfl,gh,?_⟩;rw[vq];left;refine⟨ph,ak,.inl lx,_,rfl,rfl,gh,vq,?_⟩;left;refine sg (by rw[Y9 rfl];rfl) ?_;left;refine⟨ph,ak,.inl lx,rfl,rfl,gh,by rw[vq];rfl,?_⟩;generalize e1:up Γ ph (O.dK _)=Γ1;have VI:=bw e1;have k1:Kq [ph] Γ Γ1:=e1 ▸ .set (by simp) _
 have bR:qR Γ1 C x pc pg ph pd size G (fu ak (.inl lx)) (nd+1) W:=by
  obtain⟨cs,hc,lc⟩:=st.cells;obtain⟨ds,hd,ld⟩:=st.fB;exact⟨⟨dx,k1 _ _ (by simpa using ne.2.2.1) gx⟩,⟨cs,k1 _ _ (by simpa using ne.2.2.2.2.1.symm) hc,lc⟩,k1 _ _ (by simpa using ne.2.2.2.2.2.1.symm) st.i4,VI,⟨ds,k1 _ _ (by simpa using ne.2.2.2.2.2.2.symm) hd,ld⟩,st.n1,st.n2,st.n3,st.sz⟩
 clear e1;obtain⟨Yf,DE⟩:=bR.ins;left;intro p2 Dz;generalize e2:up _ p2 (O.lst _)=Γ2;have g2:=bw e2;have l2:=cz e2 Dz
 left;refine⟨p2,len,_,rfl,rfl,g2,by omega,by omega,by show 1 * _≤_;rw[Zk];omega,?_⟩;intro p3 pP;generalize e3:up _ p3 (O.lst _)=Γ3;have g3:=bw e3;have l3:=cz e3 pP
 have fN:=bR.le (l:=[]) (l2.trans l3).kq (by simp) (by simp) (by simp) (by simp) (by simp);obtain⟨cs,Vo,lc⟩:=fN.cells;obtain⟨NW,zS⟩:=fN.ins;obtain⟨Yh,Nf,XO⟩:=bR.cells;have LW:pc≠p3:=jD (l2 _ _ Nf) pP;clear e2 e3;left;refine⟨pc,p3,cs,_,lx,lx+len,rfl,rfl,rfl,rfl,Vo,g3,LW,by omega,by omega,by omega,by rw[dR,Zs,Zk];omega,?_⟩;generalize e4:up Γ3 pc (O.lst _)=Γ4;have Nv:=bw e4;have k4:Kq [pc] Γ3 Γ4:=e4 ▸ .set (by simp) _
 have fM:qR Γ4 C x pc pg ph pd size G (fu ak (.inl lx)) (nd+1) ⟨w8 W.w lx len none,W.d⟩:=by
  obtain⟨ds,hd,ld⟩:=fN.fB;refine⟨⟨NW,k4 _ _ (by simpa using ne.1) zS⟩,⟨_,Nv,?_⟩,k4 _ _ (by simpa using st.n1.symm) fN.i4,k4 _ _ (by simpa using ne.2.2.2.2.1) fN.held,⟨ds,k4 _ _ (by simpa using st.n2.symm) hd,ld⟩,st.n1,st.n2,st.n3,st.sz⟩;refine⟨?_,?_⟩
  ·rw[dR,Yo,Yo,YG,Y3,Zs]
   omega
  ·rw[dR]
   exact lc.2.slice (v:=none) lc.1 (by omega) (by omega) (by omega)
 obtain⟨Ye,Nj⟩:=fM.ins;clear e4;left;refine⟨x,pc,pg,ph,pd,lx,lx+len,size,G,_,nd+1,_,rfl,fM,si.sep,by have:=si.CF sz.1;omega,by omega,by omega,fun L R eG hL hR=>si.Fb mq eG hL hR,?_⟩;intro L R b' e' Γ5 hG sL sR b0 hL be ja k5;have Sn:SI size (B1++B2) (L++(b',e')::R):=si.give rfl hG sL sR b0 hL be;obtain⟨V7,DD⟩:=ja.ins;obtain⟨ds,Jp,ld⟩:=ja.fB;left;refine fz Jp ?_;left;refine⟨pd,_,_,rfl,rfl,Jp,by rw[Zk];omega,?_⟩;generalize e6:up Γ5 pd (O.lst _)=Γ6;have VL:=bw e6;have k6:Kq [pd] Γ5 Γ6:=e6 ▸ .set (by simp) _
 left;have uy:qR Γ6 C x pc pg ph pd size (L++(b',e')::R) (fu ak (.inl lx)) nd (W.G9 lx len md):=by
  obtain⟨Yg,Vn,Mb⟩:=ja.cells;refine⟨⟨V7,k6 _ _ (by simpa using ne.2.2.2.1) DD⟩,⟨_,k6 _ _ (by simpa using st.n2) Vn,Mb⟩,k6 _ _ (by simpa using st.n3) ja.i4,k6 _ _ (by simpa using ne.2.2.2.2.2.2) ja.held,⟨_,VL,?_⟩,st.n1,st.n2,st.n3,st.sz⟩;refine⟨?_,by rw[ld.2];rfl⟩;rw[Yo];show ds.length+1+nd≤1000000
  omega
 have kA:Kq [pc,pg,ph,pd] Γ Γ6:=by
  have a1:Kq [pc,pg,ph,pd] Γ Γ1:=k1.mono (by simp);have a2:Kq [pc,pg,ph,pd] Γ1 Γ3:=(l2.trans l3).kq;have a4:Kq [pc,pg,ph,pd] Γ3 Γ4:=k4.mono (by simp);have a5:Kq [pc,pg,ph,pd] Γ4 Γ5:=k5.mono (by simp);have a6:Kq [pc,pg,ph,pd] Γ5 Γ6:=k6.mono (by simp);exact(((a1.trans a2).trans a4).trans a5).trans a6
 exact bh .refl (q Γ6 ⟨pc,pg,ph,pd,_,_,rfl,uy,Sn,he.drop si.diff⟩ kA)
abbrev cB:Stmt:=mem 12 1
theorem cI:aE ["self","hand","many","place","begin","end","rest"] ["self","hand","many"] (ai cB):=⟨rfl,rfl,rfl,by decide +kernel,rfl,by decide +kernel,by decide +kernel⟩
def Pl(size:Int)(B:List bq)(many b:Int):Prop:=1≤many∧(b=1∨∃ q∈B,b=q.1+q.2.1)∧Fits size B b many∧∀ at_,1≤at_→Fits size B at_ many→b≤at_
def wY(size:Int)(B:List bq)(many:Int):Prop:=many < 1∨∀ at_,1≤at_→¬Fits size B at_ many
def ES(C aZ:Addr):eK:=fun ts Γ Z Y=>∃(x:Addr) (own:List Addr) (hand many size:Int) (B:List bq) (nd:Nat) (W:Mm),ts=[.ref x,.int hand,.int many]∧iK Γ C x own size B (nd+1) W∧B.length≤100000 ∧
 (∀(b:Int) (Γ':Gp),Pl size B many b→iK Γ' C x own size (B++[(b,many,hand)]) nd (W.D4 b many hand)→Kq own Γ Γ'→Z (.int b) Γ')∧(wY size B many→Y (.ref aZ) Γ)
theorem yC(F:gj K "take" "Store.take" cB f fd)(iI:kL P w K mg base C "first_gap" 1 ["self","many"] (EZ C aZ))(ah:ju K C)(aM:aU K C "held")(aB:aU K C "cells")(aQ:aU K C "deeds")(ao:aU K C "gaps")(eU:mg "NoRoom" = some (.ref aZ))(jK:W.excIn K aZ [.type "ValueError",.type "Exception",.type "BaseException",.type "object"] "ValueError.__new__" = true):bJ P w K mg base (nL P w) 2 f fd ["self","hand","many"] (cp (ES C aZ)):=by
 refine vM F cI (fun ts Γ Z Y h=>?_) (fun cM A outer s H E ts Γ Z Y hr h=>?_)
 ·obtain⟨x,own,hand,many,size,B,nd,W,rfl,_⟩:=h
  rfl
 obtain⟨x,own,hand,many,size,B,nd,W,rfl,⟨pc,pg,ph,pd,G,ak,rfl,st,si,he⟩,bl,q,qE⟩:=h;refine⟨_,(aa (bF (aw gO (qv 2) aj (aG _)) (aa (eQ rfl rfl eU jK Zy (ae dt ag) dN)
  af) af)
  (aa (aF (i:=3) cI.nd rfl (Or.inl rfl) (fT iI hr (by omega) om (qv 0) (ae (qv 2) ag)))
  (aa (hV (aV (bG ah ao (qv 0)) (qv 3) (fun _ _=>rfl)) (eJ (n:=2) rfl (aN (aL (i:=4) cI.nd rfl (Or.inl rfl)) (aN (aL (i:=5) cI.nd rfl (Or.inl rfl)) dz))))
  (aa (aF (i:=6) cI.nd rfl (Or.inl rfl) (aO bM (qv 4) (qv 2)))
  (aa (jW (oh (aw gO (qv 6) (qv 5) (aG _)) (bU (ae (dP (ae (qv 6) (ae (qv 5) ag))) ag)) (bU ag)) (bG ah ao (qv 0)) (gr (qv 3)) (gr (aO bM (qv 3) aj)))
  (aa (jW (aO mP (bU (ae aj ag)) (qv 2)) (bG ah aB (qv 0)) (gr (qv 4)) (gr (qv 6)))
  (aa (xJ (aac (abo (by decide:1≤64) _) hr.units) (bG ah aM (qv 0)) (qv 4) (dP (ae (qv 2) (ae (qv 1) ag))))
  (aa (cL (gN Zb ZW ZV eS (bG ah aQ (qv 0)) (ae (dP (ae dt (ae (qv 1) (ae (qv 4) (ae (qv 2) ag))))) ag)))
  (aa (aI (qv 4))
  af))))))))),?_⟩
 simp only[aS];obtain⟨dx,gx⟩:=st.ins;have gg:=st.i4;have ne:=st.ne;have sz:=st.sz;unfold kG Ag i7;left;refine cN (fun c=>?_) (fun c=>?_)
 ·have c:=YU c
  left;exact⟨_,.refl,qE (.inl c)⟩
 have c:=Y7 c;have m1:1≤many:=by omega
 left;refine⟨x,pc,pg,ph,pd,many,size,G,ak,nd+1,_,rfl,st,by have:=si.CF sz.1;omega,?_,fun no=>⟨_,.refl,qE (.inr (oC si m1 no))⟩⟩;intro L R b e eG hL be;obtain⟨c1,c2,c3⟩:=lF si eG m1 hL be;have Ul:(b,e)∈G:=by rw[eG];simp
 have gz:=si.jy Ul;have X6:1≤b:=gz.1;have X5:e≤size+1:=gz.2.2;have eg:(G.map jm)[L.length]? = some (jm (b,e)):=by rw[eG,Y2,YT (Yz _),aa7];rfl
 have gl:G.length≤100001:=by have:=si.CF sz.1;omega
 have ll:L.length+(R.length+1)=G.length:=by rw[eG,Yo];rfl
 left;refine eP gg (bY eg) ?_;unfold jm;left;refine cN (fun c4=>?_) (fun c4=>?_)
 all_goals
  left;intro pn Ck;generalize e1:up _ pn (O.lst _)=Γ1;have gn:=bw e1;have l1:=cz e1 Ck
  have gn:Γ1 pn=some (.lst ((gM b many e).map jm)):=by
   rw[gn];unfold gM;first
    | (rw[YV (YU c4)];rfl)
    | (rw[YN (Y7 c4)];rfl)
  have TX:pg≠pn:=jD gg Ck;have bR:=st.le (l:=[]) l1.kq (by simp) (by simp) (by simp) (by simp) (by simp);have DE:=l1 _ _ gx;have rl:(gM b many e).length≤1:=by unfold gM;split<;>simp
  clear e1;left;refine⟨pg,pn,_,_,(L.length:Nat),(L.length:Nat)+1,rfl,rfl,rfl,rfl,bR.i4,gn,TX,by omega,by omega,by rw[Yw];omega,by rw[Yw,Yw,Zk];omega,?_⟩;generalize e2:up Γ1 pg (O.lst _)=Γ2;have Nr:=bw e2;have k2:Kq [pg] Γ1 Γ2:=e2 ▸ .set (by simp) _
  have Nr:Γ2 pg=some (.lst ((L++gM b many e++R).map jm)):=by
   rw[Nr,eG];congr 2
   rw[show(((L.length:Nat):Int)+1).toNat=L.length+1 by omega,Zm,← List.map_take,← List.map_drop,← YH,← YH,abC (Yz _),List.take_length,oY]
  have Nk:=k2 _ _ (by simpa using ne.2.1) DE;obtain⟨cs,Nf,lc⟩:=bR.cells;have QG:=k2 _ _ (by simpa using st.n1) Nf;have Vd:=k2 _ _ (by simpa using ne.2.2.2.2.2.1) bR.held;obtain⟨ds,Vk,ld⟩:=bR.fB;have hd2:=k2 _ _ (by simpa using st.n3.symm) Vk;clear e2;left;intro p3 pP;generalize e3:up _ p3 (O.lst _)=Γ3;have g3:=bw e3;have l3:=cz e3 pP
  left;refine⟨p3,many,_,rfl,rfl,g3,by omega,by omega,by show 1 * _≤_;rw[Zk];omega,?_⟩;intro p4 Cm;generalize e4:up _ p4 (O.lst _)=Γ4;have g4:=bw e4;have l4:=cz e4 Cm
  have Dw:=l3.trans l4;have LW:pc≠p4:=jD (l3 _ _ QG) Cm;have Nj:=Dw _ _ Nk;clear e3 e4;left;refine⟨pc,p4,cs,_,b,b+many,rfl,rfl,rfl,rfl,Dw _ _ QG,g4,LW,by omega,by omega,by omega,by rw[dR,Zs,Zk];omega,?_⟩;generalize e5:up Γ4 pc (O.lst _)=Γ5;have Nu:=bw e5;have k5:Kq [pc] Γ4 Γ5:=e5 ▸ .set (by simp) _
  have DD:=k5 _ _ (by simpa using ne.1) Nj;have Nq:=k5 _ _ (by simpa using st.n1.symm) (Dw _ _ Nr);have Vc:=k5 _ _ (by simpa using ne.2.2.2.2.1) (Dw _ _ Vd);have Jp:=k5 _ _ (by simpa using st.n2.symm) (Dw _ _ hd2);have Mb:(((cs.take b.toNat++(List.replicate many.toNat [T.int 0]).flatten++cs.drop (b+many).toNat).length:Nat):Int)=size+1:=by
   rw[dR,Yo,Yo,YG,Y3,Zs];omega
  have Wq:pG size (w8 W.w b many (some 0)) (cs.take b.toNat++(List.replicate many.toNat [T.int 0]).flatten++cs.drop (b+many).toNat):=by
   rw[dR];exact lc.2.slice (v:=some 0) lc.1 (by omega) (by omega) (by omega)
  clear e5;left;refine⟨ph,ak,.inl b,rfl,rfl,Vc,by rw[he.len,Zk];omega,?_⟩;generalize e6:up Γ5 ph (O.dK _)=Γ6;have VH:=bw e6;have k6:Kq [ph] Γ5 Γ6:=e6 ▸ .set (by simp) _
  have QP:=k6 _ _ (by simpa using ne.2.2.1) DD;have Np:=k6 _ _ (by simpa using ne.2.2.2.2.2.1.symm) Nq;have Nt:=k6 _ _ (by simpa using ne.2.2.2.2.1.symm) Nu;have QC:=k6 _ _ (by simpa using ne.2.2.2.2.2.2.symm) Jp;clear e6;left;refine fz QC ?_;left;refine⟨pd,_,_,rfl,rfl,QC,by rw[Zk];omega,?_⟩;generalize e7:up Γ6 pd (O.lst _)=Γ7;have VJ:=bw e7;have k7:Kq [pd] Γ6 Γ7:=e7 ▸ .set (by simp) _
  clear e7;left;have fq:∀ p∈B,p.1≠b:=fun p hp z=>by
   have:=c2.2 p hp;have:=(si.pos p hp).2.1;omega
  have Sb:qR Γ7 C x pc pg ph pd size (L++gM b many e++R) (jd ak (.inl b) (.tup [.int many,.int hand])) nd (W.D4 b many hand):=by
   refine⟨⟨dx,k7 _ _ (by simpa using ne.2.2.2.1) QP⟩,⟨_,k7 _ _ (by simpa using st.n2) Nt,Mb,Wq⟩,k7 _ _ (by simpa using st.n3) Np,k7 _ _ (by simpa using ne.2.2.2.2.2.2) VH,⟨_,VJ,?_⟩,st.n1,st.n2,st.n3,st.sz⟩;refine⟨?_,by rw[ld.2];rfl⟩;rw[Yo];show ds.length+1+nd≤1000000
   omega
  have kA:Kq [pc,pg,ph,pd] Γ Γ7:=by
   have a1:Kq [pc,pg,ph,pd] Γ Γ1:=l1.kq;have a2:Kq [pc,pg,ph,pd] Γ1 Γ2:=k2.mono (by simp);have a3:Kq [pc,pg,ph,pd] Γ2 Γ4:=Dw.kq;have a5:Kq [pc,pg,ph,pd] Γ4 Γ5:=k5.mono (by simp);have a6:Kq [pc,pg,ph,pd] Γ5 Γ6:=k6.mono (by simp);have a7:Kq [pc,pg,ph,pd] Γ6 Γ7:=k7.mono (by simp);exact((((a1.trans a2).trans a3).trans a5).trans a6).trans a7
  exact bh .refl (q b Γ7 ⟨m1,c1,c2,c3⟩ ⟨pc,pg,ph,pd,_,_,rfl,Sb,si.take eG m1 be,he.put (b,many,hand) fq⟩ kA)
end
inductive Sm:Nat→T→Prop
 | non {d:Nat}:Sm d .non
 | int {d:Nat} (i:Int):Sm d (.int i)
 | str {d:Nat} {z:Str} (l:z.length≤1000):Sm d (.str z)
 | tup {d:Nat} {ts:List T} (l:ts.length≤999) (h:∀ t∈ts,Sm d t):Sm (d+1) (.tup ts)
theorem Sm.pt{Γ:Gp}{d:Nat}{t:T}(h:Sm d t):Pt Γ t:=by
 induction h with
 | non=>exact .non
 | int i=>exact .int i
 | str l=>exact .str l
 | tup l _ ih=>exact .tup l ih
theorem in_list{K:W.Frag}{Γ:Gp}{d:Nat}{t:T}(h:Sm d t):∃ n,fC Γ t=some n∧W.kitOne K (.type n) (.type "list")=some false:=by
 cases h with
 | _=>exact⟨_,rfl,rfl⟩
section
variable {P:Program}{w:World}{K:W.Frag}{mg:Str→Option Value}{base:Heap}{f C aZ aD aJ aT:Addr}{fd:FuncData}
abbrev cy:Stmt:=top 17
theorem mE:aE ["found","due"] ["found","due"] (ai cy):=⟨rfl,rfl,rfl,by decide +kernel,rfl,by decide +kernel,by decide +kernel⟩
def pZ(n:Nat):eK:=fun ts Γ Z _=>∃(t u:T) (d:Nat),ts=[t,u]∧((u=t∧Sm d t)∨∃(p p2:Addr) (us:List T) (d':Nat),d=d'+1∧t=.ref p∧u=.ref p2∧Γ p=some (.lst us)∧Γ p2=some (.lst us)∧us.length≤999∧∀ y∈us,Sm d' y)∧d < n∧Z (.bl true) Γ
theorem vQ{n lv:Nat}(F:gj K "_law_alike" "_law_alike" cy f fd)(bj:fv P w K mg base "_law_alike" lv ["found","due"] (pZ n))(ax:mg "isinstance" = none)(eZ:mg "tuple" = none)(df:mg "list" = none)(bZ:mg "len" = none)(lA:mg "all" = none)(jI:mg "zip" = none)(jJ:mg "str" = none)(gK:mg "int" = none)(fe:mg "bool" = none):bJ P w K mg base ic (lv+1) f fd ["found","due"] (cp (pZ (n+1))):=by
 refine lO F mE (fun ts Γ Z Y h=>?_) (fun cM A outer s H E ts Γ Z Y hr h=>?_)
 ·obtain⟨t,u,d,rfl,_⟩:=h
  rfl
 obtain⟨t,u,d,rfl,hs,hd,q⟩:=h;refine⟨_,(aa (bF (aw kb (qv 1) cY (aG _)) (aa (aI (mJ kb (qv 0) cY (aG _)))
  af) af)
  (aa (bF (cW (cZ rfl ax rfl gK qP (qv 1))) (aa (aI (iW (cZ rfl ax rfl gK qP (qv 0)) (iW (vj (cZ rfl ax rfl fe sk (qv 0))) (jY (mJ gP (qv 0) (qv 1) (aG _))))))
  af) af)
  (aa (bF (cW (cZ rfl ax rfl jJ wO (qv 1))) (aa (aI (iW (cZ rfl ax rfl jJ wO (qv 0)) (jY (mJ gP (qv 0) (qv 1) (aG _)))))
  af) af)
  (aa (bF (PW.pt (lK (aw oq (cZ rfl ax rfl eZ pD (qv 1)) (cZ rfl ax rfl eZ pD (qv 0)) (aG _)) (jV (aw oq (cZ rfl ax rfl df jF (qv 1)) (cZ rfl ax rfl df jF (qv 0)) (aG _))))) (aa (aI ef)
  af) af)
  (aa (bF (aw oq (bO i8 rfl bZ aaa (ae (qv 0) ag)) (bO i8 rfl bZ aaa (ae (qv 1) ag)) (aG _)) (aa (aI ef)
  af) af)
  (aa (aI (bO (CQ rfl) rfl lA PyProof.Rows.boot_all (ae (jz (own:=["one","other"]) (cap:=[]) (ny rfl (by decide +kernel) (by decide +kernel)) rfl (Fp (A4 rfl jI (ae (qv 0) (ae (qv 1) ag))) (xN rfl jI (ae (qv 0) (ae (qv 1) ag)))) (fun _ _ _ _=>(eJ (n:=2) rfl (aN (aL (i:=0) (show List.Nodup (["one","other"]:List Str)from by decide +kernel) rfl (Or.inl rfl) (Or.inr rfl)) (aN (aL (i:=1) (show List.Nodup (["one","other"]:List Str)from by decide +kernel) rfl (Or.inl rfl) (Or.inr rfl)) dz)))) (fun _ _ _ _=>mH) (fun _ _ _ _=>(ay bj hr (by omega) rfl (ae (qv 0) (ae (qv 1) ag))))) ag)))
  af)))))),?_⟩
 simp only[aS];unfold Qg;rcases hs with⟨rfl,hs⟩ | ⟨p,p2,us,d',rfl,rfl,rfl,gp,DF,ul,hs⟩
 rotate_left
 ·have pt:Pt Γ (.ref p):=.lst gp
  have KW:Pt Γ (.ref p2):=.lst DF;left;left;refine ir (km KW) ?_;left;left;refine ir (in_str KW) ?_;left;left;refine ir (mU KW) ?_;left;refine ir (mU pt) ?_;refine⟨.bl false,.bl false,rfl,rfl,rfl,?_⟩;left;refine⟨_,true,iS DF,rfl,?_⟩;left;refine⟨_,true,iS gp,rfl,?_⟩;refine⟨.bl true,.bl true,rfl,rfl,rfl,?_⟩;left;refine iU gp ?_;left;refine iU DF ?_;left;refine sg (by rw[Y9 rfl];rfl) ?_;left;refine .inr ?_;unfold Qf;left;refine⟨p,p2,us,us,rfl,gp,DF,?_⟩;rw[jG];refine⟨Zi (cO (by rw[Yw];omega)),?_⟩;refine⟨fun rest τ ys Γ'=>∃(ds rs:List T) (o0 o1:Option T),rest=rs.map (fun y=>T.tup [y,y])∧us=ds++rs∧τ=[o0,o1]∧ys=(ds.map fun _=>true).map T.bl∧Γ'=Γ,⟨[],us,none,none,rfl,rfl,rfl,rfl,rfl⟩,?_,?_⟩
  ·rintro τ ys Γ' ⟨ds,rs,o0,o1,er,ez,rfl,rfl,rfl⟩
   refine⟨⟨gp,DF⟩,?_⟩;intro p1 tY;generalize e1:up _ p1 (O.lst _)=Γ1;have g1:=bw e1;have l1:=cz e1 tY
   left;refine⟨p1,_,rfl,bx g1,?_⟩;rw[show(ds.map fun _=>true).all id=true by rw[ZI];intro b hb;obtain⟨_,_,rfl⟩:=YS.mp hb;rfl];exact bh l1 q
  ·rintro x r τ ys Γ' ⟨ds,rs,o0,o1,er,ez,rfl,rfl,rfl⟩
   cases rs with
   | nil=>cases er
   | cons y rs=>
    cases er;refine⟨⟨gp,DF⟩,?_⟩;left;refine⟨y,y,d',rfl,.inl ⟨rfl,hs y (by rw[ez];simp)⟩,by omega,?_⟩;exact⟨ds++[y],rs,_,_,rfl,by rw[ez];simp,rfl,by rw[YH,YH];rfl,rfl⟩
 have pt:Pt Γ u:=hs.pt;have ty:=in_list (K:=K) (Γ:=Γ) hs;cases hs with
 | non=>
  left;exact bh .refl q
 | int i=>
  left;left;refine ir (km pt) ?_;left;left;refine ir (km pt) ?_;left;left;refine ir (Gm pt) ?_;left;left;rw[Y9 rfl];exact bh .refl q
 | @str _ z l=>
  left;left;refine ir (km pt) ?_;left;left;refine ir (in_str pt) ?_;left;left;refine ir (in_str pt) ?_;left;left;rw[Y9 rfl];exact bh .refl q
 | @tup d ts l h=>
  obtain⟨nt,Pd,Pc⟩:=ty;left;left;refine ir (km pt) ?_;left;left;refine ir (in_str pt) ?_;left;left;refine ir (mU pt) ?_;left;refine ir (mU pt) ?_;refine⟨.bl true,.bl true,rfl,rfl,rfl,?_⟩;left;refine⟨nt,false,Pd,Pc,?_⟩;left;refine⟨nt,false,Pd,Pc,?_⟩;refine⟨.bl false,.bl false,rfl,rfl,rfl,?_⟩;left;refine sg (by rw[Y9 rfl];rfl) ?_;left;refine .inl ?_;left;rw[jG];refine⟨Zi (cO (by rw[Yw];omega)),?_⟩;refine⟨fun rest τ ys Γ'=>∃(ds rs:List T) (o0 o1:Option T),rest=rs.map (fun y=>T.tup [y,y])∧ts=ds++rs∧τ=[o0,o1]∧ys=(ds.map fun _=>true).map T.bl∧Γ'=Γ,⟨[],ts,none,none,rfl,rfl,rfl,rfl,rfl⟩,?_,?_⟩
  ·rintro τ ys Γ' ⟨ds,rs,o0,o1,er,ez,rfl,rfl,rfl⟩
   refine⟨trivial,?_⟩;intro p1 tY;generalize e1:up _ p1 (O.lst _)=Γ1;have g1:=bw e1;have l1:=cz e1 tY
   left;refine⟨p1,_,rfl,bx g1,?_⟩;rw[show(ds.map fun _=>true).all id=true by rw[ZI];intro b hb;obtain⟨_,_,rfl⟩:=YS.mp hb;rfl];exact bh l1 q
  ·rintro x r τ ys Γ' ⟨ds,rs,o0,o1,er,ez,rfl,rfl,rfl⟩
   cases rs with
   | nil=>cases er
   | cons y rs=>
    cases er;refine⟨trivial,?_⟩;left;refine⟨y,y,d,rfl,.inl ⟨rfl,h y (by rw[ez];simp)⟩,by omega,?_⟩;exact⟨ds++[y],rs,_,_,rfl,by rw[ez];simp,rfl,by rw[YH,YH];rfl,rfl⟩
def eY(q:bq):T:=.tup [.int q.1,.int q.2.1,.int q.2.2]
def me(size:Int)(B:List bq)(at_ many:Int):Bool:=decide (at_+many-1≤size)&&B.all fun q=>!(decide (at_ < q.1+q.2.1)&&decide (q.1 < at_+many))
theorem gA{size at_ many:Int}{B:List bq}:me size B at_ many=true↔Fits size B at_ many:=by
 unfold me Fits;rw[aa3,abr,ZI];refine and_congr Iff.rfl ⟨fun h q hq z=>?_,fun h q hq=>?_⟩
 ·have:=h q hq
  rw[Y9 z.1,Y9 z.2]at this;cases this
 ·have:=h q hq
  cases e:(decide (at_ < q.1+q.2.1)&&decide (q.1 < at_+many))with
  | false=>rfl
  | true=>
   rw[aa3,abr,abr]at e;exact absurd e this
abbrev dj:Stmt:=top 18
theorem dZ:aE ["size","blocks","at","many","address","length","hand"] ["size","blocks","at","many"] (ai dj):=⟨rfl,rfl,rfl,by decide +kernel,rfl,by decide +kernel,by decide +kernel⟩
def EY:eK:=fun ts Γ Z _=>∃(pb:Addr) (size at_ many:Int) (B:List bq),ts=[.int size,.ref pb,.int at_,.int many]∧Γ pb=some (.lst (B.map eY))∧Z (.bl (me size B at_ many)) Γ
theorem yH(F:gj K "_law_fits" "_law_fits" dj f fd):bJ P w K mg base ic 1 f fd ["size","blocks","at","many"] (cp EY):=by
 refine lO F dZ (fun ts Γ Z Y h=>?_) (fun cM A outer s H E ts Γ Z Y hr h=>?_)
 ·obtain⟨pb,size,at_,many,B,rfl,_⟩:=h
  rfl
 obtain⟨pb,size,at_,many,B,rfl,gb,q⟩:=h;refine⟨_,(aa (bF (aw lN (aO iZ (aO bM (qv 2) (qv 3)) aj) (qv 0) (aG _)) (aa (aI ef)
  af) af)
  (aa (fS ZP rfl (dI (qv 1)) (eJ (n:=3) rfl (aN (aL (i:=4) dZ.nd rfl (Or.inl rfl)) (aN (aL (i:=5) dZ.nd rfl (Or.inl rfl)) (aN (aL (i:=6) dZ.nd rfl (Or.inl rfl)) dz)))) (aa (bF (PW.pt (fR (aw gO (qv 2) (aO bM (qv 4) (qv 5)) (aG _)) (ff (aw gO (qv 4) (aO bM (qv 2) (qv 3)) (aG _))))) (aa (aI ef)
  af) af)
  af))
  (aa (aI ef)
  af))),?_⟩
 simp only[aS];left;refine cN (fun c=>?_) (fun c=>?_)
 ·have c:=YU c
  left;refine bh .refl ?_;unfold me at q;rw[Y4 (show ¬at_+many-1≤size by omega)]at q;exact q
 have c:=Y7 c;left;refine⟨pb,_,rfl,bx gb,?_⟩;refine⟨fun rest τ Γ'=>∃(D R:List bq) (o4 o5 o6:Option T),rest=R.map eY∧B=D++R∧(∀ q∈D,(!(decide (at_ < q.1+q.2.1)&&decide (q.1 < at_+many)))=true)∧τ=[some (.int size),some (.ref pb),some (.int at_),some (.int many),o4,o5,o6]∧Γ'=Γ,⟨[],B,none,none,none,rfl,rfl,fun _ h=>(nomatch h),rfl,rfl⟩,?_,?_⟩
 ·rintro τ Γ' ⟨D,R,o4,o5,o6,er,eB,hD,rfl,rfl⟩
  have hz:R=[]:=by
   cases R with
   | nil=>rfl
   | cons _ _=>cases er
  subst hz;rw[YY]at eB;subst eB;refine⟨bx gb,?_⟩;left;refine bh .refl ?_;unfold me at q;rw[Y9 (show at_+many-1≤size by omega),ZI.mpr hD]at q;exact q
 ·rintro x r τ Γ' ⟨D,R,o4,o5,o6,er,eB,hD,rfl,rfl⟩
  cases R with
  | nil=>cases er
  | cons k R=>
   cases er;refine⟨bx gb,?_⟩;have no:(decide (at_ < k.1+k.2.1)&&decide (k.1 < at_+many))=true→eW Z (.bl false) Γ':=fun h=>by
    refine bh .refl ?_;unfold me at q;rw[Y9 (show at_+many-1≤size by omega)]at q;have:(B.all fun q=>!(decide (at_ < q.1+q.2.1)&&decide (q.1 < at_+many)))=false:=by
     rw[eB,List.all_append,List.all_cons,h];simp
    rw[this]at q;exact q
   have yes:(decide (at_ < k.1+k.2.1)&&decide (k.1 < at_+many))=false→∀(o4 o5 o6:Option T),∃(D' R':List bq) (TL TK TJ:Option T),R.map eY=R'.map eY∧B=D'++R'∧(∀ q∈D',(!(decide (at_ < q.1+q.2.1)&&decide (q.1 < at_+many)))=true)∧[some (.int size),some (.ref pb),some (.int at_),some (.int many),o4,o5,o6]=[some (.int size),some (.ref pb),some (.int at_),some (.int many),TL,TK,TJ]∧Γ'=Γ':=fun h o4 o5 o6=>⟨D++[k],R,o4,o5,o6,rfl,by rw[eB];simp,fun q hq=>by
    rcases YE.mp hq with hq | hq
    ·exact hD q hq
    ·rw[YA.mp hq,h];rfl,rfl,rfl⟩
   unfold eY;left;refine cN (fun c1=>?_) (fun c1=>?_)
   ·left
    refine cN (fun c2=>?_) (fun c2=>?_)
    ·left
     exact no (by rw[c1,c2];rfl)
    ·left
     exact yes (by rw[c2,Bool.and_false]) _ _ _
   ·left
    exact yes (by rw[c1,abU]) _ _ _
theorem jb{many:Int}:∀{G:List dC},(∃ g∈G,many≤g.2-g.1)→∃ L b e R,G=L++(b,e)::R∧(∀ g∈L,g.2-g.1 < many)∧many≤e-b
 | [],⟨_,h,_⟩=>nomatch h
 | (b,e)::r,⟨g,hg,hm⟩=>by
  by_cases c:many≤e-b
  ·exact⟨[],b,e,r,rfl,fun _ h=>(nomatch h),c⟩
  ·have:g∈r:=by
    rcases Yq.mp hg with e1 | h
    ·subst e1;exact absurd hm c
    ·exact h
   obtain⟨L,b',e',R,eG,hL,hb⟩:=jb ⟨g,this,hm⟩;refine⟨(b,e)::L,b',e',R,by rw[eG];rfl,fun g hg=>?_,hb⟩;rcases Yq.mp hg with rfl | hg
   ·show e-b < many;omega
   ·exact hL g hg
def cands(B:List bq):List Int:=1::B.map fun q=>q.1+q.2.1
def LS(size:Int)(B:List bq)(many:Int)(cs:List Int)(r:Option Int):Prop:=(r=none∧∀ a∈cs,¬(0 < many∧Fits size B a many))∨∃ p,r=some p∧0 < many∧p∈cs∧Fits size B p many∧∀ a∈cs,Fits size B a many→p≤a
theorem Bk{size many:Int}{B:List bq}{G:List dC}(si:SI size B G){r:Option Int}(h:LS size B many (cands B) r):(r=none∧wY size B many)∨∃ b,r=some b∧Pl size B many b:=by
 have c1:∀ a∈cands B,1≤a:=fun a ha=>by
  rcases Yq.mp ha with rfl | ha
  ·exact Zp _
  ·obtain⟨q,hq,rfl⟩:=YS.mp ha
   have:=si.pos q hq;omega
 by_cases m1:many < 1
 ·rcases h with⟨e,_⟩ | ⟨p,_,m,_⟩
  ·exact .inl ⟨e,.inl m1⟩
  ·omega
 have m1:1≤many:=by omega
 by_cases hg:∃ g∈G,many≤g.2-g.1
 ·obtain⟨L,b,e,R,eG,hL,be⟩:=jb hg
  obtain⟨d1,d2,d3⟩:=lF si eG m1 hL be;have mb:b∈cands B:=by
   rcases d1 with rfl | ⟨q,hq,rfl⟩
   ·exact aaf
   ·exact Zo _ (YS.mpr ⟨q,hq,rfl⟩)
  right
  rcases h with⟨_,no⟩ | ⟨p,e,m,mp,fp,lp⟩
  ·exact absurd ⟨by omega,d2⟩ (no b mb)
  ·have h1:=lp b mb d2
   have h2:=d3 p (c1 p mp) fp;have:p=b:=by omega
   subst this;exact⟨p,e,m1,d1,d2,d3⟩
 ·have no:=oC si m1 fun g M4=>by
   by_cases c:g.2-g.1 < many
   ·exact c
   ·exact absurd ⟨g,M4,by omega⟩ hg
  refine Or.inl ?_;rcases h with⟨e,_⟩ | ⟨p,e,m,mp,fp,lp⟩
  ·exact⟨e,.inr no⟩
  ·exact absurd fp (no p (c1 p mp))
def Dt:Option Int→T
 | none=>.non
 | some i=>.int i
abbrev cP:Stmt:=top 19
theorem dH:aE ["size","blocks","many","found","at"] ["size","blocks","many"] (ai cP):=⟨rfl,rfl,rfl,by decide +kernel,rfl,by decide +kernel,by decide +kernel⟩
def zD:eK:=fun ts Γ Z _=>∃(pb:Addr) (size many:Int) (B:List bq),ts=[.int size,.ref pb,.int many]∧Γ pb=some (.lst (B.map eY))∧B.length≤900∧(∃ G,SI size B G)∧∀ r:Option Int,((r=none∧wY size B many)∨∃ b,r=some b∧Pl size B many b)→Z (Dt r) Γ
theorem vO(F:gj K "_law_place" "_law_place" cP f fd)(qM:fv P w K mg base "_law_fits" 1 ["size","blocks","at","many"] EY):bJ P w K mg base ic 2 f fd ["size","blocks","many"] (cp zD):=by
 refine lO F dH (fun ts Γ Z Y h=>?_) (fun cM A outer s H E ts Γ Z Y hr h=>?_)
 ·obtain⟨pb,size,many,B,rfl,_⟩:=h
  rfl
 obtain⟨pb,size,many,B,rfl,gb,bl,⟨G,si⟩,q⟩:=h;refine⟨_,(aa (aF (i:=3) dH.nd rfl (Or.inl rfl) cY)
  (aa (fS ZP rfl (dI (aO rD (bU (ae aj ag)) (jz (own:=["address","length","hand"]) (cap:=[]) (ny rfl (by decide +kernel) (by decide +kernel)) rfl (dI (qv 1)) (fun _ _ _ _=>(eJ (n:=3) rfl (aN (aL (i:=0) (show List.Nodup (["address","length","hand"]:List Str)from by decide +kernel) rfl (Or.inl rfl) (Or.inr rfl)) (aN (aL (i:=1) (show List.Nodup (["address","length","hand"]:List Str)from by decide +kernel) rfl (Or.inl rfl) (Or.inr rfl)) (aN (aL (i:=2) (show List.Nodup (["address","length","hand"]:List Str)from by decide +kernel) rfl (Or.inl rfl) (Or.inr rfl)) dz))))) (fun _ _ _ _=>mH) (fun _ _ _ _=>(aO bM (qv 0) (qv 1)))))) (aL (i:=4) dH.nd rfl (Or.inl rfl)) (aa (eI (bF (PW.pt (fR (aw lN (qv 2) aj (aG _)) (fR (PW.pt (lK (aw kb (qv 3) cY (aG _)) (jV (aw gO (qv 4) (qv 3) (aG _))))) (ff (cW (ay qM hr (by omega) rfl (ae (qv 0) (ae (qv 1) (ae (qv 4) (ae (qv 2) ag)))))))))) (aa (aF (i:=3) dH.nd rfl (Or.inl rfl) (qv 4))
  af) af))
  af))
  (aa (aI (qv 3))
  af))),?_⟩
 simp only[aS];left;intro p1 tY;generalize e1:up _ p1 (O.lst _)=Γ1;have g1:=bw e1;have l1:=cz e1 tY
 have Nw:=l1 _ _ gb;left;refine⟨pb,_,rfl,bx Nw,Zi (cO (by rw[Yw];omega)),?_⟩;refine⟨fun rest τ ys Γ'=>∃(D R:List bq) (o0 o1 o2:Option T),rest=R.map eY∧B=D++R∧τ=[o0,o1,o2]∧ys=(D.map fun q=>q.1+q.2.1).map T.int∧Γ'=Γ1,⟨[],B,none,none,none,rfl,rfl,rfl,rfl,rfl⟩,?_,?_⟩;rotate_left
 ·rintro x r τ ys Γ' ⟨D,R,o0,o1,o2,er,eB,rfl,rfl,rfl⟩
  cases R with
  | nil=>cases er
  | cons k R=>
   cases er;refine⟨bx Nw,?_⟩;unfold eY;left;exact⟨D++[k],R,_,_,_,rfl,by rw[eB];simp,rfl,by rw[YH,YH];rfl,rfl⟩
 rintro τ ys Γ' ⟨D,R,o0,o1,o2,er,eB,rfl,rfl,rfl⟩;have hz:R=[]:=by
  cases R with
  | nil=>rfl
  | cons _ _=>cases er
 subst hz;rw[YY]at eB;subst eB;refine⟨bx Nw,?_⟩;intro p2 Dz;generalize e2:up _ p2 (O.lst _)=Γ2;have g2:=bw e2;have l2:=cz e2 Dz
 refine⟨p1,p2,_,_,rfl,rfl,l2 _ _ g1,g2,Zi (cO (by rw[Yw,Yw];show 1+_≤_;omega)),?_⟩;intro p3 pP;generalize e3:up _ p3 (O.lst _)=Γ3;have g3:=bw e3;have l3:=cz e3 pP
 have g3:Γ3 p3=some (.lst ((cands B).map T.int)):=g3;have l13:=(l1.trans l2).trans l3;have QV:=l13 _ _ gb;clear e1 e2 e3;left;refine⟨p3,_,rfl,bx g3,?_⟩;refine⟨fun rest τ Γ'=>∃(D R:List Int) (r:Option Int) (o4:Option T),rest=R.map T.int∧cands B=D++R∧LS size B many D r∧τ=[some (.int size),some (.ref pb),some (.int many),some (Dt r),o4]∧Γ'=Γ3,⟨[],cands B,none,none,rfl,rfl,.inl ⟨rfl,fun _ h=>(nomatch h)⟩,rfl,rfl⟩,?_,?_⟩
 ·rintro τ Γ' ⟨D,R,r,o4,er,eC,ls,rfl,rfl⟩
  have hz:R=[]:=by
   cases R with
   | nil=>rfl
   | cons _ _=>cases er
  subst hz;rw[YY]at eC;rw[← eC]at ls;refine⟨bx g3,?_⟩;left;exact bh l13 (q r (Bk si ls))
 ·rintro x rr τ Γ' ⟨D,R,r,o4,er,eC,ls,rfl,rfl⟩
  cases R with
  | nil=>cases er
  | cons k R=>
   cases er;refine⟨bx g3,?_⟩;left;refine⟨fun τ Γ4=>∃ r':Option Int,LS size B many (D++[k]) r'∧τ=[some (.int size),some (.ref pb),some (.int many),some (Dt r'),some (.int k)]∧Γ4=Γ',?_,?_⟩;rotate_left
   ·rintro τ Γ4 ⟨r',Us,rfl,rfl⟩
    left;exact⟨D++[k],R,r',_,rfl,by rw[eC];simp,Us,rfl,rfl⟩
   have keep:(¬(0 < many∧Fits size B k many)∨∃ p,r=some p∧p≤k)→∃ r':Option Int,LS size B many (D++[k]) r'∧[some (.int size),some (.ref pb),some (.int many),some (Dt r),some (.int k)]=[some (.int size),some (.ref pb),some (.int many),some (Dt r'),some (.int k)]∧Γ'=Γ':=fun h=>by
    refine⟨r,?_,rfl,rfl⟩;rcases ls with⟨e,no⟩ | ⟨p,e,m,mp,fp,lp⟩
    ·refine .inl ⟨e,fun a ha=>?_⟩
     rcases YE.mp ha with ha | ha
     ·exact no a ha
     ·rw[YA.mp ha]
      rcases h with h | ⟨p,e',_⟩
      ·exact h
      ·rw[e]at e';cases e'
    ·refine .inr ⟨p,e,m,Zw _ mp,fp,fun a ha fa=>?_⟩
     rcases YE.mp ha with ha | ha
     ·exact lp a ha fa
     ·rw[YA.mp ha]at fa ⊢
      rcases h with h | ⟨p',e',h⟩
      ·exact absurd ⟨m,fa⟩ h
      ·rw[e]at e';cases e';exact h
   have new:0 < many→Fits size B k many→(r=none∨∃ p,r=some p∧k < p)→∃ r':Option Int,LS size B many (D++[k]) r'∧[some (.int size),some (.ref pb),some (.int many),some (.int k),some (.int k)]=[some (.int size),some (.ref pb),some (.int many),some (Dt r'),some (.int k)]∧Γ'=Γ':=fun m fk h=>by
    refine⟨some k,.inr ⟨k,rfl,m,by simp,fk,fun a ha fa=>?_⟩,rfl,rfl⟩;rcases YE.mp ha with ha | ha
    ·rcases ls with⟨e,no⟩ | ⟨p,e,m',mp,fp,lp⟩
     ·exact absurd ⟨m,fa⟩ (no a ha)
     ·have:=lp a ha fa
      rcases h with h | ⟨p',e',h⟩
      ·rw[e]at h;cases h
      ·rw[e]at e';cases e';omega
    ·rw[YA.mp ha];exact Zp _
   left;refine cN (fun c=>?_) (fun c=>?_);rotate_left
   ·have c:=Y7 c
    left;exact keep (.inl fun z=>c z.1)
   have c:=YU c;cases r with
   | none=>
    left;left;refine⟨pb,size,k,many,B,rfl,QV,?_⟩;left;refine cN (fun e=>?_) (fun e=>?_)
    ·left
     exact new c (gA.mp e) (.inl rfl)
    ·left
     exact keep (.inl fun z=>by rw[gA.mpr z.2]at e;cases e)
   | some p=>
    left;left;refine⟨k,p,rfl,rfl,?_⟩;left;refine cN (fun c5=>?_) (fun c5=>?_)
    ·have c5:=YU c5
     left;refine⟨pb,size,k,many,B,rfl,QV,?_⟩;left;refine cN (fun e=>?_) (fun e=>?_)
     ·left
      exact new c (gA.mp e) (.inr ⟨p,rfl,c5⟩)
     ·left
      exact keep (.inl fun z=>by rw[gA.mpr z.2]at e;cases e)
    ·have c5:=Y7 c5
     left;exact keep (.inr ⟨p,rfl,by omega⟩)
end
theorem iK.kj{Γ:Gp}{C a:Addr}{own:List Addr}{size:Int}{B:List bq}{nd:Nat}{W:Mm}(h:iK Γ C a own size B nd W):∃ dx pc pg ph pd,Γ a=some (.ins C dx [("words",.int size),("cells",.ref pc),("gaps",.ref pg),("held",.ref ph),("deeds",.ref pd)]):=by
 obtain⟨_,_,_,_,_,_,_,sf,_,_⟩:=h;obtain⟨dx,gx⟩:=sf.ins;exact⟨dx,_,_,_,_,gx⟩
section
variable {P:Program}{w:World}{K:W.Frag}{mg:Str→Option Value}{base:Heap}{f C aZ aD aJ aT cn:Addr}{fd:FuncData}{v1:Value}
abbrev dn:Stmt:=top 7
theorem nU:aE ["thing"] ["thing"] (ai dn):=⟨rfl,rfl,rfl,by decide +kernel,rfl,by decide +kernel,by decide +kernel⟩
def ER:eK:=fun ts Γ Z _=>∃ i:Int,ts=[.int i]∧Z (.bl true) Γ
theorem oy(F:gj K "is_whole" "is_whole" dn f fd)(ax:mg "isinstance" = none)(gK:mg "int" = none)(fe:mg "bool" = none):bJ P w K mg base ic 1 f fd ["thing"] (cp ER):=by
 refine lO F nU (fun ts Γ Z Y h=>?_) (fun cM A outer s H E ts Γ Z Y hr h=>?_)
 ·obtain⟨x,rfl,_⟩:=h
  rfl
 obtain⟨x,rfl,q⟩:=h;refine⟨_,(aa (aI (iW (cZ rfl ax rfl gK qP (qv 0)) (jY (vj (cZ rfl ax rfl fe sk (qv 0))))))
  af),?_⟩
 simp only[aS];left;refine⟨_,true,rfl,rfl,?_⟩;left;refine⟨_,false,rfl,rfl,?_⟩;left;exact bh .refl q
abbrev dM:Stmt:=top 10
theorem p8:aE ["thing"] ["thing"] (ai dM):=⟨rfl,rfl,rfl,by decide +kernel,rfl,by decide +kernel,by decide +kernel⟩
def EL:eK:=fun ts Γ Z _=>∃ i:Int,ts=[.int i]∧Z (.bl (decide (0≤i∧i < 65536))) Γ
theorem ql(F:gj K "is_word" "is_word" dM f fd)(qO:fv P w K mg base "is_whole" 1 ["thing"] ER)(dQ:mg "WORD_NUMBERS" = some v1)(kz:qT v1 (.int 65536)):bJ P w K mg base ic 2 f fd ["thing"] (cp EL):=by
 refine lO F p8 (fun ts Γ Z Y h=>?_) (fun cM A outer s H E ts Γ Z Y hr h=>?_)
 ·obtain⟨x,rfl,_⟩:=h
  rfl
 obtain⟨i,rfl,q⟩:=h;refine⟨_,(aa (aI (iW (ay qO hr (by omega) rfl (ae (qv 0) ag)) (jY (vk vI gO aj (qv 0) (xO rfl dQ kz)))))
  af),?_⟩
 simp only[aS];left;refine⟨i,rfl,?_⟩;left;refine cN (fun c=>?_) (fun c=>?_)
 ·have c:=YU c
  left;refine bh .refl ?_;by_cases e:i < 65536
  ·rw[Y9 ⟨c,e⟩]at q;rw[Y9 e];exact q
  ·rw[Y4 fun z=>e z.2]at q;rw[Y4 e];exact q
 ·have c:=Y7 c
  refine bh .refl ?_;rw[Y4 fun z=>c z.1]at q;exact q
abbrev cC:Stmt:=mem 12 6
theorem gL:aE ["self","address","word"] ["self","address"] (ai cC):=⟨rfl,rfl,rfl,by decide +kernel,rfl,by decide +kernel,by decide +kernel⟩
def EV(C aD:Addr):eK:=fun ts Γ Z Y=>∃(x:Addr) (own:List Addr) (ad size:Int) (B:List bq) (nd:Nat) (W:Mm),ts=[.ref x,.int ad]∧iK Γ C x own size B nd W∧(∀ n:Int,1≤ad→ad≤size→W.w ad=some n→Z (.int n) Γ)∧((1≤ad→ad≤size→W.w ad=none)→Y (.ref aD) Γ)
theorem yD(F:gj K "look" "Store.look" cC f fd)(ah:ju K C)(aB:aU K C "cells")(cg:aU K C "words")(dO:mg "NoBlock" = some (.ref aD))(iP:W.excIn K aD [.type "ValueError",.type "Exception",.type "BaseException",.type "object"] "ValueError.__new__" = true):bJ P w K mg base (nL P w) 1 f fd ["self","address"] (cp (EV C aD)):=by
 refine vM F gL (fun ts Γ Z Y h=>?_) (fun cM A outer s H E ts Γ Z Y hr h=>?_)
 ·obtain⟨x,own,ad,size,B,nd,W,rfl,_⟩:=h
  rfl
 obtain⟨x,own,ad,size,B,nd,W,rfl,⟨pc,pg,ph,pd,G,ak,rfl,st,si,he⟩,q,qE⟩:=h;refine⟨_,(aa (aF (i:=2) gL.nd rfl (Or.inl rfl) (oh (vh vI vI aj (qv 1) (bG ah cg (qv 0))) (aV (bG ah aB (qv 0)) (qv 1) (fun _ _=>rfl)) cY))
  (aa (bF (aw kb (qv 2) cY (aG _)) (aa (eQ rfl rfl dO iP Zy (ae dt ag) dN)
  af) af)
  (aa (aI (qv 2))
  af))),?_⟩
 simp only[aS];obtain⟨dx,gx⟩:=st.ins;obtain⟨cs,gc,lc,cw⟩:=st.cells;left;refine cN (fun c=>?_) (fun c=>?_)
 ·have c1:=YU c
  left;refine cN (fun c=>?_) (fun c=>?_)
  ·have c2:=YU c
   left;have ea:ad=(ad.toNat:Nat):=by omega
   have at_:jo cs ad=some (wT (W.w ad)):=by
    have:=bY (xs:=cs) (cw ad c1 c2);rw[← ea]at this;exact this
   refine eP gc at_ ?_;cases e:W.w ad with
   | none=>
    left;exact⟨_,.refl,qE fun _ _=>e⟩
   | some n=>
    left;exact bh .refl (q n c1 c2 e)
  ·have c2:=Y7 c
   left;exact⟨_,.refl,qE fun _ z=>absurd z c2⟩
 ·have c1:=Y7 c
  left;exact⟨_,.refl,qE fun z _=>absurd z c1⟩
theorem yT{n i:Nat}(h:i < n):oO n (i:Int)=some i:=by
 unfold oO;rw[YV (by omega),YV (by omega),Zm]
abbrev cR:Stmt:=mem 12 7
theorem mF:aE ["self","address","word"] ["self","address","word"] (ai cR):=⟨rfl,rfl,rfl,by decide +kernel,rfl,by decide +kernel,by decide +kernel⟩
def EU(C aD cn:Addr):eK:=fun ts Γ Z Y=>∃(x:Addr) (own:List Addr) (ad v size:Int) (B:List bq) (nd:Nat) (W:Mm),ts=[.ref x,.int ad,.int v]∧iK Γ C x own size B nd W∧(∀ Γ',1≤ad→ad≤size→(W.w ad).isSome=true→0≤v→v < 65536→iK Γ' C x own size B nd ⟨w8 W.w ad 1 (some v),W.d⟩→Kq own Γ Γ'→Z .non Γ')∧((1≤ad→ad≤size→W.w ad=none)→Y (.ref aD) Γ)∧(1≤ad→ad≤size→(W.w ad).isSome=true→¬(0≤v∧v < 65536)→Y (.ref cn) Γ)
theorem BK(F:gj K "put" "Store.put" cR f fd)(nD:kL P w K mg base C "look" 1 ["self","address"] (EV C aD))(ur:fv P w K mg base "is_word" 2 ["thing"] EL)(ah:ju K C)(aB:aU K C "cells")(kg:mg "NoWord" = some (.ref cn))(uJ:W.excIn K cn [.type "ValueError",.type "Exception",.type "BaseException",.type "object"] "ValueError.__new__" = true):bJ P w K mg base (nL P w) 3 f fd ["self","address","word"] (cp (EU C aD cn)):=by
 refine vM F mF (fun ts Γ Z Y h=>?_) (fun cM A outer s H E ts Γ Z Y hr h=>?_)
 ·obtain⟨x,own,ad,v,size,B,nd,W,rfl,_⟩:=h
  rfl
 obtain⟨x,own,ad,v,size,B,nd,W,rfl,Pz,q,qB,qW⟩:=h;refine⟨_,(aa (cL (fT nD hr (by omega) om (qv 0) (ae (qv 1) ag)))
  (aa (bF (eE (cW (ay ur hr (by omega) rfl (ae (qv 2) ag)))) (aa (eQ rfl rfl kg uJ Zy (ae dt ag) dN)
  af) af)
  (aa (hV (qv 2) (mI (bG ah aB (qv 0)) (qv 1)))
  af))),?_⟩
 simp only[aS];have Kp:=Pz;obtain⟨pc,pg,ph,pd,G,ak,rfl,st,si,he⟩:=Kp;obtain⟨dx,gx⟩:=st.ins;obtain⟨cs,gc,lc,cw⟩:=st.cells;have ne:=st.ne;unfold i7;left;refine⟨x,_,ad,size,B,nd,W,rfl,Pz,fun n a1 a2 en=>?_,fun en=>⟨_,.refl,qB en⟩⟩;have hs:(W.w ad).isSome=true:=by rw[en];rfl
 left;refine⟨v,rfl,?_⟩;left;refine cN (fun c=>?_) (fun c=>?_)
 ·left
  refine⟨_,.refl,qW a1 a2 hs fun z=>?_⟩;rw[Y9 z]at c;cases c
 have hv:0≤v∧v < 65536:=by
  by_cases z:0≤v∧v < 65536
  ·exact z
  ·rw[Y4 z]at c;cases c
 left;have ea:ad=(ad.toNat:Nat):=by omega
 have ix:oO cs.length ad=some ad.toNat:=by
  have:=yT (n:=cs.length) (i:=ad.toNat) (by omega);rw[← ea]at this;exact this
 refine uX gc ix ?_;generalize e1:up Γ pc (O.lst _)=Γ1;have VM:=bw e1;have k1:Kq [pc] Γ Γ1:=e1 ▸ .set (by simp) _
 clear e1;left;obtain⟨ds,hd,ld⟩:=st.fB;have bR:qR Γ1 C x pc pg ph pd size G ak nd ⟨w8 W.w ad 1 (some v),W.d⟩:=⟨⟨dx,k1 _ _ (by simpa using ne.1) gx⟩,⟨_,VM,by rw[List.length_set];exact lc,cw.set (v:=some v) lc a1 a2⟩,k1 _ _ (by simpa using st.n1.symm) st.i4,k1 _ _ (by simpa using ne.2.2.2.2.1) st.held,⟨ds,k1 _ _ (by simpa using st.n2.symm) hd,ld⟩,st.n1,st.n2,st.n3,st.sz⟩;exact bh .refl (q Γ1 a1 a2 hs hv.1 hv.2 ⟨pc,pg,ph,pd,G,ak,rfl,bR,si,he⟩ (k1.mono (by simp)))
abbrev bQ:Stmt:=mem 12 8
theorem jq:aE ["self"] ["self"] (ai bQ):=⟨rfl,rfl,rfl,by decide +kernel,rfl,by decide +kernel,by decide +kernel⟩
def AS(C:Addr):eK:=fun ts Γ Z _=>∃(x:Addr) (own:List Addr) (size:Int) (B:List bq) (nd:Nat) (W:Mm),ts=[.ref x]∧iK Γ C x own size B nd W∧B.length≤900∧∀(p:Addr) (Bs:List bq) (Γ':Gp),Γ p=none→Bs.Perm B→(Bs.map (·.1)).Pairwise (·≤·)→Γ' p=some (.lst (Bs.map eY))→Le Γ Γ'→Z (.ref p) Γ'
theorem tE(F:gj K "blocks" "Store.blocks" bQ f fd)(ah:ju K C)(aM:aU K C "held")(eM:mg "sorted" = none):bJ P w K mg base ic 1 f fd ["self"] (cp (AS C)):=by
 refine lO F jq (fun ts Γ Z Y h=>?_) (fun cM A outer s H E ts Γ Z Y hr h=>?_)
 ·obtain⟨x,own,size,B,nd,W,rfl,_⟩:=h
  rfl
 obtain⟨x,own,size,B,nd,W,rfl,⟨pc,pg,ph,pd,G,ak,rfl,st,si,he⟩,bl,q⟩:=h;refine⟨_,(aa (aI (jz (own:=["address","many","hand"]) (cap:=[]) (ny rfl (by decide +kernel) (by decide +kernel)) rfl (dI (bO (uh rfl) rfl eM abV (ae (A6 PySem.F.plainAttrs_dict PySem.F.slot_dict_items PySem.F.type_dict_items vX (bG ah aM (qv 0))) ag))) (fun _ _ _ _=>(eJ (n:=2) rfl (aN (aL (i:=0) (show List.Nodup (["address","many","hand"]:List Str)from by decide +kernel) rfl (Or.inl rfl) (Or.inr rfl)) (aN (eJ (n:=2) rfl (aN (aL (i:=1) (show List.Nodup (["address","many","hand"]:List Str)from by decide +kernel) rfl (Or.inl rfl) (Or.inr rfl)) (aN (aL (i:=2) (show List.Nodup (["address","many","hand"]:List Str)from by decide +kernel) rfl (Or.inl rfl) (Or.inr rfl)) dz))) dz)))) (fun _ _ _ _=>mH) (fun _ _ _ _=>(dP (ae (qv 0) (ae (qv 1) (ae (qv 2) ag)))))))
  af),?_⟩
 simp only[aS];obtain⟨dx,gx⟩:=st.ins;have gh:=st.held;left;refine⟨jN gh,ph,ak,rfl,rfl,gh,fun p1 tY=>?_⟩;generalize e1:up _ p1 (O.ext _)=Γ1;have g1:=bw e1;have l1:=cz e1 tY
 left;refine⟨p1,ph,ak,rfl,g1,l1 _ _ gh,by rw[he.len,Zk];omega,fun kv GK=>?_,fun ms l pm hs hl=>?_⟩
 ·obtain⟨b,_,eb⟩:=YS.mp (he.2.mem_iff.mp GK)
  exact⟨b.1,by rw[← eb];rfl⟩
 generalize e2:up _ l (O.lst _)=Γ2;have g2:=bw e2;have l2:=cz e2 hl
 obtain⟨Bs,pB,eB⟩:=Sr.iz (pm.trans he.2) rfl;subst eB;have ks:(Bs.map qy).map (fun kv=>oM kv.1)=Bs.map (·.1):=by rw[aaO];rfl
 rw[ks]at hs;have lB:Bs.length=B.length:=pB.length_eq;clear e1 e2;left;refine⟨l,_,rfl,bx g2,Zi (cO (by rw[Yw,Yw];omega)),?_⟩;refine⟨fun rest τ ys Γ'=>∃(D R:List bq) (o0 o1 o2:Option T),rest=(R.map qy).map Gk∧Bs=D++R∧τ=[o0,o1,o2]∧ys=D.map eY∧Γ'=Γ2,⟨[],Bs,none,none,none,rfl,rfl,rfl,rfl,rfl⟩,?_,?_⟩
 ·rintro τ ys Γ' ⟨D,R,o0,o1,o2,er,eD,rfl,rfl,rfl⟩
  have hz:R=[]:=by
   cases R with
   | nil=>rfl
   | cons _ _=>cases er
  subst hz;rw[YY]at eD;subst eD;refine⟨bx g2,?_⟩;intro p3 pP;generalize e3:up _ p3 (O.lst _)=Γ3;have g3:=bw e3;have l3:=cz e3 pP
  have l13:=(l1.trans l2).trans l3;exact bh .refl (q p3 Bs Γ3 (fm (l:=[]) ((l1.trans l2).kq) pP (by simp)) pB hs g3 l13)
 ·rintro y r τ ys Γ' ⟨D,R,o0,o1,o2,er,eD,rfl,rfl,rfl⟩
  cases R with
  | nil=>cases er
  | cons k R=>
   cases er;refine⟨bx g2,?_⟩;unfold Gk qy kT;left;exact⟨D++[k],R,_,_,_,rfl,by rw[eD];simp,rfl,by rw[YH];rfl,rfl⟩
abbrev cF:Stmt:=mem 12 9
theorem kW:aE ["self"] ["self"] (ai cF):=⟨rfl,rfl,rfl,by decide +kernel,rfl,by decide +kernel,by decide +kernel⟩
def E6(C:Addr):eK:=fun ts Γ Z _=>∃(x:Addr) (own:List Addr) (size:Int) (B:List bq) (nd:Nat) (W:Mm),ts=[.ref x]∧iK Γ C x own size B nd W∧∀(p:Addr) (Γ':Gp),Γ p=none→Γ' p=some (.lst W.d)→Le Γ Γ'→Z (.ref p) Γ'
theorem yK(F:gj K "book" "Store.book" cF f fd)(ah:ju K C)(aQ:aU K C "deeds")(df:mg "list" = none):bJ P w K mg base ic 1 f fd ["self"] (cp (E6 C)):=by
 refine lO F kW (fun ts Γ Z Y h=>?_) (fun cM A outer s H E ts Γ Z Y hr h=>?_)
 ·obtain⟨x,own,size,B,nd,W,rfl,_⟩:=h
  rfl
 obtain⟨x,own,size,B,nd,W,rfl,⟨pc,pg,ph,pd,G,ak,rfl,st,si,he⟩,q⟩:=h;refine⟨_,(aa (aI (lL rZ rfl df jF (ae (bG ah aQ (qv 0)) ag)))
  af),?_⟩
 simp only[aS];obtain⟨dx,gx⟩:=st.ins;obtain⟨ds,gd,_,rfl⟩:=st.fB;left;refine⟨.ref pd,_,rfl,bx gd,fun p hp=>?_⟩;exact bh .refl (q p _ hp bt (.new hp))
end
theorem iV:∀{xs ys:List bq},xs.Perm ys→(xs.map (·.1)).Pairwise (·≤·)→(ys.map (·.1)).Pairwise (·≤·)→(xs.map (·.1)).Nodup→xs=ys
 | [],ys,p,_,_,_=>p.nil_eq
 | x::xs,[],p,_,_,_=>by have:=p.length_eq;simp at this
 | x::xs,y::ys,p,h1,h2,nd=>by
  rw[YC,aad]at h1 h2;rw[YC,Zq]at nd;have e:x=y:=by
   have mx:=p.mem_iff.mp (aaf (a:=x));have my:=p.mem_iff.mpr (aaf (a:=y));rcases Yq.mp mx with e | mx
   ·exact e
   rcases Yq.mp my with e | my
   ·exact e.symm
   have a1:=h1.1 y.1 (YS.mpr ⟨y,my,rfl⟩);have a2:=h2.1 x.1 (YS.mpr ⟨x,mx,rfl⟩);have:x.1=y.1:=by omega
   exact absurd (YS.mpr ⟨y,my,this.symm⟩) nd.1
  subst e;rw[iV (List.perm_cons x |>.mp p) h1.2 h2.2 nd.2]
theorem SI.zO{size:Int}{B:List bq}{G:List dC}(h:SI size B G):(B.map (·.1)).Nodup:=by
 rw[List.Nodup,List.pairwise_map];refine h.HA.imp_of_mem fun {p q} hp hq r z=>?_;have:=h.pos p hp;have:=h.pos q hq;omega
theorem SI.perm{size:Int}{B B':List bq}{G:List dC}(h:SI size B G)(p:B'.Perm B):SI size B' G:=by
 refine⟨h.sep,fun x=>(h.fr x).trans ?_,fun q hq=>h.pos q (p.mem_iff.mp hq),(p.pairwise_iff fun {x y} r=>r.symm).mpr h.HA⟩;unfold uw;exact and_congr Iff.rfl (and_congr Iff.rfl ⟨fun f q hq=>f q (p.mem_iff.mp hq),fun f q hq=>f q (p.mem_iff.mpr hq)⟩)
theorem Fits.perm{size at_ many:Int}{B B':List bq}(p:B'.Perm B)(h:Fits size B at_ many):Fits size B' at_ many:=⟨h.1,fun q hq=>h.2 q (p.mem_iff.mp hq)⟩
theorem Pl.perm{size many b:Int}{B B':List bq}(p:B'.Perm B)(h:Pl size B many b):Pl size B' many b:=
 ⟨h.1,h.2.1.imp id fun⟨q,hq,e⟩=>⟨q,p.mem_iff.mpr hq,e⟩,Fits.perm p h.2.2.1,fun a a1 fa=>h.2.2.2 a a1 (Fits.perm p.symm fa)⟩
theorem iK.pos{Γ:Gp}{C a:Addr}{own:List Addr}{size:Int}{B:List bq}{nd:Nat}{W:Mm}(h:iK Γ C a own size B nd W):∀ q∈B,1≤q.1∧1≤q.2.1∧q.1+q.2.1≤size+1:=by
 obtain⟨_,_,_,_,_,_,_,_,si,_⟩:=h;exact si.pos
theorem iK.si{Γ:Gp}{C a:Addr}{own:List Addr}{size:Int}{B:List bq}{nd:Nat}{W:Mm}(h:iK Γ C a own size B nd W):∃ G,SI size B G:=by
 obtain⟨_,_,_,_,G,_,_,_,si,_⟩:=h;exact⟨G,si⟩
theorem Pl.one{size many b c:Int}{B:List bq}(h0:∀ q∈B,1≤q.1∧1≤q.2.1∧q.1+q.2.1≤size+1)(h:Pl size B many b)(h':Pl size B many c):b=c:=by
 have p1:∀{b},Pl size B many b→1≤b:=fun h=>by
  rcases h.2.1 with rfl | ⟨q,hq,rfl⟩
  ·exact Zp _
  ·have:=h0 q hq;omega
 have a1:=h.2.2.2 c (p1 h') h'.2.2.1;have a2:=h'.2.2.2 b (p1 h) h.2.2.1;omega
theorem Pl.no{size many b:Int}{B:List bq}(h0:∀ q∈B,1≤q.1∧1≤q.2.1∧q.1+q.2.1≤size+1)(h:Pl size B many b)(n:wY size B many):False:=by
 rcases n with n | n
 ·have:=h.1;omega
 ·refine n b ?_ h.2.2.1
  rcases h.2.1 with rfl | ⟨q,hq,rfl⟩
  ·exact Zp _
  ·have:=h0 q hq;omega
def qp(ad:Int)(B:List bq):List bq:=B.filter fun q=>!decide (q.1=ad)
theorem uniq{B:List bq}(nd:(B.map (·.1)).Nodup){p q:bq}(hp:p∈B)(hq:q∈B)(e:p.1=q.1):p=q:=by
 induction B with
 | nil=>cases hp
 | cons x B ih=>
  rw[YC,Zq]at nd;rcases Yq.mp hp with h1 | h1<;>rcases Yq.mp hq with h2 | h2
  ·rw[h1,h2]
  ·subst h1;exact absurd (YS.mpr ⟨q,h2,e.symm⟩) nd.1
  ·subst h2;exact absurd (YS.mpr ⟨p,h1,e⟩) nd.1
  ·exact ih nd.2 h1 h2
theorem qo{ad len hand:Int}{B1 B2 BL:List bq}(nd:((B1++(ad,len,hand)::B2).map (·.1)).Nodup)(p:BL.Perm (B1++(ad,len,hand)::B2)):(qp ad BL).Perm (B1++B2):=by
 have:=p.filter fun q=>!decide (q.1=ad);refine this.trans ?_;have keep:∀ B:List bq,(∀ q∈B,q.1≠ad)→B.filter (fun q=>!decide (q.1=ad))=B:=fun B hB=>by
  rw[List.filter_eq_self];intro q hq;rw[Y4 (hB q hq)];rfl
 rw[YH,YC,ZY,Zq]at nd;have k1:∀ q∈B1,q.1≠ad:=fun q hq=>nd.2.2 q.1 (YS.mpr ⟨q,hq,rfl⟩) ad (by simp);have k2:∀ q∈B2,q.1≠ad:=fun q hq z=>nd.2.1.1 (YS.mpr ⟨q,hq,z⟩);rw[aaP,Zx,YN (by simp),keep B1 k1,keep B2 k2]
theorem oz{ad:Int}{BL:List bq}(h:(BL.map (·.1)).Pairwise (·≤·)):((qp ad BL).map (·.1)).Pairwise (·≤·):=h.sublist ((List.filter_sublist).map _)
theorem Ai{B:List bq}:∀ y∈B.map eY,Sm 1 y:=fun y hy=>by
 obtain⟨q,_,rfl⟩:=YS.mp hy;refine .tup (by simp) fun t ht=>?_;simp only[Yq,Yy,Zr]at ht;rcases ht with rfl | rfl | rfl<;>exact .int _
inductive cK where
 | take (hand b many:Int)
 | give (hand ad:Int)
def uD:cK→T
 | .take h b m=>.tup [.str "take",.int h,.int b,.int m]
 | .give h a=>.tup [.str "give",.int h,.int a]
inductive Step(size:Int):List bq→cK→List bq→Prop
 | take {B:List bq} {hand b many:Int} (p:Pl size B many b) (si:∃ G,SI size (B++[(b,many,hand)]) G):Step size B (.take hand b many) (B++[(b,many,hand)])
 | give {B1 B2:List bq} {hand ad len:Int} (si:∃ G,SI size (B1++B2) G):Step size (B1++(ad,len,hand)::B2) (.give hand ad) (B1++B2)
inductive Runs(size:Int):List bq→List cK→List bq→Prop
 | nil {B:List bq}:Runs size B [] B
 | cons {B B1 B2:List bq} {d:cK} {ds:List cK} (h:Step size B d B1) (r:Runs size B1 ds B2):Runs size B (d::ds) B2
theorem Runs.snoc{size:Int}{B B1 B2:List bq}{ds:List cK}{d:cK}(r:Runs size B ds B1)(h:Step size B1 d B2):Runs size B (ds++[d]) B2:=by
 induction r with
 | nil=>exact .cons h .nil
 | cons h' _ ih=>exact .cons h' (ih h)
theorem Step.len{size:Int}{B B':List bq}{d:cK}(h:Step size B d B'):B'.length≤B.length+1:=by
 cases h with
 | take=>rw[Yo];exact Yz _
 | give=>rw[Yo,Yo];show _≤_+(_+1)+1;omega
theorem Runs.len{size:Int}{B B':List bq}{ds:List cK}(r:Runs size B ds B'):B'.length≤B.length+ds.length:=by
 induction r with
 | nil=>exact Z6 _ _
 | cons h _ ih=>have:=h.len;rw[YF];omega
theorem Pl.wide{size more many b:Int}{B:List bq}(m0:size≤more)(h:Pl size B many b):Pl more B many b:=by
 obtain⟨m1,e,f,l⟩:=h;have:=f.1;refine⟨m1,e,⟨by omega,f.2⟩,fun a a1 fa=>?_⟩;by_cases c:b≤a
 ·exact c
 ·exact l a a1 ⟨by omega,fa.2⟩
theorem gZ:∀{B1 B2 C1 C2:List bq} {q r:bq},((B1++q::B2).map (·.1)).Nodup→B1++q::B2=C1++r::C2→q.1=r.1→B1=C1∧q=r∧B2=C2
 | [],B2,[],C2,q,r,nd,e,h=>by cases e;exact⟨rfl,rfl,rfl⟩
 | [],B2,c::C1,C2,q,r,nd,e,h=>by
  cases e;rw[aaJ,YC,Zq]at nd;exact absurd (YS.mpr ⟨r,by simp,h.symm⟩) nd.1
 | b::B1,B2,[],C2,q,r,nd,e,h=>by
  cases e;rw[ZO,YC,Zq]at nd;exact absurd (YS.mpr ⟨q,by simp,h⟩) nd.1
 | b::B1,B2,c::C1,C2,q,r,nd,e,h=>by
  rw[ZO,ZO]at e;obtain⟨e1,e2⟩:=aaX e;rw[ZO,YC,Zq]at nd;obtain⟨a1,a2,a3⟩:=gZ nd.2 e2 h;exact⟨by rw[e1,a1],a2,a3⟩
theorem HD{ds:List cK}:∀ y∈ds.map uD,Sm 1 y:=fun y hy=>by
 obtain⟨d,_,rfl⟩:=YS.mp hy;cases d with
 | take h b m=>
  refine .tup (by simp) fun t ht=>?_;simp only[Yq,Yy,Zr]at ht;rcases ht with rfl | rfl | rfl | rfl
  ·exact .str (by decide)
  all_goals exact .int _
 | give h a=>
  refine .tup (by simp) fun t ht=>?_;simp only[Yq,Yy,Zr]at ht;rcases ht with rfl | rfl | rfl
  ·exact .str (by decide)
  all_goals exact .int _
def kK(Γ:Gp)(C a:Addr)(own:List Addr)(size:Int)(B:List bq)(ds:List cK)(nd:Nat):Prop:=∃ W:Mm,W.d=ds.map uD∧iK Γ C a own size B nd W
theorem kK.kq{Γ Γ':Gp}{C a:Addr}{own:List Addr}{size:Int}{B:List bq}{ds:List cK}{nd:Nat}(h:kK Γ C a own size B ds nd){l:List Addr}(k:Kq l Γ Γ')(na:a∉l)(n:∀ o∈own,o∉l):kK Γ' C a own size B ds nd:=h.imp fun _ h=>⟨h.1,h.2.kq k na n⟩
theorem kK.le{Γ Γ':Gp}{C a:Addr}{own:List Addr}{size:Int}{B:List bq}{ds:List cK}{nd:Nat}(h:kK Γ C a own size B ds nd)(k:Le Γ Γ'):kK Γ' C a own size B ds nd:=h.imp fun _ h=>⟨h.1,h.2.le k⟩
theorem kK.less{Γ:Gp}{C a:Addr}{own:List Addr}{size:Int}{B:List bq}{ds:List cK}{n m:Nat}(h:kK Γ C a own size B ds n)(l:m≤n):kK Γ C a own size B ds m:=h.imp fun _ h=>⟨h.1,h.2.less l⟩
section
variable {P:Program}{w:World}{K:W.Frag}{mg:Str→Option Value}{base:Heap}{f C aZ aD aJ aT cn:Addr}{fd:FuncData}
abbrev dh:Stmt:=top 20
theorem dY:aE ["store","hand","many","found"] ["store","hand","many"] (ai dh):=⟨rfl,rfl,rfl,by decide +kernel,rfl,by decide +kernel,by decide +kernel⟩
def xx(C:Addr):eK:=fun ts Γ Z _=>∃(x:Addr) (own:List Addr) (hand many size:Int) (B:List bq) (ds:List cK) (nd:Nat),ts=[.ref x,.int hand,.int many]∧kK Γ C x own size B ds (nd+1)∧B.length≤100000 ∧
 (∀(b:Int) (Γ':Gp),Pl size B many b→(∃ W:Mm,W.d=(ds++[cK.take hand b many]).map uD∧W.w b=some 0∧iK Γ' C x own size (B++[(b,many,hand)]) nd W)→Kq own Γ Γ'→Z (.int b) Γ')∧(wY size B many→Z .non Γ)
theorem yB(F:gj K "_law_took" "_law_took" dh f fd)(nC:kL P w K mg base C "take" 2 ["self","hand","many"] (ES C aZ))(cS:mg "GateError" = some (.ref aT))(xmm:W.exmOne K (.ref aZ) (.ref aT)=some true):bJ P w K mg base ic 3 f fd ["store","hand","many"] (cp (xx C)):=by
 refine lO F dY (fun ts Γ Z Y h=>?_) (fun cM A outer s H E ts Γ Z Y hr h=>?_)
 ·obtain⟨x,own,hand,many,size,B,ds,nd,rfl,_⟩:=h
  rfl
 obtain⟨x,own,hand,many,size,B,ds,nd,rfl,⟨W,ew,st⟩,bl,q,qE⟩:=h;refine⟨_,(aa (aF (i:=3) dY.nd rfl (Or.inl rfl) cY)
  (aa (rq rfl rfl rfl cS (fun _ _ _ hx=>(aa (aF (i:=3) dY.nd rfl (Or.inl rfl) (fT nC hr (by omega) hx (qv 0) (ae (qv 1) (ae (qv 2) ag))))
  af)) (fun _=>(aa (aF (i:=3) dY.nd rfl (Or.inl rfl) cY)
  af)))
  (aa (aI (qv 3))
  af))),?_⟩
 simp only[aS];obtain⟨dx,pc,pg,ph,pd,gx⟩:=st.kj;unfold wM i7;left;refine⟨x,own,hand,many,size,B,nd,W,rfl,st,bl,fun b Γ' pl fO k2=>?_,fun no=>?_⟩
 ·left
  refine bh .refl (q b Γ' pl ⟨_,?_,?_,fO⟩ k2)
  ·show W.d++_=_
   rw[ew,YH];rfl
  ·show(if b≤b∧b < b+many then some 0 else _)=_
   have:=pl.1;rw[YV (by omega)]
 ·refine⟨xmm,?_⟩
  left;exact bh .refl (qE no)
abbrev di:Stmt:=top 21
theorem fP:aE ["store","hand","at","done"] ["store","hand","at"] (ai di):=⟨rfl,rfl,rfl,by decide +kernel,rfl,by decide +kernel,by decide +kernel⟩
def xy(C:Addr):eK:=fun ts Γ Z _=>∃(x:Addr) (own:List Addr) (ad hand size:Int) (B:List bq) (ds:List cK) (nd:Nat),ts=[.ref x,.int hand,.int ad]∧kK Γ C x own size B ds (nd+1)∧(∀(B1 B2:List bq) (len:Int) (Γ':Gp),B=B1++(ad,len,hand)::B2→kK Γ' C x own size (B1++B2) (ds++[cK.give hand ad]) nd→Kq own Γ Γ'→Z (.bl true) Γ')∧((∀ q∈B,q.1=ad→q.2.2≠hand)→Z (.bl false) Γ)
theorem yG(F:gj K "_law_gave" "_law_gave" di f fd)(nE:kL P w K mg base C "give" 3 ["self","hand","address"] (EW C aD aJ))(cS:mg "GateError" = some (.ref aT))(xbb:W.exmOne K (.ref aD) (.ref aT)=some true)(xww:W.exmOne K (.ref aJ) (.ref aT)=some true):bJ P w K mg base ic 4 f fd ["store","hand","at"] (cp (xy C)):=by
 refine lO F fP (fun ts Γ Z Y h=>?_) (fun cM A outer s H E ts Γ Z Y hr h=>?_)
 ·obtain⟨x,own,ad,hand,size,B,ds,nd,rfl,_⟩:=h
  rfl
 obtain⟨x,own,ad,hand,size,B,ds,nd,rfl,⟨W,ew,st⟩,q,qB⟩:=h;refine⟨_,(aa (aF (i:=3) fP.nd rfl (Or.inl rfl) ef)
  (aa (rq rfl rfl rfl cS (fun _ _ _ hx=>(aa (cL (fT nE hr (by omega) hx (qv 0) (ae (qv 1) (ae (qv 2) ag))))
  af)) (fun _=>(aa (aF (i:=3) fP.nd rfl (Or.inl rfl) ef)
  af)))
  (aa (aI (qv 3))
  af))),?_⟩
 simp only[aS];obtain⟨dx,pc,pg,ph,pd,gx⟩:=st.kj;obtain⟨G,si⟩:=st.si;unfold wM i7;left;refine⟨x,own,ad,hand,size,B,nd,W,rfl,st,fun B1 B2 len Γ' eB aR k'=>?_,fun en=>⟨xbb,?_⟩,fun b hb e1 e2=>⟨xww,?_⟩⟩
 ·left
  refine bh .refl (q B1 B2 len Γ' eB ⟨_,?_,aR⟩ k');show W.d++_=_
  rw[ew,YH];rfl
 ·left
  exact bh .refl (qB fun q hq e=>absurd e (en q hq))
 ·left
  refine bh .refl (qB fun q hq e=>?_);rw[uniq (SI.zO si) hq hb (by rw[e,e1])];exact e2
end
theorem i9{Γ:Gp}{Z:K3}{t u v:T}{ts:List T}(z:Z v Γ):sU (.tup (t::u::v::ts)) (.int 2) Γ Z:=⟨_,2,v,rfl,rfl,bY (j:=2) rfl,z⟩
theorem uW{Γ:Gp}{Z:K3}{t u v w:T}{ts:List T}(z:Z w Γ):sU (.tup (t::u::v::w::ts)) (.int 3) Γ Z:=⟨_,3,w,rfl,rfl,bY (j:=3) rfl,z⟩
structure Dd(Γ:Gp)(C a x:Addr)(own:List Addr)(pb pn:Addr)(size:Int)(B:List bq)(ds:List cK)(c nd:Nat):Prop where
 bg:cG Γ a c
 st:kK Γ C x own size B ds nd
 gb:Γ pb=some (.lst (B.map eY))
 gn:Γ pn=some (.lst (ds.map uD))
 pK:pb≠a
 rF:pn≠a
 pJ:pb≠pn
 oa:a∉own
 ob:pb∉own
 on:pn∉own
section
variable {Γ Γ':Gp}{C a x:Addr}{own:List Addr}{pb pn:Addr}{size:Int}{B:List bq}{ds:List cK}{c nd:Nat}
theorem Dd.xa(h:Dd Γ C a x own pb pn size B ds c nd):x≠a∧x≠pb∧x≠pn:=by
 obtain⟨W,_,st⟩:=h.st;obtain⟨_,_,_,_,_,gx⟩:=st.kj;obtain⟨_,_,_,ga,_⟩:=h.bg;exact⟨uC gx ga (by intro z;cases z),uC gx h.gb (by intro z;cases z),uC gx h.gn (by intro z;cases z)⟩
theorem Dd.le(h:Dd Γ C a x own pb pn size B ds c nd)(l:Le Γ Γ'):Dd Γ' C a x own pb pn size B ds c nd:={h with bg:=h.bg.le l,st:=h.st.le l,gb:=l _ _ h.gb,gn:=l _ _ h.gn}
theorem Dd.fr{c':Nat}(h:Dd Γ C a x own pb pn size B ds c nd)(k:Kq [a] Γ Γ')(bg:cG Γ' a c'):Dd Γ' C a x own pb pn size B ds c' nd:=
 {h with bg:=bg,st:=h.st.kq k (by simpa using h.xa.1) (fun o ho m=>h.oa (by rw[YA.mp m]at ho;exact ho)),gb:=k _ _ (by simpa using h.pK) h.gb,gn:=k _ _ (by simpa using h.rF) h.gn}
end
section
variable {P:Program}{w:World}{K:W.Frag}{mg:Str→Option Value}{base:Heap}{f C aZ aD aJ aT cn:Addr}{fd:FuncData}
abbrev dm:Stmt:=top 22
theorem bN:aE ["bag","store","size","blocks","done","hand","way","many","found","at","owner"] ["bag","store","size","blocks","done"] (ai dm):=⟨rfl,rfl,rfl,by decide +kernel,rfl,by decide +kernel,by decide +kernel⟩
def E4(C:Addr):eK:=fun ts Γ Z _=>∃(a x:Addr) (own:List Addr) (pb pn:Addr) (size:Int) (B:List bq) (ds:List cK) (c nd:Nat),ts=[.ref a,.ref x,.int size,.ref pb,.ref pn]∧Dd Γ C a x own pb pn size B ds (c+6) (nd+1)∧Runs size [] ds B∧ds.length≤500∧B.length≤500 ∧
 ∀(B':List bq) (xi:List cK) (Γ':Gp),Runs size [] xi B'→xi.length≤ds.length+1→Dd Γ' C a x own pb pn size B' xi c nd→Kq (a::pb::pn::own) Γ Γ'→Z .non Γ'
theorem yJ(F:gj K "_law_deed" "_law_deed" dm f fd)(bE:fv P w K mg base "_law_draw" 1 ["bag","many"] xA)(dS:fv P w K mg base "_law_took" 3 ["store","hand","many"] (xx C))(dU:fv P w K mg base "_law_gave" 4 ["store","hand","at"] (xy C))(pC:kL P w K mg base C "put" 3 ["self","address","word"] (EU C aD cn))(bZ:mg "len" = none):bJ P w K mg base ic 5 f fd ["bag","store","size","blocks","done"] (cp (E4 C)):=by
 refine lO F bN (fun ts Γ Z Y h=>?_) (fun cM A outer s H E ts Γ Z Y hr h=>?_)
 ·obtain⟨a,x,own,pb,pn,size,B,ds,c,nd,rfl,_⟩:=h
  rfl
 obtain⟨a,x,own,pb,pn,size,B,ds,c,nd,rfl,h0,rn,dl,bl,q⟩:=h;refine⟨_,(aa (aF (i:=5) bN.nd rfl (Or.inl rfl) (ay bE hr (by omega) rfl (ae (qv 0) (ae aj ag))))
  (aa (eI (bF (PW.pt (lK (aw lN (ay bE hr (by omega) rfl (ae (qv 0) (ae aj ag))) aj (aG _)) (jV (aw (ox hr.pU) (qv 3) (bU ag) (aG _))))) (aa (aF (i:=6) bN.nd rfl (Or.inl rfl) (ay bE hr (by omega) rfl (ae (qv 0) (ae aj ag))))
  (aa (aF (i:=7) bN.nd rfl (Or.inl rfl) (aO bM aj (ay bE hr (by omega) rfl (ae (qv 0) (ae aj ag)))))
  (aa (eI (bF (aw lN (qv 6) aj (aG _)) (aa (aF (i:=7) bN.nd rfl (Or.inl rfl) (aV (bU (ae (qv 2) (ae (aO bM (qv 2) aj) (ae aj ag)))) (aO iZ (qv 6) aj) (fun _ _=>rfl)))
  af) af))
  (aa (aF (i:=8) bN.nd rfl (Or.inl rfl) (ay dS hr (by omega) rfl (ae (qv 1) (ae (qv 5) (ae (qv 7) ag)))))
  (aa (eI (bF (aw yu (qv 8) cY (aG _)) (aa (cL (gN Zb ZW ZV eS (qv 4) (ae (dP (ae dt (ae (qv 5) (ae (qv 8) (ae (qv 7) ag))))) ag)))
  (aa (cL (gN Zb ZW ZV eS (qv 3) (ae (dP (ae (qv 8) (ae (qv 7) (ae (qv 5) ag)))) ag)))
  (aa (cL (fT pC hr (by omega) yp (qv 1) (ae (qv 8) (ae aj ag))))
  af))) af))
  af))))) (aa (aF (i:=9) bN.nd rfl (Or.inl rfl) (ay bE hr (by omega) rfl (ae (qv 0) (ae (bO i8 rfl bZ aaa (ae (qv 3) ag)) ag))))
  (aa (aF (i:=10) bN.nd rfl (Or.inl rfl) (aV (aV (qv 3) (qv 9) (fun _ _=>rfl)) aj (fun _ _=>rfl)))
  (aa (eI (bF (aw gP (ay bE hr (by omega) rfl (ae (qv 0) (ae aj ag))) aj (aG _)) (aa (aF (i:=10) bN.nd rfl (Or.inl rfl) (aO iZ aj (qv 10)))
  af) af))
  (aa (eI (bF (cW (ay dU hr (by omega) rfl (ae (qv 1) (ae (qv 10) (ae (aV (aV (qv 3) (qv 9) (fun _ _=>rfl)) aj (fun _ _=>rfl)) ag))))) (aa (cL (gN Zb ZW ZV eS (qv 4) (ae (dP (ae dt (ae (qv 10) (ae (aV (aV (qv 3) (qv 9) (fun _ _=>rfl)) aj (fun _ _=>rfl)) ag)))) ag)))
  (aa (cL (gN Zb aaD aaC iA (qv 3) (ae (qv 9) ag)))
  af)) af))
  af))))))
  af)),?_⟩
 simp only[aS];unfold i7;left;refine⟨a,2,c+5,rfl,h0.bg,by decide,by decide,fun hand Γ1 _ _ Dc NB=>?_⟩;have h1:=h0.fr NB.kq Dc;have k1:Kq (a::pb::pn::own) Γ Γ1:=NB.kq.mono (by simp);clear NB Dc;left;refine⟨fun τ Γ'=>eW Z .non Γ',?_,fun τ Γ' h=>?_⟩;rotate_left
 ·left
  exact h
 left;refine⟨a,3,c+4,rfl,h1.bg,by decide,by decide,fun r2 Γ2 _ _ C0 NA=>?_⟩;have h2:=h1.fr NA.kq C0;have k2:Kq (a::pb::pn::own) Γ Γ2:=k1.trans (NA.kq.mono (by simp));clear NA C0;left;refine cN (fun c1=>?_) (fun c1=>?_);rotate_left
 ·left
  intro p3 pP;generalize e3:up _ p3 (O.lst _)=Γ3;have g3:=bw e3;have l3:=cz e3 pP
  have h3:=h2.le l3;have k3:Kq (a::pb::pn::own) Γ Γ3:=k2.trans l3.kq;clear e3;refine⟨pb,p3,_,rfl,rfl,h3.gb,g3,?_⟩;left;refine cN (fun c2=>?_) (fun c2=>?_);rotate_left
  ·have np:0 < B.length:=by
    cases B with
    | nil=>cases c2
    | cons _ _=>simp
   left;refine iU h3.gb ?_;rw[Yw];left;refine⟨a,_,c+3,rfl,h3.bg,by omega,by omega,fun r4 Γ4 r0 r1 uu rP=>?_⟩;have h4:=h3.fr rP.kq uu;have k4:Kq (a::pb::pn::own) Γ Γ4:=k3.trans (rP.kq.mono (by simp));clear rP uu;obtain⟨j,rfl⟩:∃ j:Nat,r4=j:=⟨r4.toNat,by omega⟩;have hj:j < B.length:=by omega
   obtain⟨⟨ad,len,hd⟩,eq⟩:∃ k:bq,B[j]? = some k:=⟨B[j],YJ hj⟩;have ix:jo (B.map eY) (j:Int)=some (eY (ad,len,hd)):=bY (by rw[Y2,eq];rfl);have Mv:(B.map eY)[j]? = some (eY (ad,len,hd)):=by rw[Y2,eq];rfl
   left;refine eP h4.gb ix ?_;unfold eY;left;refine i9 ?_;left;refine⟨fun τ Γ'=>∃ ow:Int,τ=[some (T.ref a),some (T.ref x),some (T.int size),some (T.ref pb),some (T.ref pn),some (T.int hand),none,none,none,some (.int (j:Int)),some (.int ow)]∧Dd Γ' C a x own pb pn size B ds (c+2) (nd+1)∧Kq (a::pb::pn::own) Γ Γ',?_,?_⟩
   ·left
    refine⟨a,3,c+2,rfl,h4.bg,by decide,by decide,fun r5 Γ5 _ _ DN DH=>?_⟩;have h5:=h4.fr DH.kq DN;have k5:Kq (a::pb::pn::own) Γ Γ5:=k4.trans (DH.kq.mono (by simp));left;refine cN (fun c3=>?_) (fun c3=>?_)
    ·left
     exact⟨_,rfl,h5,k5⟩
    ·left
     exact⟨_,rfl,h5,k5⟩
   rintro τ Γ5 ⟨ow,rfl,h5,k5⟩;left;refine⟨fun τ Γ'=>eW Z .non Γ',?_,fun τ Γ' h=>?_⟩;rotate_left
   ·left
    exact h
   left;refine eP h5.gb ix ?_;unfold eY;left;obtain⟨W5,X9,ja⟩:=h5.st;obtain⟨G,si⟩:=ja.si;refine⟨x,own,ad,ow,size,B,ds,nd,rfl,h5.st,fun B1 B2 v9 Γ6 eB uy k6=>?_,fun no=>?_⟩;rotate_left
   ·left
    refine bh .refl (q B ds Γ5 rn (by omega) ⟨h5.bg.less (by omega),h5.st.less (by omega),h5.gb,h5.gn,h5.pK,h5.rF,h5.pJ,h5.oa,h5.ob,h5.on⟩ k5)
   have DG:=k6 _ _ h5.ob h5.gb;have zU:=k6 _ _ h5.on h5.gn;have Ig:=h5.bg.kq k6 h5.oa;have Gf:Kq (a::pb::pn::own) Γ Γ6:=k5.trans (k6.mono fun o ho=>by simp[ho]);have V6:B=B.take j++(ad,len,hd)::B.drop (j+1):=by
    have:B[j]=(ad,len,hd):=by rw[YJ hj]at eq;exact Y5 eq
    rw[← this,← ZR hj,YM]
   obtain⟨e1,e2,e3⟩:=gZ (q:=(ad,v9,ow)) (B1:=B1) (B2:=B2) (r:=(ad,len,hd)) (C1:=B.take j) (C2:=B.drop (j+1)) (by rw[← eB];exact SI.zO si) (by rw[← eB];exact V6) rfl;cases e2;left;refine fz zU ?_;left;refine eP DG ix ?_;unfold eY;left;refine⟨pn,_,_,rfl,rfl,zU,by rw[Yw,Zk];omega,?_⟩;generalize e7:up Γ6 pn (O.lst _)=Γ7;have G6:=bw e7;have k7:Kq [pn] Γ6 Γ7:=e7 ▸ .set (by simp) _
   have zV:=k7 _ _ (by simpa using h5.pJ) DG;clear e7;left;refine fz zV ?_;left;refine⟨pb,_,j,_,rfl,rfl,zV,by omega,Mv,?_⟩;generalize e8:up Γ7 pb (O.lst _)=Γ8;have G8:=bw e8;have k8:Kq [pb] Γ7 Γ8:=e8 ▸ .set (by simp) _
   clear e8;left;have wb:Kq [pb,pn] Γ6 Γ8:=(k7.mono (by simp)).trans (k8.mono (by simp));refine bh .refl (q (B1++B2) (ds++[.give hd ad]) Γ8 (rn.snoc ?_) (by rw[Yo];exact Yz _) ⟨(Ig.kq wb ?_).less (by omega),uy.kq wb ?_ ?_,?_,?_,h5.pK,h5.rF,h5.pJ,h5.oa,h5.ob,h5.on⟩ (Gf.trans (wb.mono (by simp))))
   ·rw[eB]
    obtain⟨W6,_,s6⟩:=uy;exact .give s6.si
   ·simpa using⟨h5.pK.symm,h5.rF.symm⟩
   ·simpa using h5.xa.2
   ·intro o ho m
    simp only[Yq,Yy,Zr]at m;rcases m with rfl | rfl
    ·exact h5.ob ho
    ·exact h5.on ho
   ·rw[G8,eV,e1,e3]
    congr 3
    rw[Z1]
   ·rw[k8 _ _ (by simpa using h5.pJ.symm) G6,YH];rfl
  have h2:=h3;have k2:=k3;clear h3 k3 c1 l3;obtain⟨W0,_,EK⟩:=h2.st;have Bj:=EK.pos;clear EK;left;refine⟨a,20,c+3,rfl,h2.bg,by decide,by decide,fun way Γ3 w0 w1 sm uc=>?_⟩;have h3:=h2.fr uc.kq sm;have k3:Kq (a::pb::pn::own) Γ Γ3:=k2.trans (uc.kq.mono (by simp));clear uc sm;left;refine⟨a,9,c+2,rfl,h3.bg,by decide,by decide,fun r4 Γ4 _ _ uu rP=>?_⟩;have h4:=h3.fr rP.kq uu;have k4:Kq (a::pb::pn::own) Γ Γ4:=k3.trans (rP.kq.mono (by simp));clear rP uu;left;refine⟨fun τ Γ'=>∃ many:Int,τ=[some (T.ref a),some (T.ref x),some (T.int size),some (T.ref pb),some (T.ref pn),some (T.int hand),some (.int way),some (.int many),none,none,none]∧Dd Γ' C a x own pb pn size B ds (c+2) (nd+1)∧Kq (a::pb::pn::own) Γ Γ',?_,?_⟩
  ·left
   refine cN (fun c3=>?_) (fun c3=>?_)
   ·have c3:=YU c3
    left;intro p5 xc;generalize e5:up _ p5 (O.lst _)=Γ5;have g5:=bw e5;have l5:=cz e5 xc
    obtain⟨n,_,hx⟩:=menu (ns:=[size,size+1,0]) (r:=way-17) (by omega) (by show _ < (3:Int);omega);left;refine eP g5 hx ?_;left;exact⟨n,rfl,h4.le l5,k4.trans l5.kq⟩
   ·left
    exact⟨_,rfl,h4,k4⟩
  rintro τ Γ5 ⟨many,rfl,h5,k5⟩;left;refine⟨x,own,hand,many,size,B,ds,nd,rfl,h5.st,by omega,fun b Γ6 pl uy k6=>?_,fun no=>?_⟩;rotate_left
  ·left
   refine⟨fun τ Γ'=>eW Z .non Γ',?_,fun τ Γ' h=>?_⟩;rotate_left
   ·left
    exact h
   left;exact bh .refl (q B ds Γ5 rn (by omega) ⟨h5.bg.less (by omega),h5.st.less (by omega),h5.gb,h5.gn,h5.pK,h5.rF,h5.pJ,h5.oa,h5.ob,h5.on⟩ k5)
  have b1:1≤b:=by
   rcases pl.2.1 with rfl | ⟨q,hq,rfl⟩
   ·exact Zp _
   ·have:=Bj q hq;omega
  have b2:=pl.2.2.1.1;have m1:=pl.1;have DG:=k6 _ _ h5.ob h5.gb;have zU:=k6 _ _ h5.on h5.gn;have Ig:=h5.bg.kq k6 h5.oa;have Gf:Kq (a::pb::pn::own) Γ Γ6:=k5.trans (k6.mono fun o ho=>by simp[ho]);obtain⟨W6,NK,w6,s6⟩:=uy;left;refine⟨fun τ Γ'=>eW Z .non Γ',?_,fun τ Γ' h=>?_⟩;rotate_left
  ·left
   exact h
  left;refine fz zU ?_;left;refine⟨pn,_,_,rfl,rfl,zU,by rw[Yw,Zk];omega,?_⟩;generalize e7:up Γ6 pn (O.lst _)=Γ7;have G6:=bw e7;have k7:Kq [pn] Γ6 Γ7:=e7 ▸ .set (by simp) _
  have zV:=k7 _ _ (by simpa using h5.pJ) DG;clear e7;left;refine fz zV ?_;left;refine⟨pb,_,_,rfl,rfl,zV,by rw[Yw,Zk];omega,?_⟩;generalize e8:up Γ7 pb (O.lst _)=Γ8;have G8:=bw e8;have k8:Kq [pb] Γ7 Γ8:=e8 ▸ .set (by simp) _
  clear e8;have wb:Kq [pb,pn] Γ6 Γ8:=(k7.mono (by simp)).trans (k8.mono (by simp));have Du:∀ o∈own,o∉[pb,pn]:=fun o ho m=>by
   simp only[Yq,Yy,Zr]at m;rcases m with rfl | rfl
   ·exact h5.ob ho
   ·exact h5.on ho
  have s8:=s6.kq wb (by simpa using h5.xa.2) Du;obtain⟨Q5,PU,PQ,PN,PR,Ni⟩:=s8.kj;have Nn:=k8 _ _ (by simpa using h5.pJ.symm) G6;have Ie:=Ig.kq wb (by simpa using⟨h5.pK.symm,h5.rF.symm⟩);left;refine⟨x,own,b,65535,size,_,nd,W6,rfl,s8,fun Γ9 _ _ _ _ _ s9 k9=>?_,fun no=>?_,fun _ _ _ no=>?_⟩
  ·left
   refine bh .refl (q (B++[(b,many,hand)]) (ds++[.take hand b many]) Γ9 (rn.snoc (.take pl s9.si)) (by rw[Yo];exact Yz _) ⟨(Ie.kq k9 h5.oa).less (by omega),⟨_,NK,s9⟩,?_,?_,h5.pK,h5.rF,h5.pJ,h5.oa,h5.ob,h5.on⟩ ((Gf.trans (wb.mono (by simp))).trans (k9.mono fun o ho=>by simp[ho])))
   ·rw[k9 _ _ h5.ob G8,YH];rfl
   ·rw[k9 _ _ h5.on Nn,YH];rfl
  ·rw[no b1 (by omega)]at w6
   cases w6
  ·exact absurd ⟨by decide,by decide⟩ no
 obtain⟨W0,_,EK⟩:=h2.st;have Bj:=EK.pos;clear EK;left;refine⟨a,20,c+3,rfl,h2.bg,by decide,by decide,fun way Γ3 w0 w1 sm uc=>?_⟩;have h3:=h2.fr uc.kq sm;have k3:Kq (a::pb::pn::own) Γ Γ3:=k2.trans (uc.kq.mono (by simp));clear uc sm;left;refine⟨a,9,c+2,rfl,h3.bg,by decide,by decide,fun r4 Γ4 _ _ uu rP=>?_⟩;have h4:=h3.fr rP.kq uu;have k4:Kq (a::pb::pn::own) Γ Γ4:=k3.trans (rP.kq.mono (by simp));clear rP uu;left;refine⟨fun τ Γ'=>∃ many:Int,τ=[some (T.ref a),some (T.ref x),some (T.int size),some (T.ref pb),some (T.ref pn),some (T.int hand),some (.int way),some (.int many),none,none,none]∧Dd Γ' C a x own pb pn size B ds (c+2) (nd+1)∧Kq (a::pb::pn::own) Γ Γ',?_,?_⟩
 ·left
  refine cN (fun c3=>?_) (fun c3=>?_)
  ·have c3:=YU c3
   left;intro p5 xc;generalize e5:up _ p5 (O.lst _)=Γ5;have g5:=bw e5;have l5:=cz e5 xc
   obtain⟨n,_,hx⟩:=menu (ns:=[size,size+1,0]) (r:=way-17) (by omega) (by show _ < (3:Int);omega);left;refine eP g5 hx ?_;left;exact⟨n,rfl,h4.le l5,k4.trans l5.kq⟩
  ·left
   exact⟨_,rfl,h4,k4⟩
 rintro τ Γ5 ⟨many,rfl,h5,k5⟩;left;refine⟨x,own,hand,many,size,B,ds,nd,rfl,h5.st,by omega,fun b Γ6 pl uy k6=>?_,fun no=>?_⟩;rotate_left
 ·left
  refine⟨fun τ Γ'=>eW Z .non Γ',?_,fun τ Γ' h=>?_⟩;rotate_left
  ·left
   exact h
  left;exact bh .refl (q B ds Γ5 rn (by omega) ⟨h5.bg.less (by omega),h5.st.less (by omega),h5.gb,h5.gn,h5.pK,h5.rF,h5.pJ,h5.oa,h5.ob,h5.on⟩ k5)
 have b1:1≤b:=by
  rcases pl.2.1 with rfl | ⟨q,hq,rfl⟩
  ·exact Zp _
  ·have:=Bj q hq;omega
 have b2:=pl.2.2.1.1;have m1:=pl.1;have DG:=k6 _ _ h5.ob h5.gb;have zU:=k6 _ _ h5.on h5.gn;have Ig:=h5.bg.kq k6 h5.oa;have Gf:Kq (a::pb::pn::own) Γ Γ6:=k5.trans (k6.mono fun o ho=>by simp[ho]);obtain⟨W6,NK,w6,s6⟩:=uy;left;refine⟨fun τ Γ'=>eW Z .non Γ',?_,fun τ Γ' h=>?_⟩;rotate_left
 ·left
  exact h
 left;refine fz zU ?_;left;refine⟨pn,_,_,rfl,rfl,zU,by rw[Yw,Zk];omega,?_⟩;generalize e7:up Γ6 pn (O.lst _)=Γ7;have G6:=bw e7;have k7:Kq [pn] Γ6 Γ7:=e7 ▸ .set (by simp) _
 have zV:=k7 _ _ (by simpa using h5.pJ) DG;clear e7;left;refine fz zV ?_;left;refine⟨pb,_,_,rfl,rfl,zV,by rw[Yw,Zk];omega,?_⟩;generalize e8:up Γ7 pb (O.lst _)=Γ8;have G8:=bw e8;have k8:Kq [pb] Γ7 Γ8:=e8 ▸ .set (by simp) _
 clear e8;have wb:Kq [pb,pn] Γ6 Γ8:=(k7.mono (by simp)).trans (k8.mono (by simp));have Du:∀ o∈own,o∉[pb,pn]:=fun o ho m=>by
  simp only[Yq,Yy,Zr]at m;rcases m with rfl | rfl
  ·exact h5.ob ho
  ·exact h5.on ho
 have s8:=s6.kq wb (by simpa using h5.xa.2) Du;obtain⟨Q5,PU,PQ,PN,PR,Ni⟩:=s8.kj;have Nn:=k8 _ _ (by simpa using h5.pJ.symm) G6;have Ie:=Ig.kq wb (by simpa using⟨h5.pK.symm,h5.rF.symm⟩);left;refine⟨x,own,b,65535,size,_,nd,W6,rfl,s8,fun Γ9 _ _ _ _ _ s9 k9=>?_,fun no=>?_,fun _ _ _ no=>?_⟩
 ·left
  refine bh .refl (q (B++[(b,many,hand)]) (ds++[.take hand b many]) Γ9 (rn.snoc (.take pl s9.si)) (by rw[Yo];exact Yz _) ⟨(Ie.kq k9 h5.oa).less (by omega),⟨_,NK,s9⟩,?_,?_,h5.pK,h5.rF,h5.pJ,h5.oa,h5.ob,h5.on⟩ ((Gf.trans (wb.mono (by simp))).trans (k9.mono fun o ho=>by simp[ho])))
  ·rw[k9 _ _ h5.ob G8,YH];rfl
  ·rw[k9 _ _ h5.on Nn,YH];rfl
 ·rw[no b1 (by omega)]at w6
  cases w6
 ·exact absurd ⟨by decide,by decide⟩ no
end
theorem lQ{ad:Int}{D:List bq}{k:bq}:qp ad (D++[k])=if decide (k.1=ad)=true then qp ad D else qp ad D++[k]:=by
 unfold qp;rw[aaP];by_cases e:decide (k.1=ad)=true
 ·rw[YV e,Zx,YN (by rw[e];decide),aa9,YY]
 ·rw[YN e,Zx,YV (by simp at e;simp[e]),aa9]
theorem gB{i j:Int}:decide (V.int i=V.int j)=decide (i=j):=by
 by_cases e:i=j
 ·rw[Y9 e,Y9 (by rw[e])]
 ·rw[Y4 e,Y4 fun z=>e (V.int.inj z)]
def zM(ad hand:Int)(B:List bq):List bq:=B.filter fun q=>decide (q.1=ad)&&decide (q.2.2=hand)
theorem ke{ad hand:Int}{D:List bq}{k:bq}:zM ad hand (D++[k])=if(decide (k.1=ad)&&decide (k.2.2=hand))=true then zM ad hand D++[k]else zM ad hand D:=by
 unfold zM;rw[aaP];by_cases e:(decide (k.1=ad)&&decide (k.2.2=hand))=true
 ·rw[YV e,Zx,YV e,aa9]
 ·rw[YN e,Zx,YN e,aa9,YY]
section
variable {P:Program}{w:World}{K:W.Frag}{mg:Str→Option Value}{base:Heap}{f C aZ aD aJ aT cn:Addr}{fd:FuncData}
abbrev cA:Stmt:=top 23
theorem cH:aE ["size","book","blocks","row"] ["size","book"] (ai cA):=⟨rfl,rfl,rfl,by decide +kernel,rfl,by decide +kernel,by decide +kernel⟩
def EM:eK:=fun ts Γ Z _=>∃(pn:Addr) (size:Int) (B:List bq) (ds:List cK),ts=[.int size,.ref pn]∧Γ pn=some (.lst (ds.map uD))∧1≤size∧Runs size [] ds B∧ds.length≤500 ∧
 ∀(p:Addr) (BL:List bq) (Γ':Gp),Γ p=none→Γ' p=some (.lst (BL.map eY))→BL.Perm B→(BL.map (·.1)).Pairwise (·≤·)→BL.length≤500→Le Γ Γ'→Z (.ref p) Γ'
theorem tD(F:gj K "_law_walked" "_law_walked" cA f fd)(bj:fv P w K mg base "_law_alike" 3 ["found","due"] (pZ 3))(px:fv P w K mg base "_law_place" 2 ["size","blocks","many"] zD)(eM:mg "sorted" = none):bJ P w K mg base ic 4 f fd ["size","book"] (cp EM):=by
 refine lO F cH (fun ts Γ Z Y h=>?_) (fun cM A outer s H E ts Γ Z Y hr h=>?_)
 ·obtain⟨pn,size,B,ds,rfl,_⟩:=h
  rfl
 obtain⟨pn,size,B,ds,rfl,gn,s1,rn,dl,q⟩:=h;refine⟨_,(aa (aF (i:=2) cH.nd rfl (Or.inl rfl) (bU ag))
  (aa (fS ZP rfl (dI (qv 1)) (aL (i:=3) cH.nd rfl (Or.inr rfl)) (aa (eI (bF (aw gP (aV (qv 3) aj (fun _ _=>rfl)) dt (aG _)) (aa (bF (eE (cW (ay bj hr (by omega) rfl (ae (aV (qv 3) aj (fun _ _=>rfl)) (ae (ay px hr (by omega) rfl (ae (qv 0) (ae (qv 2) (ae (aV (qv 3) aj (fun _ _=>rfl)) ag)))) ag))))) (aa (aI cY)
  af) af)
  (aa (aF (i:=2) cH.nd rfl (Or.inl rfl) (bO (ui eY (fun q=>q.1) (fun x=>⟨_,rfl⟩)) rfl eM abV (ae (aO rD (qv 2) (bU (ae (dP (ae (aV (qv 3) aj (fun _ _=>rfl)) (ae (aV (qv 3) aj (fun _ _=>rfl)) (ae (aV (qv 3) aj (fun _ _=>rfl)) ag)))) ag))) ag)))
  af)) (aa (bF (aw (ox hr.pU) (jz (own:=["one"]) (cap:=[(3,"row")]) (se rfl (by decide +kernel) (by decide +kernel) rfl (⟨rfl,trivial⟩) rfl (⟨⟨rfl,rfl,rfl⟩,trivial⟩)) rfl (dI (qv 2)) (fun _ _ _ _=>(aL (i:=0) (show List.Nodup (["one","row"]:List Str)from by decide +kernel) rfl (Or.inl rfl) (Or.inr rfl))) (fun _ _ _ _=>(rp (PW.pt (fR (aw gP (aV (qv 0) aj (fun _ _=>rfl)) (aV (qv 1) aj (fun _ _=>rfl)) (aG _)) (ff (aw gP (aV (qv 0) aj (fun _ _=>rfl)) (aV (qv 1) aj (fun _ _=>rfl)) (aG _))))))) (fun _ _ _ _=>(qv 0))) (bU ag) (aG _)) (aa (aI cY)
  af) af)
  (aa (xM (i:=2) (own:=["one"]) (cap:=[(3,"row")]) (se rfl (by decide +kernel) (by decide +kernel) rfl (⟨rfl,trivial⟩) rfl (⟨⟨rfl,rfl,rfl⟩,trivial⟩)) rfl (dI (qv 2)) (fun _ _ _ _=>(aL (i:=0) (show List.Nodup (["one","row"]:List Str)from by decide +kernel) rfl (Or.inl rfl) (Or.inr rfl))) (fun _ _ _ _=>(rp (aw oq (aV (qv 0) aj (fun _ _=>rfl)) (aV (qv 1) aj (fun _ _=>rfl)) (aG _)))) (fun _ _ _ _=>(qv 0)) cH.nd rfl rfl)
  af))))
  af))
  (aa (aI (qv 2))
  af))),?_⟩
 simp only[aS];left;intro p1 tY;generalize e1:up _ p1 (O.lst _)=Γ1;have g1:=bw e1;have l1:=cz e1 tY
 clear e1;left;refine⟨pn,_,rfl,bx (l1 _ _ gn),?_⟩;refine⟨fun rest τ Γ'=>∃(kD iG:List cK) (p:Addr) (BL Bc:List bq) (o3:Option T),rest=iG.map uD∧ds=kD++iG∧τ=[some (.int size),some (.ref pn),some (.ref p),o3]∧Γ p=none∧Γ' p=some (.lst (BL.map eY))∧BL.Perm Bc∧(BL.map (·.1)).Pairwise (·≤·)∧Runs size Bc iG B∧Bc.length≤kD.length∧(∃ G,SI size Bc G)∧Le Γ Γ',⟨[],ds,p1,[],[],none,rfl,rfl,rfl,tY,g1,.refl _,.nil,rn,Yz _,⟨_,SI.init s1⟩,l1⟩,?_,?_⟩
 ·rintro τ Γ' ⟨kD,iG,p,BL,Bc,o3,er,ed,rfl,fp,gp,pm,so,rc,bl,_,l'⟩
  have hz:iG=[]:=by
   cases iG with
   | nil=>rfl
   | cons _ _=>cases er
  subst hz;cases rc;refine⟨bx (l' _ _ gn),?_⟩;left;exact bh .refl (q p BL Γ' fp gp pm so (by rw[ed,YY]at dl;have:=pm.length_eq;omega) l')
 rintro y r τ Γ2 ⟨kD,iG,p,BL,Bc,o3,er,ed,rfl,fp,gp,pm,so,rc,bl,⟨G,si⟩,l2⟩;cases rc with
 | nil=>cases er
 | @cons _ Bd _ d iG st rc=>
  cases er;refine⟨bx (l2 _ _ gn),?_⟩;have Wb:kD.length+(iG.length+1)≤500:=by rw[ed,Yo]at dl;exact dl
  have lp:=pm.length_eq;have Fc:=SI.perm si pm;have T6:=SI.zO Fc;have Hn:ds=(kD++[d])++iG:=by rw[ed];simp
  have Ic:Bd.length≤(kD++[d]).length:=by have:=st.len;rw[Yo];show _≤_+1;omega
  cases st with
  | @take _ hand b many pl Fd=>
   have IM:=Pl.perm pm pl;simp only[uD];left;refine⟨fun τ Γ'=>∃(p:Addr) (BL:List bq),τ=[some (.int size),some (.ref pn),some (.ref p),some (.tup [.str "take",.int hand,.int b,.int many])]∧Γ p=none∧Γ' p=some (.lst (BL.map eY))∧BL.Perm (Bc++[(b,many,hand)])∧(BL.map (·.1)).Pairwise (·≤·)∧Le Γ Γ',?_,?_⟩;rotate_left
   ·rintro τ Γ' ⟨p,BL,rfl,fp,gp,pm,so,l'⟩
    left;exact⟨kD++[.take hand b many],iG,p,BL,_,_,rfl,Hn,rfl,fp,gp,pm,so,rc,Ic,Fd,l'⟩
   left;refine i9 ?_;left;refine uW ?_;left;refine⟨p,size,many,BL,rfl,gp,by omega,⟨G,Fc⟩,fun r ML=>?_⟩;rcases ML with⟨rfl,no⟩ | ⟨b',rfl,SO⟩
   ·exact(IM.no Fc.pos no).elim
   have eb:=Pl.one Fc.pos IM SO;subst eb;left;refine⟨.int b,.int b,0,rfl,.inl ⟨rfl,.int b⟩,by decide,?_⟩;left;refine i9 ?_;left;refine uW ?_;left;intro p4 Cm;generalize e4:up _ p4 (O.lst _)=Γ4;have g4:=bw e4;have l4:=cz e4 Cm
   have G5:=l4 _ _ gp;clear e4;refine⟨p,p4,_,_,rfl,rfl,G5,g4,Zi (cO (by rw[Yw];show _+1≤_;omega)),?_⟩;intro p5 xc;generalize e5:up _ p5 (O.lst _)=Γ5;have g5:=bw e5;have l5:=cz e5 xc
   have g5:Γ5 p5=some (.lst ((BL++[(b,many,hand)]).map eY)):=by rw[g5,YH];rfl
   clear e5;left;have fq:∀ p∈BL,p.1≠b:=fun p hp z=>by
    have:=IM.2.2.1.2 p hp;have:=(Fc.pos p hp).2.1;have:=IM.1;omega
   refine⟨p5,BL++[(b,many,hand)],rfl,g5,by rw[Yo,Zk];show _+1≤_;omega,?_,fun ms l Sz hs hl=>?_⟩
   ·rw[YH,ZY]
    refine⟨T6,by simp,fun u hu v hv z=>?_⟩;obtain⟨p,hp,rfl⟩:=YS.mp hu;have hv:v=b:=by simpa using hv
    exact fq p hp (z.trans hv)
   generalize e6:up _ l (O.lst _)=Γ6;have g6:=bw e6;have l6:=cz e6 hl
   have Qa:=(l2.trans (l4.trans l5));left;exact⟨l,ms,rfl,fm (l:=[]) Qa.kq hl (by simp),g6,Sz.trans (pm.append (.refl _)),hs,Qa.trans l6⟩
  | @give B1 B2 hand ad len Fd=>
   have mq:(ad,len,hand)∈BL:=pm.mem_iff.mpr (by simp);simp only[uD];left;refine⟨fun τ Γ'=>∃(p:Addr) (BL:List bq),τ=[some (.int size),some (.ref pn),some (.ref p),some (.tup [.str "give",.int hand,.int ad])]∧Γ p=none∧Γ' p=some (.lst (BL.map eY))∧BL.Perm (B1++B2)∧(BL.map (·.1)).Pairwise (·≤·)∧Le Γ Γ',?_,?_⟩;rotate_left
   ·rintro τ Γ' ⟨p,BL,rfl,fp,gp,pm,so,l'⟩
    left;exact⟨kD++[.give hand ad],iG,p,BL,_,_,rfl,Hn,rfl,fp,gp,pm,so,rc,Ic,Fd,l'⟩
   left;refine⟨p,_,rfl,bx gp,Zi (cO (by rw[Yw];omega)),?_⟩;refine⟨fun rest τ ys Γ'=>∃(D R:List bq) (o0:Option T),rest=R.map eY∧BL=D++R∧τ=[o0,some (.tup [.str "give",.int hand,.int ad])]∧ys=(zM ad hand D).map eY∧Γ'=Γ2,⟨[],BL,none,rfl,rfl,rfl,rfl,rfl⟩,?_,?_⟩;rotate_left
   ·rintro x r τ ys Γ' ⟨D,R,o0,er,eB,rfl,rfl,rfl⟩
    cases R with
    | nil=>cases er
    | cons k R=>
     cases er;refine⟨bx gp,?_⟩;unfold eY;left;refine i9 ?_;left;rw[gB];refine cN (fun c=>?_) (fun c=>?_)
     ·left
      refine i9 ?_;left;rw[gB];refine cN (fun c2=>?_) (fun c2=>?_)
      ·left
       exact⟨D++[k],R,_,rfl,by rw[eB];simp,rfl,by rw[ke,YV (by rw[c,c2];rfl),YH];rfl,rfl⟩
      ·exact⟨D++[k],R,_,rfl,by rw[eB];simp,rfl,by rw[ke,YN (by rw[c2,Bool.and_false];decide)],rfl⟩
     ·exact⟨D++[k],R,_,rfl,by rw[eB];simp,rfl,by rw[ke,YN (by rw[c,abU];decide)],rfl⟩
   rintro τ ys Γ' ⟨D,R,o0,er,eB,rfl,rfl,rfl⟩;have hz:R=[]:=by
    cases R with
    | nil=>rfl
    | cons _ _=>cases er
   subst hz;rw[YY]at eB;subst eB;refine⟨bx gp,?_⟩;intro p3 pP;generalize e3:up _ p3 (O.lst _)=Γ3;have g3:=bw e3;have l3:=cz e3 pP
   clear e3;left;intro p4 Cm;generalize e4:up _ p4 (O.lst _)=Γ4;have g4:=bw e4;have l4:=cz e4 Cm
   clear e4;refine⟨p3,p4,_,rfl,rfl,l4 _ _ g3,g4,?_⟩;have mo:(ad,len,hand)∈zM ad hand BL:=abN.mpr ⟨mq,by simp⟩;have ne:((zM ad hand BL).map eY).isEmpty=false:=by
    cases e:zM ad hand BL with
    | nil=>rw[e]at mo;cases mo
    | cons _ _=>rfl
   rw[ne];have G5:=(l3.trans l4) _ _ gp;left;refine⟨p,_,rfl,bx G5,Zi (cO (by rw[Yw];omega)),?_⟩;refine⟨fun rest τ ys Γ'=>∃(D R:List bq) (o0:Option T),rest=R.map eY∧BL=D++R∧τ=[o0,some (.tup [.str "give",.int hand,.int ad])]∧ys=(qp ad D).map eY∧Γ'=Γ4,⟨[],BL,none,rfl,rfl,rfl,rfl,rfl⟩,?_,?_⟩;rotate_left
   ·rintro x r τ ys Γ' ⟨D,R,o0,er,eB,rfl,rfl,rfl⟩
    cases R with
    | nil=>cases er
    | cons k R=>
     cases er;refine⟨bx G5,?_⟩;unfold eY;left;refine i9 ?_;left;rw[gB];refine cN (fun c=>?_) (fun c=>?_)
     ·left
      have c:decide (k.1=ad)=false:=by simpa using c
      exact⟨D++[k],R,_,rfl,by rw[eB];simp,rfl,by rw[lQ,YN (by rw[c];decide),YH];rfl,rfl⟩
     ·have c:decide (k.1=ad)=true:=by simpa using c
      exact⟨D++[k],R,_,rfl,by rw[eB];simp,rfl,by rw[lQ,YV c],rfl⟩
   rintro τ ys Γ' ⟨D,R,o0,er,eB,rfl,rfl,rfl⟩;have hz:R=[]:=by
    cases R with
    | nil=>rfl
    | cons _ _=>cases er
   subst hz;rw[YY]at eB;subst eB;refine⟨bx G5,?_⟩;intro p5 xc;generalize e5:up _ p5 (O.lst _)=Γ5;have g5:=bw e5;have l5:=cz e5 xc
   clear e5;have Qb:=l2.trans (l3.trans l4);left;exact⟨p5,_,rfl,fm (l:=[]) Qb.kq xc (by simp),g5,qo (SI.zO si) pm,oz so,Qb.trans l5⟩
abbrev cQ:Stmt:=top 24
theorem iu:aE ["store","book","row"] ["store","book"] (ai cQ):=⟨rfl,rfl,rfl,by decide +kernel,rfl,by decide +kernel,by decide +kernel⟩
def E8(C:Addr):eK:=fun ts Γ Z _=>∃(x pn:Addr) (own:List Addr) (size words:Int) (B:List bq) (ds:List cK) (nd:Nat),ts=[.ref x,.ref pn]∧Γ pn=some (.lst (ds.map uD))∧pn∉own∧size≤words∧kK Γ C x own words [] [] (nd+ds.length)∧Runs size [] ds B∧ds.length≤500 ∧
 ∀ Γ':Gp,kK Γ' C x own words B ds nd→Kq own Γ Γ'→Z (.bl true) Γ'
theorem vR(F:gj K "_law_again" "_law_again" cQ f fd)(bj:fv P w K mg base "_law_alike" 3 ["found","due"] (pZ 3))(dS:fv P w K mg base "_law_took" 3 ["store","hand","many"] (xx C))(dU:fv P w K mg base "_law_gave" 4 ["store","hand","at"] (xy C)):bJ P w K mg base ic 5 f fd ["store","book"] (cp (E8 C)):=by
 refine lO F iu (fun ts Γ Z Y h=>?_) (fun cM A outer s H E ts Γ Z Y hr h=>?_)
 ·obtain⟨x,pn,own,size,words,B,ds,nd,rfl,_⟩:=h
  rfl
 obtain⟨x,pn,own,size,words,B,ds,nd,rfl,gn,on,sw,st,rn,dl,q⟩:=h;refine⟨_,(aa (fS ZP rfl (dI (qv 1)) (aL (i:=2) iu.nd rfl (Or.inl rfl)) (aa (bF (PW.pt (fR (aw gP (aV (qv 2) aj (fun _ _=>rfl)) dt (aG _)) (ff (eE (cW (ay bj hr (by omega) rfl (ae (ay dS hr (by omega) rfl (ae (qv 0) (ae (aV (qv 2) aj (fun _ _=>rfl)) (ae (aV (qv 2) aj (fun _ _=>rfl)) ag)))) (ae (aV (qv 2) aj (fun _ _=>rfl)) ag)))))))) (aa (aI ef)
  af) af)
  (aa (bF (PW.pt (fR (aw gP (aV (qv 2) aj (fun _ _=>rfl)) dt (aG _)) (ff (eE (cW (ay dU hr (by omega) rfl (ae (qv 0) (ae (aV (qv 2) aj (fun _ _=>rfl)) (ae (aV (qv 2) aj (fun _ _=>rfl)) ag))))))))) (aa (aI ef)
  af) af)
  af)))
  (aa (aI ef)
  af)),?_⟩
 simp only[aS];left;refine⟨pn,_,rfl,bx gn,?_⟩;refine⟨fun rest τ Γ'=>∃(kD iG:List cK) (Bc:List bq) (o2:Option T),rest=iG.map uD∧ds=kD++iG∧τ=[some (.ref x),some (.ref pn),o2]∧kK Γ' C x own words Bc kD (nd+iG.length)∧Runs size Bc iG B∧Bc.length≤kD.length∧Kq own Γ Γ',⟨[],ds,[],none,rfl,rfl,rfl,st,rn,Yz _,.refl⟩,?_,?_⟩
 ·rintro τ Γ' ⟨kD,iG,Bc,o2,er,ed,rfl,aR,rc,bl,k'⟩
  have hz:iG=[]:=by
   cases iG with
   | nil=>rfl
   | cons _ _=>cases er
  subst hz;rw[YY]at ed;subst ed;cases rc;refine⟨bx (k' _ _ on gn),?_⟩;left;exact bh .refl (q Γ' aR k')
 rintro y r τ Γ2 ⟨kD,iG,Bc,o2,er,ed,rfl,fO,rc,bl,k2⟩;cases rc with
 | nil=>cases er
 | @cons _ Bd _ d iG sp rc=>
  cases er;refine⟨bx (k2 _ _ on gn),?_⟩;have Wb:kD.length+(iG.length+1)≤500:=by rw[ed,Yo]at dl;exact dl
  have Hn:ds=(kD++[d])++iG:=by rw[ed];simp
  have Ic:Bd.length≤(kD++[d]).length:=by have:=sp.len;rw[Yo];show _≤_+1;omega
  have fO:kK Γ2 C x own words Bc kD (nd+iG.length+1):=fO;obtain⟨W2,Ya,s2⟩:=id fO;cases sp with
  | @take _ hand b many pl Fd=>
   have PJ:=pl.wide sw;simp only[uD];left;refine uW ?_;left;refine⟨x,own,hand,many,words,Bc,kD,nd+iG.length,rfl,fO,by omega,fun b' Γ3 SN fN k3=>?_,fun no=>(PJ.no s2.pos no).elim⟩;have eb:=Pl.one s2.pos PJ SN;subst eb;obtain⟨W3,VW,_,s3⟩:=fN;left;refine i9 ?_;left;refine⟨.int b,.int b,0,rfl,.inl ⟨rfl,.int b⟩,by decide,?_⟩;left;exact⟨kD++[.take hand b many],iG,_,_,rfl,Hn,rfl,⟨W3,VW,s3⟩,rc,Ic,k2.trans k3⟩
  | @give B1 B2 hand ad len Fd=>
   obtain⟨G,si⟩:=s2.si;simp only[uD];left;refine i9 ?_;left;refine⟨x,own,ad,hand,words,_,kD,nd+iG.length,rfl,fO,fun C1 C2 v9 Γ3 eB fN k3=>?_,fun no=>absurd rfl (no (ad,len,hand) (by simp) rfl)⟩;obtain⟨e1,e2,e3⟩:=gZ (q:=(ad,len,hand)) (r:=(ad,v9,hand)) (SI.zO si) eB rfl;subst e1 e3;left;exact⟨kD++[.give hand ad],iG,_,_,rfl,Hn,rfl,fN,rc,Ic,k2.trans k3⟩
abbrev cb:Stmt:=top 25
theorem cu:aE ["bag","store","size","blocks","left","at","many","hand"] ["bag","store","size","blocks"] (ai cb):=⟨rfl,rfl,rfl,by decide +kernel,rfl,by decide +kernel,by decide +kernel⟩
def E2(C:Addr):eK:=fun ts Γ Z _=>∃(a x pb:Addr) (own:List Addr) (size:Int) (B BL:List bq) (ds:List cK) (c nd:Nat),ts=[.ref a,.ref x,.int size,.ref pb]∧cG Γ a (c+BL.length)∧kK Γ C x own size B ds (nd+1+BL.length)∧Γ pb=some (.lst (BL.map eY))∧BL.Perm B∧BL.length≤500∧a∉own∧1≤size∧∀ Γ',Z (.bl true) Γ'
theorem qm(F:gj K "_law_emptied" "_law_emptied" cb f fd)(bE:fv P w K mg base "_law_draw" 1 ["bag","many"] xA)(dU:fv P w K mg base "_law_gave" 4 ["store","hand","at"] (xy C))(dS:fv P w K mg base "_law_took" 3 ["store","hand","many"] (xx C))(dc:w5 P w K mg base C "blocks" 1 ["self"] (AS C))(bj:fv P w K mg base "_law_alike" 3 ["found","due"] (pZ 3))(df:mg "list" = none)(bZ:mg "len" = none):bJ P w K mg base ic 5 f fd ["bag","store","size","blocks"] (cp (E2 C)):=by
 refine lO F cu (fun ts Γ Z Y h=>?_) (fun cM A outer s H E ts Γ Z Y hr h=>?_)
 ·obtain⟨a,x,pb,own,size,B,BL,ds,c,nd,rfl,_⟩:=h
  rfl
 obtain⟨a,x,pb,own,size,B,BL,ds,c,nd,rfl,bg,st,gb,pm,bl,oa,s1,q⟩:=h;refine⟨_,(aa (aF (i:=4) cu.nd rfl (Or.inl rfl) (lL rZ rfl df jF (ae (qv 3) ag)))
  (aa (og ZP (aw (vH hr.pU) (qv 4) (bU ag) (aG _)) (aa (hV (gN Zb aaD aaC iA (qv 4) (ae (ay bE hr (by omega) rfl (ae (qv 0) (ae (bO i8 rfl bZ aaa (ae (qv 4) ag)) ag))) ag)) (eJ (n:=3) rfl (aN (aL (i:=5) cu.nd rfl (Or.inl rfl)) (aN (aL (i:=6) cu.nd rfl (Or.inl rfl)) (aN (aL (i:=7) cu.nd rfl (Or.inl rfl)) dz)))))
  (aa (bF (eE (cW (ay dU hr (by omega) rfl (ae (qv 1) (ae (qv 7) (ae (qv 5) ag)))))) (aa (aI ef)
  af) af)
  af)))
  (aa (aI (iW (ay bj hr (by omega) rfl (ae (fU dc hr (by omega) (qv 1)) (ae (bU ag) ag))) (jY (ay bj hr (by omega) rfl (ae (ay dS hr (by omega) rfl (ae (qv 1) (ae aj (ae (qv 2) ag)))) (ae aj ag))))))
  af))),?_⟩
 simp only[aS];left;refine⟨.ref pb,_,rfl,bx gb,fun pl fA=>?_⟩;generalize e1:up _ pl (O.lst _)=Γ1;have g1:=bw e1;have l1:=cz e1 fA
 have bR:=st.le l1;have Dc:=bg.le l1;have P1:pl≠a:=bg.nn fA;have P0:pl∉own:=by
  obtain⟨W,_,s⟩:=st;exact(s.nn fA).2
 clear e1;left;refine⟨fun m τ Γ'=>∃(L B':List bq) (xi:List cK) (o5 o6 o7:Option T),m=L.length∧L.length≤500∧L.Perm B'∧cG Γ' a (c+L.length)∧kK Γ' C x own size B' xi (nd+1+L.length)∧Γ' pl=some (.lst (L.map eY))∧τ=[some (.ref a),some (.ref x),some (.int size),some (.ref pb),some (.ref pl),o5,o6,o7],⟨BL.length,BL,B,ds,none,none,none,rfl,bl,pm,Dc,bR,g1,rfl⟩,?_⟩;rintro m τ Γ2 ⟨L,B',xi,o5,o6,o7,rfl,ll,Fw,C0,fO,g2,rfl⟩;left;intro p3 pP;generalize e3:up _ p3 (O.lst _)=Γ3;have g3:=bw e3;have l3:=cz e3 pP
 have fN:=fO.le l3;have sm:=C0.le l3;have G7:=l3 _ _ g2;clear e3;refine⟨pl,p3,_,rfl,rfl,G7,g3,?_⟩;left;refine cN (fun c1=>?_) (fun c1=>?_)
 ·have np:0 < L.length:=by
   cases L with
   | nil=>cases c1
   | cons _ _=>simp
  obtain⟨n,en⟩:∃ n,L.length=n+1:=⟨L.length-1,by omega⟩;obtain⟨W3,_,s3⟩:=id fN;obtain⟨NW,S6,SV,SQ,SY,zS⟩:=s3.kj;obtain⟨_,_,_,VN,_⟩:=id sm;have TQ:x≠a:=uC zS VN (by intro z;cases z);have TN:x≠pl:=uC zS G7 (by intro z;cases z);rw[en]at sm fN;refine⟨fun τ Γ'=>∃(L' JC:List bq) (CM:List cK) (o5 o6 o7:Option T),L'.length=n∧L'.Perm JC∧cG Γ' a (c+n)∧kK Γ' C x own size JC CM (nd+1+n)∧Γ' pl=some (.lst (L'.map eY))∧τ=[some (.ref a),some (.ref x),some (.int size),some (.ref pb),some (.ref pl),o5,o6,o7],fun τ' Γ' ⟨L',JC,CM,o5,o6,o7,e1,e2,e3,e4,e5,e6⟩=>⟨n,by omega,L',JC,CM,o5,o6,o7,e1.symm,by omega,e2,by rw[e1];exact e3,by rw[e1];exact e4,e5,e6⟩,?_⟩;left;refine fz G7 ?_;left;refine iU G7 ?_;rw[Yw];left;refine⟨a,_,c+n,rfl,sm,by omega,by omega,fun r Γ4 r0 r1 uu rP=>?_⟩;obtain⟨j,rfl⟩:∃ j:Nat,r=j:=⟨r.toNat,by omega⟩;have hj:j < L.length:=by omega
  obtain⟨⟨ad,len,hd⟩,eq⟩:∃ k:bq,L[j]? = some k:=⟨L[j],YJ hj⟩;have Mv:(L.map eY)[j]? = some (eY (ad,len,hd)):=by rw[Y2,eq];rfl
  have fM:=fN.kq rP.kq (by simpa using TQ) (fun o ho m=>oa (by rw[YA.mp m]at ho;exact ho));have VF:Γ4 pl=some (.lst (L.map eY)):=(rP pl (by simpa using P1)).trans G7;refine⟨pl,_,j,_,rfl,rfl,VF,by omega,Mv,?_⟩;generalize e5:up Γ4 pl (O.lst _)=Γ5;have VE:=bw e5;have k5:Kq [pl] Γ4 Γ5:=e5 ▸ .set (by simp) _
  clear e5;have ja:=fM.kq k5 (by simpa using TN) (fun o ho m=>P0 (by rw[YA.mp m]at ho;exact ho));have DN:=uu.kq k5 (by simpa using P1.symm);have eL:L=L.take j++(ad,len,hd)::L.drop (j+1):=by
   have:L[j]=(ad,len,hd):=by rw[YJ hj]at eq;exact Y5 eq
   rw[← this,← ZR hj,YM]
  unfold eY;left;obtain⟨W5,_,s5⟩:=id ja;obtain⟨G,si⟩:=s5.si;have mB:(ad,len,hd)∈B':=Fw.mem_iff.mp (by rw[eL];simp);refine⟨x,own,ad,hd,size,B',xi,nd+1+n,rfl,ja,fun B1 B2 v9 Γ6 eB uy k6=>?_,fun no=>absurd rfl (no _ mB rfl)⟩;left;have el:(ad,v9,hd)=(ad,len,hd):=uniq (SI.zO si) (by rw[eB];simp) mB rfl;cases el;refine⟨L.eraseIdx j,B1++B2,_,_,_,_,by rw[List.length_eraseIdx,YV hj];omega,?_,DN.kq k6 oa,uy,?_,rfl⟩
  ·rw[Z1]
   have p1:(L.take j++(ad,len,hd)::L.drop (j+1)).Perm (B1++(ad,len,hd)::B2):=by rw[← eL,← eB];exact Fw
   exact(List.perm_cons _).mp (abD.symm.trans (p1.trans abD))
  ·rw[k6 _ _ P0 VE,eV];rfl
 ·have e:L=[]:=by
   cases L with
   | nil=>rfl
   | cons _ _=>cases c1
  subst e;have e:B'=[]:=Fw.symm.eq_nil;subst e;obtain⟨W3,_,s3⟩:=id fN;obtain⟨NW,S6,SV,SQ,SY,zS⟩:=s3.kj;left;refine⟨x,own,size,[],_,W3,rfl,s3,by decide,fun p4 Bs Γ4 Cm S9 _ g4 l4=>?_⟩;have e:Bs=[]:=S9.eq_nil;subst e;left;intro p5 xc;generalize e5:up _ p5 (O.lst _)=Γ5;have g5:=bw e5;have l5:=cz e5 xc
  clear e5;left;refine⟨_,_,2,rfl,.inr ⟨p4,p5,[],1,rfl,rfl,rfl,l5 _ _ g4,g5,by decide,fun _ h=>(nomatch h)⟩,by decide,?_⟩;have ja:=(fN.le l4).le l5;left;refine⟨x,own,1,size,size,[],xi,nd,rfl,ja,by decide,fun b Γ6 SM _ _=>?_,fun no=>?_⟩
  ·have hb:b=1:=by
    rcases SM.2.1 with h | ⟨q,hq,_⟩
    ·exact h
    ·cases hq
   subst hb;left;refine⟨.int 1,.int 1,0,rfl,.inl ⟨rfl,.int 1⟩,by decide,?_⟩;left;exact bh .refl (q _)
  ·exfalso
   rcases no with h | h
   ·omega
   ·exact h 1 (Zp _) ⟨by omega,fun q hq=>(nomatch hq)⟩
end
theorem kK.nn{Γ:Gp}{C a p:Addr}{own:List Addr}{size:Int}{B:List bq}{ds:List cK}{nd:Nat}(h:kK Γ C a own size B ds nd)(n:Γ p=none):p≠a∧p∉own:=by
 obtain⟨W,_,s⟩:=h;exact s.nn n
section
variable {P:Program}{w:World}{K:W.Frag}{mg:Str→Option Value}{base:Heap}{f C aZ aD aJ aT cn:Addr}{fd:FuncData}
abbrev iw:Stmt:=top 26
theorem dg:aE ["script","bag","size","more","store","standing","done","k","row","turn","blocks","words","other"] ["script"] (ai iw):=⟨rfl,rfl,rfl,by decide +kernel,rfl,by decide +kernel,by decide +kernel⟩
def u7(K:W.Frag):eK:=fun ts Γ Z _=>∃(a:Addr) (ns:List Int),ts=[.scr K a (ns.map T.int)]∧ns.length≤63∧∀ Γ',Z (.bl true) Γ'
theorem yE(F:gj K "law" "law" iw f fd)(jA:mg "Store" = some (.ref C))(sh:O4 P w K mg base C 1 ["self","words"] (ET C))(dc:w5 P w K mg base C "blocks" 1 ["self"] (AS C))(iJ:w5 P w K mg base C "book" 1 ["self"] (E6 C))(gS:fv P w K mg base "_law_cell_at" 1 ["script","k"] (E5 K))(mi:fv P w K mg base "_law_bag" 1 ["cell","place"] E7)(bE:fv P w K mg base "_law_draw" 1 ["bag","many"] xA)(bj:fv P w K mg base "_law_alike" 3 ["found","due"] (pZ 3))(qN:fv P w K mg base "_law_deed" 5 ["bag","store","size","blocks","done"] (E4 C))(nB:fv P w K mg base "_law_walked" 4 ["size","book"] EM)(pA:fv P w K mg base "_law_again" 5 ["store","book"] (E8 C))(lq:fv P w K mg base "_law_emptied" 5 ["bag","store","size","blocks"] (E2 C))
  (jv:mg "range" = none) (lz:mg "max" = none) (uI:mg "min" = none) (bZ:mg "len" = none):bJ P w K mg base ic 6 f fd ["script"] (cp (u7 K)):=by
 refine lO F dg (fun ts Γ Z Y h=>?_) (fun cM A outer s H E ts Γ Z Y hr h=>?_)
 ·obtain⟨a,ns,rfl,_⟩:=h
  rfl
 obtain⟨a,ns,rfl,QM,q⟩:=h;refine⟨_,(aa (aF (i:=1) dg.nd rfl (Or.inl rfl) (ay mi hr (by omega) rfl (ae (ay gS hr (by omega) rfl (ae (qv 0) (ae aj ag))) (ae aj ag))))
  (aa (aF (i:=2) dg.nd rfl (Or.inl rfl) (aO bM aj (ay bE hr (by omega) rfl (ae (qv 1) (ae aj ag)))))
  (aa (aF (i:=3) dg.nd rfl (Or.inl rfl) (aO bM aj (ay bE hr (by omega) rfl (ae (qv 1) (ae aj ag)))))
  (aa (aF (i:=4) dg.nd rfl (Or.inl rfl) (rB sh hr (by omega) rfl jA (ae (qv 2) ag)))
  (aa (aF (i:=5) dg.nd rfl (Or.inl rfl) (bU ag))
  (aa (aF (i:=6) dg.nd rfl (Or.inl rfl) (bU ag))
  (aa (fS ZP rfl (sV rfl jv (ae aj (ae (bO (rY rfl) rfl lz PyProof.Rows.boot_max (ae aj (ae (bO (zf rfl) rfl uI PyProof.Rows.boot_min (ae (bO sd rfl bZ aaa (ae (qv 0) ag)) (ae aj ag))) ag))) ag))) (aL (i:=7) dg.nd rfl (Or.inl rfl)) (aa (aF (i:=8) dg.nd rfl (Or.inl rfl) (ay mi hr (by omega) rfl (ae (ay gS hr (by omega) rfl (ae (qv 0) (ae (qv 7) ag))) (ae (qv 7) ag))))
  (aa (fS ZP rfl (sW rfl jv (ae (aO bM aj (ay bE hr (by omega) rfl (ae (qv 8) (ae aj ag)))) ag)) (aL (i:=9) dg.nd rfl (Or.inl rfl)) (aa (cL (ay qN hr (by omega) rfl (ae (qv 8) (ae (qv 4) (ae (qv 2) (ae (qv 5) (ae (qv 6) ag)))))))
  af))
  af)))
  (aa (aF (i:=10) dg.nd rfl (Or.inl rfl) (ay nB hr (by omega) rfl (ae (qv 2) (ae (qv 6) ag))))
  (aa (bF (PW.pt (lK (aw kb (qv 10) cY (aG _)) (lK (eE (cW (ay bj hr (by omega) rfl (ae (fU iJ hr (by omega) (qv 4)) (ae (qv 6) ag))))) (jV (eE (cW (ay bj hr (by omega) rfl (ae (fU dc hr (by omega) (qv 4)) (ae (qv 10) ag))))))))) (aa (aI ef)
  af) af)
  (aa (fS ZP rfl (dI (bU (ae (qv 2) (ae (aO bM (qv 2) (qv 3)) ag)))) (aL (i:=11) dg.nd rfl (Or.inl rfl)) (aa (aF (i:=12) dg.nd rfl (Or.inl rfl) (rB sh hr (by omega) rfl jA (ae (qv 11) ag)))
  (aa (bF (eE (cW (ay pA hr (by omega) rfl (ae (qv 12) (ae (qv 6) ag))))) (aa (aI ef)
  af) af)
  (aa (bF (PW.pt (lK (eE (cW (ay bj hr (by omega) rfl (ae (fU iJ hr (by omega) (qv 12)) (ae (qv 6) ag))))) (jV (eE (cW (ay bj hr (by omega) rfl (ae (fU dc hr (by omega) (qv 12)) (ae (qv 10) ag)))))))) (aa (aI ef)
  af) af)
  af))))
  (aa (aI (ay lq hr (by omega) rfl (ae (qv 1) (ae (qv 4) (ae (qv 2) (ae (qv 10) ag))))))
  af))))))))))),?_⟩
 simp only[aS];left;refine⟨a,ns,0,rfl,by decide,fun cl=>?_⟩;left;refine⟨cl,0,rfl,by decide,by decide,fun ba Γ1 _ Dc _=>?_⟩;left;refine⟨ba,200,999,rfl,Dc,by decide,by decide,fun r2 Γ2 XD XC C0 _=>?_⟩;left;refine⟨ba,60,998,rfl,C0,by decide,by decide,fun r3 Γ3 XB XA sm _=>?_⟩;left;obtain⟨size,hsz⟩:∃ size:Int,size=1+r2:=⟨_,rfl⟩;obtain⟨more,Qv⟩:∃ more:Int,more=1+r3:=⟨_,rfl⟩;rw[← hsz,← Qv];have s1:1≤size:=by omega
 have s2:size≤200:=by omega
 have m1:1≤more:=by omega
 have m2:more≤60:=by omega
 clear hsz Qv;left;intro x dx hx Jn ne;refine⟨x,dx,size,rfl,bt,s1,by omega,fun own Γ4 fo fM k4=>⟨rfl,?_⟩⟩;have PZ:ba≠x:=by
  obtain⟨_,_,_,ga,_⟩:=id sm;exact jD ga hx
 have uu:cG Γ4 ba 998:=(sm.le (.new hx)).kq k4 (by simpa using PZ);have bo:ba∉own:=fun m=>by
  obtain⟨_,_,_,ga,_⟩:=id sm;have h:=fo ba m;rw[eN PZ,ga]at h;cases h
 clear k4 fo hx Jn ne sm C0 Dc;left;intro vE MO;generalize e5:up _ vE (O.lst _)=Γ5;have gb:=bw e5;have l5:=cz e5 MO
 have ja:=fM.le l5;have DN:=uu.le l5;have nb:=(fM.nn MO).2;have pK:=uu.nn MO;left;intro pn Ck;generalize e6:up _ pn (O.lst _)=Γ6;have gn:=bw e6;have l6:=cz e6 Ck
 have uy:=ja.le l6;have nn:=(ja.nn Ck).2;have d6:Dd Γ6 C ba x own vE pn size [] [] 998 1000000:=⟨DN.le l6,⟨_,rfl,uy⟩,l6 _ _ gb,gn,pK,DN.nn Ck,jD gb Ck,bo,nb,nn⟩;clear e5 e6;left;unfold Gs;left;refine⟨a,_,rfl,?_⟩;rw[Yw];left;have hj:2≤(if(if 63 < (ns.length:Int)then 63 else(ns.length:Int)) > 2 then(if 63 < (ns.length:Int)then 63 else(ns.length:Int))else 2)∧(if(if 63 < (ns.length:Int)then 63 else(ns.length:Int)) > 2 then(if 63 < (ns.length:Int)then 63 else(ns.length:Int))else 2)≤63:=by split<;>split<;>omega
 generalize (if(if 63 < (ns.length:Int)then 63 else(ns.length:Int)) > 2 then(if 63 < (ns.length:Int)then 63 else(ns.length:Int))else 2)=jj at *
 refine⟨⟨by decide,by decide,by omega,by omega⟩,?_⟩;have hc:(jj-1).toNat≤62:=by omega
 generalize (jj-1).toNat=cnt at *
 refine⟨fun rest τ Γ'=>∃(i m:Nat) (B:List bq) (ds:List cK) (o7 o8 o9:Option T),rest=hU (i:Int) m∧i+m≤63∧1≤i∧Dd Γ' C ba x own vE pn size B ds 998 (1000+3 * m)∧Runs size [] ds B∧ds.length+3 * m≤200∧τ=[some (.scr K a (ns.map T.int)),some (.ref ba),some (.int size),some (.int more),some (.ref x),some (.ref vE),some (.ref pn),o7,o8,o9,none,none,none],⟨1,cnt,[],[],none,none,none,rfl,by omega,by omega,⟨d6.bg,d6.st.less (by omega),d6.gb,d6.gn,d6.pK,d6.rF,d6.pJ,d6.oa,d6.ob,d6.on⟩,.nil,by simp;omega,rfl⟩,?_,?_⟩;rotate_left
 ·rintro y r τ Γ' ⟨i,m,B,ds,o7,o8,o9,er,im,i1,dd,rn,dl,rfl⟩
  obtain⟨m',rfl,rfl,rfl⟩:=lJ er;left;refine⟨a,ns,i,rfl,by omega,fun c2=>?_⟩;left;refine⟨c2,i,rfl,by omega,by omega,fun b2 Γ8 fb Ie l8=>?_⟩;have d8:=dd.le l8;have P6:b2≠ba:=dd.bg.nn fb;have LX:=dd.st.nn fb;have FZ:vE≠b2:=jD dd.gb fb;have FY:pn≠b2:=jD dd.gn fb;left;refine⟨b2,3,999,rfl,Ie,by decide,by decide,fun r9 Γ9 Xz Xy WL QY=>?_⟩;have d9:Dd Γ9 C b2 x own vE pn size B ds 999 (1000+3 * (m'+1)):=by
   have k9:Kq [b2] Γ8 Γ9:=QY.kq;exact⟨WL,d8.st.kq k9 (by simpa using LX.1.symm) (fun o ho z=>LX.2 (by rw[YA.mp z]at ho;exact ho)),k9 _ _ (by simpa using FZ) d8.gb,k9 _ _ (by simpa using FY) d8.gn,FZ,FY,d8.pJ,LX.2,d8.ob,d8.on⟩
  have WM:cG Γ9 ba 998:=d8.bg.kq QY.kq (by simpa using P6.symm);left;refine⟨1+r9,rfl,by omega,by omega,?_⟩;have X1:(1+r9).toNat≤3:=by omega
  generalize (1+r9).toNat=c9 at *
  refine⟨fun rest τ Γ'=>∃(j:Int) (m2:Nat) (B:List bq) (ds:List cK) (o9:Option T),rest=hU j m2∧Dd Γ' C b2 x own vE pn size B ds (6 * m2) (1000+3 * m'+m2)∧cG Γ' ba 998∧Runs size [] ds B∧ds.length+3 * m'+m2≤200∧τ=[some (.scr K a (ns.map T.int)),some (.ref ba),some (.int size),some (.int more),some (.ref x),some (.ref vE),some (.ref pn),some (.int (i:Int)),some (.ref b2),o9,none,none,none],⟨0,c9,B,ds,_,rfl,⟨d9.bg.less (by omega),d9.st.less (by omega),d9.gb,d9.gn,d9.pK,d9.rF,d9.pJ,d9.oa,d9.ob,d9.on⟩,WM,rn,by omega,rfl⟩,?_,?_⟩
  ·rintro τ Γ10 ⟨j,m2,B,ds,o9,er,dd,bb,rn,dl,rfl⟩
   have hm:=nY er;subst hm;refine⟨trivial,?_⟩;left;exact⟨i+1,m',B,ds,_,_,_,rfl,by omega,by omega,⟨bb,dd.st,dd.gb,dd.gn,d6.pK,d6.rF,d6.pJ,d6.oa,d6.ob,d6.on⟩,rn,dl,rfl⟩
  ·rintro y r τ Γ10 ⟨j,m2,B,ds,o9,er,dd,bb,rn,dl,rfl⟩
   obtain⟨m2,rfl,rfl,rfl⟩:=lJ er;have bl:B.length≤500:=by
    have:=rn.len;rw[List.length_nil]at this;omega
   left;refine⟨b2,x,own,vE,pn,size,B,ds,6 * m2,1000+3 * m'+m2,rfl,dd,rn,by omega,bl,fun B' xi Γ11 Ss Wc zc k11=>?_⟩;left;refine⟨j+1,m2,B',xi,_,rfl,zc,bb.kq k11 ?_,Ss,by omega,rfl⟩;intro m;simp only[Yq]at m;rcases m with e | e | e | e
   ·exact P6 e.symm
   ·exact d6.pK e.symm
   ·exact d6.rF e.symm
   ·exact bo e
 rintro τ Γ7 ⟨i,m,B,ds,o7,o8,o9,er,im,i1,dd,rn,dl,rfl⟩;have hm:=nY er;subst hm;refine⟨trivial,?_⟩;left;refine⟨pn,size,B,ds,rfl,dd.gn,s1,rn,by omega,fun pw BL Γ8 fw gw pm so bl l8=>?_⟩;have d8:=dd.le l8;have XJ:=dd.st.nn fw;have XM:=dd.bg.nn fw;obtain⟨W8,VV,s8⟩:=id d8.st;obtain⟨G,si⟩:=s8.si;obtain⟨Q5,PU,PQ,PN,PR,Ni⟩:=s8.kj;have Yi:=pm.length_eq;have Wc:ds.length≤200:=by omega
 left;refine⟨x,own,size,B,_,W8,rfl,s8,fun p9 Γ9 XZ g9 l9=>?_⟩;rw[VV]at g9;have d9:=d8.le l9;have VD:=l9 _ _ gw;left;refine⟨_,_,2,rfl,.inr ⟨p9,pn,_,1,rfl,rfl,rfl,g9,d9.gn,by rw[Yw];omega,HD⟩,by decide,?_⟩;left;obtain⟨W9,X8,s9⟩:=id d9.st;obtain⟨Yd,XI,XG,XF,XH,QN⟩:=s9.kj;left;refine⟨x,own,size,B,_,W9,rfl,s9,by omega,fun Tc Bs Γ10 U2 FG MK VQ l10=>?_⟩;have V5:Bs=BL:=iV (FG.trans pm.symm) MK so (SI.zO (SI.perm si FG));subst V5;have Wo:=d9.le l10;have G4:=l10 _ _ VD;left;refine⟨_,_,2,rfl,.inr ⟨Tc,pw,_,1,rfl,rfl,rfl,VQ,G4,by rw[Yw];omega,Ai⟩,by decide,?_⟩;left;intro pq UZ;generalize NV:up _ pq (O.lst _)=Γ11;have QX:=bw NV;have l11:=cz NV UZ
 have Wn:=Wo.le l11;have Nm:=l11 _ _ G4;clear NV;refine⟨pq,_,rfl,bx QX,?_⟩;refine⟨fun rest τ Γ'=>∃(R:List Int) (LM LL:Option T),rest=R.map T.int∧(∀ v∈R,size≤v∧v≤260)∧Dd Γ' C ba x own vE pn size B ds 998 1000∧Γ' pw=some (.lst (Bs.map eY))∧Γ' pq=some (.lst [.int size,.int (size+more)])∧τ=[some (.scr K a (ns.map T.int)),some (.ref ba),some (.int size),some (.int more),some (.ref x),some (.ref vE),some (.ref pn),o7,o8,o9,some (.ref pw),LM,LL],⟨[size,size+more],none,none,rfl,?_,Wn,Nm,QX,rfl⟩,?_,?_⟩
 ·intro v hv
  simp only[Yq,Yy,Zr]at hv;omega
 ·rintro τ Γ12 ⟨R,LM,LL,er,_,DM,CD,Ju,rfl⟩
  refine⟨bx Ju,?_⟩;left;refine⟨ba,x,pw,own,size,B,Bs,ds,998-Bs.length,999-Bs.length,rfl,DM.bg.less (by omega),DM.st.less (by omega),CD,pm,bl,bo,s1,fun Γ'=>?_⟩;exact bh .refl (q _)
 rintro y r τ Γ12 ⟨R,LM,LL,er,hR,DM,CD,Ju,rfl⟩;cases R with
 | nil=>cases er
 | cons v R=>
  cases er;have hv:=hR v (by simp);refine⟨bx Ju,?_⟩;left;intro x2 V8 yY Vg ne2;refine⟨x2,V8,v,rfl,bt,by omega,by omega,fun tw Γ13 VS Kr k13=>⟨rfl,?_⟩⟩;have l12:Le Γ12 Γ13:=fun b o h=>k13 b o (by simpa using jD h yY) (by rw[eN (jD h yY)];exact h);have Du:∀{b:Addr} {o:O},Γ12 b=some o→b∉tw:=fun {b o} h m=>by
   have h2:=VS b m;rw[eN (jD h yY),h]at h2;cases h2
  have kp:∀{Γ':Gp},Kq tw Γ13 Γ'→Le Γ12 Γ':=fun {Γ'} k b o h=>k b o (Du h) (l12 b o h);have KQ:kK Γ13 C x2 tw v [] [] (1000+ds.length):=⟨_,rfl,Kr.less (by omega)⟩;left;refine⟨x2,pn,tw,size,v,B,ds,1000,rfl,l12 _ _ DM.gn,Du DM.gn,hv.1,KQ,rn,by omega,fun Γ14 Fe k14=>?_⟩;have l14:=kp k14;have Wm:=DM.le l14;have Nl:=l14 _ _ CD;have VP:=l14 _ _ Ju;obtain⟨Xc,NL,Dn⟩:=id Fe;obtain⟨Wa,S8,SX,SU,S5,VB⟩:=Dn.kj;obtain⟨Yl,KO⟩:=Dn.si;left;refine⟨x2,tw,v,B,_,Xc,rfl,Dn,fun Tb Γ15 U1 QW l15=>?_⟩;rw[NL]at QW;have Q6:=Wm.le l15;have G2:=l15 _ _ Nl;have KP:=Fe.le l15;obtain⟨Xb,VX,PH⟩:=id KP;obtain⟨V9,S7,SW,SS,S0,VA⟩:=PH.kj;left;refine⟨_,_,2,rfl,.inr ⟨Tb,pn,_,1,rfl,rfl,rfl,QW,Q6.gn,by rw[Yw];omega,HD⟩,by decide,?_⟩;left;left;refine⟨x2,tw,v,B,_,Xb,rfl,PH,by omega,fun Ta Bt Γ16 U0 FF MJ VO IZ=>?_⟩;have V4:Bt=Bs:=iV (FF.trans pm.symm) MJ so (SI.zO (SI.perm KO FF));subst V4;left;refine⟨_,_,2,rfl,.inr ⟨Ta,pw,_,1,rfl,rfl,rfl,VO,IZ _ _ G2,by rw[Yw];omega,Ai⟩,by decide,?_⟩;left;exact⟨R,_,_,rfl,fun v hv=>hR v (by simp[hv]),Q6.le IZ,IZ _ _ G2,IZ _ _ (l15 _ _ VP),rfl⟩
theorem wU(F:gj K "_law_alike" "_law_alike" cy f fd)(m:mg "_law_alike" = some (.ref f))(kp:W.keepIn K (.ref f)=true)(b:Binds K fd ["found","due"] [])(ax:mg "isinstance" = none)(eZ:mg "tuple" = none)(df:mg "list" = none)(bZ:mg "len" = none)(lA:mg "all" = none)(jI:mg "zip" = none)(jJ:mg "str" = none)(gK:mg "int" = none)(fe:mg "bool" = none):
  ∀ n:Nat,fv P w K mg base "_law_alike" n ["found","due"] (pZ n)
 | 0=>⟨f,fd,TU fun ts Γ Z Y h=>by obtain⟨_,_,d,_,_,h,_⟩:=h;omega,m,kp,b⟩
 | n+1=>⟨f,fd,vQ F (wU F m kp b ax eZ df bZ lA jI jJ gK fe n) ax eZ df bZ lA jI jJ gK fe,m,kp,b⟩
end
def rh(K:W.Frag):Sp:=fun vs H Q _=>∃(a:Addr) (ns:List Int),vs=[.ref a]∧zq H∧dF K H a (ns.map V.int)∧ns.length≤63∧∀ H',Q (.bl true) H'
theorem BV{K:W.Frag}(vs:List V)(H:Hp)(Q:VK)(E:XK)(h:rh K vs H Q E):cp (u7 K) vs H Q E:=by
 obtain⟨a,ns,rfl,hO,hS,QM,q⟩:=h;have sc:zp K H a (ns.map V.int):=by
  rcases hS with(h | ⟨o,h⟩) | h
  ·rcases hO a with z | ⟨o,xs,z⟩
   ·rw[h]at z;cases z
   ·rw[h]at z;cases z
  ·exact .inl ⟨o,h⟩
  ·exact .inr h
 refine⟨[.scr K a (ns.map T.int)],fun _=>none,fun x _=>x=.bl true,fun _ _=>False,aY (Fi sc (jU ns)) bT,fun _ _ h=>(nomatch h),⟨a,ns,rfl,QM,fun _=>rfl⟩,fun v x H' Γ' _ _ r z=>?_,fun _ _ _ _ _ z=>z.elim⟩;subst z;rw[mV r];exact q H'
end Tg
namespace Tg
open PySem L2 L3
theorem all_mk{l:W.OpenLaw}{w:World}{K:W.Frag}{h:Heap}{mg:Str→Option Value}{fa f1 f2 f3 f4 f5 f6 f7 f8 f9 NJ NI NH NG NF ND:Addr}(X:K.In h)(G:h.Ns mainGlobals mg)(Ve:mg "law" = some (.ref fa))
  {Tt Xa Ts W7 Tr W4 Tp WZ To WY Tj WX Ti WW Th WV Tf WU Ls ON Lr OM Lq OL Lp OK Lo OJ Ln Im:Option Addr} {Sk Dm KD Sj Si Sh Sg Sf Se KN KL KJ KI KH KG:Array (Option Value)} {TH UI Wl SK Rh Wz TF UH Wk Fw Rg Wy TC UG Wj SJ Rf Wx TB UE Wi SH Rc Ww Tz UD Wh SG Rb Wv Tx UC Wg SF Ra Wu Tw UB Wf SE Q9 Wt Tv UA We SD Q8 Ws Tu Uz Wd SA Q7 Wr LK Mt Oa Lc HX Ou LJ Ms N9 Lb HW Ot LI Mr N8 La HV Oq LG Mq N7 K9 HU Oo LF Mp N6 K8 HS Om LD Gi HC Fx CT HF:Value}
  (a1:W.nsIn K mainGlobals "is_whole" = some (some (.ref f1))) (l1:K.lookup f1=some ⟨TH,Tt,.func (W.fnOf "is_whole" "is_whole" (aH dn) (aC dn) (ai dn) .none UI Wl SK Xa Rh Wz),Sk⟩) (c1:W.codeIn K Rh "is_whole" = true) (k1:W.keepIn K (.ref f1)=true)
  (a2:W.nsIn K mainGlobals "is_word" = some (some (.ref f2))) (l2:K.lookup f2=some ⟨TF,Ts,.func (W.fnOf "is_word" "is_word" (aH dM) (aC dM) (ai dM) .none UH Wk Fw W7 Rg Wy),Dm⟩) (c2:W.codeIn K Rg "is_word" = true) (k2:W.keepIn K (.ref f2)=true)
  (a3:W.nsIn K mainGlobals "_law_cell_at" = some (some (.ref f3))) (l3:K.lookup f3=some ⟨TC,Tr,.func (W.fnOf "_law_cell_at" "_law_cell_at" (aH cc) (aC cc) (ai cc) .none UG Wj SJ W4 Rf Wx),KD⟩) (c3:W.codeIn K Rf "_law_cell_at" = true) (k3:W.keepIn K (.ref f3)=true)
  (a4:W.nsIn K mainGlobals "_law_bag" = some (some (.ref f4))) (l4:K.lookup f4=some ⟨TB,Tp,.func (W.fnOf "_law_bag" "_law_bag" (aH dJ) (aC dJ) (ai dJ) .none UE Wi SH WZ Rc Ww),Sj⟩) (c4:W.codeIn K Rc "_law_bag" = true) (k4:W.keepIn K (.ref f4)=true)
  (a5:W.nsIn K mainGlobals "_law_draw" = some (some (.ref f5))) (l5:K.lookup f5=some ⟨Tz,To,.func (W.fnOf "_law_draw" "_law_draw" (aH dk) (aC dk) (ai dk) .none UD Wh SG WY Rb Wv),Si⟩) (c5:W.codeIn K Rb "_law_draw" = true) (k5:W.keepIn K (.ref f5)=true)
  (a6:W.nsIn K mainGlobals "_law_alike" = some (some (.ref f6))) (l6:K.lookup f6=some ⟨Tx,Tj,.func (W.fnOf "_law_alike" "_law_alike" (aH cy) (aC cy) (ai cy) .none UC Wg SF WX Ra Wu),Sh⟩) (c6:W.codeIn K Ra "_law_alike" = true) (k6:W.keepIn K (.ref f6)=true)
  (a7:W.nsIn K mainGlobals "_law_fits" = some (some (.ref f7))) (l7:K.lookup f7=some ⟨Tw,Ti,.func (W.fnOf "_law_fits" "_law_fits" (aH dj) (aC dj) (ai dj) .none UB Wf SE WW Q9 Wt),Sg⟩) (c7:W.codeIn K Q9 "_law_fits" = true) (k7:W.keepIn K (.ref f7)=true)
  (a8:W.nsIn K mainGlobals "_law_place" = some (some (.ref f8))) (l8:K.lookup f8=some ⟨Tv,Th,.func (W.fnOf "_law_place" "_law_place" (aH cP) (aC cP) (ai cP) .none UA We SD WV Q8 Ws),Sf⟩) (c8:W.codeIn K Q8 "_law_place" = true) (k8:W.keepIn K (.ref f8)=true)
  (a9:W.nsIn K mainGlobals "_law_took" = some (some (.ref f9))) (l9:K.lookup f9=some ⟨Tu,Tf,.func (W.fnOf "_law_took" "_law_took" (aH dh) (aC dh) (ai dh) .none Uz Wd SA WU Q7 Wr),Se⟩) (c9:W.codeIn K Q7 "_law_took" = true) (k9:W.keepIn K (.ref f9)=true)
  (a10:W.nsIn K mainGlobals "_law_gave" = some (some (.ref NJ))) (l10:K.lookup NJ=some ⟨LK,Ls,.func (W.fnOf "_law_gave" "_law_gave" (aH di) (aC di) (ai di) .none Mt Oa Lc ON HX Ou),KN⟩) (c10:W.codeIn K HX "_law_gave" = true) (k10:W.keepIn K (.ref NJ)=true)
  (a11:W.nsIn K mainGlobals "_law_deed" = some (some (.ref NI))) (l11:K.lookup NI=some ⟨LJ,Lr,.func (W.fnOf "_law_deed" "_law_deed" (aH dm) (aC dm) (ai dm) .none Ms N9 Lb OM HW Ot),KL⟩) (c11:W.codeIn K HW "_law_deed" = true) (k11:W.keepIn K (.ref NI)=true)
  (a12:W.nsIn K mainGlobals "_law_walked" = some (some (.ref NH))) (l12:K.lookup NH=some ⟨LI,Lq,.func (W.fnOf "_law_walked" "_law_walked" (aH cA) (aC cA) (ai cA) .none Mr N8 La OL HV Oq),KJ⟩) (c12:W.codeIn K HV "_law_walked" = true) (k12:W.keepIn K (.ref NH)=true)
  (a13:W.nsIn K mainGlobals "_law_again" = some (some (.ref NG))) (l13:K.lookup NG=some ⟨LG,Lp,.func (W.fnOf "_law_again" "_law_again" (aH cQ) (aC cQ) (ai cQ) .none Mq N7 K9 OK HU Oo),KI⟩) (c13:W.codeIn K HU "_law_again" = true) (k13:W.keepIn K (.ref NG)=true)
  (a14:W.nsIn K mainGlobals "_law_emptied" = some (some (.ref NF))) (l14:K.lookup NF=some ⟨LF,Lo,.func (W.fnOf "_law_emptied" "_law_emptied" (aH cb) (aC cb) (ai cb) .none Mp N6 K8 OJ HS Om),KH⟩) (c14:W.codeIn K HS "_law_emptied" = true) (k14:W.keepIn K (.ref NF)=true)
  (a15:W.nsIn K mainGlobals "law" = some (some (.ref ND))) (l15:K.lookup ND=some ⟨LD,Ln,.func (W.fnOf "law" "law" (aH iw) (aC iw) (ai iw) .none Gi HC Fx Im CT HF),KG⟩) (c15:W.codeIn K CT "law" = true) (k15:W.keepIn K (.ref ND)=true)
  (y1:W.nsIn K mainGlobals "len" = some none)
  (y2:W.nsIn K mainGlobals "max" = some none)
  (y3:W.nsIn K mainGlobals "min" = some none)
  (y4:W.nsIn K mainGlobals "range" = some none)
  (y5:W.nsIn K mainGlobals "tuple" = some none)
  (y6:W.nsIn K mainGlobals "isinstance" = some none)
  (y7:W.nsIn K mainGlobals "int" = some none)
  (y8:W.nsIn K mainGlobals "bool" = some none)
  (y9:W.nsIn K mainGlobals "str" = some none)
  (y10:W.nsIn K mainGlobals "list" = some none)
  (y11:W.nsIn K mainGlobals "zip" = some none)
  (y12:W.nsIn K mainGlobals "enumerate" = some none)
  (y13:W.nsIn K mainGlobals "all" = some none)
  (y14:W.nsIn K mainGlobals "sorted" = some none)
  {u1:Value} (g1:W.nsIn K mainGlobals "WORD_NUMBERS" = some (some u1)) (q1:RelV (.int 65536) u1)
  {aT:Addr} (gcGateError:W.nsIn K mainGlobals "GateError" = some (some (.ref aT)))
  {aZ:Addr} (gcNoRoom:W.nsIn K mainGlobals "NoRoom" = some (some (.ref aZ)))
  {aD:Addr} (gcNoBlock:W.nsIn K mainGlobals "NoBlock" = some (some (.ref aD)))
  {aJ:Addr} (gcWrongHand:W.nsIn K mainGlobals "WrongHand" = some (some (.ref aJ)))
  {cn:Addr} (gcNoWord:W.nsIn K mainGlobals "NoWord" = some (some (.ref cn)))
  {av:Addr} (gcStore:W.nsIn K mainGlobals "Store" = some (some (.ref av)))
  (xNoRoom:W.excIn K aZ [.type "ValueError",.type "Exception",.type "BaseException",.type "object"] "ValueError.__new__" = true)
  (xNoBlock:W.excIn K aD [.type "ValueError",.type "Exception",.type "BaseException",.type "object"] "ValueError.__new__" = true)
  (xWrongHand:W.excIn K aJ [.type "ValueError",.type "Exception",.type "BaseException",.type "object"] "ValueError.__new__" = true)
  (xNoWord:W.excIn K cn [.type "ValueError",.type "Exception",.type "BaseException",.type "object"] "ValueError.__new__" = true)
  (xmm:W.exmOne K (.ref aZ) (.ref aT)=some true)
  (xbb:W.exmOne K (.ref aD) (.ref aT)=some true)
  (xww:W.exmOne K (.ref aJ) (.ref aT)=some true)
  {DI:Addr} {Lm OI:Option Addr} {KC:Array (Option Value)} {LC Mo N5 K7 HQ Ol:Value}
  (am1:W.findIn K (.ref av) "__init__" = some (some (.ref DI))) (lm1:K.lookup DI=some ⟨LC,Lm,.func (W.fnOf "__init__" "Store.__init__" (aH cD) (aC cD) (ai cD) .none Mo N5 K7 OI HQ Ol),KC⟩) (cm1:W.codeIn K HQ "Store.__init__" = true) (km1:W.keepIn K (.ref DI)=true) (im1:W.isFn K (.ref DI)=true)
  {Hj:Addr} {Ll OH:Option Addr} {KA:Array (Option Value)} {LB Mn N4 K6 HP Oj:Value}
  (am2:W.findIn K (.ref av) "take" = some (some (.ref Hj))) (lm2:K.lookup Hj=some ⟨LB,Ll,.func (W.fnOf "take" "Store.take" (aH cB) (aC cB) (ai cB) .none Mn N4 K6 OH HP Oj),KA⟩) (cm2:W.codeIn K HP "Store.take" = true) (km2:W.keepIn K (.ref Hj)=true) (im2:W.isFn K (.ref Hj)=true)
  {Hi:Addr} {Lk OG:Option Addr} {Kz:Array (Option Value)} {LA Ml N3 K5 HN Oi:Value}
  (am3:W.findIn K (.ref av) "first_gap" = some (some (.ref Hi))) (lm3:K.lookup Hi=some ⟨LA,Lk,.func (W.fnOf "first_gap" "Store.first_gap" (aH bC) (aC bC) (ai bC) .none Ml N3 K5 OG HN Oi),Kz⟩) (cm3:W.codeIn K HN "Store.first_gap" = true) (km3:W.keepIn K (.ref Hi)=true) (im3:W.isFn K (.ref Hi)=true)
  {Hh:Addr} {Lj OF:Option Addr} {Ky:Array (Option Value)} {Lz Mj N2 K4 HM Oh:Value}
  (am4:W.findIn K (.ref av) "give" = some (some (.ref Hh))) (lm4:K.lookup Hh=some ⟨Lz,Lj,.func (W.fnOf "give" "Store.give" (aH cE) (aC cE) (ai cE) .none Mj N2 K4 OF HM Oh),Ky⟩) (cm4:W.codeIn K HM "Store.give" = true) (km4:W.keepIn K (.ref Hh)=true) (im4:W.isFn K (.ref Hh)=true)
  {Hg:Addr} {Li OE:Option Addr} {Kx:Array (Option Value)} {Ly Mi N1 K2 HL Og:Value}
  (am5:W.findIn K (.ref av) "widen" = some (some (.ref Hg))) (lm5:K.lookup Hg=some ⟨Ly,Li,.func (W.fnOf "widen" "Store.widen" (aH cf) (aC cf) (ai cf) .none Mi N1 K2 OE HL Og),Kx⟩) (cm5:W.codeIn K HL "Store.widen" = true) (km5:W.keepIn K (.ref Hg)=true) (im5:W.isFn K (.ref Hg)=true)
  {Hf:Addr} {Lh OD:Option Addr} {Kw:Array (Option Value)} {Lx Mh N0 K1 HK Of:Value}
  (am6:W.findIn K (.ref av) "gaps_ahead" = some (some (.ref Hf))) (lm6:K.lookup Hf=some ⟨Lx,Lh,.func (W.fnOf "gaps_ahead" "Store.gaps_ahead" (aH bu) (aC bu) (ai bu) .none Mh N0 K1 OD HK Of),Kw⟩) (cm6:W.codeIn K HK "Store.gaps_ahead" = true) (km6:W.keepIn K (.ref Hf)=true) (im6:W.isFn K (.ref Hf)=true)
  {He:Addr} {Lg OC:Option Addr} {Kv:Array (Option Value)} {Lw Mg NZ K0 HJ Oe:Value}
  (am7:W.findIn K (.ref av) "look" = some (some (.ref He))) (lm7:K.lookup He=some ⟨Lw,Lg,.func (W.fnOf "look" "Store.look" (aH cC) (aC cC) (ai cC) .none Mg NZ K0 OC HJ Oe),Kv⟩) (cm7:W.codeIn K HJ "Store.look" = true) (km7:W.keepIn K (.ref He)=true) (im7:W.isFn K (.ref He)=true)
  {Hd:Addr} {Lf OB:Option Addr} {Ku:Array (Option Value)} {Lv Mf NY KZ HI Od:Value}
  (am8:W.findIn K (.ref av) "put" = some (some (.ref Hd))) (lm8:K.lookup Hd=some ⟨Lv,Lf,.func (W.fnOf "put" "Store.put" (aH cR) (aC cR) (ai cR) .none Mf NY KZ OB HI Od),Ku⟩) (cm8:W.codeIn K HI "Store.put" = true) (km8:W.keepIn K (.ref Hd)=true) (im8:W.isFn K (.ref Hd)=true)
  {Hc:Addr} {Ld OA:Option Addr} {Kt:Array (Option Value)} {Lu Me NX KY HH Oc:Value}
  (am9:W.findIn K (.ref av) "blocks" = some (some (.ref Hc))) (lm9:K.lookup Hc=some ⟨Lu,Ld,.func (W.fnOf "blocks" "Store.blocks" (aH bQ) (aC bQ) (ai bQ) .none Me NX KY OA HH Oc),Kt⟩) (cm9:W.codeIn K HH "Store.blocks" = true) (km9:W.keepIn K (.ref Hc)=true) (im9:W.isFn K (.ref Hc)=true)
  {wA:Addr} {FP Il:Option Addr} {E9:Array (Option Value)} {FQ Gh HB Fv Aa HE:Value}
  (am10:W.findIn K (.ref av) "book" = some (some (.ref wA))) (lm10:K.lookup wA=some ⟨FQ,FP,.func (W.fnOf "book" "Store.book" (aH cF) (aC cF) (ai cF) .none Gh HB Fv Il Aa HE),E9⟩) (cm10:W.codeIn K Aa "Store.book" = true) (km10:W.keepIn K (.ref wA)=true) (im10:W.isFn K (.ref wA)=true)
  (pgStore:W.plainGet K av Str.empty=true) (hdStore:W.hasDictIn K av=true) (poStore:W.plainOver K av=true) (saStore:W.findIn K (.ref av) "__setattr__" = some (some (.builtin "object.__setattr__"))) (mkStore:W.makesIn K av=true) (keStore:W.keepIn K (.ref av)=true)
  (naStore_words:W.findIn K (.ref av) "words" = some none)
  (naStore_cells:W.findIn K (.ref av) "cells" = some none)
  (naStore_gaps:W.findIn K (.ref av) "gaps" = some none)
  (naStore_held:W.findIn K (.ref av) "held" = some none)
  (naStore_deeds:W.findIn K (.ref av) "deeds" = some none)
  :
  ∃ fd:FuncData,(∀(s:Shared) (v:Value),BindsTo s fd ⟨[v],[]⟩ [("script",v)])∧∀ base:Heap,K.In base→base.Ns mainGlobals mg→bJ l.prog w K mg base ic 6 fa fd ["script"] (rh K):=by
 have e:=Ve.symm.trans (Y1 X G a15);cases e;have F1:=bD (st:=dn) l1 c1 k1;have b1:=F1.binds (ps:=["thing"]) fun _ _ _ _ _ _=>L3.ID (fun _=>rfl);have m1:=Y1 X G a1;have F2:=bD (st:=dM) l2 c2 k2;have b2:=F2.binds (ps:=["thing"]) fun _ _ _ _ _ _=>L3.ID (fun _=>rfl);have m2:=Y1 X G a2;have F3:=bD (st:=cc) l3 c3 k3;have b3:=F3.binds (ps:=["script","k"]) fun _ _ _ _ _ _=>L3.w9 (fun _ _=>rfl);have m3:=Y1 X G a3;have F4:=bD (st:=dJ) l4 c4 k4;have b4:=F4.binds (ps:=["cell","place"]) fun _ _ _ _ _ _=>L3.w9 (fun _ _=>rfl);have m4:=Y1 X G a4;have F5:=bD (st:=dk) l5 c5 k5;have b5:=F5.binds (ps:=["bag","many"]) fun _ _ _ _ _ _=>L3.w9 (fun _ _=>rfl);have m5:=Y1 X G a5;have F6:=bD (st:=cy) l6 c6 k6;have b6:=F6.binds (ps:=["found","due"]) fun _ _ _ _ _ _=>L3.w9 (fun _ _=>rfl);have m6:=Y1 X G a6;have F7:=bD (st:=dj) l7 c7 k7;have b7:=F7.binds (ps:=["size","blocks","at","many"]) fun _ _ _ _ _ _=>L3.O9 (fun _ _ _ _=>rfl);have m7:=Y1 X G a7;have F8:=bD (st:=cP) l8 c8 k8;have b8:=F8.binds (ps:=["size","blocks","many"]) fun _ _ _ _ _ _=>L3.Ar (fun _ _ _=>rfl);have m8:=Y1 X G a8;have F9:=bD (st:=dh) l9 c9 k9;have b9:=F9.binds (ps:=["store","hand","many"]) fun _ _ _ _ _ _=>L3.Ar (fun _ _ _=>rfl);have m9:=Y1 X G a9;have Rz:=bD (st:=di) l10 c10 k10;have WS:=Rz.binds (ps:=["store","hand","at"]) fun _ _ _ _ _ _=>L3.Ar (fun _ _ _=>rfl);have Ur:=Y1 X G a10;have Ry:=bD (st:=dm) l11 c11 k11;have WR:=Ry.binds (ps:=["bag","store","size","blocks","done"]) fun _ _ _ _ _ _=>L3.RF (fun _ _ _ _ _=>rfl);have Uq:=Y1 X G a11;have Rx:=bD (st:=cA) l12 c12 k12;have WQ:=Rx.binds (ps:=["size","book"]) fun _ _ _ _ _ _=>L3.w9 (fun _ _=>rfl);have Up:=Y1 X G a12;have Rw:=bD (st:=cQ) l13 c13 k13;have WO:=Rw.binds (ps:=["store","book"]) fun _ _ _ _ _ _=>L3.w9 (fun _ _=>rfl);have Uo:=Y1 X G a13;have Rv:=bD (st:=cb) l14 c14 k14;have WN:=Rv.binds (ps:=["bag","store","size","blocks"]) fun _ _ _ _ _ _=>L3.O9 (fun _ _ _ _=>rfl);have Um:=Y1 X G a14;have Xg:=bD (st:=iw) l15 c15 k15;have bZ:=Y8 X G y1;have lz:=Y8 X G y2;have uI:=Y8 X G y3;have jv:=Y8 X G y4;have eZ:=Y8 X G y5;have ax:=Y8 X G y6;have gK:=Y8 X G y7;have fe:=Y8 X G y8;have jJ:=Y8 X G y9;have df:=Y8 X G y10;have jI:=Y8 X G y11;have fH:=Y8 X G y12;have lA:=Y8 X G y13;have eM:=Y8 X G y14;refine⟨W.fnOf "law" "law" (aH iw) (aC iw) (ai iw) .none Gi HC Fx Im CT HF,fun s v=>.of_eq rfl,fun base _ _=>?_⟩;have dQ:=Y1 X G g1;have cS:=Y1 X G gcGateError;have eU:=Y1 X G gcNoRoom;have dO:=Y1 X G gcNoBlock;have fW:=Y1 X G gcWrongHand;have kg:=Y1 X G gcNoWord;have jA:=Y1 X G gcStore;have Ru:=bD (st:=cD) lm1 cm1 km1;have WK:=Ru.binds (ps:=["self","words"]) fun _ _ _ _ _ _=>L3.w9 (fun _ _=>rfl);have XN:Meth K av "__init__" DI:=⟨am1,im1,km1⟩;have Rt:=bD (st:=cB) lm2 cm2 km2;have WJ:=Rt.binds (ps:=["self","hand","many"]) fun _ _ _ _ _ _=>L3.Ar (fun _ _ _=>rfl);have Uk:Meth K av "take" Hj:=⟨am2,im2,km2⟩;have Rr:=bD (st:=bC) lm3 cm3 km3;have WI:=Rr.binds (ps:=["self","many"]) fun _ _ _ _ _ _=>L3.w9 (fun _ _=>rfl);have Uj:Meth K av "first_gap" Hi:=⟨am3,im3,km3⟩;have Rq:=bD (st:=cE) lm4 cm4 km4;have WH:=Rq.binds (ps:=["self","hand","address"]) fun _ _ _ _ _ _=>L3.Ar (fun _ _ _=>rfl);have Ui:Meth K av "give" Hh:=⟨am4,im4,km4⟩;have Rp:=bD (st:=cf) lm5 cm5 km5;have WG:=Rp.binds (ps:=["self","begin","end"]) fun _ _ _ _ _ _=>L3.Ar (fun _ _ _=>rfl);have Uh:Meth K av "widen" Hg:=⟨am5,im5,km5⟩;have Ro:=bD (st:=bu) lm6 cm6 km6;have WE:=Ro.binds (ps:=["self","address"]) fun _ _ _ _ _ _=>L3.w9 (fun _ _=>rfl);have Ug:Meth K av "gaps_ahead" Hf:=⟨am6,im6,km6⟩;have Rn:=bD (st:=cC) lm7 cm7 km7;have WD:=Rn.binds (ps:=["self","address"]) fun _ _ _ _ _ _=>L3.w9 (fun _ _=>rfl);have Ue:Meth K av "look" He:=⟨am7,im7,km7⟩;have Rm:=bD (st:=cR) lm8 cm8 km8;have WC:=Rm.binds (ps:=["self","address","word"]) fun _ _ _ _ _ _=>L3.Ar (fun _ _ _=>rfl);have Ud:Meth K av "put" Hd:=⟨am8,im8,km8⟩;have Rl:=bD (st:=bQ) lm9 cm9 km9;have WB:=Rl.binds (ps:=["self"]) fun _ _ _ _ _ _=>L3.ID (fun _=>rfl);have Uc:Meth K av "blocks" Hc:=⟨am9,im9,km9⟩;have Iv:=bD (st:=cF) lm10 cm10 km10;have Ox:=Iv.binds (ps:=["self"]) fun _ _ _ _ _ _=>L3.ID (fun _=>rfl);have LZ:Meth K av "book" wA:=⟨am10,im10,km10⟩;have ah:ju K av:=⟨pgStore,hdStore,poStore,saStore⟩;have vY:Mk K av DI:=⟨mkStore,am1,im1,keStore⟩;have cg:aU K av "words" := naStore_words;have aB:aU K av "cells" := naStore_cells;have ao:aU K av "gaps" := naStore_gaps;have aM:aU K av "held" := naStore_held;have aQ:aU K av "deeds" := naStore_deeds;have C3:fv l.prog w K mg base "_law_cell_at" _ _ _:=⟨_,_,vP F3 bZ,m3,k3,b3⟩;have C4:fv l.prog w K mg base "_law_bag" _ _ _:=⟨_,_,BM F4 lz,m4,k4,b4⟩;have C5:fv l.prog w K mg base "_law_draw" _ _ _:=⟨_,_,yI F5,m5,k5,b5⟩;have Xo:O4 l.prog w K mg base av _ _ _:=⟨_,_,kZ Ru ah cg aB ao aM aQ,vY,WK⟩;have Xm:kL l.prog w K mg base av "first_gap" _ _ _:=⟨_,_,mR Rr ah ao eU xNoRoom fH,ah,Uj,WI⟩;have Xj:w5 l.prog w K mg base av "gaps_ahead" _ _ _:=⟨_,_,kY Ro ah ao bZ,ah,Ug,WE⟩;have Xk:w5 l.prog w K mg base av "widen" _ _ _:=⟨_,_,vN Rp Xj ah ao bZ,ah,Uh,WG⟩;have Xl:kL l.prog w K mg base av "give" _ _ _:=⟨_,_,yF Rq Xk ah aM aB aQ dO xNoBlock fW xWrongHand,ah,Ui,WH⟩;have Xn:kL l.prog w K mg base av "take" _ _ _:=⟨_,_,yC Rt Xm ah aM aB aQ ao eU xNoRoom,ah,Uk,WJ⟩;have C7:fv l.prog w K mg base "_law_fits" _ _ _:=⟨_,_,yH F7,m7,k7,b7⟩;have C8:fv l.prog w K mg base "_law_place" _ _ _:=⟨_,_,vO F8 C7,m8,k8,b8⟩;have C1:fv l.prog w K mg base "is_whole" _ _ _:=⟨_,_,oy F1 ax gK fe,m1,k1,b1⟩;have C2:fv l.prog w K mg base "is_word" _ _ _:=⟨_,_,ql F2 C1 dQ (gl_int q1),m2,k2,b2⟩;have Xi:kL l.prog w K mg base av "look" _ _ _:=⟨_,_,yD Rn ah aB cg dO xNoBlock,ah,Ue,WD⟩;have Xh:kL l.prog w K mg base av "put" _ _ _:=⟨_,_,BK Rm Xi C2 ah aB kg xNoWord,ah,Ud,WC⟩;have RA:w5 l.prog w K mg base av "blocks" _ _ _:=⟨_,_,tE Rl ah aM eM,ah,Uc,WB⟩;have O2:w5 l.prog w K mg base av "book" _ _ _:=⟨_,_,yK Iv ah aQ df,ah,LZ,Ox⟩;have C9:fv l.prog w K mg base "_law_took" _ _ _:=⟨_,_,yB F9 Xn cS xmm,m9,k9,b9⟩;have O5:fv l.prog w K mg base "_law_gave" _ _ _:=⟨_,_,yG Rz Xl cS xbb xww,Ur,k10,WS⟩;have Xs:fv l.prog w K mg base "_law_deed" _ _ _:=⟨_,_,yJ Ry C5 C9 O5 Xh bZ,Uq,k11,WR⟩;have C6:=wU (P:=l.prog) (w:=w) (base:=base) F6 m6 k6 b6 ax eZ df bZ lA jI jJ gK fe 3;have Xr:fv l.prog w K mg base "_law_walked" _ _ _:=⟨_,_,tD Rx C6 C8 eM,Up,k12,WQ⟩;have Xq:fv l.prog w K mg base "_law_again" _ _ _:=⟨_,_,vR Rw C6 C9 O5,Uo,k13,WO⟩;have Xp:fv l.prog w K mg base "_law_emptied" _ _ _:=⟨_,_,qm Rv C5 O5 C9 RA C6 df bZ,Um,k14,WN⟩;exact(yE Xg jA Xo RA O2 C3 C4 C5 C6 Xs Xr Xq Xp jv lz uI bZ).imp BV
theorem walk{l:W.OpenLaw}{q:Program}{loose:List Str}{XP:(Str→Option Value)→Heap→Prop}{YP:World→Heap→Prop}{d:DefRec}{K:Params→W.Frag}(hn:l.most=some 63)(GQ:d.params.defaults=[])
  (hY:∀(w:World) (h:Heap),YP w h→(K w.params).In h)
  (F:∀(w:World) (mg:Str→Option Value) (fa:Addr) (h:Heap),(K w.params).In h→h.Ns mainGlobals mg→mg d.name=some (.ref fa) →
   ∃ fd:FuncData,(∀(s:Shared) (u:Value),BindsTo s fd ⟨[u],[]⟩ [("script",u)])∧∀ base:Heap,(K w.params).In base→base.Ns mainGlobals mg→bJ l.prog w (K w.params) mg base ic 6 fa fd ["script"] (rh (K w.params))) :
  W.WalkO q loose XP YP l.row.toRowW d [] (fun f vs=>PySem.call f vs):=
 L2.xn (n:=63) (k:=6) (x := "script") (CX:=fun _=>ic) (sp:=fun w=>rh (K w.params)) hn (by decide) GQ ⟨rfl,by decide,by decide⟩ hY F (fun _ _ a ns hl hO hS=>⟨a,ns,rfl,hO,hS,hl,fun _=>rfl⟩) fun _ _ _ _ _ z=>z
end Tg
open PySem PySem.W PyProof.Rows
def PySem.W.Fast.tw17592903133218593792:Unit:=()
def PySem.W.Fast.tw2185805959374222560:Unit:=()
def PySem.W.Fast.tw10052466115080970176:Unit:=()
def PySem.W.Fast.tw12657189036143976929:Unit:=()
def PySem.W.Fast.tw15186411251848934945:Unit:=()
def PySem.W.Fast.tw2736778072410670146:Unit:=()
def PySem.W.Fast.tw9602863336291295459:Unit:=()
def PySem.W.Fast.tw9756452745586161316:Unit:=()
def PySem.W.Fast.tw13875912871761937608:Unit:=()
def PySem.W.Fast.tw10910283170119983624:Unit:=()
def PySem.W.Fast.tw13441784302038115177:Unit:=()
def PySem.W.Fast.tw732439383753425203:Unit:=()
def PySem.W.Fast.tw13838841157998085141:Unit:=()
def PySem.W.Fast.tw433659158957546389:Unit:=()
def PySem.W.Fast.tw3395310936799678934:Unit:=()
def PySem.W.Fast.tw12673566623437977399:Unit:=()
def PySem.W.Fast.tw8027920096028398904:Unit:=()
def PySem.W.Fast.tw6044226486088519000:Unit:=()
def PySem.W.Fast.tw7049720175624182457:Unit:=()
def PySem.W.Fast.tw17766872268178176027:Unit:=()
def PySem.W.Fast.tw1197447793075631901:Unit:=()
def PySem.W.Fast.tw3592237360858133401:Unit:=()
set_option maxRecDepth 100000 in
set_option maxHeartbeats 0 in
theorem PySem.Challenge.cw_tonguegate_k19_whole_the_book_again_holds : PySem.Challenge.rw_tonguegate_k19_whole_the_book_again.Holds := by
 w_on;o_law;k_head;(case hw=>w_witness2)
 k_fill
 refine Tg.walk (l:=PySem.Challenge.rw_tonguegate_k19_whole_the_book_again) rfl rfl (fun w h Y=>PySem.W.kIn_of Y) ?F
 case F=>
  intro w mg fa h KX G GH;refine' Tg.all_mk KX G GH ?a1 ?l1 ?c1 ?k1 ?a2 ?l2 ?c2 ?k2 ?a3 ?l3 ?c3 ?k3 ?a4 ?l4 ?c4 ?k4 ?a5 ?l5 ?c5 ?k5 ?a6 ?l6 ?c6 ?k6 ?a7 ?l7 ?c7 ?k7 ?a8 ?l8 ?c8 ?k8 ?a9 ?l9 ?c9 ?k9 ?a10 ?l10 ?c10 ?k10 ?a11 ?l11 ?c11 ?k11 ?a12 ?l12 ?c12 ?k12 ?a13 ?l13 ?c13 ?k13 ?a14 ?l14 ?c14 ?k14 ?a15 ?l15 ?c15 ?k15 ?y1 ?y2 ?y3 ?y4 ?y5 ?y6 ?y7 ?y8 ?y9 ?y10 ?y11 ?y12 ?y13 ?y14 ?g1 ?q1 ?gcGateError ?gcNoRoom ?gcNoBlock ?gcWrongHand ?gcNoWord ?gcStore ?xNoRoom ?xNoBlock ?xWrongHand ?xNoWord ?xmm ?xbb ?xww   ?am1 ?lm1 ?cm1 ?km1 ?im1 ?am2 ?lm2 ?cm2 ?km2 ?im2 ?am3 ?lm3 ?cm3 ?km3 ?im3 ?am4 ?lm4 ?cm4 ?km4 ?im4 ?am5 ?lm5 ?cm5 ?km5 ?im5 ?am6 ?lm6 ?cm6 ?km6 ?im6 ?am7 ?lm7 ?cm7 ?km7 ?im7 ?am8 ?lm8 ?cm8 ?km8 ?im8 ?am9 ?lm9 ?cm9 ?km9 ?im9 ?am10 ?lm10 ?cm10 ?km10 ?im10 ?pgStore ?hdStore ?poStore ?saStore ?mkStore ?keStore ?naStore_words ?naStore_cells ?naStore_gaps ?naStore_held ?naStore_deeds
  (case a1=>k_is);(case l1=>k_is);(case c1=>k_is);(case k1=>k_is)
  (case a2=>k_is);(case l2=>k_is);(case c2=>k_is);(case k2=>k_is)
  (case a3=>k_is);(case l3=>k_is);(case c3=>k_is);(case k3=>k_is)
  (case a4=>k_is);(case l4=>k_is);(case c4=>k_is);(case k4=>k_is)
  (case a5=>k_is);(case l5=>k_is);(case c5=>k_is);(case k5=>k_is)
  (case a6=>k_is);(case l6=>k_is);(case c6=>k_is);(case k6=>k_is)
  (case a7=>k_is);(case l7=>k_is);(case c7=>k_is);(case k7=>k_is)
  (case a8=>k_is);(case l8=>k_is);(case c8=>k_is);(case k8=>k_is)
  (case a9=>k_is);(case l9=>k_is);(case c9=>k_is);(case k9=>k_is)
  (case a10=>k_is);(case l10=>k_is);(case c10=>k_is);(case k10=>k_is)
  (case a11=>k_is);(case l11=>k_is);(case c11=>k_is);(case k11=>k_is)
  (case a12=>k_is);(case l12=>k_is);(case c12=>k_is);(case k12=>k_is)
  (case a13=>k_is);(case l13=>k_is);(case c13=>k_is);(case k13=>k_is)
  (case a14=>k_is);(case l14=>k_is);(case c14=>k_is);(case k14=>k_is)
  (case a15=>k_is);(case l15=>k_is);(case c15=>k_is);(case k15=>k_is)
  (case y1=>k_is)
  (case y2=>k_is)
  (case y3=>k_is)
  (case y4=>k_is)
  (case y5=>k_is)
  (case y6=>k_is)
  (case y7=>k_is)
  (case y8=>k_is)
  (case y9=>k_is)
  (case y10=>k_is)
  (case y11=>k_is)
  (case y12=>k_is)
  (case y13=>k_is)
  (case y14=>k_is)
  (case g1=>k_is);(case q1=>exact⟨_,rfl⟩)
  (case gcGateError=>k_is)
  (case gcNoRoom=>k_is)
  (case gcNoBlock=>k_is)
  (case gcWrongHand=>k_is)
  (case gcNoWord=>k_is)
  (case gcStore=>k_is)
  (case xNoRoom=>k_exc)
  (case xNoBlock=>k_exc)
  (case xWrongHand=>k_exc)
  (case xNoWord=>k_exc)
  (case xmm=>kts_exm)
  (case xbb=>kts_exm)
  (case xww=>kts_exm)
  (case am1=>k_is);(case lm1=>k_is);(case cm1=>k_is);(case km1=>k_is);(case im1=>k_is)
  (case am2=>k_is);(case lm2=>k_is);(case cm2=>k_is);(case km2=>k_is);(case im2=>k_is)
  (case am3=>k_is);(case lm3=>k_is);(case cm3=>k_is);(case km3=>k_is);(case im3=>k_is)
  (case am4=>k_is);(case lm4=>k_is);(case cm4=>k_is);(case km4=>k_is);(case im4=>k_is)
  (case am5=>k_is);(case lm5=>k_is);(case cm5=>k_is);(case km5=>k_is);(case im5=>k_is)
  (case am6=>k_is);(case lm6=>k_is);(case cm6=>k_is);(case km6=>k_is);(case im6=>k_is)
  (case am7=>k_is);(case lm7=>k_is);(case cm7=>k_is);(case km7=>k_is);(case im7=>k_is)
  (case am8=>k_is);(case lm8=>k_is);(case cm8=>k_is);(case km8=>k_is);(case im8=>k_is)
  (case am9=>k_is);(case lm9=>k_is);(case cm9=>k_is);(case km9=>k_is);(case im9=>k_is)
  (case am10=>k_is);(case lm10=>k_is);(case cm10=>k_is);(case km10=>k_is);(case im10=>k_is)
  (case pgStore=>k_is);(case hdStore=>k_is);(case poStore=>k_is);(case saStore=>k_is);(case mkStore=>k_is);(case keStore=>k_is)
  (case naStore_words=>k_is)
  (case naStore_cells=>k_is)
  (case naStore_gaps=>k_is)
  (case naStore_held=>k_is)
  (case naStore_deeds=>k_is)

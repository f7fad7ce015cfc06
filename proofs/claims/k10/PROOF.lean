import PyProof.Rows.All
import Wide.All
import OpenK.AllK
import Wide.FinOn
import Lean
import PyProof.EqAt
import PyProof.EqKinds
import PyProof.TupleCall
import PySem.Challenge.RW_tonguegate_k10_pictures
set_option Elab.async false
set_option linter.all false
set_option maxRecDepth 100000
namespace L2
open PySem PySem.Spec PyProof.Rows
abbrev Key:=Sum Int Str
def keyIs:Key→Value→Bool
 | .inl k,v=>Value.isInt k v
 | .inr x,v=>Value.isStrOf x v
def keyH (w:World):Key→Int
 | .inl k=>hashInt k
 | .inr x=>hashStr w x
theorem keyIs_shape:∀ {k:Key} {v:Value},keyIs k v=true→(∃ i t,k=Sum.inl i∧v=Value.int i t)∨(∃ x t,k=Sum.inr x∧v=Value.str x t)
 | .inl i,v,h=>by
  obtain ⟨t,e⟩:=Value.isInt_shape (k:=i) (v:=v) h
  exact .inl ⟨i,t,rfl,e⟩
 | .inr x,v,h=>by
  obtain ⟨t,e⟩:=Value.isStrOf_shape (x:=x) (v:=v) h
  exact .inr ⟨x,t,rfl,e⟩
theorem keyIs_int (i:Int) (t:Tok):keyIs (.inl i) (.int i t)=true:=by simp [keyIs,Value.isInt]
theorem keyIs_str (x:Str) (t:Tok):keyIs (.inr x) (.str x t)=true:=by simp [keyIs,Value.isStrOf]
theorem key_ll (a b:Int):decide ((Sum.inl a:Key)=Sum.inl b)=(a == b):=by
 by_cases e:a=b
 ·subst e; simp
 ·have h:¬ (Sum.inl a:Key)=Sum.inl b:=fun q=>e (Sum.inl.inj q)
  rw [decide_eq_false h]
  exact (beq_eq_false_iff_ne.mpr e).symm
theorem key_rr (a b:Str):decide ((Sum.inr a:Key)=Sum.inr b)=decide (a=b):=by
 by_cases e:a=b
 ·subst e; simp
 ·have h:¬ (Sum.inr a:Key)=Sum.inr b:=fun q=>e (Sum.inr.inj q)
  rw [decide_eq_false h,decide_eq_false e]
theorem key_lr (a:Int) (b:Str):decide ((Sum.inl a:Key)=Sum.inr b)=false:=decide_eq_false (fun q=>nomatch q)
theorem key_rl (a:Str) (b:Int):decide ((Sum.inr a:Key)=Sum.inl b)=false:=decide_eq_false (fun q=>nomatch q)
def mixKind (prog:Program) (w:World):PySem.KeyKind prog w Key where
 is:=keyIs
 hash:=keyH w
 inj:=fun v a b ha hb=>by
  rcases keyIs_shape ha with ⟨i,t,rfl,rfl⟩ | ⟨x,t,rfl,rfl⟩
  ·rcases keyIs_shape hb with ⟨j,u,rfl,e⟩ | ⟨y,u,rfl,e⟩
   ·injection e with e1 _; rw [e1]
   ·exact nomatch e
  ·rcases keyIs_shape hb with ⟨j,u,rfl,e⟩ | ⟨y,u,rfl,e⟩
   ·exact nomatch e
   ·injection e with e1 _; rw [e1]
 byValue:=fun k v h=>by
  rcases keyIs_shape h with ⟨i,t,rfl,rfl⟩ | ⟨x,t,rfl,rfl⟩ <;> rfl
 pyHash:=fun hv h=>by
  rcases keyIs_shape hv with ⟨i,t,rfl,rfl⟩ | ⟨x,t,rfl,rfl⟩
  ·exact wpAny_pyHash_int h
  ·exact wpAny_pyHash_str h
 eqBool:=fun hu hv h=>by
  rcases keyIs_shape hu with ⟨i,t,rfl,rfl⟩ | ⟨x,t,rfl,rfl⟩
  ·rcases keyIs_shape hv with ⟨j,u,rfl,rfl⟩ | ⟨y,u,rfl,rfl⟩
   ·rw [key_ll] at h; exact wpAny_eqBool_int h
   ·rw [key_lr] at h; exact SeqAt.EqAt.int_str i t y u _ _ _ _ h
  ·rcases keyIs_shape hv with ⟨j,u,rfl,rfl⟩ | ⟨y,u,rfl,rfl⟩
   ·rw [key_rl] at h; exact SeqAt.EqAt.str_int x t j u _ _ _ _ h
   ·rw [key_rr] at h; exact wpAny_eqBool_str h
 «strs»:=fun k x t v h=>by
  rcases keyIs_shape h with ⟨i,u,rfl,e⟩ | ⟨y,u,rfl,e⟩
  ·exact nomatch e
  ·injection e with e1 _
   subst e1
   cases v <;> rfl
theorem mixKind_int (prog:Program) (w:World) (i:Int) (t:Tok):(mixKind prog w).is (.inl i) (.int i t)=true:=keyIs_int i t
theorem mixKind_str (prog:Program) (w:World) (x:Str) (t:Tok):(mixKind prog w).is (.inr x) (.str x t)=true:=keyIs_str x t
inductive V where
 | non | bl (b:Bool) | int (i:Int) | str (x:Str) | byt (b:Array UInt8) | flt (b:UInt64) | ref (a:Addr) | ty (n:String)
 deriving DecidableEq
def RelV:V→Value→Prop
 | .non,u=>u=Value.none
 | .bl b,u=>u=Value.bool b
 | .int i,u=>∃ t,u=Value.int i t
 | .str x,u=>∃ t,u=Value.str x t
 | .byt b,u=>∃ t,u=Value.bytes b t
 | .flt b,u=>∃ t,u=Value.float b t
 | .ref a,u=>u=Value.ref a
 | .ty n,u=>u=Value.type n
abbrev Vals:List V→List Value→Prop:=Paired RelV
theorem Vals.length {xs:List V} {us:List Value} (r:Vals xs us):xs.length=us.length:=Paired.length r
theorem Vals.get:∀ {xs:List V} {us:List Value} {i:Nat} {x:V},Vals xs us→xs[i]? = some x→∃ u,us[i]? = some u∧RelV x u
 | _,_,_,_,.nil,e=>by simp at e
 | _,_,0,_,.cons r _,e=>by simp at e; subst e; exact ⟨_,rfl,r⟩
 | _,_,i+1,x,.cons _ t,e=>by
  obtain ⟨u,h1,h2⟩:=Vals.get (i:=i) (x:=x) t (by simpa using e)
  exact ⟨u,by simpa using h1,h2⟩
theorem Vals.set {x:V} {u:Value} (r:RelV x u):∀ {xs:List V} {us:List Value} (i:Nat),Vals xs us→Vals (xs.set i x) (us.set i u)
 | _,_,_,.nil=>.nil
 | _,_,0,.cons _ t=>.cons r t
 | _,_,i+1,.cons q t=>.cons q (Vals.set r i t)
theorem Vals.append:∀ {xs ys:List V} {us ws:List Value},Vals xs us→Vals ys ws→Vals (xs++ys) (us++ws)
 | _,_,_,_,.nil,s=>s
 | _,_,_,_,.cons r t,s=>.cons r (Vals.append t s)
theorem Vals.take:∀ {xs:List V} {us:List Value} (n:Nat),Vals xs us→Vals (xs.take n) (us.take n)
 | _,_,0,_=>.nil
 | _,_,_+1,.nil=>.nil
 | _,_,n+1,.cons r t=>.cons r (Vals.take n t)
theorem Vals.drop:∀ {xs:List V} {us:List Value} (n:Nat),Vals xs us→Vals (xs.drop n) (us.drop n)
 | _,_,0,r=>r
 | _,_,_+1,.nil=>.nil
 | _,_,n+1,.cons _ t=>Vals.drop n t
def RelO:Option V→Option Value→Prop
 | some v,some u=>RelV v u
 | none,none=>True
 | _,_=>False
def KV {κ:Type}:List (κ×V)→List (κ×Value)→Prop:=Paired fun (p:κ×V) (q:κ×Value)=>p.1=q.1∧RelV p.2 q.2
def kV:Key→V
 | .inl i=>.int i
 | .inr x=>.str x
inductive HO where
 /-- a list -/
 | lst (xs:List V)
 /-- a tuple (never changes) -/
 | tup (xs:List V)
 /-- a dict whose keys are ints and texts; one whose keys are tuples of ints and texts (the empty one is both) -/
 | dK (kvs:List (Key×V)) | dT (kvs:List (List Key×V))
 /-- a set of ints: its members,its size -/
 | set (S:Int→Bool) (n:Nat)
 /-- an instance of the class at C,its dict at dx,its attributes -/
 | ins (C dx:Addr) (fs:List (Str×V))
 /-- the dict of the instance at x -/
 | own (x:Addr)
 /-- the dict of an exception -/
 | xd (fs:List (Str×V))
 /-- a bound method,f of x -/
 | met (f x:Addr)
 /-- a range object lo,lo+1,.. below hi -/
 | rng (lo hi:Int)
 /-- a thing that is known to the object (the script; a dict while a loop walks it): read,never written while it is so -/
 | frz (o:Obj) (u:HO)
 /-- a code object's table -/
 | tbl (ps:Array Value)
 /-- any other thing,by what is true of its one object (a def of one's own: SetO a S n:=HO.ext fun h=>..) -/
 | ext (φ:Heap→Prop)
abbrev Hp:=Addr→Option HO
def upd (H:Hp) (a:Addr) (o:HO):Hp:=fun b=>if b=a then some o else H b
theorem upd_same {H:Hp} {a:Addr} {o:HO}:upd H a o a=some o:=by unfold upd; rw [if_pos rfl]
theorem upd_ne {H:Hp} {a b:Addr} {o:HO} (h:b≠a):upd H a o b=H b:=by unfold upd; rw [if_neg h]
theorem upd_upd {H:Hp} {a:Addr} {o u:HO}:upd (upd H a o) a u=upd H a u:=by
 funext b; unfold upd; split <;> rfl
theorem ne_of {H:Hp} {a b:Addr} {o u:HO} (h:H a=some o) (h':H b=some u) (d:o≠u):a≠b:=by
 intro e; subst e; rw [h] at h'; exact d (Option.some.inj h')
theorem ne_of_none {H:Hp} {a b:Addr} {o:HO} (h:H a=some o) (h':H b=none):a≠b:=by
 intro e; subst e; rw [h] at h'; cases h'
section
variable (P:Program) (w:World)
def ObjOk (H:Hp) (h:Heap) (a:Addr):HO→Prop
 | .lst xs=>xs.length≤sizeLine∧∃ (its:List Value) (n:Nat),Vals xs its∧h.get? a=some { cls:=.type "list",data:=.seq its.toArray n }
 | .tup xs=>xs.length≤sizeLine∧∃ its:List Value,Vals xs its∧IsTup h a its.toArray
 | .dK kvs=>kvs.length≤sizeLine∧(a == sysModules)=false∧∃ vs,KV kvs vs∧h.DictOf (mixKind P w) a vs
 | .dT kvs=>kvs.length≤sizeLine∧(a == sysModules)=false∧∃ xs:List (List Key×Addr×Value),
   Paired (fun (p:List Key×V) (q:List Key×Addr×Value)=>p.1=q.1∧H q.2.1=some (.tup (p.1.map kV))∧RelV p.2 q.2.2) kvs xs ∧
   ∃ o es ep,h.get? a=some o∧o.ExactDict∧o.data=.dict es ep∧es.toList=xs.map (entryOfKey (tupleKind (mixKind P w)))∧(xs.map (·.1)).Nodup
 | .set S n=>h.SetOf (intKind P w) a S n
 | .ins C dx fs=>H dx=some (.own a)∧fs.length≤1000∧dx≠a∧h.get? a=some (PySem.W.instObj C dx) ∧
   ∃ mA,h.Ns1 dx mA∧(∀ f,RelO (fs.lookup f) (mA f))∧PySem.Within mA (fs.map (·.1))
 | .own _=>∃ o,h.get? a=some o
 | .xd fs=>∃ mA,h.Ns1 a mA∧∀ f,RelO (fs.lookup f) (mA f)
 | .rng lo hi=>∃ t u v,h.get? a=some { cls:=.type "range",data:=.fields #[.int lo t,.int hi u,.int 1 v] }
 | .frz o u=>h.get? a=some o∧ObjOk H h a u
 | .tbl ps=>h.get? a=some { cls:=.none,data:=.fields ps }
 | .met f x=>h.get? a=some (PySem.W.methodObj (.ref f) (.ref x))
 | .ext φ=>φ h∧(∃ o,h.get? a=some o)∧∀ h1 h2:Heap,φ h1→(∀ o,h1.get? a=some o→h2.get? a=some o)→φ h2
def HOk (H:Hp) (h:Heap):Prop:=∀ a o,H a=some o→ObjOk P w H h a o
end
section
variable {P:Program} {w:World} {H H':Hp} {h h':Heap} {a:Addr} {o:HO}
theorem ObjOk.lt (x:ObjOk P w H h a o):a < h.objs.size:=by
 cases o with
 | lst xs=>obtain ⟨_,_,_,_,e⟩:=x; exact Heap.lt_size e
 | tup xs=>obtain ⟨_,_,_,p⟩:=x; exact p.lt
 | dK kvs=>obtain ⟨_,_,_,_,o,_,_,e,_⟩:=x; exact Heap.lt_size e
 | dT kvs=>obtain ⟨_,_,_,_,o,_,_,e,_⟩:=x; exact Heap.lt_size e
 | set S n=>obtain ⟨o,_,_,_,e,_⟩:=x; exact Heap.lt_size e
 | ins C dx fs=>obtain ⟨_,_,_,e,_⟩:=x; exact Heap.lt_size e
 | own y=>obtain ⟨_,e⟩:=x; exact Heap.lt_size e
 | xd fs=>obtain ⟨_,⟨_,_,_,e,_⟩,_⟩:=x; exact Heap.lt_size e
 | rng lo hi=>obtain ⟨_,_,_,e⟩:=x; exact Heap.lt_size e
 | frz ob u=>obtain ⟨e,_⟩:=x; exact Heap.lt_size e
 | tbl ps=>exact Heap.lt_size (show h.get? a=some _ from x)
 | met f y=>exact Heap.lt_size (show h.get? a=some _ from x)
 | ext φ=>obtain ⟨_,⟨_,e⟩,_⟩:=x; exact Heap.lt_size e
theorem Paired.mapP {α β:Type} {F G:α→β→Prop}:∀ {l₁:List α} {l₂:List β},Paired F l₁ l₂→(∀ a b,F a b→G a b)→Paired G l₁ l₂
 | _,_,.nil,_=>.nil
 | _,_,.cons r t,f=>.cons (f _ _ r) (Paired.mapP t f)
theorem ObjOk.stay (x:ObjOk P w H h a o) (k:∀ b u,(b=a∨H b=some (.own a))→h.get? b=some u→h'.get? b=some u)
  (ho:∀ b,H b=some (.own a)→H' b=some (.own a)) (ht:∀ b xs,H b=some (.tup xs)→H' b=some (.tup xs)):ObjOk P w H' h' a o:=by
 induction o with
 | lst xs=>obtain ⟨z,its,n,r,e⟩:=x; exact ⟨z,its,n,r,k _ _ (.inl rfl) e⟩
 | tup xs=>obtain ⟨z,its,r,ob,e,c⟩:=x; exact ⟨z,its,r,ob,k _ _ (.inl rfl) e,c⟩
 | dK kvs=>obtain ⟨z,y,vs,r,ob,es,ep,e,c⟩:=x; exact ⟨z,y,vs,r,ob,es,ep,k _ _ (.inl rfl) e,c⟩
 | dT kvs=>
  obtain ⟨z,y,xs,r,ob,es,ep,e,c⟩:=x
  exact ⟨z,y,xs,Paired.mapP r fun p q z=>⟨z.1,ht _ _ z.2.1,z.2.2⟩,ob,es,ep,k _ _ (.inl rfl) e,c⟩
 | set S n=>obtain ⟨ob,es,ep,t,e,c⟩:=x; exact ⟨ob,es,ep,t,k _ _ (.inl rfl) e,c⟩
 | ins C dx fs=>
  obtain ⟨d,z,ne,e,mA,⟨od,es,ep,e2,c⟩,r⟩:=x
  exact ⟨ho _ d,z,ne,k _ _ (.inl rfl) e,mA,⟨od,es,ep,k _ _ (.inr d) e2,c⟩,r⟩
 | own y=>obtain ⟨ob,e⟩:=x; exact ⟨ob,k _ _ (.inl rfl) e⟩
 | xd fs=>obtain ⟨mA,⟨od,es,ep,e,c⟩,r⟩:=x; exact ⟨mA,⟨od,es,ep,k _ _ (.inl rfl) e,c⟩,r⟩
 | rng lo hi=>obtain ⟨t,u,v,e⟩:=x; exact ⟨t,u,v,k _ _ (.inl rfl) e⟩
 | frz ob u ih=>obtain ⟨e,q⟩:=x; exact ⟨k _ _ (.inl rfl) e,ih q⟩
 | tbl ps=>
  have e:h.get? a=some { cls:=.none,data:=.fields ps }:=x
  show h'.get? a=some { cls:=.none,data:=.fields ps }
  exact k a _ (.inl rfl) e
 | met f y=>
  have e:h.get? a=some (PySem.W.methodObj (.ref f) (.ref y)):=x
  show h'.get? a=some (PySem.W.methodObj (.ref f) (.ref y))
  exact k a _ (.inl rfl) e
 | ext φ=>obtain ⟨p,⟨o,e⟩,st⟩:=x; exact ⟨st _ _ p fun o q=>k _ _ (.inl rfl) q,⟨o,k _ _ (.inl rfl) e⟩,st⟩
theorem HOk.lt (x:HOk P w H h) (e:H a=some o):a < h.objs.size:=(x a o e).lt
theorem HOk.fresh (x:HOk P w H h) (e:h.objs.size≤a):H a=none:=by
 cases q:H a with
 | none=>rfl
 | some u=>exact absurd (Nat.lt_of_lt_of_le (x.lt q) e) (Nat.lt_irrefl _)
theorem HOk.kept (x:HOk P w H h) (k:∀ b u,h.get? b=some u→h'.get? b=some u):HOk P w H h':=fun a o e=>
 (x a o e).stay (fun b u _ q=>k b u q) (fun _ q=>q) fun _ _ q=>q
theorem HOk.laid (x:HOk P w H h) (k:∀ b u,h.get? b=some u→h'.get? b=some u) (hp:h.objs.size≤a) (new:ObjOk P w (upd H a o) h' a o):HOk P w (upd H a o) h':=fun b u e=>by
 have hn:=x.fresh hp
 by_cases hb:b=a
 ·subst hb; rw [upd_same] at e; cases e; exact new
 ·rw [upd_ne hb] at e
  exact (x b u e).stay (fun c v _ q=>k c v q) (fun c q=>by rw [upd_ne (ne_of_none q hn)]; exact q) fun c xs q=>by rw [upd_ne (ne_of_none q hn)]; exact q
end
def Rd (H:Hp) (a:Addr) (u:HO):Prop:=H a=some u∨∃ o,H a=some (.frz o u)
theorem Rd.of {H:Hp} {a:Addr} {u:HO} (h:H a=some u):Rd H a u:=.inl h
theorem Rd.ok {P:Program} {w:World} {H:Hp} {h:Heap} {a:Addr} {u:HO} (r:Rd H a u) (x:HOk P w H h):ObjOk P w H h a u:=by
 rcases r with r | ⟨o,r⟩
 ·exact x a u r
 ·obtain ⟨_,q⟩:=x a _ r
  exact q
def Mut:Option HO→Prop
 | some (.lst _)=>True
 | some (.dK _)=>True
 | some (.dT _)=>True
 | some (.set _ _)=>True
 | some (.ins _ _ _)=>True
 | some (.ext _)=>True
 | _=>False
section
variable {P:Program} {w:World} {H:Hp} {h h':Heap} {x e:Addr} {o':HO}
theorem HOk.write (ok:HOk P w H h) (mu:Mut (H x)) (he:e=x∨H e=some (.own x)) (k:∀ b u,b≠e→h.get? b=some u→h'.get? b=some u) (heo:∃ u,h'.get? e=some u)
  (new:ObjOk P w (upd H x o') h' x o'):HOk P w (upd H x o') h':=fun b u q=>by
 have nown:∀ c y,H c=some (.own y)→c≠x:=fun c y r z=>by subst z; rw [r] at mu; exact mu
 have ntup:∀ c xs,H c=some (.tup xs)→c≠x:=fun c xs r z=>by subst z; rw [r] at mu; exact mu
 by_cases hb:b=x
 ·subst hb; rw [upd_same] at q; cases q; exact new
 ·rw [upd_ne hb] at q
  by_cases hbe:b=e
  ·have q':H b=some (.own x):=by
    rcases he with z | z
    ·exact absurd (hbe.trans z) hb
    ·rw [hbe]; exact z
   rw [q] at q'; cases q'
   obtain ⟨v,hv⟩:=heo
   exact ⟨v,by rw [hbe]; exact hv⟩
  ·refine (ok b u q).stay (fun c v hc r=>k c v ?_ r) (fun c r=>by rw [upd_ne (nown c b r)]; exact r) fun c xs r=>by rw [upd_ne (ntup c xs r)]; exact r
   rcases hc with rfl | hc
   ·exact hbe
   ·rintro rfl
    rcases he with z | z
    ·exact nown c b hc z
    ·rw [hc] at z; cases z; exact hb rfl
end
structure Un (fs ex:List Addr) (H H':Hp) (h h':Heap):Prop where
 keep:∀ b o,h.get? b=some o→H b=none→b∉fs→b∉ex→h'.get? b=some o
 slot:∀ b o,h.get? b=some o→H b=none→b∈fs→b∉ex→∃ sl,h'.get? b=some { o with slots:=sl }
 free:∀ b o,h.get? b=some o→H b=none→b∉ex→H' b=none
 there:∀ b o,h.get? b=some o→b∉ex→∃ o',h'.get? b=some o'
 tups:∀ b xs,H b=some (.tup xs)→H' b=some (.tup xs)
 frzs:∀ b o u,H b=some (.frz o u)→H' b=some (.frz o u)
 tbls:∀ b ps,H b=some (.tbl ps)→∃ more,H' b=some (.tbl (ps++more))
section
variable {fs fs' ex ex':List Addr} {H H1 H2:Hp} {h h1 h2 h':Heap} {a x e:Addr} {o:HO}
theorem Un.any (u:Un fs ex H H1 h h1) {b:Addr} {ob:Obj} (q:h.get? b=some ob) (n:H b=none) (hx:b∉ex):∃ sl,h1.get? b=some { ob with slots:=sl }:=by
 by_cases hb:b∈fs
 ·exact u.slot b ob q n hb hx
 ·exact ⟨ob.slots,u.keep b ob q n hb hx⟩
theorem Un.trans (a:Un fs ex H H1 h h1) (b:Un fs ex H1 H2 h1 h2):Un fs ex H H2 h h2 where
 keep:=fun c ob q n hc hx=>b.keep c ob (a.keep c ob q n hc hx) (a.free c ob q n hx) hc hx
 slot:=fun c ob q n hc hx=>by
  obtain ⟨sl,e1⟩:=a.slot c ob q n hc hx
  obtain ⟨sl',e2⟩:=b.slot c _ e1 (a.free c ob q n hx) hc hx
  exact ⟨sl',e2⟩
 free:=fun c ob q n hx=>by
  obtain ⟨o',e1⟩:=a.there c ob q hx
  exact b.free c o' e1 (a.free c ob q n hx) hx
 there:=fun c ob q hx=>by
  obtain ⟨o',e1⟩:=a.there c ob q hx
  exact b.there c o' e1 hx
 tups:=fun c xs q=>b.tups c xs (a.tups c xs q)
 frzs:=fun c ob xs q=>b.frzs c ob xs (a.frzs c ob xs q)
 tbls:=fun c ps q=>by
  obtain ⟨m1,e1⟩:=a.tbls c ps q
  obtain ⟨m2,e2⟩:=b.tbls c _ e1
  exact ⟨m1++m2,by rw [e2,Array.append_assoc]⟩
theorem Un.kept (k:∀ b u,h.get? b=some u→h'.get? b=some u):Un fs ex H H h h':=
 ⟨fun b ob q _ _ _=>k b ob q,fun b ob q _ _ _=>⟨ob.slots,k b ob q⟩,fun _ _ _ n _=>n,fun b ob q _=>⟨ob,k b ob q⟩,fun _ _ q=>q,fun _ _ _ q=>q,fun _ ps q=>⟨#[],by rw [q]; simp⟩⟩
theorem Un.refl:Un fs ex H H h h:=Un.kept fun _ _ q=>q
theorem Un.laid (k:∀ b u,h.get? b=some u→h'.get? b=some u) (hp:h.objs.size≤a) (hn:H a=none):Un fs ex H (upd H a o) h h' where
 keep:=fun b u q _ _ _=>k b u q
 slot:=fun b u q _ _ _=>⟨u.slots,k b u q⟩
 free:=fun b u q n _=>by rw [upd_ne (Nat.ne_of_lt (Nat.lt_of_lt_of_le (Heap.lt_size q) hp))]; exact n
 there:=fun b u q _=>⟨u,k b u q⟩
 tups:=fun b xs q=>by rw [upd_ne (ne_of_none q hn)]; exact q
 frzs:=fun b u xs q=>by rw [upd_ne (ne_of_none q hn)]; exact q
 tbls:=fun b ps q=>⟨#[],by rw [upd_ne (ne_of_none q hn),q]; simp⟩
theorem Un.write (mu:Mut (H x)) (he:e=x∨H e=some (.own x)) (k:∀ b u,b≠e→h.get? b=some u→h'.get? b=some u) (heo:∃ u,h'.get? e=some u):Un fs ex H (upd H x o) h h':=by
 have hx:∀ b,H b=none→b≠x:=fun b n z=>by subst z; rw [n] at mu; exact mu
 have hb:∀ b,H b=none→b≠e:=fun b n z=>by
  subst z
  rcases he with r | r
  ·exact hx b n r
  ·rw [n] at r; cases r
 have hm:∀ b u,H b=some u→¬ Mut (some u)→b≠x:=fun b u q nm z=>by subst z; rw [q] at mu; exact nm mu
 refine ⟨fun b u q n _ _=>k b u (hb b n) q,fun b u q n _ _=>⟨u.slots,k b u (hb b n) q⟩,fun b u q n _=>by rw [upd_ne (hx b n)]; exact n,fun b u q _=>?_,
  fun b xs q=>by rw [upd_ne (hm b _ q fun z=>z)]; exact q,fun b u xs q=>by rw [upd_ne (hm b _ q fun z=>z)]; exact q,fun b ps q=>⟨#[],by rw [upd_ne (hm b _ q fun z=>z),q]; simp⟩⟩
 by_cases hbe:b=e
 ·subst hbe; exact heo
 ·exact ⟨u,k b u hbe q⟩
theorem Un.mono (u:Un fs ex H H1 h h1) (hs:∀ b∈fs,b∈fs') (hx:∀ b∈ex,b∈ex'):Un fs' ex' H H1 h h1:=
 ⟨fun b ob q n hb he=>u.keep b ob q n (fun z=>hb (hs b z)) fun z=>he (hx b z),fun _ _ q n _ he=>u.any q n fun z=>he (hx _ z),fun b ob q n he=>u.free b ob q n fun z=>he (hx b z),fun b ob q he=>u.there b ob q fun z=>he (hx b z),u.tups,u.frzs,u.tbls⟩
end
def trk (h:Heap) (H:Hp):List Addr:=(List.range h.objs.size).filter fun a=>(H a).isSome
def hidT (h:Heap) (H:Hp):Heap:=PySem.W.hideAll h (trk h H)
theorem hidT_size (h:Heap) (H:Hp):(hidT h H).objs.size=h.objs.size:=PySem.W.hideAll_size _ _
theorem hidT_get {h:Heap} {H:Hp} {b:Addr} {o:Obj} (e:h.get? b=some o) (n:H b=none):(hidT h H).get? b=some o:=
 PySem.W.hideAll_get _ e fun hm=>by
  have q:(H b).isSome=true:=(List.mem_filter.mp hm).2
  rw [n] at q; simp at q
theorem of_hidT {h:Heap} {H:Hp} {b:Addr} {o:Obj} (e:(hidT h H).get? b=some o):h.get? b=some o∧H b=none:=by
 have e':h.get? b=some o:=PySem.W.of_hideAll (trk h H) e
 refine ⟨e',?_⟩
 cases q:H b with
 | none=>rfl
 | some x=>
  have hm:b∈trk h H:=List.mem_filter.mpr ⟨List.mem_range.mpr (Heap.lt_size e'),by simp [q]⟩
  have z:(hidT h H).get? b=none:=PySem.W.hideAll_none (trk h H) hm
  rw [z] at e; cases e
def allNews (g h:Heap) (L:Addr):List (Addr×Obj):=(List.range h.objs.size).filterMap fun a=>if a=L∨(g.get? a).isSome=true then none else (h.get? a).map fun o=>(a,o)
def rest (g h:Heap) (L d:Addr):List (Addr×Obj):=(allNews g h L).filter fun p=>decide (p.1≠d)
structure Mod (K:PySem.W.Frag) (mg:Str→Option Value) (base:Heap):Prop where
 kin:K.In base
 glob:base.Ns mainGlobals mg
 blt:∃ mb,base.Ns builtinsNs mb∧∀ x:Str,x ≠ "__name__" → mb x=bootBuiltins x
 nolimit:base.NoLimit
structure Cx where
 prog:Program
 w:World
 K:PySem.W.Frag
 mg:Str→Option Value
 base:Heap
 A:Around
 N:List Str
 s₀:Shared
 H₀:Hp
 env:Env
 outer:List Env
 stack:List Env
 ex:List Addr
 fn:Str→Bool
 calm:Bool
 pn:List (Addr×Obj)
 xe:Value→Shared→Prop
def frs (l:List Env):List Addr:=l.filterMap (·.frame)
abbrev Cx.fs (X:Cx):List Addr:=frs X.outer
def Vis (sc:Scope) (x:Str):Prop:=sc.names.lookup x=some .local∨sc.names.lookup x=some .cell∨sc.names.lookup x=some .free
def Loc (sc:Scope) (x:Str):Prop:=sc.names.lookup x=some .local∨sc.names.lookup x=some .cell
def Look (env:Env) (h:Heap) (m:Str→Option Value) (x:Str) (u:Value):Prop:=
 (env.kindOf x=some .local∧m x=some u)∨((env.kindOf x=some .cell∨env.kindOf x=some .free)∧∃ c,env.cells.lookup x=some c∧h.IsCell c (some u))
structure Cx.Ok (X:Cx):Prop where
 mod:Mod X.K X.mg X.base
 kind:X.env.scope.kind=.function
 glob:X.env.globals=mainGlobals
 blt:X.env.builtins=builtinsNs
 above:X.s₀.heap.objs.size≤X.env.locals
 inj:∀ x y c,X.env.cells.lookup x=some c→X.env.cells.lookup y=some c→x=y
 has:∀ x,(X.env.kindOf x=some .cell∨X.env.kindOf x=some .free)→∃ c,X.env.cells.lookup x=some c
 cab:∀ x c,X.fn x=true→X.env.cells.lookup x=some c→X.s₀.heap.objs.size≤c
 hd:X.calm=true→X.A.handled=none
 frames:X.A.frames=some X.stack
 stk:X.stack=X.outer∨(X.stack=X.env::X.outer∧X.env.frame=some X.env.locals)
 exf:∀ b∈X.ex,b≠X.env.locals∧∀ x c,X.env.cells.lookup x=some c→c≠b
 bs:∀ b o,X.base.get? b=some o→X.s₀.heap.get? b=some o∧X.H₀ b=none
 bsz:X.base.objs.size≤X.s₀.heap.objs.size
 noex:∀ b o,X.base.get? b=some o→b∉X.ex
 exfs:∀ b∈X.ex,b∉X.fs
 funs:X.s₀.heap.FunFrames X.base X.outer
 frf:∀ b∈X.fs,X.H₀ b=none
structure Inv (X:Cx) (pins:List (Addr×Obj)) (σ:List (Option V)) (H:Hp) (s:Shared):Prop where
 ok:X.Ok
 os:s.os=X.s₀.os
 bare:AllBare s.gens
 base:Un X.fs X.ex X.H₀ H X.s₀.heap s.heap
 loc:∃ m,s.heap.Ns X.env.locals m∧∀ (i:Nat) (x:Str) (v:V),X.N[i]? = some x→σ[i]? = some (some v)→Vis X.env.scope x→∃ u,RelV v u∧Look X.env s.heap m x u
 cell:∀ x c,X.env.cells.lookup x=some c→∃ v,s.heap.IsCell c v
 free:H X.env.locals=none
 freeC:∀ x c,X.env.cells.lookup x=some c→H c=none
 pin:∀ p∈X.pn++pins,s.heap.get? p.1=some p.2∧H p.1=none∧p.1≠X.env.locals∧p.1∉X.fs∧∀ v,p.2.data≠.cell v
 hok:HOk X.prog X.w H s.heap
 len:σ.length=X.N.length
section
variable {X:Cx} {pins:List (Addr×Obj)} {σ:List (Option V)} {H H':Hp} {s:Shared} {h':Heap}
theorem Cx.Ok.nofr (ok:X.Ok) {b:Addr} {o:Obj} (e:X.base.get? b=some o):b∉X.fs:=fun hb=>by
 have:=(ok.funs.mem hb).1
 rw [e] at this; cases this
theorem Inv.bs (I:Inv X pins σ H s):∀ b o,X.base.get? b=some o→s.heap.get? b=some o∧H b=none:=fun b o e=>
 ⟨I.base.keep b o (I.ok.bs b o e).1 (I.ok.bs b o e).2 (I.ok.nofr e) (I.ok.noex b o e),I.base.free b o (I.ok.bs b o e).1 (I.ok.bs b o e).2 (I.ok.noex b o e)⟩
theorem Inv.bk (I:Inv X pins σ H s):∀ b o,X.base.get? b=some o→s.heap.get? b=some o:=fun b o e=>(I.bs b o e).1
theorem Inv.mod (I:Inv X pins σ H s):Mod X.K X.mg X.base:=I.ok.mod
theorem Inv.kIn (I:Inv X pins σ H s):X.K.In s.heap:=I.ok.mod.kin.keeps I.bk
theorem Inv.nolimit (I:Inv X pins σ H s):s.heap.NoLimit:=I.ok.mod.nolimit.keeps I.bk
theorem Inv.fr (I:Inv X pins σ H s):∃ m,Fr X.base X.env.locals s.heap m:=
 let ⟨m,hn,_⟩:=I.loc
 ⟨m,hn,I.bk,Nat.le_trans I.ok.bsz I.ok.above⟩
theorem Inv.lt (I:Inv X pins σ H s):X.env.locals < s.heap.objs.size:=let ⟨_,hn,_⟩:=I.loc; hn.lt
theorem Inv.sz (I:Inv X pins σ H s):X.s₀.heap.objs.size≤s.heap.objs.size:=Nat.le_trans I.ok.above (Nat.le_of_lt I.lt)
theorem Inv.nofs (I:Inv X pins σ H s) {a:Addr} (h:s.heap.objs.size≤a):a∉X.fs:=fun hb=>by
 obtain ⟨_,o,ho,_⟩:=I.ok.funs.mem hb
 exact absurd (Nat.lt_of_lt_of_le (Heap.lt_size ho) (Nat.le_trans I.sz h)) (Nat.lt_irrefl _)
theorem Inv.cne (I:Inv X pins σ H s):∀ x c,X.env.cells.lookup x=some c→c≠X.env.locals:=fun x c e z=>by
 obtain ⟨v,o,ho,hd⟩:=I.cell x c e
 obtain ⟨m,⟨o',es,ep,ho',hd',_⟩,_⟩:=I.loc
 rw [z,ho'] at ho; cases ho; rw [hd'] at hd; cases hd
theorem Inv.funs (I:Inv X pins σ H s):s.heap.FunFrames X.base X.outer:=by
 have all:∀ (l:List Env),(∀ b∈frs l,b∈X.fs)→X.s₀.heap.FunFrames X.base l→s.heap.FunFrames X.base l:=by
  intro l
  induction l with
  | nil=>intro _ _; trivial
  | cons env r ih=>
   intro hs hl
   obtain ⟨hk,⟨L,o,hf,hn,ho,hd⟩,hr⟩:=hl
   have hL:L∈X.fs:=hs L (by unfold frs; rw [List.filterMap_cons,hf]; exact List.mem_cons_self)
   obtain ⟨sl,e⟩:=I.base.slot L o ho (I.ok.frf L hL) hL fun z=>I.ok.exfs L z hL
   exact ⟨hk,⟨L,_,hf,hn,e,hd⟩,ih (fun b hb=>hs b (by unfold frs; rw [List.filterMap_cons,hf]; exact List.mem_cons_of_mem _ hb)) hr⟩
 exact all X.outer (fun _ hb=>hb) I.ok.funs
theorem Inv.stack (I:Inv X pins σ H s):s.heap.FunFrames X.base X.stack:=by
 rcases I.ok.stk with e | ⟨e,hf⟩
 ·rw [e]; exact I.funs
 ·rw [e]
  obtain ⟨m,hn,_⟩:=I.loc
  refine .cons (by rw [I.ok.kind]; decide) hf hn ?_ I.funs
  exact Heap.get?_none_of_le (Nat.le_trans I.ok.bsz I.ok.above)
theorem Inv.stkSub (I:Inv X pins σ H s):∀ b∈frs X.stack,b∈X.env.locals::X.fs:=fun b hb=>by
 rcases I.ok.stk with e | ⟨e,hf⟩
 ·rw [e] at hb; exact List.mem_cons_of_mem _ hb
 ·rw [e] at hb
  unfold frs at hb
  rw [List.filterMap_cons,hf] at hb
  exact hb
theorem Inv.stkFree (I:Inv X pins σ H s):∀ b∈frs X.stack,H b=none:=fun b hb=>by
 rcases List.mem_cons.mp (I.stkSub b hb) with e | hb
 ·rw [e]; exact I.free
 ·obtain ⟨_,o,ho,_⟩:=I.ok.funs.mem hb
  exact I.base.free b o ho (I.ok.frf b hb) fun z=>I.ok.exfs b z hb
theorem Inv.step {g':Array GenState} {t':Nat} {d':Drawn} {ch:List Addr} (I:Inv X pins σ H s)
  (hch:∀ b∈ch,(b∈X.ex∨X.s₀.heap.objs.size≤b)∧b≠X.env.locals∧(∀ x c,X.env.cells.lookup x=some c→c≠b)∧∀ p∈X.pn++pins,p.1≠b)
  (keep:∀ b o,b≠X.env.locals→b∉X.fs→b∉ch→s.heap.get? b=some o→H b=none→h'.get? b=some o)
  (slot:∀ b o,b≠X.env.locals→b∈X.fs→b∉ch→s.heap.get? b=some o→H b=none→∃ sl,h'.get? b=some { o with slots:=sl }) (free:∀ b o,b∉ch→s.heap.get? b=some o→H b=none→H' b=none)
  (there:∀ b o,b∉ch→s.heap.get? b=some o→∃ o',h'.get? b=some o')
  (tups:∀ b xs,H b=some (.tup xs)→H' b=some (.tup xs)) (frzs:∀ b o u,H b=some (.frz o u)→H' b=some (.frz o u)) (tbls:∀ b ps,H b=some (.tbl ps)→∃ more,H' b=some (.tbl (ps++more)))
  (ns:∀ m,s.heap.Ns X.env.locals m→h'.Ns X.env.locals m) (hok:HOk X.prog X.w H' h') (hg:AllBare g') :
  Inv X pins σ H' { s with heap:=h',gens:=g',drawn:=d',toks:=t' }:=by
 have neL:∀ b o,X.s₀.heap.get? b=some o→b≠X.env.locals:=fun b o e=>Nat.ne_of_lt (Nat.lt_of_lt_of_le (Heap.lt_size e) I.ok.above)
 have neC:∀ b o,X.s₀.heap.get? b=some o→b∉X.ex→b∉ch:=fun b o e hx hb=>by
  rcases (hch b hb).1 with z | z
  ·exact hx z
  ·exact absurd (Nat.lt_of_lt_of_le (Heap.lt_size e) z) (Nat.lt_irrefl _)
 have cellK:∀ x c,X.env.cells.lookup x=some c→∀ v,s.heap.IsCell c v→h'.IsCell c v:=fun x c e v ⟨o,ho,hd⟩=>by
  have nch:c∉ch:=fun z=>(hch c z).2.2.1 x c e rfl
  by_cases hc:c∈X.fs
  ·obtain ⟨sl,q⟩:=slot c o (I.cne x c e) hc nch ho (I.freeC x c e)
   exact ⟨_,q,hd⟩
  ·exact ⟨o,keep c o (I.cne x c e) hc nch ho (I.freeC x c e),hd⟩
 refine ⟨I.ok,I.os,hg,⟨fun b o e n hb hx=>?_,fun b o e n hb hx=>?_,fun b o e n hx=>?_,fun b o e hx=>?_,fun b xs e=>tups b xs (I.base.tups b xs e),fun b o xs e=>frzs b o xs (I.base.frzs b o xs e),fun b ps e=>?_⟩,?_,fun x c e=>?_,?_,fun x c e=>?_,fun p hp=>?_,hok,I.len⟩
 ·exact keep b o (neL b o e) hb (neC b o e hx) (I.base.keep b o e n hb hx) (I.base.free b o e n hx)
 ·obtain ⟨sl,e1⟩:=I.base.slot b o e n hb hx
  obtain ⟨sl',e2⟩:=slot b _ (neL b o e) hb (neC b o e hx) e1 (I.base.free b o e n hx)
  exact ⟨sl',e2⟩
 ·obtain ⟨o',e1⟩:=I.base.there b o e hx
  exact free b o' (neC b o e hx) e1 (I.base.free b o e n hx)
 ·obtain ⟨o',e1⟩:=I.base.there b o e hx
  exact there b o' (neC b o e hx) e1
 ·obtain ⟨m1,e1⟩:=I.base.tbls b ps e
  obtain ⟨m2,e2⟩:=tbls b _ e1
  exact ⟨m1++m2,by rw [e2,Array.append_assoc]⟩
 ·obtain ⟨m,hn,hl⟩:=I.loc
  refine ⟨m,ns m hn,fun i x v e1 e2 e3=>?_⟩
  obtain ⟨u,r,l⟩:=hl i x v e1 e2 e3
  refine ⟨u,r,?_⟩
  rcases l with l | ⟨k,c,e,z⟩
  ·exact .inl l
  ·exact .inr ⟨k,c,e,cellK x c e _ z⟩
 ·obtain ⟨v,z⟩:=I.cell x c e
  exact ⟨v,cellK x c e v z⟩
 ·obtain ⟨m,⟨o,_,_,ho,_⟩,_⟩:=I.loc
  exact free _ o (fun z=>(hch _ z).2.1 rfl) ho I.free
 ·obtain ⟨v,o,ho,hd⟩:=I.cell x c e
  exact free c o (fun z=>(hch c z).2.2.1 x c e rfl) ho (I.freeC x c e)
 ·obtain ⟨e,n,ne,nf,d⟩:=I.pin p hp
  have nch:p.1∉ch:=fun z=>(hch p.1 z).2.2.2 p hp rfl
  exact ⟨keep p.1 p.2 ne nf nch e n,free p.1 p.2 nch e n,ne,nf,d⟩
theorem Inv.un {t':Nat} (I:Inv X pins σ H s) (u:Un X.fs [] H H' s.heap h') (hok:HOk X.prog X.w H' h'):Inv X pins σ H' { s with heap:=h',toks:=t' }:=by
 obtain ⟨m,⟨o,es,ep,ho,r⟩,_⟩:=id I.loc
 obtain ⟨sl,hL⟩:=u.any ho I.free (by simp)
 exact I.step (g':=s.gens) (d':=s.drawn) (ch:=[]) (fun _ z=>nomatch z) (fun b o _ hb _ e n=>u.keep b o e n hb (by simp)) (fun b o _ hb _ e n=>u.slot b o e n hb (by simp)) (fun b o _ e n=>u.free b o e n (by simp)) (fun b o _ e=>u.there b o e (by simp)) u.tups u.frzs u.tbls (fun m' hm=>by
  obtain ⟨o',es',ep',ho',r'⟩:=hm
  rw [ho] at ho'; cases ho'
  exact ⟨_,es',ep',hL,r'⟩) hok I.bare
theorem Inv.call {g':Array GenState} {t':Nat} {d':Drawn} {ch:List Addr} (I:Inv X pins σ H s) (u:Un (frs X.stack) ch H H' s.heap h') (hok:HOk X.prog X.w H' h') (hg:AllBare g')
  (hch:∀ b∈ch,(b∈X.ex∨X.s₀.heap.objs.size≤b)∧b≠X.env.locals∧(∀ x c,X.env.cells.lookup x=some c→c≠b)∧∀ p∈X.pn++pins,p.1≠b) :
  Inv X pins σ H' { s with heap:=h',gens:=g',drawn:=d',toks:=t' }:=by
 obtain ⟨m,⟨o,es,ep,ho,r⟩,_⟩:=id I.loc
 obtain ⟨sl,hL⟩:=u.any ho I.free fun z=>(hch _ z).2.1 rfl
 exact I.step (ch:=ch) hch (fun b o hL hb hc e n=>u.keep b o e n (fun z=>(List.mem_cons.mp (I.stkSub b z)).elim hL hb) hc) (fun b o _ _ hc e n=>u.any e n hc) (fun b o hc e n=>u.free b o e n hc) (fun b o hc e=>u.there b o e hc) u.tups u.frzs u.tbls (fun m' hm=>by
  obtain ⟨o',es',ep',ho',r'⟩:=hm
  rw [ho] at ho'; cases ho'
  exact ⟨_,es',ep',hL,r'⟩) hok hg
theorem Inv.turned {t':Nat} {it:Addr} (I:Inv X pins σ H s) (k:∀ b o,b≠it→s.heap.get? b=some o→h'.get? b=some o) (hn:H it=none) (hL:it≠X.env.locals)
  (h1:it∈X.ex∨X.s₀.heap.objs.size≤it) (h2:∀ x c,X.env.cells.lookup x=some c→c≠it) (h3:∀ p∈X.pn++pins,p.1≠it):Inv X pins σ H { s with heap:=h',toks:=t' }:=by
 have nit:∀ b u,H b=some u→b≠it:=fun b u e z=>by rw [z,hn] at e; cases e
 refine I.step (g':=s.gens) (d':=s.drawn) (ch:=[it]) (fun b hb=>?_) (fun b o _ _ hc e _=>k b o (fun z=>hc (by simp [z])) e) (fun b o _ _ hc e _=>⟨o.slots,k b o (fun z=>hc (by simp [z])) e⟩) (fun _ _ _ _ n=>n)
  (fun b o hc e=>⟨o,k b o (fun z=>hc (by simp [z])) e⟩) (fun _ _ e=>e) (fun _ _ _ e=>e) (fun b ps e=>⟨#[],by rw [e]; simp⟩) (fun m hm=>?_) (fun b u e=>?_) I.bare
 ·have e:b=it:=by simpa using hb
  subst e
  exact ⟨h1,hL,h2,h3⟩
 ·obtain ⟨o,es,ep,ho,r⟩:=hm
  exact ⟨o,es,ep,k _ o (Ne.symm hL) ho,r⟩
 ·refine (I.hok b u e).stay (fun c v hc q=>k c v ?_ q) (fun _ q=>q) fun _ _ q=>q
  rcases hc with z | z
  ·rw [z]; exact nit b u e
  ·exact nit c _ z
theorem Inv.tok (I:Inv X pins σ H s) (t:Nat):Inv X pins σ H { s with toks:=t }:=I.un (h':=s.heap) (t':=t) Un.refl I.hok
theorem Inv.kept {t':Nat} (I:Inv X pins σ H s) (k:∀ b u,s.heap.get? b=some u→h'.get? b=some u):Inv X pins σ H { s with heap:=h',toks:=t' }:=I.un (Un.kept k) (I.hok.kept k)
theorem Inv.laid {a:Addr} {o:HO} {t':Nat} (I:Inv X pins σ H s) (k:∀ b u,s.heap.get? b=some u→h'.get? b=some u) (hp:s.heap.objs.size≤a) (new:ObjOk X.prog X.w (upd H a o) h' a o) :
  Inv X pins σ (upd H a o) { s with heap:=h',toks:=t' }:=I.un (Un.laid k hp (I.hok.fresh hp)) (I.hok.laid k hp new)
theorem Inv.write {x e:Addr} {o:HO} {t':Nat} (I:Inv X pins σ H s) (mu:Mut (H x)) (he:e=x∨H e=some (.own x)) (k:∀ b u,b≠e→s.heap.get? b=some u→h'.get? b=some u) (heo:∃ u,h'.get? e=some u)
  (new:ObjOk X.prog X.w (upd H x o) h' x o):Inv X pins σ (upd H x o) { s with heap:=h',toks:=t' }:=I.un (Un.write mu he k heo) (I.hok.write mu he k heo new)
theorem Inv.weak {σ':List (Option V)} (I:Inv X pins σ H s) (hl:σ'.length=σ.length) (w:∀ (i:Nat) v,σ'[i]? = some (some v)→σ[i]? = some (some v)):Inv X pins σ' H s:=
 ⟨I.ok,I.os,I.bare,I.base,let ⟨m,hn,hl'⟩:=I.loc; ⟨m,hn,fun i x v e1 e2 e3=>hl' i x v e1 (w i v e2) e3⟩,I.cell,I.free,I.freeC,I.pin,I.hok,hl.trans I.len⟩
theorem Inv.pins_of {pins':List (Addr×Obj)} (I:Inv X pins σ H s) (h:∀ p∈pins',s.heap.get? p.1=some p.2∧H p.1=none∧p.1≠X.env.locals∧p.1∉X.fs∧∀ v,p.2.data≠.cell v):Inv X pins' σ H s:=
 ⟨I.ok,I.os,I.bare,I.base,I.loc,I.cell,I.free,I.freeC,fun p hp=>(List.mem_append.mp hp).elim (fun z=>I.pin p (List.mem_append_left _ z)) (h p),I.hok,I.len⟩
theorem nodup_ix {N:List Str} (hN:N.Nodup) {i j:Nat} {x:Str} (a:N[i]? = some x) (b:N[j]? = some x):i=j:=by
 obtain ⟨h1,e1⟩:=List.getElem?_eq_some_iff.mp a
 obtain ⟨h2,e2⟩:=List.getElem?_eq_some_iff.mp b
 exact (List.getElem_inj hN).mp (e1.trans e2.symm)
theorem store_ok2 {M:Model} {A:Around} {E:Value→Shared→Prop} {i:Nat} {x:Str} {v:V} {u:Value} {Q:Unit→Shared→Prop} (I:Inv X pins σ H s) (hN:X.N.Nodup) (hi:X.N[i]? = some x) (hx:Loc X.env.scope x) (r:RelV v u)
  (h:∀ s',Inv X pins (σ.set i (some v)) H s'→(∃ a,Heap.SameBut a s.heap s'.heap∧(a=X.env.locals∨X.env.cells.lookup x=some a))→Q () s') (hf:X.fn x=true∨X.env.scope.names.lookup x=some .local:=by first | exact .inl rfl | exact .inr rfl | assumption):wpAny M A (storeName X.env x u) Q E s:=by
 obtain ⟨m,hn,hl⟩:=id I.loc
 have hcls:(X.env.scope.kind == .class || (X.env.scope.kind == .module && X.env.locals != X.env.globals))=false:=by rw [I.ok.kind]; rfl
 have hiσ:i < σ.length:=by rw [I.len]; exact (List.getElem?_eq_some_iff.mp hi).1
 have cne:=I.cne
 have tracked:∀ {a:Addr} {h':Heap},(∃ o,s.heap.get? a=some o∧H a=none)→Heap.SameBut a s.heap h'→HOk X.prog X.w H h':=fun {a h'} ha hs b ob e=>by
  obtain ⟨_,_,hfree⟩:=ha
  refine (I.hok b ob e).stay (fun c w' hc q=>(hs.2 c ?_).trans q) (fun _ q=>q) fun _ _ q=>q
  rintro rfl
  rcases hc with rfl | hc
  ·rw [hfree] at e; cases e
  ·rw [hfree] at hc; cases hc
 rcases hx with hk | hk
 ·refine wpAny_storeName_local hk hn (fun h' hn' hs=>?_) hcls
  obtain ⟨oL,_,_,hoL,_⟩:=id hn
  refine h _ ⟨I.ok,I.os,I.bare,⟨fun b o e n hb hx=>?_,fun b o e n hb hx=>?_,I.base.free,fun b o e hx=>?_,I.base.tups,I.base.frzs,I.base.tbls⟩,⟨_,hn',fun j y v' e1 e2 e3=>?_⟩,fun y c e=>?_,I.free,I.freeC,fun p hp=>?_,tracked ⟨oL,hoL,I.free⟩ hs,by simpa using I.len⟩ ⟨_,hs,.inl rfl⟩
  ·exact (hs.2 b (Nat.ne_of_lt (Nat.lt_of_lt_of_le (Heap.lt_size e) I.ok.above))).trans (I.base.keep b o e n hb hx)
  ·obtain ⟨sl,e1⟩:=I.base.slot b o e n hb hx
   exact ⟨sl,(hs.2 b (Nat.ne_of_lt (Nat.lt_of_lt_of_le (Heap.lt_size e) I.ok.above))).trans e1⟩
  ·obtain ⟨o',e1⟩:=I.base.there b o e hx
   exact ⟨o',(hs.2 b (Nat.ne_of_lt (Nat.lt_of_lt_of_le (Heap.lt_size e) I.ok.above))).trans e1⟩
  ·by_cases hj:j=i
   ·subst hj
    rw [hi] at e1; cases e1
    rw [List.getElem?_set_self hiσ] at e2
    cases e2
    exact ⟨u,r,.inl ⟨hk,by simp⟩⟩
   ·rw [List.getElem?_set_ne (Ne.symm hj)] at e2
    obtain ⟨u',r',q⟩:=hl j y v' e1 e2 e3
    refine ⟨u',r',?_⟩
    rcases q with ⟨k,e⟩ | ⟨k,c,e,z⟩
    ·refine .inl ⟨k,?_⟩
     have:y≠x:=fun e=>hj (nodup_ix hN e1 (e ▸ hi))
     simp [this,e]
    ·exact .inr ⟨k,c,e,z.sameBut hs (cne y c e)⟩
  ·obtain ⟨w',z⟩:=I.cell y c e
   exact ⟨w',z.sameBut hs (cne y c e)⟩
  ·obtain ⟨e,n,ne,nf,d⟩:=I.pin p hp
   exact ⟨(hs.2 p.1 ne).trans e,n,ne,nf,d⟩
 ·have hfn:X.fn x=true:=by
   rcases hf with z | z
   ·exact z
   ·rw [z] at hk; cases hk
  obtain ⟨c,hc⟩:=I.ok.has x (.inl hk)
  obtain ⟨w',z⟩:=I.cell x c hc
  refine wpAny_storeName_cell I.ok.kind hk hc z (fun h' hc' hs=>?_)
  obtain ⟨oc,hoc,hocd⟩:=id z
  refine h { s with heap:=h' } ⟨I.ok,I.os,I.bare,⟨fun b o e n hb hx=>?_,fun b o e n hb hx=>?_,I.base.free,fun b o e hx=>?_,I.base.tups,I.base.frzs,I.base.tbls⟩,⟨m,hn.sameBut hs (Ne.symm (cne x c hc)),fun j y v' e1 e2 e3=>?_⟩,fun y c' e=>?_,I.free,I.freeC,fun p hp=>?_,tracked ⟨oc,hoc,I.freeC x c hc⟩ hs,by simpa using I.len⟩ ⟨c,hs,.inr hc⟩
  ·exact (hs.2 b (Nat.ne_of_lt (Nat.lt_of_lt_of_le (Heap.lt_size e) (I.ok.cab x c hfn hc)))).trans (I.base.keep b o e n hb hx)
  ·obtain ⟨sl,e1⟩:=I.base.slot b o e n hb hx
   exact ⟨sl,(hs.2 b (Nat.ne_of_lt (Nat.lt_of_lt_of_le (Heap.lt_size e) (I.ok.cab x c hfn hc)))).trans e1⟩
  ·obtain ⟨o',e1⟩:=I.base.there b o e hx
   exact ⟨o',(hs.2 b (Nat.ne_of_lt (Nat.lt_of_lt_of_le (Heap.lt_size e) (I.ok.cab x c hfn hc)))).trans e1⟩
  ·by_cases hj:j=i
   ·subst hj
    rw [hi] at e1; cases e1
    rw [List.getElem?_set_self hiσ] at e2
    cases e2
    exact ⟨u,r,.inr ⟨.inl hk,c,hc,hc'⟩⟩
   ·rw [List.getElem?_set_ne (Ne.symm hj)] at e2
    obtain ⟨u',r',q⟩:=hl j y v' e1 e2 e3
    refine ⟨u',r',?_⟩
    rcases q with q | ⟨k,c',e,z'⟩
    ·exact .inl q
    ·refine .inr ⟨k,c',e,z'.sameBut hs ?_⟩
     rintro rfl
     exact hj (nodup_ix hN e1 (I.ok.inj _ _ _ e hc ▸ hi))
  ·by_cases hcc:c'=c
   ·subst hcc; exact ⟨_,hc'⟩
   ·obtain ⟨w2,z2⟩:=I.cell y c' e
    exact ⟨w2,z2.sameBut hs hcc⟩
  ·obtain ⟨e,n,ne,nf,d⟩:=I.pin p hp
   refine ⟨(hs.2 p.1 ?_).trans e,n,ne,nf,d⟩
   intro q
   rw [q,hoc] at e
   have q':oc=p.2:=Option.some.inj e
   exact d w' (by rw [← q']; exact hocd)
theorem store_ok {M:Model} {A:Around} {E:Value→Shared→Prop} {i:Nat} {x:Str} {v:V} {u:Value} {Q:Unit→Shared→Prop} (I:Inv X pins σ H s) (hN:X.N.Nodup) (hi:X.N[i]? = some x) (hx:Loc X.env.scope x) (r:RelV v u)
  (h:∀ s',Inv X pins (σ.set i (some v)) H s'→Q () s') (hf:X.fn x=true∨X.env.scope.names.lookup x=some .local:=by first | exact .inl rfl | exact .inr rfl | assumption):wpAny M A (storeName X.env x u) Q E s:=
 store_ok2 I hN hi hx r (fun s' I' _=>h s' I') hf
theorem Inv.call' {s':Shared} {ch:List Addr} (I:Inv X pins σ H s) (ho:s'.os=s.os) (u:Un (frs X.stack) ch H H' s.heap s'.heap) (hok:HOk X.prog X.w H' s'.heap) (hg:AllBare s'.gens)
  (hch:∀ b∈ch,(b∈X.ex∨X.s₀.heap.objs.size≤b)∧b≠X.env.locals∧(∀ x c,X.env.cells.lookup x=some c→c≠b)∧∀ p∈X.pn++pins,p.1≠b):Inv X pins σ H' s':=by
 obtain ⟨h',g',d',t',o'⟩:=s'
 have e:o'=s.os:=ho
 subst e
 exact I.call (g':=g') (t':=t') (d':=d') u hok hg hch
end
abbrev XK:=Value→Option Addr→Hp→Prop
abbrev St:=List (Option V)
abbrev VK:=V→Hp→Prop
abbrev TE:=St→Hp→VK→Prop
abbrev TT:=St→Hp→(Bool→Hp→Prop)→Prop
abbrev TA:=St→Hp→(List V→Hp→Prop)→Prop
structure Ends where
 nx:St→Hp→Prop
 rt:VK
 bk:St→Hp→Prop:=fun _ _=>False
 ct:St→Hp→Prop:=fun _ _=>False
abbrev TS:=Ends→St→Hp→Prop
def EP (X:Cx) (pins:List (Addr×Obj)) (σ:St) (Q:VK) (u:Value) (s':Shared):Prop:=∃ v H',Inv X pins σ H' s'∧RelV v u∧Q v H'
def TP (X:Cx) (pins:List (Addr×Obj)) (σ:St) (Q:Bool→Hp→Prop) (b:Bool) (s':Shared):Prop:=∃ H',Inv X pins σ H' s'∧Q b H'
def AP (X:Cx) (pins:List (Addr×Obj)) (σ:St) (Q:List V→Hp→Prop) (us:List Value) (s':Shared):Prop:=∃ vs H',Inv X pins σ H' s'∧Vals vs us∧Q vs H'
def SP (X:Cx) (pins:List (Addr×Obj)) (D:Ends) (f:Flow) (s':Shared):Prop:=
 match f with
 | .next=>∃ σ' H',Inv X pins σ' H' s'∧D.nx σ' H'
 | .brk=>∃ σ' H',Inv X pins σ' H' s'∧D.bk σ' H'
 | .cont=>∃ σ' H',Inv X pins σ' H' s'∧D.ct σ' H'
 | .ret u=>∃ v σ' H',Inv X pins σ' H' s'∧RelV v u∧D.rt v H'
structure PE (X:Cx) (e:Expr) (t:TE):Prop where
 run:∀ (pins:List (Addr×Obj)) (s:Shared) (σ:St) (H:Hp) (Q:VK),Inv X pins σ H s→t σ H Q→wpAny (model X.prog X.w) X.A (eval e X.env) (EP X pins σ Q) X.xe s
instance {X:Cx} {e:Expr} {t:TE}:CoeFun (PE X e t) fun _=>∀ (pins:List (Addr×Obj)) (s:Shared) (σ:St) (H:Hp) (Q:VK),Inv X pins σ H s→t σ H Q→wpAny (model X.prog X.w) X.A (eval e X.env) (EP X pins σ Q) X.xe s:=⟨PE.run⟩
structure PT (X:Cx) (e:Expr) (t:TT):Prop where
 run:∀ (pins:List (Addr×Obj)) (s:Shared) (σ:St) (H:Hp) (Q:Bool→Hp→Prop),Inv X pins σ H s→t σ H Q→wpAny (model X.prog X.w) X.A (isTrue e X.env (eval e X.env)) (TP X pins σ Q) X.xe s
instance {X:Cx} {e:Expr} {t:TT}:CoeFun (PT X e t) fun _=>∀ (pins:List (Addr×Obj)) (s:Shared) (σ:St) (H:Hp) (Q:Bool→Hp→Prop),Inv X pins σ H s→t σ H Q→wpAny (model X.prog X.w) X.A (isTrue e X.env (eval e X.env)) (TP X pins σ Q) X.xe s:=⟨PT.run⟩
structure PW (X:Cx) (e:Expr) (t:TT):Prop where
 run:∀ (whole:Sem Value) (pins:List (Addr×Obj)) (s:Shared) (σ:St) (H:Hp) (Q:Bool→Hp→Prop),Inv X pins σ H s→t σ H Q→wpAny (model X.prog X.w) X.A (isTrue e X.env whole) (TP X pins σ Q) X.xe s
instance {X:Cx} {e:Expr} {t:TT}:CoeFun (PW X e t) fun _=>∀ (whole:Sem Value) (pins:List (Addr×Obj)) (s:Shared) (σ:St) (H:Hp) (Q:Bool→Hp→Prop),Inv X pins σ H s→t σ H Q→wpAny (model X.prog X.w) X.A (isTrue e X.env whole) (TP X pins σ Q) X.xe s:=⟨PW.run⟩
theorem PW.pt {X:Cx} {e:Expr} {t:TT} (h:PW X e t):PT X e t:=⟨h.run _⟩
structure PA (X:Cx) (es:List Expr) (t:TA):Prop where
 run:∀ (pos:Pos) (pins:List (Addr×Obj)) (s:Shared) (σ:St) (H:Hp) (Q:List V→Hp→Prop),Inv X pins σ H s→t σ H Q→wpAny (model X.prog X.w) X.A (spliced (backTo pos (starEach es X.env))) (AP X pins σ Q) X.xe s
instance {X:Cx} {es:List Expr} {t:TA}:CoeFun (PA X es t) fun _=>∀ (pos:Pos) (pins:List (Addr×Obj)) (s:Shared) (σ:St) (H:Hp) (Q:List V→Hp→Prop),Inv X pins σ H s→t σ H Q→wpAny (model X.prog X.w) X.A (spliced (backTo pos (starEach es X.env))) (AP X pins σ Q) X.xe s:=⟨PA.run⟩
structure PS (X:Cx) (st:Stmt) (t:TS):Prop where
 run:∀ (pins:List (Addr×Obj)) (s:Shared) (σ:St) (H:Hp) (D:Ends),Inv X pins σ H s→t D σ H→wpAny (model X.prog X.w) X.A (exec st X.env) (SP X pins D) X.xe s
instance {X:Cx} {st:Stmt} {t:TS}:CoeFun (PS X st t) fun _=>∀ (pins:List (Addr×Obj)) (s:Shared) (σ:St) (H:Hp) (D:Ends),Inv X pins σ H s→t D σ H→wpAny (model X.prog X.w) X.A (exec st X.env) (SP X pins D) X.xe s:=⟨PS.run⟩
structure PSs (X:Cx) (st:List Stmt) (t:TS):Prop where
 run:∀ (pins:List (Addr×Obj)) (s:Shared) (σ:St) (H:Hp) (D:Ends),Inv X pins σ H s→t D σ H→wpAny (model X.prog X.w) X.A (execs st X.env) (SP X pins D) X.xe s
instance {X:Cx} {st:List Stmt} {t:TS}:CoeFun (PSs X st t) fun _=>∀ (pins:List (Addr×Obj)) (s:Shared) (σ:St) (H:Hp) (D:Ends),Inv X pins σ H s→t D σ H→wpAny (model X.prog X.w) X.A (execs st X.env) (SP X pins D) X.xe s:=⟨PSs.run⟩
theorem thn {α:Type} {t:Sem α} {Q Q':α→Shared→Prop} {M:Model} {A:Around} {E:Value→Shared→Prop} {s:Shared} (h:wpAny M A t Q E s) (hQ:∀ a s,Q a s→Q' a s):wpAny M A t Q' E s:=wpAny_mono h hQ fun _ _ x=>x
section
variable {X:Cx}
def tVar (i:Nat):TE:=fun σ H Q=>∃ v,σ[i]? = some (some v)∧Q v H
def tC (v:V):TE:=fun _ H Q=>Q v H
theorem pe_var {i:Nat} {x:Str} {pos:Pos} (hN:X.N[i]? = some x) (hv:Vis X.env.scope x) (hd:(x == ("__debug__" : Str))=false:=by decide) (hcd:(x == ("__classdict__" : Str))=false:=by decide):PE X (.Name x pos) (tVar i):=by
 refine .mk ?_
 intro pins s σ H Q I h
 obtain ⟨v,e,h⟩:=h
 obtain ⟨m,hn,hl⟩:=I.loc
 obtain ⟨u,r,l⟩:=hl i x v hN e hv
 have fin:EP X pins σ Q u s:=⟨v,H,I,r,h⟩
 rcases l with ⟨hk,hm⟩ | ⟨hk,c,hc,hcell⟩
 ·exact wpAny_Name (wpAny_loadName_local I.ok.kind hk hn hm fin) hd
 ·rcases hk with hk | hk
  ·exact wpAny_Name (wpAny_loadName_cell I.ok.kind hk hc hcell fin) hd
  ·exact wpAny_Name (wpAny_loadName_free I.ok.kind hk hc hcell fin hcd) hd
theorem pe_int {i j pos}:PE X (.Constant (.int i) j pos) (tC (.int i)):=.mk fun _ _ _ H _ I h=>wpAny_Constant_int ⟨.int i,H,I.tok _,⟨_,rfl⟩,h⟩
theorem pe_bl {b j pos}:PE X (.Constant (.bool b) j pos) (tC (.bl b)):=.mk fun _ _ _ H _ I h=>Constant_bool ⟨.bl b,H,I,rfl,h⟩
theorem pe_str {x j pos}:PE X (.Constant (.str x) j pos) (tC (.str x)):=.mk fun _ _ _ H _ I h=>Calls.Constant_str ⟨.str x,H,I.tok _,⟨_,rfl⟩,h⟩
def Gl (X:Cx) (x:Str):Prop:=X.env.kindOf x=some .globalImplicit
theorem ld_glob {E:Value→Shared→Prop} {pins:List (Addr×Obj)} {s:Shared} {σ:St} {H:Hp} {x:Str} {u:Value} {pos:Pos} {Q:Value→Shared→Prop} (I:Inv X pins σ H s) (hg:Gl X x) (hm:X.mg x=some u) (h:Q u s)
  (hd:(x == ("__debug__" : Str))=false:=by decide):wpAny (model X.prog X.w) X.A (eval (.Name x pos) X.env) Q E s:=
 Calls.Name_function_global I.ok.kind hg (Calls.loadGlobal_global (by rw [I.ok.glob]; exact I.mod.glob.keeps I.bk) hm h) hd
theorem ld_blt {E:Value→Shared→Prop} {pins:List (Addr×Obj)} {s:Shared} {σ:St} {H:Hp} {x:Str} {u:Value} {pos:Pos} {Q:Value→Shared→Prop} (I:Inv X pins σ H s) (hg:Gl X x) (hm:X.mg x=none) (hv:bootBuiltins x=some u) (h:Q u s)
  (hn:x ≠ "__name__" := by decide) (hd:(x == ("__debug__" : Str))=false:=by decide):wpAny (model X.prog X.w) X.A (eval (.Name x pos) X.env) Q E s:=by
 obtain ⟨mb,h1,h2⟩:=I.mod.blt
 exact Calls.Name_function_global I.ok.kind hg (Calls.loadGlobal_builtin (by rw [I.ok.glob]; exact I.mod.glob.keeps I.bk) hm (by rw [I.ok.blt]; exact h1.keeps I.bk) ((h2 x hn).trans hv) h) hd
theorem pe_glob {x:Str} {v:V} {u:Value} {pos:Pos} (hg:Gl X x) (hm:X.mg x=some u) (r:RelV v u) (hd:(x == ("__debug__" : Str))=false:=by decide):PE X (.Name x pos) (tC v):=
 .mk fun _ _ _ H _ I h=>ld_glob I hg hm ⟨v,H,I,r,h⟩ hd
theorem pe_bltn {x:Str} {v:V} {u:Value} {pos:Pos} (hg:Gl X x) (hm:X.mg x=none) (hv:bootBuiltins x=some u) (r:RelV v u) (hn:x ≠ "__name__" := by decide) (hd:(x == ("__debug__" : Str))=false:=by decide):PE X (.Name x pos) (tC v):=
 .mk fun _ _ _ H _ I h=>ld_blt I hg hm hv ⟨v,H,I,r,h⟩ hn hd
variable {a b:Expr} {ta tb:TE} {pos:Pos}
structure PC (X:Cx) (op:CmpOp) (a b:Expr) (t:TE):Prop where
 run:∀ (pins:List (Addr×Obj)) (s:Shared) (σ:St) (H:Hp) (Q:VK),Inv X pins σ H s→t σ H Q →
  wpAny (model X.prog X.w) X.A (eval a X.env) (fun v s₁=>wpAny (model X.prog X.w) X.A (eval b X.env) (fun u s₂=>wpAny (model X.prog X.w) X.A (compareOp op v u) (EP X pins σ Q) X.xe s₂) X.xe s₁) X.xe s
instance {X:Cx} {op:CmpOp} {a b:Expr} {t:TE}:CoeFun (PC X op a b t) fun _=>∀ (pins:List (Addr×Obj)) (s:Shared) (σ:St) (H:Hp) (Q:VK),Inv X pins σ H s→t σ H Q→wpAny (model X.prog X.w) X.A (eval a X.env) (fun v s₁=>wpAny (model X.prog X.w) X.A (eval b X.env) (fun u s₂=>wpAny (model X.prog X.w) X.A (compareOp op v u) (EP X pins σ Q) X.xe s₂) X.xe s₁) X.xe s:=⟨PC.run⟩
def tB (t:TE):TT:=fun σ H Q=>t σ H fun x H1=>∃ c,x=.bl c∧Q c H1
theorem pt_val {e:Expr} {t:TE} (h:PE X e t) (he:∀ whole,isTrue e X.env whole=(do let v ← whole; standAt e.pos; holding [v] (truthy v)):=by intro _; rfl):PT X e (tB t):=by
 refine .mk ?_
 intro pins s σ H Q I hw
 refine isTrue_plain (thn (h pins s σ H _ I hw) fun v s1 ⟨x,H1,I1,r1,q1⟩=>?_) (he _)
 obtain ⟨d,rfl,q⟩:=q1
 cases r1
 exact wpAny_truthy_bool ⟨H1,I1,q⟩
variable {tA tB':TT} {rest:List Expr}
def tAnd (t u:TT):TT:=fun σ H Q=>t σ H fun c H1=>if c=true then u σ H1 Q else Q false H1
def tOr (t u:TT):TT:=fun σ H Q=>t σ H fun c H1=>if c=true then Q true H1 else u σ H1 Q
def tNot (t:TT):TT:=fun σ H Q=>t σ H fun c H1=>Q (!c) H1
theorem pw_and1 (ha:PT X a tA):PW X (.BoolOp .And [a] pos) tA:=by
 refine .mk ?_
 intro wh pins s σ H Q I h
 refine isTrue_and (thn (ha pins s σ H Q I h) fun c s1 e=>?_)
 cases c with
 | true=>exact isTrue_and_nil e
 | false=>exact e
theorem pw_or1 (ha:PT X a tA):PW X (.BoolOp .Or [a] pos) tA:=by
 refine .mk ?_
 intro wh pins s σ H Q I h
 refine isTrue_or (thn (ha pins s σ H Q I h) fun c s1 e=>?_)
 cases c with
 | false=>exact isTrue_or_nil e
 | true=>exact e
theorem pw_and (ha:PT X a tA) (hb:PW X (.BoolOp .And (b::rest) pos) tB'):PW X (.BoolOp .And (a::b::rest) pos) (tAnd tA tB'):=by
 refine .mk ?_
 intro wh pins s σ H Q I h
 refine isTrue_and (thn (ha pins s σ H _ I h) fun c s1 ⟨H1,I1,q1⟩=>?_)
 cases c with
 | true=>exact hb wh pins s1 σ H1 Q I1 q1
 | false=>exact ⟨H1,I1,q1⟩
theorem pw_or (ha:PT X a tA) (hb:PW X (.BoolOp .Or (b::rest) pos) tB'):PW X (.BoolOp .Or (a::b::rest) pos) (tOr tA tB'):=by
 refine .mk ?_
 intro wh pins s σ H Q I h
 refine isTrue_or (thn (ha pins s σ H _ I h) fun c s1 ⟨H1,I1,q1⟩=>?_)
 cases c with
 | true=>exact ⟨H1,I1,q1⟩
 | false=>exact hb wh pins s1 σ H1 Q I1 q1
theorem pt_not (ha:PT X a tA):PT X (.UnaryOp .Not a pos) (tNot tA):=by
 refine .mk ?_
 intro pins s σ H Q I h
 exact isTrue_not (ha pins s σ H (fun c H1=>Q (!c) H1) I h)
def tIf (t:TT) (ta tb:TE):TE:=fun σ H Q=>t σ H fun c H1=>if c=true then ta σ H1 Q else tb σ H1 Q
theorem pe_ifExp {c:Expr} (hc:PT X c tA) (ha:PE X a ta) (hb:PE X b tb):PE X (.IfExp c a b pos) (tIf tA ta tb):=by
 refine .mk ?_
 intro pins s σ H Q I h
 refine wpAny_IfExp (thn (hc pins s σ H _ I h) fun d s1 ⟨H1,I1,q1⟩=>?_)
 cases d with
 | true=>exact ha pins s1 σ H1 Q I1 q1
 | false=>exact hb pins s1 σ H1 Q I1 q1
end
def SqL (K:PySem.W.Frag) (H:Hp) (a:Addr) (xs:List V):Prop:=
 Rd H a (.lst xs) ∨
  ∃ (o:Obj) (its:Array Value) (n:Nat),K.lookup a=some o∧o.cls=.type "list" ∧ o.dict=none∧o.data=.seq its n∧its.size≤sizeLine∧Vals xs its.toList
def SqT (K:PySem.W.Frag) (H:Hp) (a:Addr) (xs:List V):Prop:=
 Rd H a (.tup xs) ∨
  ∃ (o:Obj) (its:Array Value) (n:Nat),K.lookup a=some o∧o.cls=.type "tuple" ∧ o.data=.seq its n∧its.size≤sizeLine∧Vals xs its.toList
def absV:Value→Option V
 | .none=>some .non
 | .bool b=>some (.bl b)
 | .int i _=>some (.int i)
 | .str x _=>some (.str x)
 | .bytes b _=>some (.byt b)
 | .float b _=>some (.flt b)
 | .ref a=>some (.ref a)
 | .type n=>some (.ty n)
 | _=>none
theorem RelV.abs {x:V} {u:Value} (r:RelV x u):absV u=some x:=by
 cases x with
 | non=>cases r; rfl
 | bl _=>cases r; rfl
 | int _=>obtain ⟨t,rfl⟩:=r; rfl
 | str _=>obtain ⟨t,rfl⟩:=r; rfl
 | byt _=>obtain ⟨t,rfl⟩:=r; rfl
 | flt _=>obtain ⟨t,rfl⟩:=r; rfl
 | ref _=>cases r; rfl
 | ty _=>cases r; rfl
theorem RelV.inj {x y:V} {u:Value} (r:RelV x u) (q:RelV y u):x=y:=Option.some.inj (r.abs.symm.trans q.abs)
theorem Vals.inj:∀ {xs ys:List V} {us:List Value},Vals xs us→Vals ys us→xs=ys
 | _,_,_,.nil,.nil=>rfl
 | _,_,_,.cons r t,.cons r' t'=>by rw [r.inj r',Vals.inj t t']
section
variable {X:Cx} {pins:List (Addr×Obj)} {σ:St} {H:Hp} {s:Shared} {a:Addr} {xs ys:List V}
theorem SqL.of {K:PySem.W.Frag} (h:H a=some (.lst xs)):SqL K H a xs:=.inl (.inl h)
theorem SqT.of {K:PySem.W.Frag} (h:H a=some (.tup xs)):SqT K H a xs:=.inl (.inl h)
theorem Inv.list (I:Inv X pins σ H s) (h:SqL X.K H a xs):∃ its:List Value,Vals xs its∧PlainL s.heap a its.toArray∧xs.length≤sizeLine:=by
 rcases h with h | ⟨o,its,n,hk,hc,hd,hs,hz,r⟩
 ·obtain ⟨z,its,n,r,e⟩:=h.ok I.hok
  exact ⟨its,r,⟨_,n,e,rfl,rfl,rfl⟩,z⟩
 ·refine ⟨its.toList,r,⟨o,n,I.kIn a o hk,hc,hd,by simpa using hs⟩,?_⟩
  have e:=r.length
  simp only [Array.length_toList] at e
  omega
theorem Inv.tuple (I:Inv X pins σ H s) (h:SqT X.K H a xs):∃ its:List Value,Vals xs its∧IsTup s.heap a its.toArray∧xs.length≤sizeLine:=by
 rcases h with h | ⟨o,its,n,hk,hc,hs,hz,r⟩
 ·obtain ⟨z,its,r,p⟩:=h.ok I.hok
  exact ⟨its,r,p,z⟩
 ·refine ⟨its.toList,r,⟨o,I.kIn a o hk,hc,n,by simpa using hs⟩,?_⟩
  have e:=r.length
  simp only [Array.length_toList] at e
  omega
theorem Inv.list_inj (I:Inv X pins σ H s) (h:SqL X.K H a xs) (h':SqL X.K H a ys):xs=ys:=by
 obtain ⟨its,r,⟨o,n,e,_,_,d⟩,_⟩:=I.list h
 obtain ⟨its',r',⟨o',n',e',_,_,d'⟩,_⟩:=I.list h'
 rw [e] at e'; cases e'
 rw [d] at d'
 injection d' with d1 _
 have:its=its':=by simpa using congrArg Array.toList d1
 subst this
 exact r.inj r'
theorem Inv.tuple_inj (I:Inv X pins σ H s) (h:SqT X.K H a xs) (h':SqT X.K H a ys):xs=ys:=by
 obtain ⟨its,r,⟨o,e,_,n,d⟩,_⟩:=I.tuple h
 obtain ⟨its',r',⟨o',e',_,n',d'⟩,_⟩:=I.tuple h'
 rw [e] at e'; cases e'
 rw [d] at d'
 injection d' with d1 _
 have:its=its':=by simpa using congrArg Array.toList d1
 subst this
 exact r.inj r'
end
abbrev Cx.wish (X:Cx) (E:Value→Shared→Prop):Cx:={ X with xe:=E }
abbrev Cx.nox (X:Cx):Cx:=X.wish fun _ _=>False
theorem Cx.Ok.wish {X:Cx} (ok:X.Ok) (E:Value→Shared→Prop):(X.wish E).Ok:=
 ⟨ok.mod,ok.kind,ok.glob,ok.blt,ok.above,ok.inj,ok.has,ok.cab,ok.hd,ok.frames,ok.stk,ok.exf,ok.bs,ok.bsz,ok.noex,ok.exfs,ok.funs,ok.frf⟩
theorem Cx.Ok.unwish {X:Cx} {E:Value→Shared→Prop} (ok:(X.wish E).Ok):X.Ok:=
 ⟨ok.mod,ok.kind,ok.glob,ok.blt,ok.above,ok.inj,ok.has,ok.cab,ok.hd,ok.frames,ok.stk,ok.exf,ok.bs,ok.bsz,ok.noex,ok.exfs,ok.funs,ok.frf⟩
section
variable {X:Cx} {pins:List (Addr×Obj)} {σ:St} {H:Hp} {s:Shared} {E:Value→Shared→Prop}
theorem Inv.wish (I:Inv X pins σ H s) (E:Value→Shared→Prop):Inv (X.wish E) pins σ H s:=⟨I.ok.wish E,I.os,I.bare,I.base,I.loc,I.cell,I.free,I.freeC,I.pin,I.hok,I.len⟩
theorem Inv.unwish (I:Inv (X.wish E) pins σ H s):Inv X pins σ H s:=⟨I.ok.unwish,I.os,I.bare,I.base,I.loc,I.cell,I.free,I.freeC,I.pin,I.hok,I.len⟩
theorem SP.unwish {D:Ends} {f:Flow} {s':Shared} (h:SP (X.wish E) pins D f s'):SP X pins D f s':=by
 cases f with
 | next=>obtain ⟨σ',H',I,q⟩:=h; exact ⟨σ',H',I.unwish,q⟩
 | brk=>obtain ⟨σ',H',I,q⟩:=h; exact ⟨σ',H',I.unwish,q⟩
 | cont=>obtain ⟨σ',H',I,q⟩:=h; exact ⟨σ',H',I.unwish,q⟩
 | ret u=>obtain ⟨v,σ',H',I,r,q⟩:=h; exact ⟨v,σ',H',I.unwish,r,q⟩
theorem PE.nox {e:Expr} {t:TE} (h:PE X.nox e t):PE X e t:=.mk fun pins s σ H Q I hw=>
 wpAny_mono (h pins s σ H Q (I.wish _) hw) (fun _ _ ⟨v,H',I',r,q⟩=>⟨v,H',I'.unwish,r,q⟩) fun _ _ z=>False.elim z
theorem PT.nox {e:Expr} {t:TT} (h:PT X.nox e t):PT X e t:=.mk fun pins s σ H Q I hw=>
 wpAny_mono (h pins s σ H Q (I.wish _) hw) (fun _ _ ⟨H',I',q⟩=>⟨H',I'.unwish,q⟩) fun _ _ z=>False.elim z
theorem PSs.nox {st:List Stmt} {t:TS} (h:PSs X.nox st t):PSs X st t:=.mk fun pins s σ H D I hw=>
 wpAny_mono (h pins s σ H D (I.wish _) hw) (fun _ _ q=>q.unwish) fun _ _ z=>False.elim z
end
section
variable {X:Cx} {st:Stmt} {rest:List Stmt} {t u:TS} {e:Expr} {te:TE} {pos:Pos}
def tNext:TS:=fun D σ H=>D.nx σ H
def tSeq (t u:TS):TS:=fun D σ H=>t { D with nx:=u D } σ H
theorem pss_nil:PSs X [] tNext:=.mk fun _ _ σ H _ I h=>wpAny_execs_nil ⟨σ,H,I,h⟩
theorem pss_cons (h1:PS X st t) (h2:PSs X rest u):PSs X (st::rest) (tSeq t u):=by
 refine .mk ?_
 intro pins s σ H D I h
 refine wpAny_execs_cons (thn (h1 pins s σ H { D with nx:=u D } I h) fun f s1 q=>?_)
 cases f with
 | next=>
  obtain ⟨σ',H',I',q⟩:=q
  exact h2 pins s1 σ' H' D I' q
 | ret v=>exact q
 | brk=>exact q
 | cont=>exact q
theorem Inv.quiet {pins:List (Addr×Obj)} {σ:St} {H:Hp} {s:Shared} (I:Inv X pins σ H s):interactive X.env=false:=by simp [interactive,I.ok.kind]
def tDrop (te:TE):TS:=fun D σ H=>te σ H fun _ H1=>D.nx σ H1
theorem ps_expr (he:PE X e te) (hs:swapsWith e none pos.line X.env=pure false:=by rfl):PS X (.Expr e pos) (tDrop te):=by
 refine .mk ?_
 intro pins s σ H D I h
 exact wpAny_Expr_any (thn (he pins s σ H _ I h) fun v s1 ⟨x,H1,I1,r1,q1⟩=>⟨σ,H1,I1,q1⟩) I.quiet hs
def tRet (te:TE):TS:=fun D σ H=>te σ H D.rt
theorem ps_ret (he:PE X e te):PS X (.Return (some e) pos) (tRet te):=by
 refine .mk ?_
 intro pins s σ H D I h
 exact wpAny_Return_some (thn (he pins s σ H _ I h) fun v s1 ⟨x,H1,I1,r1,q1⟩=>⟨x,σ,H1,I1,r1,q1⟩)
def tIfS (c:TT) (t u:TS):TS:=fun D σ H=>c σ H fun b H1=>if b=true then t D σ H1 else u D σ H1
theorem ps_if {c:Expr} {a b:List Stmt} {tc:TT} (hc:PT X c tc) (ha:PSs X a t) (hb:PSs X b u):PS X (.If c a b pos) (tIfS tc t u):=by
 refine .mk ?_
 intro pins s σ H D I h
 refine wpAny_If (thn (hc pins s σ H _ I h) fun d s1 ⟨H1,I1,q1⟩=>?_)
 cases d with
 | true=>exact ha pins s1 σ H1 D I1 q1
 | false=>exact hb pins s1 σ H1 D I1 q1
end
abbrev TG:=V→St→Hp→(St→Hp→Prop)→Prop
abbrev TGs:=List V→St→Hp→(St→Hp→Prop)→Prop
structure PG (X:Cx) (target:Expr) (t:TG):Prop where
 run:∀ (pins:List (Addr×Obj)) (s:Shared) (σ:St) (H:Hp) (v:V) (u:Value) (Q:St→Hp→Prop),Inv X pins σ H s→RelV v u→t v σ H Q →
  wpAny (model X.prog X.w) X.A (assign target X.env u) (fun _ s'=>∃ σ' H',Inv X pins σ' H' s'∧Q σ' H') X.xe s
instance {X:Cx} {target:Expr} {t:TG}:CoeFun (PG X target t) fun _=>∀ (pins:List (Addr×Obj)) (s:Shared) (σ:St) (H:Hp) (v:V) (u:Value) (Q:St→Hp→Prop),Inv X pins σ H s→RelV v u→t v σ H Q→wpAny (model X.prog X.w) X.A (assign target X.env u) (fun _ s'=>∃ σ' H',Inv X pins σ' H' s'∧Q σ' H') X.xe s:=⟨PG.run⟩
structure PGs (X:Cx) (ts:List Expr) (t:TGs):Prop where
 run:∀ (pins:List (Addr×Obj)) (s:Shared) (σ:St) (H:Hp) (vs:List V) (us:List Value) (Q:St→Hp→Prop),Inv X pins σ H s→Vals vs us→t vs σ H Q →
  wpAny (model X.prog X.w) X.A (assignInOrder ((assignEach ts X.env).map (·.2)) us) (fun _ s'=>∃ σ' H',Inv X pins σ' H' s'∧Q σ' H') X.xe s
instance {X:Cx} {ts:List Expr} {t:TGs}:CoeFun (PGs X ts t) fun _=>∀ (pins:List (Addr×Obj)) (s:Shared) (σ:St) (H:Hp) (vs:List V) (us:List Value) (Q:St→Hp→Prop),Inv X pins σ H s→Vals vs us→t vs σ H Q→wpAny (model X.prog X.w) X.A (assignInOrder ((assignEach ts X.env).map (·.2)) us) (fun _ s'=>∃ σ' H',Inv X pins σ' H' s'∧Q σ' H') X.xe s:=⟨PGs.run⟩
abbrev TSet:=V→V→V→Hp→(Hp→Prop)→Prop
def PSet (X:Cx) (t:TSet):Prop:=
 ∀ (pins:List (Addr×Obj)) (s:Shared) (σ:St) (H:Hp) (o i v:V) (ov iv u:Value) (Q:Hp→Prop),Inv X pins σ H s→RelV o ov→RelV i iv→RelV v u→t o i v H Q →
  wpAny (model X.prog X.w) X.A (setItem ov iv u) (fun _ s'=>∃ H',Inv X pins σ H' s'∧Q H') X.xe s
section
variable {X:Cx} {pos:Pos}
def gName (i:Nat):TG:=fun v σ H Q=>Q (σ.set i (some v)) H
theorem pg_name {i:Nat} {x:Str} (hN:X.N.Nodup) (hi:X.N[i]? = some x) (hx:Loc X.env.scope x) (hf:X.fn x=true∨X.env.scope.names.lookup x=some .local:=by first | exact .inl rfl | exact .inr rfl | assumption):PG X (.Name x pos) (gName i):=by
 refine .mk ?_
 intro pins s σ H v u Q I r h
 exact wpAny_assign_Name (store_ok I hN hi hx r (fun s' I'=>⟨_,H,I',h⟩) hf)
def gNil:TGs:=fun vs σ H Q=>vs=[]∧Q σ H
def gCons (t:TG) (u:TGs):TGs:=fun vs σ H Q=>∃ v r,vs=v::r∧t v σ H fun σ' H'=>u r σ' H' Q
theorem pgs_nil:PGs X [] gNil:=by
 refine .mk ?_
 intro pins s σ H vs us Q I r h
 obtain ⟨e,h⟩:=h
 subst e
 cases r
 exact assignInOrder_nil ⟨σ,H,I,h⟩
theorem pgs_cons {e:Expr} {es:List Expr} {t:TG} {u:TGs} (h1:PG X e t) (h2:PGs X es u)
  (hs:(assignEach (e::es) X.env).map (·.2)=assign e X.env::(assignEach es X.env).map (·.2):=by rfl):PGs X (e::es) (gCons t u):=by
 refine .mk ?_
 intro pins s σ H vs us Q I r h
 obtain ⟨v,vr,e1,h⟩:=h
 subst e1
 cases r with
 | cons r rr=>
  rw [hs]
  refine assignInOrder_cons (thn (h1 pins s σ H _ _ _ I r h) fun _ s1 ⟨σ1,H1,I1,q1⟩=>?_)
  exact h2 pins s1 σ1 H1 _ _ Q I1 rr q1
def gTup (K:PySem.W.Frag) (n:Nat) (t:TGs):TG:=fun v σ H Q=>∃ a xs,v=.ref a∧SqT K H a xs∧xs.length=n∧t xs σ H Q
theorem pg_tup {es:List Expr} {k:Nat} {t:TGs} {n:Nat} (hc:X.calm=true) (h:PGs X es t)
  (hn:(assignEach es X.env).length=n:=by rfl) (hst:(assignEach es X.env).findIdx? (·.1)=none:=by rfl):PG X (.Tuple es k pos) (gTup X.K n t):=by
 refine .mk ?_
 intro pins s σ H v u Q I r hw
 obtain ⟨a,xs,e1,hq,hl,hw⟩:=hw
 subst e1
 cases r
 obtain ⟨its,rv,ht,hz⟩:=I.tuple hq
 refine assign_Tuple_tuple (I.ok.hd hc) ht (by simp [hn,← hl,rv.length]) hst fun h' hx=>?_
 have I1:Inv X pins σ H { s with heap:=h' }:=I.kept (t':=s.toks) fun b o e=>hx b o (Nat.ne_of_lt (Heap.lt_size e)) e
 exact h pins _ σ H xs _ Q I1 (by simpa using rv) hw
def gSub (to ti:TE) (t:TSet):TG:=fun v σ H Q=>to σ H fun o H1=>ti σ H1 fun i H2=>t o i v H2 fun H3=>Q σ H3
theorem pg_sub {o i:Expr} {to ti:TE} {t:TSet} (ho:PE X o to) (hi:PE X i ti) (hs:PSet X t)
  (ha:∀ v,assign (.Subscript o i pos) X.env v=(do
   let ov ← holding [v] (eval o X.env)
   let iv ← holding [v,ov] (eval i X.env)
   standAt pos
   holding [v,ov,iv] (setItem ov iv v)
   release [v,ov,iv] []):=by intro _; rfl):PG X (.Subscript o i pos) (gSub to ti t):=by
 refine .mk ?_
 intro pins s σ H v u Q I r h
 rw [ha]
 refine wpAny_bind (wpAny_holding (thn (ho pins s σ H _ I h) fun ov s1 ⟨x,H1,I1,r1,q1⟩=>?_))
 refine wpAny_bind (wpAny_holding (thn (hi pins s1 σ H1 _ I1 q1) fun iv s2 ⟨y,H2,I2,r2,q2⟩=>?_))
 refine wpAny_bind (wpAny_standAt (wpAny_bind (wpAny_holding (thn (hs pins s2 σ H2 x y v ov iv u _ I2 r1 r2 r q2) fun _ s3 ⟨H3,I3,q3⟩=>?_))))
 exact wpAny_release ⟨σ,H3,I3,q3⟩
def tAsg (te:TE) (g:TG):TS:=fun D σ H=>te σ H fun x H1=>g x σ H1 D.nx
theorem ps_asg {tg e:Expr} {te:TE} {g:TG} (he:PE X e te) (hg:PG X tg g) (hs:swapsWithSole [tg] e pos.line X.env=pure false:=by rfl) (hw:swappedStores [tg] e X.env=pure none:=by rfl)
  (h1:(assignEach [tg] X.env).map (·.2)=[assign tg X.env]:=by rfl):PS X (.Assign [tg] e pos) (tAsg te g):=by
 refine .mk ?_
 intro pins s σ H D I h
 refine wpAny_Assign_stores (thn (he pins s σ H _ I h) fun v s1 ⟨x,H1,I1,r1,q1⟩=>?_) hs hw
 rw [h1]
 exact thn (hg pins s1 σ H1 x v _ I1 r1 q1) fun _ s2 q=>q
theorem ps_set {i:Nat} {x:Str} {e:Expr} {te:TE} {pos':Pos} (hN:X.N.Nodup) (hi:X.N[i]? = some x) (hx:Loc X.env.scope x) (he:PE X e te) (hs:swapsWith e (some (.Name x pos')) pos.line X.env=pure false:=by rfl) (hf:X.fn x=true∨X.env.scope.names.lookup x=some .local:=by first | exact .inl rfl | exact .inr rfl | assumption) :
  PS X (.Assign [.Name x pos'] e pos) (tAsg te (gName i)):=by
 refine .mk ?_
 intro pins s σ H D I h
 refine wpAny_Assign_Name (thn (he pins s σ H _ I h) fun v s1 ⟨y,H1,I1,r1,q1⟩=>?_) hs
 exact store_ok I1 hN hi hx r1 (fun s2 I2=>⟨_,H1,I2,q1⟩) hf
end
section
variable {X:Cx} {pos:Pos}
def tWhile (c:TT) (tb:TS):TS:=fun D σ H=>∃ W:Nat→St→Hp→Prop,(∃ m,W m σ H)∧∀ m σ H,W m σ H →
 c σ H fun b H1=>if b=true then ∃ N:St→Hp→Prop,(∀ σ' H',N σ' H'→∃ m',m' < m∧W m' σ' H')∧tb { D with nx:=N,ct:=N,bk:=D.nx } σ H1 else D.nx σ H1
theorem ps_while {c:Expr} {body:List Stmt} {tc:TT} {tb:TS} (hp:PassesOwn (model X.prog X.w) X.A X.env X.xe) (hc:PT X c tc) (hb:PSs X body tb):PS X (.While c body [] pos) (tWhile tc tb):=by
 refine .mk ?_
 intro pins s σ H D I h
 obtain ⟨W,⟨m0,w0⟩,turn⟩:=h
 refine wpAny_While (codeAny_whileLoop (fun n s'=>∃ σ' H',Inv X pins σ' H' s'∧W n σ' H') ?_ m0 ⟨σ,H,I,w0⟩)
 rintro n s1 ⟨σ1,H1,I1,w1⟩
 refine wpAny_passesOwn hp (thn (hc pins s1 σ1 H1 _ I1 (turn n σ1 H1 w1)) fun b s2 ⟨H2,I2,q2⟩=>?_)
 cases b with
 | true=>
  obtain ⟨N,hN,q2⟩:=q2
  rw [if_pos rfl]
  refine wpAny_passesOwn hp (thn (hb pins s2 σ1 H2 _ I2 q2) fun f s3 q3=>?_)
  cases f with
  | next=>
   obtain ⟨σ3,H3,I3,n3⟩:=q3
   obtain ⟨m',hm,w3⟩:=hN σ3 H3 n3
   exact ⟨m',hm,σ3,H3,I3,w3⟩
  | cont=>
   obtain ⟨σ3,H3,I3,n3⟩:=q3
   obtain ⟨m',hm,w3⟩:=hN σ3 H3 n3
   exact ⟨m',hm,σ3,H3,I3,w3⟩
  | brk=>exact q3
  | ret v=>exact q3
 | false=>
  rw [if_neg Bool.false_ne_true]
  exact wpAny_execs_nil ⟨σ1,H2,I2,q2⟩
end
structure It where
 go:Nat→Hp→Prop
 yld:Nat→Hp→V→Hp→Prop
 stop:Nat→Hp→Prop
def FpOk (X:Cx) (pins:List (Addr×Obj)) (H:Hp) (b:Addr):Prop:=
 H b=none∧b≠X.env.locals∧b∉X.fs∧(b∈X.ex∨X.s₀.heap.objs.size≤b)∧(∀ x c,X.env.cells.lookup x=some c→c≠b)∧∀ p∈X.pn++pins,p.1≠b
theorem Inv.fpOk {X:Cx} {pins:List (Addr×Obj)} {σ:St} {H H':Hp} {s:Shared} {b:Addr} (I:Inv X pins σ H s) (hb:s.heap.objs.size≤b) (hn:H' b=none):FpOk X pins H' b:=by
 refine ⟨hn,Nat.ne_of_gt (Nat.lt_of_lt_of_le I.lt hb),I.nofs hb,.inr (Nat.le_trans I.sz hb),fun x c e z=>?_,fun p hp z=>?_⟩
 ·obtain ⟨v,q⟩:=I.cell x c e
  exact absurd (Nat.lt_of_lt_of_le q.lt (by rw [z]; exact hb)) (Nat.lt_irrefl _)
 ·exact absurd (Nat.lt_of_lt_of_le (Heap.lt_size (I.pin p hp).1) (by rw [z]; exact hb)) (Nat.lt_irrefl _)
structure Turn (P:Program) (w:World) (K:PySem.W.Frag) (tg:Expr) (J:It) (fp:List Addr) (it:Addr) (tn:Nat→Heap→Prop):Prop where
 mem:it∈fp
 obj:∀ i h,tn i h→∀ b∈fp,∃ o,h.get? b=some o∧∀ v,o.data≠.cell v
 keep:∀ i h h',tn i h→(∀ b∈fp,∀ o,h.get? b=some o→h'.get? b=some o)→tn i h'
 item:∀ (X:Cx),X.prog=P→X.w=w→X.K=K→X.calm=true→∀ (i:Nat) (pins:List (Addr×Obj)) (s:Shared) (σ:St) (H:Hp) (E:Value→Shared→Prop),Inv X pins σ H s→(∀ b∈fp,FpOk X pins H b)→tn i s.heap→J.go i H →
  wpAny (model P w) X.A (pyNext (.ref it)) (fun r s1=>∃ u,r=some u ∧
   wpAny (model P w) X.A (letOwnedTupleGo tg (.ref it) u) (fun _ s2=>∃ x H',Inv X pins σ H' s2∧RelV x u∧J.yld i H x H'∧tn (i+1) s2.heap∧∀ b∈fp,H' b=none) E s1) E s
 done:∀ (X:Cx),X.prog=P→X.w=w→X.K=K→X.calm=true→∀ (i:Nat) (pins:List (Addr×Obj)) (s:Shared) (σ:St) (H:Hp) (E:Value→Shared→Prop),Inv X pins σ H s→(∀ b∈fp,FpOk X pins H b)→tn i s.heap→J.stop i H →
  wpAny (model P w) X.A (pyNext (.ref it)) (fun r s1=>r=none∧Inv X pins σ H s1) E s
 self:∀ (A:Around) (i:Nat) (s:Shared) (Q:Value→Shared→Prop) (E:Value→Shared→Prop),tn i s.heap→Q (.ref it) s→wpAny (model P w) A (pyIter (.ref it)) Q E s
abbrev TI:=St→Hp→(It→Hp→Prop)→Prop
def PIE (X:Cx) (pins:List (Addr×Obj)) (σ:St) (tg:Expr) (R:It→Hp→Prop) (itv:Value) (s2:Shared):Prop:=
 ∃ (it:Addr) (fp:List Addr) (tn:Nat→Heap→Prop) (J:It) (H':Hp),itv=.ref it∧Inv X pins σ H' s2∧Turn X.prog X.w X.K tg J fp it tn∧tn 0 s2.heap∧(∀ b∈fp,FpOk X pins H' b)∧R J H'
structure PI (X:Cx) (tg iter:Expr) (wi:TI):Prop where
 run:∀ (pins:List (Addr×Obj)) (s:Shared) (σ:St) (H:Hp) (R:It→Hp→Prop),Inv X pins σ H s→wi σ H R →
  wpAny (model X.prog X.w) X.A (eval iter X.env) (fun v s1=>wpAny (model X.prog X.w) X.A (pyIter v) (PIE X pins σ tg R) X.xe s1) X.xe s
instance {X:Cx} {tg iter:Expr} {wi:TI}:CoeFun (PI X tg iter wi) fun _=>∀ (pins:List (Addr×Obj)) (s:Shared) (σ:St) (H:Hp) (R:It→Hp→Prop),Inv X pins σ H s→wi σ H R→wpAny (model X.prog X.w) X.A (eval iter X.env) (fun v s1=>wpAny (model X.prog X.w) X.A (pyIter v) (PIE X pins σ tg R) X.xe s1) X.xe s:=⟨PI.run⟩
theorem go_of {M:Model} {A:Around} {E:Value→Shared→Prop} {s:Shared} {tg:Expr} {it:Addr} {u:Value} {o:Obj} {n:String} {vs:Array Value} {Q:Unit→Shared→Prop} (ho:s.heap.get? it=some o) (hc:o.cls=.type n) (hd:o.data=.fields vs)
    (hn:["enumerate","zip","dict_itemiterator","dict_reverseitemiterator","odict_iterator","itertools.zip_longest","itertools.pairwise"].contains n=false) (hQ:Q () s):wpAny M A (letOwnedTupleGo tg (.ref it) u) Q E s:=by
  unfold letOwnedTupleGo
  cases tg <;> first
    | exact wpAny_pure hQ
    | (cases u <;> first
        | exact wpAny_pure hQ
        | (refine wpAny_bind (wpAny_load ho ?_)
           rw [hc,hd]
           show wpAny M A (if (["enumerate","zip","dict_itemiterator","dict_reverseitemiterator","odict_iterator","itertools.zip_longest","itertools.pairwise"].contains n && vs[0]? == some (rawInt _))=true then _ else _) Q E s
           rw [if_neg (by intro h; rw [hn,Bool.false_and] at h; cases h)]
           exact wpAny_pure hQ))
def Itl (K:PySem.W.Frag) (a:Addr):It:=
 ⟨fun i H=>∃ xs x,SqL K H a xs∧xs[i]? = some x,fun i H x H'=>H'=H∧∀ xs,SqL K H a xs→xs[i]? = some x,fun i H=>∃ xs,SqL K H a xs∧xs.length≤i⟩
def Itt (K:PySem.W.Frag) (a:Addr):It:=
 ⟨fun i H=>∃ xs x,SqT K H a xs∧xs[i]? = some x,fun i H x H'=>H'=H∧∀ xs,SqT K H a xs→xs[i]? = some x,fun i H=>∃ xs,SqT K H a xs∧xs.length≤i⟩
def Itr (lo:Int) (n:Nat):It:=⟨fun i _=>i < n,fun i H x H'=>H'=H∧x=.int (lo+i),fun i _=>n≤i⟩
theorem turn_list {P:Program} {w:World} {K:PySem.W.Frag} {tg:Expr} (a it:Addr):Turn P w K tg (Itl K a) [it] it (fun i h=>h.IsListIter it a i) where
 mem:=by simp
 obj:=fun i h st b hb=>by
  have e:b=it:=by simpa using hb
  subst e
  obtain ⟨o,e,c,d⟩:=st
  exact ⟨o,e,fun v z=>by rw [d] at z; cases z⟩
 keep:=fun i h h' st k=>st.at fun o e=>k it (by simp) o e
 item:=by
  intro X hP hw hK hc i pins s σ H E I hf st hg
  subst hP hw hK
  obtain ⟨xs,x,hq,hx⟩:=hg
  obtain ⟨its,rv,p,hz⟩:=I.list hq
  obtain ⟨u,hu,ru⟩:=rv.get hx
  obtain ⟨f0,f1,f2,f3,f4,f5⟩:=hf it (by simp)
  refine wpAny_pyNext_list_item st p.isList (x:=u) (by simpa using hu) fun h' st' sb=>?_
  have I1:Inv X pins σ H { s with heap:=h' }:=I.turned (t':=s.toks) (fun b o hb e=>(sb.2 b hb).trans e) f0 f1 f3 f4 f5
  obtain ⟨o,e,c,d⟩:=id st'
  exact ⟨u,rfl,go_of (s:={ s with heap:=h' }) e c d (by decide) ⟨x,H,I1,ru,⟨rfl,fun ys hy=>by rw [I.list_inj hy hq]; exact hx⟩,st',fun b hb=>(hf b hb).1⟩⟩
 done:=by
  intro X hP hw hK hc i pins s σ H E I hf st hg
  subst hP hw hK
  obtain ⟨xs,hq,hx⟩:=hg
  obtain ⟨its,rv,p,hz⟩:=I.list hq
  obtain ⟨f0,f1,f2,f3,f4,f5⟩:=hf it (by simp)
  have hl:=rv.length
  exact wpAny_pyNext_list_end (I.ok.hd hc) st p.isList (by simp; omega) fun h' eb=>⟨rfl,I.turned (t':=s.toks) (fun b o hb e=>eb b o hb e) f0 f1 f3 f4 f5⟩
 self:=fun _ _ _ _ _ st h=>wpAny_pyIter_listiter st h
theorem turn_tuple {P:Program} {w:World} {K:PySem.W.Frag} {tg:Expr} (a it:Addr):Turn P w K tg (Itt K a) [it] it (fun i h=>h.IsTupleIter it a i) where
 mem:=by simp
 obj:=fun i h st b hb=>by
  have e:b=it:=by simpa using hb
  subst e
  obtain ⟨o,e,c,d⟩:=st
  exact ⟨o,e,fun v z=>by rw [d] at z; cases z⟩
 keep:=fun i h h' st k=>st.at fun o e=>k it (by simp) o e
 item:=by
  intro X hP hw hK hc i pins s σ H E I hf st hg
  subst hP hw hK
  obtain ⟨xs,x,hq,hx⟩:=hg
  obtain ⟨its,rv,p,hz⟩:=I.tuple hq
  obtain ⟨u,hu,ru⟩:=rv.get hx
  obtain ⟨f0,f1,f2,f3,f4,f5⟩:=hf it (by simp)
  refine wpAny_pyNext_tuple_item st (show s.heap.IsTuple a its.toArray from p) (x:=u) (by simpa using hu) fun h' st' sb=>?_
  have I1:Inv X pins σ H { s with heap:=h' }:=I.turned (t':=s.toks) (fun b o hb e=>(sb.2 b hb).trans e) f0 f1 f3 f4 f5
  obtain ⟨o,e,c,d⟩:=id st'
  exact ⟨u,rfl,go_of (s:={ s with heap:=h' }) e c d (by decide) ⟨x,H,I1,ru,⟨rfl,fun ys hy=>by rw [I.tuple_inj hy hq]; exact hx⟩,st',fun b hb=>(hf b hb).1⟩⟩
 done:=by
  intro X hP hw hK hc i pins s σ H E I hf st hg
  subst hP hw hK
  obtain ⟨xs,hq,hx⟩:=hg
  obtain ⟨its,rv,p,hz⟩:=I.tuple hq
  obtain ⟨f0,f1,f2,f3,f4,f5⟩:=hf it (by simp)
  have hl:=rv.length
  exact wpAny_pyNext_tuple_end (I.ok.hd hc) st (show s.heap.IsTuple a its.toArray from p) (by simp; omega) fun h' eb=>⟨rfl,I.turned (t':=s.toks) (fun b o hb e=>eb b o hb e) f0 f1 f3 f4 f5⟩
 self:=fun _ _ _ _ _ st h=>wpAny_pyIter_tupleiter st h
theorem turn_range {P:Program} {w:World} {K:PySem.W.Frag} {tg:Expr} (it:Addr) (lo:Int) (n:Nat):Turn P w K tg (Itr lo n) [it] it (fun i h=>IsRangeIter h it (lo+(i:Nat) * 1) ((n:Int)-(i:Nat)) 1) where
 mem:=by simp
 obj:=fun i h st b hb=>by
  have e:b=it:=by simpa using hb
  subst e
  exact ⟨_,st,fun v z=>by
   have z':Data.fields _=Data.cell v:=z
   cases z'⟩
 keep:=fun i h h' st k=>k it (by simp) _ st
 item:=by
  intro X hP hw hK hc i pins s σ H E I hf st hg
  subst hP hw hK
  obtain ⟨f0,f1,f2,f3,f4,f5⟩:=hf it (by simp)
  have W:=Walks.range (prog:=X.prog) (w:=X.w) (I.ok.hd hc) it lo 1 n
  refine W.item i s _ _ hg st fun v h' tk hv st' kk=>?_
  obtain ⟨t,rfl⟩:=hv
  have I1:Inv X pins σ H { s with heap:=h',toks:=tk }:=I.turned (fun b o hb e=>kk b o (by simpa using hb) e) f0 f1 f3 f4 f5
  refine ⟨_,rfl,go_of (s:={ s with heap:=h',toks:=tk }) (n := "range_iterator") st' rfl rfl (by decide) ⟨.int (lo+i),H,I1,⟨t,?_⟩,⟨rfl,rfl⟩,st',fun b hb=>(hf b hb).1⟩⟩
  rw [Int.mul_one]
 done:=by
  intro X hP hw hK hc i pins s σ H E I hf st hg
  subst hP hw hK
  obtain ⟨f0,f1,f2,f3,f4,f5⟩:=hf it (by simp)
  exact wpAny_pyNext_range_end (I.ok.hd hc) st (by have:n≤i:=hg; omega) fun h' eb=>⟨rfl,I.turned (t':=s.toks) (fun b o hb e=>eb b o hb e) f0 f1 f3 f4 f5⟩
 self:=fun _ _ _ _ _ st h=>wpAny_pyIter_rangeiter st h
section
variable {X:Cx} {tg:Expr}
def iList (K:PySem.W.Frag) (tl:TE):TI:=fun σ H R=>tl σ H fun x H1=>∃ a,x=.ref a∧(∃ xs,SqL K H1 a xs)∧R (Itl K a) H1
def iTup (K:PySem.W.Frag) (tl:TE):TI:=fun σ H R=>tl σ H fun x H1=>∃ a,x=.ref a∧(∃ xs,SqT K H1 a xs)∧R (Itt K a) H1
theorem pi_list {l:Expr} {tl:TE} (hl:PE X l tl):PI X tg l (iList X.K tl):=by
 refine .mk ?_
 intro pins s σ H R I h
 refine thn (hl pins s σ H _ I h) fun v s1 ⟨x,H1,I1,r1,q1⟩=>?_
 obtain ⟨a,e,⟨xs,hq⟩,q⟩:=q1
 subst e
 cases r1
 obtain ⟨its,rv,p,hz⟩:=I1.list hq
 refine wpAny_pyIter_list p.isList ?_
 refine ⟨s1.heap.objs.size,[s1.heap.objs.size],_,_,H1,rfl,I1.kept (t':=s1.toks) fun b o e=>Heap.get?_push_of_some _ e,turn_list a _,⟨_,Heap.get?_push_size _ rfl,rfl,rfl⟩,fun b hb=>?_,q⟩
 have e:b=s1.heap.objs.size:=by simpa using hb
 subst e
 exact I1.fpOk (Nat.le_refl _) (I1.hok.fresh (Nat.le_refl _))
theorem pi_tup {l:Expr} {tl:TE} (hl:PE X l tl):PI X tg l (iTup X.K tl):=by
 refine .mk ?_
 intro pins s σ H R I h
 refine thn (hl pins s σ H _ I h) fun v s1 ⟨x,H1,I1,r1,q1⟩=>?_
 obtain ⟨a,e,⟨xs,hq⟩,q⟩:=q1
 subst e
 cases r1
 obtain ⟨its,rv,p,hz⟩:=I1.tuple hq
 refine wpAny_pyIter_tuple (show s1.heap.IsTuple a its.toArray from p) ?_
 refine ⟨s1.heap.objs.size,[s1.heap.objs.size],_,_,H1,rfl,I1.kept (t':=s1.toks) fun b o e=>Heap.get?_push_of_some _ e,turn_tuple a _,⟨_,Heap.get?_push_size _ rfl,rfl,rfl⟩,fun b hb=>?_,q⟩
 have e:b=s1.heap.objs.size:=by simpa using hb
 subst e
 exact I1.fpOk (Nat.le_refl _) (I1.hok.fresh (Nat.le_refl _))
theorem range_it {pins:List (Addr×Obj)} {σ:St} {H:Hp} {s:Shared} {R:It→Hp→Prop} {E:Value→Shared→Prop} {lo hi:Int} {t u v:Tok} {tk:Nat} (I:Inv X pins σ H s) (h1:-(2 ^ 62)≤lo) (h2:lo < 2 ^ 62) (h3:-(2 ^ 62)≤hi) (h4:hi < 2 ^ 62)
  (q:R (Itr lo (hi-lo).toNat) H):wpAny (model X.prog X.w) X.A (pyIter (.ref s.heap.objs.size)) (PIE X pins σ tg R) E { s with heap:=s.heap.push { cls:=.type "range",data:=.fields #[.int lo t,.int hi u,.int 1 v] },toks:=tk }:=by
 refine wpAny_pyIter_range (IsRange.new ..) (small_one h1 h2 h3 h4) ?_
 have I1:Inv X pins σ H { s with heap:=s.heap.push { cls:=.type "range",data:=.fields #[.int lo t,.int hi u,.int 1 v] },toks:=tk }:=I.kept fun b o e=>Heap.get?_push_of_some _ e
 refine ⟨(s.heap.push { cls:=.type "range",data:=.fields #[.int lo t,.int hi u,.int 1 v] }).objs.size,[(s.heap.push { cls:=.type "range",data:=.fields #[.int lo t,.int hi u,.int 1 v] }).objs.size],_,_,H,rfl,
  I1.kept (t':=tk) fun b o e=>Heap.get?_push_of_some _ e,turn_range _ lo (hi-lo).toNat,?_,fun b hb=>?_,q⟩
 ·have e1:lo+((0:Nat):Int) * 1=lo:=by simp
  have e2:(((hi-lo).toNat:Nat):Int)-((0:Nat):Int)=Builtin.Range.rangeSize lo hi 1:=by rw [rangeSize_one]; split <;> omega
  show IsRangeIter _ _ (lo+((0:Nat):Int) * 1) ((((hi-lo).toNat:Nat):Int)-((0:Nat):Int)) 1
  rw [e1,e2]
  exact Heap.get?_push_size _ rfl
 ·have e:b=(s.heap.push { cls:=.type "range",data:=.fields #[.int lo t,.int hi u,.int 1 v] }).objs.size:=by simpa using hb
  subst e
  exact I1.fpOk (Nat.le_refl _) (I1.hok.fresh (Nat.le_refl _))
def iRng1 (ta:TA):TI:=fun σ H R=>ta σ H fun vs H1=>∃ j:Int,vs=[.int j]∧-(2 ^ 62)≤j∧j < 2 ^ 62∧R (Itr 0 j.toNat) H1
theorem pi_range1 {a:Expr} {ta:TA} {p pos:Pos} (hg:Gl X "range") (hm:X.mg "range" = none) (ha:PA X [a] ta) (hs:starEach [a] X.env=[(false,eval a X.env)]:=by rfl):PI X tg (.Call (.Name "range" p) [a] [] pos) (iRng1 ta):=by
 refine .mk ?_
 intro pins s σ H R I h
 refine Call_ (ld_blt I hg hm boot_range (PyProof.Rows.callWith_type1 (thn (ha pos pins s σ H _ I h) fun us s1 ⟨vs,H1,I1,r1,q1⟩=>?_) hs rfl))
 obtain ⟨j,e,q1,q2,q⟩:=q1
 subst e
 cases r1 with
 | cons r rr=>
  cases rr
  obtain ⟨t,rfl⟩:=r
  exact call_range_1 (range_it I1 (by omega) (by omega) q1 q2 (by simpa using q))
def tFor (wi:TI) (g:TG) (tb:TS):TS:=fun D σ H=>wi σ H fun J H1=>∃ W:Nat→Nat→St→Hp→Prop,(∃ m,W 0 m σ H1)∧∀ i m σ H,W i m σ H →
 (J.stop i H∧D.nx σ H)∨(J.go i H∧∃ N:St→Hp→Prop,(∀ σ' H',N σ' H'→∃ m',m' < m∧W (i+1) m' σ' H')∧∀ x H',J.yld i H x H'→g x σ H' fun σ2 H2=>tb { D with nx:=N,ct:=N,bk:=D.nx } σ2 H2)
def pinsAt (fp:List Addr) (h:Heap):List (Addr×Obj):=fp.filterMap fun b=>(h.get? b).map fun o=>(b,o)
theorem mem_pinsAt {fp:List Addr} {h:Heap} {b:Addr} {o:Obj} (hb:b∈fp) (e:h.get? b=some o):(b,o)∈pinsAt fp h:=List.mem_filterMap.mpr ⟨b,hb,by rw [e]; rfl⟩
theorem of_pinsAt {fp:List Addr} {h:Heap} {p:Addr×Obj} (hp:p∈pinsAt fp h):p.1∈fp∧h.get? p.1=some p.2:=by
 obtain ⟨b,hb,e⟩:=List.mem_filterMap.mp hp
 cases q:h.get? b with
 | none=>rw [q] at e; cases e
 | some o=>
  rw [q] at e
  have e':(b,o)=p:=Option.some.inj e
  subst e'
  exact ⟨hb,q⟩
theorem Inv.pinned {pins:List (Addr×Obj)} {σ:St} {H:Hp} {s:Shared} {fp:List Addr} (I:Inv X pins σ H s) (hf:∀ b∈fp,FpOk X pins H b) (ho:∀ b∈fp,∃ o,s.heap.get? b=some o∧∀ v,o.data≠.cell v):Inv X (pins++pinsAt fp s.heap) σ H s:=
 I.pins_of fun p hp=>(List.mem_append.mp hp).elim (fun z=>I.pin p (List.mem_append_right _ z)) fun z=>by
  obtain ⟨hb,e⟩:=of_pinsAt z
  obtain ⟨f0,f1,f2,_⟩:=hf p.1 hb
  obtain ⟨o,e',d⟩:=ho p.1 hb
  rw [e] at e'; cases e'
  exact ⟨e,f0,f1,f2,d⟩
theorem Inv.unpinned {pins pl:List (Addr×Obj)} {σ:St} {H:Hp} {s:Shared} (I:Inv X (pins++pl) σ H s):Inv X pins σ H s:=I.pins_of fun p hp=>I.pin p (List.mem_append_right _ (List.mem_append_left _ hp))
theorem ps_for {iter:Expr} {body:List Stmt} {wi:TI} {g:TG} {tb:TS} {pos:Pos} (hp:PassesOwn (model X.prog X.w) X.A X.env X.xe) (hc:X.calm=true) (hi:PI X tg iter wi) (hg:PG X tg g) (hb:PSs X body tb)
  (hs:∀ x,foldedSetIterable iter X.env x=pure x:=by intro _; rfl):PS X (.For tg iter body [] pos) (tFor wi g tb):=by
 refine .mk ?_
 intro pins s σ H D I h
 refine wpAny_For (thn (hi pins s σ H _ I h) fun v s1 h1=>thn h1 fun itv s2 h2=>?_) hs
 obtain ⟨it,fp,tn,J,H2,e,I2,T,st2,f2,W,⟨m0,w0⟩,turn⟩:=h2
 subst e
 -- what stays true of the iterator's objects through the loop
 have stat:∀ {H':Hp},(∀ b∈fp,H' b=none)→∀ b∈fp,FpOk X pins H' b:=fun hn b hb=>⟨hn b hb,(f2 b hb).2⟩
 refine codeAny_forLoop_any (fun n s'=>∃ i σ' H',Inv X pins σ' H' s'∧tn i s'.heap∧(∀ b∈fp,H' b=none)∧W i n σ' H') ?_ m0 ⟨0,σ,H2,I2,st2,fun b hb=>(f2 b hb).1,w0⟩
 rintro n s3 ⟨i,σ3,H3,I3,st3,fr3,w3⟩
 rcases turn i n σ3 H3 w3 with ⟨stop,qn⟩ | ⟨go,N,hN,step⟩
 ·refine wpAny_passesOwn hp (thn (T.done X rfl rfl rfl hc i pins s3 σ3 H3 X.xe I3 (stat fr3) st3 stop) fun r s4 ⟨hr,I4⟩=>?_)
  subst hr
  exact wpAny_execs_nil ⟨σ3,H3,I4,qn⟩
 ·refine wpAny_passesOwn hp (thn (T.item X rfl rfl rfl hc i pins s3 σ3 H3 X.xe I3 (stat fr3) st3 go) fun r s4 ⟨u,hr,h4⟩=>?_)
  subst hr
  refine wpAny_passesOwn hp (thn h4 fun _ s5 ⟨x,H5,I5,r5,y5,st5,fr5⟩=>?_)
  have I5':=I5.pinned (stat fr5) (T.obj _ _ st5)
  refine wpAny_passesOwn hp (thn (hg _ s5 σ3 H5 x u _ I5' r5 (step x H5 y5)) fun _ s6 ⟨σ6,H6,I6,q6⟩=>?_)
  refine wpAny_passesOwn hp (thn (hb _ s6 σ6 H6 _ I6 q6) fun f s7 q7=>?_)
  have again:∀ {σ7:St} {H7:Hp},Inv X (pins++pinsAt fp s5.heap) σ7 H7 s7→N σ7 H7→∃ m,m < n∧∃ i σ' H',Inv X pins σ' H' s7∧tn i s7.heap∧(∀ b∈fp,H' b=none)∧W i m σ' H':=fun {σ7 H7} I7 n7=>by
   obtain ⟨m',hm,w7⟩:=hN σ7 H7 n7
   refine ⟨m',hm,i+1,σ7,H7,I7.unpinned,T.keep _ _ _ st5 fun b hb o e=>(I7.pin (b,o) (List.mem_append_right _ (List.mem_append_right _ (mem_pinsAt hb e)))).1,fun b hb=>?_,w7⟩
   obtain ⟨o,e,d⟩:=T.obj _ _ st5 b hb
   exact (I7.pin (b,o) (List.mem_append_right _ (List.mem_append_right _ (mem_pinsAt hb e)))).2.1
  cases f with
  | next=>obtain ⟨σ7,H7,I7,n7⟩:=q7; exact again I7 n7
  | cont=>obtain ⟨σ7,H7,I7,n7⟩:=q7; exact again I7 n7
  | brk=>obtain ⟨σ7,H7,I7,q7⟩:=q7; exact ⟨σ7,H7,I7.unpinned,q7⟩
  | ret v=>obtain ⟨x7,σ7,H7,I7,r7,q7⟩:=q7; exact ⟨x7,σ7,H7,I7.unpinned,r7,q7⟩
end
theorem for_range {lo:Int} {n:Nat} {g:TG} {tb:TS} {D:Ends} {σ:St} {H:Hp} (Pv:Nat→St→Hp→Prop) (h0:Pv 0 σ H)
  (hs:∀ i σ H,i < n→Pv i σ H→g (.int (lo+i)) σ H fun σ2 H2=>tb { D with nx:=Pv (i+1),ct:=Pv (i+1),bk:=D.nx } σ2 H2) (hd:∀ σ H,Pv n σ H→D.nx σ H) :
  ∃ W:Nat→Nat→St→Hp→Prop,(∃ m,W 0 m σ H)∧∀ i m σ H,W i m σ H →
   ((Itr lo n).stop i H∧D.nx σ H)∨((Itr lo n).go i H∧∃ N:St→Hp→Prop,(∀ σ' H',N σ' H'→∃ m',m' < m∧W (i+1) m' σ' H')∧∀ x H',(Itr lo n).yld i H x H'→g x σ H' fun σ2 H2=>tb { D with nx:=N,ct:=N,bk:=D.nx } σ2 H2):=by
 refine ⟨fun i m σ H=>m=n-i∧i≤n∧Pv i σ H,⟨n,by simp,Nat.zero_le _,h0⟩,?_⟩
 rintro i m σ H ⟨rfl,hi,p⟩
 by_cases hlt:i < n
 ·refine .inr ⟨hlt,Pv (i+1),fun σ' H' p'=>⟨n-(i+1),by omega,rfl,hlt,p'⟩,fun x H' y=>?_⟩
  obtain ⟨e,y⟩:=y
  subst e y
  exact hs i σ _ hlt p
 ·have e:i=n:=by omega
  subst e
  exact .inl ⟨Nat.le_refl _,hd σ H p⟩
abbrev R2:=V→V→Hp→VK→Prop
def OpR (X:Cx) (f:Value→Value→Sem Value) (r:R2):Prop:=
 ∀ (pins:List (Addr×Obj)) (s:Shared) (σ:St) (H:Hp) (x y:V) (v u:Value) (Q:VK),Inv X pins σ H s→RelV x v→RelV y u→r x y H Q →
  wpAny (model X.prog X.w) X.A (f v u) (EP X pins σ Q) X.xe s
def UnR (X:Cx) (f:Value→Sem Value) (r:V→Hp→VK→Prop):Prop:=
 ∀ (pins:List (Addr×Obj)) (s:Shared) (σ:St) (H:Hp) (x:V) (v:Value) (Q:VK),Inv X pins σ H s→RelV x v→r x H Q →
  wpAny (model X.prog X.w) X.A (f v) (EP X pins σ Q) X.xe s
def CallR (X:Cx) (f:Value) (r:List V→Hp→VK→Prop):Prop:=
 ∀ (pins:List (Addr×Obj)) (s:Shared) (σ:St) (H:Hp) (xs:List V) (us:List Value) (Q:VK),Inv X pins σ H s→Vals xs us→r xs H Q →
  wpAny (model X.prog X.w) X.A (call f us) (EP X pins σ Q) X.xe s
def tOp (r:R2) (ta tb:TE):TE:=fun σ H Q=>ta σ H fun x H1=>tb σ H1 fun y H2=>r x y H2 Q
def tUn (r:V→Hp→VK→Prop) (ta:TE):TE:=fun σ H Q=>ta σ H fun x H1=>r x H1 Q
def rI (C:Int→Int→Prop) (g:Int→Int→V):R2:=fun x y H Q=>∃ i j,x=.int i∧y=.int j∧C i j∧Q (g i j) H
def rI0 (g:Int→Int→V):R2:=fun x y H Q=>∃ i j,x=.int i∧y=.int j∧Q (g i j) H
def rU (g:Int→V):V→Hp→VK→Prop:=fun x H Q=>∃ i,x=.int i∧Q (g i) H
section
variable {X:Cx} {a b c:Expr} {ta tb tc:TE} {pos:Pos}
theorem binT (ha:PE X a ta) (hb:PE X b tb) {pins:List (Addr×Obj)} {s:Shared} {σ:St} {H:Hp} {R:V→V→Hp→Prop} (I:Inv X pins σ H s)
  (h:ta σ H fun x H1=>tb σ H1 fun y H2=>R x y H2) {Q:Value→Shared→Prop} {f:Value→Value→Sem Value}
  (hf:∀ v u s2 x y H2,Inv X pins σ H2 s2→RelV x v→RelV y u→R x y H2→wpAny (model X.prog X.w) X.A (f v u) Q X.xe s2) :
  wpAny (model X.prog X.w) X.A (eval a X.env) (fun v s₁=>wpAny (model X.prog X.w) X.A (eval b X.env) (fun u s₂=>wpAny (model X.prog X.w) X.A (f v u) Q X.xe s₂) X.xe s₁) X.xe s:=by
 refine thn (ha pins s σ H _ I h) fun v s1 ⟨x,H1,I1,r1,q1⟩=>?_
 refine thn (hb pins s1 σ H1 _ I1 q1) fun u s2 ⟨y,H2,I2,r2,q2⟩=>?_
 exact hf v u s2 x y H2 I2 r1 r2 q2
theorem pe_op {op:Operator} {r:R2} (ho:OpR X (binaryOp op) r) (ha:PE X a ta) (hb:PE X b tb):PE X (.BinOp a op b pos) (tOp r ta tb):=by
 refine .mk ?_
 intro pins s σ H Q I h
 exact wpAny_BinOp (binT ha hb I h fun v u s2 x y H2 I2 rx ry q=>ho pins s2 σ H2 x y v u Q I2 rx ry q)
theorem pe_un {op:UnaryOp} {r:V→Hp→VK→Prop} (ho:UnR X (unaryOp op) r) (ha:PE X a ta):PE X (.UnaryOp op a pos) (tUn r ta):=by
 refine .mk ?_
 intro pins s σ H Q I h
 exact UnaryOp_ (thn (ha pins s σ H _ I h) fun v s1 ⟨x,H1,I1,r1,q1⟩=>ho pins s1 σ H1 x v Q I1 r1 q1)
theorem opI {f:Value→Value→Sem Value} {C:Int→Int→Prop} {g:Int→Int→Int}
  (rule:∀ (i j:Int) (t u:Tok) (s:Shared) (Q:Value→Shared→Prop) (E:Value→Shared→Prop),C i j→Q (.int (g i j) s.toks) { s with toks:=s.toks+1 }→wpAny (model X.prog X.w) X.A (f (.int i t) (.int j u)) Q E s) :
  OpR X f (rI C fun i j=>.int (g i j)):=by
 intro pins s σ H x y v u Q I rx ry h
 obtain ⟨i,j,rfl,rfl,hc,q⟩:=h
 obtain ⟨t,rfl⟩:=rx
 obtain ⟨t',rfl⟩:=ry
 exact rule i j t t' s _ _ hc ⟨.int (g i j),H,I.tok _,⟨_,rfl⟩,q⟩
theorem opI0 {f:Value→Value→Sem Value} {g:Int→Int→Int}
  (rule:∀ (i j:Int) (t u:Tok) (s:Shared) (Q:Value→Shared→Prop) (E:Value→Shared→Prop),Q (.int (g i j) s.toks) { s with toks:=s.toks+1 }→wpAny (model X.prog X.w) X.A (f (.int i t) (.int j u)) Q E s) :
  OpR X f (rI0 fun i j=>.int (g i j)):=by
 intro pins s σ H x y v u Q I rx ry h
 obtain ⟨i,j,rfl,rfl,q⟩:=h
 obtain ⟨t,rfl⟩:=rx
 obtain ⟨t',rfl⟩:=ry
 exact rule i j t t' s _ _ ⟨.int (g i j),H,I.tok _,⟨_,rfl⟩,q⟩
theorem opB0 {f:Value→Value→Sem Value} {g:Int→Int→Bool}
  (rule:∀ (i j:Int) (t u:Tok) (s:Shared) (Q:Value→Shared→Prop) (E:Value→Shared→Prop),Q (.bool (g i j)) s→wpAny (model X.prog X.w) X.A (f (.int i t) (.int j u)) Q E s) :
  OpR X f (rI0 fun i j=>.bl (g i j)):=by
 intro pins s σ H x y v u Q I rx ry h
 obtain ⟨i,j,rfl,rfl,q⟩:=h
 obtain ⟨t,rfl⟩:=rx
 obtain ⟨t',rfl⟩:=ry
 exact rule i j t t' s _ _ ⟨.bl (g i j),H,I,rfl,q⟩
def CDiv (i j:Int):Prop:=0 < j∧j < 1073741824
def CPow (i j:Int):Prop:=0≤j∧j≤1000000∧i.natAbs < 2 ^ 64
def CMul (i j:Int):Prop:=(-(2 ^ 64) < i∧i < 2 ^ 64)∨(-(2 ^ 64) < j∧j < 2 ^ 64)
theorem CMul.ok {i j:Int} (h:CMul i j):IntMulOk i j:=by
 rcases h with ⟨h1,h2⟩ | ⟨h1,h2⟩
 ·exact .of_left (intBits_le_64 h1 h2)
 ·exact .of_right (intBits_le_64 h1 h2)
theorem op_add:OpR X (binaryOp .Add) (rI0 fun i j=>.int (i+j)):=opI0 fun _ _ _ _ _ _ _ q=>add_int q
theorem op_sub:OpR X (binaryOp .Sub) (rI0 fun i j=>.int (i-j)):=opI0 fun _ _ _ _ _ _ _ q=>sub_int q
theorem op_mul:OpR X (binaryOp .Mult) (rI CMul fun i j=>.int (i * j)):=opI fun _ _ _ _ _ _ _ hc q=>mul_int q hc.ok
theorem op_mod:OpR X (binaryOp .Mod) (rI (fun _ j=>0 < j) fun i j=>.int (i % j)):=opI fun i j _ _ _ _ _ hc q=>by
 have h1:(0:Int) < j:=hc
 exact mod_int' (by omega) (by rw [Int.fmod_eq_emod_of_nonneg i (by omega)]; exact q)
theorem op_pow:OpR X (binaryOp .Pow) (rI CPow fun i j=>.int (i ^ j.toNat)):=opI fun _ _ _ _ _ _ _ hc q=>pow_int_small hc.1 hc.2.1 hc.2.2 q
theorem unI {f:Value→Sem Value} {g:Int→Int}
  (rule:∀ (i:Int) (t:Tok) (s:Shared) (Q:Value→Shared→Prop) (E:Value→Shared→Prop),Q (.int (g i) s.toks) { s with toks:=s.toks+1 }→wpAny (model X.prog X.w) X.A (f (.int i t)) Q E s) :
  UnR X f (rU fun i=>.int (g i)):=by
 intro pins s σ H x v Q I rx h
 obtain ⟨i,rfl,q⟩:=h
 obtain ⟨t,rfl⟩:=rx
 exact rule i t s _ _ ⟨.int (g i),H,I.tok _,⟨_,rfl⟩,q⟩
theorem un_neg:UnR X (unaryOp .USub) (rU fun i=>.int (-i)):=unI fun _ _ _ _ _ q=>neg_int q
end
def scal:V→V→Bool
 | .non,.non=>true | .non,.int _=>true | .int _,.non=>true | .non,.bl _=>true | .bl _,.non=>true | .non,.str _=>true | .str _,.non=>true
 | .int _,.int _=>true | .bl _,.bl _=>true | .str _,.str _=>true | .byt _,.byt _=>true
 | .int _,.str _=>true | .str _,.int _=>true | .bl _,.str _=>true | .str _,.bl _=>true
 | _,_=>false
def rEq:R2:=fun x y H Q=>scal x y=true∧Q (.bl (decide (x=y))) H
def rNe:R2:=fun x y H Q=>scal x y=true∧Q (.bl (!decide (x=y))) H
theorem dec_int {i j:Int}:decide (V.int i=V.int j)=(i == j):=by
 rw [Bool.eq_iff_iff]
 simp
theorem dec_bl {i j:Bool}:decide (V.bl i=V.bl j)=(i == j):=by
 rw [Bool.eq_iff_iff]
 simp
theorem dec_str {i j:Str}:decide (V.str i=V.str j)=(i == j):=by
 rw [Bool.eq_iff_iff]
 simp
theorem dec_byt {i j:Array UInt8}:decide (V.byt i=V.byt j)=(i.toList == j.toList):=by
 rw [Bool.eq_iff_iff]
 cases i
 cases j
 simp
section
variable {X:Cx} {a b c:Expr} {ta tb tc:TE} {pos:Pos}
theorem fin_bl {pins:List (Addr×Obj)} {σ:St} {H:Hp} {s:Shared} {Q:VK} {k k':Bool} (I:Inv X pins σ H s) (q:Q (.bl k) H) (e:k=k'):EP X pins σ Q (.bool k') s:=by
 subst e
 exact ⟨.bl k,H,I,rfl,q⟩
theorem op_eq:OpR X (compareOp .Eq) rEq:=by
 intro pins s σ H x y v u Q I rx ry h
 obtain ⟨hs,q⟩:=h
 cases x with
 | non=>
  cases rx
  cases y with
  | non=>cases ry; exact PySem.EqNone.eq_none_none (fin_bl I q (by simp))
  | bl j=>cases ry; exact PySem.EqNone.eq_none_bool (fin_bl I q (by simp))
  | int j=>obtain ⟨t',rfl⟩:=ry; exact PySem.EqNone.eq_none_int (fin_bl I q (by simp))
  | str j=>obtain ⟨t',rfl⟩:=ry; exact PySem.EqNone.eq_none_str (fin_bl I q (by simp))
  | _=>exact absurd (show false=true from hs) Bool.false_ne_true
 | bl i=>
  cases rx
  cases y with
  | non=>cases ry; exact PySem.EqNone.eq_bool_none (fin_bl I q (by simp))
  | bl j=>cases ry; exact eq_bool (fin_bl I q dec_bl)
  | str j=>obtain ⟨t',rfl⟩:=ry; exact PySem.EqMixed.eq_bool_str (fin_bl I q (by simp))
  | _=>exact absurd (show false=true from hs) Bool.false_ne_true
 | int i=>
  obtain ⟨t,rfl⟩:=rx
  cases y with
  | non=>cases ry; exact PySem.EqNone.eq_int_none (fin_bl I q (by simp))
  | int j=>obtain ⟨t',rfl⟩:=ry; exact eq_int (fin_bl I q dec_int)
  | str j=>obtain ⟨t',rfl⟩:=ry; exact PySem.EqMixed.eq_int_str (fin_bl I q (by simp))
  | _=>exact absurd (show false=true from hs) Bool.false_ne_true
 | str i=>
  obtain ⟨t,rfl⟩:=rx
  cases y with
  | non=>cases ry; exact PySem.EqNone.eq_str_none (fin_bl I q (by simp))
  | bl j=>cases ry; exact PySem.EqMixed.eq_str_bool (fin_bl I q (by simp))
  | int j=>obtain ⟨t',rfl⟩:=ry; exact PySem.EqMixed.eq_str_int (fin_bl I q (by simp))
  | str j=>obtain ⟨t',rfl⟩:=ry; exact eq_str (fin_bl I q dec_str)
  | _=>exact absurd (show false=true from hs) Bool.false_ne_true
 | byt i=>
  obtain ⟨t,rfl⟩:=rx
  cases y with
  | byt j=>obtain ⟨t',rfl⟩:=ry; exact PySem.W.eq_bytes (fin_bl I q dec_byt)
  | _=>exact absurd (show false=true from hs) Bool.false_ne_true
 | _=>cases y <;> exact absurd (show false=true from hs) Bool.false_ne_true
theorem op_ne:OpR X (compareOp .NotEq) rNe:=by
 intro pins s σ H x y v u Q I rx ry h
 obtain ⟨hs,q⟩:=h
 cases x with
 | non=>
  cases rx
  cases y with
  | non=>cases ry; exact PySem.EqNone.ne_none_none (fin_bl I q (by simp))
  | bl j=>cases ry; exact PySem.EqNone.ne_none_bool (fin_bl I q (by simp))
  | int j=>obtain ⟨t',rfl⟩:=ry; exact PySem.EqNone.ne_none_int (fin_bl I q (by simp))
  | str j=>obtain ⟨t',rfl⟩:=ry; exact PySem.EqNone.ne_none_str (fin_bl I q (by simp))
  | _=>exact absurd (show false=true from hs) Bool.false_ne_true
 | bl i=>
  cases rx
  cases y with
  | non=>cases ry; exact PySem.EqNone.ne_bool_none (fin_bl I q (by simp))
  | bl j=>cases ry; exact ne_bool (fin_bl I q (congrArg not dec_bl))
  | str j=>obtain ⟨t',rfl⟩:=ry; exact PySem.EqMixed.ne_bool_str (fin_bl I q (by simp))
  | _=>exact absurd (show false=true from hs) Bool.false_ne_true
 | int i=>
  obtain ⟨t,rfl⟩:=rx
  cases y with
  | non=>cases ry; exact PySem.EqNone.ne_int_none (fin_bl I q (by simp))
  | int j=>obtain ⟨t',rfl⟩:=ry; exact ne_int (fin_bl I q (congrArg not dec_int))
  | str j=>obtain ⟨t',rfl⟩:=ry; exact PySem.EqMixed.ne_int_str (fin_bl I q (by simp))
  | _=>exact absurd (show false=true from hs) Bool.false_ne_true
 | str i=>
  obtain ⟨t,rfl⟩:=rx
  cases y with
  | non=>cases ry; exact PySem.EqNone.ne_str_none (fin_bl I q (by simp))
  | bl j=>cases ry; exact PySem.EqMixed.ne_str_bool (fin_bl I q (by simp))
  | int j=>obtain ⟨t',rfl⟩:=ry; exact PySem.EqMixed.ne_str_int (fin_bl I q (by simp))
  | str j=>obtain ⟨t',rfl⟩:=ry; exact ne_str (fin_bl I q (congrArg not dec_str))
  | _=>exact absurd (show false=true from hs) Bool.false_ne_true
 | byt i=>
  obtain ⟨t,rfl⟩:=rx
  cases y with
  | byt j=>obtain ⟨t',rfl⟩:=ry; exact PySem.W.ne_bytes (fin_bl I q (congrArg not dec_byt))
  | _=>exact absurd (show false=true from hs) Bool.false_ne_true
 | _=>cases y <;> exact absurd (show false=true from hs) Bool.false_ne_true
theorem op_lt:OpR X (compareOp .Lt) (rI0 fun i j=>.bl (decide (i < j))):=opB0 fun _ _ _ _ _ _ _ q=>lt_int q
theorem op_le:OpR X (compareOp .LtE) (rI0 fun i j=>.bl (decide (i≤j))):=opB0 fun _ _ _ _ _ _ _ q=>le_int q
theorem op_gt:OpR X (compareOp .Gt) (rI0 fun i j=>.bl (decide (j < i))):=opB0 fun _ _ _ _ _ _ _ q=>gt_int q
theorem op_ge:OpR X (compareOp .GtE) (rI0 fun i j=>.bl (decide (j≤i))):=opB0 fun _ _ _ _ _ _ _ q=>ge_int q
theorem OpR.or {f:Value→Value→Sem Value} {r r':R2} (h:OpR X f r) (h':OpR X f r'):OpR X f (fun x y H Q=>r x y H Q∨r' x y H Q):=by
 intro pins s σ H x y v u Q I rx ry q
 rcases q with q | q
 ·exact h pins s σ H x y v u Q I rx ry q
 ·exact h' pins s σ H x y v u Q I rx ry q
theorem nomark (b:Expr) {op:CmpOp} (h:op≠.In:=by decide) (h2:op≠.NotIn:=by decide):behindInMarks op b=false:=by
 have e1:(op == CmpOp.In)=false:=by cases op <;> first | rfl | exact absurd rfl h
 have e2:(op == CmpOp.NotIn)=false:=by cases op <;> first | rfl | exact absurd rfl h2
 cases b <;> simp [behindInMarks,e1,e2]
theorem pe_cmpR {op:CmpOp} {r:R2} (ho:OpR X (compareOp op) r) (ha:PE X a ta) (hb:PE X b tb) (hm:behindInMarks op b=false):PE X (.Compare a [op] [b] pos) (tOp r ta tb):=by
 refine .mk ?_
 intro pins s σ H Q I h
 exact wpAny_Compare1 (binT ha hb I h fun v u s2 x y H2 I2 rx ry q=>ho pins s2 σ H2 x y v u Q I2 rx ry q) hm
def tTest (t:TE):TT:=fun σ H Q=>t σ H fun x H'=>∃ k,x=.bl k∧Q k H'
theorem pt_cmpR {op:CmpOp} {r:R2} (ho:OpR X (compareOp op) r) (ha:PE X a ta) (hb:PE X b tb) (hm:behindInMarks op b=false):PT X (.Compare a [op] [b] pos) (tTest (tOp r ta tb)):=by
 refine .mk ?_
 intro pins s σ H Q I h
 refine wpAny_isTrue_Compare1 (thn (ha pins s σ H _ I h) fun v s1 ⟨x,H1,I1,r1,q1⟩=>thn (hb pins s1 σ H1 _ I1 q1) fun u s2 ⟨y,H2,I2,r2,q2⟩=>
  thn (ho pins s2 σ H2 x y v u _ I2 r1 r2 q2) fun c s3 ⟨z,H3,I3,r3,k,e,q3⟩=>?_) hm
 subst e
 cases r3
 exact wpAny_truthy_bool ⟨H3,I3,q3⟩
theorem line63:(sizeLine:Nat) < 2 ^ 63:=by rw [sizeLine_eq]; decide
theorem op_add_str:OpR X (binaryOp .Add) (fun x y H Q=>∃ i j,x=.str i∧y=.str j∧i.length+j.length≤sizeLine∧Q (.str (i++j)) H):=by
 intro pins s σ H x y v u Q I rx ry h
 obtain ⟨i,j,rfl,rfl,hz,q⟩:=h
 obtain ⟨t,rfl⟩:=rx
 obtain ⟨t',rfl⟩:=ry
 exact add_str (fun t' tk=>⟨.str (i++j),H,I.tok _,⟨_,rfl⟩,q⟩) hz
theorem vals1 {x:V} {us:List Value} (r:Vals [x] us):∃ u,us=[u]∧RelV x u:=by
 cases r with
 | cons r1 r2=>cases r2; exact ⟨_,rfl,r1⟩
theorem vals2 {x y:V} {us:List Value} (r:Vals [x,y] us):∃ u w',us=[u,w']∧RelV x u∧RelV y w':=by
 cases r with
 | cons r1 r2=>
  cases r2 with
  | cons r3 r4=>cases r4; exact ⟨_,_,rfl,r1,r3⟩
theorem call_max2 (hc:X.calm=true):CallR X (.builtin "max") (fun xs H Q=>∃ i j,xs=[.int i,.int j]∧Q (.int (if j > i then j else i)) H):=by
 intro pins s σ H xs us Q I r h
 obtain ⟨i,j,rfl,q⟩:=h
 obtain ⟨u,w',rfl,⟨t,rfl⟩,⟨t',rfl⟩⟩:=vals2 r
 refine max_two_ints (I.ok.hd hc) fun h' tk k=>⟨_,H,I.kept k,?_,q⟩
 by_cases hj:j > i
 ·rw [if_pos hj,if_pos hj]; exact ⟨_,rfl⟩
 ·rw [if_neg hj,if_neg hj]; exact ⟨_,rfl⟩
theorem call_min2 (hc:X.calm=true):CallR X (.builtin "min") (fun xs H Q=>∃ i j,xs=[.int i,.int j]∧Q (.int (if j < i then j else i)) H):=by
 intro pins s σ H xs us Q I r h
 obtain ⟨i,j,rfl,q⟩:=h
 obtain ⟨u,w',rfl,⟨t,rfl⟩,⟨t',rfl⟩⟩:=vals2 r
 refine min_two_ints (I.ok.hd hc) fun h' tk k=>⟨_,H,I.kept k,?_,q⟩
 by_cases hj:j < i
 ·rw [if_pos hj,if_pos hj]; exact ⟨_,rfl⟩
 ·rw [if_neg hj,if_neg hj]; exact ⟨_,rfl⟩
theorem call_ord:CallR X (.builtin "ord") (fun xs H Q=>∃ x,xs=[.str x]∧x.length=1∧Q (.int (x.cps.getD 0 0:Nat)) H):=by
 intro pins s σ H xs us Q I r h
 obtain ⟨x,rfl,hz,q⟩:=h
 obtain ⟨u,rfl,t,rfl⟩:=vals1 r
 exact ord_of_one hz ⟨.int _,H,I.tok _,⟨_,rfl⟩,q⟩
theorem call_divmod:CallR X (.builtin "divmod") (fun xs H Q=>∃ i j,xs=[.int i,.int j]∧CDiv i j∧∀ p,H p=none→Q (.ref p) (upd H p (.tup [.int (i / j),.int (i % j)]))):=by
 intro pins s σ H xs us Q I r h
 obtain ⟨i,j,rfl,⟨h1,h2⟩,q⟩:=h
 obtain ⟨u,w',rfl,⟨t,rfl⟩,⟨t',rfl⟩⟩:=vals2 r
 refine divmod_int (by omega) ?_ (.inl (PyProof.noPylong_small (by omega)))
 rw [Int.fdiv_eq_ediv_of_nonneg i (by omega),Int.fmod_eq_emod_of_nonneg i (by omega)]
 have hn:H s.heap.objs.size=none:=I.hok.fresh (Nat.le_refl _)
 refine ⟨.ref s.heap.objs.size,_,?_,rfl,q _ hn⟩
 refine I.laid (fun b o e=>Heap.get?_push_of_some _ e) (Nat.le_refl _) ⟨by simp only [List.length_cons,List.length_nil]; rw [sizeLine_eq]; decide,[.int (i / j) s.toks,.int (i % j) (s.toks+1)],.cons ⟨_,rfl⟩ (.cons ⟨_,rfl⟩ .nil),?_⟩
 exact ⟨_,Heap.get?_push_size s.heap rfl,rfl,0,rfl⟩
end
structure ObjM (h:Heap) (x dx C:Addr) (mA:Str→Option Value):Prop where
 obj:h.get? x=some (PySem.W.instObj C dx)
 ns:h.Ns1 dx mA
 ne:dx≠x
theorem lookIn_ns {h:Heap} {dx:Addr} {mA:Str→Option Value} (n:h.Ns1 dx mA):∃ od,h.get? dx=some od∧∀ name,PySem.W.lookIn name od=some (mA name):=by
 obtain ⟨o,es,ep,ho,hd,hk,_,hm⟩:=n
 refine ⟨o,ho,fun name=>?_⟩
 have e:=hm name
 unfold nsFind findBy at e
 rw [← Array.find?_toList] at e
 unfold PySem.W.lookIn
 rw [hd]
 dsimp only
 split
 ·rename_i y q
  rw [q] at e
  exact congrArg some e
 ·rename_i q
  rw [q] at e
  have a:es.toList.any (·.refKey)=false:=by
   rw [List.any_eq_false]
   intro y hy
   obtain ⟨z,t,hkey⟩:=hk y (Array.mem_toList_iff.mp hy)
   simp [DictEntry.refKey,hkey]
  have a':¬ es.toList.any (·.refKey)=true:=by rw [a]; exact Bool.false_ne_true
  rw [if_neg a']
  exact congrArg some e
theorem ObjM.look {h:Heap} {x dx C:Addr} {mA:Str→Option Value} (I:ObjM h x dx C mA):∃ od,PySem.W.InstAt h x (PySem.W.instObj C dx) C (some od)∧∀ name,PySem.W.lookIn name od=some (mA name):=
 let ⟨od,ho,hl⟩:=lookIn_ns I.ns
 ⟨od,⟨I.obj,rfl,rfl,ho⟩,hl⟩
section
variable {prog:Program} {w:World} {A:Around} {E:Value→Shared→Prop} {s:Shared} {K:PySem.W.Frag} {x dx C f:Addr} {mA:Str→Option Value} {name:Str} {v:Value}
end
def putF (f:Str) (v:V):List (Str×V)→List (Str×V)
 | []=>[(f,v)]
 | (g,x)::r=>if g=f then (g,v)::r else (g,x)::putF f v r
theorem RelO.some_of {v:V} {o:Option Value} (r:RelO (some v) o):∃ u,o=some u∧RelV v u:=by
 cases o with
 | none=>exact (show False from r).elim
 | some u=>exact ⟨u,rfl,r⟩
section
variable {P:Program} {w:World} {H H':Hp} {h h':Heap} {a C dx:Addr} {fs fs':List (Str×V)}
theorem ins_get (hok:HOk P w H h) (e:H a=some (.ins C dx fs)):∃ mA,ObjM h a dx C mA∧(∀ f,RelO (fs.lookup f) (mA f))∧PySem.Within mA (fs.map (·.1))∧fs.length≤1000∧H dx=some (.own a):=by
 obtain ⟨d,z,ne,ob,mA,n,r,q⟩:=(show ObjOk P w H h a (.ins C dx fs) from hok a _ e)
 exact ⟨mA,⟨ob,n,ne⟩,r,q,z,d⟩
end
structure Cls (K:PySem.W.Frag) (C:Addr):Prop where
 pg:PySem.W.plainGet K C Str.empty=true
 hd:PySem.W.hasDictIn K C=true
 po:PySem.W.plainOver K C=true
 sa:PySem.W.findIn K (.ref C) "__setattr__" = some (some (.builtin "object.__setattr__"))
theorem Cls.get {K:PySem.W.Frag} {C:Addr} (c:Cls K C) (f:Str):PySem.W.plainGet K C f=true:=c.pg
structure Meth (K:PySem.W.Frag) (C:Addr) (m:Str) (f:Addr):Prop where
 at_:PySem.W.findIn K (.ref C) m=some (some (.ref f))
 fn:PySem.W.isFn K (.ref f)=true
 kp:PySem.W.keepIn K (.ref f)=true
section
variable {X:Cx} {pins:List (Addr×Obj)} {σ:St} {H:Hp} {s:Shared} {a C dx:Addr} {fs:List (Str×V)} {f:Str} {v:V} {A:Around} {E:Value→Shared→Prop}
end
section
variable {X:Cx} {o e value:Expr} {f:Str} {pos pos' tpos:Pos} {ta tv:TE}
end
section
variable {X:Cx} {pins:List (Addr×Obj)} {σ:St} {H:Hp} {s:Shared} {A:Around} {E:Value→Shared→Prop} {Q:Value→Shared→Prop} {c:Value} {b:Bool}
inductive TyOf (K:PySem.W.Frag) (H:Hp):V→Value→Prop where
 | non:TyOf K H .non (.type "NoneType")
 | bl (x:Bool):TyOf K H (.bl x) (.type "bool")
 | int (i:Int):TyOf K H (.int i) (.type "int")
 | str (x:Str):TyOf K H (.str x) (.type "str")
 | flt (x:UInt64):TyOf K H (.flt x) (.type "float")
 | lst {a:Addr} {xs:List V} (e:H a=some (.lst xs)):TyOf K H (.ref a) (.type "list")
 | frz {a:Addr} {o:Obj} {xs:List V} (e:H a=some (.frz o (.lst xs))):TyOf K H (.ref a) (.type "list")
 | tup {a:Addr} {xs:List V} (e:H a=some (.tup xs)):TyOf K H (.ref a) (.type "tuple")
 | dK {a:Addr} {kvs:List (Key×V)} (e:H a=some (.dK kvs)):TyOf K H (.ref a) (.type "dict")
 | dT {a:Addr} {kvs:List (List Key×V)} (e:H a=some (.dT kvs)):TyOf K H (.ref a) (.type "dict")
 | ins {a C dx:Addr} {fs:List (Str×V)} (e:H a=some (.ins C dx fs)) (cl:Cls K C) (ha:PySem.W.findIn K (.ref C) "__class__" = some (some (.builtin "object.__class__")))
   (hn:PySem.W.specialIn K (.builtin "object.__class__") "__get__" = some (some (.builtin "getset_descriptor.__get__"))) (htk:PySem.W.takesIn K (.builtin "object.__class__")=some true)
   (hm:PySem.W.mroIn K C (.type "object")=some true):TyOf K H (.ref a) (.ref C)
theorem isinst_ok {x:V} {u t:Value} (I:Inv X pins σ H s) (rx:RelV x u) (ty:TyOf X.K H x t) (e:PySem.W.kitOne X.K t c=some b) (h:∀ tk,Q (.bool b) { s with toks:=tk }) :
  wpAny (model X.prog X.w) A (call (.builtin "isinstance") [u,c]) Q E s:=by
 cases ty with
 | non=>cases (show u=Value.none from rx); exact PySem.W.kia_one PySem.W.kitx_none I.kIn True.intro e (fun z=>nomatch z) h
 | bl y=>cases (show u=Value.bool y from rx); exact PySem.W.kia_one PySem.W.kitx_bool I.kIn True.intro e (fun z=>nomatch z) h
 | int i=>obtain ⟨t,q⟩:=(show ∃ t,u=Value.int i t from rx); cases q; exact PySem.W.kia_one PySem.W.kitx_int I.kIn True.intro e (fun z=>nomatch z) h
 | str y=>obtain ⟨t,q⟩:=(show ∃ t,u=Value.str y t from rx); cases q; exact PySem.W.kia_one PySem.W.kitx_str I.kIn True.intro e (fun z=>nomatch z) h
 | flt y=>obtain ⟨t,q⟩:=(show ∃ t,u=Value.float y t from rx); cases q; exact PySem.W.kia_one PySem.W.kitx_float I.kIn True.intro e (fun z=>nomatch z) h
 | @lst a xs ea=>
  cases (show u=Value.ref a from rx)
  obtain ⟨_,_,n,_,h1⟩:=(show ObjOk X.prog X.w H s.heap a (.lst xs) from I.hok a _ ea)
  exact PySem.W.kia_one PySem.W.kitx_list I.kIn ⟨_,h1,rfl⟩ e (fun z=>nomatch z) h
 | @frz a ob xs ea=>
  cases (show u=Value.ref a from rx)
  obtain ⟨_,_,_,n,_,h1⟩:=(show ObjOk X.prog X.w H s.heap a (.frz ob (.lst xs)) from I.hok a _ ea)
  exact PySem.W.kia_one PySem.W.kitx_list I.kIn ⟨_,h1,rfl⟩ e (fun z=>nomatch z) h
 | @tup a xs ea=>
  cases (show u=Value.ref a from rx)
  obtain ⟨_,_,_,p⟩:=(show ObjOk X.prog X.w H s.heap a (.tup xs) from I.hok a _ ea)
  obtain ⟨o,h1,h2,_⟩:=p
  exact PySem.W.kia_one PySem.W.kitx_tuple I.kIn ⟨o,h1,h2⟩ e (fun z=>nomatch z) h
 | @dK a kvs ea=>
  cases (show u=Value.ref a from rx)
  obtain ⟨_,_,vs,_,p⟩:=(show ObjOk X.prog X.w H s.heap a (.dK kvs) from I.hok a _ ea)
  obtain ⟨o,es,ep,h1,h2,_⟩:=p
  exact PySem.W.kia_one PySem.W.kitx_dict I.kIn ⟨o,h1,h2.1⟩ e (fun z=>nomatch z) h
 | @dT a kvs ea=>
  cases (show u=Value.ref a from rx)
  obtain ⟨_,_,xs,_,o,es,ep,h1,h2,_⟩:=(show ObjOk X.prog X.w H s.heap a (.dT kvs) from I.hok a _ ea)
  exact PySem.W.kia_one PySem.W.kitx_dict I.kIn ⟨o,h1,h2.1⟩ e (fun z=>nomatch z) h
 | @ins a C dx fs ea cl ha hn htk hm=>
  cases (show u=Value.ref a from rx)
  obtain ⟨mA,O,_⟩:=ins_get I.hok ea
  obtain ⟨od,J,_⟩:=O.look
  exact PySem.W.kia_one (PySem.W.kitx_own (cl.get _) cl.hd ha hn htk hm) I.kIn J e (fun z=>nomatch z) h
end
structure Room (k:Nat) (A:Around):Prop where
 hd:A.handled=none
 dp:A.depth+3 * k+5 < recursionLimit
 un:A.units+16 * k+200 < cLine
theorem Room.mono {j k:Nat} {A:Around} (r:Room k A) (h:j≤k):Room j A:=⟨r.hd,by have:=r.dp; omega,by have:=r.un; omega⟩
theorem Room.deeper {k:Nat} {A:Around} (r:Room (k+1) A) (env:Env):Room k (A.deeper env):=
 ⟨r.hd,by have:=r.dp; show A.depth+1+3 * k+5 < _; omega,by have:=r.un; show A.units+3+16 * k+200 < _; omega⟩
theorem Room.in1 {k:Nat} {A:Around} (r:Room (k+1) A):Room k A.in1:=
 ⟨r.hd,by have:=r.dp; show A.depth+3 * k+5 < _; omega,by have:=r.un; show A.units+1+16 * k+200 < _; omega⟩
theorem make_depth {A:Around} {C:Addr} {us:List Value} {kw:List (Str×Value)}:(A.under (.builtin "type.__call__" ⟨.ref C::us,kw⟩)).depth=A.depth+1:=by
 first | rfl | simp [Around.under,Code.weight,Code.isCreation,Code.isGuard,Code.isCaller,Code.frames,Code.isFrame,guardIds]
theorem make_units {A:Around} {C:Addr} {us:List Value} {kw:List (Str×Value)}:(A.under (.builtin "type.__call__" ⟨.ref C::us,kw⟩)).units=A.units+1:=by
 first | rfl | simp [Around.under,Code.cUnits,Code.frames,Code.isFrame]
theorem Room.make {k:Nat} {A:Around} (r:Room (k+1) A) (C:Addr) (us:List Value) (kw:List (Str×Value)):Room k (A.under (.builtin "type.__call__" ⟨.ref C::us,kw⟩)):=
 ⟨r.hd,by have:=r.dp; rw [make_depth]; omega,by have:=r.un; rw [make_units]; omega⟩
theorem Room.depth {k:Nat} {A:Around} (r:Room k A):A.depth < recursionLimit:=by have:=r.dp; omega
theorem Room.units {k:Nat} {A:Around} (r:Room k A):A.units+64 < cLine:=by have:=r.un; omega
theorem Room.units0 {k:Nat} {A:Around} (r:Room k A):A.units < cLine:=by have:=r.un; omega
def tNil:TA:=fun _ H Q=>Q [] H
def tCons (ta:TE) (tr:TA):TA:=fun σ H Q=>ta σ H fun x H1=>tr σ H1 fun xs H2=>Q (x::xs) H2
section
variable {X:Cx} {e:Expr} {es:List Expr} {te:TE} {t:TA} {pos:Pos}
theorem pa_nil:PA X [] tNil:=.mk fun _ _ _ _ H Q I h=>Calls.spliced_nil ⟨[],H,I,.nil,h⟩
theorem pa_cons (ha:PE X e te) (hr:PA X es t) (hs:starEach (e::es) X.env=(false,eval e X.env)::starEach es X.env:=by rfl):PA X (e::es) (tCons te t):=by
 refine .mk ?_
 intro pos pins s σ H Q I h
 rw [hs]
 show wpAny _ _ (spliced ((false,eval e X.env)::backTo pos (starEach es X.env))) _ _ s
 refine Calls.spliced_cons (thn (ha pins s σ H _ I h) fun u s1 ⟨x,H1,I1,r1,q1⟩=>?_)
 exact thn (hr pos pins s1 σ H1 _ I1 q1) fun us s2 ⟨xs,H2,I2,r2,q2⟩=>⟨x::xs,H2,I2,.cons r1 r2,q2⟩
def tTup (t:TA):TE:=fun σ H Q=>t σ H fun xs H1=>xs.length≤sizeLine∧∀ p,H1 p=none→Q (.ref p) (upd H1 p (.tup xs))
def tLst (t:TA):TE:=fun σ H Q=>t σ H fun xs H1=>xs.length≤sizeLine∧∀ p,H1 p=none→Q (.ref p) (upd H1 p (.lst xs))
theorem pe_tup {x1} (h:PA X es t):PE X (.Tuple es x1 pos) (tTup t):=by
 refine .mk ?_
 intro pins s σ H Q I hq
 refine wpAny_Tuple_spliced (thn (h pos pins s σ H _ I hq) fun us s1 ⟨xs,H1,I1,r,z,q⟩=>⟨by rw [← r.length]; exact z,?_⟩)
 have hf:H1 s1.heap.objs.size=none:=I1.hok.fresh (Nat.le_refl _)
 refine ⟨.ref s1.heap.objs.size,upd H1 s1.heap.objs.size (.tup xs),I1.laid (t':=s1.toks) (fun b u e=>Heap.get?_push_of_some _ e) (Nat.le_refl _) ?_,rfl,q _ hf⟩
 exact ⟨z,us,r,⟨_,Heap.get?_push_size _ rfl,rfl,_,rfl⟩⟩
theorem pe_lst (h:PA X es t):PE X (.List es pos) (tLst t):=by
 refine .mk ?_
 intro pins s σ H Q I hq
 refine wpAny_List_spliced (thn (h pos pins s σ H _ I hq) fun us s1 ⟨xs,H1,I1,r,z,q⟩=>⟨by rw [← r.length]; exact z,?_⟩)
 have hf:H1 s1.heap.objs.size=none:=I1.hok.fresh (Nat.le_refl _)
 refine ⟨.ref s1.heap.objs.size,upd H1 s1.heap.objs.size (.lst xs),I1.laid (t':=s1.toks) (fun b u e=>Heap.get?_push_of_some _ e) (Nat.le_refl _) ?_,rfl,q _ hf⟩
 exact ⟨z,us,0,r,Heap.get?_push_size _ rfl⟩
end
abbrev Sp:=List V→Hp→VK→XK→Prop
abbrev CXT:=List Env→Hp→Shared→XK→Value→Shared→Prop
structure Env0 (P:Program) (w:World) (K:PySem.W.Frag) (mg:Str→Option Value) (base:Heap) (A:Around) (outer:List Env) (s:Shared) (H:Hp):Prop where
 frames:A.frames=some outer
 mod:Mod K mg base
 bs:∀ b o,base.get? b=some o→s.heap.get? b=some o∧H b=none
 bsz:base.objs.size≤s.heap.objs.size
 funs:s.heap.FunFrames base outer
 frf:∀ b∈frs outer,H b=none
 hok:HOk P w H s.heap
 bare:AllBare s.gens
def CE (outer:List Env) (P:Program) (w:World) (H:Hp) (s:Shared) (Q:VK) (u:Value) (s':Shared):Prop:=
 ∃ v H',s'.os=s.os∧AllBare s'.gens∧Un (frs outer) [] H H' s.heap s'.heap∧HOk P w H' s'.heap∧RelV v u∧Q v H'
def CR (CX:CXT) (outer:List Env) (P:Program) (w:World) (H:Hp) (s:Shared) (Q:VK) (E:XK) (r:Result) (s':Shared):Prop:=
 match r with
 | .ok (.ret u)=>CE outer P w H s Q u s'
 | .ok _=>False
 | .error e=>CX outer H s E e s'
structure FnOk (P:Program) (w:World) (K:PySem.W.Frag) (mg:Str→Option Value) (base:Heap) (CX:CXT) (k:Nat) (f:Addr) (fd:FuncData) (ps:List Str) (sp:Sp):Prop where
 len:∀ vs H Q E,sp vs H Q E→vs.length=ps.length
 run:∀ (A:Around) (outer:List Env) (s:Shared) (H:Hp) (args:Args) (us:List Value) (vs:List V) (Q:VK) (E:XK),Room k A→Env0 P w K mg base A outer s H→BindsTo s fd args (ps.zip us)→Vals vs us→sp vs H Q E →
  codeAny (model P w) A (.call (.ref f) args) (CR CX outer P w H s Q E) s
theorem FnOk.mono {P:Program} {w:World} {K:PySem.W.Frag} {mg:Str→Option Value} {base:Heap} {CX:CXT} {j k:Nat} {f:Addr} {fd:FuncData} {ps:List Str} {sp:Sp} (F:FnOk P w K mg base CX j f fd ps sp) (h:j≤k) :
  FnOk P w K mg base CX k f fd ps sp:=⟨F.len,fun A outer s H args us vs Q E hr=>F.run A outer s H args us vs Q E (hr.mono h)⟩
theorem FnOk.imp {P:Program} {w:World} {K:PySem.W.Frag} {mg:Str→Option Value} {base:Heap} {CX:CXT} {k:Nat} {f:Addr} {fd:FuncData} {ps:List Str} {sp sp':Sp} (F:FnOk P w K mg base CX k f fd ps sp)
  (h:∀ vs H Q E,sp' vs H Q E→sp vs H Q E):FnOk P w K mg base CX k f fd ps sp':=
 ⟨fun vs H Q E q=>F.len vs H Q E (h _ _ _ _ q),fun A outer s H args us vs Q E hr he hb hv hs=>F.run A outer s H args us vs Q E hr he hb hv (h _ _ _ _ hs)⟩
theorem Env0.make {P:Program} {w:World} {K:PySem.W.Frag} {mg:Str→Option Value} {base:Heap} {A:Around} {outer:List Env} {s:Shared} {H:Hp} (e:Env0 P w K mg base A outer s H) (C:Addr) (us:List Value) (kw:List (Str×Value)) :
  Env0 P w K mg base (A.under (.builtin "type.__call__" ⟨.ref C::us,kw⟩)) outer s H:=⟨by first | exact e.frames | (simpa [Around.under,Code.envs,Code.isFrame,pushEnvs] using e.frames),e.mod,e.bs,e.bsz,e.funs,e.frf,e.hok,e.bare⟩
theorem Env0.in1 {P:Program} {w:World} {K:PySem.W.Frag} {mg:Str→Option Value} {base:Heap} {A:Around} {outer:List Env} {s:Shared} {H:Hp} (e:Env0 P w K mg base A outer s H) :
  Env0 P w K mg base A.in1 outer s H:=⟨e.frames,e.mod,e.bs,e.bsz,e.funs,e.frf,e.hok,e.bare⟩
section
variable {X:Cx} {pins:List (Addr×Obj)} {σ:St} {H:Hp} {s s':Shared}
theorem Inv.env0 (I:Inv X pins σ H s):Env0 X.prog X.w X.K X.mg X.base X.A X.stack s H:=
 ⟨I.ok.frames,I.ok.mod,I.bs,Nat.le_trans I.ok.bsz I.sz,I.stack,I.stkFree,I.hok,I.bare⟩
theorem Inv.after {Q:VK} {u:Value} (I:Inv X pins σ H s) (h:CE X.stack X.prog X.w H s Q u s'):EP X pins σ Q u s':=by
 obtain ⟨v,H',os,bare,un,hok,r,q⟩:=h
 obtain ⟨hh,g,d,t,os'⟩:=s'
 obtain rfl:os'=s.os:=os
 exact ⟨v,H',I.call (h':=hh) (g':=g) (d':=d) (t':=t) (ch:=[]) un hok bare (fun b z=>absurd z (by simp)),r,q⟩
end
def tCall (sp:Sp) (dvs:List V) (E:XK) (t:TA):TE:=fun σ H Q=>t σ H fun vs H1=>sp (vs++dvs) H1 Q E
def Binds (K:PySem.W.Frag) (fd:FuncData) (ps:List Str) (ds:List Value):Prop:=
 ∀ (s:Shared) (us:List Value),K.In s.heap→(us++ds).length=ps.length→BindsTo s fd ⟨us,[]⟩ (ps.zip (us++ds))
theorem Binds.all {K:PySem.W.Frag} {fd:FuncData} {ps:List Str} (h:∀ us:List Value,us.length=ps.length→bindArgs fd ⟨us,[]⟩=pure (ps.zip us)):Binds K fd ps []:=fun s us _ hl=>by
 rw [List.append_nil] at hl ⊢
 exact .of_eq (h us hl)
def Passes (CX:CXT) (X:Cx) (E:XK):Prop:=∀ (pins:List (Addr×Obj)) (σ:St) (H:Hp) (s:Shared) (e:Value) (s':Shared),Inv X pins σ H s→CX X.stack H s E e s'→X.xe e s'
section
variable {X:Cx} {CX:CXT} {k:Nat} {f C:Addr} {fd:FuncData} {ps:List Str} {sp:Sp} {dvs:List V} {ds:List Value} {E:XK} {x m:Str} {p pos apos:Pos} {e o:Expr} {es:List Expr} {ta:TE} {t:TA}
theorem run_fn {pins:List (Addr×Obj)} {σ:St} {H:Hp} {s:Shared} {Q:VK} {us:List Value} {vs:List V} (F:FnOk X.prog X.w X.K X.mg X.base CX k f fd ps sp) (hr:Room k X.A) (hb:Binds X.K fd ps ds) (hd:Vals dvs ds) (hx:Passes CX X E)
  (I:Inv X pins σ H s) (r:Vals vs us) (h:sp (vs++dvs) H Q E):wpAny (model X.prog X.w) X.A (call (.ref f) us) (EP X pins σ Q) X.xe s:=by
 have r2:Vals (vs++dvs) (us++ds):=r.append hd
 have hl:(us++ds).length=ps.length:=by rw [← r2.length]; exact F.len _ _ _ _ h
 refine wpAny_call (codeAny_mono (F.run X.A X.stack s H ⟨us,[]⟩ (us++ds) (vs++dvs) Q E hr I.env0 (hb s us I.kIn hl) r2 h) fun r s' hq=>?_)
 cases r with
 | error e=>exact hx pins σ H s e s' I hq
 | ok fl=>
  cases fl with
  | ret u=>exact I.after hq
  | next=>exact False.elim hq
  | brk=>exact False.elim hq
  | cont=>exact False.elim hq
theorem pe_call (F:FnOk X.prog X.w X.K X.mg X.base CX k f fd ps sp) (hr:Room k X.A) (hg:Gl X x) (hm:X.mg x=some (.ref f)) (hk:PySem.W.keepIn X.K (.ref f)=true) (hb:Binds X.K fd ps ds) (hd:Vals dvs ds) (hx:Passes CX X E)
  (ha:PA X (e::es) t) (hdb:(x == ("__debug__" : Str))=false:=by decide) (he:starEach (e::es) X.env=(false,eval e X.env)::starEach es X.env:=by rfl) (hpl:(backTo pos (starEach es X.env)).any (·.1)=false:=by rfl) :
  PE X (.Call (.Name x p) (e::es) [] pos) (tCall sp dvs E t):=by
 refine .mk ?_
 intro pins s σ H Q I h
 refine wpAny_Call_Name_kw (ld_glob I hg hm ?_ hdb)
 refine PySem.W.callWith_K (h₀:=X.base) I.ok.mod.kin hk (thn (ha pos pins s σ H _ I h) fun us s1 ⟨vs,H1,I1,r,q⟩=>⟨I1.kIn,?_⟩) he hpl
 exact run_fn F hr hb hd hx I1 r q
end
structure PK (X:Cx) (kws:List Keyword) (t:TA):Prop where
 run:∀ (pos:Pos) (pins:List (Addr×Obj)) (s:Shared) (σ:St) (H:Hp) (Q:List V→Hp→Prop),Inv X pins σ H s→t σ H Q→wpAny (model X.prog X.w) X.A (evalAll ((backToKw pos (keywordEach kws X.env)).map (·.2))) (AP X pins σ Q) X.xe s
instance {X:Cx} {kws:List Keyword} {t:TA}:CoeFun (PK X kws t) fun _=>∀ (pos:Pos) (pins:List (Addr×Obj)) (s:Shared) (σ:St) (H:Hp) (Q:List V→Hp→Prop),Inv X pins σ H s→t σ H Q→wpAny (model X.prog X.w) X.A (evalAll ((backToKw pos (keywordEach kws X.env)).map (·.2))) (AP X pins σ Q) X.xe s:=⟨PK.run⟩
section
variable {X:Cx} {CX:CXT} {k:Nat} {f C:Addr} {fd:FuncData} {ps ks:List Str} {sp:Sp} {E:XK} {x m:Str} {p pos apos kpos:Pos} {e o:Expr} {es:List Expr} {kws:List Keyword} {te ta:TE} {t tk:TA} {nm:Option Str}
theorem pk_nil:PK X [] tNil:=.mk fun _ _ _ _ H Q I h=>wpAny_evalAll_nil ⟨[],H,I,.nil,h⟩
theorem pk_cons (ha:PE X e te) (hr:PK X kws t):PK X (⟨nm,e,kpos⟩::kws) (tCons te t):=by
 refine .mk ?_
 intro pos pins s σ H Q I h
 show wpAny _ _ (evalAll ((do let v ← eval e X.env; standAt pos; pure v)::(backToKw pos (keywordEach kws X.env)).map (·.2))) _ _ s
 refine wpAny_evalAll_cons (wpAny_bind (thn (ha pins s σ H _ I h) fun u s1 ⟨x,H1,I1,r1,q1⟩=>wpAny_bind (wpAny_standAt (wpAny_pure ?_))))
 exact thn (hr pos pins s1 σ H1 _ I1 q1) fun us s2 ⟨xs,H2,I2,r2,q2⟩=>⟨x::xs,H2,I2,.cons r1 r2,q2⟩
variable {g:List Value→List Value→List Value} {gV:List V→List V→List V}
end
structure FnScope (N P:List Str) (sc:Scope):Prop where
 kind:sc.kind=.function
 co:sc.isCoroutine=false
 gen:sc.isGenerator=false
 nd:N.Nodup
 pre:N.take P.length=P
 par:∀ x∈P,sc.names.lookup x=some .local∨sc.names.lookup x=some .cell
 nofree:∀ y∈sc.names,y.2≠.free
theorem bindL_out {kindOf:Str→Option NameKind} {x:Str}:∀ {binds:List (Str×Value)} {m:Str→Option Value},(∀ v,(x,v)∉binds)→bindL kindOf binds m x=m x
 | [],_,_=>rfl
 | (n,v)::r,m,h=>by
  unfold bindL
  rw [bindL_out fun w hw=>h w (List.mem_cons_of_mem _ hw)]
  split
  ·have:x≠n:=by rintro rfl; exact h v List.mem_cons_self
   simp [this]
  ·rfl
theorem bindC_out {kindOf:Str→Option NameKind} {x:Str}:∀ {binds:List (Str×Value)} {m:Str→Option Value},(∀ v,(x,v)∉binds)→bindC kindOf binds m x=m x
 | [],_,_=>rfl
 | (n,v)::r,m,h=>by
  unfold bindC
  rw [bindC_out fun w hw=>h w (List.mem_cons_of_mem _ hw)]
  split
  ·rfl
  ·have:x≠n:=by rintro rfl; exact h v List.mem_cons_self
   simp [this]
theorem bindL_get {kindOf:Str→Option NameKind} {x:Str} {v:Value}:∀ {P:List Str} {vs:List Value} {i:Nat} {m:Str→Option Value},P.Nodup→P[i]? = some x→vs[i]? = some v→kindOf x=some .local →
  bindL kindOf (P.zip vs) m x=some v
 | [],_,_,_,_,h,_,_=>by simp at h
 | _::_,[],_,_,_,_,h,_=>by simp at h
 | p::P,w::vs,0,m,nd,h1,h2,hk=>by
  simp at h1 h2; subst h1; subst h2
  show bindL kindOf ((p,w)::P.zip vs) m p=_
  unfold bindL
  rw [bindL_out fun v hv=>(List.nodup_cons.mp nd).1 (List.of_mem_zip hv).1,if_pos hk]
  simp
 | p::P,w::vs,i+1,m,nd,h1,h2,hk=>by
  show bindL kindOf ((p,w)::P.zip vs) m x=_
  unfold bindL
  exact bindL_get (i:=i) (List.nodup_cons.mp nd).2 (by simpa using h1) (by simpa using h2) hk
theorem bindC_get {kindOf:Str→Option NameKind} {x:Str} {v:Value}:∀ {P:List Str} {vs:List Value} {i:Nat} {m:Str→Option Value},P.Nodup→P[i]? = some x→vs[i]? = some v→kindOf x≠some .local →
  bindC kindOf (P.zip vs) m x=some v
 | [],_,_,_,_,h,_,_=>by simp at h
 | _::_,[],_,_,_,_,h,_=>by simp at h
 | p::P,w::vs,0,m,nd,h1,h2,hk=>by
  simp at h1 h2; subst h1; subst h2
  show bindC kindOf ((p,w)::P.zip vs) m p=_
  unfold bindC
  rw [bindC_out fun v hv=>(List.nodup_cons.mp nd).1 (List.of_mem_zip hv).1,if_neg hk]
  simp
 | p::P,w::vs,i+1,m,nd,h1,h2,hk=>by
  show bindC kindOf ((p,w)::P.zip vs) m x=_
  unfold bindC
  exact bindC_get (i:=i) (List.nodup_cons.mp nd).2 (by simpa using h1) (by simpa using h2) hk
def start (N:List Str) (vs:List V):St:=vs.map some++List.replicate (N.length-vs.length) none
def cxOf (CX:CXT) (P:Program) (w:World) (K:PySem.W.Frag) (mg:Str→Option Value) (base:Heap) (N:List Str) (qual:Str) (scope:Scope) (f:Addr) (cd:Value) (A:Around) (outer:List Env) (s:Shared) (H:Hp) (E:XK):Cx where
 prog:=P
 w:=w
 K:=K
 mg:=mg
 base:=base
 A:=A.deeper (envOfC qual scope s.heap.objs.size f cd)
 N:=N
 s₀:=s
 H₀:=H
 env:=envOfC qual scope s.heap.objs.size f cd
 outer:=outer
 stack:=envOfC qual scope s.heap.objs.size f cd::outer
 ex:=[]
 calm:=true
 fn:=fun _=>true
 pn:=[]
 xe:=fun e s'=>wpAny (model P w) (A.deeper (envOfC qual scope s.heap.objs.size f cd)) (leaving (envOfC qual scope s.heap.objs.size f cd) e) (fun _ s''=>CX outer H s E e s'') (fun e' s''=>CX outer H s E e' s'') s'
theorem cell_has {sc:Scope} {n:Nat} {x:Str} (h:sc.names.lookup x=some .cell):∃ c,(cellsFrom n sc.names []).lookup x=some c:=by
 have q:=PySem.W.cellsFrom_some sc.names n [] (.inl h)
 exact Option.isSome_iff_exists.mp q
theorem inv_start {CX:CXT} {P:Program} {w:World} {K:PySem.W.Frag} {mg:Str→Option Value} {base:Heap} {N ps:List Str} {qual:Str} {scope:Scope} {f:Addr} {cd:Value} {A:Around} {outer:List Env} {s s1:Shared} {H:Hp} {E:XK} {us:List Value} {vs:List V}
  (S:FnScope N ps scope) (hd:A.handled=none) (e0:Env0 P w K mg base A outer s H) (hl:vs.length=ps.length) (r:Vals vs us)
  (x:InCallC s s.heap.objs.size (bindL (envOfC qual scope s.heap.objs.size f cd).kindOf (ps.zip us) fun _=>none) (cellsFrom (s.heap.objs.size+1) scope.names []) (bindC (envOfC qual scope s.heap.objs.size f cd).kindOf (ps.zip us) fun _=>none) s1) :
  Inv (cxOf CX P w K mg base N qual scope f cd A outer s H E) [] (start N vs) H s1:=by
 have hpl:ps.length≤N.length:=by have:=congrArg List.length S.pre; rw [List.length_take] at this; omega
 obtain ⟨h1,tk,rfl,hk⟩:=x.done
 have noA:∀ b:Addr,b∉(cxOf CX P w K mg base N qual scope f cd A outer s H E).ex:=fun b z=>absurd (show b∈([]:List Addr) from z) (by simp)
 refine ⟨⟨e0.mod,S.kind,rfl,rfl,Nat.le_refl _,fun y z c h1 h2=>?_,fun y hy=>?_,fun y c _ h=>?_,fun _=>hd,Around.frames_deeper e0.frames,.inr ⟨rfl,rfl⟩,fun b z=>absurd z (noA b),e0.bs,e0.bsz,fun b _ _=>noA b,fun b z=>absurd z (noA b),e0.funs,e0.frf⟩,
  rfl,e0.bare,Un.kept hk,⟨_,x.toInCall.ns,fun i y v h1 h2 h3=>?_⟩,fun y c h=>⟨_,x.cell y c h⟩,e0.hok.fresh (Nat.le_refl _),fun y c h=>?_,fun p hp=>absurd (show p∈([]:List (Addr×Obj)) from hp) (by simp),e0.hok.kept hk,?_⟩
 ·exact name_of_addr x.apart (PySem.mem_of_lookup h1) (PySem.mem_of_lookup h2)
 ·have hy:scope.names.lookup y=some .cell∨scope.names.lookup y=some .free:=hy
  rcases hy with hy | hy
  ·exact cell_has hy
  ·exact absurd rfl (S.nofree _ (PySem.mem_of_lookup hy))
 ·exact Nat.le_of_lt (x.above y c (PySem.mem_of_lookup h))
 ·have hi:i < vs.length:=by
   unfold start at h2
   by_cases hi:i < vs.length
   ·exact hi
   ·rw [List.getElem?_append_right (by simpa using hi)] at h2
    rw [List.getElem?_replicate] at h2
    split at h2 <;> cases h2
  have ha:vs[i]? = some v:=by
   unfold start at h2
   rw [List.getElem?_append_left (by simpa using hi),List.getElem?_map] at h2
   cases e:vs[i]? with
   | none=>rw [e] at h2; cases h2
   | some a=>rw [e] at h2; cases h2; rfl
  obtain ⟨u,hu,rv⟩:=r.get ha
  have hp:ps[i]? = some y:=by
   rw [← S.pre,List.getElem?_take_of_lt (by omega)]; exact h1
  have ndP:ps.Nodup:=by rw [← S.pre]; exact S.nd.sublist (List.take_sublist _ _)
  refine ⟨u,rv,?_⟩
  rcases S.par y (List.mem_of_getElem? hp) with k | k
  ·exact .inl ⟨k,bindL_get ndP hp hu k⟩
  ·obtain ⟨c,e⟩:=cell_has (n:=s.heap.objs.size+1) k
   refine .inr ⟨.inl k,c,e,?_⟩
   have q:=x.cell y c e
   rw [bindC_get ndP hp hu (by show scope.names.lookup y≠_; rw [k]; decide)] at q
   exact q
 ·exact e0.hok.fresh (Nat.le_of_lt (x.above y c (PySem.mem_of_lookup h)))
 ·unfold start
  show _=N.length
  rw [List.length_append,List.length_map,List.length_replicate]
  omega
theorem fn_of {CX:CXT} {P:Program} {w:World} {K:PySem.W.Frag} {mg:Str→Option Value} {base:Heap} {k:Nat} {f:Addr} {name qual:Str} {params:Arguments} {body:List Stmt} {scope:Scope} {dV kV doc pm cdv ct oc:Value} {an od:Option Addr}
  {osl:Array (Option Value)} {N ps:List Str} {sp:Sp} (lk:K.lookup f=some ⟨oc,od,.func (PySem.W.fnOf name qual params body scope dV kV doc pm an cdv ct),osl⟩) (hcd:PySem.W.codeIn K cdv qual=true) (S:FnScope N ps scope)
  (len:∀ vs H Q E,sp vs H Q E→vs.length=ps.length)
  (hbody:∀ (A:Around) (outer:List Env) (s:Shared) (H:Hp) (vs:List V) (Q:VK) (E:XK),Room k (A.deeper (envOfC qual scope s.heap.objs.size f cdv))→sp vs H Q E →
   ∃ t,PSs (cxOf CX P w K mg base N qual scope f cdv A outer s H E) body t∧t { nx:=fun _ H'=>Q .non H',rt:=Q } (start N vs) H) :
  FnOk P w K mg base CX (k+1) f (PySem.W.fnOf name qual params body scope dV kV doc pm an cdv ct) ps sp:=by
 refine ⟨len,fun A outer s H args us vs Q E hr e0 hb r hsp=>?_⟩
 have hl:=len _ _ _ _ hsp
 have KX:K.In s.heap:=e0.mod.kin.keeps fun b o e=>(e0.bs b o e).1
 have lim:s.heap.NoLimit:=e0.mod.nolimit.keeps fun b o e=>(e0.bs b o e).1
 have hkind:∀ y∈ps.zip us,scope.names.lookup y.1=some .local∨(scope.names.lookup y.1=some .cell∧((cellsFrom (s.heap.objs.size+1) scope.names []).lookup y.1).isSome=true):=fun ⟨n,v⟩ hy=>by
  rcases S.par n (List.of_mem_zip hy).1 with q | q
  ·exact .inl q
  ·exact .inr ⟨q,PySem.W.cellsFrom_some _ _ _ (.inl q)⟩
 refine codeAny_call_function hr.depth (KX _ _ lk) rfl S.co S.gen rfl (PySem.W.codeRec_of KX hcd) (hb _ _ _ _ ?_)
 refine wpAny_newFunctionEnv_cells S.kind hkind fun env he s1 x=>?_
 subst he
 refine ⟨lim.keeps x.toInCall.keep,codeAny_func ?_⟩
 obtain ⟨t,ht,hq⟩:=hbody A outer s H vs Q E (hr.deeper _) hsp
 have I:Inv (cxOf CX P w K mg base N qual scope f cdv A outer s H E) [] (start N vs) H s1:=inv_start S hr.hd e0 hl r x
 refine wpAny_mono (ht [] s1 (start N vs) H _ I hq) (fun fl s' hs=>?_) fun e s' hs=>hs
 have fin:∀ {σ':St} {H':Hp} {v:V} {u:Value},Inv (cxOf CX P w K mg base N qual scope f cdv A outer s H E) [] σ' H' s'→RelV v u→Q v H'→CE outer P w H s Q u s':=
  fun {σ' H' v u} J rv q=>⟨v,H',J.os,J.bare,J.base,J.hok,rv,q⟩
 cases fl with
 | ret u=>
  obtain ⟨v,σ',H',J,rv,q⟩:=hs
  exact fin J rv q
 | next=>
  obtain ⟨σ',H',J,q⟩:=hs
  exact fin (v:=V.non) (u:=Value.none) J rfl q
 | brk=>
  obtain ⟨_,_,_,q⟩:=hs
  exact False.elim q
 | cont=>
  obtain ⟨_,_,_,q⟩:=hs
  exact False.elim q
section
variable {X:Cx} {x:Str} {p pos:Pos} {e:Expr} {es:List Expr} {t:TA} {id T:String} {r:List V→Hp→VK→Prop}
def tCB (r:List V→Hp→VK→Prop) (t:TA):TE:=fun σ H Q=>t σ H fun vs H1=>r vs H1 Q
theorem pe_callB (hc:CallR X (.builtin id) r) (hg:Gl X x) (hm:X.mg x=none) (hv:bootBuiltins x=some (.builtin id)) (ha:PA X (e::es) t) (hn:x ≠ "__name__" := by decide) (hdb:(x == ("__debug__" : Str))=false:=by decide)
  (he:starEach (e::es) X.env=(false,eval e X.env)::starEach es X.env:=by rfl) (hpl:(backTo pos (starEach es X.env)).any (·.1)=false:=by rfl):PE X (.Call (.Name x p) (e::es) [] pos) (tCB r t):=by
 refine .mk ?_
 intro pins s σ H Q I h
 refine wpAny_Call_Name_kw (ld_blt I hg hm hv ?_ hn hdb)
 exact PyProof.Rows.callWith_builtin1 (thn (ha pos pins s σ H _ I h) fun us s1 ⟨vs,H1,I1,r1,q1⟩=>hc pins s1 σ H1 vs us Q I1 r1 q1) he hpl
theorem pe_callTy (hc:CallR X (.type T) r) (hg:Gl X x) (hm:X.mg x=none) (hv:bootBuiltins x=some (.type T)) (ha:PA X (e::es) t) (hn:x ≠ "__name__" := by decide) (hdb:(x == ("__debug__" : Str))=false:=by decide)
  (he:starEach (e::es) X.env=(false,eval e X.env)::starEach es X.env:=by rfl) (hpl:(backTo pos (starEach es X.env)).any (·.1)=false:=by rfl):PE X (.Call (.Name x p) (e::es) [] pos) (tCB r t):=by
 refine .mk ?_
 intro pins s σ H Q I h
 refine wpAny_Call_Name_kw (ld_blt I hg hm hv ?_ hn hdb)
 exact PyProof.Rows.callWith_type1 (thn (ha pos pins s σ H _ I h) fun us s1 ⟨vs,H1,I1,r1,q1⟩=>hc pins s1 σ H1 vs us Q I1 r1 q1) he hpl
end
end L2
namespace HT
open PySem PyProof.Rows
section
open PySem.SeqAt
open PySem.AutoSeq1 (wpAny_loadPart')
open PySem.MeetsSeq PySem.MeetsSeq2 PySem.MeetsSeq3
end
section
variable {prog:Program} {w:World} {A:Around} {E:Value→Shared→Prop} {s:Shared}
theorem cat_tup {t b:Addr} {vs ws:List Value} {Q:Value→Shared→Prop} (ht:IsTup s.heap t vs.toArray) (hb:IsTup s.heap b ws.toArray) (hv:vs≠[])
  (h1:ws=[]→Q (.ref t) s) (h2:ws≠[]→Q (.ref s.heap.objs.size) { s with heap:=s.heap.push { cls:=.type "tuple",data:=.seq (vs++ws).toArray } })
  (hsz:vs.length+ws.length≤sizeLine):wpAny (model prog w) A (binaryOp .Add (.ref t) (.ref b)) Q E s:=by
 obtain ⟨⟨cls,dd,data,sl⟩,ho,hc,n,hd⟩:=id ht
 obtain ⟨⟨cls2,dd2,data2,sl2⟩,ho2,hc2,n2,hd2⟩:=id hb
 simp only at hc hd hc2 hd2
 subst hc hd hc2 hd2
 have e:vs.toArray++ws.toArray=(vs++ws).toArray:=by simp
 by_cases hw:ws=[]
 ·exact concat_meets ⟨_,ho,rfl⟩ ⟨_,ho2,rfl⟩ noFill_tuple_add seq_tuple_add PySem.F.slot_tuple_add PySem.F.entry_tuple_add (PySem.F.args_tuple_add_2 _ _)
   (tuple_addW1 t b vs.toArray ws.toArray n n2 dd dd2 sl sl2 (by simpa using hv) (by simp [hw])) ⟨ho,ho2,h1 hw⟩
 ·refine concat_meets ⟨_,ho,rfl⟩ ⟨_,ho2,rfl⟩ noFill_tuple_add seq_tuple_add PySem.F.slot_tuple_add PySem.F.entry_tuple_add (PySem.F.args_tuple_add_2 _ _)
   (tuple_addW2 t b vs.toArray ws.toArray n n2 dd dd2 sl sl2 (by simpa using hv) (by simpa using hw) (by rw [List.size_toArray,List.size_toArray]; exact hsz)) ⟨ho,ho2,?_⟩
  rw [e]
  exact h2 hw
def sIx (n d:Nat):Option Int→Nat
 | none=>d
 | some v=>if v < 0 then (v+(n:Int)).toNat else min v.toNat n
theorem sIx_none (n d:Nat):sIx n d none=d:=rfl
theorem sIx_le (n d:Nat) (hd:d≤n) (o:Option Int):sIx n d o≤n:=by
 cases o with
 | none=>exact hd
 | some v=>
  show (if v < 0 then (v+(n:Int)).toNat else min v.toNat n)≤n
  by_cases hv:v < 0
  ·rw [if_pos hv]; omega
  ·rw [if_neg hv]; exact Nat.min_le_right _ _
theorem clip_eq (v:Int) (n d:Nat):(if v < 0 then max (v+(n:Int)) 0 else min v (n:Int))=((sIx n d (some v):Nat):Int):=by
 show (if v < 0 then max (v+(n:Int)) 0 else min v (n:Int))=(((if v < 0 then (v+(n:Int)).toNat else min v.toNat n):Nat):Int)
 by_cases hv:v < 0
 ·simp only [if_pos hv]; omega
 ·simp only [if_neg hv]; omega
theorem adjust_gen (lo hi:Option Int) (n:Nat):Builtin.Slice.sliceAdjust lo hi 1 (n:Int)=(((sIx n 0 lo:Nat):Int),((sIx n n hi:Nat):Int)):=by
 have h1:¬ ((1:Int) < 0):=by omega
 unfold Builtin.Slice.sliceAdjust
 simp only [h1,if_false]
 refine Prod.ext ?_ ?_
 ·cases lo with
  | none=>rfl
  | some v=>exact clip_eq v n 0
 ·cases hi with
  | none=>rfl
  | some v=>exact clip_eq v n n
theorem places_gen (i j:Nat):Builtin.Slice.slicePlaces (i:Int) (j:Int) 1=j-i:=by
 unfold Builtin.Slice.slicePlaces
 have h1:(1:Int) > 0:=by omega
 simp only [h1,if_true,Int.ediv_one]
 split <;> omega
theorem slicePart_ {v:Value} {o:Option Int} {Q:Option Int→Shared→Prop} (p:IsPart v o) (h:Q o s):wpAny (model prog w) A (Builtin.Slice.slicePartIndex v) Q E s:=by
 cases p with
 | none=>exact slicePart_none h
 | int i t=>exact slicePart_int h
theorem sliceApplied_gen {sl:Addr} {vl vu:Value} {lo hi:Option Int} {n:Nat} {Q:Int×Int×Nat→Shared→Prop} (hs:s.heap.IsSliceOf sl vl vu .none) (pl:IsPart vl lo) (pu:IsPart vu hi)
  (h:Q (((sIx n 0 lo:Nat):Int),1,sIx n n hi-sIx n 0 lo) s):wpAny (model prog w) A (Builtin.Slice.sliceApplied (.ref sl) (pure (n:Int))) Q E s:=by
 obtain ⟨os,hos,hcs,hds⟩:=id hs
 unfold Builtin.Slice.sliceApplied Builtin.Slice.sliceFields
 refine wpAny_bind (wpAny_bind (wpAny_field hos hds (x:=vl) rfl (wpAny_bind (wpAny_field hos hds (x:=vu) rfl (wpAny_bind (wpAny_field hos hds (x:=.none) rfl (wpAny_pure ?_)))))))
 refine wpAny_bind (slicePart_none ?_)
 show wpAny _ _ (if ((1:Int) == 0)=true then _ else _) _ _ s
 rw [if_neg (by decide)]
 refine wpAny_bind (slicePart_ pl (wpAny_bind (slicePart_ pu (wpAny_bind (wpAny_pure ?_)))))
 show wpAny _ _ (match Builtin.Slice.sliceAdjust lo hi 1 (n:Int) with | (lo,hi)=>pure (lo,(1:Int),Builtin.Slice.slicePlaces lo hi 1)) _ _ s
 rw [adjust_gen lo hi n]
 show wpAny _ _ (pure (((sIx n 0 lo:Nat):Int),(1:Int),Builtin.Slice.slicePlaces ((sIx n 0 lo:Nat):Int) ((sIx n n hi:Nat):Int) 1)) _ _ s
 rw [places_gen]
 exact wpAny_pure h
theorem pick_gen (xs:Array Value) (i k:Nat):((List.range k).filterMap fun (m:Nat)=>xs[((i:Int)+(m:Int) * 1).toNat]?).toArray=((xs.toList.drop i).take k).toArray:=by
 have e:(fun (m:Nat)=>xs[((i:Int)+(m:Int) * 1).toNat]?)=fun m=>xs[i+m]? := by
  funext m
  have:((i:Int)+(m:Int) * 1).toNat=i+m:=by omega
  rw [this]
 rw [e]
 have:=pick_run xs i k
 rw [List.filterMap_map] at this
 have e2:((fun x=>xs[x]?) ∘ fun x=>i+x)=fun m=>xs[i+m]? := rfl
 rw [e2] at this
 rw [this]
theorem getItem_tuple_cut {t sl:Addr} {items:Array Value} {vl vu:Value} {lo hi:Option Int} {Q:Value→Shared→Prop} (ht:IsTup s.heap t items) (hs:s.heap.IsSliceOf sl vl vu .none) (pl:IsPart vl lo) (pu:IsPart vu hi)
  (hw:¬ (sIx items.size 0 lo=0∧sIx items.size items.size hi=items.size))
  (h:Q (.ref s.heap.objs.size) { s with heap:=s.heap.push { cls:=.type "tuple",data:=.seq ((items.toList.drop (sIx items.size 0 lo)).take (sIx items.size items.size hi-sIx items.size 0 lo)).toArray } })
  (hsz:items.size≤sizeLine):wpAny (model prog w) A (getItem (.ref t) (.ref sl)) Q E s:=by
 have htake:sizeOk (.seq ((items.toList.drop (sIx items.size 0 lo)).take (sIx items.size items.size hi-sIx items.size 0 lo)).toArray):=by
  show ((items.toList.drop (sIx items.size 0 lo)).take (sIx items.size items.size hi-sIx items.size 0 lo)).toArray.size≤sizeLine
  rw [List.size_toArray,List.length_take,List.length_drop,Array.length_toList]
  omega
 have hj:sIx items.size items.size hi≤items.size:=sIx_le _ _ (Nat.le_refl _) hi
 obtain ⟨os,hos,hcs,hds⟩:=id hs
 have hTs:s.TypeIs (.ref sl) "slice" := ⟨os,hos,hcs⟩
 unfold getItem
 try with_reducible refine wpAny_holding ?_
 first | refine wpAny_bind (wpAny_pure ?_) | skip
 refine wpAny_bind (wpAny_sequenceKey ht.typeIs (by decide) ?_)
 refine wpAny_bind (wpAny_callSpecial?_slot (name:=Str.ofString "__getitem__") ht.typeIs PyProof.Rows.slot_tuple_getitem
  (wpAny_call_entry PyProof.Rows.slot_tuple_getitem ht.typeIs entry_tuple_getitem ?_ (args_tuple_getitem _ _)))
 show wpAny _ _ (Builtin.Tuple.tupleItemsOf (.ref t) >>= _) _ _ s
 refine wpAny_bind (tupleItemsOf_ ht ?_)
 refine wpAny_bind (wpAny_typeOf hTs ?_)
 rw [if_pos (by decide)]
 refine wpAny_bind (sliceApplied_gen hs pl pu ?_)
 have hno:¬ ((((sIx items.size 0 lo:Nat):Int) == 0 && (1:Int) == 1 && (sIx items.size items.size hi-sIx items.size 0 lo) == items.size)=true):=by
  intro q
  rw [Bool.and_eq_true,Bool.and_eq_true] at q
  have q1:((sIx items.size 0 lo:Nat):Int)=0:=eq_of_beq q.1.1
  have q2:sIx items.size items.size hi-sIx items.size 0 lo=items.size:=eq_of_beq q.2
  exact hw ⟨by omega,by omega⟩
 show wpAny _ _ (if (((sIx items.size 0 lo:Nat):Int) == 0 && (1:Int) == 1 && (sIx items.size items.size hi-sIx items.size 0 lo) == items.size)=true then _ else _) _ _ s
 rw [if_neg hno,pick_gen]
 first
  | exact wpAny_bind (m:=Builtin.Tuple.tupleExact _) (wpAny_newObj_type (wpAny_pure ⟨_,rfl,wpAny_pure h⟩) htake)
  | exact wpAny_bind (m:=Builtin.Tuple.tupleExact _) (wpAny_newObj_type (wpAny_bind (wpAny_pure (wpAny_pure ⟨_,rfl,wpAny_pure h⟩))) htake)
  | exact wpAny_bind (wpAny_bind (m:=Builtin.Tuple.tupleExact _) (wpAny_newObj_type (wpAny_pure (wpAny_pure ⟨_,rfl,wpAny_pure h⟩)) htake))
  | exact wpAny_bind (wpAny_bind (m:=Builtin.Tuple.tupleExact _) (wpAny_newObj_type (wpAny_pure ⟨_,rfl,wpAny_pure h⟩) htake))
end
end HT
namespace L2
open PySem PySem.Spec PyProof.Rows
abbrev TO:=St→Hp→(Option Int→Hp→Prop)→Prop
structure PO (X:Cx) (e:Option Expr) (t:TO):Prop where
 run:∀ (pins:List (Addr×Obj)) (s:Shared) (σ:St) (H:Hp) (Q:Option Int→Hp→Prop),Inv X pins σ H s→t σ H Q →
  wpAny (model X.prog X.w) X.A (evalPart e X.env) (fun u s'=>∃ o H',Inv X pins σ H' s'∧IsPart u o∧Q o H') X.xe s
instance {X:Cx} {e:Option Expr} {t:TO}:CoeFun (PO X e t) fun _=>∀ (pins:List (Addr×Obj)) (s:Shared) (σ:St) (H:Hp) (Q:Option Int→Hp→Prop),Inv X pins σ H s→t σ H Q→wpAny (model X.prog X.w) X.A (evalPart e X.env) (fun u s'=>∃ o H',Inv X pins σ H' s'∧IsPart u o∧Q o H') X.xe s:=⟨PO.run⟩
def tNoPart:TO:=fun _ H Q=>Q none H
def tPart (t:TE):TO:=fun σ H Q=>t σ H fun x H1=>∃ i,x=.int i∧Q (some i) H1
theorem intsAre_of {ns:List Int}:∀ {us:List Value},Vals (ns.map V.int) us→IntsAre us ns:=by
 induction ns with
 | nil=>intro us r; rw [List.map_nil] at r; cases r; exact .nil
 | cons n ns ih=>
  intro us r
  rw [List.map_cons] at r
  cases r with
  | cons r1 r2=>
   obtain ⟨t,e⟩:=r1
   subst e
   exact .cons n t (ih r2)
section
variable {X:Cx} {e:Expr} {te:TE} {lo hi:Option Expr} {tl th:TO} {pos p2:Pos}
theorem po_none:PO X none tNoPart:=by
 refine .mk ?_
 intro pins s σ H Q I h
 rw [evalPart_none]
 exact wpAny_pure ⟨none,H,I,.none,h⟩
theorem po_some (h:PE X e te):PO X (some e) (tPart te):=by
 refine .mk ?_
 intro pins s σ H Q I hw
 rw [evalPart_some]
 refine thn (h pins s σ H _ I hw) fun u s1 ⟨x,H1,I1,r1,q1⟩=>?_
 obtain ⟨i,rfl,q⟩:=q1
 obtain ⟨t,rfl⟩:=r1
 exact ⟨some i,H1,I1,.int i t,q⟩
def SlR (X:Cx) (r:V→Option Int→Option Int→Hp→VK→Prop):Prop:=
 ∀ (pins:List (Addr×Obj)) (s:Shared) (σ:St) (H:Hp) (x:V) (v vl vu:Value) (lo hi:Option Int) (sl:Addr) (Q:VK),Inv X pins σ H s→RelV x v→s.heap.IsSliceOf sl vl vu .none→IsPart vl lo→IsPart vu hi→r x lo hi H Q →
  ∃ T id,typeLookup (.type T) "__getitem__" = pure (some (.builtin id))∧s.TypeIs v T∧wpAny (model X.prog X.w) X.A (getItem v (.ref sl)) (EP X pins σ Q) X.xe s
theorem SlR.or {r r':V→Option Int→Option Int→Hp→VK→Prop} (h:SlR X r) (h':SlR X r'):SlR X (fun x lo hi H Q=>r x lo hi H Q∨r' x lo hi H Q):=by
 intro pins s σ H x v vl vu lo hi sl Q I rx hs pl pu q
 rcases q with q | q
 ·exact h pins s σ H x v vl vu lo hi sl Q I rx hs pl pu q
 ·exact h' pins s σ H x v vl vu lo hi sl Q I rx hs pl pu q
def tSl (r:V→Option Int→Option Int→Hp→VK→Prop) (te:TE) (tl th:TO):TE:=fun σ H Q=>te σ H fun x H1=>tl σ H1 fun l H2=>th σ H2 fun u H3=>r x l u H3 Q
theorem pe_slice {r:V→Option Int→Option Int→Hp→VK→Prop} (hr:SlR X r) (he:PE X e te) (hl:PO X lo tl) (hu:PO X hi th):PE X (.Subscript e (.Slice lo hi none p2) pos) (tSl r te tl th):=by
 refine .mk ?_
 intro pins s σ H Q I h
 refine Subscript_ (thn (he pins s σ H _ I h) fun v s1 ⟨x,H1,I1,r1,q1⟩=>?_)
 refine wpAny_Slice (thn (hl pins s1 σ H1 _ I1 q1) fun vl s2 ⟨l,H2,I2,pl,q2⟩=>thn (hu pins s2 σ H2 _ I2 q2) fun vu s3 ⟨u,H3,I3,pu,q3⟩=>?_)
 rw [evalPart_none]
 refine wpAny_pure ?_
 have I4:Inv X pins σ H3 { s3 with heap:=s3.heap.push { cls:=.type "slice",data:=.fields #[vl,vu,.none] } }:=I3.kept (t':=s3.toks) fun b ob q=>Heap.get?_push_of_some _ q
 obtain ⟨T,id,hT,ht,hg⟩:=hr pins { s3 with heap:=s3.heap.push { cls:=.type "slice",data:=.fields #[vl,vu,.none] } } σ H3 x v vl vu l u s3.heap.objs.size Q I4 r1 (Heap.IsSliceOf.new ..) pl pu q3
 show wpAny (model X.prog X.w) X.A (subscriptTail e (.Slice lo hi none p2) v (.ref s3.heap.objs.size)) (EP X pins σ Q) X.xe { s3 with heap:=s3.heap.push { cls:=.type "slice",data:=.fields #[vl,vu,.none] } }
 exact tail_any (ops:=[.ref s3.heap.objs.size,v]) ht hT hg (by with_unfolding_all rfl)
def cutV (xs:List V) (lo hi:Option Int):List V:=(xs.drop (HT.sIx xs.length 0 lo)).take (HT.sIx xs.length xs.length hi-HT.sIx xs.length 0 lo)
theorem cutV_length (xs:List V) (lo hi:Option Int):(cutV xs lo hi).length≤xs.length:=by
 unfold cutV
 rw [List.length_take,List.length_drop]
 omega
def rSlT (K:PySem.W.Frag):V→Option Int→Option Int→Hp→VK→Prop:=fun x lo hi H Q=>∃ a xs,x=.ref a∧SqT K H a xs ∧
 ¬ (HT.sIx xs.length 0 lo=0∧HT.sIx xs.length xs.length hi=xs.length)∧∀ p,H p=none→Q (.ref p) (upd H p (.tup (cutV xs lo hi)))
theorem sl_tup:SlR X (rSlT X.K):=by
 intro pins s σ H x v vl vu lo hi sl Q I rx hs pl pu h
 obtain ⟨a,xs,rfl,hx,hw,q⟩:=h
 cases rx
 obtain ⟨its,r,ht,hz⟩:=I.tuple hx
 have hlen:its.toArray.size=xs.length:=by rw [List.size_toArray]; exact r.length.symm
 refine ⟨"tuple",_,PyProof.Rows.slot_tuple_getitem.lookup,ht.typeIs,?_⟩
 refine HT.getItem_tuple_cut ht hs pl pu (by rw [hlen]; exact hw) ?_ (by rw [hlen]; exact hz)
 rw [hlen]
 refine ⟨.ref s.heap.objs.size,_,I.laid (t':=s.toks) (o:=.tup (cutV xs lo hi)) (fun b ob q=>Heap.get?_push_of_some _ q) (Nat.le_refl _) ?_,rfl,q _ (I.hok.fresh (Nat.le_refl _))⟩
 exact ⟨Nat.le_trans (cutV_length xs lo hi) hz,_,(r.drop (HT.sIx xs.length 0 lo)).take (HT.sIx xs.length xs.length hi-HT.sIx xs.length 0 lo),IsTup.new _ _⟩
def rCatT (K:PySem.W.Frag):R2:=fun x y H Q=>∃ a b xs ys,x=.ref a∧y=.ref b∧SqT K H a xs∧SqT K H b ys∧xs≠[]∧xs.length+ys.length≤sizeLine ∧
 (ys=[]→Q (.ref a) H)∧(ys≠[]→∀ p,H p=none→Q (.ref p) (upd H p (.tup (xs++ys))))
theorem Vals.nil_iff {xs:List V} {us:List Value} (r:Vals xs us):us=[] ↔ xs=[]:=by
 cases r with
 | nil=>simp
 | cons _ _=>simp
theorem op_catT:OpR X (binaryOp .Add) (rCatT X.K):=by
 intro pins s σ H x y v u Q I rx ry h
 obtain ⟨a,b,xs,ys,rfl,rfl,ha,hb,hx,hz,q1,q2⟩:=h
 cases rx
 cases ry
 obtain ⟨its,r1,p1,_⟩:=I.tuple ha
 obtain ⟨its2,r2,p2,_⟩:=I.tuple hb
 refine HT.cat_tup p1 p2 (fun z=>hx (r1.nil_iff.mp z)) (fun z=>⟨.ref a,H,I,rfl,q1 (r2.nil_iff.mp z)⟩) (fun z=>?_) (by rw [← r1.length,← r2.length]; exact hz)
 refine ⟨.ref s.heap.objs.size,_,I.laid (t':=s.toks) (o:=.tup (xs++ys)) (fun b ob q=>Heap.get?_push_of_some _ q) (Nat.le_refl _) ?_,rfl,q2 (fun w=>z (r2.nil_iff.mpr w)) _ (I.hok.fresh (Nat.le_refl _))⟩
 exact ⟨by rw [List.length_append]; exact hz,_,r1.append r2,IsTup.new _ _⟩
end
def ixN (n:Nat) (i:Int):Option Nat:=if 0≤i then (if i < n then some i.toNat else none) else if -(n:Int)≤i then some (i+n).toNat else none
def atI {α:Type} (xs:List α) (i:Int):Option α:=(ixN xs.length i).bind fun j=>xs[j]?
theorem ixN_seq {n:Nat} {i:Int} {j:Nat} (h:ixN n i=some j):seqIndex? i n=some j∧j < n∧-(n:Int)≤i∧i < n:=by
 unfold ixN at h
 by_cases h0:0≤i
 ·rw [if_pos h0] at h
  by_cases h1:i < n
  ·rw [if_pos h1] at h
   have e:i.toNat=j:=Option.some.inj h
   exact ⟨by rw [seqIndex_of h0 h1,e],by omega,by omega,h1⟩
  ·rw [if_neg h1] at h; cases h
 ·rw [if_neg h0] at h
  by_cases h1:-(n:Int)≤i
  ·rw [if_pos h1] at h
   have e:(i+n).toNat=j:=Option.some.inj h
   exact ⟨by rw [seqIndex_neg (by omega) h1,e],by omega,h1,by omega⟩
  ·rw [if_neg h1] at h; cases h
theorem atI_get {α:Type} {xs:List α} {i:Int} {v:α} (h:atI xs i=some v):∃ j,seqIndex? i xs.length=some j∧xs[j]? = some v∧j < xs.length∧-(xs.length:Int)≤i∧i < xs.length:=by
 unfold atI at h
 cases e:ixN xs.length i with
 | none=>rw [e] at h; cases h
 | some j=>
  rw [e] at h
  obtain ⟨h1,h2,h3,h4⟩:=ixN_seq e
  exact ⟨j,h1,h,h2,h3,h4⟩
theorem atI_nat {α:Type} {xs:List α} {j:Nat} {v:α} (h:xs[j]? = some v):atI xs (j:Int)=some v:=by
 have hj:j < xs.length:=(List.getElem?_eq_some_iff.mp h).1
 have e:ixN xs.length (j:Int)=some j:=by
  unfold ixN
  rw [if_pos (by omega),if_pos (by omega)]; simp
 unfold atI; rw [e]; exact h
def PlainIx (b:Expr):Prop:=∀ o i,subscripted b false o i=operate [o,i] (getItem o i)
def IxR (X:Cx) (r:R2):Prop:=
 ∀ (value slice:Expr) (pins:List (Addr×Obj)) (s:Shared) (σ:St) (H:Hp) (x y:V) (v u:Value) (Q:VK),Inv X pins σ H s→RelV x v→RelV y u→r x y H Q →
  subscripted slice false v u=operate [v,u] (getItem v u)→wpAny (model X.prog X.w) X.A (subscriptTail value slice v u) (EP X pins σ Q) X.xe s
def MtR (X:Cx) (id:String) (r:V→List V→Hp→VK→Prop):Prop:=
 ∀ (pins:List (Addr×Obj)) (s:Shared) (σ:St) (H:Hp) (x:V) (xs:List V) (v:Value) (us:List Value) (Q:VK),Inv X pins σ H s→RelV x v→Vals xs us→r x xs H Q →
  wpAny (model X.prog X.w) X.A (call (.builtin id) (v::us)) (EP X pins σ Q) X.xe s
section
variable {X:Cx} {a b:Expr} {ta tb:TE} {pos:Pos}
theorem IxR.or {r r':R2} (h:IxR X r) (h':IxR X r'):IxR X (fun x y H Q=>r x y H Q∨r' x y H Q):=by
 intro value slice pins s σ H x y v u Q I rx ry q hs
 rcases q with q | q
 ·exact h value slice pins s σ H x y v u Q I rx ry q hs
 ·exact h' value slice pins s σ H x y v u Q I rx ry q hs
theorem MtR.or {id:String} {r r':V→List V→Hp→VK→Prop} (h:MtR X id r) (h':MtR X id r'):MtR X id (fun x xs H Q=>r x xs H Q∨r' x xs H Q):=by
 intro pins s σ H x xs v us Q I rx rs q
 rcases q with q | q
 ·exact h pins s σ H x xs v us Q I rx rs q
 ·exact h' pins s σ H x xs v us Q I rx rs q
theorem pe_ix {r:R2} (hr:IxR X r) (ha:PE X a ta) (hb:PE X b tb) (hs:PlainIx b):PE X (.Subscript a b pos) (tOp r ta tb):=by
 refine .mk ?_
 intro pins s σ H Q I h
 exact Subscript_ (binT ha hb I h fun v u s2 x y H2 I2 rx ry q=>hr a b pins s2 σ H2 x y v u Q I2 rx ry q (hs _ _))
def rIxL (K:PySem.W.Frag):R2:=fun x y H Q=>∃ p xs i v,x=.ref p∧y=.int i∧SqL K H p xs∧atI xs i=some v∧Q v H
def rIxT (K:PySem.W.Frag):R2:=fun x y H Q=>∃ p xs i v,x=.ref p∧y=.int i∧SqT K H p xs∧atI xs i=some v∧Q v H
def rIxS:R2:=fun x y H Q=>∃ z i c,x=.str z∧y=.int i∧z.length≤sizeLine∧atI z.cps.toList i=some c∧Q (.str ⟨#[c]⟩) H
theorem ix_list:IxR X (rIxL X.K):=by
 intro value slice pins s σ H x y v u Q I rx ry h hs
 obtain ⟨p,xs,i,z,rfl,rfl,hq,he,q⟩:=h
 cases rx
 obtain ⟨t,rfl⟩:=ry
 obtain ⟨its,r,pl,hz⟩:=I.list hq
 obtain ⟨j,h1,h2,h3,h4,h5⟩:=atI_get he
 obtain ⟨w,ew,rw'⟩:=r.get h2
 have hl:=r.length
 have hn:=line63
 have fin:EP X pins σ Q w s:=⟨z,H,I,rw',q⟩
 by_cases h0:0≤i
 ·have hj:i.toNat=j:=by
   rw [seqIndex_of h0 h5] at h1
   exact Option.some.inj h1
  exact item_listR pl.isList h0 (by omega) (by rw [hj]; simpa using ew) fin hs
 ·have hj:(i+(its.toArray.size:Int)).toNat=j:=by
   rw [seqIndex_neg (by omega) h4] at h1
   rw [List.size_toArray,← hl]
   exact Option.some.inj h1
  exact subscriptTail_builtinR (x:=w) pl.isList.typeIs slot_list_getitem.lookup
   (wpAny_getItem_list_neg (Q:=fun r s'=>r=w∧EP X pins σ Q r s') pl.isList (by omega) (by rw [List.size_toArray] <;> omega) (by omega) (by rw [hj]; simpa using ew) ⟨rfl,fin⟩) hs
theorem ix_tup:IxR X (rIxT X.K):=by
 intro value slice pins s σ H x y v u Q I rx ry h hs
 obtain ⟨p,xs,i,z,rfl,rfl,hq,he,q⟩:=h
 cases rx
 obtain ⟨t,rfl⟩:=ry
 obtain ⟨its,r,pl,hz⟩:=I.tuple hq
 obtain ⟨j,h1,h2,h3,h4,h5⟩:=atI_get he
 obtain ⟨w,ew,rw'⟩:=r.get h2
 have hl:=r.length
 have hn:=line63
 have fin:EP X pins σ Q w s:=⟨z,H,I,rw',q⟩
 exact subscriptTail_builtinR (x:=w) pl.typeIs slot_tuple_getitem.lookup
  (getItem_tuple (j:=j) (Q:=fun r s'=>r=w∧EP X pins σ Q r s') pl (by omega) (by omega) (by rw [List.size_toArray,← hl]; exact h1) (by simpa using ew) ⟨rfl,fin⟩) hs
theorem ix_str:IxR X rIxS:=by
 intro value slice pins s σ H x y v u Q I rx ry h hs
 obtain ⟨z,i,c,rfl,rfl,hz,he,q⟩:=h
 obtain ⟨t,rfl⟩:=rx
 obtain ⟨t',rfl⟩:=ry
 obtain ⟨j,h1,h2,h3,h4,h5⟩:=atI_get he
 have hl:z.cps.toList.length=z.length:=by simp [Str.length]
 rw [hl] at h1 h4 h5
 have hn:=line63
 exact tail_any (typeIs_str s z t) slot_str_getitem.lookup (getItem_str (c:=c) (by
  have e1:decide (i < -(2 ^ 63:Int))=false:=decide_eq_false (by omega)
  have e2:decide (i ≥ 2 ^ 63)=false:=decide_eq_false (by omega)
  rw [e1,e2,Bool.or_false]) (by rw [h1]; simpa using h2) ⟨.str ⟨#[c]⟩,H,I.tok _,⟨_,rfl⟩,q⟩) hs
def rIx (K:PySem.W.Frag):R2:=fun x y H Q=>rIxL K x y H Q∨rIxT K x y H Q∨rIxS x y H Q
theorem ix_seq:IxR X (rIx X.K):=ix_list.or (ix_tup.or ix_str)
theorem mapSeq_set (its:List Value) (n j:Nat) (u:Value):Obj.mapSeq (·.setIfInBounds j u) { cls:=.type "list",data:=.seq its.toArray n }={ cls:=.type "list",data:=.seq (its.set j u).toArray n }:=by
 simp [Obj.mapSeq]
theorem Inv.lst {pins:List (Addr×Obj)} {σ:St} {H:Hp} {s:Shared} {p:Addr} {xs:List V} (I:Inv X pins σ H s) (h:H p=some (.lst xs)) :
  ∃ (its:List Value) (n:Nat),Vals xs its∧s.heap.get? p=some { cls:=.type "list",data:=.seq its.toArray n }∧xs.length≤sizeLine:=by
 obtain ⟨z,its,n,r,e⟩:=I.hok p _ h
 exact ⟨its,n,r,e,z⟩
theorem Inv.lstUpd {pins:List (Addr×Obj)} {σ:St} {H:Hp} {s:Shared} {p:Addr} {xs ys:List V} {its its':List Value} {n n':Nat} {f:Obj→Obj} (I:Inv X pins σ H s) (h:H p=some (.lst xs))
  (ho:s.heap.get? p=some { cls:=.type "list",data:=.seq its.toArray n }) (hf:f { cls:=.type "list",data:=.seq its.toArray n }={ cls:=.type "list",data:=.seq its'.toArray n' }) (r:Vals ys its') (hz:ys.length≤sizeLine) (t:Nat) :
  Inv X pins σ (upd H p (.lst ys)) { s with heap:=s.heap.update p f,toks:=t }:=by
 have e:(s.heap.update p f).get? p=some { cls:=.type "list",data:=.seq its'.toArray n' }:=by
  rw [Heap.get?_update_self f ho (by rw [hf] <;> rfl),hf]
 refine I.write (x:=p) (e:=p) (by rw [h]; trivial) (.inl rfl) (fun b u hb q=>(Heap.get?_update_other _ _ (Ne.symm hb)).trans q) ⟨_,e⟩ ?_
 exact ⟨hz,its',n',r,e⟩
def rSetL:V→V→V→Hp→(Hp→Prop)→Prop:=fun o i v H Q=>∃ p xs k j,o=.ref p∧i=.int k∧H p=some (.lst xs)∧ixN xs.length k=some j∧Q (upd H p (.lst (xs.set j v)))
theorem set_list:PSet X rSetL:=by
 intro pins s σ H o i v ov iv u Q I ro ri rv h
 obtain ⟨p,xs,k,j,rfl,rfl,hp,hj,q⟩:=h
 cases ro
 obtain ⟨t,rfl⟩:=ri
 obtain ⟨its,n,r,ho,hz⟩:=I.lst hp
 obtain ⟨h1,h2,h3,h4⟩:=ixN_seq hj
 have hl:=r.length
 have hn:=line63
 have I':Inv X pins σ (upd H p (.lst (xs.set j v))) { s with heap:=s.heap.update p (Obj.mapSeq (·.setIfInBounds j u)) }:=
  I.lstUpd hp ho (mapSeq_set its n j u) (r.set rv j) (by rw [List.length_set]; exact hz) s.toks
 by_cases h0:0≤k
 ·have hk:k.toNat=j:=by
   rw [seqIndex_of h0 h4] at h1
   exact Option.some.inj h1
  exact PySem.W.ki_setAt ho h0 (by omega) (by rw [List.size_toArray,← hl]; exact h4) (by rw [hk]; exact ⟨_,I',q⟩)
 ·have hk:(k+(its.toArray.size:Int)).toNat=j:=by
   rw [seqIndex_neg (by omega) h3] at h1
   rw [List.size_toArray,← hl]
   exact Option.some.inj h1
  exact PySem.W.ki_setBack ho (by omega) (by rw [List.size_toArray,← hl]; exact h3) (by omega) (by rw [hk]; exact ⟨_,I',q⟩)
theorem slice_bounds (lo hi:Option Int) (n:Nat):(sliceBounds lo hi none n).1=((HT.sIx n 0 lo:Nat):Int)∧(sliceBounds lo hi none n).2.1=((HT.sIx n n hi:Nat):Int)∧(sliceBounds lo hi none n).2.2=1:=by
 refine ⟨?_,?_,rfl⟩
 ·cases lo with
  | none=>simp [sliceBounds,HT.sIx]
  | some i=>
   simp only [sliceBounds,HT.sIx,Option.getD_none,show (1:Int) > 0 by decide,if_true]
   by_cases h:i < 0
   ·simp only [h,if_true] <;> omega
   ·simp only [h,if_false] <;> omega
 ·cases hi with
  | none=>simp [sliceBounds,HT.sIx]
  | some i=>
   simp only [sliceBounds,HT.sIx,Option.getD_none,show (1:Int) > 0 by decide,if_true]
   by_cases h:i < 0
   ·simp only [h,if_true] <;> omega
   ·simp only [h,if_false] <;> omega
theorem slicePick_cut (its:List Value) (lo hi:Option Int):slicePick its.toArray lo hi none=((its.drop (HT.sIx its.length 0 lo)).take (HT.sIx its.length its.length hi-HT.sIx its.length 0 lo)).toArray:=by
 obtain ⟨h1,h2,h3⟩:=slice_bounds lo hi its.toArray.size
 unfold slicePick
 rw [h1,h2,h3]
 simp only [sliceRange_one,pick_run,List.size_toArray] <;> rfl
def rSlL (K:PySem.W.Frag):V→Option Int→Option Int→Hp→VK→Prop:=fun x lo hi H Q=>∃ a xs,x=.ref a∧SqL K H a xs∧∀ p,H p=none→Q (.ref p) (upd H p (.lst (cutV xs lo hi)))
theorem sl_list:SlR X (rSlL X.K):=by
 intro pins s σ H x v vl vu lo hi sl Q I rx hs pl pu h
 obtain ⟨a,xs,rfl,hx,q⟩:=h
 cases rx
 obtain ⟨its,r,ht,hz⟩:=I.list hx
 have hlen:=r.length
 refine ⟨"list",_,slot_list_getitem.lookup,ht.isList.typeIs,?_⟩
 refine wpAny_getItem_list_slice ht.isList hs pl pu .none (by simp) ?_ (by rw [List.size_toArray] <;> omega)
 rw [slicePick_cut,← hlen]
 refine ⟨.ref s.heap.objs.size,_,I.laid (t':=s.toks) (o:=.lst (cutV xs lo hi)) (fun b ob q=>Heap.get?_push_of_some _ q) (Nat.le_refl _) ?_,rfl,q _ (I.hok.fresh (Nat.le_refl _))⟩
 exact ⟨Nat.le_trans (cutV_length xs lo hi) hz,_,0,(r.drop (HT.sIx xs.length 0 lo)).take (HT.sIx xs.length xs.length hi-HT.sIx xs.length 0 lo),Heap.get?_push_size _ rfl⟩
def flatV:V→Bool
 | .non=>true
 | .bl _=>true
 | .int _=>true
 | .str _=>true
 | _=>false
def eqV:V→V→Bool
 | .non,.non=>true
 | .bl a,.bl b=>a == b
 | .bl a,.int b=>(if a then 1 else 0) == b
 | .int a,.bl b=>a == (if b then 1 else 0)
 | .int a,.int b=>a == b
 | .str a,.str b=>a == b
 | _,_=>false
theorem eqAt_V {A:Around} {s:Shared} {y x:V} {u v:Value} (ry:RelV y u) (rx:RelV x v) (fy:flatV y=true) (fx:flatV x=true):SeqAt.EqAt A s u v (eqV y x):=by
 cases y with
 | non=>
  cases ry
  cases x with
  | non=>cases rx; exact SeqAt.EqAt.same _
  | bl b=>cases rx; exact SeqAt.EqAt.none_bool b
  | int b=>obtain ⟨t,rfl⟩:=rx; exact SeqAt.EqAt.none_int b t
  | str b=>obtain ⟨t,rfl⟩:=rx; exact SeqAt.EqAt.none_str b t
  | _=>exact absurd (show false=true from fx) Bool.false_ne_true
 | bl a=>
  cases ry
  cases x with
  | non=>cases rx; exact SeqAt.EqAt.bool_none a
  | bl b=>cases rx; exact SeqAt.EqAt.bool_bool a b
  | int b=>obtain ⟨t,rfl⟩:=rx; exact SeqAt.EqAt.bool_int a b t
  | str b=>obtain ⟨t,rfl⟩:=rx; exact SeqAt.EqAt.bool_str a b t
  | _=>exact absurd (show false=true from fx) Bool.false_ne_true
 | int a=>
  obtain ⟨t',rfl⟩:=ry
  cases x with
  | non=>cases rx; exact SeqAt.EqAt.int_none a t'
  | bl b=>cases rx; exact SeqAt.EqAt.int_bool a t' b
  | int b=>obtain ⟨t,rfl⟩:=rx; exact SeqAt.EqAt.int_int a t' b t
  | str b=>obtain ⟨t,rfl⟩:=rx; exact SeqAt.EqAt.int_str a t' b t
  | _=>exact absurd (show false=true from fx) Bool.false_ne_true
 | str a=>
  obtain ⟨t',rfl⟩:=ry
  cases x with
  | non=>cases rx; exact SeqAt.EqAt.str_none a t'
  | bl b=>cases rx; exact SeqAt.EqAt.str_bool a t' b
  | int b=>obtain ⟨t,rfl⟩:=rx; exact SeqAt.EqAt.str_int a t' b t
  | str b=>obtain ⟨t,rfl⟩:=rx; exact SeqAt.EqAt.str_str a t' b t
  | _=>exact absurd (show false=true from fx) Bool.false_ne_true
 | _=>exact absurd (show false=true from fy) Bool.false_ne_true
def eqU (x:V) (u:Value):Bool:=match u with
 | .none=>eqV .non x
 | .bool b=>eqV (.bl b) x
 | .int i _=>eqV (.int i) x
 | .str z _=>eqV (.str z) x
 | _=>false
theorem eqU_of {x y:V} {u:Value} (r:RelV y u) (f:flatV y=true):eqU x u=eqV y x:=by
 cases y with
 | non=>cases r; rfl
 | bl b=>cases r; rfl
 | int i=>obtain ⟨t,rfl⟩:=r; rfl
 | str z=>obtain ⟨t,rfl⟩:=r; rfl
 | _=>exact absurd (show false=true from f) Bool.false_ne_true
theorem any_eqU {x:V}:∀ {xs:List V} {us:List Value},Vals xs us→xs.all flatV=true→us.any (eqU x)=xs.any fun y=>eqV y x
 | _,_,.nil,_=>rfl
 | y::xs,u::us,.cons r t,f=>by
  rw [List.all_cons,Bool.and_eq_true] at f
  rw [List.any_cons,List.any_cons,eqU_of r f.1,any_eqU t f.2]
theorem mem_eqAt {A:Around} {s:Shared} {x:V} {v:Value} (rx:RelV x v) (fx:flatV x=true):∀ {xs:List V} {us:List Value},Vals xs us→xs.all flatV=true→∀ u∈us,SeqAt.EqAt A s u v (eqU x u)
 | _,_,.nil,_=>fun u hu=>by cases hu
 | y::xs,u::us,.cons r t,f=>fun u' hu=>by
  rw [List.all_cons,Bool.and_eq_true] at f
  rcases List.mem_cons.mp hu with rfl | hu
  ·rw [eqU_of r f.1]; exact eqAt_V r rx f.1 fx
  ·exact mem_eqAt rx fx t f.2 u' hu
def inV (x:V) (xs:List V):Bool:=xs.any fun y=>eqV y x
def rIn (K:PySem.W.Frag) (neg:Bool):R2:=fun x y H Q=>∃ p xs,y=.ref p∧(SqL K H p xs∨SqT K H p xs)∧flatV x=true∧xs.all flatV=true∧Q (.bl (if neg then !inV x xs else inV x xs)) H
theorem op_in_seq:OpR X (compareOp .In) (rIn X.K false):=by
 intro pins s σ H x y v u Q I rx ry h
 obtain ⟨p,xs,rfl,hq,fx,fs,q⟩:=h
 cases ry
 rcases hq with hq | hq
 ·obtain ⟨its,r,pl,hz⟩:=I.list hq
  refine SeqAt.in_listAt (eqU x) pl.isList (fun w hw=>mem_eqAt rx fx r fs w (by simpa using hw)) ⟨.bl _,H,I,rfl,?_⟩
  rw [show its.toArray.any (eqU x)=its.any (eqU x) by simp,any_eqU r fs]
  exact q
 ·obtain ⟨its,r,pl,hz⟩:=I.tuple hq
  refine SeqAt.in_tupleAt (eqU x) pl (fun w hw=>mem_eqAt rx fx r fs w (by simpa using hw)) ⟨.bl _,H,I,rfl,?_⟩
  rw [show its.toArray.any (eqU x)=its.any (eqU x) by simp,any_eqU r fs]
  exact q
theorem op_notIn_seq:OpR X (compareOp .NotIn) (rIn X.K true):=by
 intro pins s σ H x y v u Q I rx ry h
 obtain ⟨p,xs,rfl,hq,fx,fs,q⟩:=h
 cases ry
 rcases hq with hq | hq
 ·obtain ⟨its,r,pl,hz⟩:=I.list hq
  refine SeqAt.notIn_listAt (eqU x) pl.isList (fun w hw=>mem_eqAt rx fx r fs w (by simpa using hw)) ⟨.bl _,H,I,rfl,?_⟩
  rw [show its.toArray.any (eqU x)=its.any (eqU x) by simp,any_eqU r fs]
  exact q
 ·obtain ⟨its,r,pl,hz⟩:=I.tuple hq
  refine SeqAt.notIn_tupleAt (eqU x) pl (fun w hw=>mem_eqAt rx fx r fs w (by simpa using hw)) ⟨.bl _,H,I,rfl,?_⟩
  rw [show its.toArray.any (eqU x)=its.any (eqU x) by simp,any_eqU r fs]
  exact q
theorem call_len_seq:CallR X (.builtin "len") (fun xs H Q=>∃ p ys,xs=[.ref p]∧(SqL X.K H p ys∨SqT X.K H p ys)∧Q (.int ys.length) H):=by
 intro pins s σ H xs us Q I r h
 obtain ⟨p,ys,rfl,hq,q⟩:=h
 obtain ⟨u,rfl,rx⟩:=vals1 r
 cases rx
 have hn:=line63
 rcases hq with hq | hq
 ·obtain ⟨its,r',pl,hz⟩:=I.list hq
  have hlen:=r'.length
  exact Calls.call_len_list pl.isList (by simp only [List.size_toArray] <;> omega) ⟨.int ys.length,H,I.tok _,⟨s.toks+1,by rw [List.size_toArray,hlen]⟩,q⟩
 ·obtain ⟨its,r',pl,hz⟩:=I.tuple hq
  have hlen:=r'.length
  exact len_tuple pl (by simp only [List.size_toArray] <;> omega) ⟨.int ys.length,H,I.tok _,⟨s.toks+1,by rw [List.size_toArray,hlen]⟩,q⟩
theorem call_len_str:CallR X (.builtin "len") (fun xs H Q=>∃ z,xs=[.str z]∧z.length≤sizeLine∧Q (.int z.length) H):=by
 intro pins s σ H xs us Q I r h
 obtain ⟨z,rfl,hz,q⟩:=h
 obtain ⟨u,rfl,t,rfl⟩:=vals1 r
 have hn:=line63
 exact len_str (by omega) ⟨.int z.length,H,I.tok _,⟨_,rfl⟩,q⟩
theorem CallR.or {f:Value} {r r':List V→Hp→VK→Prop} (h:CallR X f r) (h':CallR X f r'):CallR X f (fun xs H Q=>r xs H Q∨r' xs H Q):=by
 intro pins s σ H xs us Q I rs q
 rcases q with q | q
 ·exact h pins s σ H xs us Q I rs q
 ·exact h' pins s σ H xs us Q I rs q
theorem call_tuple_of:CallR X (.type "tuple") (fun xs H Q=>∃ p ys,xs=[.ref p]∧((SqL X.K H p ys∧∀ l,H l=none→Q (.ref l) (upd H l (.tup ys)))∨(SqT X.K H p ys∧Q (.ref p) H))):=by
 intro pins s σ H xs us Q I r h
 obtain ⟨p,ys,rfl,h⟩:=h
 obtain ⟨u,rfl,rx⟩:=vals1 r
 cases rx
 rcases h with ⟨hq,q⟩ | ⟨hq,q⟩
 ·obtain ⟨its,r',pl,hz⟩:=I.list hq
  have hlen:=r'.length
  refine call_tuple_list pl.isList (fun h' kp=>?_) (by simp only [List.size_toArray] <;> omega)
  have I1:Inv X pins σ H { s with heap:=h' }:=I.kept (t':=s.toks) kp
  have I2:Inv X pins σ (upd H h'.objs.size (.tup ys)) { s with heap:=h'.push { cls:=.type "tuple",data:=.seq its.toArray } }:=
   I1.laid (t':=s.toks) (fun b o e=>Heap.get?_push_of_some _ e) (Nat.le_refl _) (show ObjOk X.prog X.w _ _ _ (.tup ys) from ⟨hz,its,r',IsTup.new _ _⟩)
  exact ⟨.ref h'.objs.size,_,I2,rfl,q _ (I1.hok.fresh (Nat.le_refl _))⟩
 ·obtain ⟨its,r',pl,hz⟩:=I.tuple hq
  exact call_tuple_same pl ⟨.ref p,H,I,rfl,q⟩
def tyV (K:PySem.W.Frag) (T:String) (x:V) (H:Hp):Prop:=match x with
 | .str _=>T = "str"
 | .int _=>T = "int"
 | .ref p=>(T = "list" ∧ ∃ xs,SqL K H p xs)∨(T = "tuple" ∧ ∃ o,K.lookup p=some o∧o.cls=.type "tuple" ∧ o.dict=none) ∨
   (T = "dict" ∧ ((∃ kvs,H p=some (.dK kvs))∨∃ kvs,H p=some (.dT kvs)))∨(T = "set" ∧ ∃ S n,H p=some (.set S n))
 | _=>False
theorem tyV_is {pins:List (Addr×Obj)} {σ:St} {H:Hp} {s:Shared} {T:String} {x:V} {v:Value} (I:Inv X pins σ H s) (r:RelV x v) (ty:tyV X.K T x H) :
  s.TypeIs v T∧∀ a,v=.ref a→∃ ob,s.heap.get? a=some ob∧ob.dict=none:=by
 cases x with
 | str z=>
  obtain ⟨t,rfl⟩:=r
  cases (show T = "str" from ty)
  exact ⟨typeIs_str s z t,fun _ e=>nomatch e⟩
 | int i=>
  obtain ⟨t,rfl⟩:=r
  cases (show T = "int" from ty)
  exact ⟨typeIs_int s i t,fun _ e=>nomatch e⟩
 | ref p=>
  cases r
  rcases ty with ⟨rfl,xs,hq⟩ | ⟨rfl,o,hk,hc,hd⟩ | ⟨rfl,hk⟩ | ⟨rfl,S,n,hk⟩
  ·obtain ⟨its,_,pl,_⟩:=I.list hq
   refine ⟨pl.isList.typeIs,fun a e=>?_⟩
   cases e
   obtain ⟨o,n,e,c,hd,_⟩:=pl
   exact ⟨o,e,hd⟩
  ·refine ⟨⟨o,I.kIn p o hk,hc⟩,fun a e=>?_⟩
   cases e
   exact ⟨o,I.kIn _ o hk,hd⟩
  ·have z:∃ o,s.heap.get? p=some o∧o.ExactDict:=by
    rcases hk with ⟨kvs,hk⟩ | ⟨kvs,hk⟩
    ·obtain ⟨_,_,_,_,o,_,_,e,ex,_⟩:=I.hok p _ hk
     exact ⟨o,e,ex⟩
    ·obtain ⟨_,_,_,_,o,_,_,e,ex,_⟩:=I.hok p _ hk
     exact ⟨o,e,ex⟩
   obtain ⟨o,e,ex⟩:=z
   refine ⟨⟨o,e,ex.1⟩,fun a e2=>?_⟩
   cases e2
   exact ⟨o,e,ex.2.1⟩
  ·obtain ⟨o,_,_,_,e,ex,_⟩:=I.hok p _ hk
   refine ⟨⟨o,e,ex.1⟩,fun a e2=>?_⟩
   cases e2
   exact ⟨o,e,ex.2.1⟩
 | _=>exact False.elim ty
def tBM0 (K:PySem.W.Frag) (T:String) (r:V→List V→Hp→VK→Prop) (to:TE):TE:=fun σ H Q=>to σ H fun x H1=>tyV K T x H1∧r x [] H1 Q
def tBM (K:PySem.W.Frag) (T:String) (r:V→List V→Hp→VK→Prop) (to:TE) (t:TA):TE:=fun σ H Q=>to σ H fun x H1=>tyV K T x H1∧t σ H1 fun xs H2=>r x xs H2 Q
variable {o e:Expr} {es:List Expr} {to:TE} {t:TA} {name:Str} {apos cpos:Pos} {T id:String} {r:V→List V→Hp→VK→Prop}
theorem pe_bm0 (pa:PlainAttrs T) (slot:Slot T name id) (hty:typeOf (.builtin id)=pure (.type "method_descriptor")) (hm:MtR X id r) (ho:PE X o to)
  (hbase:attributeBase o name X.env (eval o X.env)=eval o X.env:=by rfl) (hline:(apos.endLine == cpos.line)=true:=by rfl):PE X (.Call (.Attribute o name apos) [] [] cpos) (tBM0 X.K T r to):=by
 refine .mk ?_
 intro pins s σ H Q I h
 refine wpAny_Call_method0_late hbase hline (thn (ho pins s σ H _ I h) fun v s1 ⟨x,H1,I1,r1,ty,q1⟩=>?_)
 obtain ⟨h1,h2⟩:=tyV_is I1 r1 ty
 exact ⟨T,id,pa,slot,hty,h1,h2,Calls.callWith_builtin rfl (PySem.evalArgs_none (hm pins s1 σ H1 x [] v [] Q I1 r1 .nil q1))⟩
theorem pe_bm (pa:PlainAttrs T) (slot:Slot T name id) (hty:typeOf (.builtin id)=pure (.type "method_descriptor")) (hm:MtR X id r) (ho:PE X o to) (ha:PA X (e::es) t)
  (hbase:attributeBase o name X.env (eval o X.env)=eval o X.env:=by rfl)
  (hfew:((backTo cpos (starEach (e::es) X.env)).all (fun x=>!x.1) && (backToKw cpos (keywordEach [] X.env)).all (fun x=>x.1.isSome)
   && decide ((e::es).length+([]:List Keyword).length+(if ([]:List Keyword).isEmpty then 0 else 1) < 30))=true:=by rfl)
  (hline:(apos.endLine == cpos.line)=true:=by rfl) (hs:starEach (e::es) X.env=(false,eval e X.env)::starEach es X.env:=by rfl) (hplain:(backTo cpos (starEach es X.env)).any (·.1)=false:=by rfl) :
  PE X (.Call (.Attribute o name apos) (e::es) [] cpos) (tBM X.K T r to t):=by
 refine .mk ?_
 intro pins s σ H Q I h
 refine wpAny_Call_method_late hbase hfew hline rfl (thn (ho pins s σ H _ I h) fun v s1 ⟨x,H1,I1,r1,ty,q1⟩=>?_)
 obtain ⟨h1,h2⟩:=tyV_is I1 r1 ty
 refine ⟨T,id,pa,slot,hty,h1,h2,?_⟩
 have hA:=ha cpos pins s1 σ H1 _ I1 q1
 rw [hs] at hA ⊢
 refine Calls.callWith_builtin (by show (false || (backTo cpos (starEach es X.env)).any (·.1))=false; rw [hplain] <;> rfl) (Calls.evalArgs_plain ?_)
 exact thn hA fun us s2 ⟨vs,H2,I2,r2,q2⟩=>hm pins s2 σ H2 x vs v us Q I2 r1 r2 q2
end
def MtM (X:Cx) (id:String) (r:V→List V→Hp→VK→Prop):Prop:=
 ∀ (pins:List (Addr×Obj)) (s:Shared) (σ:St) (H:Hp) (x:V) (xs:List V) (v:Value) (us:List Value) (Q:VK),Inv X pins σ H s→RelV x v→Vals xs us→r x xs H Q →
  wpAny (model X.prog X.w) X.A (call (.builtin id) (v::us)) (EP X pins σ Q) X.xe s
theorem Vals.one:∀ {x:V} {us:List Value},Vals [x] us→∃ u,us=[u]∧RelV x u
 | _,_,.cons r .nil=>⟨_,rfl,r⟩
theorem Vals.zero:∀ {us:List Value},Vals [] us→us=[]
 | _,.nil=>rfl
theorem Vals.dropLast {xs:List V} {us:List Value} (h:Vals xs us):Vals xs.dropLast us.dropLast:=by
 induction h with
 | nil=>exact .nil
 | cons r t ih=>
  cases t with
  | nil=>exact .nil
  | cons q t'=>exact .cons r ih
theorem Vals.eraseIdx:∀ {xs:List V} {us:List Value} (i:Nat),Vals xs us→Vals (xs.eraseIdx i) (us.eraseIdx i)
 | _,_,_,.nil=>.nil
 | _,_,0,.cons _ t=>t
 | _,_,i+1,.cons r t=>.cons r (Vals.eraseIdx i t)
theorem Vals.reverse {xs:List V} {us:List Value} (h:Vals xs us):Vals xs.reverse us.reverse:=by
 induction h with
 | nil=>exact .nil
 | cons r t ih=>rw [List.reverse_cons,List.reverse_cons]; exact Vals.append ih (.cons r .nil)
theorem Vals.rep {xs:List V} {us:List Value} (h:Vals xs us):∀ k:Nat,Vals (List.replicate k xs).flatten (List.replicate k us).flatten
 | 0=>.nil
 | k+1=>by
  rw [List.replicate_succ,List.replicate_succ,List.flatten_cons,List.flatten_cons]
  exact Vals.append h (Vals.rep h k)
theorem erase_last {α:Type} (l:List α):l.eraseIdx (l.length-1)=l.dropLast:=by
 induction l with
 | nil=>rfl
 | cons a r ih=>
  cases r with
  | nil=>rfl
  | cons b r=>
   have e:(a::b::r).length-1=((b::r).length-1)+1:=by
    have h1:(a::b::r).length=r.length+2:=rfl
    have h2:(b::r).length=r.length+1:=rfl
    omega
   rw [e,List.eraseIdx_cons_succ,ih]
   all_goals rfl
section
variable {X:Cx} {pins:List (Addr×Obj)} {σ:St} {H:Hp} {s:Shared} {l b:Addr} {xs ys zs:List V}
theorem Inv.lset {its its':List Value} {n:Nat} {f:Array Value→Array Value} {t':Nat} (I:Inv X pins σ H s) (hH:H l=some (.lst xs))
  (e:s.heap.get? l=some { cls:=.type "list",data:=.seq its.toArray n }) (hf:f its.toArray=its'.toArray) (hv:Vals ys its') (hz:ys.length≤sizeLine) :
  Inv X pins σ (upd H l (.lst ys)) { s with heap:=s.heap.update l (Obj.mapSeq f),toks:=t' }:=by
 have q:=PySem.IsL.update e f
 rw [hf] at q
 refine I.write (x:=l) (e:=l) (by rw [hH]; exact trivial) (.inl rfl) (fun b' u hb hu=>(Heap.get?_update_other s.heap (Obj.mapSeq f) (Ne.symm hb)).trans hu) ⟨_,q⟩ ?_
 exact ⟨hz,its',_,hv,q⟩
theorem Inv.lnew {its:List Value} {t':Nat} (I:Inv X pins σ H s) (hv:Vals ys its) (hz:ys.length≤sizeLine) :
  Inv X pins σ (upd H s.heap.objs.size (.lst ys)) { s with heap:=s.heap.push { cls:=.type "list",data:=.seq its.toArray },toks:=t' }:=
 I.laid (fun _ _ q=>Heap.get?_push_of_some _ q) (Nat.le_refl _) ⟨hz,its,0,hv,Heap.get?_push_size _ rfl⟩
theorem Inv.fresh (I:Inv X pins σ H s):H s.heap.objs.size=none:=I.hok.fresh (Nat.le_refl _)
theorem Inv.lstM (I:Inv X pins σ H s) (hH:H l=some (.lst xs)):xs.length≤sizeLine∧∃ (its:List Value) (n:Nat),Vals xs its∧xs.length=its.length∧s.heap.get? l=some { cls:=.type "list",data:=.seq its.toArray n }:=by
 obtain ⟨z,its,n,r,e⟩:=I.hok l _ hH
 exact ⟨z,its,n,r,r.length,e⟩
theorem notLongL {n:Nat} (h:n≤sizeLine):Builtin.List.listTooLong n=false:=by
 unfold Builtin.List.listTooLong
 exact decide_eq_false (by omega)
end
section
variable {X:Cx}
def rAppend:V→List V→Hp→VK→Prop:=fun x vs H Q=>∃ l xs y,x=.ref l∧vs=[y]∧H l=some (.lst xs)∧xs.length < sizeLine∧Q .non (upd H l (.lst (xs++[y])))
theorem mt_append:MtM X "list.append" rAppend:=by
 intro pins s σ H x vs v us Q I rx rv h
 obtain ⟨l,xs,y,rfl,rfl,hH,hz,q⟩:=h
 cases rx
 obtain ⟨u,rfl,ru⟩:=rv.one
 obtain ⟨z,its,n,r,hl,e⟩:=I.lstM hH
 refine call_meets F.slot_list_append ⟨_,e,rfl⟩ F.entry_list_append (F.args_list_append_2 _ _) (PySem.list_append l its.toArray n u (by rw [List.size_toArray]; omega)) ⟨e,?_⟩
 refine ⟨.non,_,I.lset (its':=its++[u]) hH e (by simp) (r.append (.cons ru .nil)) ?_,rfl,q⟩
 rw [List.length_append,List.length_singleton]
 omega
def rExtend:V→List V→Hp→VK→Prop:=fun x vs H Q=>∃ l b xs zs,x=.ref l∧vs=[.ref b]∧H l=some (.lst xs)∧H b=some (.lst zs)∧xs.length+zs.length≤sizeLine∧Q .non (upd H l (.lst (xs++zs)))
theorem mt_extend:MtM X "list.extend" rExtend:=by
 intro pins s σ H x vs v us Q I rx rv h
 obtain ⟨l,b,xs,zs,rfl,rfl,hH,hB,hz,q⟩:=h
 cases rx
 obtain ⟨u,rfl,ru⟩:=rv.one
 cases ru
 obtain ⟨z,its,n,r,hl,e⟩:=I.lstM hH
 obtain ⟨z2,its2,n2,r2,hl2,e2⟩:=I.lstM hB
 have hsz:its.toArray.size+its2.toArray.size≤sizeLine:=by rw [List.size_toArray,List.size_toArray]; omega
 have hlong:¬ (!its.toArray.isEmpty && Builtin.List.listTooLong (its.toArray.size+its2.toArray.size))=true:=by
  rw [notLongL hsz,Bool.and_false]
  exact Bool.false_ne_true
 refine call_meets F.slot_list_extend ⟨_,e,rfl⟩ F.entry_list_extend (F.args_list_extend_2 _ _)
  (AutoSeq1.list_extend_list_list_0 l its.toArray n b its2.toArray n2 hlong (by rw [List.size_toArray]; omega) (by omega)) ⟨e,e2,?_⟩
 refine ⟨.non,_,I.lset (its':=its++its2) hH e (by simp) (r.append r2) ?_,rfl,q⟩
 rw [List.length_append]
 omega
def rPop:V→List V→Hp→VK→Prop:=fun x vs H Q=>∃ l xs y,x=.ref l∧vs=[]∧H l=some (.lst xs)∧xs[xs.length-1]? = some y∧Q y (upd H l (.lst xs.dropLast))
theorem mt_pop:MtM X "list.pop" rPop:=by
 intro pins s σ H x vs v us Q I rx rv h
 obtain ⟨l,xs,y,rfl,rfl,hH,hy,q⟩:=h
 cases rx
 have hus:=rv.zero
 subst hus
 obtain ⟨z,its,n,r,hl,e⟩:=I.lstM hH
 obtain ⟨u,hu,ru⟩:=r.get hy
 have hy':its.toArray[its.toArray.size-1]? = some u:=by
  show its.toArray[its.length-1]? = some u
  rw [← Array.getElem?_toList,← hl]
  exact hu
 refine call_meets F.slot_list_pop ⟨_,e,rfl⟩ F.entry_list_pop (F.args_list_pop_1 _) (MeetsSeq.list_pop_last l its.toArray n u hy' (by rw [List.size_toArray]; omega)) ⟨e,?_⟩
 refine ⟨y,_,I.lset (its':=its.dropLast) hH e ?_ r.dropLast ?_,ru,q⟩
 ·show its.toArray.eraseIdxIfInBounds (its.toArray.size-1)=its.dropLast.toArray
  rw [List.size_toArray,List.eraseIdxIfInBounds_toArray,erase_last]
 ·rw [List.length_dropLast]
  omega
def rCat:R2:=fun x y H Q=>∃ l b xs zs,x=.ref l∧y=.ref b∧H l=some (.lst xs)∧H b=some (.lst zs)∧xs.length+zs.length≤sizeLine∧∀ p,H p=none→Q (.ref p) (upd H p (.lst (xs++zs)))
theorem op_cat:OpR X (binaryOp .Add) rCat:=by
 intro pins s σ H x y v u Q I rx ry h
 obtain ⟨l,b,xs,zs,rfl,rfl,hH,hB,hz,q⟩:=h
 cases rx
 cases ry
 obtain ⟨z,its,n,r,hl,e⟩:=I.lstM hH
 obtain ⟨z2,its2,n2,r2,hl2,e2⟩:=I.lstM hB
 refine PySem.P.add_list e e2 ?_ (by rw [List.size_toArray,List.size_toArray]; omega)
 have ea:its.toArray++its2.toArray=(its++its2).toArray:=by simp
 rw [ea]
 exact ⟨.ref _,_,I.lnew (t':=s.toks) (r.append r2) (by rw [List.length_append]; omega),rfl,q _ I.fresh⟩
theorem len_rep {α:Type} (xs:List α) (k:Nat):(List.replicate k xs).flatten.length=k * xs.length:=by
 induction k with
 | zero=>simp
 | succ k ih=>rw [List.replicate_succ,List.flatten_cons,List.length_append,ih,Nat.succ_mul,Nat.add_comm]
end
section
variable {prog:Program} {w:World} {A:Around} {E:Value→Shared→Prop} {s:Shared}
set_option maxRecDepth 100000 in
end
section
variable {X:Cx}
end
end L2
namespace Att
open PySem PySem.W PySem.Calls PyProof.Rows
theorem ints_of_wellAll {P:Params} {h:Heap}:∀ (ns:List Int) (vs:List Value),WellAll P h vs (ns.map WData.int)→IntsAre vs ns:=by
 intro ns
 induction ns with
 | nil=>
  intro vs w
  rw [List.map_nil] at w
  cases w
  exact .nil
 | cons n ns ih=>
  intro vs w
  rw [List.map_cons] at w
  cases w with
  | cons a b=>
   cases a
   exact .cons _ _ (ih _ b)
theorem script_of {l:OpenLaw} {n:Nat} (hn:l.most=some n) {P:Params} {h:Heap} {args:List WData} {vals:List Value}
  (hpre:l.row.toRowW.claim.pre args=true) (hwl:WellAll P h vals args) :
  ∃ a vs ns,vals=[Value.ref a]∧args=[WData.list (ns.map WData.int)]∧h.get? a=some { cls:=.type "list",data:=.seq vs.toArray }∧IntsAre vs ns∧ns.length≤n:=by
 have hsh:WShape.hasAll [] args [.list .int]=true:=(pre_splitW hpre).1
 have hc:l.pre.holds [] { args:=args }=true:=(pre_splitW hpre).2
 obtain ⟨d,r,rfl,h1,h2⟩:=hasAllW_cons hsh
 obtain rfl:=hasAllW_nil h2
 obtain ⟨xs,rfl,h3⟩:=hasW_list h1
 obtain ⟨ns,rfl⟩:=items_int h3
 have hlen:ns.length≤n:=by
  unfold OpenLaw.pre at hc
  have h4:(WTm.not (.lt (.lit (.int (n:Int))) (.len (.arg 0)))).holds [] { args:=[.list (ns.map .int)] }=true:=by
   have h4:=(holds_andW hc).1
   rw [hn] at h4
   exact h4
  have h5:=condW_of h4 (w_not (w_lt w_lit (w_len_list (w_arg rfl))))
  rw [List.length_map] at h5
  refine Nat.le_of_not_lt fun q=>?_
  have q':(n:Int) < ((ns.length:Nat):Int):=by omega
  first
   | (rw [decide_eq_true q'] at h5; exact absurd h5 (by decide))
   | (simp at h5; omega)
 cases hwl with
 | cons w1 w2=>
  cases w2
  cases w1 with
  | list ho hall=>exact ⟨_,_,ns,rfl,rfl,ho,ints_of_wellAll ns _ hall,hlen⟩
theorem post_true (l:OpenLaw) (args:List WData):l.row.toRowW.claim.post args (.bool true) args=true:=
 postW_of (r:=l.row.toRowW) (X:=(true == true))
  (show WShape.has [] (.bool true) .bool=true by first | rfl | decide | simp [WShape.has,WShape.arms,WShape.armsAll])
  (show (WTm.eq .res (.lit (.bool true))).value [] { args:=args,res:=some (.bool true),after:=args }=some (.bool (true == true)) from w_eq_bool (w_res rfl) w_lit) rfl
theorem attach_call {l:OpenLaw} {n:Nat} {q:Program} {loose:List Str} {XP:(Str→Option Value)→Heap→Prop} {YP:World→Heap→Prop} {d:DefRec}
  (hn:l.most=some n) (hdf:d.params.defaults=[])
  (call:∀ (w:World) (s₀ s₁:Shared) (mg mb:Str→Option Value) (fa:Addr) (o:Obj) (pm cd doc:Value) (a:Addr) (vs:List Value) (ns:List Int),
   Ground q loose [] XP w s₀ mg mb s₁.heap→YP w s₁.heap →
   s₁.heap.get? fa=some o→o.data=.func (docDef d.name d.params d.body d.scope pm cd doc)→s₁.heap.CodeRec cd d.name→mg d.name=some (.ref fa) →
   s₁.heap.get? a=some { cls:=.type "list",data:=.seq vs.toArray }→IntsAre vs ns→ns.length≤n→s₁.gens=#[] →
   codeAny (model l.prog w) callerA (.call (.ref fa) ⟨[.ref a],[]⟩) (fun r s'=>r=.ok (.ret (.bool true))∧OldK s₁.heap s'.heap∧s'.os=s₁.os∧AllBare s'.gens) s₁) :
  WalkO q loose XP YP l.row.toRowW d [] (fun f vs=>PySem.call f vs):=by
 intro w s₀ s₁ mg mb G Y fa o pm cd doc dV kV ho hd hcd hD hmg hg args vals as hpre hlay hrd hwl hlo
 obtain rfl:dV=.none:=Dflts.none hD hdf
 obtain rfl:kV=.none:=Dflts.noKw hD
 obtain ⟨a,vs,ns,rfl,rfl,hobj,hints,hlen⟩:=script_of hn hpre hwl
 refine enter_call (codeAny_mono (call w s₀ s₁ mg mb fa o pm cd doc a vs ns G Y ho (fd_plain hd) hcd hmg hobj hints hlen hg) fun r s' hq=>?_)
 obtain ⟨rfl,h2,h3,h4⟩:=hq
 exact ⟨.inl ⟨.bool true,.bool true,[],rfl,fun _=>rfl,.bool true,post_true l _,fun _=>⟨List.Pairwise.nil,fun _ hm=>(nomatch hm)⟩⟩,h2,h3,h4⟩
section
variable {prog:Program} {w:World} {A:Around} {E:Value→Shared→Prop} {s:Shared} {K:Frag}
end
end Att
namespace L2
open PySem PySem.Spec PyProof.Rows
theorem vals_ints:∀ {vs:List Value} {ns:List Int},IntsAre vs ns→Vals (ns.map V.int) vs
 | _,_,.nil=>.nil
 | _,_,.cons n t h=>.cons ⟨t,rfl⟩ (vals_ints h)
def defArgs (s:Stmt):Arguments:=match s with
 | .FunctionDef _ a _ _ _ _ _ _ _ _=>a
 | _=>{ posonlyargs:=[],args:=[],vararg:=none,kwonlyargs:=[],kw_defaults:=[],kwarg:=none,defaults:=[] }
def defBody (s:Stmt):List Stmt:=match s with
 | .FunctionDef _ _ b _ _ _ _ _ _ _=>b
 | _=>[]
def defScope (s:Stmt):Scope:=match s with
 | .FunctionDef _ _ _ _ _ _ sc _ _ _=>sc
 | _=>{ kind:=.function,names:=[],isGenerator:=false,isCoroutine:=false }
abbrev CX0:CXT:=fun _ _ _ _ _ _=>False
abbrev E0:XK:=fun _ _ _=>False
theorem pass0 {X:Cx}:Passes CX0 X E0:=fun _ _ _ _ _ _ _ h=>h.elim
structure Fun (K:PySem.W.Frag) (x qual:Str) (st:Stmt) (f:Addr) (fd:FuncData):Prop where
 ex:∃ (oc:Value) (od:Option Addr) (kV doc pm:Value) (an:Option Addr) (cdv ct:Value) (osl:Array (Option Value)),
  fd=PySem.W.fnOf x qual (defArgs st) (defBody st) (defScope st) .none kV doc pm an cdv ct∧K.lookup f=some ⟨oc,od,.func fd,osl⟩∧PySem.W.codeIn K cdv qual=true
 kp:PySem.W.keepIn K (.ref f)=true
section
variable {P:Program} {w:World} {K:PySem.W.Frag} {mg:Str→Option Value} {base:Heap}
theorem Fun.ok {x qual:Str} {st:Stmt} {f:Addr} {fd:FuncData} {N ps:List Str} {k:Nat} {sp:Sp} (F:Fun K x qual st f fd) (S:FnScope N ps (defScope st)) (len:∀ vs H Q E,sp vs H Q E→vs.length=ps.length)
  (hbody:∀ (cdv:Value) (A:Around) (outer:List Env) (s:Shared) (H:Hp) (vs:List V) (Q:VK) (E:XK),Room k (A.deeper (envOfC qual (defScope st) s.heap.objs.size f cdv))→sp vs H Q E →
   ∃ t,PSs (cxOf CX0 P w K mg base N qual (defScope st) f cdv A outer s H E).nox (defBody st) t∧t { nx:=fun _ H'=>Q .non H',rt:=Q } (start N vs) H):FnOk P w K mg base CX0 (k+1) f fd ps sp:=by
 obtain ⟨oc,od,kV,doc,pm,an,cdv,ct,osl,rfl,lk,hcd⟩:=F.ex
 refine fn_of lk hcd S len fun A outer s H vs Q E hr hsp=>?_
 obtain ⟨t,h,q⟩:=hbody cdv A outer s H vs Q E hr hsp
 exact ⟨t,h.nox,q⟩
theorem Fun.binds {x qual:Str} {st:Stmt} {f:Addr} {fd:FuncData} {ps:List Str} (F:Fun K x qual st f fd)
  (h:∀ (kV doc pm:Value) (an:Option Addr) (cdv ct:Value) (us:List Value),us.length=ps.length→bindArgs (PySem.W.fnOf x qual (defArgs st) (defBody st) (defScope st) .none kV doc pm an cdv ct) ⟨us,[]⟩=pure (ps.zip us)):Binds K fd ps []:=by
 obtain ⟨oc,od,kV,doc,pm,an,cdv,ct,osl,rfl,lk,hcd⟩:=F.ex
 exact .all (h kV doc pm an cdv ct)
theorem fun_mk {x qual:Str} {st:Stmt} {f:Addr} {oc:Value} {od an:Option Addr} {osl:Array (Option Value)} {kV doc pm cdv ct:Value} (l:K.lookup f=some ⟨oc,od,.func (PySem.W.fnOf x qual (defArgs st) (defBody st) (defScope st) .none kV doc pm an cdv ct),osl⟩)
  (c:PySem.W.codeIn K cdv qual=true) (k:PySem.W.keepIn K (.ref f)=true):Fun K x qual st f (PySem.W.fnOf x qual (defArgs st) (defBody st) (defScope st) .none kV doc pm an cdv ct):=⟨⟨oc,od,kV,doc,pm,an,cdv,ct,osl,rfl,l,c⟩,k⟩
end
theorem small1000 {n:Nat} (h:n≤1000):n < sizeLine:=Nat.lt_of_le_of_lt h (by decide)
section
variable {X:Cx}
theorem pv (i:Nat) {x:Str} {pos:Pos} (hN:X.N[i]? = some x:=by rfl) (hv:Vis X.env.scope x:=by first | exact Or.inl rfl | exact Or.inr (Or.inl rfl) | exact Or.inr (Or.inr rfl)) (hd:(x == ("__debug__" : Str))=false:=by decide)
  (hcd:(x == ("__classdict__" : Str))=false:=by decide):PE X (.Name x pos) (tVar i):=pe_var hN hv hd hcd
end
theorem iteF {A B:Prop} (h:B):if false=true then A else B:=by
 rw [if_neg Bool.false_ne_true]
 exact h
theorem ite2 {c A B:Prop} [Decidable c] (h1:c→A) (h2:¬ c→B):if c then A else B:=by
 by_cases h:c
 ·rw [if_pos h]
  exact h1 h
 ·rw [if_neg h]
  exact h2 h
def Same (H H':Hp):Prop:=∀ b o,H b=some o→H' b=some o
theorem Same.refl (H:Hp):Same H H:=fun _ _ h=>h
theorem Same.trans {H H1 H2:Hp} (a:Same H H1) (b:Same H1 H2):Same H H2:=fun c o h=>b c o (a c o h)
theorem Same.free {H H':Hp} (e:Same H H') {l:Addr} (h:H' l=Option.none):H l=Option.none:=by
 cases q:H l with
 | none=>rfl
 | some o=>
  rw [e l o q] at h
  cases h
theorem Same.seq {K:PySem.W.Frag} {H H':Hp} {a:Addr} {xs:List V} (e:Same H H') (h:SqL K H a xs):SqL K H' a xs:=by
 rcases h with (h | ⟨o,h⟩) | h
 ·exact .inl (.inl (e _ _ h))
 ·exact .inl (.inr ⟨o,e _ _ h⟩)
 ·exact .inr h
theorem compLoop_any {prog:Program} {w:World} {A:Around} {R:Result→Shared→Prop} {s:Shared} {elt target iter:Expr} {ifs:List Expr} {scope:Scope} {pos:Pos} {it acc:Value} {env:Env} (I:Nat→Shared→Prop)
  (turn:∀ n s,I n s→wpAny (model prog w) A (pyNext it) (fun r s₁=>match r with
   | none=>R (.ok .next) s₁
   | some v=>wpAny (model prog w) A (letOwnedTupleGo target it v) (fun _ s₁'=>wpAny (model prog w) A (assign target env v) (fun _ s₂=>
     wpAny (model prog w) A (forIn ifs true fun c r=>if r=true then do let ok ← isTrue c env (eval c env); pure (ForInStep.yield ok) else pure (ForInStep.yield r)) (fun ok s₃=>
      if ok=true then wpAny (model prog w) A (eval elt env) (fun x s₄=>
       wpAny (model prog w) A (call (.builtin "list.append") [acc,x]) (fun _ s₅=>∃ m,m < n∧I m s₅) (notedBy (model prog w) A env fun e s'=>R (.error e) s') s₄) (notedBy (model prog w) A env fun e s'=>R (.error e) s') s₃
      else ∃ m,m < n∧I m s₃) (notedBy (model prog w) A env fun e s'=>R (.error e) s') s₂) (notedBy (model prog w) A env fun e s'=>R (.error e) s') s₁') (notedBy (model prog w) A env fun e s'=>R (.error e) s') s₁) (notedBy (model prog w) A env fun e s'=>R (.error e) s') s)
  (n:Nat) (h:I n s) :
  codeAny (model prog w) A (.compLoop (.ListComp elt [⟨target,iter,ifs,0⟩] scope pos) 0 it acc env) R s:=by
 refine codeAny_loop rfl I (fun n s hI=>?_) n h
 show wpAny _ A ((compTurn (.ListComp elt [⟨target,iter,ifs,0⟩] scope pos) 0 it acc env).onRaise (fun x=>do noteFrame x env; theTreesLotGoes x)) _ _ s
 refine wpAny_noted ?_
 rw [compTurn_list]
 refine wpAny_bind (wpAny_standAt (wpAny_bind (wpAny_mono (turn n s hI) (fun r s₁ h₁=>?_) fun _ _ h'=>h')))
 cases r with
 | none=>exact wpAny_pure h₁
 | some v=>
  refine wpAny_bind (wpAny_mono h₁ (fun _ s₁' h₁'=>?_) fun _ _ h'=>h')
  refine wpAny_bind (wpAny_mono h₁' (fun _ s₂ h₂=>wpAny_bind (wpAny_mono h₂ (fun ok s₃ h₃=>?_) fun _ _ h'=>h')) fun _ _ h'=>h')
  cases ok with
  | false=>exact wpAny_pure ⟨rfl,h₃⟩
  | true=>
   exact wpAny_bind (wpAny_bind (wpAny_mono h₃ (fun x s₄ h₄=>wpAny_bind (wpAny_mono h₄ (fun _ s₅ h₅=>wpAny_pure (wpAny_pure ⟨rfl,h₅⟩)) fun _ _ h'=>h')) fun _ _ h'=>h'))
structure PTs (X:Cx) (ifs:List Expr) (t:TT):Prop where
 run:∀ (pins:List (Addr×Obj)) (s:Shared) (σ:St) (H:Hp) (Q:Bool→Hp→Prop),Inv X pins σ H s→t σ H Q →
  wpAny (model X.prog X.w) X.A (forIn ifs true fun c r=>if r=true then do let ok ← isTrue c X.env (eval c X.env); pure (ForInStep.yield ok) else pure (ForInStep.yield r)) (TP X pins σ Q) X.xe s
instance {X:Cx} {ifs:List Expr} {t:TT}:CoeFun (PTs X ifs t) fun _=>∀ (pins:List (Addr×Obj)) (s:Shared) (σ:St) (H:Hp) (Q:Bool→Hp→Prop),Inv X pins σ H s→t σ H Q→wpAny (model X.prog X.w) X.A (forIn ifs true fun c r=>if r=true then do let ok ← isTrue c X.env (eval c X.env); pure (ForInStep.yield ok) else pure (ForInStep.yield r)) (TP X pins σ Q) X.xe s:=⟨PTs.run⟩
def tTrue:TT:=fun _ H Q=>Q true H
theorem pts_nil {X:Cx}:PTs X [] tTrue:=.mk fun _ _ _ H _ I h=>wpAny_tests_nil ⟨H,I,h⟩
theorem pts_one {X:Cx} {c:Expr} {t:TT} (h:PT X c t):PTs X [c] t:=.mk fun pins s σ H Q I q=>wpAny_tests_one (h pins s σ H Q I q)
def compCx (X:Cx) (Nc:List Str) (scope:Scope) (cl:List (Str×Addr)) (C:Addr) (s:Shared) (H:Hp) (fp:List Addr) (E:Value→Shared→Prop):Cx where
 prog:=X.prog
 w:=X.w
 K:=X.K
 mg:=X.mg
 base:=X.base
 A:=X.A
 N:=Nc
 s₀:=s
 H₀:=H
 env:=compEnvC scope cl C X.env
 outer:=X.stack
 stack:=X.stack
 ex:=fp
 calm:=X.calm
 fn:=fun _=>false
 pn:=[]
 xe:=E
def CapOk (X:Cx) (scope:Scope) (cl:List (Str×Addr)) (j:Nat) (x:Str):Prop:=
 X.N[j]? = some x∧Vis X.env.scope x∧X.env.kindOf x≠some .local∧(relabel scope X.env).names.lookup x≠some .local∧((relabel scope X.env).names.lookup x=some .cell∨(relabel scope X.env).names.lookup x=some .free)
structure CompOk (X:Cx) (scope:Scope) (cl:List (Str×Addr)) (own:List Str) (cap:List (Nat×Str)):Prop where
 clos:closureFor scope X.env=pure cl
 cell:∀ y∈scope.names,y.2≠.cell
 kind:scope.kind=.function
 names:∀ y∈scope.names,y.2=.local→scope.names.lookup y.1=some .local
 sub:∀ x c,cl.lookup x=some c→X.env.cells.lookup x=some c
 has:∀ p∈(relabel scope X.env).names,p.2=.cell∨p.2=.free→(cl.lookup p.1).isSome=true
 caps:∀ p∈cap,CapOk X scope cl p.1 p.2
def compSt (own:List Str) (cap:List (Nat×Str)) (σ:St):St:=List.replicate own.length none++cap.map fun p=>(σ[p.1]?).getD none
theorem lookup_mem {α:Type}:∀ {l:List (Str×α)} {n:Str} {c:α},l.lookup n=some c→(n,c)∈l:=fun h=>mem_of_lookup h
section
variable {X:Cx} {pins:List (Addr×Obj)} {σ:St} {H:Hp} {s:Shared} {scope:Scope} {cl:List (Str×Addr)} {own:List Str} {cap:List (Nat×Str)} {fp:List Addr} {E:Value→Shared→Prop}
theorem CompOk.hasX (c:CompOk X scope cl own cap) (x:Str) (h:(relabel scope X.env).names.lookup x=some .cell∨(relabel scope X.env).names.lookup x=some .free):∃ a,cl.lookup x=some a:=by
 have:(cl.lookup x).isSome=true:=by
  rcases h with h | h
  ·exact c.has (x,.cell) (lookup_mem h) (.inl rfl)
  ·exact c.has (x,.free) (lookup_mem h) (.inr rfl)
 exact Option.isSome_iff_exists.mp this
theorem comp_ok (c:CompOk X scope cl own cap) (I:Inv X pins σ H s) (hf:∀ b∈fp,FpOk X pins H b) (hlt:∀ b∈fp,b < s.heap.objs.size) {C:Addr} (hC:s.heap.objs.size≤C) :
  (compCx X (own++cap.map (·.2)) scope cl C s H fp E).Ok where
 mod:=I.ok.mod
 kind:=c.kind
 glob:=I.ok.glob
 blt:=I.ok.blt
 above:=hC
 inj:=fun x y a h1 h2=>I.ok.inj x y a (c.sub x a h1) (c.sub y a h2)
 has:=fun x h=>c.hasX x h
 cab:=fun x a h=>absurd h (by intro z; exact Bool.noConfusion z)
 hd:=I.ok.hd
 frames:=I.ok.frames
 stk:=.inl rfl
 exf:=fun b hb=>⟨fun z=>by
   have:=hlt b hb
   rw [z] at this
   exact absurd (Nat.lt_of_lt_of_le this hC) (Nat.lt_irrefl _),fun x a h=>(hf b hb).2.2.2.2.1 x a (c.sub x a h)⟩
 bs:=I.bs
 bsz:=Nat.le_trans I.ok.bsz I.sz
 noex:=fun b o e hb=>by
  rcases (hf b hb).2.2.2.1 with z | z
  ·exact I.ok.noex b o e z
  ·exact absurd (Nat.lt_of_lt_of_le (Heap.lt_size (I.ok.bs b o e).1) z) (Nat.lt_irrefl _)
 exfs:=fun b hb hs=>by
  rcases List.mem_cons.mp (I.stkSub b hs) with z | z
  ·exact (hf b hb).2.1 z
  ·exact (hf b hb).2.2.1 z
 funs:=I.stack
 frf:=I.stkFree
theorem compSt_get {own:List Str} {cap:List (Nat×Str)} {σ:St} {i:Nat} {x:Str} {v:V} (h1:(own++cap.map (·.2))[i]? = some x) (h2:(compSt own cap σ)[i]? = some (some v)):∃ p∈cap,p.2=x∧σ[p.1]? = some (some v):=by
 unfold compSt at h2
 by_cases hi:i < own.length
 ·rw [List.getElem?_append_left (by simpa using hi),List.getElem?_replicate] at h2
  split at h2 <;> cases h2
 ·rw [List.getElem?_append_right (by simpa using hi)] at h2 h1
  rw [List.length_replicate,List.getElem?_map] at h2
  rw [List.getElem?_map] at h1
  cases e:cap[i-own.length]? with
  | none=>rw [e] at h2; cases h2
  | some p=>
   rw [e] at h1 h2
   refine ⟨p,List.mem_of_getElem? e,Option.some.inj h1,?_⟩
   have h3:(σ[p.1]?).getD none=some v:=Option.some.inj h2
   cases q:σ[p.1]? with
   | none=>rw [q] at h3; cases h3
   | some z=>rw [q] at h3; exact congrArg some h3
theorem comp_inv (c:CompOk X scope cl own cap) (I:Inv X pins σ H s) (hf:∀ b∈fp,FpOk X pins H b) (hlt:∀ b∈fp,b < s.heap.objs.size) {h₁:Heap} {tk:Nat} {m:Str→Option Value}
  (hk:∀ b o,s.heap.get? b=some o→h₁.get? b=some o) (hD:h₁.get? s.heap.objs.size=some { cls:=.type "list",data:=.seq ([]:List Value).toArray }) (hn:h₁.Ns (s.heap.objs.size+1) m) :
  Inv (compCx X (own++cap.map (·.2)) scope cl (s.heap.objs.size+1) s H fp E) [] (compSt own cap σ) (upd H s.heap.objs.size (.lst [])) { s with heap:=h₁,toks:=tk }:=by
 have hfr:H s.heap.objs.size=none:=I.fresh
 have hfr1:H (s.heap.objs.size+1)=none:=I.hok.fresh (Nat.le_succ _)
 have hnew:ObjOk X.prog X.w (upd H s.heap.objs.size (.lst [])) h₁ s.heap.objs.size (.lst []):=⟨Nat.zero_le _,[],0,.nil,hD⟩
 refine ⟨comp_ok c I hf hlt (Nat.le_succ _),rfl,I.bare,Un.laid hk (Nat.le_refl _) hfr,⟨m,hn,fun i x v e1 e2 _=>?_⟩,fun x a e=>?_,?_,fun x a e=>?_,fun p hp=>absurd (show p∈([]:List (Addr×Obj)) from hp) (by simp),I.hok.laid hk (Nat.le_refl _) hnew,?_⟩
 ·obtain ⟨p,hp,ex,es⟩:=compSt_get e1 e2
  obtain ⟨q1,q2,q3,q4,q5⟩:=c.caps p hp
  rw [ex] at q1 q2 q3 q4 q5
  obtain ⟨m',hn',hl⟩:=I.loc
  obtain ⟨u,r,l⟩:=hl p.1 x v q1 es q2
  refine ⟨u,r,?_⟩
  rcases l with l | ⟨k,a,e,z⟩
  ·exact absurd l.1 q3
  ·obtain ⟨a',e'⟩:=c.hasX x q5
   have ea:=c.sub x a' e'
   rw [e] at ea
   cases ea
   exact .inr ⟨q5,a,e',z.keeps hk⟩
 ·obtain ⟨v,z⟩:=I.cell x a (c.sub x a e)
  exact ⟨v,z.keeps hk⟩
 ·show upd H s.heap.objs.size (.lst []) (s.heap.objs.size+1)=none
  rw [upd_ne (Nat.succ_ne_self _)]
  exact hfr1
 ·obtain ⟨v,z⟩:=I.cell x a (c.sub x a e)
  show upd H s.heap.objs.size (.lst []) a=none
  rw [upd_ne (Nat.ne_of_lt z.lt)]
  exact I.freeC x a (c.sub x a e)
 ·show (compSt own cap σ).length=(own++cap.map (·.2)).length
  simp [compSt]
theorem comp_after {s2:Shared} {H':Hp} {σ':St} {C:Addr} {Nc:List Str} {pins':List (Addr×Obj)} (I:Inv X pins σ H s) (hf:∀ b∈fp,FpOk X pins H b) (hC:s.heap.objs.size≤C) (J:Inv (compCx X Nc scope cl C s H fp E) pins' σ' H' s2) :
  Inv X pins σ H' s2∧FpOk X pins H' C:=by
 have os:s2.os=s.os:=J.os
 have un:Un (frs X.stack) fp H H' s.heap s2.heap:=J.base
 exact ⟨I.call' os un J.hok J.bare fun b hb=>⟨(hf b hb).2.2.2.1,(hf b hb).2.1,(hf b hb).2.2.2.2.1,(hf b hb).2.2.2.2.2⟩,I.fpOk hC J.free⟩
end
def tComp (wi:TI) (g:TG) (tc:TT) (te:TE) (own:List Str) (cap:List (Nat×Str)):TE:=fun σ H Q=>wi σ H fun J H1=>∀ D,H1 D=none →
 ∃ W:Nat→Nat→St→List V→Hp→Prop,(∃ m,W 0 m (compSt own cap σ) [] (upd H1 D (.lst [])))∧∀ i m σ' ys H',W i m σ' ys H'→H' D=some (.lst ys) ∧
  ((J.stop i H'∧Q (.ref D) H')∨(J.go i H'∧ys.length < sizeLine∧∃ N:St→List V→Hp→Prop,(∀ σ ys H,N σ ys H→∃ m',m' < m∧W (i+1) m' σ ys H)∧∀ x H2,J.yld i H' x H2→g x σ' H2 fun σ3 H3=>tc σ3 H3 fun b H4=>if b=true then te σ3 H4 fun y H5=>H5 D=some (.lst ys)∧N σ3 (ys++[y]) (upd H5 D (.lst (ys++[y])))
   else N σ3 ys H4))
section
variable {X:Cx} {scope:Scope} {cl:List (Str×Addr)} {own:List Str} {cap:List (Nat×Str)} {tg iter elt:Expr} {ifs:List Expr} {wi:TI} {g:TG} {tc:TT} {te:TE} {pos:Pos}
theorem comp_block {pins:List (Addr×Obj)} {σ:St} {s2:Shared} {H2:Hp} {it:Addr} {fp:List Addr} {tn:Nat→Heap→Prop} {J:It} {Q:VK} {RR:Value→Addr→Result→Shared→Prop} {E':Value→Shared→Prop}
  (c:CompOk X scope cl own cap) (hc:X.calm=true)
  (hg:∀ C s H fp,PG (compCx X (own++cap.map (·.2)) scope cl C s H fp fun _ _=>False) tg g) (ht:∀ C s H fp,PTs (compCx X (own++cap.map (·.2)) scope cl C s H fp fun _ _=>False) ifs tc)
  (he:∀ C s H fp,PE (compCx X (own++cap.map (·.2)) scope cl C s H fp fun _ _=>False) elt te)
  (I2:Inv X pins σ H2 s2) (T:Turn X.prog X.w X.K tg J fp it tn) (st2:tn 0 s2.heap) (f2:∀ b∈fp,FpOk X pins H2 b)
  (hw:∀ D,H2 D=none→∃ W:Nat→Nat→St→List V→Hp→Prop,(∃ m,W 0 m (compSt own cap σ) [] (upd H2 D (.lst [])))∧∀ i m σ' ys H',W i m σ' ys H'→H' D=some (.lst ys) ∧
   ((J.stop i H'∧Q (.ref D) H')∨(J.go i H'∧ys.length < sizeLine∧∃ N:St→List V→Hp→Prop,(∀ σ ys H,N σ ys H→∃ m',m' < m∧W (i+1) m' σ ys H)∧∀ x H2,J.yld i H' x H2→g x σ' H2 fun σ3 H3=>tc σ3 H3 fun b H4=>if b=true then te σ3 H4 fun y H5=>H5 D=some (.lst ys)∧N σ3 (ys++[y]) (upd H5 D (.lst (ys++[y])))
    else N σ3 ys H4)))
  (hRR:∀ D C s' H' m,Inv X pins σ H' s'→FpOk X pins H' C→s'.heap.Ns C m→Q (.ref D) H'→RR (.ref D) C (.ok .next) s') :
  wpAny (model X.prog X.w) X.A (newList []) (fun acc s₃=>wpAny (model X.prog X.w) X.A (newFunctionEnv scope X.env.globals cl [] X.env.qual none .none (some X.env)) (fun cenv s₄=>
   codeAny (model X.prog X.w) X.A (.compStart (.ListComp elt [⟨tg,iter,ifs,0⟩] scope pos) 0 (.ref it) acc { cenv with scope:=relabel scope X.env }) (RR acc cenv.locals) s₄) E' s₃) E' s2:=by
 refine wpAny_newObj_type (wpAny_newFunctionEnv c.cell (by intro y hy; simp at hy) (fun h₁ hns₁ hsb₁=>?_) c.kind)
 dsimp only at hns₁ hsb₁ ⊢
 have hsz:(s2.heap.push { cls:=.type "list",dict:=none,data:=.seq ([]:List Value).toArray }).objs.size=s2.heap.objs.size+1:=Heap.size_push _ _
 have kk:∀ b o,s2.heap.get? b=some o→h₁.get? b=some o:=fun b o e=>hsb₁.extBut b o (by rw [hsz]; exact Nat.ne_of_lt (Nat.lt_succ_of_lt (Heap.lt_size e))) (Heap.get?_push_of_some _ (Heap.get?_push_of_some _ e))
 have hD:h₁.get? s2.heap.objs.size=some { cls:=.type "list",data:=.seq ([]:List Value).toArray }:=
  hsb₁.extBut _ _ (by rw [hsz]; exact Nat.ne_of_lt (Nat.lt_succ_self _)) (Heap.get?_push_of_some _ (Heap.get?_push_size _ rfl))
 rw [hsz] at hns₁ ⊢
 have hlt:∀ b∈fp,b < s2.heap.objs.size:=fun b hb=>by
  obtain ⟨o,e,_⟩:=T.obj _ _ st2 b hb
  exact Heap.lt_size e
 obtain ⟨W,⟨m0,w0⟩,turn⟩:=hw s2.heap.objs.size I2.fresh
 have J1:=comp_inv (E:=fun _ _=>False) c I2 f2 hlt (tk:=s2.toks+([]:List (Str×Value)).length) kk hD hns₁
 generalize hX':compCx X (own++cap.map (·.2)) scope cl (s2.heap.objs.size+1) s2 H2 fp (fun _ _=>False)=X' at J1
 have hg':PG X' tg g:=hX' ▸ hg _ _ _ _
 have ht':PTs X' ifs tc:=hX' ▸ ht _ _ _ _
 have he':PE X' elt te:=hX' ▸ he _ _ _ _
 have pX:X'.prog=X.prog:=by rw [← hX']; rfl
 have wX:X'.w=X.w:=by rw [← hX']; rfl
 have kX:X'.K=X.K:=by rw [← hX']; rfl
 have aX:X'.A=X.A:=by rw [← hX']; rfl
 have cX:X'.calm=true:=by rw [← hX']; exact hc
 have nX:X'.env=compEnvC scope cl (s2.heap.objs.size+1) X.env:=by rw [← hX']; rfl
 have xX:X'.xe=fun _ _=>False:=by rw [← hX']; rfl
 have fX:∀ b∈fp,∀ {H':Hp},H' b=none→FpOk X' [] H' b:=fun b hb {H'} hn=>by
  have o1:=(comp_ok (E:=fun _ _=>False) c I2 f2 hlt (C:=s2.heap.objs.size+1) (Nat.le_succ _)).exf b hb
  have o2:=(comp_ok (E:=fun _ _=>False) c I2 f2 hlt (C:=s2.heap.objs.size+1) (Nat.le_succ _)).exfs b hb
  rw [← hX']
  exact ⟨hn,o1.1,o2,.inl hb,o1.2,fun p hp=>absurd (show p∈([]:List (Addr×Obj)) from hp) (by simp)⟩
 have fin:∀ {σ':St} {H':Hp} {s':Shared},Inv X' [] σ' H' s'→Q (.ref s2.heap.objs.size) H'→RR (.ref s2.heap.objs.size) (s2.heap.objs.size+1) (.ok .next) s':=fun {σ' H' s'} J' q=>by
  rw [← hX'] at J'
  obtain ⟨A1,A2⟩:=comp_after I2 f2 (Nat.le_succ _) J'
  obtain ⟨m,hm,_⟩:=J'.loc
  exact hRR _ _ s' H' m A1 A2 hm q
 have loop:codeAny (model X.prog X.w) X.A (.compLoop (.ListComp elt [⟨tg,iter,ifs,0⟩] scope pos) 0 (.ref it) (.ref s2.heap.objs.size) (compEnvC scope cl (s2.heap.objs.size+1) X.env)) (RR (.ref s2.heap.objs.size) (s2.heap.objs.size+1))
   { s2 with heap:=h₁,toks:=s2.toks+([]:List (Str×Value)).length }:=by
  refine compLoop_any (fun n s'=>∃ i σ' ys H',Inv X' [] σ' H' s'∧tn i s'.heap∧(∀ b∈fp,H' b=none)∧W i n σ' ys H') ?_ m0
   ⟨0,_,[],_,J1,T.keep _ _ _ st2 fun b _ o e=>kk b o e,fun b hb=>by rw [upd_ne (Nat.ne_of_lt (hlt b hb))]; exact (f2 b hb).1,w0⟩
  rintro n s3 ⟨i,σ3,ys,H3,I3,st3,fr3,w3⟩
  obtain ⟨hDl,w4⟩:=turn i n σ3 ys H3 w3
  rw [← nX,← aX,← pX,← wX]
  have nox:∀ {α:Type} {t:Sem α} {Q1:α→Shared→Prop} {E1:Value→Shared→Prop} {s:Shared},wpAny (model X'.prog X'.w) X'.A t Q1 X'.xe s→wpAny (model X'.prog X'.w) X'.A t Q1 E1 s:=fun {α t Q1 E1 s} h=>by
   rw [xX] at h
   exact wpAny_mono h (fun _ _ q=>q) fun _ _ f=>f.elim
  rcases w4 with ⟨stop,qn⟩ | ⟨go,hys,N,hN,step⟩
  ·have d:=T.done X' pX wX kX cX i [] s3 σ3 H3 X'.xe I3 (fun b hb=>fX b hb (fr3 b hb)) st3 stop
   rw [← pX,← wX] at d
   refine nox (thn d fun r s4 ⟨hr,I4⟩=>?_)
   subst hr
   exact fin I4 qn
  ·have d:=T.item X' pX wX kX cX i [] s3 σ3 H3 X'.xe I3 (fun b hb=>fX b hb (fr3 b hb)) st3 go
   rw [← pX,← wX] at d
   refine nox (thn d fun r s4 ⟨u,hr,h4⟩=>?_)
   subst hr
   refine nox (thn h4 fun _ s5 ⟨x,H5,I5,r5,y5,st5,fr5⟩=>?_)
   have I5':=I5.pinned (fun b hb=>fX b hb (fr5 b hb)) (T.obj _ _ st5)
   have again:∀ {σ7:St} {H7:Hp} {s7:Shared} {ys':List V},Inv X' ([]++pinsAt fp s5.heap) σ7 H7 s7→N σ7 ys' H7 →
     ∃ m,m < n∧∃ i σ' ys H',Inv X' [] σ' H' s7∧tn i s7.heap∧(∀ b∈fp,H' b=none)∧W i m σ' ys H':=fun {σ7 H7 s7 ys'} I7 n7=>by
    obtain ⟨m',hm,w7⟩:=hN _ _ _ n7
    refine ⟨m',hm,i+1,σ7,ys',H7,I7.unpinned,T.keep _ _ _ st5 fun b hb o e=>(I7.pin (b,o) (List.mem_append_right _ (List.mem_append_right _ (mem_pinsAt hb e)))).1,fun b hb=>?_,w7⟩
    obtain ⟨o,e,d⟩:=T.obj _ _ st5 b hb
    exact (I7.pin (b,o) (List.mem_append_right _ (List.mem_append_right _ (mem_pinsAt hb e)))).2.1
   refine nox (thn (hg' _ s5 σ3 H5 x u _ I5' r5 (step x H5 y5)) fun _ s6 ⟨σ6,H6,I6,q6⟩=>?_)
   refine nox (thn (ht' _ s6 σ6 H6 _ I6 q6) fun b s7 ⟨H7,I7,q7⟩=>?_)
   cases b with
   | false=>
    rw [if_neg Bool.false_ne_true] at q7 ⊢
    exact again I7 q7
   | true=>
    rw [if_pos rfl] at q7 ⊢
    refine nox (thn (he' _ s7 σ6 H7 _ I7 q7) fun u8 s8 ⟨y8,H8,I8,r8,d8,q8⟩=>?_)
    refine nox (thn (mt_append _ s8 σ6 H8 (.ref s2.heap.objs.size) [y8] (.ref s2.heap.objs.size) [u8] (fun _ H9=>N σ6 (ys++[y8]) H9) I8 rfl (.cons r8 .nil) ⟨_,ys,y8,rfl,rfl,d8,hys,q8⟩) fun _ s9 ⟨_,H9,I9,_,q9⟩=>?_)
    exact again I9 q9
 exact codeAny_compStart_list loop (T.self X.A 0 _ _ _ (T.keep _ _ _ st2 fun b _ o e=>kk b o e) loop)
theorem pe_comp (c:CompOk X scope cl own cap) (hc:X.calm=true) (hi:PI X tg iter wi)
  (hg:∀ C s H fp,PG (compCx X (own++cap.map (·.2)) scope cl C s H fp fun _ _=>False) tg g) (ht:∀ C s H fp,PTs (compCx X (own++cap.map (·.2)) scope cl C s H fp fun _ _=>False) ifs tc)
  (he:∀ C s H fp,PE (compCx X (own++cap.map (·.2)) scope cl C s H fp fun _ _=>False) elt te) (hs:∀ x,foldedSetIterable iter X.env x=pure x:=by intro _; rfl) :
  PE X (.ListComp elt [⟨tg,iter,ifs,0⟩] scope pos) (tComp wi g tc te own cap):=by
 refine .mk ?_
 intro pins s σ H Q I h
 rw [eval_ListComp]
 refine wpAny_comprehension_free (use:=none) rfl hs c.clos c.kind c.names (thn (hi pins s σ H _ I h) fun v s1 h1=>thn h1 fun itv s2 h2=>?_)
 obtain ⟨it,fp,tn,J,H2,e,I2,T,st2,f2,hw⟩:=h2
 subst e
 refine comp_block (Q:=Q) (RR:=fun acc C=>compPost (model X.prog X.w) X.A X.xe none (EP X pins σ Q) acc C) c hc hg ht he I2 T st2 f2 hw ?_
 intro D C s' H' m I' hC hm q
 refine ⟨m,hm,fun h' hs'=>⟨.ref D,H',?_,rfl,q⟩⟩
 exact I'.turned (t':=s'.toks) (fun b o hb e=>(hs'.2 b hb).trans e) hC.1 hC.2.1 hC.2.2.2.1 hC.2.2.2.2.1 hC.2.2.2.2.2
def tCompS (i:Nat) (t:TE):TS:=fun D σ H=>t σ H fun x H1=>D.nx (σ.set i (some x)) H1
theorem ps_comp {i:Nat} {y:Str} {py spos:Pos} (c:CompOk X scope cl own cap) (hc:X.calm=true) (hi:PI X tg iter wi)
  (hg:∀ C s H fp,PG (compCx X (own++cap.map (·.2)) scope cl C s H fp fun _ _=>False) tg g) (ht:∀ C s H fp,PTs (compCx X (own++cap.map (·.2)) scope cl C s H fp fun _ _=>False) ifs tc)
  (he:∀ C s H fp,PE (compCx X (own++cap.map (·.2)) scope cl C s H fp fun _ _=>False) elt te)
  (hN:X.N.Nodup) (hy:X.N[i]? = some y) (hl:X.env.scope.names.lookup y=some .local)
  (hsw:swapsWith (.ListComp elt [⟨tg,iter,ifs,0⟩] scope pos) (some (.Name y py)) spos.line X.env=pure true:=by rfl) (hs:∀ x,foldedSetIterable iter X.env x=pure x:=by intro _; rfl) :
  PS X (.Assign [.Name y py] (.ListComp elt [⟨tg,iter,ifs,0⟩] scope pos) spos) (tCompS i (tComp wi g tc te own cap)):=by
 refine .mk ?_
 intro pins s σ H D I h
 rw [exec_Assign_Name_used _ _ _ _ hsw]
 refine wpAny_bind (wpAny_standAt (wpAny_bind ?_))
 show wpAny _ X.A (do let _ ← comprehension (.ListComp elt [⟨tg,iter,ifs,0⟩] scope pos) scope X.env _ (newList []) false (eval iter X.env) (some (assign (.Name y py) X.env))) _ _ s
 refine wpAny_bind (wpAny_mono (wpAny_comprehension_free (use:=some (assign (.Name y py) X.env)) (Q:=fun _ s'=>SP X pins D .next s') rfl hs c.clos c.kind c.names (thn (hi pins s σ H _ I h) fun v s1 h1=>thn h1 fun itv s2 h2=>?_)) (fun _ s' hq=>wpAny_pure (wpAny_pure hq)) fun _ _ e=>e)
 obtain ⟨it,fp,tn,J,H2,e,I2,T,st2,f2,hw⟩:=h2
 subst e
 refine comp_block (Q:=fun x H1=>D.nx (σ.set i (some x)) H1) (RR:=fun acc C=>compPost (model X.prog X.w) X.A X.xe (some (assign (.Name y py) X.env)) (fun _ s'=>SP X pins D .next s') acc C) c hc hg ht he I2 T st2 f2 hw ?_
 intro D' C s' H' m I' hC hm q
 show wpAny _ X.A (assign (.Name y py) X.env (.ref D')) _ _ _
 refine wpAny_assign_Name (store_ok2 (v:=.ref D') I' hN hy (.inl hl) rfl (fun s'' I'' ch=>?_) (.inr hl))
 obtain ⟨a,sb,ha⟩:=ch
 have hCa:C≠a:=by
  rcases ha with ha | ha
  ·rw [ha]; exact hC.2.1
  ·exact fun z=>hC.2.2.2.2.1 _ _ ha z.symm
 refine ⟨m,hm.sameBut sb hCa,fun h' hs'=>⟨_,H',?_,q⟩⟩
 exact I''.turned (t':=s''.toks) (fun b o hb e=>(hs'.2 b hb).trans e) hC.1 hC.2.1 hC.2.2.2.1 hC.2.2.2.2.1 hC.2.2.2.2.2
end
section
variable {K:PySem.W.Frag} {a:Addr} {xs:List V} {g:TG} {tc:TT} {te:TE} {own:List Str} {cap:List (Nat×Str)} {σ:St} {H1:Hp} {QD:Hp→Prop} {D:Addr}
theorem comp_seq {J:It} (Pv:Nat→St→List V→Hp→Prop) (h0:Pv 0 (compSt own cap σ) [] (upd H1 D (.lst [])))
  (hD:∀ i σ ys H,i≤xs.length→Pv i σ ys H→H D=some (.lst ys)∧ys.length≤i)
  (hz:xs.length≤sizeLine)
  (hgo:∀ i σ ys H,i < xs.length→Pv i σ ys H→J.go i H) (hst:∀ σ ys H,Pv xs.length σ ys H→J.stop xs.length H)
  (hyl:∀ i σ ys H x H',i < xs.length→Pv i σ ys H→J.yld i H x H'→H'=H∧xs[i]? = some x)
  (hs:∀ i x σ ys H,xs[i]? = some x→Pv i σ ys H→g x σ H fun σ3 H3=>tc σ3 H3 fun b H4=>if b=true then te σ3 H4 fun y H5=>H5 D=some (.lst ys)∧Pv (i+1) σ3 (ys++[y]) (upd H5 D (.lst (ys++[y]))) else Pv (i+1) σ3 ys H4)
  (hd:∀ σ ys H,Pv xs.length σ ys H→QD H) :
  ∃ W:Nat→Nat→St→List V→Hp→Prop,(∃ m,W 0 m (compSt own cap σ) [] (upd H1 D (.lst [])))∧∀ i m σ' ys H',W i m σ' ys H'→H' D=some (.lst ys) ∧
   ((J.stop i H'∧QD H')∨(J.go i H'∧ys.length < sizeLine∧∃ N:St→List V→Hp→Prop,(∀ σ ys H,N σ ys H→∃ m',m' < m∧W (i+1) m' σ ys H)∧∀ x H2,J.yld i H' x H2→g x σ' H2 fun σ3 H3=>tc σ3 H3 fun b H4=>if b=true then te σ3 H4 fun y H5=>H5 D=some (.lst ys)∧N σ3 (ys++[y]) (upd H5 D (.lst (ys++[y])))
    else N σ3 ys H4)):=by
 refine ⟨fun i m σ ys H=>m=xs.length-i∧i≤xs.length∧Pv i σ ys H,⟨xs.length,by simp,Nat.zero_le _,h0⟩,?_⟩
 rintro i m σ' ys H' ⟨rfl,hi,p⟩
 have q:=hD i σ' ys H' hi p
 refine ⟨q.1,?_⟩
 by_cases hlt:i < xs.length
 ·refine .inr ⟨hgo i σ' ys H' hlt p,by omega,Pv (i+1),fun σ' ys' H' p'=>⟨xs.length-(i+1),by omega,rfl,hlt,p'⟩,fun x H2 y=>?_⟩
  obtain ⟨e,hx⟩:=hyl i σ' ys H' x H2 hlt p y
  subst e
  exact hs i x σ' ys _ hx p
 ·have e:i=xs.length:=by omega
  subst e
  exact .inl ⟨hst σ' ys H' p,hd σ' ys H' p⟩
theorem comp_list (Pv:Nat→St→List V→Hp→Prop) (h0:Pv 0 (compSt own cap σ) [] (upd H1 D (.lst [])))
  (hD:∀ i σ ys H,i≤xs.length→Pv i σ ys H→H D=some (.lst ys)∧ys.length≤i∧SqL K H a xs)
  (hz:xs.length≤sizeLine)
  (hs:∀ i x σ ys H,xs[i]? = some x→Pv i σ ys H→g x σ H fun σ3 H3=>tc σ3 H3 fun b H4=>if b=true then te σ3 H4 fun y H5=>H5 D=some (.lst ys)∧Pv (i+1) σ3 (ys++[y]) (upd H5 D (.lst (ys++[y]))) else Pv (i+1) σ3 ys H4)
  (hd:∀ σ ys H,Pv xs.length σ ys H→QD H) :
  ∃ W:Nat→Nat→St→List V→Hp→Prop,(∃ m,W 0 m (compSt own cap σ) [] (upd H1 D (.lst [])))∧∀ i m σ' ys H',W i m σ' ys H'→H' D=some (.lst ys) ∧
   (((Itl K a).stop i H'∧QD H')∨((Itl K a).go i H'∧ys.length < sizeLine∧∃ N:St→List V→Hp→Prop,(∀ σ ys H,N σ ys H→∃ m',m' < m∧W (i+1) m' σ ys H)∧∀ x H2,(Itl K a).yld i H' x H2→g x σ' H2 fun σ3 H3=>tc σ3 H3 fun b H4=>if b=true then te σ3 H4 fun y H5=>H5 D=some (.lst ys)∧N σ3 (ys++[y]) (upd H5 D (.lst (ys++[y])))
    else N σ3 ys H4)):=
 comp_seq (xs:=xs) Pv h0 (fun i σ ys H hi p=>⟨(hD i σ ys H hi p).1,(hD i σ ys H hi p).2.1⟩) hz
  (fun i σ ys H hi p=>⟨xs,xs[i],(hD i σ ys H (Nat.le_of_lt hi) p).2.2,by simp [hi]⟩) (fun σ ys H p=>⟨xs,(hD _ σ ys H (Nat.le_refl _) p).2.2,Nat.le_refl _⟩)
  (fun i σ ys H x H' hi p y=>⟨y.1,y.2 xs (hD i σ ys H (Nat.le_of_lt hi) p).2.2⟩) hs hd
end
section
variable {X:Cx}
theorem op_mulB:OpR X (binaryOp .Mult) (rI (fun i j=>i.natAbs < 2 ^ 200∧j.natAbs < 2 ^ 200) fun i j=>.int (i * j)):=
 opI fun i j _ _ _ _ _ hc q=>mul_int q (.of_bits (Nat.le_trans (intBits_le hc.1) (by decide)) (Nat.le_trans (intBits_le hc.2) (by decide)))
theorem call_sumL (hc:X.calm=true):CallR X (.builtin "sum") (fun xs H Q=>∃ (p:Addr) (ns:List Int),xs=[.ref p]∧SqL X.K H p (ns.map V.int)∧Q (.int ns.sum) H):=by
 intro pins s σ H xs us Q I r h
 obtain ⟨p,ns,rfl,hq,q⟩:=h
 obtain ⟨u,rfl,ru⟩:=vals1 r
 cases ru
 obtain ⟨its,rv,pl,hz⟩:=I.list hq
 have hi:=intsAre_of rv
 have hall:AllInts its.toArray:=hi.allInts
 obtain ⟨zs,hzs⟩:=hall.items
 have hn:numsOf its=ns:=hi.numsOf
 have hl:s.heap.IsList p (intItems zs):=by rw [← hzs]; exact pl.isList
 refine sum_intListG (I.ok.hd hc) hl fun h' tk t' k=>⟨.int ns.sum,H,I.kept k,⟨t',?_⟩,q⟩
 have e:numsOf (intItems zs).toList=ns:=by rw [← hzs]; exact hn
 rw [nums_intItems] at e
 rw [preSum_eq,List.take_of_length_le (by simp),e]
end
section
variable {prog:Program} {w:World} {A:Around} {R:Result→Shared→Prop} {I:Addr} {fp wr:List Addr} {n:Nat} {P:Nat→Value→Prop} {St:Nat→Heap→Prop}
theorem maxd_loop {kw:List (Str×Value)} (W:Walks prog w A.in1 I fp wr n P St) (bt:Nat→Nat→Bool) (hcmp:CmpOf prog w A.in1 .Gt P bt) (S:Addr) (hSf:S∉fp) :
  ∀ (k j:Nat) (s:Shared) (vb:Value) (c:Nat),n-(j+1)=k→j+1≤n→St (j+1) s.heap→P (argBest bt j) vb →
  s.heap.get? S=some { cls:=.type "list",dict:=none,data:=.seq #[vb,vb] c,slots:=#[] } →
  (∀ v h' tk,P (argBest bt (n-1)) v→(∀ b o,b∉wr→b≠S→s.heap.get? b=some o→h'.get? b=some o)→R (.ok (.ret v)) { s with heap:=h',toks:=tk }) →
  codeAny (model prog w) A (.builtin "max.loop" ⟨[.ref I,.none,.ref S],kw⟩) R s:=by
 have hSw:S∉wr:=fun h=>hSf (W.sub _ h)
 have nm:(toString "max" ++ toString ".loop" : String) = "max.loop" := by decide
 intro k
 induction k with
 | zero=>
  intro j s vb c hk hj hst hPb hS hR
  have hin:j+1=n:=by omega
  refine codeAny_builtin F.entry_max_loop ?_
  rw [Around.under_plainId F.plain_max_loop _]
  show wpAny _ A.in1 (seqItems? (.ref S) >>= _) _ _ s
  refine wpAny_bind (wpAny_seqItems hS rfl ?_)
  show wpAny _ A.in1 (tryCatch (pyNext (.ref I)) _ >>= _) _ _ s
  refine wpAny_bind (wpAny_tryCatch (W.done s _ _ (hin ▸ hst) fun h' tk hk'=>?_))
  have hS':=hk' S _ hSw hS
  show wpAny _ A.in1 (updateSeq S (fun _=>#[]) >>= _) _ _ _
  refine wpAny_bind (wpAny_updateSeq hS' rfl (wpAny_bind (wpAny_letGo (wpAny_pure ?_))))
  exact hR vb _ tk (by rw [← hin]; exact hPb) fun b o hbw hbS e=>(Heap.get?_update_other _ _ (Ne.symm hbS)).trans (hk' b o hbw e)
 | succ k ih=>
  intro j s vb c hk hj hst hPb hS hR
  have hlt:j+1 < n:=by omega
  refine codeAny_builtin F.entry_max_loop ?_
  rw [Around.under_plainId F.plain_max_loop _]
  show wpAny _ A.in1 (seqItems? (.ref S) >>= _) _ _ s
  refine wpAny_bind (wpAny_seqItems hS rfl ?_)
  show wpAny _ A.in1 (tryCatch (pyNext (.ref I)) _ >>= _) _ _ s
  refine wpAny_bind (wpAny_tryCatch (W.item (j+1) s _ _ hlt hst fun v h' tk hP hst' hk'=>?_))
  have hS':=hk' S _ hSw hS
  show wpAny _ A.in1 (tryCatch (holding [v,v] (richCompare .Gt v vb >>= _)) _ >>= _) _ _ _
  refine wpAny_bind (wpAny_tryCatch (wpAny_holding (wpAny_bind (hcmp (j+1) (argBest bt j) v vb _ _ _ hP hPb ?_))))
  refine wpAny_bind (wpAny_holding (wpAny_truthy_bool ?_))
  refine wpAny_bind (wpAny_letGo (wpAny_pure ?_))
  by_cases hb:bt (j+1) (argBest bt j)=true
  ·rw [hb]
   simp only [if_true]
   refine wpAny_bind (wpAny_updateSeq hS' rfl (wpAny_bind (wpAny_letGo ?_)))
   rw [nm]
   refine wpAny_pure ⟨plainId_quiet F.plain_max_loop _,ih (j+1) _ v _ (by omega) hlt (W.frame _ _ _ hst' fun b hbf o e=>?_) (by rw [argBest,if_pos hb]; exact hP) (Heap.get?_update_self _ hS' rfl) fun v' h2 tk2 hP' hk2=>?_⟩
   ·exact (Heap.get?_update_other _ _ (fun h:S=b=>hSf (by rw [h]; exact hbf))).trans e
   ·exact hR v' h2 tk2 hP' fun b o hbw hbS e=>hk2 b o hbw hbS ((Heap.get?_update_other _ _ (Ne.symm hbS)).trans (hk' b o hbw e))
  ·have hb':bt (j+1) (argBest bt j)=false:=by simpa using hb
   rw [hb']
   simp only [Bool.false_eq_true,if_false]
   refine wpAny_bind (wpAny_letGo ?_)
   rw [nm]
   refine wpAny_pure ⟨plainId_quiet F.plain_max_loop _,ih (j+1) _ vb c (by omega) hlt hst' (by rw [argBest,if_neg hb]; exact hPb) hS' fun v' h2 tk2 hP' hk2=>?_⟩
   exact hR v' h2 tk2 hP' fun b o hbw hbS e=>hk2 b o hbw hbS (hk' b o hbw e)
theorem argsOk_maxd (a d:Value):argsOk "max" ⟨[a],[(Str.ofString "default",d)]⟩:=by unfold argsOk; kernel_rfl
theorem call_maxd {E:Value→Shared→Prop} {s:Shared} {l:Addr} {xs:Array (Int×Tok)} {d:Value} {Q:Value→Shared→Prop} (hh:A.handled=none) (hl:s.heap.IsList l (intItems xs)) (hne:0 < xs.size)
  (h:∀ v h' tk,(intItems xs)[argBest (fun i j=>decide (numAt xs i > numAt xs j)) (xs.size-1)]? = some v→(∀ b o,s.heap.get? b=some o→h'.get? b=some o)→Q v { s with heap:=h',toks:=tk }) :
  wpAny (model prog w) A (call (.builtin "max") [.ref l] [(Str.ofString "default",d)]) Q E s:=by
 have nm:(toString "max" ++ toString ".loop" : String) = "max.loop" := by decide
 refine PyProof.Rows.kmk_tree PySem.F.kind_max PySem.F.plain_max PySem.F.entry_max (argsOk_maxd _ _) ?_
 show wpAny _ A.in1 (Builtin.Builtins.bindParams "max" ["key","default"] 0 ⟨[],[(Str.ofString "default",d)]⟩ >>= _) _ _ s
 refine wpAny_bind (wpAny_of_eq (show Builtin.Builtins.bindParams "max" ["key","default"] 0 ⟨[],[(Str.ofString "default",d)]⟩=pure [none,some d] from rfl) ?_)
 refine wpAny_bind (wpAny_pure ?_)
 refine wpAny_bind (iter_intList hl fun s₂ e st hfp hlI=>?_)
 subst e
 refine wpAny_bind (wpAny_newObj_type ?_)
 rw [nm]
 have W:=Walks.list (prog:=prog) (w:=w) (A:=A.in1) hh s.heap.objs.size l hlI (intItems xs)
 have hSf:(s.heap.push { cls:=.type "list_iterator",data:=.fields #[.ref l,.int 0 0] }).objs.size∉[s.heap.objs.size,l]:=fun hm=>Nat.lt_irrefl _ (hfp _ hm)
 have hn:0 < (intItems xs).size:=by simpa [intItems] using hne
 refine wpAny_pure ⟨plainId_quiet F.plain_max_loop _,codeAny_builtin F.entry_max_loop ?_⟩
 rw [Around.under_plainId F.plain_max_loop _]
 show wpAny _ A.in1 (seqItems? (.ref _) >>= _) _ _ _
 refine wpAny_bind (wpAny_seqItems (Heap.get?_push_size _ rfl) rfl ?_)
 show wpAny _ A.in1 (tryCatch (pyNext (.ref s.heap.objs.size)) _ >>= _) _ _ _
 refine wpAny_bind (wpAny_tryCatch (W.item 0 _ _ _ hn (W.frame _ _ _ st fun b _ o e=>Heap.get?_push_of_some _ e) fun v h' tk hP hst' hk'=>?_))
 have hSw:(s.heap.push { cls:=.type "list_iterator",data:=.fields #[.ref l,.int 0 0] }).objs.size∉[s.heap.objs.size]:=fun z=>hSf (List.mem_cons.mpr (.inl (List.mem_singleton.mp z)))
 have hS':=hk' _ _ hSw (Heap.get?_push_size _ rfl)
 show wpAny _ A.in1 (updateSeq _ (fun _=>#[v,v]) >>= _) _ _ _
 refine wpAny_bind (wpAny_updateSeq hS' rfl ?_)
 rw [nm]
 refine wpAny_pure ⟨plainId_quiet F.plain_max_loop _,maxd_loop W (fun i j=>decide (numAt xs i > numAt xs j)) (CmpOf.ints_gt (numAt xs) (fun _ _=>intItems_at)) _ hSf _ 0 _ v _ rfl hn (W.frame _ _ _ hst' fun b hbf o e=>?_) hP (Heap.get?_update_self _ hS' rfl) fun v' h2 tk2 hP' hk2=>?_⟩
 ·exact (Heap.get?_update_other _ _ (fun h:_=b=>hSf (by rw [h]; exact hbf))).trans e
 ·refine h v' h2 tk2 (by simpa [intItems] using hP') fun b o e=>?_
  have hb:=Heap.lt_size e
  have hbI:b≠s.heap.objs.size:=Nat.ne_of_lt hb
  have hbS:b≠(s.heap.push { cls:=.type "list_iterator",data:=.fields #[.ref l,.int 0 0] }).objs.size:=by rw [Heap.size_push]; exact Nat.ne_of_lt (Nat.lt_succ_of_lt hb)
  exact hk2 b o (by simpa using hbI) hbS ((Heap.get?_update_other _ _ (Ne.symm hbS)).trans (hk' b o (by simpa using hbI) (Heap.get?_push_of_some _ (Heap.get?_push_of_some _ e))))
end
def topOf:List Int→Int
 | []=>0
 | [x]=>x
 | x::y::r=>max x (topOf (y::r))
theorem topOf_mem:∀ {ns:List Int},ns≠[]→topOf ns∈ns
 | [x],_=>by simp [topOf]
 | x::y::r,_=>by
  have ih:=topOf_mem (ns:=y::r) (by simp)
  rw [topOf]
  by_cases h:x≤topOf (y::r)
  ·rw [Int.max_eq_right h]; exact List.mem_cons_of_mem _ ih
  ·rw [Int.max_eq_left (by omega)]; exact List.mem_cons_self
theorem topOf_ge:∀ {ns:List Int} {a:Int},a∈ns→a≤topOf ns
 | [x],a,h=>by simp at h; subst h; simp [topOf]
 | x::y::r,a,h=>by
  rw [topOf]
  rcases List.mem_cons.mp h with rfl | h
  ·exact Int.le_max_left _ _
  ·exact Int.le_trans (topOf_ge h) (Int.le_max_right _ _)
theorem topOf_of {ns:List Int} {M:Int} (h1:M∈ns) (h2:∀ a∈ns,a≤M):M=topOf ns:=
 Int.le_antisymm (topOf_ge h1) (h2 _ (topOf_mem (by intro z; rw [z] at h1; cases h1)))
section
variable {X:Cx} {x:Str} {e v:Expr} {te tv:TE} {p pos kpos:Pos}
theorem pe_maxd {ta:TA} {tk:TA} (hc:X.calm=true) (hg:Gl X "max") (hm:X.mg "max" = none) (ha:PA X [e] ta) (hv:PK X [⟨some "default",v,kpos⟩] tk)
  (he:backTo pos (starEach [e] X.env)=(false,eval e X.env)::backTo pos (starEach [] X.env):=by rfl) (hpl:(backTo pos (starEach [e] X.env)).any (·.1)=false:=by rfl) :
  PE X (.Call (.Name "max" p) [e] [⟨some "default",v,kpos⟩] pos) (fun σ H Q=>ta σ H fun xs H1=>tk σ H1 fun ys H2=>∃ (d:V) (a:Addr) (ns:List Int),ys=[d]∧xs=[.ref a]∧SqL X.K H2 a (ns.map V.int)∧ns≠[]∧Q (.int (topOf ns)) H2):=by
 refine .mk ?_
 intro pins s σ H Q I h
 refine wpAny_Call_Name_kw (ld_blt I hg hm boot_max ?_ (by decide) (by decide))
 refine callWith_kw (e:=e) (rest:=[]) ?_ he hpl rfl rfl
 refine thn (ha pos pins s σ H _ I h) fun us s1 ⟨vs,H1,I1,r1,q1⟩=>?_
 refine thn (hv pos pins s1 σ H1 _ I1 q1) fun ws s2 ⟨zs,H2,I2,r2,q2⟩=>?_
 obtain ⟨d,a,ns,rfl,rfl,hq,hne,q⟩:=q2
 obtain ⟨u,rfl,ru⟩:=vals1 r1
 cases ru
 obtain ⟨its,rv,pl,hz⟩:=I2.list hq
 have hi:=intsAre_of rv
 obtain ⟨xs,hxs⟩:=hi.allInts.items
 have hn:numsOf its=ns:=hi.numsOf
 have hl:s2.heap.IsList a (intItems xs):=by rw [← hxs]; exact pl.isList
 have hlen:0 < xs.size:=by
  have e1:=rv.length
  have e2:its.length=xs.size:=by have:=congrArg Array.size hxs; simpa [intItems] using this
  have e3:ns.length≠0:=fun z=>hne (List.eq_nil_of_length_eq_zero z)
  simp at e1
  omega
 have fin:∀ d:Value,wpAny (model X.prog X.w) X.A (call (.builtin "max") [.ref a] [(Str.ofString "default",d)]) (EP X pins σ Q) X.xe s2:=fun d=>by
  refine call_maxd (I2.ok.hd hc) hl hlen fun v h' tk hv hk=>?_
  obtain ⟨t,rfl⟩:=intItems_at hv
  obtain ⟨h1,h2⟩:=argBest_gt (numAt xs) (xs.size-1)
  have e:numsOf (intItems xs).toList=ns:=by rw [← hxs]; exact hn
  rw [nums_intItems] at e
  have M1:numAt xs (argBest (fun i j=>decide (numAt xs i > numAt xs j)) (xs.size-1))∈ns:=by
   rw [← e,numAt_eq]; exact getD_mem (by rw [List.length_map,Array.length_toList]; omega)
  have M2:∀ b∈ns,b≤numAt xs (argBest (fun i j=>decide (numAt xs i > numAt xs j)) (xs.size-1)):=fun b hb=>by
   rw [← e] at hb
   obtain ⟨j,hj,rfl⟩:=mem_getD hb
   rw [List.length_map,Array.length_toList] at hj
   rw [← numAt_eq]; exact h2 j (by omega)
  exact ⟨.int (topOf ns),H2,I2.kept hk,⟨t,by rw [topOf_of M1 M2]⟩,q⟩
 cases r2 with
 | cons r3 r4=>cases r4; exact fin _
end
section
variable {X:Cx}
theorem op_neNil (hu:X.A.units < cLine):OpR X (compareOp .NotEq) (fun x y H Q=>∃ a b xs,x=.ref a∧y=.ref b∧SqL X.K H a xs∧SqL X.K H b []∧Q (.bl (!xs.isEmpty)) H):=by
 intro pins s σ H x y v u Q I rx ry h
 obtain ⟨a,b,xs,rfl,rfl,ha,hb,q⟩:=h
 cases rx
 cases ry
 obtain ⟨its,rv,pl,hz⟩:=I.list ha
 obtain ⟨its2,rv2,pl2,hz2⟩:=I.list hb
 cases rv2
 cases xs with
 | nil=>
  cases rv
  exact SeqAt.RcNeAt.lists (e:=fun _=>true) pl.isList pl2.isList rfl hu (fun j h1 _=>absurd h1 (by simp)) _ _ _ _ ⟨.bl false,H,I,rfl,q⟩
 | cons x r=>
  cases rv with
  | cons r1 r2=>exact SeqAt.RcNeAt.lists_lengths pl.isList pl2.isList (by simp) hu _ _ _ _ ⟨.bl true,H,I,rfl,q⟩
end
def cutN {α:Type} (xs:List α) (lo hi:Option Int):List α:=(xs.drop (HT.sIx xs.length 0 lo)).take (HT.sIx xs.length xs.length hi-HT.sIx xs.length 0 lo)
theorem cutN_length {α:Type} (xs:List α) (lo hi:Option Int):(cutN xs lo hi).length≤xs.length:=by
 unfold cutN
 rw [List.length_take,List.length_drop]
 omega
theorem clip1 (v:Int) (n d:Nat):max (0:Int) (min (if v < 0 then v+(n:Int) else v) (n:Int))=((HT.sIx n d (some v):Nat):Int):=by
 show _=(((if v < 0 then (v+(n:Int)).toNat else min v.toNat n):Nat):Int)
 by_cases hv:v < 0
 ·rw [if_pos hv,if_pos hv]; omega
 ·rw [if_neg hv,if_neg hv]; omega
theorem idx_clip (lo hi:Option Int) (n:Nat):Builtin.Str.strSliceIndices lo hi 1 n=Builtin.Str.strSliceIndices (some ((HT.sIx n 0 lo:Nat):Int)) (some ((HT.sIx n n hi:Nat):Int)) 1 n:=by
 have a1:=HT.sIx_le n 0 (Nat.zero_le _) lo
 have a2:=HT.sIx_le n n (Nat.le_refl _) hi
 have n1:¬ (((HT.sIx n 0 lo:Nat):Int) < 0):=by omega
 have n2:¬ (((HT.sIx n n hi:Nat):Int) < 0):=by omega
 have e1:max (0:Int) (min ((HT.sIx n 0 lo:Nat):Int) (n:Int))=((HT.sIx n 0 lo:Nat):Int):=by omega
 have e2:max (0:Int) (min ((HT.sIx n n hi:Nat):Int) (n:Int))=((HT.sIx n n hi:Nat):Int):=by omega
 have p1:((1:Int) > 0)=True:=by simp
 simp only [Builtin.Str.strSliceIndices,n1,n2,if_false,e1,e2,p1,if_true]
 cases lo with
 | none=>
  cases hi with
  | none=>rfl
  | some v=>simp only [clip1 v n n]; rfl
 | some u=>
  cases hi with
  | none=>simp only [clip1 u n 0]; rfl
  | some v=>simp only [clip1 u n 0,clip1 v n n]
theorem idx_none {a b n:Nat} (h:b≤a):Builtin.Str.strSliceIndices (some (a:Int)) (some (b:Int)) 1 n=[]:=by
 have n1:¬ ((a:Int) < 0):=by omega
 have n2:¬ ((b:Int) < 0):=by omega
 have p1:((1:Int) > 0)=True:=by simp
 have p2:¬ (max (0:Int) (min (a:Int) (n:Int)) < max (0:Int) (min (b:Int) (n:Int))):=by omega
 simp only [Builtin.Str.strSliceIndices,PySem.sliceRange,n1,n2,if_false,p1,if_true,p2]
 rfl
theorem strIdx_cut (x:Str) (lo hi:Option Int):(StrLaws.sliceText x lo hi).cps.toList=cutN x.cps.toList lo hi:=by
 have hn:x.cps.toList.length=x.length:=by simp [Str.length]
 unfold cutN
 rw [hn]
 have a2:=HT.sIx_le x.length x.length (Nat.le_refl _) hi
 by_cases h:HT.sIx x.length 0 lo≤HT.sIx x.length x.length hi
 ·have q:=StrLaws.sliceText_nat x h a2
  have e:StrLaws.sliceText x lo hi=StrLaws.sliceText x (some ((HT.sIx x.length 0 lo:Nat):Int)) (some ((HT.sIx x.length x.length hi:Nat):Int)):=by
   unfold StrLaws.sliceText
   rw [idx_clip lo hi x.length]
  rw [e,q]
 ·have z:HT.sIx x.length x.length hi-HT.sIx x.length 0 lo=0:=by omega
  rw [z,List.take_zero]
  unfold StrLaws.sliceText
  rw [idx_clip lo hi x.length,idx_none (by omega)]
  split
  ·rename_i c
   have c':(0:Nat)=x.length:=by simpa using c
   exact List.eq_nil_of_length_eq_zero (by rw [hn]; exact c'.symm)
  ·rfl
def rSlS:V→Option Int→Option Int→Hp→VK→Prop:=fun x lo hi H Q=>∃ z:Str,x=.str z∧z.length≤sizeLine∧∀ y:Str,y.cps.toList=cutN z.cps.toList lo hi→Q (.str y) H
theorem sl_str {X:Cx}:SlR X rSlS:=by
 intro pins s σ H x v vl vu lo hi sl Q I rx hs pl pu h
 obtain ⟨z,rfl,hz,q⟩:=h
 obtain ⟨t,rfl⟩:=rx
 refine ⟨"str",_,F.slot_str_getitem.lookup,typeIs_str _ z t,?_⟩
 have fin:∀ (l u:Option (Int×Tok)),l.map (·.1)=lo→u.map (·.1)=hi→s.heap.IsSlice sl l u none→wpAny (model X.prog X.w) X.A (getItem (.str z t) (.ref sl)) (EP X pins σ Q) X.xe s:=fun l u el eu hq=>by
  refine wpAny_getItem_str_slice hq rfl ?_
  have hc:=strIdx_cut z lo hi
  unfold StrLaws.sliceText at hc
  unfold sliceMade slicePicked
  rw [el,eu]
  show (if ((1:Int) == 1 && (Builtin.Str.strSliceIndices lo hi 1 z.length).length == z.length)=true then Made.val (.str z t) else .str ⟨((Builtin.Str.strSliceIndices lo hi 1 z.length).filterMap (z.cps[·]?)).toArray⟩).post (EP X pins σ Q) s
  split
  ·rename_i c
   rw [if_pos c] at hc
   exact ⟨.str z,H,I,⟨t,rfl⟩,q z hc⟩
  ·rename_i c
   rw [if_neg c] at hc
   have hl:(Str.mk ((Builtin.Str.strSliceIndices lo hi 1 z.length).filterMap (z.cps[·]?)).toArray).length≤z.length:=by
    have e:=cutN_length z.cps.toList lo hi
    rw [← hc] at e
    simpa [Str.length] using e
   exact ⟨Nat.le_trans hl hz,.str ⟨((Builtin.Str.strSliceIndices lo hi 1 z.length).filterMap (z.cps[·]?)).toArray⟩,H,I.tok _,⟨_,rfl⟩,q _ hc⟩
 cases pl with
 | none=>
  cases pu with
  | none=>exact fin none none rfl rfl hs
  | int j t'=>exact fin none (some (j,t')) rfl rfl hs
 | int i t''=>
  cases pu with
  | none=>exact fin (some (i,t'')) none rfl rfl hs
  | int j t'=>exact fin (some (i,t'')) (some (j,t')) rfl rfl hs
section
variable {X:Cx} {x:Expr} {te:TE} {p p2 pos:Pos} {T:Str} {Ty:String}
def tInst (K:PySem.W.Frag) (Ty:String) (te:TE):TE:=fun σ H Q=>te σ H fun v H1=>∃ v',[v,V.ty Ty]=[v',V.ty Ty]∧∃ t b,TyOf K H1 v' t∧PySem.W.kitOne K t (.type Ty)=some b∧Q (.bl b) H1
theorem pe_inst (hg:Gl X "isinstance") (hm:X.mg "isinstance" = none) (hgT:Gl X T) (hmT:X.mg T=none) (hvT:bootBuiltins T=some (.type Ty)) (he:PE X x te) (hn:T ≠ "__name__" := by decide) (hdT:(T == ("__debug__" : Str))=false:=by decide)
  (hs:starEach [x,.Name T p2] X.env=(false,eval x X.env)::starEach [.Name T p2] X.env:=by rfl) (hs2:starEach [.Name T p2] X.env=[(false,eval (.Name T p2) X.env)]:=by rfl)
  (hpl:(backTo pos (starEach [.Name T p2] X.env)).any (·.1)=false:=by rfl) :
  PE X (.Call (.Name "isinstance" p) [x,.Name T p2] [] pos) (tInst X.K Ty te):=by
 have c:CallR X (.builtin "isinstance") (fun xs H Q=>∃ v,xs=[v,.ty Ty]∧∃ t b,TyOf X.K H v t∧PySem.W.kitOne X.K t (.type Ty)=some b∧Q (.bl b) H):=by
  intro pins s σ H xs us Q I r h
  obtain ⟨v,rfl,t,b,ty,e,q⟩:=h
  obtain ⟨u,w',rfl,ru,rw'⟩:=vals2 r
  cases (show w'=Value.type Ty from rw')
  exact isinst_ok I ru ty e fun tk=>⟨.bl b,H,I.tok tk,rfl,q⟩
 have pa:PA X [x,.Name T p2] (tCons te (tCons (tC (.ty Ty)) tNil)):=pa_cons he (pa_cons (pe_bltn hgT hmT hvT rfl hn hdT) pa_nil hs2) hs
 exact pe_callB (p:=p) (pos:=pos) c hg hm PyProof.Rows.boot_isinstance pa (by decide) (by decide) hs hpl
end
def Callee (P:Program) (w:World) (K:PySem.W.Frag) (mg:Str→Option Value) (base:Heap) (x:Str) (k:Nat) (ps:List Str) (sp:Sp):Prop:=
 ∃ f fd,FnOk P w K mg base CX0 k f fd ps sp∧mg x=some (.ref f)∧PySem.W.keepIn K (.ref f)=true∧Binds K fd ps []
theorem Callee.mono {P:Program} {w:World} {K:PySem.W.Frag} {mg:Str→Option Value} {base:Heap} {x:Str} {j k:Nat} {ps:List Str} {sp:Sp} (c:Callee P w K mg base x j ps sp) (h:j≤k):Callee P w K mg base x k ps sp:=by
 obtain ⟨f,fd,F,m,kp,b⟩:=c
 exact ⟨f,fd,F.mono h,m,kp,b⟩
theorem Callee.imp {P:Program} {w:World} {K:PySem.W.Frag} {mg:Str→Option Value} {base:Heap} {x:Str} {k:Nat} {ps:List Str} {sp sp':Sp} (c:Callee P w K mg base x k ps sp) (h:∀ vs H Q E,sp' vs H Q E→sp vs H Q E):Callee P w K mg base x k ps sp':=by
 obtain ⟨f,fd,F,m,kp,b⟩:=c
 exact ⟨f,fd,F.imp h,m,kp,b⟩
section
variable {X:Cx} {x:Str} {k j:Nat} {ps:List Str} {sp:Sp} {p pos:Pos} {e:Expr} {es:List Expr} {t:TA}
theorem pe_callC (c:Callee X.prog X.w X.K X.mg X.base x k ps sp) (hr:Room j X.A) (hk:k≤j) (hg:Gl X x) (ha:PA X (e::es) t) (hdb:(x == ("__debug__" : Str))=false:=by decide)
  (he:starEach (e::es) X.env=(false,eval e X.env)::starEach es X.env:=by rfl) (hpl:(backTo pos (starEach es X.env)).any (·.1)=false:=by rfl):PE X (.Call (.Name x p) (e::es) [] pos) (tCall sp [] E0 t):=by
 obtain ⟨f,fd,F,m,kp,b⟩:=c
 exact pe_call F (hr.mono hk) hg m kp b .nil pass0 ha hdb he hpl
end
section
variable {X:Cx} {scope:Scope} {own:List Str}
theorem mem_relabel {env:Env} {p:Str×NameKind} (h:p∈(relabel scope env).names):∃ q∈scope.names,q.1=p.1∧(p.2=q.2∨(q.2=.free∧p.2=.cell)):=by
 obtain ⟨q,hq,e⟩:=List.mem_map.mp (show p∈scope.names.map _ from h)
 refine ⟨q,hq,?_⟩
 obtain ⟨n,k⟩:=q
 dsimp only at e
 split at e
 ·rename_i c
  subst e
  refine ⟨rfl,.inr ⟨?_,rfl⟩⟩
  simp only [Bool.and_eq_true,beq_iff_eq] at c
  exact c.1.1
 ·subst e
  exact ⟨rfl,.inl rfl⟩
theorem compOk0 (hk:scope.kind=.function) (hn:∀ y∈scope.names,y.2≠.free∧y.2≠.cell) (hl:∀ y∈scope.names,y.2=.local→scope.names.lookup y.1=some .local):CompOk X scope [] own [] where
 clos:=closureFor_none fun y hy=>(hn y hy).1
 cell:=fun y hy=>(hn y hy).2
 kind:=hk
 names:=hl
 sub:=fun x c h=>nomatch h
 has:=fun p hp h=>by
  obtain ⟨q,hq,e1,e2⟩:=mem_relabel hp
  have n:=hn q hq
  rcases e2 with e2 | ⟨e2,_⟩
  ·rw [e2] at h
   rcases h with h | h
   ·exact absurd h n.2
   ·exact absurd h n.1
  ·exact absurd e2 n.1
 caps:=fun p hp=>nomatch hp
def AllCl (cells:List (Str×Addr)):List (Str×Addr)→Prop
 | []=>True
 | p::r=>cells.lookup p.1=some p.2∧AllCl cells r
theorem AllCl.mem {cells:List (Str×Addr)}:∀ {cl:List (Str×Addr)},AllCl cells cl→∀ p∈cl,cells.lookup p.1=some p.2
 | [],_,p,h=>nomatch h
 | q::r,h,p,hp=>by
  rcases List.mem_cons.mp hp with rfl | hp
  ·exact h.1
  ·exact AllCl.mem h.2 p hp
def AllCap (X:Cx) (scope:Scope):List (Nat×Str)→Prop
 | []=>True
 | p::r=>(X.N[p.1]? = some p.2∧X.env.kindOf p.2=some .cell∧(relabel scope X.env).names.lookup p.2=some .cell)∧AllCap X scope r
theorem AllCap.mem:∀ {cap:List (Nat×Str)},AllCap X scope cap→∀ p∈cap,X.N[p.1]? = some p.2∧X.env.kindOf p.2=some .cell∧(relabel scope X.env).names.lookup p.2=some .cell
 | [],_,p,h=>nomatch h
 | q::r,h,p,hp=>by
  rcases List.mem_cons.mp hp with rfl | hp
  ·exact h.1
  ·exact AllCap.mem h.2 p hp
theorem compOkC {cl:List (Str×Addr)} {cap:List (Nat×Str)} (hk:scope.kind=.function) (hn:∀ y∈scope.names,y.2≠.cell) (hl:∀ y∈scope.names,y.2=.local→scope.names.lookup y.1=some .local)
  (hc:closureFor scope X.env=pure cl) (ha:AllCl X.env.cells cl) (hh:((relabel scope X.env).names.all fun p=>!(p.2 == .cell || p.2 == .free) || (cl.lookup p.1).isSome)=true) (hcap:AllCap X scope cap):CompOk X scope cl own cap where
 clos:=hc
 cell:=hn
 kind:=hk
 names:=hl
 sub:=fun x c h=>ha.mem _ (mem_of_lookup h)
 has:=fun p hp h=>by
  have q:=List.all_eq_true.mp hh p hp
  rcases h with h | h <;> · rw [h] at q; simpa using q
 caps:=fun p hp=>by
  obtain ⟨h1,h2,h3⟩:=hcap.mem p hp
  exact ⟨h1,.inr (.inl h2),by rw [h2]; decide,by rw [h3]; decide,.inl h3⟩
end
def tCut (t:TS):TS:=fun D σ H=>∃ P:St→Hp→Prop,t { D with nx:=P } σ H∧∀ σ H,P σ H→D.nx σ H
theorem ps_cut {X:Cx} {st:Stmt} {t:TS} (h:PS X st t):PS X st (tCut t):=by
 refine .mk ?_
 intro pins s σ H D I q
 obtain ⟨P,q1,q2⟩:=q
 refine thn (h pins s σ H _ I q1) fun f s' z=>?_
 cases f with
 | next=>obtain ⟨σ',H',I',p⟩:=z; exact ⟨σ',H',I',q2 _ _ p⟩
 | brk=>exact z
 | cont=>exact z
 | ret u=>exact z
theorem bt_bool:bootBuiltins "bool" = some (.type "bool"):=by decide +kernel
theorem bt_int:bootBuiltins "int" = some (.type "int"):=by decide +kernel
theorem bt_str:bootBuiltins "str" = some (.type "str"):=by decide +kernel
theorem bt_tuple:bootBuiltins "tuple" = some (.type "tuple"):=by decide +kernel
def Kp (l:List Addr) (H H':Hp):Prop:=∀ b o,b∉l→H b=some o→H' b=some o
theorem Kp.refl {l:List Addr} (H:Hp):Kp l H H:=fun _ _ _ h=>h
theorem Kp.trans {l:List Addr} {H H1 H2:Hp} (a:Kp l H H1) (b:Kp l H1 H2):Kp l H H2:=fun c o n h=>b c o n (a c o n h)
theorem Kp.mono {l l':List Addr} {H H1:Hp} (a:Kp l H H1) (s:∀ b∈l,b∈l'):Kp l' H H1:=fun c o n h=>a c o (fun z=>n (s c z)) h
theorem Kp.new {l:List Addr} {H:Hp} {p:Addr} (h:H p=none) (o:HO):Kp l H (upd H p o):=fun b u _ q=>by rw [upd_ne (ne_of_none q h)]; exact q
theorem Kp.set {l:List Addr} {H:Hp} {p:Addr} (h:p∈l) (o:HO):Kp l H (upd H p o):=fun b u n q=>by
 have e:b≠p:=fun z=>n (by rw [z]; exact h)
 rw [upd_ne e]; exact q
def Tp (H H':Hp):Prop:=∀ b xs,H b=some (.tup xs)→H' b=some (.tup xs)
theorem Tp.refl (H:Hp):Tp H H:=fun _ _ h=>h
theorem Tp.trans {H H1 H2:Hp} (a:Tp H H1) (b:Tp H1 H2):Tp H H2:=fun c o h=>b c o (a c o h)
theorem Kp.tp {l:List Addr} {H H':Hp} (k:Kp l H H') (n:∀ b∈l,∀ xs,H b≠some (.tup xs)):Tp H H':=fun b xs h=>k b _ (fun z=>n b z xs h) h
end L2
namespace Tg
open PySem L2
inductive Kd where
 | num (w:Int)
 | text
 | row (k:Kd)
 | rec_ (fs:List (Str×Kd))
 | pick (fs:List (Str×Kd))
mutual
def Kd.size:Kd→Int
 | .num w=>w
 | .text=>1
 | .row _=>1
 | .rec_ fs=>(sizesF fs).sum
 | .pick fs=>1+topOf (sizesF fs)
def sizesF:List (Str×Kd)→List Int
 | []=>[]
 | (_,k)::r=>k.size::sizesF r
end
mutual
def Kd.depth:Kd→Nat
 | .num _=>1
 | .text=>1
 | .row k=>k.depth+1
 | .rec_ fs=>depthF fs+1
 | .pick fs=>depthF fs+1
def depthF:List (Str×Kd)→Nat
 | []=>0
 | (_,k)::r=>max k.depth (depthF r)
end
mutual
def KIn (H:Hp):V→Kd→Prop
 | v,.num w=>∃ a,v=.ref a∧H a=some (.tup [.str "num",.int w])
 | v,.text=>∃ a,v=.ref a∧H a=some (.tup [.str "text"])
 | v,.row k=>∃ a u,v=.ref a∧H a=some (.tup [.str "row",u])∧KIn H u k
 | v,.rec_ fs=>∃ a f xs,v=.ref a∧H a=some (.tup [.str "rec",.ref f])∧H f=some (.tup xs)∧FIn H xs fs
 | v,.pick fs=>∃ a f xs,v=.ref a∧H a=some (.tup [.str "pick",.ref f])∧H f=some (.tup xs)∧FIn H xs fs
def FIn (H:Hp):List V→List (Str×Kd)→Prop
 | xs,[]=>xs=[]
 | xs,(nm,k)::r=>∃ p u ys,xs=.ref p::ys∧H p=some (.tup [.str nm,u])∧KIn H u k∧FIn H ys r
end
mutual
theorem KIn.mono {H H':Hp} (t:Tp H H'):∀ {k:Kd} {v:V},KIn H v k→KIn H' v k
 | .num w,v,h=>by
  unfold KIn at h ⊢
  obtain ⟨a,e,h⟩:=h
  exact ⟨a,e,t _ _ h⟩
 | .text,v,h=>by
  unfold KIn at h ⊢
  obtain ⟨a,e,h⟩:=h
  exact ⟨a,e,t _ _ h⟩
 | .row k,v,h=>by
  unfold KIn at h ⊢
  obtain ⟨a,u,e,h,q⟩:=h
  exact ⟨a,u,e,t _ _ h,KIn.mono t q⟩
 | .rec_ fs,v,h=>by
  unfold KIn at h ⊢
  obtain ⟨a,f,xs,e,h,h2,q⟩:=h
  exact ⟨a,f,xs,e,t _ _ h,t _ _ h2,FIn.mono t q⟩
 | .pick fs,v,h=>by
  unfold KIn at h ⊢
  obtain ⟨a,f,xs,e,h,h2,q⟩:=h
  exact ⟨a,f,xs,e,t _ _ h,t _ _ h2,FIn.mono t q⟩
theorem FIn.mono {H H':Hp} (t:Tp H H'):∀ {fs:List (Str×Kd)} {xs:List V},FIn H xs fs→FIn H' xs fs
 | [],xs,h=>by
  unfold FIn at h ⊢
  exact h
 | (nm,k)::r,xs,h=>by
  unfold FIn at h ⊢
  obtain ⟨p,u,ys,e,h,q,z⟩:=h
  exact ⟨p,u,ys,e,t _ _ h,KIn.mono t q,FIn.mono t z⟩
end
theorem FIn.length {H:Hp}:∀ {fs:List (Str×Kd)} {xs:List V},FIn H xs fs→xs.length=fs.length
 | [],xs,h=>by unfold FIn at h; subst h; rfl
 | (nm,k)::r,xs,h=>by
  unfold FIn at h
  obtain ⟨p,u,ys,e,_,_,z⟩:=h
  rw [e,List.length_cons,List.length_cons,FIn.length z]
theorem FIn.get {H:Hp}:∀ {fs:List (Str×Kd)} {xs:List V} {i:Nat} {x:V},FIn H xs fs→xs[i]? = some x→∃ p nm u k,x=.ref p∧H p=some (.tup [.str nm,u])∧KIn H u k∧fs[i]? = some (nm,k)
 | [],xs,i,x,h,e=>by unfold FIn at h; rw [h] at e; cases e
 | (nm,k)::r,xs,i,x,h,e=>by
  unfold FIn at h
  obtain ⟨p,u,ys,e1,h1,h2,z⟩:=h
  subst e1
  cases i with
  | zero=>cases e; exact ⟨p,nm,u,k,rfl,h1,h2,rfl⟩
  | succ i=>exact FIn.get (i:=i) z e
theorem FIn.snoc {H:Hp} {nm:Str} {k:Kd} {p:Addr} {u:V}:∀ {fs:List (Str×Kd)} {xs:List V},FIn H xs fs→H p=some (.tup [.str nm,u])→KIn H u k→FIn H (xs++[.ref p]) (fs++[(nm,k)])
 | [],xs,h,h1,h2=>by
  unfold FIn at h
  subst h
  show FIn H [.ref p] [(nm,k)]
  unfold FIn
  exact ⟨p,u,[],rfl,h1,h2,by unfold FIn; rfl⟩
 | (nm',k')::r,xs,h,h1,h2=>by
  unfold FIn at h
  obtain ⟨q,u',ys,e1,g1,g2,z⟩:=h
  subst e1
  show FIn H (.ref q::(ys++[.ref p])) ((nm',k')::(r++[(nm,k)]))
  unfold FIn
  exact ⟨q,u',_,rfl,g1,g2,FIn.snoc z h1 h2⟩
theorem depthF_le:∀ {fs:List (Str×Kd)} {p:Str×Kd},p∈fs→p.2.depth≤depthF fs
 | (nm,k)::r,p,h=>by
  unfold depthF
  rcases List.mem_cons.mp h with rfl | h
  ·exact Nat.le_max_left _ _
  ·exact Nat.le_trans (depthF_le h) (Nat.le_max_right _ _)
theorem depthF_snoc {nm:Str} {k:Kd}:∀ {fs:List (Str×Kd)} {n:Nat},depthF fs≤n→k.depth≤n→depthF (fs++[(nm,k)])≤n
 | [],n,_,h=>by show depthF [(nm,k)]≤n; unfold depthF; unfold depthF; omega
 | (nm',k')::r,n,h,h2=>by
  show depthF ((nm',k')::(r++[(nm,k)]))≤n
  unfold depthF at h ⊢
  have:=depthF_snoc (fs:=r) (n:=n) (nm:=nm) (k:=k) (by omega) h2
  omega
mutual
/-- a kind as the document tells it: widths,fields one to six,no name twice,names of one to eight small letters -/
def Kd.good:Kd→Prop
 | .num w=>1≤w∧w≤4
 | .text=>True
 | .row k=>k.good
 | .rec_ fs=>goodF fs∧1≤fs.length∧fs.length≤6∧(fs.map (·.1)).Nodup
 | .pick fs=>goodF fs∧1≤fs.length∧fs.length≤6∧(fs.map (·.1)).Nodup
def goodF:List (Str×Kd)→Prop
 | []=>True
 | (nm,k)::r=>(1≤nm.length∧nm.length≤8∧∀ c∈nm.cps.toList,97≤c∧c≤122)∧k.good∧goodF r
end
def Lets (z:Str):Prop:=∀ c∈z.cps.toList,97≤c∧c≤122
def Nm (z:Str):Prop:=1≤z.length∧z.length≤8∧Lets z
theorem len_codes (z:Str):z.cps.toList.length=z.length:=by simp [Str.length]
theorem app_codes (x y:Str):(x++y).cps.toList=x.cps.toList++y.cps.toList:=by rw [Str.cps_append,Array.toList_append]
theorem app_len (x y:Str):(x++y).length=x.length+y.length:=by rw [← len_codes,app_codes,List.length_append,len_codes,len_codes]
theorem Lets.app {x y:Str} (a:Lets x) (b:Lets y):Lets (x++y):=fun c h=>by
 rw [app_codes] at h
 rcases List.mem_append.mp h with h | h
 ·exact a c h
 ·exact b c h
theorem Lets.cut {x y:Str} {lo hi:Option Int} (a:Lets x) (e:y.cps.toList=cutN x.cps.toList lo hi):Lets y:=fun c h=>by
 rw [e] at h
 exact a c (List.mem_of_mem_drop (List.mem_of_mem_take h))
theorem cut_le {x y:Str} {lo hi:Option Int} (e:y.cps.toList=cutN x.cps.toList lo hi):y.length≤x.length:=by
 rw [← len_codes,← len_codes,e]; exact cutN_length _ _ _
theorem cut_head {x y:Str} {n:Int} (h:0≤n) (e:y.cps.toList=cutN x.cps.toList none (some n)):y.length=min n.toNat x.length:=by
 rw [← len_codes,e]
 unfold cutN
 have e1:HT.sIx x.cps.toList.length x.cps.toList.length (some n)=min n.toNat x.cps.toList.length:=by
  show (if n < 0 then _ else min n.toNat _)=_
  rw [if_neg (by omega)]
 rw [e1,HT.sIx_none,List.drop_zero,List.length_take,len_codes]
 omega
theorem lets_of {x:Str} (h:(x.cps.toList.all fun c=>decide (97≤c) && decide (c≤122))=true):Lets x:=fun c hc=>by
 have q:=List.all_eq_true.mp h c hc
 simpa using q
theorem nm_of {x:Str} (h:(decide (1≤x.length) && decide (x.length≤8) && x.cps.toList.all fun c=>decide (97≤c) && decide (c≤122))=true):Nm x:=by
 simp only [Bool.and_eq_true,decide_eq_true_eq] at h
 exact ⟨h.1.1,h.1.2,lets_of h.2⟩
abbrev abc:Str := "abcdefghijklmnopqrstuvwxyz"
theorem abc_len:abc.length=26:=by decide +kernel
theorem abc_lets:Lets abc:=lets_of (by decide +kernel)
theorem abc_at {r:Int} (h0:0≤r) (h1:r < 26):∃ c,atI abc.cps.toList r=some c∧97≤c∧c≤122:=by
 have hl:abc.cps.toList.length=26:=by rw [len_codes,abc_len]
 have hk:r.toNat < abc.cps.toList.length:=by omega
 have e:r=((r.toNat:Nat):Int):=by omega
 have q:atI abc.cps.toList ((r.toNat:Nat):Int)=some abc.cps.toList[r.toNat]:=atI_nat (by rw [List.getElem?_eq_getElem hk] <;> rfl)
 rw [← e] at q
 exact ⟨_,q,abc_lets _ (List.getElem_mem hk)⟩
theorem at_some {α:Type} {xs:List α} {r:Int} (h0:0≤r) (h1:r < xs.length):∃ x,atI xs r=some x∧x∈xs:=by
 have hk:r.toNat < xs.length:=by omega
 have e:r=((r.toNat:Nat):Int):=by omega
 have q:atI xs ((r.toNat:Nat):Int)=some xs[r.toNat]:=atI_nat (by rw [List.getElem?_eq_getElem hk] <;> rfl)
 rw [← e] at q
 exact ⟨_,q,List.getElem_mem hk⟩
theorem sub_len {α:Type} [BEq α] [LawfulBEq α]:∀ {l m:List α},l.Nodup→(∀ x∈l,x∈m)→l.length≤m.length
 | [],m,_,_=>Nat.zero_le _
 | x::r,m,nd,h=>by
  have hx:=h x List.mem_cons_self
  have e:=List.length_erase_of_mem hx
  have nd':=List.nodup_cons.mp nd
  have ih:=sub_len (l:=r) (m:=m.erase x) nd'.2 fun y hy=>by
   refine (List.mem_erase_of_ne ?_).mpr (h y (List.mem_cons_of_mem _ hy))
   rintro rfl
   exact nd'.1 hy
  have:0 < m.length:=List.length_pos_of_mem hx
  rw [List.length_cons]
  omega
abbrev spareL:List Str:=["z","y","x","w","v","u","t"]
theorem spare_nd:spareL.Nodup:=by decide +kernel
theorem spare_nm:∀ z∈spareL,Nm z:=by
 intro z hz
 simp only [List.mem_cons,List.not_mem_nil,or_false] at hz
 rcases hz with rfl | rfl | rfl | rfl | rfl | rfl | rfl <;> exact nm_of (by decide +kernel)
theorem inV_strs {x:Str}:∀ {ss:List Str},inV (.str x) (ss.map V.str)=decide (x∈ss)
 | []=>by simp [inV]
 | y::r=>by
  have ih:=inV_strs (x:=x) (ss:=r)
  unfold inV at ih ⊢
  rw [List.map_cons,List.any_cons,ih]
  show (y == x || decide (x∈r))=decide (x∈y::r)
  rw [Bool.eq_iff_iff]
  simp only [Bool.or_eq_true,beq_iff_eq,decide_eq_true_eq,List.mem_cons]
  constructor
  ·rintro (h | h)
   ·exact .inl h.symm
   ·exact .inr h
  ·rintro (h | h)
   ·exact .inl h.symm
   ·exact .inr h
theorem flat_strs (ss:List Str):(ss.map V.str).all flatV=true:=by
 rw [List.all_eq_true]
 intro x hx
 obtain ⟨z,_,rfl⟩:=List.mem_map.mp hx
 rfl
theorem fresh_name {z:Str} {ss:List Str} (hz:Nm z) (h6:ss.length≤6):∃ y r,((z::spareL).filter fun x=>!decide (x∈ss))=y::r∧Nm y∧y∉ss:=by
 cases e:((z::spareL).filter fun x=>!decide (x∈ss)) with
 | nil=>
  exfalso
  have h:∀ x∈spareL,x∈ss:=fun x hx=>by
   have q:=List.filter_eq_nil_iff.mp e x (List.mem_cons_of_mem _ hx)
   simpa using q
  have:=sub_len spare_nd h
  simp at this
  omega
 | cons y r=>
  have hy:y∈((z::spareL).filter fun x=>!decide (x∈ss)):=by rw [e]; exact List.mem_cons_self
  obtain ⟨h1,h2⟩:=List.mem_filter.mp hy
  refine ⟨y,r,rfl,?_,by simpa using h2⟩
  rcases List.mem_cons.mp h1 with rfl | h1
  ·exact hz
  ·exact spare_nm y h1
abbrev wordsL:List Str:=["num","text","row","rec","pick","none","low","told"]
theorem words_nm:∀ z∈wordsL,Nm z:=by
 intro z hz
 simp only [List.mem_cons,List.not_mem_nil,or_false] at hz
 rcases hz with rfl | rfl | rfl | rfl | rfl | rfl | rfl | rfl <;> exact nm_of (by decide +kernel)
end Tg
set_option maxHeartbeats 1000000
namespace L2
open PySem PySem.Spec PyProof.Rows PySem.W
structure UnB (fs:List Addr) (H H':Hp) (h B h':Heap):Prop where
 keep:∀ b o,h.get? b=some o→H b=none→b∉fs→B.get? b=some o
 slot:∀ b o,h.get? b=some o→H b=none→b∈fs→∃ sl,h'.get? b=some { o with slots:=sl }
 free:∀ b o,h.get? b=some o→H b=none→H' b=none
 there:∀ b o,h.get? b=some o→b∉fs→∃ o',B.get? b=some o'
 tups:∀ b xs,H b=some (.tup xs)→H' b=some (.tup xs)
 frzs:∀ b o u,H b=some (.frz o u)→H' b=some (.frz o u)
 tbls:∀ b ps,H b=some (.tbl ps)→∃ more,H' b=some (.tbl (ps++more))
theorem UnB.un {fs:List Addr} {H H':Hp} {h B h':Heap} (u:UnB fs H H' h B h') (st:B.StaysIn h') (hf:∀ b∈fs,H b=none):Un fs [] H H' h h':=
 ⟨fun b o e n hb _=>st b o (u.keep b o e n hb),fun b o e n hb _=>u.slot b o e n hb,fun b o e n _=>u.free b o e n,fun b o e _=>by
  by_cases hb:b∈fs
  ·obtain ⟨sl,q⟩:=u.slot b o e (hf b hb) hb
   exact ⟨_,q⟩
  ·obtain ⟨o',q⟩:=u.there b o e hb
   exact ⟨o',st b o' q⟩,u.tups,u.frzs,u.tbls⟩
section
variable {X:Cx} {x:Str} {C:Addr} {bmB:List Value} {B newId initId:String} {np cpos pos:Pos} {e₀:Expr} {rest:List Expr} {t:TA} {E:XK}
end
section
variable {P:Program} {w:World} {K:PySem.W.Frag} {mg:Str→Option Value} {base:Heap} {N:List Str} {qual:Str} {scope:Scope} {f:Addr} {cd:Value} {A:Around} {outer:List Env} {s:Shared} {H:Hp} {E:XK}
end
section
variable {X:Cx} {x:Str} {k j:Nat} {ps:List Str} {sp:Sp} {p pos:Pos} {e:Expr} {es:List Expr} {t:TA} {E:XK}
end
def excAt (x:Addr) (C:Value):Heap→Prop:=fun h=>∃ ob,h.get? x=some ob∧ob.cls=C
section
variable {X:Cx} {pins:List (Addr×Obj)} {σ:St} {H:Hp} {s:Shared}
abbrev Cx.tr (X:Cx) (E':Value→Shared→Prop) (pn:List (Addr×Obj)):Cx:={ X with xe:=E',pn:=pn }
theorem Cx.Ok.tr (ok:X.Ok) (E':Value→Shared→Prop) (pn:List (Addr×Obj)):(X.tr E' pn).Ok:=
 ⟨ok.mod,ok.kind,ok.glob,ok.blt,ok.above,ok.inj,ok.has,ok.cab,ok.hd,ok.frames,ok.stk,ok.exf,ok.bs,ok.bsz,ok.noex,ok.exfs,ok.funs,ok.frf⟩
theorem Inv.tr (I:Inv X pins σ H s) (E':Value→Shared→Prop):Inv (X.tr E' (X.pn++pins)) [] σ H s:=
 ⟨I.ok.tr E' _,I.os,I.bare,I.base,I.loc,I.cell,I.free,I.freeC,fun p hp=>I.pin p (by simpa using hp),I.hok,I.len⟩
end
section
variable {X:Cx} {body suite:List Stmt} {b₀:Stmt} {y n:Str} {np hpos pos:Pos} {Cy:Addr} {j:Nat} {tb:(St→XK)→TS} {ts:TS}
end
section
variable {X:Cx} {x:Str} {k j:Nat} {ps:List Str} {sp:Sp} {p pos:Pos} {e:Expr} {es:List Expr} {t:TA} {W:St→XK}
end
section
variable {X:Cx} {body suite:List Stmt} {b₀:Stmt} {y:Str} {np hpos pos:Pos} {Cy:Addr} {tb:(St→XK)→TS} {ts:TS}
end
end L2
namespace L2
open PySem PySem.Spec PyProof.Rows
theorem fm_congr {α β:Type} {f g:α→Option β}:∀ {l:List α},(∀ x∈l,f x=g x)→l.filterMap f=l.filterMap g
 | [],_=>rfl
 | x::r,h=>by rw [List.filterMap_cons,List.filterMap_cons,h x List.mem_cons_self,fm_congr fun y hy=>h y (List.mem_cons_of_mem _ hy)]
section
variable {X:Cx}
def CDivG (i j:Int):Prop:=0 < j∧j < 2 ^ 200
theorem CDivG.noPy {i j:Int} (h:CDivG i j):Builtin.divisionGoesByPylong i j=false:=by
 refine PyProof.noPylong_of_log2 ?_
 have h1:j.natAbs < 2 ^ 200:=by have:=h.1; have:=h.2; omega
 have h2:j.natAbs≠0:=by have:=h.1; omega
 have:=(Nat.log2_lt h2).mpr h1
 omega
theorem op_fdivG:OpR X (binaryOp .FloorDiv) (rI CDivG fun i j=>.int (i / j)):=opI fun i j _ _ _ _ _ hc q=>by
 have h1:(0:Int) < j:=hc.1
 exact floordiv_int (by omega) (by rw [Int.fdiv_eq_ediv_of_nonneg i (by omega)]; exact q) (.inl hc.noPy)
def SlB (X:Cx) (r:V→Hp→VK→Prop):Prop:=
 ∀ (pins:List (Addr×Obj)) (s:Shared) (σ:St) (H:Hp) (x:V) (v vs:Value) (sl:Addr) (Q:VK),Inv X pins σ H s→RelV x v→s.heap.IsSliceOf sl .none .none vs→IsPart vs (some (-1))→r x H Q →
  ∃ T id,typeLookup (.type T) "__getitem__" = pure (some (.builtin id))∧s.TypeIs v T∧wpAny (model X.prog X.w) X.A (getItem v (.ref sl)) (EP X pins σ Q) X.xe s
theorem pe_rev {r:V→Hp→VK→Prop} {e st:Expr} {te ts:TE} {p2 pos:Pos} (hr:SlB X r) (he:PE X e te) (hs:PE X st ts) :
  PE X (.Subscript e (.Slice none none (some st) p2) pos) (fun σ H Q=>te σ H fun x H1=>ts σ H1 fun y H2=>y=.int (-1)∧r x H2 Q):=by
 refine .mk ?_
 intro pins s σ H Q I h
 refine Subscript_ (thn (he pins s σ H _ I h) fun v s1 ⟨x,H1,I1,r1,q1⟩=>?_)
 refine wpAny_Slice ?_
 rw [evalPart_none]
 refine wpAny_pure ?_
 refine wpAny_pure ?_
 rw [evalPart_some]
 refine thn (hs pins s1 σ H1 _ I1 q1) fun vs s2 ⟨y,H2,I2,r2,q2⟩=>?_
 obtain ⟨rfl,q3⟩:=q2
 obtain ⟨t,rfl⟩:=r2
 have I4:Inv X pins σ H2 { s2 with heap:=s2.heap.push { cls:=.type "slice",data:=.fields #[.none,.none,.int (-1) t] } }:=I2.kept (t':=s2.toks) fun b ob q=>Heap.get?_push_of_some _ q
 obtain ⟨T,id,hT,ht,hg⟩:=hr pins { s2 with heap:=s2.heap.push { cls:=.type "slice",data:=.fields #[.none,.none,.int (-1) t] } } σ H2 x v _ s2.heap.objs.size Q I4 r1 (Heap.IsSliceOf.new ..) (.int (-1) t) q3
 show wpAny (model X.prog X.w) X.A (subscriptTail e (.Slice none none (some st) p2) v (.ref s2.heap.objs.size)) (EP X pins σ Q) X.xe { s2 with heap:=s2.heap.push { cls:=.type "slice",data:=.fields #[.none,.none,.int (-1) t] } }
 exact tail_any (ops:=[v,.ref s2.heap.objs.size]) ht hT hg (by with_unfolding_all rfl)
theorem rev_pick (its:List Value):((List.range its.length).map fun k=>its.length-1-k).filterMap (its.toArray[·]?)=its.reverse:=by
 apply List.ext_getElem?
 intro i
 have e:((List.range its.length).map fun k=>its.length-1-k).filterMap (its.toArray[·]?)=(List.range its.length).map fun k=>its.getD (its.length-1-k) .none:=by
  rw [List.filterMap_map]
  rw [← List.filterMap_eq_map]
  apply fm_congr
  intro k hk
  have hk':k < its.length:=List.mem_range.mp hk
  show its.toArray[its.length-1-k]? = some (its.getD (its.length-1-k) .none)
  have h2:its.length-1-k < its.length:=by omega
  simp [List.getD,List.getElem?_eq_getElem h2]
 rw [e,List.getElem?_map]
 by_cases h:i < its.length
 ·rw [List.getElem?_range h,List.getElem?_reverse h]
  have h2:its.length-1-i < its.length:=by omega
  simp [List.getD,List.getElem?_eq_getElem h2]
 ·rw [List.getElem?_eq_none (by simpa using h),List.getElem?_eq_none (by simpa using h)]
  rfl
theorem slicePick_rev (its:List Value):slicePick its.toArray none none (some (-1))=its.reverse.toArray:=by
 unfold slicePick
 have e:sliceRange (sliceBounds none none (some (-1)) its.toArray.size).1 (sliceBounds none none (some (-1)) its.toArray.size).2.1 (sliceBounds none none (some (-1)) its.toArray.size).2.2=(List.range its.length).map fun k=>its.length-1-k:=picked_rev its.length
 rw [e,rev_pick]
theorem Vals.rev {xs:List V} {us:List Value} (r:Vals xs us):Vals xs.reverse us.reverse:=by
 induction r with
 | nil=>exact .nil
 | cons r1 r2 ih=>
  rw [List.reverse_cons,List.reverse_cons]
  exact ih.append (.cons r1 .nil)
def rRevL (K:PySem.W.Frag):V→Hp→VK→Prop:=fun x H Q=>∃ a xs,x=.ref a∧SqL K H a xs∧∀ p,H p=none→Q (.ref p) (upd H p (.lst xs.reverse))
theorem rv_list:SlB X (rRevL X.K):=by
 intro pins s σ H x v vs sl Q I rx hs ps h
 obtain ⟨a,xs,rfl,hx,q⟩:=h
 cases rx
 obtain ⟨its,r,ht,hz⟩:=I.list hx
 have hlen:=r.length
 refine ⟨"list",_,slot_list_getitem.lookup,ht.isList.typeIs,?_⟩
 refine wpAny_getItem_list_slice ht.isList hs .none .none ps (by decide) ?_ (by rw [List.size_toArray] <;> omega)
 rw [slicePick_rev]
 refine ⟨.ref s.heap.objs.size,_,I.laid (t':=s.toks) (o:=.lst xs.reverse) (fun b ob q=>Heap.get?_push_of_some _ q) (Nat.le_refl _) ?_,rfl,q _ (I.hok.fresh (Nat.le_refl _))⟩
 exact ⟨by rw [List.length_reverse]; exact hz,_,0,Vals.rev r,Heap.get?_push_size _ rfl⟩
def rRevT (K:PySem.W.Frag):V→Hp→VK→Prop:=fun x H Q=>∃ a xs,x=.ref a∧SqT K H a xs∧∀ p,H p=none→Q (.ref p) (upd H p (.tup xs.reverse))
theorem sliceApplied_rev {prog:Program} {w:World} {A:Around} {E:Value→Shared→Prop} {s:Shared} {sl:Addr} {vs:Value} {n:Nat} {Q:Int×Int×Nat→Shared→Prop} (hs:s.heap.IsSliceOf sl .none .none vs) (ps:IsPart vs (some (-1)))
  (h:Q ((n:Int)-1,-1,n) s):wpAny (model prog w) A (Builtin.Slice.sliceApplied (.ref sl) (pure (n:Int))) Q E s:=by
 obtain ⟨os,hos,hcs,hds⟩:=id hs
 unfold Builtin.Slice.sliceApplied Builtin.Slice.sliceFields
 refine wpAny_bind (wpAny_bind (wpAny_field hos hds (x:=.none) rfl (wpAny_bind (wpAny_field hos hds (x:=.none) rfl (wpAny_bind (wpAny_field hos hds (x:=vs) rfl (wpAny_pure ?_)))))))
 refine wpAny_bind (HT.slicePart_ ps ?_)
 show wpAny _ _ (if ((-1:Int) == 0)=true then _ else _) _ _ s
 rw [if_neg (by decide)]
 refine wpAny_bind (slicePart_none (wpAny_bind (slicePart_none (wpAny_bind (wpAny_pure ?_)))))
 show wpAny _ _ (match Builtin.Slice.sliceAdjust none none (-1) (n:Int) with | (lo,hi)=>pure (lo,(-1:Int),Builtin.Slice.slicePlaces lo hi (-1))) _ _ s
 have e:Builtin.Slice.sliceAdjust none none (-1) (n:Int)=((n:Int)-1,-1):=rfl
 rw [e]
 show wpAny _ _ (pure ((n:Int)-1,(-1:Int),Builtin.Slice.slicePlaces ((n:Int)-1) (-1) (-1))) _ _ s
 have e2:Builtin.Slice.slicePlaces ((n:Int)-1) (-1) (-1)=n:=by
  unfold Builtin.Slice.slicePlaces
  have h1:¬ ((-1:Int) > 0):=by omega
  have h3:(-(-1):Int)=1:=rfl
  simp only [h1,if_false,h3,Int.ediv_one]
  split <;> omega
 rw [e2]
 exact wpAny_pure h
theorem getItem_tuple_rev {prog:Program} {w:World} {A:Around} {E:Value→Shared→Prop} {s:Shared} {t sl:Addr} {its:List Value} {vs:Value} {Q:Value→Shared→Prop} (ht:IsTup s.heap t its.toArray) (hs:s.heap.IsSliceOf sl .none .none vs) (ps:IsPart vs (some (-1)))
  (h:Q (.ref s.heap.objs.size) { s with heap:=s.heap.push { cls:=.type "tuple",data:=.seq its.reverse.toArray } })
  (hsz:its.length≤sizeLine):wpAny (model prog w) A (getItem (.ref t) (.ref sl)) Q E s:=by
 have htake:sizeOk (.seq its.reverse.toArray):=by
  show its.reverse.toArray.size≤sizeLine
  rw [List.size_toArray,List.length_reverse]
  exact hsz
 obtain ⟨os,hos,hcs,hds⟩:=id hs
 have hTs:s.TypeIs (.ref sl) "slice" := ⟨os,hos,hcs⟩
 unfold getItem
 try with_reducible refine wpAny_holding ?_
 first | refine wpAny_bind (wpAny_pure ?_) | skip
 refine wpAny_bind (wpAny_sequenceKey ht.typeIs (by decide) ?_)
 refine wpAny_bind (wpAny_callSpecial?_slot (name:=Str.ofString "__getitem__") ht.typeIs PyProof.Rows.slot_tuple_getitem
  (wpAny_call_entry PyProof.Rows.slot_tuple_getitem ht.typeIs entry_tuple_getitem ?_ (args_tuple_getitem _ _)))
 show wpAny _ _ (Builtin.Tuple.tupleItemsOf (.ref t) >>= _) _ _ s
 refine wpAny_bind (tupleItemsOf_ ht ?_)
 refine wpAny_bind (wpAny_typeOf hTs ?_)
 rw [if_pos (by decide)]
 refine wpAny_bind (sliceApplied_rev hs ps ?_)
 have hno:¬ (((((its.toArray.size:Nat):Int)-1) == 0 && (-1:Int) == 1 && its.toArray.size == its.toArray.size)=true):=by
  have:((-1:Int) == 1)=false:=rfl
  rw [this,Bool.and_false,Bool.false_and]
  exact Bool.false_ne_true
 show wpAny _ _ (if ((((its.toArray.size:Nat):Int)-1) == 0 && (-1:Int) == 1 && its.toArray.size == its.toArray.size)=true then _ else _) _ _ s
 rw [if_neg hno]
 have e:((List.range its.toArray.size).filterMap fun (m:Nat)=>its.toArray[((((its.toArray.size:Nat):Int)-1)+(m:Int) * (-1)).toNat]?).toArray=its.reverse.toArray:=by
  rw [← rev_pick its,List.filterMap_map,List.size_toArray]
  congr 1
  apply fm_congr
  intro k hk
  have hk':k < its.length:=List.mem_range.mp hk
  have e1:(((its.length:Nat):Int)-1+(k:Int) * (-1)).toNat=its.length-1-k:=by omega
  show its.toArray[(((its.length:Nat):Int)-1+(k:Int) * (-1)).toNat]? = its.toArray[its.length-1-k]?
  rw [e1]
 rw [e]
 first
  | exact wpAny_bind (m:=Builtin.Tuple.tupleExact _) (wpAny_newObj_type (wpAny_pure ⟨_,rfl,wpAny_pure h⟩) htake)
  | exact wpAny_bind (m:=Builtin.Tuple.tupleExact _) (wpAny_newObj_type (wpAny_bind (wpAny_pure (wpAny_pure ⟨_,rfl,wpAny_pure h⟩))) htake)
  | exact wpAny_bind (wpAny_bind (m:=Builtin.Tuple.tupleExact _) (wpAny_newObj_type (wpAny_pure (wpAny_pure ⟨_,rfl,wpAny_pure h⟩)) htake))
  | exact wpAny_bind (wpAny_bind (m:=Builtin.Tuple.tupleExact _) (wpAny_newObj_type (wpAny_pure ⟨_,rfl,wpAny_pure h⟩) htake))
theorem rv_tup:SlB X (rRevT X.K):=by
 intro pins s σ H x v vs sl Q I rx hs ps h
 obtain ⟨a,xs,rfl,hx,q⟩:=h
 cases rx
 obtain ⟨its,r,ht,hz⟩:=I.tuple hx
 have hlen:=r.length
 refine ⟨"tuple",_,PyProof.Rows.slot_tuple_getitem.lookup,ht.typeIs,?_⟩
 refine getItem_tuple_rev ht hs ps ?_ (by omega)
 refine ⟨.ref s.heap.objs.size,_,I.laid (t':=s.toks) (o:=.tup xs.reverse) (fun b ob q=>Heap.get?_push_of_some _ q) (Nat.le_refl _) ?_,rfl,q _ (I.hok.fresh (Nat.le_refl _))⟩
 exact ⟨by rw [List.length_reverse]; exact hz,_,Vals.rev r,IsTup.new _ _⟩
theorem Vals.at {xs:List V} {us:List Value} (r:Vals xs us):∀ {j:Nat} (h:j < us.length),RelV (xs.getD j .non) us[j]:=by
 induction r with
 | nil=>intro j h; exact absurd h (Nat.not_lt_zero _)
 | cons r1 r2 ih=>
  intro j h
  cases j with
  | zero=>exact r1
  | succ j=>exact ih (Nat.lt_of_succ_lt_succ h)
theorem getItem_tuple_whole {prog:Program} {w:World} {A:Around} {E:Value→Shared→Prop} {s:Shared} {t sl:Addr} {items:Array Value} {vl vu:Value} {lo hi:Option Int} {Q:Value→Shared→Prop} (ht:IsTup s.heap t items) (hs:s.heap.IsSliceOf sl vl vu .none) (pl:IsPart vl lo) (pu:IsPart vu hi)
  (h0:HT.sIx items.size 0 lo=0) (h1:HT.sIx items.size items.size hi=items.size) (h:Q (.ref t) s):wpAny (model prog w) A (getItem (.ref t) (.ref sl)) Q E s:=by
 obtain ⟨os,hos,hcs,hds⟩:=id hs
 have hTs:s.TypeIs (.ref sl) "slice" := ⟨os,hos,hcs⟩
 unfold getItem
 try with_reducible refine wpAny_holding ?_
 first | refine wpAny_bind (wpAny_pure ?_) | skip
 refine wpAny_bind (wpAny_sequenceKey ht.typeIs (by decide) ?_)
 refine wpAny_bind (wpAny_callSpecial?_slot (name:=Str.ofString "__getitem__") ht.typeIs PyProof.Rows.slot_tuple_getitem
  (wpAny_call_entry PyProof.Rows.slot_tuple_getitem ht.typeIs entry_tuple_getitem ?_ (args_tuple_getitem _ _)))
 show wpAny _ _ (Builtin.Tuple.tupleItemsOf (.ref t) >>= _) _ _ s
 refine wpAny_bind (tupleItemsOf_ ht ?_)
 refine wpAny_bind (wpAny_typeOf hTs ?_)
 rw [if_pos (by decide)]
 refine wpAny_bind (HT.sliceApplied_gen hs pl pu ?_)
 have hyes:((((HT.sIx items.size 0 lo:Nat):Int) == 0 && (1:Int) == 1 && (HT.sIx items.size items.size hi-HT.sIx items.size 0 lo) == items.size)=true):=by
  rw [h0,h1]
  simp
 show wpAny _ _ (if (((HT.sIx items.size 0 lo:Nat):Int) == 0 && (1:Int) == 1 && (HT.sIx items.size items.size hi-HT.sIx items.size 0 lo) == items.size)=true then _ else _) _ _ s
 rw [if_pos hyes]
 unfold Builtin.Tuple.tupleIsExact
 refine wpAny_bind (wpAny_bind (wpAny_typeOf ht.typeIs ?_))
 refine wpAny_pure ?_
 rw [if_pos (by decide)]
 refine wpAny_bind (wpAny_rule ?_)
 exact wpAny_pure ⟨_,rfl,wpAny_pure h⟩
def rSlA (K:PySem.W.Frag):V→Option Int→Option Int→Hp→VK→Prop:=fun x lo hi H Q=>∃ a xs,x=.ref a∧SqT K H a xs ∧
 ((HT.sIx xs.length 0 lo=0∧HT.sIx xs.length xs.length hi=xs.length)→Q (.ref a) H)∧(¬ (HT.sIx xs.length 0 lo=0∧HT.sIx xs.length xs.length hi=xs.length)→∀ p,H p=none→Q (.ref p) (upd H p (.tup (cutV xs lo hi))))
theorem sl_tupA:SlR X (rSlA X.K):=by
 intro pins s σ H x v vl vu lo hi sl Q I rx hs pl pu h
 obtain ⟨a,xs,rfl,hx,q1,q2⟩:=h
 by_cases hw:HT.sIx xs.length 0 lo=0∧HT.sIx xs.length xs.length hi=xs.length
 ·cases rx
  obtain ⟨its,r,ht,hz⟩:=I.tuple hx
  have hlen:its.toArray.size=xs.length:=by rw [List.size_toArray]; exact r.length.symm
  refine ⟨"tuple",_,PyProof.Rows.slot_tuple_getitem.lookup,ht.typeIs,?_⟩
  exact getItem_tuple_whole ht hs pl pu (by rw [hlen]; exact hw.1) (by rw [hlen]; exact hw.2) ⟨.ref a,H,I,rfl,q1 hw⟩
 ·exact sl_tup pins s σ H _ v vl vu lo hi sl Q I rx hs pl pu ⟨a,xs,rfl,hx,hw,q2 hw⟩
end
section
variable {own:List Str} {cap:List (Nat×Str)} {σ:St} {H1:Hp} {D:Addr} {g:TG} {tc:TT} {te:TE} {QD:Hp→Prop}
end
end L2
namespace Tg
def val:List Int→Int
 | []=>0
 | d::ds=>d+65536 * val ds
theorem pow_pos' (k:Nat):(0:Int) < 65536 ^ k:=Int.pow_pos (by decide)
end Tg
namespace L2
open PySem PySem.Spec PyProof.Rows
section
variable {X:Cx}
def rCatA:R2:=fun x y H Q=>∃ a b xs ys,x=.ref a∧y=.ref b∧H a=some (.tup xs)∧H b=some (.tup ys)∧xs.length+ys.length≤sizeLine∧∀ c H',Kp [] H H'→H' c=some (.tup (xs++ys))→Q (.ref c) H'
theorem op_catA:OpR X (binaryOp .Add) rCatA:=by
 intro pins s σ H x y v u Q I rx ry h
 obtain ⟨a,b,xs,ys,rfl,rfl,ha,hb,hz,q⟩:=h
 by_cases e:xs=[]
 ·subst e
  cases rx
  cases ry
  obtain ⟨its,r1,p1,z1⟩:=I.tuple (SqT.of (K:=X.K) ha)
  obtain ⟨its2,r2,p2,z2⟩:=I.tuple (SqT.of (K:=X.K) hb)
  cases r1
  obtain ⟨⟨cls,dd,data,sl⟩,ho,hc,n,hd⟩:=id p1
  obtain ⟨⟨cls2,dd2,data2,sl2⟩,ho2,hc2,n2,hd2⟩:=id p2
  simp only at hc hd hc2 hd2
  subst hc hd hc2 hd2
  exact concat_meets ⟨_,ho,rfl⟩ ⟨_,ho2,rfl⟩ noFill_tuple_add seq_tuple_add PySem.F.slot_tuple_add PySem.F.entry_tuple_add (PySem.F.args_tuple_add_2 _ _)
   (tuple_addW0 a b [].toArray its2.toArray n n2 dd dd2 sl sl2 rfl) ⟨ho,ho2,⟨.ref b,H,I,rfl,q b H (Kp.refl _) hb⟩⟩
 ·exact op_catT pins s σ H _ _ v u Q I rx ry ⟨a,b,xs,ys,rfl,rfl,SqT.of ha,SqT.of hb,e,hz,fun z=>by subst z; exact q a H (Kp.refl _) (by rw [List.append_nil]; exact ha),fun _ p hp=>q p _ (Kp.new hp _) upd_same⟩
def rSlB:V→Option Int→Option Int→Hp→VK→Prop:=fun x lo hi H Q=>∃ a xs,x=.ref a∧H a=some (.tup xs)∧∀ c H',Kp [] H H'→H' c=some (.tup (cutV xs lo hi))→Q (.ref c) H'
theorem sl_tupB:SlR X rSlB:=by
 intro pins s σ H x v vl vu lo hi sl Q I rx hs pl pu h
 obtain ⟨a,xs,rfl,ha,q⟩:=h
 refine sl_tupA pins s σ H _ v vl vu lo hi sl Q I rx hs pl pu ⟨a,xs,rfl,SqT.of ha,fun z=>q a H (Kp.refl _) ?_,fun _ p hp=>q p _ (Kp.new hp _) upd_same⟩
 unfold cutV
 rw [z.1,z.2,List.drop_zero,Nat.sub_zero,List.take_length]
 exact ha
theorem noFill_tuple_mul':fillsNumberSlot (.type "tuple") "mul" = pure false:=
 PySem.fillsNumberSlot_seq (id := "tuple.__mul__") (r:=some (.builtin "tuple.__rmul__")) F.slot_tuple_mul.lookup (by decide +kernel) F.slot_tuple_rmul.lookup (by decide +kernel)
theorem repeat_tuple':seqRepeat? (.type "tuple")=pure (some (.builtin "tuple.__mul__")):=by
 unfold seqRepeat?
 rw [PySem.seqSlot_of (T := "tuple") (name := "__mul__") (id := "tuple.__mul__") F.slot_tuple_mul.lookup (by decide +kernel),PySem.seqSlot_of (T := "tuple") (name := "__rmul__") (id := "tuple.__rmul__") F.slot_tuple_rmul.lookup (by decide +kernel)]
 rfl
theorem rmul_int_tuple (a:Int) (t:Tok) (l:Addr) (its:Array Value) (n:Nat) (dd:Option Addr) (sl:Array (Option Value)) :
  Meets (Builtin.«int.__rmul__» ⟨[.int a t,.ref l],[]⟩) (fun _ R s=>s.heap.get? l=some { cls:=.type "tuple",dict:=dd,data:=.seq its n,slots:=sl }∧R (.ok (.ret Value.notImplemented)) s):=
 .of_wp fun prog w A R s h=>by
  obtain ⟨hp,g,d,tk,os⟩:=s; obtain ⟨hl,h⟩:=h; wp_walk; exact ⟨_,rfl,h⟩
theorem foldA (its:List Value):∀ (n:Nat) (acc:Array Value),(List.replicate n its.toArray).foldl (· ++ ·) acc=(acc.toList++(List.replicate n its).flatten).toArray
 | 0,acc=>by simp
 | n+1,acc=>by
  rw [List.replicate_succ,List.foldl_cons,foldA its n,List.replicate_succ,List.flatten_cons,Array.toList_append,List.append_assoc]
theorem tuple_mul (l:Addr) (its:List Value) (n:Nat) (dd:Option Addr) (sl:Array (Option Value)) (k:Int) (t:Tok) (h1:0≤k) (h2:k≤1000) (hz:its.length≤1000) :
  Meets (Builtin.«tuple.__mul__» ⟨[.ref l,.int k t],[]⟩) (fun _ R s=>s.heap.get? l=some { cls:=.type "tuple",dict:=dd,data:=.seq its.toArray n,slots:=sl } ∧
   ((its=[]∨k=1)→R (.ok (.ret (.ref l))) s)∧(¬ (its=[]∨k=1)→R (.ok (.ret (.ref s.heap.objs.size))) { s with heap:=s.heap.push { cls:=.type "tuple",data:=.seq (List.replicate k.toNat its).flatten.toArray } })):=by
 intro prog w A R s ⟨hl,q1,q2⟩
 have ht:IsTup s.heap l its.toArray:=⟨_,hl,rfl,n,rfl⟩
 show wpAny _ _ (asIndex (.int k t) >>= _) _ _ s
 refine wpAny_bind (wpAny_of_eq (a:=k) rfl ?_)
 show wpAny _ _ (if (decide (k < -(2 ^ 63)) || decide (k ≥ 2 ^ 63))=true then _ else _) _ _ s
 rw [if_neg (by rw [decide_eq_false (by omega),decide_eq_false (by omega)]; exact Bool.false_ne_true)]
 refine wpAny_bind (tupleItemsOf_ ht ?_)
 by_cases c:its=[]∨k=1
 ·rw [if_pos (by rw [Bool.or_eq_true]; exact c.imp (fun c=>by rw [c]; rfl) (fun c=>by rw [c]; rfl))]
  unfold Builtin.Tuple.tupleIsExact
  refine wpAny_bind (wpAny_bind (wpAny_typeOf ht.typeIs ?_))
  refine wpAny_pure ?_
  rw [if_pos (by decide)]
  refine wpAny_bind (wpAny_rule ?_)
  exact wpAny_pure (q1 c)
 ·have c1:¬ its=[]:=fun z=>c (.inl z)
  have c2:¬ k=1:=fun z=>c (.inr z)
  have c3:its.toArray.isEmpty=false:=by simpa using c1
  rw [if_neg (by rw [c3,Bool.false_or,beq_iff_eq]; exact c2)]
  show wpAny _ _ (if (decide (k≤0) || its.toArray.isEmpty)=true then _ else _) _ _ s
  have q:=q2 c
  by_cases k0:k≤0
  ·rw [if_pos (by rw [decide_eq_true k0]; rfl)]
   have e:(List.replicate k.toNat its).flatten.toArray=(#[]:Array Value):=by
    have:k.toNat=0:=by omega
    rw [this]
    rfl
   rw [e] at q
   refine wpAny_bind (m:=Builtin.Tuple.tupleExact _) ?_
   exact wpAny_newObj_type (wpAny_pure q) (by show 0≤sizeLine; exact Nat.zero_le _)
  ·rw [if_neg (by rw [decide_eq_false k0,c3]; exact Bool.false_ne_true)]
   have hm:its.length * k.toNat≤1000 * 1000:=Nat.mul_le_mul hz (by omega)
   have hs:(1000 * 1000:Nat)≤sizeLine:=by decide
   have hp:((its.toArray.size:Nat):Int) * k=((its.length * k.toNat:Nat):Int):=by
    rw [List.size_toArray]
    push_cast
    congr 1
    omega
   show wpAny _ _ (if ((its.toArray.size:Nat):Int) * k > (2 ^ 63-1) / 8 then _ else _) _ _ s
   rw [if_neg (by rw [hp]; omega)]
   show wpAny _ _ (if Builtin.Tuple.tupleTooMany (((its.toArray.size:Nat):Int) * k)=true then _ else _) _ _ s
   rw [if_neg (by unfold Builtin.Tuple.tupleTooMany; rw [hp,decide_eq_false (by omega)]; exact Bool.false_ne_true)]
   have e:List.foldl (fun x1 x2=>x1++x2) #[] (List.replicate k.toNat its.toArray)=(List.replicate k.toNat its).flatten.toArray:=by
    have:=foldA its k.toNat #[]
    simpa using this
   show wpAny _ _ (Builtin.Tuple.tupleExact (List.foldl (fun x1 x2=>x1++x2) #[] (List.replicate k.toNat its.toArray)) >>= _) _ _ s
   rw [e]
   refine wpAny_bind (m:=Builtin.Tuple.tupleExact _) ?_
   refine wpAny_newObj_type (wpAny_pure q) ?_
   show (List.replicate k.toNat its).flatten.toArray.size≤sizeLine
   rw [List.size_toArray,len_rep,Nat.mul_comm]
   omega
theorem op_repT:OpR X (binaryOp .Mult) (fun x y H Q=>∃ a k xs,x=.ref a∧y=.int k∧H a=some (.tup xs)∧0≤k∧k≤1000∧xs.length≤1000∧∀ c H',Kp [] H H'→H' c=some (.tup (List.replicate k.toNat xs).flatten)→Q (.ref c) H'):=by
 intro pins s σ H x y v u Q I rx ry h
 obtain ⟨a,k,xs,rfl,rfl,ha,k1,k2,hz,q⟩:=h
 cases rx
 obtain ⟨t,rfl⟩:=ry
 obtain ⟨its,r,p,z⟩:=I.tuple (SqT.of (K:=X.K) ha)
 obtain ⟨⟨cls,dd,data,sl⟩,ho,hc,n,hd⟩:=id p
 simp only at hc hd
 subst hc hd
 have hl:=r.length
 refine wpAny_binaryOp_repeat_ref (T := "tuple") (U := "int") (by decide) ⟨_,ho,rfl⟩ (fun s'=>typeIs_int s' k t) noFill_tuple_mul' F.fills_int_mul F.slot_int_rmul repeat_tuple' F.slot_int_index.lookup
  (call_meets F.slot_int_rmul (typeIs_int s k t) F.entry_int_rmul (F.args_int_rmul_2 _ _) (rmul_int_tuple k t a its.toArray n dd sl)
   ⟨ho,rfl,⟨_,ho,rfl⟩,call_meets F.slot_tuple_mul ⟨_,ho,rfl⟩ F.entry_tuple_mul (F.args_tuple_mul_2 _ _) (tuple_mul a its n dd sl k t k1 k2 (by omega)) ⟨ho,fun c=>?_,fun c=>?_⟩⟩)
 ·refine ⟨.ref a,H,I,rfl,q a H (Kp.refl _) ?_⟩
  have e:(List.replicate k.toNat xs).flatten=xs:=by
   rcases c with c | c
   ·have:xs=[]:=by cases r with | nil=>rfl | cons _ _=>cases c
    rw [this]
    simp
   ·rw [c]; simp
  rw [e]
  exact ha
 ·refine ⟨.ref s.heap.objs.size,_,I.laid (t':=s.toks) (o:=.tup (List.replicate k.toNat xs).flatten) (fun b ob q=>Heap.get?_push_of_some _ q) (Nat.le_refl _) ?_,rfl,q _ _ (Kp.new (I.hok.fresh (Nat.le_refl _)) _) upd_same⟩
  refine ⟨?_,_,r.rep k.toNat,IsTup.new _ _⟩
  rw [len_rep]
  have hm:k.toNat * xs.length≤1000 * 1000:=Nat.mul_le_mul (by omega) hz
  have hs:(1000 * 1000:Nat)≤sizeLine:=by decide
  omega
theorem strVals_of {ss:List Str}:∀ {us:List Value},Vals (ss.map V.str) us→∃ l:List (Str×Tok),us=strValues l∧l.map (·.1)=ss:=by
 induction ss with
 | nil=>intro us r; rw [List.map_nil] at r; cases r; exact ⟨[],rfl,rfl⟩
 | cons x r ih=>
  intro us rv
  rw [List.map_cons] at rv
  cases rv with
  | cons r1 r2=>
   obtain ⟨t,rfl⟩:=r1
   obtain ⟨l,rfl,e⟩:=ih r2
   exact ⟨(x,t)::l,rfl,by rw [List.map_cons,e]⟩
def catS (ss:List Str):Str:=⟨(ss.map (·.cps.toList)).flatten.toArray⟩
theorem fold_cat:∀ (ss:List Str) (x:Array Nat),ss.foldl (fun acc (p:Str)=>acc++(Str.empty).cps++p.cps) x=(x.toList++(ss.map (·.cps.toList)).flatten).toArray
 | [],x=>by simp
 | y::r,x=>by
  rw [List.foldl_cons,fold_cat r]
  simp [Str.empty,Array.toList_append,List.append_assoc]
theorem glued_empty:∀ ss:List Str,Builtin.Str.glued Str.empty ss=catS ss
 | []=>rfl
 | y::r=>by
  show (⟨r.foldl (fun acc (p:Str)=>acc++(Str.empty).cps++p.cps) y.cps⟩:Str)=_
  rw [fold_cat]
  rfl
theorem foldLen (sep:Nat):∀ (ss:List Str) (n B:Nat),(∀ y∈ss,y.length≤B)→ss.foldl (fun a (p:Str)=>a+p.length+sep) n≤n+ss.length * (B+sep)
 | [],n,B,_=>by simp
 | y::r,n,B,h=>by
  rw [List.foldl_cons]
  have h1:=foldLen sep r (n+y.length+sep) B fun z hz=>h z (List.mem_cons_of_mem _ hz)
  have h2:=h y List.mem_cons_self
  rw [List.length_cons,Nat.succ_mul]
  omega
theorem flat_len {α:Type} (B:Nat):∀ ls:List (List α),(∀ l∈ls,l.length≤B)→ls.flatten.length≤ls.length * B
 | [],_=>by simp
 | l::r,h=>by
  rw [List.flatten_cons,List.length_append,List.length_cons,Nat.succ_mul]
  have h1:=flat_len B r fun z hz=>h z (List.mem_cons_of_mem _ hz)
  have h2:=h l List.mem_cons_self
  omega
theorem catS_len {ss:List Str} {B:Nat} (h:∀ y∈ss,y.length≤B):(catS ss).length≤ss.length * B:=by
 show (ss.map (·.cps.toList)).flatten.toArray.size≤_
 rw [List.size_toArray]
 have:=flat_len B (ss.map (·.cps.toList)) fun l hl=>by
  obtain ⟨y,hy,rfl⟩:=List.mem_map.mp hl
  rw [Array.length_toList]
  exact h y hy
 rwa [List.length_map] at this
theorem mt_join:MtR X "str.join" (fun x vs H Q=>∃ (p:Addr) (ss:List Str),x=.str Str.empty∧vs=[.ref p]∧SqL X.K H p (ss.map V.str)∧ss.length≤1000∧(∀ y∈ss,y.length≤1000)∧Q (.str (catS ss)) H):=by
 intro pins s σ H x vs v us Q I rx rv h
 obtain ⟨p,ss,rfl,rfl,hq,l1,l2,q⟩:=h
 obtain ⟨t,rfl⟩:=rx
 obtain ⟨u,rfl,ru⟩:=rv.one
 cases ru
 obtain ⟨its,r,pl,hz⟩:=I.list hq
 obtain ⟨l,rfl,rfl⟩:=strVals_of r
 have hs:(1000 * 1000:Nat)≤sizeLine:=by decide
 have hlen:(l.map (·.1)).foldl (fun a (p:Str)=>a+p.length+(Str.empty).length) 0≤1000 * 1000:=by
  have h1:=foldLen (Str.empty).length (l.map (·.1)) 0 1000 l2
  have h2:(Str.empty).length=0:=rfl
  rw [h2] at h1 ⊢
  have h3:(l.map (·.1)).length * (1000+0)≤1000 * 1000:=Nat.mul_le_mul l1 (by omega)
  omega
 have hl:Builtin.Str.tooLong ((l.map (·.1)).toArray.foldl (· + ·.length+(Str.empty).length) 0)=false:=by
  unfold Builtin.Str.tooLong
  rw [List.foldl_toArray]
  exact decide_eq_false (by omega)
 refine call_meets F.slot_str_join (typeIs_str s _ t) F.entry_str_join (F.args_str_join_2 _ _) (meets_str_join_list Str.empty t p l hl) ⟨pl.isList,?_⟩
 have fin:∀ z:Str,z=catS (l.map (·.1))→Q (.str z) H:=fun z e=>by rw [e]; exact q
 match l,glued_empty (l.map (·.1)),fin,l1,l2 with
 | [],_,fin,_,_=>exact ⟨by decide,.str Str.empty,H,I.tok _,⟨_,rfl⟩,fin _ rfl⟩
 | [y],_,fin,_,_=>exact ⟨.str y.1,H,I,⟨y.2,rfl⟩,fin _ (by simp [catS])⟩
 | y::z::r,e,fin,l1,l2=>
  refine ⟨?_,.str (Builtin.Str.glued Str.empty ((y::z::r).map (·.1))),H,I.tok _,⟨_,rfl⟩,fin _ e⟩
  show (Builtin.Str.glued Str.empty ((y::z::r).map (·.1))).length≤sizeLine
  rw [e]
  have h1:=catS_len (B:=1000) l2
  have h2:((y::z::r).map (·.1)).length * 1000≤1000 * 1000:=Nat.mul_le_mul l1 (Nat.le_refl _)
  omega
end
section
variable {X:Cx} {pins:List (Addr×Obj)} {σ:St} {H:Hp} {s:Shared} {h':Heap}
theorem Inv.turnedNew {t':Nat} {ch:List Addr} {a:Addr} {o:HO} (I:Inv X pins σ H s) (k:∀ b u,b∉ch→s.heap.get? b=some u→h'.get? b=some u) (hf:∀ b∈ch,FpOk X pins H b) (ha:s.heap.objs.size≤a)
  (new:ObjOk X.prog X.w (upd H a o) h' a o):Inv X pins σ (upd H a o) { s with heap:=h',toks:=t' }:=by
 have hn:H a=none:=I.hok.fresh ha
 have nch:∀ b u,H b=some u→b∉ch:=fun b u e z=>by rw [(hf b z).1] at e; cases e
 refine I.step (g':=s.gens) (d':=s.drawn) (ch:=ch) (fun b hb=>?_) (fun b o _ _ hc e _=>k b o hc e) (fun b o _ _ hc e _=>⟨o.slots,k b o hc e⟩) (fun b o _ e n=>?_)
  (fun b o hc e=>⟨o,k b o hc e⟩) (fun b xs e=>by rw [upd_ne (ne_of_none e hn)]; exact e) (fun b u v e=>by rw [upd_ne (ne_of_none e hn)]; exact e) (fun b ps e=>⟨#[],by rw [upd_ne (ne_of_none e hn),e]; simp⟩) (fun m hm=>?_) (fun b u e=>?_) I.bare
 ·obtain ⟨f0,f1,f2,f3,f4,f5⟩:=hf b hb
  exact ⟨f3,f1,f4,f5⟩
 ·rw [upd_ne (Nat.ne_of_lt (Nat.lt_of_lt_of_le (Heap.lt_size e) ha))]
  exact n
 ·obtain ⟨o,es,ep,ho,r⟩:=hm
  exact ⟨o,es,ep,k _ o (fun z=>(hf _ z).2.1 rfl) ho,r⟩
 ·by_cases hb:b=a
  ·subst hb; rw [upd_same] at e; cases e; exact new
  ·rw [upd_ne hb] at e
   refine (I.hok b u e).stay (fun c v hc q=>k c v ?_ q) (fun c q=>by rw [upd_ne (ne_of_none q hn)]; exact q) fun c xs q=>by rw [upd_ne (ne_of_none q hn)]; exact q
   rcases hc with z | z
   ·rw [z]; exact nch b u e
   ·exact nch c _ z
theorem Inv.turnedAll {t':Nat} {ch:List Addr} (I:Inv X pins σ H s) (k:∀ b u,b∉ch→s.heap.get? b=some u→h'.get? b=some u) (hf:∀ b∈ch,FpOk X pins H b):Inv X pins σ H { s with heap:=h',toks:=t' }:=by
 have nch:∀ b u,H b=some u→b∉ch:=fun b u e z=>by rw [(hf b z).1] at e; cases e
 refine I.step (g':=s.gens) (d':=s.drawn) (ch:=ch) (fun b hb=>?_) (fun b o _ _ hc e _=>k b o hc e) (fun b o _ _ hc e _=>⟨o.slots,k b o hc e⟩) (fun b o _ e n=>n)
  (fun b o hc e=>⟨o,k b o hc e⟩) (fun b xs e=>e) (fun b u v e=>e) (fun b ps e=>⟨#[],by rw [e]; simp⟩) (fun m hm=>?_) (fun b u e=>?_) I.bare
 ·obtain ⟨f0,f1,f2,f3,f4,f5⟩:=hf b hb
  exact ⟨f3,f1,f4,f5⟩
 ·obtain ⟨o,es,ep,ho,r⟩:=hm
  exact ⟨o,es,ep,k _ o (fun z=>(hf _ z).2.1 rfl) ho,r⟩
 ·refine (I.hok b u e).stay (fun c v hc q=>k c v ?_ q) (fun _ q=>q) fun _ _ q=>q
  rcases hc with z | z
  ·rw [z]; exact nch b u e
  ·exact nch c _ z
end
def signV (c:Nat):V:=.str ⟨#[c]⟩
def Its (x:Str):It:=⟨fun i _=>i < x.cps.size,fun i H v H'=>H'=H∧∃ c,x.cps[i]? = some c∧v=signV c,fun i _=>x.cps.size≤i⟩
theorem turn_str {P:Program} {w:World} {K:PySem.W.Frag} {tg:Expr} (it:Addr) (x:Str) (t:Tok) (ty:String) (hty:ty = "str_ascii_iterator" ∨ ty = "str_iterator"):Turn P w K tg (Its x) [it] it (fun i h=>h.IsStrIter it ty x t i) where
 mem:=by simp
 obj:=fun i h st b hb=>by
  have e:b=it:=by simpa using hb
  subst e
  obtain ⟨o,e,c,d⟩:=st
  exact ⟨o,e,fun v z=>by rw [d] at z; cases z⟩
 keep:=fun i h h' st k=>by
  obtain ⟨o,e,r⟩:=st
  exact ⟨o,k it (by simp) o e,r⟩
 item:=by
  intro X hP hw hK hc i pins s σ H E I hf st hg
  subst hP hw hK
  obtain ⟨f0,f1,f2,f3,f4,f5⟩:=hf it (by simp)
  have key:∀ v h' tk,SignAt x i v→h'.IsStrIter it ty x t (i+1)→(∀ b o,b∉[it]→s.heap.get? b=some o→h'.get? b=some o)→∃ u,some v=some u ∧
    wpAny (model X.prog X.w) X.A (letOwnedTupleGo tg (.ref it) u) (fun _ s2=>∃ y H',Inv X pins σ H' s2∧RelV y u∧(Its x).yld i H y H'∧s2.heap.IsStrIter it ty x t (i+1)∧∀ b∈[it],H' b=none) E { s with heap:=h',toks:=tk }:=by
   intro v h' tk hv st' kk
   obtain ⟨c,u,hc',rfl⟩:=hv
   have I1:Inv X pins σ H { s with heap:=h',toks:=tk }:=I.turned (fun b o hb e=>kk b o (by simpa using hb) e) f0 f1 f3 f4 f5
   obtain ⟨o,e,ec,ed⟩:=id st'
   exact ⟨_,rfl,go_of (s:={ s with heap:=h',toks:=tk }) e ec ed (by rcases hty with rfl | rfl <;> decide) ⟨signV c,H,I1,⟨u,rfl⟩,⟨rfl,c,hc',rfl⟩,st',fun b hb=>(hf b hb).1⟩⟩
  rcases hty with rfl | rfl
  ·exact (Walks.strAscii (prog:=X.prog) (w:=X.w) (I.ok.hd hc) it x t).item i s _ _ hg st key
  ·exact (Walks.strWide (prog:=X.prog) (w:=X.w) (I.ok.hd hc) it x t).item i s _ _ hg st key
 done:=by
  intro X hP hw hK hc i pins s σ H E I hf st hg
  subst hP hw hK
  obtain ⟨f0,f1,f2,f3,f4,f5⟩:=hf it (by simp)
  have hx:x.cps[i]? = none:=Array.getElem?_eq_none hg
  rcases hty with rfl | rfl
  ·exact wpAny_pyNext_ascii_end (I.ok.hd hc) st hx fun h' eb=>⟨rfl,I.turned (t':=s.toks) (fun b o hb e=>eb b o hb e) f0 f1 f3 f4 f5⟩
  ·exact wpAny_pyNext_wide_end (I.ok.hd hc) st hx fun h' eb=>⟨rfl,I.turned (t':=s.toks) (fun b o hb e=>eb b o hb e) f0 f1 f3 f4 f5⟩
 self:=fun _ _ _ _ _ st h=>by
  rcases hty with rfl | rfl
  ·exact wpAny_pyIter_striter_ascii st h
  ·exact wpAny_pyIter_striter_wide st h
section
variable {X:Cx} {tg:Expr}
def iStr (tl:TE):TI:=fun σ H R=>tl σ H fun x H1=>∃ z,x=.str z∧R (Its z) H1
theorem pi_str {l:Expr} {tl:TE} (hl:PE X l tl):PI X tg l (iStr tl):=by
 refine .mk ?_
 intro pins s σ H R I h
 refine thn (hl pins s σ H _ I h) fun v s1 ⟨x,H1,I1,r1,q1⟩=>?_
 obtain ⟨z,e,q⟩:=q1
 subst e
 obtain ⟨t,rfl⟩:=r1
 have fin:∀ ty:String,(ty = "str_ascii_iterator" ∨ ty = "str_iterator")→PIE X pins σ tg R (.ref s1.heap.objs.size) { s1 with heap:=s1.heap.push { cls:=.type ty,data:=.fields #[.str z t,.int 0 0] } }:=by
  intro ty hty
  refine ⟨s1.heap.objs.size,[s1.heap.objs.size],_,_,H1,rfl,I1.kept (t':=s1.toks) fun b o e=>Heap.get?_push_of_some _ e,turn_str s1.heap.objs.size z t ty hty,⟨_,Heap.get?_push_size _ rfl,rfl,rfl⟩,fun b hb=>?_,q⟩
  have e:b=s1.heap.objs.size:=by simpa using hb
  subst e
  exact I1.fpOk (Nat.le_refl _) (I1.hok.fresh (Nat.le_refl _))
 cases ha:z.cps.all (· < 128)
 ·exact wpAny_pyIter_wide ha (fin _ (.inr rfl))
 ·exact wpAny_pyIter_ascii ha (fin _ (.inl rfl))
end
section
variable {own:List Str} {cap:List (Nat×Str)} {σ:St} {H1:Hp} {D:Addr} {g:TG} {tc:TT} {te:TE} {QD:Hp→Prop}
end
section
variable {prog:Program} {w:World} {A:Around} {E:Value→Shared→Prop} {s:Shared}
theorem nextT_item {j u:Addr} {i:Nat} {vs:Array Value} {v:Value} {Q:Value→Shared→Prop} (hj:s.heap.IsTupleIter j u i) (hu:s.heap.IsTuple u vs) (hv:vs[i]? = some v)
  (q:∀ h',h'.IsTupleIter j u (i+1)→Heap.SameBut j s.heap h'→Q v { s with heap:=h' }):wpAny (model prog w) A (Builtin.SmallTypes.nextOf (.ref j)) Q E s:=by
 obtain ⟨ob,b1,b2,b3⟩:=id hj
 obtain ⟨ou,c1,_,nu,c3⟩:=hu
 unfold Builtin.SmallTypes.nextOf
 refine wpAny_bind (wpAny_callSpecial?_slot (name:=Str.ofString "__next__") hj.typeIs F.slot_tuple_iterator_next (wpAny_call_entry F.slot_tuple_iterator_next hj.typeIs F.entry_tuple_iterator_next ?_ (F.args_tuple_iterator_next_1 _)))
 show wpAny _ _ (field (.ref j) 0 >>= _) _ _ s
 refine wpAny_bind (wpAny_field b1 b3 (x:=.ref u) rfl ?_)
 show wpAny _ _ (if (Value.ref u == Value.none)=true then _ else _) _ _ s
 rw [if_neg (show ¬ ((Value.ref u == Value.none)=true) from Bool.false_ne_true)]
 show wpAny _ _ (field (.ref j) 1 >>= _) _ _ s
 refine wpAny_bind (wpAny_field b1 b3 (x:=.int i 0) rfl ?_)
 show wpAny _ _ (seqItems? (.ref u) >>= _) _ _ s
 refine wpAny_bind (wpAny_seqItems c1 c3 ?_)
 simp only [Int.toNat_natCast,hv]
 refine wpAny_bind (wpAny_setField b1 b3 (by simp) (wpAny_pure ⟨v,rfl,wpAny_pure (q _ ?_ (Heap.SameBut.update ..))⟩))
 exact ⟨_,Heap.get?_update_self _ b1 (Obj.isFreed_of_fields (Obj.data_mapFields b3 _)),(Obj.cls_mapFields ..).trans b2,by rw [Obj.data_mapFields b3]; simp [rawInt]⟩
theorem nextT_end {j u:Addr} {i:Nat} {vs:Array Value} {Q:Value→Shared→Prop} (hh:A.handled=none) (hj:s.heap.IsTupleIter j u i) (hu:s.heap.IsTuple u vs) (hv:vs[i]? = none)
  (q:∀ h' e,Heap.ExtBut j s.heap h'→(∃ o,h'.get? e=some o∧o.cls=.type "StopIteration")→E (.ref e) { s with heap:=h' }):wpAny (model prog w) A (Builtin.SmallTypes.nextOf (.ref j)) Q E s:=by
 obtain ⟨ob,b1,b2,b3⟩:=id hj
 obtain ⟨ou,c1,_,nu,c3⟩:=hu
 unfold Builtin.SmallTypes.nextOf
 refine wpAny_bind (wpAny_callSpecial?_slot (name:=Str.ofString "__next__") hj.typeIs F.slot_tuple_iterator_next (wpAny_call_entry F.slot_tuple_iterator_next hj.typeIs F.entry_tuple_iterator_next ?_ (F.args_tuple_iterator_next_1 _)))
 show wpAny _ _ (field (.ref j) 0 >>= _) _ _ s
 refine wpAny_bind (wpAny_field b1 b3 (x:=.ref u) rfl ?_)
 show wpAny _ _ (if (Value.ref u == Value.none)=true then _ else _) _ _ s
 rw [if_neg (show ¬ ((Value.ref u == Value.none)=true) from Bool.false_ne_true)]
 show wpAny _ _ (field (.ref j) 1 >>= _) _ _ s
 refine wpAny_bind (wpAny_field b1 b3 (x:=.int i 0) rfl ?_)
 show wpAny _ _ (seqItems? (.ref u) >>= _) _ _ s
 refine wpAny_bind (wpAny_seqItems c1 c3 ?_)
 simp only [Int.toNat_natCast,hv]
 refine wpAny_bind (wpAny_rule (wpAny_bind (wpAny_setField b1 b3 (by simp) ?_)))
 show wpAny _ _ (newExc (.type "StopIteration") [] >>= _) _ _ _
 refine wpAny_bind ?_
 simp only [newExc,newTuple]
 refine wpAny_bind (wpAny_newObj_type ?_ (by show 0≤sizeLine; exact Nat.zero_le _))
 refine wpAny_bind (m:=firstArgMember _ _) (wpAny_of_eq (a:=Value.none) (by first | rfl | (simp only [firstArgMember] <;> rfl)) ?_)
 refine wpAny_newObj_type ?_ (by size_fits)
 simp only [raiseNew]
 refine wpAny_bind (wpAny_handled ?_)
 first | rw [show A.in1.handled=none from hh] | rw [hh]
 refine wpAny_bind (wpAny_pure (wpAny_throw ?_))
 exact q _ _ (((Heap.SameBut.update ..).extBut.push _).push _) ⟨_,Heap.get?_push_size _ rfl,rfl⟩
structure Apart (z p r j1 j2 u1 u2:Addr):Prop where
 pz:p≠z
 rz:r≠z
 j1z:j1≠z
 j2z:j2≠z
 pr:p≠r
 pj1:p≠j1
 pj2:p≠j2
 rj1:r≠j1
 rj2:r≠j2
 j12:j1≠j2
 u1z:u1≠z
 u1r:u1≠r
 u1j1:u1≠j1
 u1j2:u1≠j2
 u2z:u2≠z
 u2r:u2≠r
 u2j1:u2≠j1
 u2j2:u2≠j2
theorem itAt {h h':Heap} {a t:Addr} {i:Nat} (x:h.IsTupleIter a t i) (e:∀ o,h.get? a=some o→h'.get? a=some o):h'.IsTupleIter a t i:=let ⟨o,ho,r⟩:=x; ⟨o,e o ho,r⟩
theorem zipT_item {z p r j1 j2 u1 u2:Addr} {i:Nat} {vs ws:Array Value} {x y a b:Value} {Q:Value→Shared→Prop} (D:Apart z p r j1 j2 u1 u2)
  (hz:IsZip s.heap z p r .none) (hp:IsPair s.heap p (.ref j1) (.ref j2)) (hr:IsPair s.heap r a b)
  (h1:s.heap.IsTupleIter j1 u1 i) (h2:s.heap.IsTupleIter j2 u2 i) (l1:s.heap.IsTuple u1 vs) (l2:s.heap.IsTuple u2 ws) (hx:vs[i]? = some x) (hy:ws[i]? = some y)
  (q:∀ h',IsZip h' z p r (rawInt s.heap.objs.size)→IsPair h' r x y→h'.IsTupleIter j1 u1 (i+1)→h'.IsTupleIter j2 u2 (i+1)→IsPair h' s.heap.objs.size x y→h'.objs.size=s.heap.objs.size+1 →
   (∀ c o,c≠z→c≠r→c≠j1→c≠j2→s.heap.get? c=some o→h'.get? c=some o)→Q (.ref s.heap.objs.size) { s with heap:=h' }) :
  wpAny (model prog w) A (Builtin.«zip.__next__» ⟨[.ref z],[]⟩) (fun fin s'=>∃ v,fin=.done (.ret v)∧Q v s') E s:=by
 show wpAny _ _ (field (.ref z) 2 >>= _) _ _ _
 refine wpAny_bind (wpAny_field hz rfl (x:=.bool false) rfl ?_)
 show wpAny _ _ (field (.ref z) 3 >>= _) _ _ _
 refine wpAny_bind (wpAny_field hz rfl (x:=.ref p) rfl ?_)
 refine wpAny_bind (wpAny_seqItems hp rfl ?_)
 show wpAny _ _ (Builtin.SmallTypes.ownedTupleIsFree (.ref z) >>= _) _ _ _
 refine wpAny_bind ?_
 unfold Builtin.SmallTypes.ownedTupleIsFree
 refine wpAny_bind (wpAny_field hz rfl (x:=.none) rfl (wpAny_pure ?_))
 simp only [if_true]
 refine wpAny_bind (wpAny_rule ?_)
 refine wpAny_bind (wpAny_field hz rfl (x:=.ref r) rfl ?_)
 refine wpAny_bind (wpAny_setField_rec hz (by simp) fun g1 z1 e1=>?_)
 replace z1:IsZip g1 z p r .ellipsis:=z1
 refine wpAny_bind ?_
 simp only [List.zipIdx_cons,List.zipIdx_nil,List.forIn_cons,List.forIn_nil]
 refine wpAny_bind (wpAny_bind (wpAny_onRaise ?_))
 show wpAny _ _ (Builtin.SmallTypes.nextOf (.ref j1) >>= _) _ _ _
 refine wpAny_bind (nextT_item (h1.extBut e1.extBut D.j1z) (l1.extBut e1.extBut D.u1z) hx fun g2 a2 e2=>wpAny_pure ?_)
 have r2:IsPair g2 r a b:=e2.extBut _ _ D.rj1 (e1.extBut _ _ D.rz hr)
 refine wpAny_bind (wpAny_seqItems r2 rfl ?_)
 refine wpAny_bind (wpAny_updateSeq_pair r2 fun g3 r3 e3=>?_)
 replace r3:IsPair g3 r x b:=r3
 refine wpAny_bind (wpAny_letGo (wpAny_pure ?_))
 refine wpAny_bind (wpAny_bind (wpAny_onRaise ?_))
 show wpAny _ _ (Builtin.SmallTypes.nextOf (.ref j2) >>= _) _ _ _
 refine wpAny_bind (nextT_item (((h2.extBut e1.extBut D.j2z).extBut e2.extBut D.j12.symm).extBut e3.extBut D.rj2.symm) (((l2.extBut e1.extBut D.u2z).extBut e2.extBut D.u2j1).extBut e3.extBut D.u2r) hy fun g4 a4 e4=>wpAny_pure ?_)
 have r4:IsPair g4 r x b:=e4.extBut _ _ D.rj2 r3
 refine wpAny_bind (wpAny_seqItems r4 rfl ?_)
 refine wpAny_bind (wpAny_updateSeq_pair r4 fun g5 r5 e5=>?_)
 replace r5:IsPair g5 r x y:=r5
 refine wpAny_bind (wpAny_letGo (wpAny_pure (wpAny_pure ?_)))
 refine wpAny_bind (wpAny_seqItems r5 rfl ?_)
 refine wpAny_bind (wpAny_newTuple ?_)
 have sz:g5.objs.size=s.heap.objs.size:=by rw [e5.1,e4.1,e3.1,e2.1,e1.1]
 have z5:IsZip g5 z p r .ellipsis:=e5.extBut _ _ D.rz.symm (e4.extBut _ _ D.j2z.symm (e3.extBut _ _ D.rz.symm (e2.extBut _ _ D.j1z.symm z1)))
 have k5:∀ c o,c≠z→c≠r→c≠j1→c≠j2→s.heap.get? c=some o→g5.get? c=some o:=fun c o n1 n2 n3 n4 e=>
  e5.extBut _ _ n2 (e4.extBut _ _ n4 (e3.extBut _ _ n2 (e2.extBut _ _ n3 (e1.extBut _ _ n1 e))))
 have b1:g5.IsTupleIter j1 u1 (i+1):=((a2.extBut e3.extBut D.rj1.symm).extBut e4.extBut D.j12).extBut e5.extBut D.rj1.symm
 have b2:g5.IsTupleIter j2 u2 (i+1):=a4.extBut e5.extBut D.rj2.symm
 have zl:z < g5.objs.size:=Heap.lt_size z5
 show wpAny _ _ (Builtin.SmallTypes.ownedTupleHandOut (.ref z) (.ref g5.objs.size) >>= _) _ _ _
 refine wpAny_bind ?_
 unfold Builtin.SmallTypes.ownedTupleHandOut
 have z6:IsZip (g5.push { cls:=.type "tuple",data:=.seq #[x,y] }) z p r .ellipsis:=Heap.get?_push_of_some _ z5
 refine wpAny_bind (wpAny_setField_rec z6 (by simp) fun g7 z7 e7=>?_)
 replace z7:IsZip g7 z p r (rawInt g5.objs.size):=z7
 refine wpAny_setField_rec z7 (by simp) fun g8 z8 e8=>?_
 replace z8:IsZip g8 z p r (rawInt g5.objs.size):=z8
 have up:∀ c o,c≠z→g5.get? c=some o→g8.get? c=some o:=fun c o n1 e=>e8.extBut _ _ n1 (e7.extBut _ _ n1 (Heap.get?_push_of_some _ e))
 have t8:IsPair g8 g5.objs.size x y:=e8.extBut _ _ (Nat.ne_of_gt zl) (e7.extBut _ _ (Nat.ne_of_gt zl) (Heap.get?_push_size _ rfl))
 have s8:g8.objs.size=g5.objs.size+1:=by rw [e8.1,e7.1,Heap.size_push]
 rw [sz] at z8 t8 s8
 refine wpAny_pure ⟨_,rfl,?_⟩
 show Q (.ref g5.objs.size) _
 rw [sz]
 exact q g8 z8 (up _ _ D.rz r5) (itAt b1 fun o e=>up _ o D.j1z e) (itAt b2 fun o e=>up _ o D.j2z e) t8 s8 fun c o n1 n2 n3 n4 e=>up c o n1 (k5 c o n1 n2 n3 n4 e)
theorem zipT_end {z p r j1 j2 u1 u2:Addr} {i:Nat} {vs ws:Array Value} {a b:Value} {Q:Fin→Shared→Prop} (hh:A.handled=none) (D:Apart z p r j1 j2 u1 u2)
  (hz:IsZip s.heap z p r .none) (hp:IsPair s.heap p (.ref j1) (.ref j2)) (hr:IsPair s.heap r a b)
  (h1:s.heap.IsTupleIter j1 u1 i) (h2:s.heap.IsTupleIter j2 u2 i) (l1:s.heap.IsTuple u1 vs) (l2:s.heap.IsTuple u2 ws) (hend:vs[i]? = none∨ws[i]? = none)
  (q:∀ h' e,(∀ c o,c≠z→c≠r→c≠j1→c≠j2→s.heap.get? c=some o→h'.get? c=some o)→(∃ o,h'.get? e=some o∧o.cls=.type "StopIteration")→E (.ref e) { s with heap:=h' }) :
  wpAny (model prog w) A (Builtin.«zip.__next__» ⟨[.ref z],[]⟩) Q E s:=by
 show wpAny _ _ (field (.ref z) 2 >>= _) _ _ _
 refine wpAny_bind (wpAny_field hz rfl (x:=.bool false) rfl ?_)
 show wpAny _ _ (field (.ref z) 3 >>= _) _ _ _
 refine wpAny_bind (wpAny_field hz rfl (x:=.ref p) rfl ?_)
 refine wpAny_bind (wpAny_seqItems hp rfl ?_)
 show wpAny _ _ (Builtin.SmallTypes.ownedTupleIsFree (.ref z) >>= _) _ _ _
 refine wpAny_bind ?_
 unfold Builtin.SmallTypes.ownedTupleIsFree
 refine wpAny_bind (wpAny_field hz rfl (x:=.none) rfl (wpAny_pure ?_))
 simp only [if_true]
 refine wpAny_bind (wpAny_rule ?_)
 refine wpAny_bind (wpAny_field hz rfl (x:=.ref r) rfl ?_)
 refine wpAny_bind (wpAny_setField_rec hz (by simp) fun g1 z1 e1=>?_)
 replace z1:IsZip g1 z p r .ellipsis:=z1
 refine wpAny_bind ?_
 simp only [List.zipIdx_cons,List.zipIdx_nil,List.forIn_cons,List.forIn_nil]
 refine wpAny_bind (wpAny_bind (wpAny_onRaise ?_))
 show wpAny _ _ (Builtin.SmallTypes.nextOf (.ref j1) >>= _) _ _ _
 cases hx:vs[i]? with
 | none=>
  refine wpAny_bind (nextT_end hh (h1.extBut e1.extBut D.j1z) (l1.extBut e1.extBut D.u1z) hx fun g2 e e2 he=>?_)
  obtain ⟨oe,he1,he2⟩:=he
  have z2:IsZip g2 z p r .ellipsis:=e2 _ _ D.j1z.symm z1
  have nez:e≠z:=fun x=>by subst x; rw [z2] at he1; cases he1; simp at he2
  refine wpAny_setField_rec z2 (by simp) fun g3 _ e3=>q g3 e (fun c o n1 _ n3 _ x=>e3.extBut _ _ n1 (e2 _ _ n3 (e1.extBut _ _ n1 x))) ⟨oe,e3.extBut _ _ nez he1,he2⟩
 | some x=>
  have hy:ws[i]? = none:=by rcases hend with h | h; rw [hx] at h; cases h; exact h
  refine wpAny_bind (nextT_item (h1.extBut e1.extBut D.j1z) (l1.extBut e1.extBut D.u1z) hx fun g2 a2 e2=>wpAny_pure ?_)
  have r2:IsPair g2 r a b:=e2.extBut _ _ D.rj1 (e1.extBut _ _ D.rz hr)
  refine wpAny_bind (wpAny_seqItems r2 rfl ?_)
  refine wpAny_bind (wpAny_updateSeq_pair r2 fun g3 r3 e3=>?_)
  refine wpAny_bind (wpAny_letGo (wpAny_pure ?_))
  refine wpAny_bind (wpAny_bind (wpAny_onRaise ?_))
  show wpAny _ _ (Builtin.SmallTypes.nextOf (.ref j2) >>= _) _ _ _
  refine wpAny_bind (nextT_end hh (((h2.extBut e1.extBut D.j2z).extBut e2.extBut D.j12.symm).extBut e3.extBut D.rj2.symm) (((l2.extBut e1.extBut D.u2z).extBut e2.extBut D.u2j1).extBut e3.extBut D.u2r) hy fun g4 e e4 he=>?_)
  obtain ⟨oe,he1,he2⟩:=he
  have z4:IsZip g4 z p r .ellipsis:=e4 _ _ D.j2z.symm (e3.extBut _ _ D.rz.symm (e2.extBut _ _ D.j1z.symm z1))
  have nez:e≠z:=fun x=>by subst x; rw [z4] at he1; cases he1; simp at he2
  refine wpAny_setField_rec z4 (by simp) fun g5 _ e5=>q g5 e (fun c o n1 n2 n3 n4 x=>e5.extBut _ _ n1 (e4 _ _ n4 (e3.extBut _ _ n2 (e2.extBut _ _ n3 (e1.extBut _ _ n1 x))))) ⟨oe,e5.extBut _ _ nez he1,he2⟩
end
def Itz (K:PySem.W.Frag) (a b:Addr):It:=
  ⟨fun i H=>∃ xs ys x y,SqT K H a xs∧SqT K H b ys∧xs[i]? = some x∧ys[i]? = some y,
   fun i H v H'=>∃ p x y,H p=none∧v=.ref p∧H'=upd H p (.tup [x,y])∧(∀ xs,SqT K H a xs→xs[i]? = some x)∧(∀ ys,SqT K H b ys→ys[i]? = some y),
   fun i H=>∃ xs ys,SqT K H a xs∧SqT K H b ys∧(xs.length≤i∨ys.length≤i)⟩
theorem turn_zip {P:Program} {w:World} {K:PySem.W.Frag} {elts:List Expr} {kk:Nat} {pos:Pos} (a b z p r j1 j2:Addr) (D:Apart z p r j1 j2 a b) :
  Turn P w K (.Tuple elts kk pos) (Itz K a b) [z,p,r,j1,j2] z (fun i h=>IsZip h z p r .none∧IsPair h p (.ref j1) (.ref j2)∧(∃ u v,IsPair h r u v)∧h.IsTupleIter j1 a i∧h.IsTupleIter j2 b i) where
 mem:=by simp
 obj:=fun i h st c hc=>by
  obtain ⟨hz,hp,⟨u,v,hr⟩,⟨o1,e1,_,d1⟩,⟨o2,e2,_,d2⟩⟩:=st
  simp only [List.mem_cons,List.not_mem_nil,or_false] at hc
  rcases hc with rfl | rfl | rfl | rfl | rfl
  ·exact ⟨_,hz,fun v z=>by have z':Data.fields _=Data.cell v:=z; cases z'⟩
  ·exact ⟨_,hp,fun v z=>by have z':Data.seq _ _=Data.cell v:=z; cases z'⟩
  ·exact ⟨_,hr,fun v z=>by have z':Data.seq _ _=Data.cell v:=z; cases z'⟩
  ·exact ⟨o1,e1,fun v z=>by rw [d1] at z; cases z⟩
  ·exact ⟨o2,e2,fun v z=>by rw [d2] at z; cases z⟩
 keep:=fun i h h' st k=>by
  obtain ⟨hz,hp,⟨u,v,hr⟩,h1,h2⟩:=st
  exact ⟨k z (by simp) _ hz,k p (by simp) _ hp,⟨u,v,k r (by simp) _ hr⟩,itAt h1 fun o e=>k j1 (by simp) o e,itAt h2 fun o e=>k j2 (by simp) o e⟩
 item:=by
  intro X hP hw hK hc i pins s σ H E I hf st hg
  subst hP hw hK
  obtain ⟨hz,hp,⟨u,v,hr⟩,h1,h2⟩:=st
  obtain ⟨xs,ys,x,y,hxs,hys,hx,hy⟩:=hg
  obtain ⟨its,rv,pl,_⟩:=I.tuple hxs
  obtain ⟨its2,rv2,pl2,_⟩:=I.tuple hys
  obtain ⟨vx,ex,rx⟩:=rv.get hx
  obtain ⟨vy,ey,ry⟩:=rv2.get hy
  have hT:s.TypeIs (.ref z) "zip" := ⟨_,hz,rfl⟩
  have n0:H s.heap.objs.size=none:=I.hok.fresh (Nat.le_refl _)
  unfold pyNext
  refine wpAny_bind (wpAny_attempt (wpAny_callSpecial?_slot (name:=Str.ofString "__next__") hT F.slot_zip_next (wpAny_call_entry F.slot_zip_next hT F.entry_zip_next
   (zipT_item D hz hp hr h1 h2 pl pl2 (by simpa using ex) (by simpa using ey) fun g a1 a2 a3 a4 a5 a6 a7=>wpAny_pure ?_) (F.args_zip_next_1 _))))
  refine ⟨_,rfl,?_⟩
  refine wpAny_letOwnedTupleGo_zip a1 fun g2 b1 b2=>?_
  have zl:z < s.heap.objs.size:=Heap.lt_size hz
  have lt:∀ c∈[z,p,r,j1,j2],c < s.heap.objs.size:=fun c hc=>by
   simp only [List.mem_cons,List.not_mem_nil,or_false] at hc
   obtain ⟨_,q1,_⟩:=h1
   obtain ⟨_,q2,_⟩:=h2
   rcases hc with rfl | rfl | rfl | rfl | rfl
   ·exact zl
   ·exact Heap.lt_size hp
   ·exact Heap.lt_size hr
   ·exact Heap.lt_size q1
   ·exact Heap.lt_size q2
  refine ⟨.ref s.heap.objs.size,upd H s.heap.objs.size (.tup [x,y]),?_,rfl,⟨_,x,y,n0,rfl,rfl,fun zs hzs=>by rw [I.tuple_inj hzs hxs]; exact hx,fun zs hzs=>by rw [I.tuple_inj hzs hys]; exact hy⟩,⟨b1,?_,⟨vx,vy,?_⟩,?_,?_⟩,fun c hc=>?_⟩
  ·refine I.turnedNew (t':=s.toks) (ch:=[z,r,j1,j2]) (fun c o hc e=>?_) (fun c hc=>hf c ?_) (Nat.le_refl _) ⟨by show 2≤sizeLine; decide,[vx,vy],.cons rx (.cons ry .nil),?_⟩
   ·simp only [List.mem_cons,List.not_mem_nil,or_false,not_or] at hc
    exact b2.extBut _ _ hc.1 (a7 c o hc.1 hc.2.1 hc.2.2.1 hc.2.2.2 e)
   ·simp only [List.mem_cons,List.not_mem_nil,or_false] at hc ⊢
    rcases hc with rfl | rfl | rfl | rfl <;> simp
   ·exact ⟨_,b2.extBut _ _ (Nat.ne_of_gt zl) a5,rfl,0,rfl⟩
  ·exact b2.extBut _ _ D.pz (a7 _ _ D.pz D.pr D.pj1 D.pj2 hp)
  ·exact b2.extBut _ _ D.rz a2
  ·exact a3.extBut b2.extBut D.j1z
  ·exact a4.extBut b2.extBut D.j2z
  ·rw [upd_ne (Nat.ne_of_lt (lt c hc))]
   exact (hf c hc).1
 done:=by
  intro X hP hw hK hc i pins s σ H E I hf st hg
  subst hP hw hK
  obtain ⟨hz,hp,⟨u,v,hr⟩,h1,h2⟩:=st
  obtain ⟨xs,ys,hxs,hys,he⟩:=hg
  obtain ⟨its,rv,pl,_⟩:=I.tuple hxs
  obtain ⟨its2,rv2,pl2,_⟩:=I.tuple hys
  have l1:=rv.length
  have l2:=rv2.length
  have hend:its.toArray[i]? = none∨its2.toArray[i]? = none:=he.imp (fun e=>by simp; omega) (fun e=>by simp; omega)
  have hT:s.TypeIs (.ref z) "zip" := ⟨_,hz,rfl⟩
  unfold pyNext
  refine wpAny_bind (wpAny_attempt (wpAny_callSpecial?_slot (name:=Str.ofString "__next__") hT F.slot_zip_next (wpAny_call_entry F.slot_zip_next hT F.entry_zip_next
   (zipT_end (I.ok.hd hc) D hz hp hr h1 h2 pl pl2 hend fun g e kk he=>?_) (F.args_zip_next_1 _))))
  obtain ⟨o,ho,hcl⟩:=he
  refine wpAny_bind (wpAny_isInstance (T := "StopIteration") (b:=true) ⟨o,ho,hcl⟩ isSubtype_stop ?_)
  refine wpAny_pure ⟨rfl,I.turnedAll (t':=s.toks) (ch:=[z,r,j1,j2]) (fun c o hc e=>?_) (fun c hc=>hf c ?_)⟩
  ·simp only [List.mem_cons,List.not_mem_nil,or_false,not_or] at hc
   exact kk c o hc.1 hc.2.1 hc.2.2.1 hc.2.2.2 e
  ·simp only [List.mem_cons,List.not_mem_nil,or_false] at hc ⊢
   rcases hc with rfl | rfl | rfl | rfl <;> simp
 self:=fun _ _ _ _ _ st h=>wpAny_pyIter_zip st.1 h
abbrev zH1 (h:Heap) (a:Addr):Heap:=h.push { cls:=.type "tuple_iterator",data:=.fields #[.ref a,.int 0 0] }
abbrev zH2 (h:Heap) (a b:Addr):Heap:=(zH1 h a).push { cls:=.type "tuple_iterator",data:=.fields #[.ref b,.int 0 0] }
abbrev zH3 (h:Heap) (a b:Addr):Heap:=(zH2 h a b).push { cls:=.type "tuple",data:=.seq #[.ref h.objs.size,.ref (zH1 h a).objs.size] }
abbrev zH4 (h:Heap) (a b:Addr):Heap:=(zH3 h a b).push { cls:=.type "tuple",data:=.seq #[.none,.none] }
abbrev zH5 (h:Heap) (a b:Addr):Heap:=(zH4 h a b).push { cls:=.type "zip",data:=.fields #[.none,.bool false,.bool false,.ref (zH2 h a b).objs.size,.ref (zH3 h a b).objs.size] }
theorem zipT_new (a b:Addr) (vs ws:Array Value) :
  Meets (Builtin.«zip.__new__» ⟨[.type "zip",.ref a,.ref b],[]⟩) (fun _ R s=>s.heap.IsTuple a vs∧s.heap.IsTuple b ws∧R (.ok (.ret (.ref (zH4 s.heap a b).objs.size))) { s with heap:=zH5 s.heap a b }):=
 .of_wp fun prog w A R s h=>by
  obtain ⟨hp,g,d,tk,os⟩:=s; obtain ⟨la,lb,h⟩:=h
  have hsub:=sub_zip
  have L1:Heap.IsTuple (Shared.heap ⟨hp,g,d,tk,os⟩) a vs:=la
  have L2:Heap.IsTuple (Shared.heap ⟨hp.push { cls:=.type "tuple_iterator",data:=.fields #[.ref a,.int 0 0] },g,d,tk,os⟩) b ws:=Heap.IsTuple.push lb _
  wp_walk using wpAny_pyIter_tuple L1,wpAny_pyIter_tuple L2
  exact ⟨_,rfl,h⟩
theorem call_zipT {prog:Program} {w:World} {A:Around} {E:Value→Shared→Prop} {s:Shared} {a b:Addr} {vs ws:Array Value} {Q:Value→Shared→Prop} (la:s.heap.IsTuple a vs) (lb:s.heap.IsTuple b ws)
  (q:∀ h',IsZip h' (s.heap.objs.size+4) (s.heap.objs.size+2) (s.heap.objs.size+3) .none→IsPair h' (s.heap.objs.size+2) (.ref s.heap.objs.size) (.ref (s.heap.objs.size+1)) →
   IsPair h' (s.heap.objs.size+3) .none .none→h'.IsTupleIter s.heap.objs.size a 0→h'.IsTupleIter (s.heap.objs.size+1) b 0→(∀ c o,s.heap.get? c=some o→h'.get? c=some o)→Q (.ref (s.heap.objs.size+4)) { s with heap:=h' }) :
  wpAny (model prog w) A (call (.type "zip") [.ref a,.ref b]) Q E s:=by
 refine callType_new F.called_zip (by decide) (F.typeCall_zip_2 _ _) (F.newCall_zip_2 _ _) (fun obj=>F.args_object_init_3 obj _ _) F.entry_zip_new (zipT_new a b vs ws) ⟨la,lb,?_⟩
 have z1:(zH1 s.heap a).objs.size=s.heap.objs.size+1:=Heap.size_push ..
 have z2:(zH2 s.heap a b).objs.size=s.heap.objs.size+2:=by rw [Heap.size_push,z1]
 have z3:(zH3 s.heap a b).objs.size=s.heap.objs.size+3:=by rw [Heap.size_push,z2]
 have z4:(zH4 s.heap a b).objs.size=s.heap.objs.size+4:=by rw [Heap.size_push,z3]
 have g5:(zH5 s.heap a b).get? (zH4 s.heap a b).objs.size=some _:=Heap.get?_push_size _ rfl
 have g4:(zH5 s.heap a b).get? (zH3 s.heap a b).objs.size=some _:=Heap.get?_push_of_some _ (Heap.get?_push_size _ rfl)
 have g3:(zH5 s.heap a b).get? (zH2 s.heap a b).objs.size=some _:=Heap.get?_push_of_some _ (Heap.get?_push_of_some _ (Heap.get?_push_size _ rfl))
 have g2:(zH5 s.heap a b).get? (zH1 s.heap a).objs.size=some _:=Heap.get?_push_of_some _ (Heap.get?_push_of_some _ (Heap.get?_push_of_some _ (Heap.get?_push_size _ rfl)))
 have g1:(zH5 s.heap a b).get? s.heap.objs.size=some _:=Heap.get?_push_of_some _ (Heap.get?_push_of_some _ (Heap.get?_push_of_some _ (Heap.get?_push_of_some _ (Heap.get?_push_size _ rfl))))
 show _∧_
 rw [z2,z3,z4] at g5
 rw [z1,z2] at g3
 rw [z3] at g4
 rw [z1] at g2
 rw [z4]
 exact ⟨⟨_,g5,rfl⟩,q _ g5 g3 g4 ⟨_,g1,rfl,rfl⟩ ⟨_,g2,rfl,rfl⟩ fun c o x=>Heap.get?_push_of_some _ (Heap.get?_push_of_some _ (Heap.get?_push_of_some _ (Heap.get?_push_of_some _ (Heap.get?_push_of_some _ x))))⟩
theorem apart_new {n a b:Addr} (ha:a < n) (hb:b < n):Apart (n+4) (n+2) (n+3) n (n+1) a b:=by
 have ne:∀ i j:Nat,i≠j→(Nat.add n i:Addr)≠Nat.add n j:=fun i j h e=>h (Nat.add_left_cancel e)
 have lo:∀ (c:Addr) (i:Nat),c < n→c≠Nat.add n i:=fun c i h=>Nat.ne_of_lt (Nat.lt_of_lt_of_le h (Nat.le_add_right n i))
 exact ⟨ne 2 4 (by decide),ne 3 4 (by decide),ne 0 4 (by decide),ne 1 4 (by decide),ne 2 3 (by decide),ne 2 0 (by decide),ne 2 1 (by decide),ne 3 0 (by decide),ne 3 1 (by decide),ne 0 1 (by decide),
  lo a 4 ha,lo a 3 ha,lo a 0 ha,lo a 1 ha,lo b 4 hb,lo b 3 hb,lo b 0 hb,lo b 1 hb⟩
section
variable {X:Cx} {elts:List Expr} {kk:Nat} {tpos:Pos}
def iZip (K:PySem.W.Frag) (ta:TA):TI:=fun σ H R=>ta σ H fun vs H1=>∃ a b xs ys,vs=[.ref a,.ref b]∧SqT K H1 a xs∧SqT K H1 b ys∧R (Itz K a b) H1
theorem pi_zip {a b:Expr} {ta:TA} {p pos:Pos} (hg:Gl X "zip") (hm:X.mg "zip" = none) (ha:PA X [a,b] ta) (hs:starEach [a,b] X.env=[(false,eval a X.env),(false,eval b X.env)]:=by rfl) (hs2:starEach [b] X.env=[(false,eval b X.env)]:=by rfl) :
  PI X (.Tuple elts kk tpos) (.Call (.Name "zip" p) [a,b] [] pos) (iZip X.K ta):=by
 refine .mk ?_
 intro pins s σ H R I h
 refine Call_ (ld_blt I hg hm boot_zip (PyProof.Rows.callWith_type1 (thn (ha pos pins s σ H _ I h) fun us s1 ⟨vs,H1,I1,r1,q1⟩=>?_) (by rw [hs,hs2]) (by rw [hs2]; rfl)))
 obtain ⟨u1,u2,xs,ys,e,hx,hy,q⟩:=q1
 subst e
 cases r1 with
 | cons r rr=>
  cases rr with
  | cons r' rr=>
   cases rr
   cases r
   cases r'
   obtain ⟨its,rv,pl,_⟩:=I1.tuple hx
   obtain ⟨its2,rv2,pl2,_⟩:=I1.tuple hy
   obtain ⟨o1,e1,_⟩:=id pl
   obtain ⟨o2,e2,_⟩:=id pl2
   refine call_zipT pl pl2 fun h' hz hp hr j1 j2 k=>?_
   refine wpAny_pyIter_zip hz ?_
   refine ⟨s1.heap.objs.size+4,[s1.heap.objs.size+4,s1.heap.objs.size+2,s1.heap.objs.size+3,s1.heap.objs.size,s1.heap.objs.size+1],_,_,H1,rfl,I1.kept (t':=s1.toks) k,turn_zip u1 u2 _ _ _ _ _ (apart_new (Heap.lt_size e1) (Heap.lt_size e2)),⟨hz,hp,⟨_,_,hr⟩,j1,j2⟩,fun c hc=>?_,q⟩
   have hc':s1.heap.objs.size≤c:=by
    simp only [List.mem_cons,List.not_mem_nil,or_false] at hc
    rcases hc with rfl | rfl | rfl | rfl | rfl <;> first | exact Nat.le_refl _ | exact Nat.le_add_right _ _
   exact I1.fpOk hc' (I1.hok.fresh hc')
end
section
variable {own:List Str} {cap:List (Nat×Str)} {σ:St} {H1:Hp} {D:Addr} {g:TG} {tc:TT} {te:TE} {QD:Hp→Prop} {K:PySem.W.Frag} {a b:Addr} {xs ys:List V}
end
end L2
namespace L2
open PySem PySem.Spec PyProof.Rows PySem.W PySem.Calls PySem.Builtin PySem.Builtin.ObjectAttr PySem.Builtin.Getset_descriptor
def ExAt (x D:Addr):Heap→Prop:=fun h=>∃ o,h.get? x=some o∧o.cls=.ref D
section
variable {K:Frag} {x D:Addr}
theorem ExAt.type {M:Model} {h:Heap} (I:ExAt x D h):Looks M h (typeOf (.ref x)) (.ref D):=by
 obtain ⟨o,e,c⟩:=I
 exact c ▸ (Looks.ld e).andThen .now
variable {prog:Program} {w:World} {A:Around} {E:Value→Shared→Prop} {s:Shared}
end
end L2
namespace L2
open PySem PySem.Spec PyProof.Rows
section
variable {X:Cx} {pins:List (Addr×Obj)} {σ:St} {H:Hp} {s:Shared} {scope:Scope} {cl:List (Str×Addr)} {own:List Str} {cap:List (Nat×Str)} {fp:List Addr} {E:Value→Shared→Prop}
theorem comp_invX {o:HO} (c:CompOk X scope cl own cap) (I:Inv X pins σ H s) (hf:∀ b∈fp,FpOk X pins H b) (hlt:∀ b∈fp,b < s.heap.objs.size) {h₁:Heap} {tk:Nat} {m:Str→Option Value}
  (hk:∀ b o,s.heap.get? b=some o→h₁.get? b=some o) (hnew:ObjOk X.prog X.w (upd H s.heap.objs.size o) h₁ s.heap.objs.size o) (hn:h₁.Ns (s.heap.objs.size+1) m) :
  Inv (compCx X (own++cap.map (·.2)) scope cl (s.heap.objs.size+1) s H fp E) [] (compSt own cap σ) (upd H s.heap.objs.size o) { s with heap:=h₁,toks:=tk }:=by
 have hfr:H s.heap.objs.size=none:=I.fresh
 have hfr1:H (s.heap.objs.size+1)=none:=I.hok.fresh (Nat.le_succ _)
 refine ⟨comp_ok c I hf hlt (Nat.le_succ _),rfl,I.bare,Un.laid hk (Nat.le_refl _) hfr,⟨m,hn,fun i x v e1 e2 _=>?_⟩,fun x a e=>?_,?_,fun x a e=>?_,fun p hp=>absurd (show p∈([]:List (Addr×Obj)) from hp) (by simp),I.hok.laid hk (Nat.le_refl _) hnew,?_⟩
 ·obtain ⟨p,hp,ex,es⟩:=compSt_get e1 e2
  obtain ⟨q1,q2,q3,q4,q5⟩:=c.caps p hp
  rw [ex] at q1 q2 q3 q4 q5
  obtain ⟨m',hn',hl⟩:=I.loc
  obtain ⟨u,r,l⟩:=hl p.1 x v q1 es q2
  refine ⟨u,r,?_⟩
  rcases l with l | ⟨k,a,e,z⟩
  ·exact absurd l.1 q3
  ·obtain ⟨a',e'⟩:=c.hasX x q5
   have ea:=c.sub x a' e'
   rw [e] at ea
   cases ea
   exact .inr ⟨q5,a,e',z.keeps hk⟩
 ·obtain ⟨v,z⟩:=I.cell x a (c.sub x a e)
  exact ⟨v,z.keeps hk⟩
 ·show upd H s.heap.objs.size o (s.heap.objs.size+1)=none
  rw [upd_ne (Nat.succ_ne_self _)]
  exact hfr1
 ·obtain ⟨v,z⟩:=I.cell x a (c.sub x a e)
  show upd H s.heap.objs.size o a=none
  rw [upd_ne (Nat.ne_of_lt z.lt)]
  exact I.freeC x a (c.sub x a e)
 ·show (compSt own cap σ).length=(own++cap.map (·.2)).length
  simp [compSt]
end
def more (S:Str→Bool) (n:Nat) (k:Str):Nat:=if S k then n else n+1
section
variable {X:Cx} {scope:Scope} {cl:List (Str×Addr)} {own:List Str} {cap:List (Nat×Str)} {tg iter elt:Expr} {wi:TI} {g:TG} {te:TE} {pos:Pos}
end
section
variable {P:Program} {w:World} {K:PySem.W.Frag} {a:Addr} {xs:List V} {g:TG} {te:TE} {own:List Str} {cap:List (Nat×Str)} {σ:St} {H1:Hp} {QD:Hp→Prop} {D:Addr}
end
section
variable {X:Cx}
end
inductive ClsV:V→Value→Prop
 | own (a:Addr):ClsV (.ref a) (.ref a)
 | ty (T:String):ClsV (.ty T) (.type T)
inductive ClsVs:List V→List Value→Prop
 | nil:ClsVs [] []
 | cons {v:V} {c:Value} {vs:List V} {cs:List Value}:ClsV v c→ClsVs vs cs→ClsVs (v::vs) (c::cs)
theorem ClsV.rel {v:V} {c u:Value} (h:ClsV v c) (r:RelV v u):u=c:=by
 cases h with
 | own a=>exact r
 | ty T=>exact r
theorem ClsVs.rel:∀ {vs:List V} {cs us:List Value},ClsVs vs cs→Vals vs us→us=cs
 | _,_,_,.nil,.nil=>rfl
 | _,_,_,.cons h t,.cons r rs=>by rw [h.rel r,t.rel rs]
section
variable {X:Cx}
end
section
variable {X:Cx} {elts:List Expr} {kk:Nat} {tpos:Pos}
end
section
variable {prog:Program} {w:World} {A:Around} {E:Value→Shared→Prop} {s:Shared}
abbrev ZipAt (h:Heap) (z p r:Addr) (own flag:Value):Prop:=h.get? z=some { cls:=.type "zip",dict:=none,data:=.fields #[own,flag,.bool false,.ref p,.ref r],slots:=#[] }
theorem zipT_kept {z p r j1 j2 u1 u2 t:Addr} {i:Nat} {vs ws:Array Value} {x y:Value} {fl:Bool} {ot:Obj} {Q:Value→Shared→Prop} (D:Apart z p r j1 j2 u1 u2) (tz:t≠z)
  (hz:ZipAt s.heap z p r (rawInt t) (.bool fl)) (ht:s.heap.get? t=some ot) (hp:IsPair s.heap p (.ref j1) (.ref j2))
  (h1:s.heap.IsTupleIter j1 u1 i) (h2:s.heap.IsTupleIter j2 u2 i) (l1:s.heap.IsTuple u1 vs) (l2:s.heap.IsTuple u2 ws) (hx:vs[i]? = some x) (hy:ws[i]? = some y)
  (q:∀ h' T,s.heap.objs.size≤T→ZipAt h' z p r (rawInt t) (.bool true)→h'.IsTupleIter j1 u1 (i+1)→h'.IsTupleIter j2 u2 (i+1)→IsPair h' T x y →
   (∀ c o,c≠z→c≠j1→c≠j2→s.heap.get? c=some o→h'.get? c=some o)→Q (.ref T) { s with heap:=h' }) :
  wpAny (model prog w) A (Builtin.«zip.__next__» ⟨[.ref z],[]⟩) (fun fin s'=>∃ v,fin=.done (.ret v)∧Q v s') E s:=by
 show wpAny _ _ (field (.ref z) 2 >>= _) _ _ _
 refine wpAny_bind (wpAny_field hz rfl (x:=.bool false) rfl ?_)
 show wpAny _ _ (field (.ref z) 3 >>= _) _ _ _
 refine wpAny_bind (wpAny_field hz rfl (x:=.ref p) rfl ?_)
 refine wpAny_bind (wpAny_seqItems hp rfl ?_)
 show wpAny _ _ (Builtin.SmallTypes.ownedTupleIsFree (.ref z) >>= _) _ _ _
 have own:wpAny (model prog w) A (Builtin.SmallTypes.ownedTupleIsFree (.ref z)) (fun b s'=>b=false∧∃ g1,s'={ s with heap:=g1 }∧ZipAt g1 z p r (rawInt t) (.bool true)∧Heap.SameBut z s.heap g1) E s:=by
  unfold Builtin.SmallTypes.ownedTupleIsFree
  refine wpAny_bind (wpAny_field hz rfl (x:=rawInt t) rfl ?_)
  show wpAny _ _ (loadIfAlive ((t:Nat):Int).toNat >>= _) _ _ _
  rw [Int.toNat_natCast]
  refine wpAny_bind (PySem.W.kdx_alive ht ?_)
  dsimp only [Option.isNone]
  rw [if_neg Bool.false_ne_true]
  refine wpAny_bind (wpAny_field hz rfl (x:=.bool fl) rfl ?_)
  cases fl with
  | true=>exact wpAny_pure ⟨rfl,s.heap,rfl,hz,Heap.SameBut.refl _ _⟩
  | false=>
   rw [if_pos (by decide)]
   exact wpAny_bind (wpAny_setField_rec hz (by simp) fun g1 z1 e1=>wpAny_pure ⟨rfl,g1,rfl,z1,e1⟩)
 refine wpAny_bind (wpAny_mono own (fun b s' hb=>?_) fun _ _ e=>e)
 obtain ⟨rfl,g1,rfl,z1,e1⟩:=hb
 rw [if_neg Bool.false_ne_true]
 refine wpAny_bind ?_
 simp only [← Array.forIn_toList,List.forIn_cons,List.forIn_nil]
 refine wpAny_bind (wpAny_bind (wpAny_holding ?_))
 show wpAny _ _ (Builtin.SmallTypes.nextOf (.ref j1) >>= _) _ _ _
 refine wpAny_bind (nextT_item (h1.extBut e1.extBut D.j1z) (l1.extBut e1.extBut D.u1z) hx fun g2 a2 e2=>wpAny_pure ?_)
 refine wpAny_pure ?_
 dsimp only
 refine wpAny_bind (wpAny_bind (wpAny_holding ?_))
 show wpAny _ _ (Builtin.SmallTypes.nextOf (.ref j2) >>= _) _ _ _
 refine wpAny_bind (nextT_item ((h2.extBut e1.extBut D.j2z).extBut e2.extBut D.j12.symm) ((l2.extBut e1.extBut D.u2z).extBut e2.extBut D.u2j1) hy fun g3 a3 e3=>wpAny_pure ?_)
 refine wpAny_pure ?_
 dsimp only
 refine wpAny_pure ?_
 dsimp only
 have sz:g3.objs.size=s.heap.objs.size:=by rw [e3.1,e2.1,e1.1]
 refine wpAny_bind (wpAny_newTuple (hsz:=by show 2≤sizeLine; decide) ?_)
 refine wpAny_pure ⟨_,rfl,?_⟩
 have up:∀ c o,g3.get? c=some o→(g3.push { cls:=.type "tuple",data:=.seq #[x,y] }).get? c=some o:=fun c o e=>Heap.get?_push_of_some _ e
 refine q _ g3.objs.size (by rw [sz]; exact Nat.le_refl _) (up _ _ (e3.extBut _ _ D.j2z.symm (e2.extBut _ _ D.j1z.symm z1))) (itAt (a2.extBut e3.extBut D.j12) fun o e=>up _ o e) (itAt a3 fun o e=>up _ o e) (Heap.get?_push_size _ rfl) fun c o n1 n2 n3 e=>up _ o (e3.extBut _ _ n3 (e2.extBut _ _ n2 (e1.extBut _ _ n1 e)))
theorem zipT_kept_end {z p r j1 j2 u1 u2 t:Addr} {i:Nat} {vs:Array Value} {fl:Bool} {ot:Obj} {Q:Fin→Shared→Prop} (hh:A.handled=none) (D:Apart z p r j1 j2 u1 u2)
  (hz:ZipAt s.heap z p r (rawInt t) (.bool fl)) (ht:s.heap.get? t=some ot) (hp:IsPair s.heap p (.ref j1) (.ref j2))
  (h1:s.heap.IsTupleIter j1 u1 i) (l1:s.heap.IsTuple u1 vs) (hx:vs[i]? = none)
  (q:∀ h' e,(∀ c o,c≠z→c≠j1→c≠j2→s.heap.get? c=some o→h'.get? c=some o)→(∃ o,h'.get? e=some o∧o.cls=.type "StopIteration")→E (.ref e) { s with heap:=h' }) :
  wpAny (model prog w) A (Builtin.«zip.__next__» ⟨[.ref z],[]⟩) Q E s:=by
 show wpAny _ _ (field (.ref z) 2 >>= _) _ _ _
 refine wpAny_bind (wpAny_field hz rfl (x:=.bool false) rfl ?_)
 show wpAny _ _ (field (.ref z) 3 >>= _) _ _ _
 refine wpAny_bind (wpAny_field hz rfl (x:=.ref p) rfl ?_)
 refine wpAny_bind (wpAny_seqItems hp rfl ?_)
 show wpAny _ _ (Builtin.SmallTypes.ownedTupleIsFree (.ref z) >>= _) _ _ _
 have own:wpAny (model prog w) A (Builtin.SmallTypes.ownedTupleIsFree (.ref z)) (fun b s'=>b=false∧∃ g1,s'={ s with heap:=g1 }∧Heap.SameBut z s.heap g1) E s:=by
  unfold Builtin.SmallTypes.ownedTupleIsFree
  refine wpAny_bind (wpAny_field hz rfl (x:=rawInt t) rfl ?_)
  show wpAny _ _ (loadIfAlive ((t:Nat):Int).toNat >>= _) _ _ _
  rw [Int.toNat_natCast]
  refine wpAny_bind (PySem.W.kdx_alive ht ?_)
  dsimp only [Option.isNone]
  rw [if_neg Bool.false_ne_true]
  refine wpAny_bind (wpAny_field hz rfl (x:=.bool fl) rfl ?_)
  cases fl with
  | true=>exact wpAny_pure ⟨rfl,s.heap,rfl,Heap.SameBut.refl _ _⟩
  | false=>
   rw [if_pos (by decide)]
   exact wpAny_bind (wpAny_setField_rec hz (by simp) fun g1 z1 e1=>wpAny_pure ⟨rfl,g1,rfl,e1⟩)
 refine wpAny_bind (wpAny_mono own (fun b s' hb=>?_) fun _ _ e=>e)
 obtain ⟨rfl,g1,rfl,e1⟩:=hb
 rw [if_neg Bool.false_ne_true]
 refine wpAny_bind ?_
 simp only [← Array.forIn_toList,List.forIn_cons,List.forIn_nil]
 refine wpAny_bind (wpAny_bind (wpAny_holding ?_))
 show wpAny _ _ (Builtin.SmallTypes.nextOf (.ref j1) >>= _) _ _ _
 exact wpAny_bind (nextT_end hh (h1.extBut e1.extBut D.j1z) (l1.extBut e1.extBut D.u1z) hx fun g2 e e2 he=>q g2 e (fun c o n1 n2 n3 x=>e2 _ _ n2 (e1.extBut _ _ n1 x)) he)
end
section
variable {X:Cx} {pins:List (Addr×Obj)} {σ:St} {H:Hp} {s:Shared} {z p r j1 j2 u1 u2 t:Addr} {xs ys:List V}
theorem FpOk.upd {b T:Addr} {o:HO} (h:FpOk X pins H b) (n:b≠T):FpOk X pins (L2.upd H T o) b:=⟨by rw [upd_ne n]; exact h.1,h.2⟩
theorem next_kept {A:Around} {E:Value→Shared→Prop} {Q:Option Value→Shared→Prop} {i:Nat} {x y:V} {fl:Bool} {tv:List V} (I:Inv X pins σ H s) (D:Apart z p r j1 j2 u1 u2) (hf:∀ b∈[z,p,r,j1,j2],FpOk X pins H b)
  (hz:ZipAt s.heap z p r (rawInt t) (.bool fl)) (ht:H t=some (.tup tv)) (hp:IsPair s.heap p (.ref j1) (.ref j2)) (hr:∃ u v,IsPair s.heap r u v) (h1:s.heap.IsTupleIter j1 u1 i) (h2:s.heap.IsTupleIter j2 u2 i)
  (hxs:SqT X.K H u1 xs) (hys:SqT X.K H u2 ys) (hx:xs[i]? = some x) (hy:ys[i]? = some y)
  (q:∀ T h',H T=none→Inv X pins σ (upd H T (.tup [x,y])) { s with heap:=h' }→(∀ b∈[z,p,r,j1,j2],FpOk X pins (upd H T (.tup [x,y])) b)→ZipAt h' z p r (rawInt t) (.bool true)→IsPair h' p (.ref j1) (.ref j2)→(∃ u v,IsPair h' r u v) →
   h'.IsTupleIter j1 u1 (i+1)→h'.IsTupleIter j2 u2 (i+1)→Q (some (.ref T)) { s with heap:=h' }):wpAny (model X.prog X.w) A (pyNext (.ref z)) Q E s:=by
 obtain ⟨its,rv,pl,_⟩:=I.tuple hxs
 obtain ⟨its2,rv2,pl2,_⟩:=I.tuple hys
 obtain ⟨vx,ex,rx⟩:=rv.get hx
 obtain ⟨vy,ey,ry⟩:=rv2.get hy
 have hT:s.TypeIs (.ref z) "zip" := ⟨_,hz,rfl⟩
 have tz:t≠z:=fun e=>by rw [e,(hf z (by simp)).1] at ht; cases ht
 obtain ⟨_,itt,_,ot,ho,_⟩:=(show ObjOk X.prog X.w H s.heap t (.tup tv) from I.hok t _ ht)
 unfold pyNext
 refine wpAny_bind (wpAny_attempt (wpAny_callSpecial?_slot (name:=Str.ofString "__next__") hT F.slot_zip_next (wpAny_call_entry F.slot_zip_next hT F.entry_zip_next
  (zipT_kept D tz hz ho hp h1 h2 pl pl2 (by simpa using ex) (by simpa using ey) fun g T hT' a1 a3 a4 a5 a7=>wpAny_pure ?_) (F.args_zip_next_1 _))))
 have zl:z < s.heap.objs.size:=Heap.lt_size hz
 have lt:∀ c∈[z,p,r,j1,j2],c≠T:=fun c hc e=>by
  have h0:=(hf c hc)
  have:c < s.heap.objs.size:=by
   simp only [List.mem_cons,List.not_mem_nil,or_false] at hc
   obtain ⟨_,q1,_⟩:=h1
   obtain ⟨_,q2,_⟩:=h2
   rcases hc with rfl | rfl | rfl | rfl | rfl
   ·exact zl
   ·exact Heap.lt_size hp
   ·obtain ⟨_,_,q3⟩:=hr
    exact Heap.lt_size q3
   ·exact Heap.lt_size q1
   ·exact Heap.lt_size q2
  exact absurd (e ▸ this) (Nat.not_lt.mpr hT')
 obtain ⟨ru,rv',hr'⟩:=hr
 refine q T g (I.hok.fresh hT') (I.turnedNew (t':=s.toks) (ch:=[z,j1,j2]) (fun c o hc e=>?_) (fun c hc=>hf c ?_) hT' ⟨by show 2≤sizeLine; decide,[vx,vy],.cons rx (.cons ry .nil),⟨_,a5,rfl,0,rfl⟩⟩) (fun b hb=>(hf b hb).upd (lt b hb)) a1 (a7 _ _ D.pz D.pj1 D.pj2 hp) ⟨ru,rv',a7 _ _ D.rz D.rj1 D.rj2 hr'⟩ a3 a4
 ·simp only [List.mem_cons,List.not_mem_nil,or_false,not_or] at hc
  exact a7 c o hc.1 hc.2.1 hc.2.2 e
 ·simp only [List.mem_cons,List.not_mem_nil,or_false] at hc ⊢
  rcases hc with rfl | rfl | rfl <;> simp
def Prs (H:Hp) (xs ys:List V) (ts:List Addr):Prop:=∀ (j:Nat) (t:Addr),ts[j]? = some t→∃ x y,xs[j]? = some x∧ys[j]? = some y∧H t=some (.tup [x,y])
theorem Prs.keep {H':Hp} {ts:List Addr} (h:Prs H xs ys ts) (k:∀ b v,H b=some (.tup v)→H' b=some (.tup v)):Prs H' xs ys ts:=fun j t e=>by
 obtain ⟨x,y,a,b,c⟩:=h j t e
 exact ⟨x,y,a,b,k _ _ c⟩
theorem Prs.snoc {T:Addr} {x y:V} {ts:List Addr} (h:Prs H xs ys ts) (hx:xs[ts.length]? = some x) (hy:ys[ts.length]? = some y) (hT:H T=some (.tup [x,y])):Prs H xs ys (ts++[T]):=fun j t e=>by
 by_cases hj:j < ts.length
 ·rw [List.getElem?_append_left hj] at e; exact h j t e
 ·rw [List.getElem?_append_right (by omega)] at e
  have:j-ts.length=0:=by
   by_cases h0:j-ts.length=0
   ·exact h0
   ·rw [List.getElem?_eq_none (by simp; omega)] at e; cases e
  have ej:j=ts.length:=by omega
  subst ej
  simp at e
  subst e
  exact ⟨x,y,hx,hy,hT⟩
theorem SqT.step {K:PySem.W.Frag} {H':Hp} {S a:Addr} {ls vs:List V} (k:∀ b o,b≠S→H b=some o→H' b=some o) (hS:H S=some (.lst ls)) (h:SqT K H a vs):SqT K H' a vs:=by
 rcases h with (h | ⟨o,h⟩) | h
 ·exact .inl (.inl (k a _ (ne_of h hS (by intro z; cases z)) h))
 ·exact .inl (.inr ⟨o,k a _ (ne_of h hS (by intro z; cases z)) h⟩)
 ·exact .inr h
theorem ext_loopZ {A:Around} {R:Result→Shared→Prop} {res:Value} {S:Addr} (hh:A.handled=none) (D:Apart z p r j1 j2 u1 u2) (hlen:xs.length=ys.length) (hn:xs.length≤sizeLine) :
  ∀ (k i:Nat) (s:Shared) (H:Hp) (t:Addr) (fl:Bool) (tv:List V) (ts:List Addr),xs.length-i=k→i≤xs.length→Inv X pins σ H s→(∀ b∈[z,p,r,j1,j2],FpOk X pins H b) →
   ZipAt s.heap z p r (rawInt t) (.bool fl)→H t=some (.tup tv)→IsPair s.heap p (.ref j1) (.ref j2)→(∃ u v,IsPair s.heap r u v)→s.heap.IsTupleIter j1 u1 i→s.heap.IsTupleIter j2 u2 i→SqT X.K H u1 xs→SqT X.K H u2 ys →
   H S=some (.lst (ts.map V.ref))→ts.length=i→Prs H xs ys ts →
   (∀ s' H' ts',Inv X pins σ H' s'→(∀ b o,b≠S→H b=some o→H' b=some o)→H' S=some (.lst (ts'.map V.ref))→ts'.length=xs.length→Prs H' xs ys ts'→R (.ok (.ret res)) s') →
   codeAny (model X.prog X.w) A (.builtin "list.extend.loop" ⟨[.ref S,.ref z,res],[]⟩) R s:=by
 intro k
 induction k with
 | zero=>
  intro i s H t fl tv ts hk hi I hf hz ht hp hr h1 h2 hxs hys hS hl hP hR
  have ei:i=xs.length:=by omega
  subst ei
  refine codeAny_builtin F.entry_extend_loop ?_
  rw [Around.under_plainId F.plain_extend_loop _]
  show wpAny _ A.in1 (pyNext (.ref z) >>= _) _ _ s
  obtain ⟨its,rv,pl,_⟩:=I.tuple hxs
  have l1:=rv.length
  have hT:s.TypeIs (.ref z) "zip" := ⟨_,hz,rfl⟩
  obtain ⟨_,itt,_,ot,ho,_⟩:=(show ObjOk X.prog X.w H s.heap t (.tup tv) from I.hok t _ ht)
  refine wpAny_bind ?_
  unfold pyNext
  refine wpAny_bind (wpAny_attempt (wpAny_callSpecial?_slot (name:=Str.ofString "__next__") hT F.slot_zip_next (wpAny_call_entry F.slot_zip_next hT F.entry_zip_next
   (zipT_kept_end hh D hz ho hp h1 pl (by simp; omega) fun g e kk he=>?_) (F.args_zip_next_1 _))))
  obtain ⟨o,ho',hcl⟩:=he
  refine wpAny_bind (wpAny_isInstance (T := "StopIteration") (b:=true) ⟨o,ho',hcl⟩ isSubtype_stop ?_)
  refine wpAny_pure (wpAny_pure (hR _ H ts (I.turnedAll (t':=s.toks) (ch:=[z,j1,j2]) (fun c o hc e=>?_) (fun c hc=>hf c ?_)) (fun _ _ _ h=>h) hS hl hP))
  ·simp only [List.mem_cons,List.not_mem_nil,or_false,not_or] at hc
   exact kk c o hc.1 hc.2.1 hc.2.2 e
  ·simp only [List.mem_cons,List.not_mem_nil,or_false] at hc ⊢
   rcases hc with rfl | rfl | rfl <;> simp
 | succ k ih=>
  intro i s H t fl tv ts hk hi I hf hz ht hp hr h1 h2 hxs hys hS hl hP hR
  have hlt:i < xs.length:=by omega
  have hlt2:i < ys.length:=by omega
  refine codeAny_builtin F.entry_extend_loop ?_
  rw [Around.under_plainId F.plain_extend_loop _]
  show wpAny _ A.in1 (pyNext (.ref z) >>= _) _ _ s
  have hx:xs[i]? = some xs[i]:=List.getElem?_eq_getElem hlt
  have hy:ys[i]? = some ys[i]:=List.getElem?_eq_getElem hlt2
  refine wpAny_bind (next_kept I D hf hz ht hp hr h1 h2 hxs hys hx hy fun T g hTn I1 hf1 z1 p1 r1 a1 a2=>?_)
  have hS1:(upd H T (.tup [xs[i],ys[i]])) S=some (.lst (ts.map V.ref)):=by rw [upd_ne (ne_of_none hS hTn)]; exact hS
  obtain ⟨zz,its,n,rv,hl',e⟩:=I1.lstM hS1
  have ST:S≠T:=ne_of_none hS hTn
  show wpAny _ A.in1 (updateSeq S (·.push (.ref T)) >>= _) _ _ _
  refine wpAny_bind ?_
  have I2:=I1.lset (its':=its++[.ref T]) (ys:=ts.map V.ref++[.ref T]) (f:=(·.push (Value.ref T))) (t':=s.toks) hS1 e (by simp) (rv.append (.cons (show RelV (.ref T) (.ref T) from rfl) .nil)) (by rw [List.length_append,List.length_map,List.length_singleton]; omega)
  have st:∀ b o,b≠S→H b=some o→(upd (upd H T (.tup [xs[i],ys[i]])) S (.lst (ts.map V.ref++[.ref T]))) b=some o:=fun b o hb h=>by rw [upd_ne hb,upd_ne (ne_of_none h hTn)]; exact h
  have sp:∀ b∈[z,p,r,j1,j2],b≠S:=fun b hb e=>by have:=(hf b hb).1; rw [e,hS] at this; cases this
  have kp:∀ b o,b≠S→g.get? b=some o→(g.update S (Obj.mapSeq (·.push (Value.ref T)))).get? b=some o:=fun b o hb e=>(Heap.get?_update_other _ _ (Ne.symm hb)).trans e
  refine wpAny_updateSeq e rfl (wpAny_pure ⟨plainId_quiet F.plain_extend_loop _,ih (i+1) _ _ t true tv (ts++[T]) (by omega) hlt I2 (fun b hb=>(hf1 b hb).upd (sp b hb)) (kp _ _ (sp z (by simp)) z1) ?_ (kp _ _ (sp p (by simp)) p1) ?_ (itAt a1 fun o e=>kp _ o (sp j1 (by simp)) e) (itAt a2 fun o e=>kp _ o (sp j2 (by simp)) e) ?_ ?_ ?_ ?_ ?_ ?_⟩) (by simp; rw [← hl',List.length_map]; omega) (by simp; rw [← hl',List.length_map]; omega)
  ·exact st t _ (ne_of ht hS (by intro z; cases z)) ht
  ·obtain ⟨u,v,q⟩:=r1
   exact ⟨u,v,kp _ _ (sp r (by simp)) q⟩
  ·exact hxs.step st hS
  ·exact hys.step st hS
  ·rw [upd_same,List.map_append]; rfl
  ·rw [List.length_append,hl]; rfl
  ·exact (hP.keep fun b v h=>st b _ (ne_of h hS (by intro z; cases z)) h).snoc (by rw [hl]; exact hx) (by rw [hl]; exact hy) (by rw [upd_ne ST.symm]; exact upd_same)
  ·intro s' H' ts' I' k' hS' hl'' hP'
   exact hR s' H' ts' I' (fun b o hb h=>k' b o hb (st b o hb h)) hS' hl'' hP'
end
theorem zip_no_len:typeLookup (.type "zip") "__len__" = pure none:=by rw [typeLookup_type,builtinLookup_eq_fast]; kernel_rfl
theorem zip_no_hint:typeLookup (.type "zip") "__length_hint__" = pure none:=by rw [typeLookup_type,builtinLookup_eq_fast]; kernel_rfl
section
variable {X:Cx} {pins:List (Addr×Obj)} {σ:St} {H:Hp} {s:Shared} {z p r j1 j2 u1 u2:Addr} {xs ys:List V}
theorem ext_loopZ0 {A:Around} {R:Result→Shared→Prop} {res:Value} {S:Addr} (hh:A.handled=none) (D:Apart z p r j1 j2 u1 u2) (hlen:xs.length=ys.length) (hn:xs.length≤sizeLine)
  (I:Inv X pins σ H s) (hf:∀ b∈[z,p,r,j1,j2],FpOk X pins H b) (hz:IsZip s.heap z p r .none) (hp:IsPair s.heap p (.ref j1) (.ref j2)) (hr:∃ u v,IsPair s.heap r u v) (h1:s.heap.IsTupleIter j1 u1 0) (h2:s.heap.IsTupleIter j2 u2 0)
  (hxs:SqT X.K H u1 xs) (hys:SqT X.K H u2 ys) (hS:H S=some (.lst []))
  (hR:∀ s' H' ts',Inv X pins σ H' s'→(∀ b o,b≠S→H b=some o→H' b=some o)→H' S=some (.lst (ts'.map V.ref))→ts'.length=xs.length→Prs H' xs ys ts'→R (.ok (.ret res)) s') :
  codeAny (model X.prog X.w) A (.builtin "list.extend.loop" ⟨[.ref S,.ref z,res],[]⟩) R s:=by
 obtain ⟨ra,rb,hr⟩:=hr
 obtain ⟨its,rv,pl,_⟩:=I.tuple hxs
 obtain ⟨its2,rv2,pl2,_⟩:=I.tuple hys
 have l1:=rv.length
 have l2:=rv2.length
 have hT:s.TypeIs (.ref z) "zip" := ⟨_,hz,rfl⟩
 refine codeAny_builtin F.entry_extend_loop ?_
 rw [Around.under_plainId F.plain_extend_loop _]
 show wpAny _ A.in1 (pyNext (.ref z) >>= _) _ _ s
 refine wpAny_bind ?_
 unfold pyNext
 by_cases h0:0 < xs.length
 ·have hx:xs[0]? = some xs[0]:=List.getElem?_eq_getElem h0
  have hy:ys[0]? = some ys[0]:=List.getElem?_eq_getElem (by omega)
  obtain ⟨vx,ex,rx⟩:=rv.get hx
  obtain ⟨vy,ey,ry⟩:=rv2.get hy
  refine wpAny_bind (wpAny_attempt (wpAny_callSpecial?_slot (name:=Str.ofString "__next__") hT F.slot_zip_next (wpAny_call_entry F.slot_zip_next hT F.entry_zip_next
   (zipT_item D hz hp hr h1 h2 pl pl2 (by simpa using ex) (by simpa using ey) fun g a1 a2 a3 a4 a5 a6 a7=>wpAny_pure ?_) (F.args_zip_next_1 _))))
  have lt:∀ c∈[z,p,r,j1,j2],c≠s.heap.objs.size:=fun c hc e=>by
   have:c < s.heap.objs.size:=by
    simp only [List.mem_cons,List.not_mem_nil,or_false] at hc
    obtain ⟨_,q1,_⟩:=h1
    obtain ⟨_,q2,_⟩:=h2
    rcases hc with rfl | rfl | rfl | rfl | rfl
    ·exact Heap.lt_size hz
    ·exact Heap.lt_size hp
    ·exact Heap.lt_size hr
    ·exact Heap.lt_size q1
    ·exact Heap.lt_size q2
   exact absurd this (by rw [e]; exact Nat.lt_irrefl _)
  have hTn:H s.heap.objs.size=none:=I.fresh
  generalize hT0:s.heap.objs.size=T at a1 a5 a6 hTn lt
  have I1:Inv X pins σ (upd H T (.tup [xs[0],ys[0]])) { s with heap:=g }:=by
   refine I.turnedNew (t':=s.toks) (ch:=[z,r,j1,j2]) (fun c o hc e=>?_) (fun c hc=>hf c ?_) (by rw [hT0]; exact Nat.le_refl _) ⟨by show 2≤sizeLine; decide,[vx,vy],.cons rx (.cons ry .nil),⟨_,a5,rfl,0,rfl⟩⟩
   ·simp only [List.mem_cons,List.not_mem_nil,or_false,not_or] at hc
    exact a7 c o hc.1 hc.2.1 hc.2.2.1 hc.2.2.2 e
   ·simp only [List.mem_cons,List.not_mem_nil,or_false] at hc ⊢
    rcases hc with rfl | rfl | rfl | rfl <;> simp
  have hS1:(upd H T (.tup [xs[0],ys[0]])) S=some (.lst []):=by rw [upd_ne (ne_of_none hS hTn)]; exact hS
  obtain ⟨zz,its',n,rv',hl',e⟩:=I1.lstM hS1
  have ST:S≠T:=ne_of_none hS hTn
  show wpAny _ A.in1 (updateSeq S (·.push (.ref T)) >>= _) _ _ _
  refine wpAny_bind ?_
  have I2:=I1.lset (its':=its'++[.ref T]) (ys:=[]++[.ref T]) (f:=(·.push (Value.ref T))) (t':=s.toks) hS1 e (by simp) (rv'.append (.cons (show RelV (.ref T) (.ref T) from rfl) .nil)) (by show 1≤sizeLine; decide)
  have st:∀ b o,b≠S→H b=some o→(upd (upd H T (.tup [xs[0],ys[0]])) S (.lst ([]++[.ref T]))) b=some o:=fun b o hb h=>by rw [upd_ne hb,upd_ne (ne_of_none h hTn)]; exact h
  have sp:∀ b∈[z,p,r,j1,j2],b≠S:=fun b hb e=>by have:=(hf b hb).1; rw [e,hS] at this; cases this
  have kp:∀ b o,b≠S→g.get? b=some o→(g.update S (Obj.mapSeq (·.push (Value.ref T)))).get? b=some o:=fun b o hb e=>(Heap.get?_update_other _ _ (Ne.symm hb)).trans e
  have li:its'.length=0:=by rw [← hl']; rfl
  refine wpAny_updateSeq e rfl (wpAny_pure ⟨plainId_quiet F.plain_extend_loop _,ext_loopZ (S:=S) hh D hlen hn _ 1 _ _ T false [xs[0],ys[0]] [T] rfl h0 I2 (fun b hb=>((hf b hb).upd (lt b hb)).upd (sp b hb)) (kp _ _ (sp z (by simp)) a1) ?_ (kp _ _ (sp p (by simp)) (a7 _ _ D.pz D.pr D.pj1 D.pj2 hp)) ⟨vx,vy,kp _ _ (sp r (by simp)) a2⟩ (itAt a3 fun o e=>kp _ o (sp j1 (by simp)) e) (itAt a4 fun o e=>kp _ o (sp j2 (by simp)) e) (hxs.step st hS) (hys.step st hS) upd_same rfl ?_ ?_⟩) (by simp; omega) (by simp; omega)
  ·rw [upd_ne ST.symm]; exact upd_same
  ·have:Prs (upd (upd H T (.tup [xs[0],ys[0]])) S (.lst ([]++[.ref T]))) xs ys ([]++[T]):=Prs.snoc (fun j t e=>by simp at e) hx hy (by rw [upd_ne ST.symm]; exact upd_same)
   exact this
  ·intro s' H' ts' I' k' hS' hl'' hP'
   exact hR s' H' ts' I' (fun b o hb h=>k' b o hb (st b o hb h)) hS' hl'' hP'
 ·have e0:xs.length=0:=by omega
  refine wpAny_bind (wpAny_attempt (wpAny_callSpecial?_slot (name:=Str.ofString "__next__") hT F.slot_zip_next (wpAny_call_entry F.slot_zip_next hT F.entry_zip_next
   (zipT_end hh D hz hp hr h1 h2 pl pl2 (.inl (by rw [List.getElem?_toArray]; exact List.getElem?_eq_none (by omega))) fun g e kk he=>?_) (F.args_zip_next_1 _))))
  obtain ⟨o,ho',hcl⟩:=he
  refine wpAny_bind (wpAny_isInstance (T := "StopIteration") (b:=true) ⟨o,ho',hcl⟩ isSubtype_stop ?_)
  refine wpAny_pure (wpAny_pure (hR _ H [] (I.turnedAll (t':=s.toks) (ch:=[z,r,j1,j2]) (fun c o hc e=>?_) (fun c hc=>hf c ?_)) (fun _ _ _ h=>h) hS e0.symm (fun j t e=>by simp at e)))
  ·simp only [List.mem_cons,List.not_mem_nil,or_false,not_or] at hc
   exact kk c o hc.1 hc.2.1 hc.2.2.1 hc.2.2.2 e
  ·simp only [List.mem_cons,List.not_mem_nil,or_false] at hc ⊢
   rcases hc with rfl | rfl | rfl | rfl <;> simp
theorem call_list_zip {Q:Value→Shared→Prop} {E:Value→Shared→Prop} (hh:X.A.handled=none) (D:Apart z p r j1 j2 u1 u2) (hlen:xs.length=ys.length)
  (I:Inv X pins σ H s) (hf:∀ b∈[z,p,r,j1,j2],FpOk X pins H b) (hz:IsZip s.heap z p r .none) (hp:IsPair s.heap p (.ref j1) (.ref j2)) (hr:∃ u v,IsPair s.heap r u v) (h1:s.heap.IsTupleIter j1 u1 0) (h2:s.heap.IsTupleIter j2 u2 0)
  (hxs:SqT X.K H u1 xs) (hys:SqT X.K H u2 ys)
  (hQ:∀ L s' H' ts',H L=none→Inv X pins σ H' s'→(∀ b o,H b=some o→H' b=some o)→H' L=some (.lst (ts'.map V.ref))→ts'.length=xs.length→Prs H' xs ys ts'→Q (.ref L) s') :
  wpAny (model X.prog X.w) X.A (call (.type "list") [.ref z]) Q E s:=by
 obtain ⟨its,rv,pl,hn⟩:=I.tuple hxs
 refine callType_codes (Q₁:=fun obj s₁=>obj=.ref s.heap.objs.size∧s₁={ s with heap:=s.heap.push { cls:=.type "list",data:=.seq #[] } }) F.called_list (F.typeCall_list_1 _) F.entry_list_init
  (code_list_new _ ⟨rfl,rfl⟩) fun obj s₁ h₁=>?_
 obtain ⟨rfl,rfl⟩:=h₁
 have hS:(s.heap.push { cls:=.type "list",data:=.seq #[] }).get? s.heap.objs.size=some { cls:=.type "list",data:=.seq #[] }:=Heap.get?_push_size _ rfl
 have I1:=I.lnew (ys:=[]) (its:=[]) (t':=s.toks) .nil (Nat.zero_le _)
 have hSn:H s.heap.objs.size=none:=I.fresh
 have lt:∀ c∈[z,p,r,j1,j2],c < s.heap.objs.size:=fun c hc=>by
  simp only [List.mem_cons,List.not_mem_nil,or_false] at hc
  obtain ⟨_,q1,_⟩:=h1
  obtain ⟨_,q2,_⟩:=h2
  obtain ⟨_,_,q3⟩:=hr
  rcases hc with rfl | rfl | rfl | rfl | rfl
  ·exact Heap.lt_size hz
  ·exact Heap.lt_size hp
  ·exact Heap.lt_size q3
  ·exact Heap.lt_size q1
  ·exact Heap.lt_size q2
 generalize hSS:s.heap.objs.size=S at hS I1 hSn lt ⊢
 have k0:∀ b o,s.heap.get? b=some o→(s.heap.push { cls:=.type "list",data:=.seq #[] }).get? b=some o:=fun b o e=>Heap.get?_push_of_some _ e
 refine ⟨⟨_,hS,rfl⟩,F.args_list_init_2 _ _,?_⟩
 show wpAny _ X.A.in1.in1 (do let old ← Builtin.List.listItems (.ref S); Builtin.List.listUpdate (.ref S) (fun _=>#[]); letGo old.toList.reverse; Builtin.List.listExtendWith (.ref S) (.ref z) .none) _ _ _
 refine wpAny_bind ?_
 unfold Builtin.List.listItems
 refine wpAny_bind (wpAny_seqItems hS rfl (wpAny_pure ?_))
 show wpAny _ X.A.in1.in1 (updateSeq S (fun _=>#[]) >>= fun _=>letGo (#[]:Array Value).toList.reverse >>= fun _=>Builtin.List.listExtendWith (.ref S) (.ref z) .none) _ _ _
 refine wpAny_bind (wpAny_updateSeq hS rfl ?_)
 have I2:=I1.lset (ys:=[]) (its':=[]) (f:=fun _=>(#[]:Array Value)) (t':=s.toks) upd_same hS rfl .nil (Nat.zero_le _)
 have hS₂:=Heap.get?_update_self (Obj.mapSeq (fun _=>(#[]:Array Value))) hS rfl
 refine wpAny_bind (wpAny_letGo ?_)
 unfold Builtin.List.listExtendWith
 have sp:∀ b∈[z,p,r,j1,j2],b≠S:=fun b hb=>Nat.ne_of_lt (lt b hb)
 have hSz:S≠z:=(sp z (by simp)).symm
 have oth:∀ b o,b≠S→s.heap.get? b=some o→((s.heap.push { cls:=.type "list",data:=.seq #[] }).update S (Obj.mapSeq (fun _=>(#[]:Array Value)))).get? b=some o:=fun b o hb e=>(Heap.get?_update_other _ _ (Ne.symm hb)).trans (k0 b o e)
 have hT:Shared.TypeIs { s with heap:=(s.heap.push { cls:=.type "list",data:=.seq #[] }).update S (Obj.mapSeq (fun _=>(#[]:Array Value))) } (.ref z) "zip" := ⟨_,oth _ _ (sp z (by simp)) hz,rfl⟩
 refine wpAny_bind (wpAny_typeOf hT ?_)
 have g1:Builtin.List.listSameRef (.ref S) (.ref z)=false:=by simp [Builtin.List.listSameRef,hSz]
 have g2:(Value.type "zip" == Value.type "list")=false:=by decide
 have g3:(Value.type "zip" == Value.type "tuple")=false:=by decide
 simp only [g1,g2,g3,Bool.or_false,Bool.false_eq_true,if_false]
 refine wpAny_bind (wpAny_pyIter_zip (oth _ _ (sp z (by simp)) hz) ?_)
 refine wpAny_bind (wpAny_holding ?_)
 unfold Builtin.List.listLengthHint
 refine wpAny_bind (wpAny_specialOf hT zip_no_len ?_)
 show wpAny _ X.A.in1.in1 (specialOf (Value.ref z) (Str.ofString "__length_hint__") >>= _) _ _ _
 refine wpAny_bind (wpAny_specialOf hT zip_no_hint ?_)
 refine wpAny_pure ?_
 show wpAny _ X.A.in1.in1 (rule "list.extend.makes-room" >>= fun _=>Builtin.List.listTouch (.ref S) >>= fun _=>
  again (.builtin "list.extend.loop" ⟨[.ref S,.ref z,.none],[]⟩)) _ _ _
 refine wpAny_bind (wpAny_rule ?_)
 refine wpAny_bind ?_
 show wpAny _ X.A.in1.in1 (updateSeq S (·.push .none) >>= fun _=>updateSeq S (·.pop)) _ _ _
 refine wpAny_bind (wpAny_updateSeq hS₂ rfl ?_)
 have I3:=I2.lset (ys:=[.non]) (its':=[.none]) (f:=(·.push Value.none)) (t':=s.toks) upd_same hS₂ rfl (.cons rfl .nil) (by show 1≤sizeLine; decide)
 have hS₃:=Heap.get?_update_self (Obj.mapSeq (·.push Value.none)) hS₂ rfl
 refine wpAny_updateSeq (hz:=by seq_fits) hS₃ rfl ?_
 have I4:=I3.lset (ys:=[]) (its':=[]) (f:=(·.pop)) (t':=s.toks) upd_same hS₃ rfl .nil (Nat.zero_le _)
 have oth2:∀ b o,b≠S→s.heap.get? b=some o→((((s.heap.push { cls:=.type "list",data:=.seq #[] }).update S (Obj.mapSeq (fun _=>(#[]:Array Value)))).update S (Obj.mapSeq (·.push Value.none))).update S (Obj.mapSeq (·.pop))).get? b=some o:=fun b o hb e=>
  (Heap.get?_update_other _ _ (Ne.symm hb)).trans ((Heap.get?_update_other _ _ (Ne.symm hb)).trans (oth b o hb e))
 have st:∀ b o,H b=some o→(upd (upd (upd (upd H S (.lst [])) S (.lst [])) S (.lst [.non])) S (.lst [])) b=some o:=fun b o h=>by
  have:=ne_of_none h hSn
  rw [upd_ne this,upd_ne this,upd_ne this,upd_ne this]; exact h
 obtain ⟨ra,rb,hr⟩:=hr
 have sq:∀ {a:Addr} {vs:List V},SqT X.K H a vs→SqT X.K (upd (upd (upd (upd H S (.lst [])) S (.lst [])) S (.lst [.non])) S (.lst [])) a vs:=fun h=>by
  rcases h with (h | ⟨o,h⟩) | h
  ·exact .inl (.inl (st _ _ h))
  ·exact .inl (.inr ⟨o,st _ _ h⟩)
  ·exact .inr h
 refine wpAny_pure ⟨plainId_quiet F.plain_extend_loop _,ext_loopZ0 (S:=S) (A:=X.A.in1) hh D hlen hn I4 (fun b hb=>((((hf b hb).upd (sp b hb)).upd (sp b hb)).upd (sp b hb)).upd (sp b hb)) (oth2 _ _ (sp z (by simp)) hz) (oth2 _ _ (sp p (by simp)) hp) ⟨ra,rb,oth2 _ _ (sp r (by simp)) hr⟩
  (itAt h1 fun o e=>oth2 _ o (sp j1 (by simp)) e) (itAt h2 fun o e=>oth2 _ o (sp j2 (by simp)) e) (sq hxs) (sq hys) upd_same fun s' H' ts' I' k' hS' hl' hP'=>?_⟩
 exact ⟨rfl,hQ S s' H' ts' hSn I' (fun b o h=>k' b o (ne_of_none h hSn) (st b o h)) hS' hl' hP'⟩
end
section
variable {X:Cx} {a b:Expr} {ta:TA} {p1 p2 pos1 pos2:Pos}
def tLZ (K:PySem.W.Frag) (ta:TA):TE:=fun σ H Q=>ta σ H fun vs H1=>∃ (u1 u2:Addr) (xs ys:List V),vs=[.ref u1,.ref u2]∧SqT K H1 u1 xs∧SqT K H1 u2 ys∧xs.length=ys.length ∧
 ∀ (L:Addr) (H':Hp) (ts:List Addr),H1 L=none→Kp [] H1 H'→H' L=some (.lst (ts.map V.ref))→ts.length=xs.length→Prs H' xs ys ts→Q (.ref L) H'
theorem pe_listzip (hc:X.calm=true) (hg:Gl X "list") (hm:X.mg "list" = none) (hg2:Gl X "zip") (hm2:X.mg "zip" = none) (ha:PA X [a,b] ta)
  (hs:starEach [a,b] X.env=[(false,eval a X.env),(false,eval b X.env)]:=by rfl) (hs2:starEach [b] X.env=[(false,eval b X.env)]:=by rfl)
  (hz:starEach [.Call (.Name "zip" p2) [a,b] [] pos2] X.env=[(false,eval (.Call (.Name "zip" p2) [a,b] [] pos2) X.env)]:=by rfl) :
  PE X (.Call (.Name "list" p1) [.Call (.Name "zip" p2) [a,b] [] pos2] [] pos1) (tLZ X.K ta):=by
 refine .mk ?_
 intro pins s σ H Q I h
 refine Call_ (ld_blt I hg hm boot_list (PyProof.Rows.callWith_type1 ?_ (by rw [hz]; rfl) rfl))
 rw [hz]
 refine Calls.spliced_cons ?_
 refine Call_ (ld_blt I hg2 hm2 boot_zip (PyProof.Rows.callWith_type1 (thn (ha pos2 pins s σ H _ I h) fun us s1 ⟨vs,H1,I1,r1,q1⟩=>?_) (by rw [hs,hs2]) (by rw [hs2]; rfl)))
 obtain ⟨u1,u2,xs,ys,e,hx,hy,hl,q⟩:=q1
 subst e
 cases r1 with
 | cons r rr=>
  cases rr with
  | cons r' rr=>
   cases rr
   cases r
   cases r'
   obtain ⟨its,rv,pl,_⟩:=I1.tuple hx
   obtain ⟨its2,rv2,pl2,_⟩:=I1.tuple hy
   obtain ⟨o1,e1,_⟩:=id pl
   obtain ⟨o2,e2,_⟩:=id pl2
   refine call_zipT pl pl2 fun h' hz hp hr j1 j2 k=>?_
   refine Calls.spliced_nil ?_
   have I2:Inv X pins σ H1 { s1 with heap:=h' }:=I1.kept (t':=s1.toks) k
   refine call_list_zip (I.ok.hd hc) (apart_new (Heap.lt_size e1) (Heap.lt_size e2)) hl I2 (fun c hc=>?_) hz hp ⟨_,_,hr⟩ j1 j2 hx hy fun L s' H' ts hL I' k' hS hl' hP=>⟨.ref L,H',I',rfl,q L H' ts hL (fun b o _ h=>k' b o h) hS hl' hP⟩
   have hc':s1.heap.objs.size≤c:=by
    simp only [List.mem_cons,List.not_mem_nil,or_false] at hc
    rcases hc with rfl | rfl | rfl | rfl | rfl <;> first | exact Nat.le_refl _ | exact Nat.le_add_right _ _
   have f:=I1.fpOk hc' (I1.hok.fresh hc')
   exact f
end
section
variable {X:Cx}
end
section
variable {X:Cx}
theorem mt_index:MtR X "list.index" (fun x vs H Q=>∃ (p:Addr) (xs:List V) (y:V) (j:Nat),x=.ref p∧vs=[y]∧SqL X.K H p xs∧flatV y=true∧xs.all flatV=true∧(∃ z,xs[j]? = some z∧eqV z y=true)∧(∀ m z,m < j→xs[m]? = some z→eqV z y=false)∧Q (.int j) H):=by
 intro pins s σ H x vs v us Q I rx rv h
 obtain ⟨p,xs,y,j,rfl,rfl,hq,fy,fs,⟨z,hj,hz⟩,hno,q⟩:=h
 cases rx
 obtain ⟨u,rfl,ru⟩:=vals1 rv
 obtain ⟨its,r,⟨⟨cls,dd,data,sl⟩,n,e,hc,hd,ho⟩,hl⟩:=I.list hq
 simp only at hc hd ho
 subst hc hd ho
 have lens:=r.length
 obtain ⟨hjl,_⟩:=List.getElem?_eq_some_iff.mp hj
 have at_:∀ m (hm:m < its.length) (z:V),xs[m]? = some z→eqU y its[m]=eqV z y:=fun m hm z hz=>by
  obtain ⟨u',e',r'⟩:=r.get hz
  rw [List.getElem?_eq_getElem hm] at e'
  cases e'
  exact eqU_of r' (List.all_eq_true.mp fs z (List.mem_of_getElem? hz))
 have hs:sizeLine=16777216:=sizeLine_eq
 refine call_meets PySem.F.slot_list_index ⟨_,e,rfl⟩ PySem.F.entry_list_index (PySem.F.args_list_index_2 _ _) (SeqAt.list_indexAt p its.toArray n none sl u (eqU y) j (by simp; omega) (by omega) ?_ ?_) ⟨e,fun w hw=>mem_eqAt ru fy r fs w (by simpa using hw),⟨.int j,H,I.tok _,⟨_,rfl⟩,q⟩⟩
 ·have:its.toArray[j]'(by simp; omega)=its[j]'(by omega):=by simp
  rw [this,at_ j (by omega) z hj]
  exact hz
 ·intro m hm hlt
  have hm':m < its.length:=by simpa using hm
  have:its.toArray[m]'hm=its[m]'hm':=by simp
  rw [this]
  have hx:m < xs.length:=by omega
  rw [at_ m hm' xs[m] (by simp [hx])]
  exact hno m _ hlt (by simp [hx])
end
section
variable {X:Cx}
end
theorem lam_code {P:Program} {w:World} {K:PySem.W.Frag} {mg:Str→Option Value} {base:Heap} {A:Around} {outer:List Env} {s:Shared} {H:Hp} {k:Nat} {f c':Addr} {name qual:Str} {params:Arguments} {body:Expr} {scope:Scope} {pm ctv:Value}
  {N ps:List Str} {us:List Value} {vs:List V} {t:TE} {Q:VK} {args:Args} (hr:Room k A) (e0:Env0 P w K mg base A outer s H)
  (ho:s.heap.get? f=some (PySem.W.kla_obj name qual params body scope [] pm c' ctv)) (hcd:s.heap.CodeRec (.ref c') qual)
  (hb:bindArgs (PySem.W.kla_fn name qual params body scope [] pm (.ref c') ctv) args=pure (ps.zip us)) (S:FnScope N ps scope) (r:Vals vs us) (hl:vs.length=ps.length)
  (hbody:PE (cxOf CX0 P w K mg base N qual scope f (.ref c') A outer s H E0) body t) (hq:t (start N vs) H Q) :
  codeAny (model P w) A (.call (.ref f) args) (CR CX0 outer P w H s Q E0) s:=by
 have lim:s.heap.NoLimit:=e0.mod.nolimit.keeps fun b o e=>(e0.bs b o e).1
 refine PySem.W.kla_callFunE hr.depth ho rfl S.co S.gen rfl hcd ?_
 rw [hb]
 refine wpAny_pure (wpAny_newFunctionEnv_cells S.kind (fun ⟨n,v⟩ hy=>?_) fun env he s1 x=>?_)
 ·rcases S.par n (List.of_mem_zip hy).1 with q | q
  ·exact .inl q
  ·exact .inr ⟨q,PySem.W.cellsFrom_some _ _ _ (.inl q)⟩
 ·subst he
  refine ⟨lim.keeps x.toInCall.keep,PySem.W.kla_codeExpr ?_⟩
  have I:=inv_start (CX:=CX0) (E:=E0) S hr.hd e0 hl r x
  exact wpAny_mono (hbody [] s1 (start N vs) H Q I hq) (fun u s' ⟨v,H',J,rv,q⟩=>⟨v,H',J.os,J.bare,J.base,J.hok,rv,q⟩) fun e s' z=>z
def LamT (H:Hp) (P:Addr) (q:Str) (pos:Pos):Prop:=H P=some (.tbl #[])∨∃ (c':Addr) (oc:Obj) (vs:Array Value) (t:Tok) (u:HO),
 H P=some (.tbl #[rawInt pos.line,rawInt pos.col,.ref c'])∧H c'=some (.frz oc u)∧oc.data=.fields vs∧vs[1]? = some (.str q t)
def lamAt (f:Addr) (o:Obj):Heap→Prop:=fun h=>h.get? f=some o
theorem ok_lamAt {P:Program} {w:World} {H:Hp} {h:Heap} {f:Addr} {o:Obj} (e:h.get? f=some o):ObjOk P w H h f (.ext (lamAt f o)):=⟨e,⟨o,e⟩,fun _ _ q k=>k _ q⟩
def BAt (mg:Str→Option Value) (base:Heap) (P:Addr):Prop:=base.BuiltinsAt mg P
structure LamH (H:Hp) (f:Addr) (qual:Str) (params:Arguments) (body:Expr) (scope:Scope):Prop where
 ex:∃ (c':Addr) (oc:Obj) (vs:Array Value) (t:Tok) (u:HO) (pm ctv:Value),H f=some (.ext (lamAt f (PySem.W.kla_obj "<lambda>" qual params body scope [] pm c' ctv)))∧H c'=some (.frz oc u)∧oc.data=.fields vs∧vs[1]? = some (.str qual t)
section
variable {X:Cx} {params:Arguments} {body:Expr} {scope:Scope} {pos:Pos} {c P:Addr}
theorem pe_lam {q:Str} (hq:X.env.qual ++ "<lambda>" = q) (hcode:X.env.code=.ref c) (hC:PySem.W.codeHdIn X.K c P=true) (hB:BAt X.mg X.base P) (hdef:defaultsOf params X.env=([],[]):=by rfl) (hcl:closureFor scope X.env=pure []:=by rfl) :
  PE X (.Lambda params body scope pos) (fun σ H Q=>LamT H P q pos∧∀ (f:Addr) (H':Hp),H f=none→(∀ b o,b≠P→H b=some o→H' b=some o)→LamT H' P q pos→(∃ o,H' P=some o)→LamH H' f q params body scope→Q (.ref f) H'):=by
 refine .mk ?_
 rintro pins s σ H Q I ⟨lt,k⟩
 refine PySem.W.kla_eval hdef ?_
 rw [hq]
 have C:PySem.W.CodeHd s.heap c P:=PySem.W.codeHd_of_K I.kIn hC
 have G:s.heap.Ns mainGlobals X.mg:=I.mod.glob.keeps I.bk
 have hb:s.heap.BuiltinsAt X.mg P:=by
  obtain ⟨bm,o,h1,h2,h3,h4,h5,r⟩:=hB
  exact ⟨bm,o,h1,h2,h3,h4,I.bk _ _ h5,r⟩
 rcases lt with e | ⟨c',oc,vs,t,u,e,ec,hd,hv⟩
 ·have hP:s.heap.get? P=some (PySem.W.tabObj #[]):=I.hok P _ e
  have hgP:mainGlobals≠P:=fun z=>by
   obtain ⟨o,es,ep,g,d,_⟩:=G
   rw [z,hP] at g; cases g; cases d
  refine PySem.W.kla_makeFunction (mg:=X.mg) hcl I.ok.glob G hcode C hP trivial rfl hgP hb fun c' ctv h' tk hx hge hlt hrec htb=>?_
  obtain ⟨c2,oc,vs,t,e2,hoc,hd,hv⟩:=hrec
  cases e2
  have htb':h'.get? P=some (PySem.W.tabObj #[rawInt pos.line,rawInt pos.col,.ref c']):=by
   have z:(#[]:Array Value) ++ #[rawInt pos.line,rawInt pos.col,.ref c']=#[rawInt pos.line,rawInt pos.col,.ref c']:=by simp
   rw [z] at htb
   exact htb
  have hPs:P < s.heap.objs.size:=Heap.lt_size hP
  have nc:H c'=none:=I.hok.fresh hge
  have nf:H h'.objs.size=none:=I.hok.fresh (Nat.le_trans hge (Nat.le_of_lt hlt))
  have cP:c'≠P:=Nat.ne_of_gt (Nat.lt_of_lt_of_le hPs hge)
  have fP:h'.objs.size≠P:=Nat.ne_of_gt (Nat.lt_trans (Nat.lt_of_lt_of_le hPs hge) hlt)
  have fc:h'.objs.size≠c':=Nat.ne_of_gt hlt
  generalize hob:PySem.W.kla_obj "<lambda>" q params body scope [] ((X.mg "__name__").getD .none) c' ctv=ob
  let H':Hp:=upd (upd (upd H P (.tbl #[rawInt pos.line,rawInt pos.col,.ref c'])) c' (.frz oc (.own 0))) h'.objs.size (.ext (lamAt h'.objs.size ob))
  have H'f:H' h'.objs.size=some (.ext (lamAt h'.objs.size ob)):=upd_same
  have H'c:H' c'=some (.frz oc (.own 0)):=by show upd _ _ _ _=_; rw [upd_ne fc.symm]; exact upd_same
  have H'P:H' P=some (.tbl #[rawInt pos.line,rawInt pos.col,.ref c']):=by show upd _ _ _ _=_; rw [upd_ne fP.symm,upd_ne cP.symm]; exact upd_same
  have H'o:∀ b,b≠P→b≠c'→b≠h'.objs.size→H' b=H b:=fun b h1 h2 h3=>by show upd _ _ _ _=_; rw [upd_ne h3,upd_ne h2,upd_ne h1]
  have kp:∀ b o,b≠P→H b=some o→H' b=some o:=fun b o h1 h2=>by rw [H'o b h1 (fun z=>by rw [z,nc] at h2; cases h2) (fun z=>by rw [z,nf] at h2; cases h2)]; exact h2
  have hh:∀ b o,b≠P→s.heap.get? b=some o→(h'.push ob).get? b=some o:=fun b o h1 h2=>Heap.get?_push_of_some _ (hx b o h1 h2)
  have lts:∀ b o,s.heap.get? b=some o→b≠c'∧b≠h'.objs.size:=fun b o h2=>by
   have:=Heap.lt_size h2
   exact ⟨Nat.ne_of_lt (Nat.lt_of_lt_of_le this hge),Nat.ne_of_lt (Nat.lt_of_lt_of_le this (Nat.le_trans hge (Nat.le_of_lt hlt)))⟩
  have nP:∀ b,H b=none→b≠P:=fun b h1 z=>by rw [z,e] at h1; cases h1
  have un:Un X.fs [] H H' s.heap (h'.push ob):=by
   refine ⟨fun b o h1 h2 _ _=>hh b o (nP b h2) h1,fun b o h1 h2 _ _=>⟨o.slots,hh b o (nP b h2) h1⟩,fun b o h1 h2 _=>?_,fun b o h1 _=>?_,fun b xs h1=>?_,fun b o u h1=>?_,fun b ps h1=>?_⟩
   ·rw [H'o b (nP b h2) (lts b o h1).1 (lts b o h1).2]; exact h2
   ·by_cases z:b=P
    ·subst z; exact ⟨_,Heap.get?_push_of_some _ htb'⟩
    ·exact ⟨o,hh b o z h1⟩
   ·exact kp b _ (fun z=>by rw [z,e] at h1; cases h1) h1
   ·exact kp b _ (fun z=>by rw [z,e] at h1; cases h1) h1
   ·by_cases z:b=P
    ·subst z; rw [e] at h1; cases h1; exact ⟨#[rawInt pos.line,rawInt pos.col,.ref c'],by rw [H'P]; simp⟩
    ·exact ⟨#[],by rw [kp b _ z h1]; simp⟩
  have hok:HOk X.prog X.w H' (h'.push ob):=fun b o h1=>by
   by_cases z1:b=h'.objs.size
   ·subst z1; rw [H'f] at h1; cases h1
    exact ok_lamAt (Heap.get?_push_size _ (by rw [← hob]; rfl))
   by_cases z2:b=c'
   ·subst z2; rw [H'c] at h1; cases h1
    exact ⟨Heap.get?_push_of_some _ hoc,⟨oc,Heap.get?_push_of_some _ hoc⟩⟩
   by_cases z3:b=P
   ·subst z3; rw [H'P] at h1; cases h1
    exact Heap.get?_push_of_some _ htb'
   rw [H'o b z3 z2 z1] at h1
   refine (I.hok b o h1).stay (fun b' u hb' q=>hh b' u (fun z=>?_) q) (fun b' q=>kp b' _ (fun z=>by rw [z,e] at q; cases q) q) fun b' xs q=>kp b' _ (fun z=>by rw [z,e] at q; cases q) q
   rcases hb' with rfl | hb'
   ·exact z3 z
   ·rw [z,e] at hb'; cases hb'
  refine ⟨.ref h'.objs.size,H',I.un (t':=tk) un hok,rfl,k _ H' nf kp (.inr ⟨c',oc,vs,t,_,H'P,H'c,hd,hv⟩) ⟨_,H'P⟩ ⟨c',oc,vs,t,_,(X.mg "__name__").getD .none,ctv,by rw [hob]; exact H'f,H'c,hd,hv⟩⟩
 ·have hP:s.heap.get? P=some (PySem.W.tabObj #[rawInt pos.line,rawInt pos.col,.ref c']):=I.hok P _ e
  refine PySem.W.kla_makeFunctionHit (cv:=.ref c') (mg:=X.mg) hcl I.ok.glob G hcode C hP trivial ?_ hb fun ctv h' tk hx hsz=>?_
  ·show codeAmong pos [.int pos.line 0,.int pos.col 0,.ref c']=_
   simp [codeAmong]
  ·have nf:H h'.objs.size=none:=I.hok.fresh hsz
   generalize hob:PySem.W.kla_obj "<lambda>" q params body scope [] ((X.mg "__name__").getD .none) c' ctv=ob
   have kp:∀ b o,H b=some o→upd H h'.objs.size (.ext (lamAt h'.objs.size ob)) b=some o:=fun b o h2=>by rw [upd_ne (fun z=>by rw [z,nf] at h2; cases h2)]; exact h2
   refine ⟨.ref h'.objs.size,_,I.laid (t':=tk) (o:=.ext (lamAt h'.objs.size ob)) (fun b u q=>Heap.get?_push_of_some _ (hx b u q)) hsz (ok_lamAt (by rw [← hob]; exact Heap.get?_push_size _ rfl)),rfl,k _ _ nf (fun b o _ h2=>kp b o h2) (.inr ⟨c',oc,vs,t,u,kp _ _ e,kp _ _ ec,hd,hv⟩) ⟨_,kp _ _ e⟩ ⟨c',oc,vs,t,u,(X.mg "__name__").getD .none,ctv,by rw [hob]; exact upd_same,kp _ _ ec,hd,hv⟩⟩
end
structure Mid (X:Cx) (H:Hp) (s s':Shared):Prop where
 un:Un (frs X.stack) [] H H s.heap s'.heap
 hok:HOk X.prog X.w H s'.heap
 bare:AllBare s'.gens
 os:s'.os=s.os
section
variable {X:Cx} {pins:List (Addr×Obj)} {σ:St} {H:Hp} {s s':Shared}
theorem Mid.inv (m:Mid X H s s') (I:Inv X pins σ H s):Inv X pins σ H s':=by
 obtain ⟨h,g,d,t,os⟩:=s'
 obtain ⟨un,hok,bare,e⟩:=m
 cases e
 exact I.call (h':=h) (g':=g) (d':=d) (t':=t) (ch:=[]) un hok bare (fun b z=>absurd z (by simp))
theorem Mid.refl (I:Inv X pins σ H s):Mid X H s s:=⟨.refl,I.hok,I.bare,rfl⟩
theorem Mid.upd (m:Mid X H s s') (I:Inv X pins σ H s) {k:Addr} {h':Heap} {t':Nat} (hk:s.heap.objs.size≤k) (kp:∀ b o,b≠k→s'.heap.get? b=some o→h'.get? b=some o):Mid X H s { s' with heap:=h',toks:=t' }:=by
 have nk:H k=none:=I.hok.fresh hk
 have ne:∀ b o,s.heap.get? b=some o→b≠k:=fun b o e=>Nat.ne_of_lt (Nat.lt_of_lt_of_le (Heap.lt_size e) hk)
 refine ⟨⟨fun b o e n hb hx=>kp b o (ne b o e) (m.un.keep b o e n hb hx),fun b o e n hb hx=>?_,m.un.free,fun b o e hx=>?_,m.un.tups,m.un.frzs,m.un.tbls⟩,fun b u e=>?_,m.bare,m.os⟩
 ·obtain ⟨sl,q⟩:=m.un.slot b o e n hb hx
  exact ⟨sl,kp b _ (ne b o e) q⟩
 ·obtain ⟨o',q⟩:=m.un.there b o e hx
  exact ⟨o',kp b _ (ne b o e) q⟩
 ·refine (m.hok b u e).stay (fun c v hc q=>kp c v (fun z=>?_) q) (fun _ q=>q) fun _ _ q=>q
  rcases hc with h | h
  ·rw [← h,z,nk] at e; cases e
  ·rw [z,nk] at h; cases h
theorem Mid.all (m:Mid X H s s') (I:Inv X pins σ H s) {h':Heap} {t':Nat} (kp:∀ b o,s'.heap.get? b=some o→h'.get? b=some o):Mid X H s { s' with heap:=h',toks:=t' }:=
 m.upd I (Nat.le_refl _) (fun b o _ e=>kp b o e)
theorem Mid.calls (m:Mid X H s s') {s'':Shared} (un:Un (frs X.stack) [] H H s'.heap s''.heap) (hok:HOk X.prog X.w H s''.heap) (bare:AllBare s''.gens) (os:s''.os=s'.os):Mid X H s s'':=
 ⟨m.un.trans un,hok,bare,os.trans m.os⟩
theorem ours {I0:Inv X pins σ H s} {k:Addr} {o:Obj} {s1 s2:Shared} (hk:s.heap.objs.size≤k) (un:Un (frs X.stack) [] H H s1.heap s2.heap) (e:s1.heap.get? k=some o):s2.heap.get? k=some o:=by
 refine un.keep k o e (I0.hok.fresh hk) (fun z=>?_) (by simp)
 obtain ⟨_,o',h,_⟩:=I0.stack.mem z
 exact absurd (Nat.lt_of_lt_of_le (Heap.lt_size h) hk) (Nat.lt_irrefl _)
def KeyF (X:Cx) (H:Hp) (A:Around) (f:Value) (v:Value) (z:Str):Prop:=∀ (pins:List (Addr×Obj)) (σ:St) (s:Shared),Inv X pins σ H s →
 wpAny (model X.prog X.w) A (call f [v]) (fun u s'=>(∃ t,u=.str z t)∧Un (frs X.stack) [] H H s.heap s'.heap∧HOk X.prog X.w H s'.heap∧AllBare s'.gens∧s'.os=s.os) (fun _ _=>False) s
end
def OutBy (ps:List (Str×Value)) (out:List Value):Prop:=∃ qs:List (Str×Value),qs.Perm ps∧out=qs.map (·.2)∧qs.Pairwise fun a b=>¬ b.1.cps.toList < a.1.cps.toList
theorem zip_keys {vs:List Value} {zs:List Str}:∀ {ks:List Value},StrsAre ks zs→ks.length=vs.length→(ks.zip vs).map (fun p=>(strOf p.1,p.2))=zs.zip vs:=by
 induction vs generalizing zs with
 | nil=>intro ks h e; cases ks with
  | nil=>cases h; rfl
  | cons _ _=>cases e
 | cons v r ih=>
  intro ks h e
  cases h with
  | nil=>cases e
  | cons x t h=>
   rw [List.zip_cons_cons,List.map_cons,List.zip_cons_cons,ih h (by simpa using e)]
   rfl
theorem out_by {keys:Array Value} {vs:List Value} {zs:List Str} {xs:Array Keyed} (hk:StrsAre keys.toList zs) (hl:zs.length=vs.length) (hp:xs.Perm (keys.zip vs.toArray)) (hs:SortedToK PyProof.Rows.strKind xs xs.size):OutBy (zs.zip vs) (xs.map (·.2)).toList:=by
 have hkl:keys.toList.length=vs.length:=by rw [← hl]; exact hk.length
 have pl:xs.toList.Perm (keys.toList.zip vs):=by
  have:=Array.perm_iff_toList_perm.mp hp
  rw [ksk_zip] at this
  exact this
 refine ⟨xs.toList.map fun p=>(strOf p.1,p.2),?_,by rw [Array.toList_map,List.map_map]; rfl,?_⟩
 ·have:=pl.map fun p:Keyed=>(strOf p.1,p.2)
  rw [zip_keys hk hkl] at this
  exact this
 ·rw [List.pairwise_map,List.pairwise_iff_getElem]
  intro i j hi hj hij
  rw [Array.length_toList] at hi hj
  have h:=hs i j (Nat.le_of_lt hij) hj
  have key:∀ (n:Nat) (hn:n < xs.size),KK PyProof.Rows.strKind xs n=(strOf (xs.toList[n]'(by simpa using hn)).1).cps.toList:=fun n hn=>by
   have hm:xs[n]∈keys.toList.zip vs:=pl.mem_iff.mp (Array.getElem_mem_toList hn)
   obtain ⟨x,t,e⟩:=hk.all _ (List.of_mem_zip (show (xs[n].1,xs[n].2)∈keys.toList.zip vs from hm)).1
   rw [KK_str hn (x:=x) (t:=t) (q:=xs[n].2) (by rw [← e])]
   have:xs.toList[n]'(by simpa using hn)=xs[n]:=by simp
   rw [this,e]
   rfl
  unfold KeyOrd.kle at h
  rw [key i hi,key j hj] at h
  intro z
  simp only [PyProof.Rows.strKind] at h
  rw [decide_eq_true z] at h
  cases h
section
variable {X:Cx} {pins:List (Addr×Obj)} {σ:St} {H:Hp} {s s1:Shared} {A:Around} {a kS:Addr} {vs:List Value} {zs:List Str} {f:Value} {E:Value→Shared→Prop} {keys:Array Value} {e e1:Nat} {Pp:PySem.Fin→Shared→Prop}
theorem sz_ok {n:Nat} (h:n < 64):n≤sizeLine:=by rw [sizeLine_eq]; omega
theorem key_tail (I:Inv X pins σ H s) {st:SortSt} (m:Mid X H s s1) (ha:s.heap.objs.size≤a) (hk:s.heap.objs.size≤kS) (hka:kS≠a) (ek:s1.heap.get? kS=some (seqObj "list" keys e)) (ea:s1.heap.get? a=some (seqObj "list" #[] e1))
  (sk:StrsAre keys.toList zs) (hl:zs.length=vs.length) (h64:vs.length < 64) (hp:(arrOf st).Perm (keys.zip vs.toArray)) (hs:SortedToK PyProof.Rows.strKind (arrOf st) (arrOf st).size) (hf:failedOf st=none)
  (h:∀ s' out c,Mid X H s s'→s'.heap.get? a=some (seqObj "list" out c)→OutBy (zs.zip vs) out.toList→Pp (.done (.ret .none)) s') :
  wpAny (model X.prog X.w) A (ksk_tail a false e1 (.ref kS) st) Pp E s1:=by
 have kz:keys.size=vs.length:=by have:=sk.length; rw [Array.length_toList] at this; omega
 have oz:((arrOf st).map (·.2)).size=vs.length:=by rw [Array.size_map,hp.size_eq,Array.size_zip,kz,List.size_toArray,Nat.min_self]
 have b1:=Heap.SameBut.update s1.heap kS (Obj.mapSeq fun _=>(#[]:Array Value))
 have ea1:=(b1.2 a hka.symm).trans ea
 have b2:=Heap.SameBut.update (s1.heap.update kS (Obj.mapSeq fun _=>(#[]:Array Value))) a (Obj.mapSeq fun _=>(arrOf st).map (·.2))
 have c2:=get?_update_seq ea1 fun _=>(arrOf st).map (·.2)
 unfold ksk_tail
 dsimp only
 refine wpAny_bind (listUpdate_at ek rfl ?_ (by rw [kz]; exact sz_ok h64) (Nat.zero_le _))
 refine wpAny_bind (wpAny_letGo (wpAny_bind (seqEpoch_at ea1 rfl ?_)))
 refine wpAny_bind (listUpdate_at ea1 rfl ?_ (Nat.zero_le _) (Nat.le_succ_of_le (by show ((arrOf st).map (·.2)).size≤_; rw [oz]; exact sz_ok h64)))
 rw [hf]
 simp only [bne_self_eq_false,Bool.false_eq_true,if_false]
 have m1:Mid X H s { s1 with heap:=s1.heap.update kS (Obj.mapSeq fun _=>(#[]:Array Value)) }:=m.upd I (t':=s1.toks) hk (fun b o n q=>(b1.2 b n).trans q)
 exact wpAny_pure (h _ _ _ (m1.upd I (t':=s1.toks) ha (fun b o n q=>(b2.2 b n).trans q)) c2 (out_by sk hl hp hs))
theorem keys_of (sk:StrsAre keys.toList zs):KeysOf PyProof.Rows.strKind (keys.zip vs.toArray):=fun p hp=>by
 rw [ksk_zip] at hp
 obtain ⟨x,t,q⟩:=sk.all p.1 (List.of_mem_zip (show (p.1,p.2)∈keys.toList.zip vs from hp)).1
 exact ⟨x.cps.toList,by rw [q]⟩
theorem key_end (I:Inv X pins σ H s) (m:Mid X H s s1) (ha:s.heap.objs.size≤a) (hk:s.heap.objs.size≤kS) (hka:kS≠a) (ek:s1.heap.get? kS=some (seqObj "list" keys e)) (ea:s1.heap.get? a=some (seqObj "list" #[] e1))
  (sk:StrsAre keys.toList zs) (hl:zs.length=vs.length) (h64:vs.length < 64)
  (h:∀ s' out c,Mid X H s s'→s'.heap.get? a=some (seqObj "list" out c)→OutBy (zs.zip vs) out.toList→Pp (.done (.ret .none)) s') :
  wpAny (model X.prog X.w) A (ksk_end a false vs.toArray e1 (.ref kS) keys) Pp E s1:=by
 have kz:keys.size=vs.length:=by have:=sk.length; rw [Array.length_toList] at this; omega
 have zz:(keys.zip vs.toArray).size=vs.length:=by rw [Array.size_zip,kz,List.size_toArray,Nat.min_self]
 unfold ksk_end
 dsimp only
 rw [if_neg Bool.false_ne_true]
 simp only [Bool.false_eq_true,if_false]
 by_cases h2:vs.toArray.size < 2
 ·rw [if_pos h2,if_pos h2]
  refine wpAny_bind (wpAny_pure ?_)
  rw [StateT.run_pure]
  refine wpAny_bind (wpAny_pure (key_tail (st:=SortSt.mk' general' (keys.zip vs.toArray) #[] 7 none) I m ha hk hka ek ea sk hl h64 (Array.Perm.refl _) (fun i j hij hj=>?_) rfl h))
  have hj':j < (keys.zip vs.toArray).size:=hj
  rw [zz] at hj'
  rw [List.size_toArray] at h2
  have:i=j:=by omega
  subst this
  exact KeyOrd.kle_refl _
 ·rw [if_neg h2,if_neg h2]
  rw [List.size_toArray] at h2
  have kk:keyKind' keys=pure oneType':=by
   obtain ⟨l⟩:=keys
   match l,kz,sk with
   | [],kz,_=>simp at kz; omega
   | [_],kz,_=>simp at kz; omega
   | _::_::_,_,sk=>exact keyKind_strs sk
  rw [kk]
  refine wpAny_bind (wpAny_pure (wpAny_bind (wpAny_mono (wpS_sortRunsK (a₀:=keys.zip vs.toArray) (st:=SortSt.mk' oneType' (keys.zip vs.toArray) #[] 7 none) (Q:=fun _ st'=>(arrOf st').Perm (keys.zip vs.toArray)∧failedOf st'=none∧SortedToK PyProof.Rows.strKind (arrOf st') (keys.zip vs.toArray).size)
   strKind_oneLt (keys_of sk) ⟨Array.Perm.refl _,rfl,rfl,rfl⟩ (by rw [zz]; omega) (by rw [zz]; exact h64) fun st' x y z=>⟨x,y,z⟩) ?_ fun _ _ q=>q)))
  rintro ⟨⟨⟩,st'⟩ s' ⟨rfl,x,y,z⟩
  exact key_tail I m ha hk hka ek ea sk hl h64 x (by rw [x.size_eq]; exact z) y h
theorem strs_snoc {x:Str} {t:Tok}:∀ {ks:List Value} {ss:List Str},StrsAre ks ss→StrsAre (ks++[.str x t]) (ss++[x])
 | _,_,.nil=>.cons x t .nil
 | _,_,.cons y u r=>.cons y u (strs_snoc r)
theorem key_rest (I:Inv X pins σ H s) (m:Mid X H s s1) (ha:s.heap.objs.size≤a) (hk:s.heap.objs.size≤kS) (hka:kS≠a) (ek:s1.heap.get? kS=some (seqObj "list" #[] e)) (ea:s1.heap.get? a=some (seqObj "list" #[] e1)) (hl:zs.length=vs.length) (h64:vs.length < 64)
  (turn:∀ (i:Nat) (v:Value) (z:Str),vs[i]? = some v→zs[i]? = some z→KeyF X H A f v z)
  (h:∀ s' out c,Mid X H s s'→s'.heap.get? a=some (seqObj "list" out c)→OutBy (zs.zip vs) out.toList→Pp (.done (.ret .none)) s') :
  wpAny (model X.prog X.w) A (ksk_rest a f false vs.toArray e1 (.ref kS)) Pp E s1:=by
 unfold ksk_rest
 refine wpAny_bind (wpAny_rule ?_)
 first
  | rw [List.forIn_toArray]
  | (rw [← Array.forIn_toList]; simp only [List.toList_toArray])
 refine wpAny_bind (ksk_fold (fun i s'=>∃ kA e,Mid X H s s'∧s'.heap.get? kS=some (seqObj "list" kA e)∧s'.heap.get? a=some (seqObj "list" #[] e1)∧StrsAre kA.toList (zs.take i)) vs 0 s1 ⟨#[],e,m,ek,ea,by simpa using StrsAre.nil⟩ ?step ?done)
 case step=>
  rintro j x s' hx ⟨kA,e',m',ek',ea',sk⟩
  simp only [Nat.zero_add] at sk ⊢
  have hj:j < vs.length:=(List.getElem?_eq_some_iff.mp hx).1
  obtain ⟨z,hz⟩:∃ z,zs[j]? = some z:=⟨_,List.getElem?_eq_getElem (by omega)⟩
  have kz:kA.size≤vs.length:=by have:=sk.length; rw [Array.length_toList,List.length_take] at this; omega
  refine wpAny_bind (wpAny_attempt (wpAny_mono (turn j x z hx hz pins σ s' (m'.inv I)) (fun v s'' q=>?_) fun _ _ q=>q.elim))
  obtain ⟨⟨t2,rfl⟩,un,hok,bare,os⟩:=q
  have ek2:=ours (I0:=I) hk un ek'
  have ea2:=ours (I0:=I) ha un ea'
  have b1:=Heap.SameBut.update s''.heap kS (Obj.mapSeq (·.push (.str z t2)))
  have m2:=m'.calls un hok bare os
  refine wpAny_bind (listUpdate_at ek2 rfl ?_ (Nat.le_trans kz (sz_ok h64)) (Nat.le_trans (Nat.le_of_eq (Array.size_push ..)) (by rw [sizeLine_eq]; omega)))
  refine wpAny_pure ⟨rfl,kA.push (.str z t2),_,m2.upd I (t':=s''.toks) hk (fun b o n q=>(b1.2 b n).trans q),get?_update_seq ek2 (·.push (.str z t2)),(b1.2 a hka.symm).trans ea2,?_⟩
  have e3:zs.take (j+1)=zs.take j++[z]:=by rw [List.take_add_one,hz]; simp
  rw [e3,Array.toList_push]
  exact strs_snoc sk
 case done=>
  rintro s' ⟨kA,e',m',ek',ea',sk⟩
  have e3:zs.take (0+vs.length)=zs:=List.take_of_length_le (by omega)
  rw [e3] at sk
  refine wpAny_bind (listItems_at ek' rfl ?_)
  exact key_end I m' ha hk hka ek' ea' sk hl h64 h
theorem call_sortKey (I:Inv X pins σ H s) {l q:Addr} {Q:Value→Shared→Prop} {o:Obj} {n:Nat} (ho:s.heap.get? l=some o) (hc:o.cls=.type "tuple") (hd:o.data=.seq vs.toArray n) (hl:zs.length=vs.length) (h64:vs.length < 64)
  (turn:∀ (i:Nat) (v:Value) (z:Str),vs[i]? = some v→zs[i]? = some z→KeyF X H X.A.in1.in1 (.ref q) v z)
  (h:∀ s0 s' a out c,Inv X pins σ H s0→s0.heap.objs.size≤a→Mid X H s0 s'→s'.heap.get? a=some (seqObj "list" out c)→OutBy (zs.zip vs) out.toList→Q (.ref a) s') :
  wpAny (model X.prog X.w) X.A (call (.builtin "sorted") [.ref l] [(Str.ofString "key",.ref q)]) Q E s:=by
 refine call_function_entry_kw kind_sorted plain_sorted entry_sorted (ksk_s1 _ _) ?_
 unfold Builtin.«sorted»
 refine wpAny_bind (m:=checkCount "sorted" 1 1 _) (wpAny_pure ?_)
 refine wpAny_bind (wpAny_collect_seq l (.inr rfl) ho hc hd (fun h1 k1=>?_) (by rw [List.size_toArray]; exact sz_ok h64))
 refine wpAny_bind (wpAny_newList ?_ (by show vs.length≤_; exact sz_ok h64))
 have I1:Inv X pins σ H { s with heap:=h1 }:=I.kept (t':=s.toks) k1
 have m0:=Mid.refl I1
 have oa:(h1.push (seqObj "list" vs.toArray 0)).get? h1.objs.size=some (seqObj "list" vs.toArray 0):=Heap.get?_push_size _ rfl
 have m1:Mid X H { s with heap:=h1 } { s with heap:=h1.push (seqObj "list" vs.toArray 0) }:=m0.all I1 (t':=s.toks) (fun b o e=>Heap.get?_push_of_some _ e)
 refine wpAny_bind (wpAny_holding (wpAny_call_entry_kw slot_list_sort ⟨_,oa,rfl⟩ entry_list_sort ?_ (ksk_l1 _ _)))
 show wpAny (model X.prog X.w) X.A.in1.in1 (Builtin.«list.sort» ⟨[.ref h1.objs.size],[(Str.ofString "key",.ref q)]⟩) _ _ { s with heap:=h1.push (seqObj "list" vs.toArray 0) }
 rw [ksk_t1]
 unfold ksk_tree
 refine wpAny_bind (listItems_at oa rfl ?_)
 refine wpAny_bind (listUpdate_at oa rfl ?_ (by rw [List.size_toArray]; exact sz_ok h64) (Nat.zero_le _))
 have b1:=Heap.SameBut.update (h1.push (seqObj "list" vs.toArray 0)) h1.objs.size (Obj.mapSeq fun _=>(#[]:Array Value))
 have oa1:=get?_update_seq oa fun _=>(#[]:Array Value)
 have m2:=m1.upd I1 (t':=s.toks) (Nat.le_refl _) (fun b o n q=>(b1.2 b n).trans q)
 refine wpAny_bind (seqEpoch_at oa1 rfl ?_)
 refine wpAny_bind (wpAny_newTuple ?_ (by show vs.length≤_; exact sz_ok h64))
 refine wpAny_bind (wpAny_newList ?_ (Nat.zero_le _))
 refine wpAny_holding ?_
 generalize hX:(h1.push (seqObj "list" vs.toArray 0)).update h1.objs.size (Obj.mapSeq fun _=>(#[]:Array Value))=g at *
 have gz:g.objs.size=h1.objs.size+1:=by rw [← hX,Heap.size_update,Heap.size_push]
 have m3:=m2.all I1 (t':=s.toks) (h':=(g.push (seqObj "tuple" vs.toArray 0)).push (seqObj "list" #[] 0)) (fun b o e=>Heap.get?_push_of_some _ (Heap.get?_push_of_some _ e))
 refine key_rest I1 m3 (a:=h1.objs.size) (kS:=(g.push (seqObj "tuple" vs.toArray 0)).objs.size) (Nat.le_refl _) (by rw [Heap.size_push,gz]; show h1.objs.size≤_; omega) (by rw [Heap.size_push,gz]; exact Nat.ne_of_gt (Nat.lt_succ_of_lt (Nat.lt_succ_self _))) (Heap.get?_push_size _ rfl)
  (Heap.get?_push_of_some _ (Heap.get?_push_of_some _ oa1)) hl h64 turn fun s' out c m' ea' ob=>⟨_,rfl,wpAny_pure ⟨_,rfl,h _ s' _ out c I1 (Nat.le_refl _) m' ea' ob⟩⟩
end
end L2
namespace L3
open PySem PySem.Spec L2
open PyProof.Rows hiding St
inductive T where
 | non | bl (b:Bool) | int (i:Int) | str (z:Str) | tup (ts:List T) | ref (a:Addr) | ty (n:String)
 /-- a list that nobody changes (the script) -/
 | scr (K:PySem.W.Frag) (a:Addr) (ts:List T)
def SqC (K:PySem.W.Frag) (H:Hp) (a:Addr) (vs:List V):Prop:=(∃ o,H a=some (.frz o (.lst vs))) ∨
 ∃ (o:Obj) (its:Array Value) (n:Nat),K.lookup a=some o∧o.cls=.type "list" ∧ o.dict=none∧o.data=.seq its n∧its.size≤sizeLine∧Vals vs its.toList
inductive O where
 | lst (ts:List T)
 | ins (C dx:Addr) (fs:List (Str×T))
 | own (x:Addr)
 | dK (kvs:List (Key×T))
 | ext (φ:Heap→Prop)
 /-- the table of a def that makes a lambda -/
 | lam (q:Str) (pos:Pos)
abbrev Gp:=Addr→Option O
def up (Γ:Gp) (a:Addr) (o:O):Gp:=fun b=>if b=a then some o else Γ b
theorem up_same {Γ:Gp} {a:Addr} {o:O}:up Γ a o a=some o:=by unfold up; rw [if_pos rfl]
theorem up_ne {Γ:Gp} {a b:Addr} {o:O} (h:b≠a):up Γ a o b=Γ b:=by unfold up; rw [if_neg h]
theorem gne {Γ:Gp} {a b:Addr} {o u:O} (h:Γ a=some o) (h':Γ b=some u) (d:o≠u):a≠b:=by
 intro e; subst e; rw [h] at h'; exact d (Option.some.inj h')
theorem gnn {Γ:Gp} {a b:Addr} {o:O} (h:Γ a=some o) (h':Γ b=none):a≠b:=by
 intro e; subst e; rw [h] at h'; cases h'
section
mutual
def R (H:Hp):V→T→Prop
 | v,.non=>v=.non
 | v,.bl b=>v=.bl b
 | v,.int i=>v=.int i
 | v,.str z=>v=.str z
 | v,.ref a=>v=.ref a
 | v,.ty n=>v=.ty n
 | v,.tup ts=>∃ a vs,v=.ref a∧H a=some (.tup vs)∧Rs H vs ts
 | v,.scr K a ts=>v=.ref a∧∃ vs,SqC K H a vs∧Rs H vs ts
def Rs (H:Hp):List V→List T→Prop
 | vs,[]=>vs=[]
 | vs,t::r=>∃ v ws,vs=v::ws∧R H v t∧Rs H ws r
end
def Tq (H H':Hp):Prop:=(∀ a vs,H a=some (.tup vs)→H' a=some (.tup vs))∧∀ a o u,H a=some (.frz o u)→H' a=some (.frz o u)
end
section
variable {H H':Hp}
theorem Tq.refl:Tq H H:=⟨fun _ _ h=>h,fun _ _ _ h=>h⟩
theorem Tq.trans {H1:Hp} (a:Tq H H1) (b:Tq H1 H'):Tq H H':=⟨fun x vs h=>b.1 x vs (a.1 x vs h),fun x o u h=>b.2 x o u (a.2 x o u h)⟩
theorem SqC.mono (t:Tq H H') {K:PySem.W.Frag} {a:Addr} {vs:List V} (h:SqC K H a vs):SqC K H' a vs:=by
 rcases h with ⟨o,h⟩ | h
 ·exact .inl ⟨o,t.2 _ _ _ h⟩
 ·exact .inr h
mutual
theorem R.mono (t:Tq H H'):∀ {x:T} {v:V},R H v x→R H' v x
 | .non,v,h=>by unfold R at h ⊢; exact h
 | .bl _,v,h=>by unfold R at h ⊢; exact h
 | .int _,v,h=>by unfold R at h ⊢; exact h
 | .str _,v,h=>by unfold R at h ⊢; exact h
 | .ref _,v,h=>by unfold R at h ⊢; exact h
 | .ty _,v,h=>by unfold R at h ⊢; exact h
 | .tup ts,v,h=>by
  unfold R at h ⊢
  obtain ⟨a,vs,e,s,q⟩:=h
  exact ⟨a,vs,e,t.1 a vs s,Rs.mono t q⟩
 | .scr K a ts,v,h=>by
  unfold R at h ⊢
  obtain ⟨e,vs,s,q⟩:=h
  exact ⟨e,vs,s.mono t,Rs.mono t q⟩
theorem Rs.mono (t:Tq H H'):∀ {xs:List T} {vs:List V},Rs H vs xs→Rs H' vs xs
 | [],vs,h=>by unfold Rs at h ⊢; exact h
 | x::r,vs,h=>by
  unfold Rs at h ⊢
  obtain ⟨v,ws,e,p,q⟩:=h
  exact ⟨v,ws,e,R.mono t p,Rs.mono t q⟩
end
theorem Rs.length:∀ {xs:List T} {vs:List V},Rs H vs xs→vs.length=xs.length
 | [],vs,h=>by unfold Rs at h; subst h; rfl
 | x::r,vs,h=>by
  unfold Rs at h
  obtain ⟨v,ws,e,_,q⟩:=h
  rw [e,List.length_cons,List.length_cons,Rs.length q]
theorem Rs.get:∀ {xs:List T} {vs:List V} {i:Nat} {x:T},Rs H vs xs→xs[i]? = some x→∃ v,vs[i]? = some v∧R H v x
 | [],vs,i,x,h,e=>by simp at e
 | y::r,vs,i,x,h,e=>by
  unfold Rs at h
  obtain ⟨v,ws,e1,p,q⟩:=h
  subst e1
  cases i with
  | zero=>cases e; exact ⟨v,rfl,p⟩
  | succ i=>exact Rs.get (i:=i) q e
theorem Rs.getV {xs:List T} {vs:List V} {i:Nat} {v:V} (h:Rs H vs xs) (e:vs[i]? = some v):∃ x,xs[i]? = some x∧R H v x:=by
 have hl:=h.length
 obtain ⟨hi,_⟩:=List.getElem?_eq_some_iff.mp e
 have hi':i < xs.length:=by omega
 obtain ⟨v',e',r⟩:=h.get (i:=i) (x:=xs[i]) (by simp [hi'])
 rw [e] at e'; cases e'
 exact ⟨xs[i],by simp [hi'],r⟩
theorem Rs.app:∀ {xs ys:List T} {vs ws:List V},Rs H vs xs→Rs H ws ys→Rs H (vs++ws) (xs++ys)
 | [],ys,vs,ws,h,h'=>by unfold Rs at h; subst h; exact h'
 | x::r,ys,vs,ws,h,h'=>by
  unfold Rs at h
  obtain ⟨v,us,e,p,q⟩:=h
  subst e
  show Rs H (v::(us++ws)) (x::(r++ys))
  unfold Rs
  exact ⟨v,_,rfl,p,Rs.app q h'⟩
theorem rs_nil:Rs H [] []:=by unfold Rs; rfl
theorem rs_cons {v:V} {x:T} {vs:List V} {xs:List T} (a:R H v x) (b:Rs H vs xs):Rs H (v::vs) (x::xs):=by
 unfold Rs; exact ⟨v,vs,rfl,a,b⟩
theorem rs_inv {vs:List V} {x:T} {xs:List T} (h:Rs H vs (x::xs)):∃ v ws,vs=v::ws∧R H v x∧Rs H ws xs:=by unfold Rs at h; exact h
theorem rs_inv0 {vs:List V} (h:Rs H vs []):vs=[]:=by unfold Rs at h; exact h
theorem Rs.drop:∀ {xs:List T} {vs:List V} (n:Nat),Rs H vs xs→Rs H (vs.drop n) (xs.drop n)
 | xs,vs,0,h=>h
 | [],vs,n+1,h=>by rw [rs_inv0 h]; exact rs_nil
 | x::r,vs,n+1,h=>by
  obtain ⟨v,ws,e,_,q⟩:=rs_inv h
  subst e
  exact Rs.drop n q
theorem Rs.take:∀ {xs:List T} {vs:List V} (n:Nat),Rs H vs xs→Rs H (vs.take n) (xs.take n)
 | xs,vs,0,h=>by rw [List.take_zero,List.take_zero]; exact rs_nil
 | [],vs,n+1,h=>by rw [rs_inv0 h]; exact rs_nil
 | x::r,vs,n+1,h=>by
  obtain ⟨v,ws,e,p,q⟩:=rs_inv h
  subst e
  exact rs_cons p (Rs.take n q)
theorem Rs.reverse:∀ {xs:List T} {vs:List V},Rs H vs xs→Rs H vs.reverse xs.reverse
 | [],vs,h=>by rw [rs_inv0 h]; exact rs_nil
 | x::r,vs,h=>by
  obtain ⟨v,ws,e,p,q⟩:=rs_inv h
  subst e
  rw [List.reverse_cons,List.reverse_cons]
  exact Rs.app (Rs.reverse q) (rs_cons p rs_nil)
theorem Rs.set:∀ {xs:List T} {vs:List V} {v:V} {x:T} (n:Nat),Rs H vs xs→R H v x→Rs H (vs.set n v) (xs.set n x)
 | [],vs,v,x,n,h,p=>by rw [rs_inv0 h]; exact rs_nil
 | y::r,vs,v,x,0,h,p=>by
  obtain ⟨u,ws,e,_,q⟩:=rs_inv h
  subst e
  exact rs_cons p q
 | y::r,vs,v,x,n+1,h,p=>by
  obtain ⟨u,ws,e,p',q⟩:=rs_inv h
  subst e
  exact rs_cons p' (Rs.set n q p)
end
def Fs (H:Hp):List (Str×V)→List (Str×T)→Prop:=Paired fun (p:Str×V) (q:Str×T)=>p.1=q.1∧R H p.2 q.2
def Ks (H:Hp):List (Key×V)→List (Key×T)→Prop:=Paired fun (p:Key×V) (q:Key×T)=>p.1=q.1∧R H p.2 q.2
theorem paired_imp {α β:Type} {P Q:α→β→Prop} (h:∀ a b,P a b→Q a b):∀ {xs:List α} {ys:List β},Paired P xs ys→Paired Q xs ys
 | _,_,.nil=>.nil
 | _,_,.cons a b=>.cons (h _ _ a) (paired_imp h b)
theorem Fs.mono {H H':Hp} (t:Tq H H') {a:List (Str×V)} {b:List (Str×T)} (h:Fs H a b):Fs H' a b:=paired_imp (fun _ _ q=>⟨q.1,q.2.mono t⟩) h
theorem Ks.mono {H H':Hp} (t:Tq H H') {a:List (Key×V)} {b:List (Key×T)} (h:Ks H a b):Ks H' a b:=paired_imp (fun _ _ q=>⟨q.1,q.2.mono t⟩) h
def Ho (H:Hp) (a:Addr):O→Prop
 | .lst ts=>∃ vs,H a=some (.lst vs)∧Rs H vs ts
 | .ins C dx fs=>∃ gs,H a=some (.ins C dx gs)∧Fs H gs fs
 | .own x=>H a=some (.own x)
 | .dK kvs=>∃ us,H a=some (.dK us)∧Ks H us kvs
 | .ext φ=>H a=some (.ext φ)
 | .lam q pos=>LamT H a q pos
def HR (H:Hp) (Γ:Gp):Prop:=∀ a o,Γ a=some o→Ho H a o
structure Stp (H:Hp) (Γ:Gp) (H':Hp) (Γ':Gp):Prop where
 tq:Tq H H'
 dom:∀ a,H a≠none→H' a≠none
 new:∀ a,H a≠none→Γ a=none→Γ' a=none
 frm:∀ a o,H a=some o→Γ a=none→H' a=some o
section
variable {H H' H1:Hp} {Γ Γ' Γ1:Gp}
theorem Stp.refl:Stp H Γ H Γ:=⟨.refl,fun _ h=>h,fun _ _ h=>h,fun _ _ h _=>h⟩
theorem Stp.trans (a:Stp H Γ H1 Γ1) (b:Stp H1 Γ1 H' Γ'):Stp H Γ H' Γ':=
 ⟨a.tq.trans b.tq,fun x h=>b.dom x (a.dom x h),fun x h g=>b.new x (a.dom x h) (a.new x h g),fun x o h g=>b.frm x o (a.frm x o h g) (a.new x (by rw [h]; exact fun z=>(nomatch z)) g)⟩
theorem Ho.mono {a:Addr} {o:O} (t:Tq H H') (e:∀ u,H a=some u→H' a=some u) (h:Ho H a o):Ho H' a o:=by
 cases o with
 | lst ts=>obtain ⟨vs,h,r⟩:=h; exact ⟨vs,e _ h,r.mono t⟩
 | ins C dx fs=>obtain ⟨vs,h,r⟩:=h; exact ⟨vs,e _ h,r.mono t⟩
 | own x=>exact e _ h
 | dK kvs=>obtain ⟨vs,h,r⟩:=h; exact ⟨vs,e _ h,r.mono t⟩
 | ext φ=>exact e _ h
 | lam q pos=>
  rcases h with h | ⟨c',oc,vs,t',u,h1,h2,h3⟩
  ·exact .inl (e _ h)
  ·exact .inr ⟨c',oc,vs,t',u,e _ h1,t.2 _ _ _ h2,h3⟩
theorem Ho.some {a:Addr} {o:O} (h:Ho H a o):∃ u,H a=some u∧(∀ vs:List V,u≠.tup vs)∧∀ b w,u≠.frz b w:=by
 cases o with
 | lst ts=>obtain ⟨vs,h,r⟩:=h; exact ⟨_,h,⟨fun _ z=>(nomatch z),fun _ _ z=>(nomatch z)⟩⟩
 | ins C dx fs=>obtain ⟨vs,h,r⟩:=h; exact ⟨_,h,⟨fun _ z=>(nomatch z),fun _ _ z=>(nomatch z)⟩⟩
 | own x=>exact ⟨_,h,⟨fun _ z=>(nomatch z),fun _ _ z=>(nomatch z)⟩⟩
 | dK kvs=>obtain ⟨vs,h,r⟩:=h; exact ⟨_,h,⟨fun _ z=>(nomatch z),fun _ _ z=>(nomatch z)⟩⟩
 | ext φ=>exact ⟨_,h,⟨fun _ z=>(nomatch z),fun _ _ z=>(nomatch z)⟩⟩
 | lam q pos=>
  rcases h with h | ⟨c',oc,vs,t',u,h,_⟩
  ·exact ⟨_,h,⟨fun _ z=>(nomatch z),fun _ _ z=>(nomatch z)⟩⟩
  ·exact ⟨_,h,⟨fun _ z=>(nomatch z),fun _ _ z=>(nomatch z)⟩⟩
theorem HR.free (h:HR H Γ) {a:Addr} (n:H a=none):Γ a=none:=by
 cases e:Γ a with
 | none=>rfl
 | some o=>
  obtain ⟨u,hu,_⟩:=(h a o e).some
  rw [n] at hu; cases hu
theorem tq_kp (k:∀ b o,H b=some o→H' b=some o):Tq H H':=⟨fun a vs h=>k _ _ h,fun a o u h=>k _ _ h⟩
theorem Stp.keep (k:∀ b o,H b=some o→H' b=some o):Stp H Γ H' Γ:=
 ⟨tq_kp k,fun a h z=>by
  cases e:H a with
  | none=>exact h e
  | some o=>exact (by rw [k a o e] at z; cases z),fun _ _ h=>h,fun a o h _=>k a o h⟩
theorem HR.keep (h:HR H Γ) (k:∀ b o,H b=some o→H' b=some o):HR H' Γ:=fun a o e=>(h a o e).mono (tq_kp k) (k a)
theorem keep_new {p:Addr} {o:HO} (h:H p=none):∀ b u,H b=some u→upd H p o b=some u:=fun b u q=>by rw [upd_ne (ne_of_none q h)]; exact q
theorem Stp.make {p:Addr} {o:HO} {o3:O} (h:H p=none):Stp H Γ (upd H p o) (up Γ p o3):=by
 refine ⟨tq_kp (keep_new h),fun a q z=>?_,fun a q g=>?_,fun a u q _=>keep_new h a u q⟩
 ·by_cases e:a=p
  ·subst e; exact q h
  ·rw [upd_ne e] at z; exact q z
 ·have e:a≠p:=fun e=>q (by rw [e]; exact h)
  rw [up_ne e]; exact g
theorem HR.make (hr:HR H Γ) {p:Addr} {o:HO} {o3:O} (h:H p=none) (k:Ho (upd H p o) p o3):HR (upd H p o) (up Γ p o3):=fun a u e=>by
 by_cases z:a=p
 ·subst z; rw [up_same] at e; cases e; exact k
 ·rw [up_ne z] at e
  exact (hr a u e).mono (tq_kp (keep_new h)) fun _ q=>by rw [upd_ne z]; exact q
theorem tq_set {a:Addr} {o u:HO} (h:H a=some u) (n:(∀ vs:List V,u≠.tup vs)∧∀ b w,u≠.frz b w):Tq H (upd H a o):=⟨fun x vs q=>by
 have:x≠a:=fun e=>by subst e; rw [h] at q; exact n.1 vs (Option.some.inj q)
 rw [upd_ne this]; exact q,fun x b w q=>by
 have:x≠a:=fun e=>by subst e; rw [h] at q; exact n.2 b w (Option.some.inj q)
 rw [upd_ne this]; exact q⟩
theorem Stp.set {a:Addr} {o:HO} {o2 o3:O} (hr:HR H Γ) (g:Γ a=some o2):Stp H Γ (upd H a o) (up Γ a o3):=by
 obtain ⟨u,hu,n⟩:=(hr a o2 g).some
 refine ⟨tq_set hu n,fun x q z=>?_,fun x q g'=>?_,fun x w q g'=>?_⟩
 ·by_cases e:x=a
  ·subst e; rw [upd_same] at z; cases z
  ·rw [upd_ne e] at z; exact q z
 ·have e:x≠a:=fun e=>by subst e; rw [g] at g'; cases g'
  rw [up_ne e]; exact g'
 ·have e:x≠a:=fun e=>by subst e; rw [g] at g'; cases g'
  rw [upd_ne e]; exact q
theorem HR.set {a:Addr} {o:HO} {o2 o3:O} (hr:HR H Γ) (g:Γ a=some o2) (k:Ho (upd H a o) a o3):HR (upd H a o) (up Γ a o3):=fun x u e=>by
 obtain ⟨w,hw,n⟩:=(hr a o2 g).some
 by_cases z:x=a
 ·subst z; rw [up_same] at e; cases e; exact k
 ·rw [up_ne z] at e
  exact (hr x u e).mono (tq_set hw n) fun _ q=>by rw [upd_ne z]; exact q
theorem HR.hide {a:Addr} {o u:HO} (hr:HR H Γ) (g:Γ a=none) (h:H a=some u) (n:(∀ vs:List V,u≠.tup vs)∧∀ b w,u≠.frz b w):HR (upd H a o) Γ:=fun x w e=>by
 have z:x≠a:=fun z=>by subst z; rw [g] at e; cases e
 exact (hr x w e).mono (tq_set h n) fun _ q=>by rw [upd_ne z]; exact q
end
abbrev S3:=List (Option T)
abbrev X3:=S3→Value→Gp→Prop
abbrev K3:=T→Gp→Prop
abbrev E3:=X3→S3→Gp→K3→Prop
abbrev T3:=X3→S3→Gp→(Bool→Gp→Prop)→Prop
abbrev A3:=X3→S3→Gp→(List T→Gp→Prop)→Prop
structure D3 where
 nx:S3→Gp→Prop
 rt:K3
 bk:S3→Gp→Prop:=fun _ _=>False
 ct:S3→Gp→Prop:=fun _ _=>False
abbrev C3:=X3→D3→S3→Gp→Prop
def RO1 (H:Hp):Option V→Option T→Prop
 | _,none=>True
 | some v,some x=>R H v x
 | none,some _=>False
def RS (H:Hp):St→S3→Prop
 | [],[]=>True
 | v::r,x::q=>RO1 H v x∧RS H r q
 | _,_=>False
section
variable {H H':Hp} {Γ Γ':Gp}
theorem RO1.mono (t:Tq H H') {v:Option V} {x:Option T} (h:RO1 H v x):RO1 H' v x:=by
 cases x with
 | none=>exact trivial
 | some x=>cases v with
  | none=>exact h.elim
  | some v=>exact R.mono t h
theorem RS.mono (t:Tq H H'):∀ {σ:St} {τ:S3},RS H σ τ→RS H' σ τ
 | [],[],_=>trivial
 | _::_,_::_,h=>⟨h.1.mono t,RS.mono t h.2⟩
 | [],_::_,h=>h.elim
 | _::_,[],h=>h.elim
theorem RS.get:∀ {σ:St} {τ:S3} {i:Nat} {x:T},RS H σ τ→τ[i]? = some (some x)→∃ v,σ[i]? = some (some v)∧R H v x
 | [],[],i,x,_,e=>by simp at e
 | v::r,y::q,i,x,h,e=>by
  cases i with
  | zero=>
   cases e
   cases v with
   | none=>exact h.1.elim
   | some v=>exact ⟨v,rfl,h.1⟩
  | succ i=>exact RS.get (i:=i) h.2 e
 | [],_::_,_,_,h,_=>h.elim
 | _::_,[],_,_,h,_=>h.elim
theorem RS.set {v:V} {x:T} (r:R H v x):∀ {σ:St} {τ:S3} (i:Nat),RS H σ τ→RS H (σ.set i (some v)) (τ.set i (some x))
 | [],[],_,_=>trivial
 | _::_,_::_,0,h=>⟨r,h.2⟩
 | _::_,_::_,i+1,h=>⟨h.1,RS.set r i h.2⟩
 | [],_::_,_,h=>h.elim
 | _::_,[],_,h=>h.elim
theorem RS.len:∀ {σ:St} {τ:S3},RS H σ τ→σ.length=τ.length
 | [],[],_=>rfl
 | _::_,_::_,h=>by rw [List.length_cons,List.length_cons,RS.len h.2]
 | [],_::_,h=>h.elim
 | _::_,[],h=>h.elim
def XR (H:Hp) (Γ:Gp) (Y:X3) (E:St→XK):Prop:=∀ σ τ C H' Γ',Stp H Γ H' Γ'→HR H' Γ'→RS H' σ τ→Y τ C Γ'→E σ C none H'
theorem XR.mono {Y:X3} {E:St→XK} (x:XR H Γ Y E) (s:Stp H Γ H' Γ'):XR H' Γ' Y E:=fun σ τ C H2 Γ2 s2 h2 r y=>x σ τ C H2 Γ2 (s.trans s2) h2 r y
def VR (H:Hp) (Γ:Gp) (Z:K3) (Q:VK):Prop:=∀ v x H' Γ',Stp H Γ H' Γ'→HR H' Γ'→R H' v x→Z x Γ'→Q v H'
theorem VR.mono {Z:K3} {Q:VK} (x:VR H Γ Z Q) (s:Stp H Γ H' Γ'):VR H' Γ' Z Q:=fun v x' H2 Γ2 s2 h2 r y=>x v x' H2 Γ2 (s.trans s2) h2 r y
def NR (H:Hp) (Γ:Gp) (Z:S3→Gp→Prop) (Q:St→Hp→Prop):Prop:=∀ σ τ H' Γ',Stp H Γ H' Γ'→HR H' Γ'→RS H' σ τ→Z τ Γ'→Q σ H'
theorem NR.mono {Z:S3→Gp→Prop} {Q:St→Hp→Prop} (x:NR H Γ Z Q) (s:Stp H Γ H' Γ'):NR H' Γ' Z Q:=fun v x' H2 Γ2 s2 h2 r y=>x v x' H2 Γ2 (s.trans s2) h2 r y
structure DR (H:Hp) (Γ:Gp) (Z:D3) (Q:Ends):Prop where
 nx:NR H Γ Z.nx Q.nx
 rt:VR H Γ Z.rt Q.rt
 bk:NR H Γ Z.bk Q.bk
 ct:NR H Γ Z.ct Q.ct
theorem DR.mono {Z:D3} {Q:Ends} (x:DR H Γ Z Q) (s:Stp H Γ H' Γ'):DR H' Γ' Z Q:=⟨x.nx.mono s,x.rt.mono s,x.bk.mono s,x.ct.mono s⟩
end
section
variable (E:St→XK)
def liE (t:E3):TE:=fun σ H Q=>∃ τ Γ Y Z,RS H σ τ∧HR H Γ∧t Y τ Γ Z∧VR H Γ Z Q∧XR H Γ Y E
def liT (t:T3):TT:=fun σ H Q=>∃ τ Γ Y Z,RS H σ τ∧HR H Γ∧t Y τ Γ Z∧(∀ b H' Γ',Stp H Γ H' Γ'→HR H' Γ'→Z b Γ'→Q b H')∧XR H Γ Y E
def liA (t:A3):TA:=fun σ H Q=>∃ τ Γ Y Z,RS H σ τ∧HR H Γ∧t Y τ Γ Z∧(∀ vs xs H' Γ',Stp H Γ H' Γ'→HR H' Γ'→Rs H' vs xs→Z xs Γ'→Q vs H')∧XR H Γ Y E
def liS (t:C3):TS:=fun D σ H=>∃ τ Γ Y Z,RS H σ τ∧HR H Γ∧t Y Z τ Γ∧DR H Γ Z D∧XR H Γ Y E
end
section
variable {X:Cx} {E:St→XK}
theorem weakE {e:Expr} {t t':TE} (h:PE X e t) (w:∀ σ H Q,t' σ H Q→t σ H Q):PE X e t':=⟨fun pins s σ H Q I q=>h.run pins s σ H Q I (w _ _ _ q)⟩
theorem weakT {e:Expr} {t t':TT} (h:PT X e t) (w:∀ σ H Q,t' σ H Q→t σ H Q):PT X e t':=⟨fun pins s σ H Q I q=>h.run pins s σ H Q I (w _ _ _ q)⟩
theorem weakW {e:Expr} {t t':TT} (h:PW X e t) (w:∀ σ H Q,t' σ H Q→t σ H Q):PW X e t':=⟨fun wh pins s σ H Q I q=>h.run wh pins s σ H Q I (w _ _ _ q)⟩
theorem weakA {e:List Expr} {t t':TA} (h:PA X e t) (w:∀ σ H Q,t' σ H Q→t σ H Q):PA X e t':=⟨fun pos pins s σ H Q I q=>h.run pos pins s σ H Q I (w _ _ _ q)⟩
theorem weakS {e:Stmt} {t t':TS} (h:PS X e t) (w:∀ D σ H,t' D σ H→t D σ H):PS X e t':=⟨fun pins s σ H D I q=>h.run pins s σ H D I (w _ _ _ q)⟩
theorem weakSs {e:List Stmt} {t t':TS} (h:PSs X e t) (w:∀ D σ H,t' D σ H→t D σ H):PSs X e t':=⟨fun pins s σ H D I q=>h.run pins s σ H D I (w _ _ _ q)⟩
theorem weakG {e:Expr} {t t':TG} (h:PG X e t) (w:∀ v σ H Q,t' v σ H Q→t v σ H Q):PG X e t':=⟨fun pins s σ H v u Q I r q=>h.run pins s σ H v u Q I r (w _ _ _ _ q)⟩
theorem weakGs {e:List Expr} {t t':TGs} (h:PGs X e t) (w:∀ v σ H Q,t' v σ H Q→t v σ H Q):PGs X e t':=⟨fun pins s σ H v u Q I r q=>h.run pins s σ H v u Q I r (w _ _ _ _ q)⟩
theorem weakI {tg e:Expr} {t t':TI} (h:PI X tg e t) (w:∀ σ H Q,t' σ H Q→t σ H Q):PI X tg e t':=⟨fun pins s σ H Q I q=>h.run pins s σ H Q I (w _ _ _ q)⟩
theorem weakTs {e:List Expr} {t t':TT} (h:PTs X e t) (w:∀ σ H Q,t' σ H Q→t σ H Q):PTs X e t':=⟨fun pins s σ H Q I q=>h.run pins s σ H Q I (w _ _ _ q)⟩
theorem weakE3 {e:Expr} {t0:TE} {t:E3} (h:PE X e t0) (w:∀ σ H Q τ Γ Y Z,RS H σ τ→HR H Γ→t Y τ Γ Z→VR H Γ Z Q→XR H Γ Y E→t0 σ H Q):PE X e (liE E t):=
 weakE h (by rintro σ H Q ⟨τ,Γ,Y,Z,rs,hr,q,vr,xr⟩; exact w σ H Q τ Γ Y Z rs hr q vr xr)
theorem weakT3 {e:Expr} {t0:TT} {t:T3} (h:PT X e t0) (w:∀ σ H Q τ Γ Y Z,RS H σ τ→HR H Γ→t Y τ Γ Z→(∀ b H' Γ',Stp H Γ H' Γ'→HR H' Γ'→Z b Γ'→Q b H')→XR H Γ Y E→t0 σ H Q):PT X e (liT E t):=
 weakT h (by rintro σ H Q ⟨τ,Γ,Y,Z,rs,hr,q,vr,xr⟩; exact w σ H Q τ Γ Y Z rs hr q vr xr)
theorem weakW3 {e:Expr} {t0:TT} {t:T3} (h:PW X e t0) (w:∀ σ H Q τ Γ Y Z,RS H σ τ→HR H Γ→t Y τ Γ Z→(∀ b H' Γ',Stp H Γ H' Γ'→HR H' Γ'→Z b Γ'→Q b H')→XR H Γ Y E→t0 σ H Q):PW X e (liT E t):=
 weakW h (by rintro σ H Q ⟨τ,Γ,Y,Z,rs,hr,q,vr,xr⟩; exact w σ H Q τ Γ Y Z rs hr q vr xr)
theorem weakA3 {e:List Expr} {t0:TA} {t:A3} (h:PA X e t0) (w:∀ σ H Q τ Γ Y Z,RS H σ τ→HR H Γ→t Y τ Γ Z→(∀ vs xs H' Γ',Stp H Γ H' Γ'→HR H' Γ'→Rs H' vs xs→Z xs Γ'→Q vs H')→XR H Γ Y E→t0 σ H Q):PA X e (liA E t):=
 weakA h (by rintro σ H Q ⟨τ,Γ,Y,Z,rs,hr,q,vr,xr⟩; exact w σ H Q τ Γ Y Z rs hr q vr xr)
theorem weakTs3 {e:List Expr} {t0:TT} {t:T3} (h:PTs X e t0) (w:∀ σ H Q τ Γ Y Z,RS H σ τ→HR H Γ→t Y τ Γ Z→(∀ b H' Γ',Stp H Γ H' Γ'→HR H' Γ'→Z b Γ'→Q b H')→XR H Γ Y E→t0 σ H Q):PTs X e (liT E t):=
 weakTs h (by rintro σ H Q ⟨τ,Γ,Y,Z,rs,hr,q,vr,xr⟩; exact w σ H Q τ Γ Y Z rs hr q vr xr)
theorem weakS3 {e:Stmt} {t0:TS} {t:C3} (h:PS X e t0) (w:∀ D σ H τ Γ Y Z,RS H σ τ→HR H Γ→t Y Z τ Γ→DR H Γ Z D→XR H Γ Y E→t0 D σ H):PS X e (liS E t):=
 weakS h (by rintro D σ H ⟨τ,Γ,Y,Z,rs,hr,q,dr,xr⟩; exact w D σ H τ Γ Y Z rs hr q dr xr)
theorem weakSs3 {e:List Stmt} {t0:TS} {t:C3} (h:PSs X e t0) (w:∀ D σ H τ Γ Y Z,RS H σ τ→HR H Γ→t Y Z τ Γ→DR H Γ Z D→XR H Γ Y E→t0 D σ H):PSs X e (liS E t):=
 weakSs h (by rintro D σ H ⟨τ,Γ,Y,Z,rs,hr,q,dr,xr⟩; exact w D σ H τ Γ Y Z rs hr q dr xr)
section
variable {H:Hp}
theorem r_non:R H .non .non:=by unfold R; rfl
theorem r_bl {b:Bool}:R H (.bl b) (.bl b):=by unfold R; rfl
theorem r_int {i:Int}:R H (.int i) (.int i):=by unfold R; rfl
theorem r_str {z:Str}:R H (.str z) (.str z):=by unfold R; rfl
theorem r_ref {a:Addr}:R H (.ref a) (.ref a):=by unfold R; rfl
theorem r_tup {a:Addr} {vs:List V} {ts:List T} (h:H a=some (.tup vs)) (r:Rs H vs ts):R H (.ref a) (.tup ts):=by unfold R; exact ⟨a,vs,rfl,h,r⟩
theorem i_non {v:V} (h:R H v .non):v=.non:=by unfold R at h; exact h
theorem i_bl {v:V} {b:Bool} (h:R H v (.bl b)):v=.bl b:=by unfold R at h; exact h
theorem i_int {v:V} {b:Int} (h:R H v (.int b)):v=.int b:=by unfold R at h; exact h
theorem i_str {v:V} {b:Str} (h:R H v (.str b)):v=.str b:=by unfold R at h; exact h
theorem i_ref {v:V} {b:Addr} (h:R H v (.ref b)):v=.ref b:=by unfold R at h; exact h
theorem i_scr {K:PySem.W.Frag} {v:V} {a:Addr} {ts:List T} (h:R H v (.scr K a ts)):v=.ref a∧∃ vs,SqC K H a vs∧Rs H vs ts:=by unfold R at h; exact h
theorem r_scr {K:PySem.W.Frag} {a:Addr} {vs:List V} {ts:List T} (h:SqC K H a vs) (q:Rs H vs ts):R H (.ref a) (.scr K a ts):=by unfold R; exact ⟨rfl,vs,h,q⟩
theorem SqC.sq {K:PySem.W.Frag} {a:Addr} {vs:List V} (h:SqC K H a vs):SqL K H a vs:=by
 rcases h with ⟨o,h⟩ | h
 ·exact .inl (.inr ⟨o,h⟩)
 ·exact .inr h
theorem i_tup {v:V} {ts:List T} (h:R H v (.tup ts)):∃ a vs,v=.ref a∧H a=some (.tup vs)∧Rs H vs ts:=by unfold R at h; exact h
end
def eVar (i:Nat):E3:=fun _ τ Γ Z=>∃ x,τ[i]? = some (some x)∧Z x Γ
def eC (x:T):E3:=fun _ _ Γ Z=>Z x Γ
theorem qv (i:Nat) {x:Str} {pos:Pos} (hN:X.N[i]? = some x:=by rfl) (hv:Vis X.env.scope x:=by first | exact Or.inl rfl | exact Or.inr (Or.inl rfl) | exact Or.inr (Or.inr rfl)) (hd:(x == ("__debug__" : Str))=false:=by decide)
  (hcd:(x == ("__classdict__" : Str))=false:=by decide):PE X (.Name x pos) (liE E (eVar i)):=
 weakE3 (pe_var hN hv hd hcd) fun σ H Q τ Γ Y Z rs hr q0 vr xr=>by
  obtain ⟨x,e,z⟩:=q0
  obtain ⟨v,hv,r⟩:=rs.get e
  exact ⟨v,hv,vr v x H Γ .refl hr r z⟩
theorem q_c {e:Expr} {v:V} {x:T} (h:PE X e (tC v)) (r:∀ H,R H v x):PE X e (liE E (eC x)):=
 weakE3 h fun σ H Q τ Γ Y Z rs hr z vr xr=>vr v x H Γ .refl hr (r H) z
theorem qe_int {i j pos}:PE X (.Constant (.int i) j pos) (liE E (eC (.int i))):=q_c pe_int fun _=>r_int
theorem qe_bl {b j pos}:PE X (.Constant (.bool b) j pos) (liE E (eC (.bl b))):=q_c pe_bl fun _=>r_bl
theorem qe_str {x j pos}:PE X (.Constant (.str x) j pos) (liE E (eC (.str x))):=q_c pe_str fun _=>r_str
def GlobIs (u:Value) (x:T):Prop:=∃ v,RelV v u∧∀ H,R H v x
theorem qe_glob {x:Str} {t:T} {u:Value} {pos:Pos} (hg:Gl X x) (hm:X.mg x=some u) (r:GlobIs u t) (hd:(x == ("__debug__" : Str))=false:=by decide):PE X (.Name x pos) (liE E (eC t)):=by
 obtain ⟨v,r,h⟩:=r
 exact q_c (pe_glob hg hm r hd) h
theorem gl_int {i:Int} {u:Value} (h:RelV (.int i) u):GlobIs u (.int i):=⟨_,h,fun _=>r_int⟩
abbrev R3:=T→T→Gp→K3→Prop
def OpQ (X:Cx) (f:Value→Value→Sem Value) (r3:R3):Prop:=∃ r:R2,OpR X f r∧∀ x y a b H Γ Q Z,R H x a→R H y b→HR H Γ→r3 a b Γ Z→VR H Γ Z Q→r x y H Q
def eOp (r3:R3) (ta tb:E3):E3:=fun Y τ Γ Z=>ta Y τ Γ fun x Γ1=>tb Y τ Γ1 fun y Γ2=>r3 x y Γ2 Z
theorem op_sim {r:R2} {r3:R3} {ta tb:E3} (h:∀ x y a b H Γ Q Z,R H x a→R H y b→HR H Γ→r3 a b Γ Z→VR H Γ Z Q→r x y H Q) (σ:St) (H:Hp) (Q:VK) (q:liE E (eOp r3 ta tb) σ H Q):tOp r (liE E ta) (liE E tb) σ H Q:=by
 obtain ⟨τ,Γ,Y,Z,rs,hr,t,vr,xr⟩:=q
 refine ⟨τ,Γ,Y,_,rs,hr,t,fun v x H1 Γ1 s1 h1 r1 z1=>?_,xr⟩
 refine ⟨τ,Γ1,Y,_,rs.mono s1.tq,h1,z1,fun u y H2 Γ2 s2 h2 r2 z2=>?_,xr.mono s1⟩
 exact h v u x y H2 Γ2 Q Z (r1.mono s2.tq) r2 h2 z2 (vr.mono (s1.trans s2))
section
variable {a b c:Expr} {ta tb tc:E3} {pos:Pos} {op op':CmpOp} {r3 r3':R3}
theorem qe_op {op:Operator} (ho:OpQ X (binaryOp op) r3) (ha:PE X a (liE E ta)) (hb:PE X b (liE E tb)):PE X (.BinOp a op b pos) (liE E (eOp r3 ta tb)):=by
 obtain ⟨r,ho,h⟩:=ho
 exact weakE (pe_op ho ha hb) (op_sim h)
theorem qe_cmpR (ho:OpQ X (compareOp op) r3) (ha:PE X a (liE E ta)) (hb:PE X b (liE E tb)) (hm:behindInMarks op b=false):PE X (.Compare a [op] [b] pos) (liE E (eOp r3 ta tb)):=by
 obtain ⟨r,ho,h⟩:=ho
 exact weakE (pe_cmpR ho ha hb hm) (op_sim h)
def eT (t:E3):T3:=fun Y τ Γ Z=>t Y τ Γ fun x Γ1=>∃ k,x=.bl k∧Z k Γ1
theorem test_sim {t2:TE} {t:E3} (h:∀ σ H Q,liE E t σ H Q→t2 σ H Q) (σ:St) (H:Hp) (Q:Bool→Hp→Prop) (q:liT E (eT t) σ H Q):tTest t2 σ H Q:=by
 obtain ⟨τ,Γ,Y,Z,rs,hr,t,vr,xr⟩:=q
 refine h σ H _ ⟨τ,Γ,Y,_,rs,hr,t,fun v x H1 Γ1 s1 h1 r1 z1=>?_,xr⟩
 obtain ⟨k,rfl,z⟩:=z1
 exact ⟨k,i_bl r1,vr k H1 Γ1 s1 h1 z⟩
theorem qt_cmpR (ho:OpQ X (compareOp op) r3) (ha:PE X a (liE E ta)) (hb:PE X b (liE E tb)) (hm:behindInMarks op b=false):PT X (.Compare a [op] [b] pos) (liT E (eT (eOp r3 ta tb))):=by
 obtain ⟨r,ho,h⟩:=ho
 exact weakT (pt_cmpR ho ha hb hm) (test_sim (op_sim h))
def eChain (r r':R3) (ta tb tc:E3):E3:=fun Y τ Γ Z=>ta Y τ Γ fun x Γ1=>tb Y τ Γ1 fun y Γ2=>r x y Γ2 fun z Γ3=>∃ k,z=.bl k∧(if k=true then tc Y τ Γ3 fun w' Γ4=>r' y w' Γ4 Z else Z (.bl false) Γ3)
def eAnd (ta tb:E3):E3:=fun Y τ Γ Z=>ta Y τ Γ fun x Γ1=>∃ c,x=.bl c∧if c=true then tb Y τ Γ1 Z else Z (.bl false) Γ1
def eOr (ta tb:E3):E3:=fun Y τ Γ Z=>ta Y τ Γ fun x Γ1=>∃ c,x=.bl c∧if c=true then Z (.bl true) Γ1 else tb Y τ Γ1 Z
def eNot (ta:E3):E3:=fun Y τ Γ Z=>ta Y τ Γ fun x Γ1=>∃ c,x=.bl c∧Z (.bl (!c)) Γ1
variable {tA tB:T3}
def bAnd (t u:T3):T3:=fun Y τ Γ Z=>t Y τ Γ fun c Γ1=>if c=true then u Y τ Γ1 Z else Z false Γ1
def bOr (t u:T3):T3:=fun Y τ Γ Z=>t Y τ Γ fun c Γ1=>if c=true then Z true Γ1 else u Y τ Γ1 Z
def bNot (t:T3):T3:=fun Y τ Γ Z=>t Y τ Γ fun c Γ1=>Z (!c) Γ1
theorem qw_and1 (ha:PT X a (liT E tA)):PW X (.BoolOp .And [a] pos) (liT E tA):=pw_and1 ha
theorem qw_or1 (ha:PT X a (liT E tA)):PW X (.BoolOp .Or [a] pos) (liT E tA):=pw_or1 ha
theorem qw_and {rest:List Expr} (ha:PT X a (liT E tA)) (hb:PW X (.BoolOp .And (b::rest) pos) (liT E tB)):PW X (.BoolOp .And (a::b::rest) pos) (liT E (bAnd tA tB)):=
 weakW3 (pw_and ha hb) fun σ H Q τ Γ Y Z rs hr t vr xr=>by
  refine ⟨τ,Γ,Y,_,rs,hr,t,fun k H1 Γ1 s1 h1 z1=>?_,xr⟩
  cases k with
  | false=>exact vr _ H1 Γ1 s1 h1 z1
  | true=>exact ⟨τ,Γ1,Y,Z,rs.mono s1.tq,h1,z1,fun b H2 Γ2 s2 h2 z2=>vr b H2 Γ2 (s1.trans s2) h2 z2,xr.mono s1⟩
theorem qw_or {rest:List Expr} (ha:PT X a (liT E tA)) (hb:PW X (.BoolOp .Or (b::rest) pos) (liT E tB)):PW X (.BoolOp .Or (a::b::rest) pos) (liT E (bOr tA tB)):=
 weakW3 (pw_or ha hb) fun σ H Q τ Γ Y Z rs hr t vr xr=>by
  refine ⟨τ,Γ,Y,_,rs,hr,t,fun k H1 Γ1 s1 h1 z1=>?_,xr⟩
  cases k with
  | true=>exact vr _ H1 Γ1 s1 h1 z1
  | false=>exact ⟨τ,Γ1,Y,Z,rs.mono s1.tq,h1,z1,fun b H2 Γ2 s2 h2 z2=>vr b H2 Γ2 (s1.trans s2) h2 z2,xr.mono s1⟩
theorem qt_not (ha:PT X a (liT E tA)):PT X (.UnaryOp .Not a pos) (liT E (bNot tA)):=
 weakT3 (pt_not ha) fun σ H Q τ Γ Y Z rs hr t vr xr=>⟨τ,Γ,Y,_,rs,hr,t,fun k H1 Γ1 s1 h1 z1=>vr _ H1 Γ1 s1 h1 z1,xr⟩
theorem qt_val {e:Expr} {t:E3} (h:PE X e (liE E t)) (he:∀ whole,isTrue e X.env whole=(do let v ← whole; standAt e.pos; holding [v] (truthy v)):=by intro _; rfl):PT X e (liT E (eT t)):=
 weakT (pt_val h he) (test_sim (t2:=liE E t) fun _ _ _ q=>q)
def eIf (c:T3) (ta tb:E3):E3:=fun Y τ Γ Z=>c Y τ Γ fun k Γ1=>if k=true then ta Y τ Γ1 Z else tb Y τ Γ1 Z
theorem qe_ifExp {c:Expr} (hc:PT X c (liT E tA)) (ha:PE X a (liE E ta)) (hb:PE X b (liE E tb)):PE X (.IfExp c a b pos) (liE E (eIf tA ta tb)):=
 weakE3 (pe_ifExp hc ha hb) fun σ H Q τ Γ Y Z rs hr t vr xr=>by
  refine ⟨τ,Γ,Y,_,rs,hr,t,fun k H1 Γ1 s1 h1 z1=>?_,xr⟩
  cases k with
  | true=>exact ⟨τ,Γ1,Y,Z,rs.mono s1.tq,h1,z1,vr.mono s1,xr.mono s1⟩
  | false=>exact ⟨τ,Γ1,Y,Z,rs.mono s1.tq,h1,z1,vr.mono s1,xr.mono s1⟩
end
section
variable {e:Expr} {es:List Expr} {te:E3} {t:A3} {pos:Pos}
def aNil:A3:=fun _ _ Γ Z=>Z [] Γ
def aCons (ta:E3) (tr:A3):A3:=fun Y τ Γ Z=>ta Y τ Γ fun x Γ1=>tr Y τ Γ1 fun xs Γ2=>Z (x::xs) Γ2
theorem qa_nil:PA X [] (liA E aNil):=weakA3 pa_nil fun σ H Q τ Γ Y Z rs hr t vr xr=>vr [] [] H Γ .refl hr rs_nil t
theorem qa_cons (ha:PE X e (liE E te)) (hr:PA X es (liA E t)) (hs:starEach (e::es) X.env=(false,eval e X.env)::starEach es X.env:=by rfl):PA X (e::es) (liA E (aCons te t)):=
 weakA3 (pa_cons ha hr hs) fun σ H Q τ Γ Y Z rs hr t vr xr=>by
  refine ⟨τ,Γ,Y,_,rs,hr,t,fun v x H1 Γ1 s1 h1 r1 z1=>?_,xr⟩
  exact ⟨τ,Γ1,Y,_,rs.mono s1.tq,h1,z1,fun vs xs H2 Γ2 s2 h2 r2 z2=>vr (v::vs) (x::xs) H2 Γ2 (s1.trans s2) h2 (rs_cons (r1.mono s2.tq) r2) z2,xr.mono s1⟩
def eTup (t:A3):E3:=fun Y τ Γ Z=>t Y τ Γ fun xs Γ1=>xs.length≤sizeLine∧Z (.tup xs) Γ1
def eLst (t:A3):E3:=fun Y τ Γ Z=>t Y τ Γ fun xs Γ1=>xs.length≤sizeLine∧∀ p,Γ1 p=none→Z (.ref p) (up Γ1 p (.lst xs))
theorem qe_tup {x1} (h:PA X es (liA E t)):PE X (.Tuple es x1 pos) (liE E (eTup t)):=
 weakE3 (pe_tup h) fun σ H Q τ Γ Y Z rs hr t vr xr=>by
  refine ⟨τ,Γ,Y,_,rs,hr,t,fun vs xs H1 Γ1 s1 h1 r1 z1=>?_,xr⟩
  refine ⟨by rw [r1.length]; exact z1.1,fun p hp=>?_⟩
  have k:=keep_new (o:=.tup vs) hp
  exact vr _ _ _ Γ1 (s1.trans (.keep k)) (h1.keep k) (r_tup upd_same (r1.mono (tq_kp k))) z1.2
theorem qe_lst (h:PA X es (liA E t)):PE X (.List es pos) (liE E (eLst t)):=
 weakE3 (pe_lst h) fun σ H Q τ Γ Y Z rs hr t vr xr=>by
  refine ⟨τ,Γ,Y,_,rs,hr,t,fun vs xs H1 Γ1 s1 h1 r1 z1=>?_,xr⟩
  refine ⟨by rw [r1.length]; exact z1.1,fun p hp=>?_⟩
  have k:=keep_new (o:=.lst vs) hp
  exact vr _ _ _ _ (s1.trans (.make hp)) (h1.make (o3:=.lst xs) hp ⟨vs,upd_same,r1.mono (tq_kp k)⟩) r_ref (z1.2 p (h1.free hp))
end
abbrev Sp3:=List T→Gp→K3→(Value→Gp→Prop)→Prop
def liSp (sp:Sp3):Sp:=fun vs H Q E=>∃ ts Γ Z Y,Rs H vs ts∧HR H Γ∧sp ts Γ Z Y∧VR H Γ Z Q∧∀ C H' Γ',Stp H Γ H' Γ'→HR H' Γ'→Y C Γ'→E C none H'
abbrev Cl3 (P:Program) (w:World) (K:PySem.W.Frag) (mg:Str→Option Value) (base:Heap) (x:Str) (k:Nat) (ps:List Str) (sp:Sp3):Prop:=Callee P w K mg base x k ps (liSp sp)
def eCall (sp:Sp3) (t:A3):E3:=fun Y τ Γ Z=>t Y τ Γ fun xs Γ1=>sp xs Γ1 Z fun _ _=>False
def eCallX (sp:Sp3) (t:A3):E3:=fun Y τ Γ Z=>t Y τ Γ fun xs Γ1=>sp xs Γ1 Z (Y τ)
section
variable {x:Str} {k j:Nat} {ps:List Str} {sp:Sp3} {p pos:Pos} {e:Expr} {es:List Expr} {t:A3}
theorem qe_call (c:Cl3 X.prog X.w X.K X.mg X.base x k ps sp) (hr:Room j X.A) (hk:k≤j) (hg:Gl X x) (ha:PA X (e::es) (liA E t)) (hdb:(x == ("__debug__" : Str))=false:=by decide)
  (he:starEach (e::es) X.env=(false,eval e X.env)::starEach es X.env:=by rfl) (hpl:(backTo pos (starEach es X.env)).any (·.1)=false:=by rfl):PE X (.Call (.Name x p) (e::es) [] pos) (liE E (eCall sp t)):=
 weakE3 (pe_callC c hr hk hg ha hdb he hpl) fun σ H Q τ Γ Y Z rs hr t vr xr=>by
  refine ⟨τ,Γ,Y,_,rs,hr,t,fun vs xs H1 Γ1 s1 h1 r1 z1=>?_,xr⟩
  show liSp sp (vs++[]) H1 Q E0
  rw [List.append_nil]
  exact ⟨xs,Γ1,Z,_,r1,h1,z1,vr.mono s1,fun _ _ _ _ _ z=>z.elim⟩
end
end
section
variable {X:Cx} {E:St→XK} {st:Stmt} {sts:List Stmt} {e:Expr} {te:E3} {pos:Pos} {t u:C3}
def cNext:C3:=fun _ D τ Γ=>D.nx τ Γ
def cCont:C3:=fun _ D τ Γ=>D.ct τ Γ
def cSeq (t u:C3):C3:=fun Y D τ Γ=>t Y { D with nx:=u Y D } τ Γ
def cDrop (te:E3):C3:=fun Y D τ Γ=>te Y τ Γ fun _ Γ1=>D.nx τ Γ1
def cRet (te:E3):C3:=fun Y D τ Γ=>te Y τ Γ D.rt
def cRetN:C3:=fun _ D _ Γ=>D.rt .non Γ
def cIf (c:T3) (t u:C3):C3:=fun Y D τ Γ=>c Y τ Γ fun b Γ1=>if b=true then t Y D τ Γ1 else u Y D τ Γ1
theorem qss_nil:PSs X [] (liS E cNext):=weakSs3 pss_nil fun D σ H τ Γ Y Z rs hr t dr xr=>dr.nx σ τ H Γ .refl hr rs t
theorem qss_cons (h1:PS X st (liS E t)) (h2:PSs X sts (liS E u)):PSs X (st::sts) (liS E (cSeq t u)):=
 weakSs3 (pss_cons h1 h2) fun D σ H τ Γ Y Z rs hr t dr xr=>
  ⟨τ,Γ,Y,_,rs,hr,t,⟨fun σ' τ' H' Γ' s h r z=>⟨τ',Γ',Y,Z,r,h,z,dr.mono s,xr.mono s⟩,dr.rt,dr.bk,dr.ct⟩,xr⟩
theorem qs_expr (he:PE X e (liE E te)) (hs:swapsWith e none pos.line X.env=pure false:=by rfl):PS X (.Expr e pos) (liS E (cDrop te)):=
 weakS3 (ps_expr he hs) fun D σ H τ Γ Y Z rs hr t dr xr=>⟨τ,Γ,Y,_,rs,hr,t,fun v x H' Γ' s h r z=>dr.nx σ τ H' Γ' s h (rs.mono s.tq) z,xr⟩
theorem qs_ret (he:PE X e (liE E te)):PS X (.Return (some e) pos) (liS E (cRet te)):=
 weakS3 (ps_ret he) fun D σ H τ Γ Y Z rs hr t dr xr=>⟨τ,Γ,Y,_,rs,hr,t,dr.rt,xr⟩
theorem qs_if {c:Expr} {a b:List Stmt} {tc:T3} (hc:PT X c (liT E tc)) (ha:PSs X a (liS E t)) (hb:PSs X b (liS E u)):PS X (.If c a b pos) (liS E (cIf tc t u)):=
 weakS3 (ps_if hc ha hb) fun D σ H τ Γ Y Z rs hr t dr xr=>by
  refine ⟨τ,Γ,Y,_,rs,hr,t,fun k H1 Γ1 s1 h1 z1=>?_,xr⟩
  cases k with
  | true=>exact ⟨τ,Γ1,Y,Z,rs.mono s1.tq,h1,z1,dr.mono s1,xr.mono s1⟩
  | false=>exact ⟨τ,Γ1,Y,Z,rs.mono s1.tq,h1,z1,dr.mono s1,xr.mono s1⟩
def cCut (t:C3):C3:=fun Y D τ Γ=>∃ P:S3→Gp→Prop,t Y { D with nx:=P } τ Γ∧∀ τ Γ,P τ Γ→D.nx τ Γ
theorem qs_cut (h:PS X st (liS E t)):PS X st (liS E (cCut t)):=
 weakS3 h fun D σ H τ Γ Y Z rs hr q0 dr xr=>by obtain ⟨P,t,k⟩:=q0; exact ⟨τ,Γ,Y,_,rs,hr,t,⟨fun σ' τ' H' Γ' s h r z=>dr.nx σ' τ' H' Γ' s h r (k _ _ z),dr.rt,dr.bk,dr.ct⟩,xr⟩
abbrev G3:=X3→T→S3→Gp→(S3→Gp→Prop)→Prop
abbrev Gs3:=X3→List T→S3→Gp→(S3→Gp→Prop)→Prop
def liG (E:St→XK) (g:G3):TG:=fun v σ H Q=>∃ x τ Γ Y Z,R H v x∧RS H σ τ∧HR H Γ∧g Y x τ Γ Z∧NR H Γ Z Q∧XR H Γ Y E
def liGs (E:St→XK) (g:Gs3):TGs:=fun v σ H Q=>∃ x τ Γ Y Z,Rs H v x∧RS H σ τ∧HR H Γ∧g Y x τ Γ Z∧NR H Γ Z Q∧XR H Γ Y E
theorem weakG3 {e:Expr} {t0:TG} {t:G3} (h:PG X e t0) (w:∀ v σ H Q x τ Γ Y Z,R H v x→RS H σ τ→HR H Γ→t Y x τ Γ Z→NR H Γ Z Q→XR H Γ Y E→t0 v σ H Q):PG X e (liG E t):=
 weakG h (by rintro v σ H Q ⟨x,τ,Γ,Y,Z,r,rs,hr,q,nr,xr⟩; exact w v σ H Q x τ Γ Y Z r rs hr q nr xr)
theorem weakGs3 {e:List Expr} {t0:TGs} {t:Gs3} (h:PGs X e t0) (w:∀ v σ H Q x τ Γ Y Z,Rs H v x→RS H σ τ→HR H Γ→t Y x τ Γ Z→NR H Γ Z Q→XR H Γ Y E→t0 v σ H Q):PGs X e (liGs E t):=
 weakGs h (by rintro v σ H Q ⟨x,τ,Γ,Y,Z,r,rs,hr,q,nr,xr⟩; exact w v σ H Q x τ Γ Y Z r rs hr q nr xr)
def hName (i:Nat):G3:=fun _ x τ Γ Z=>Z (τ.set i (some x)) Γ
def hNil:Gs3:=fun _ xs τ Γ Z=>xs=[]∧Z τ Γ
def hCons (g:G3) (gs:Gs3):Gs3:=fun Y xs τ Γ Z=>∃ x r,xs=x::r∧g Y x τ Γ fun τ1 Γ1=>gs Y r τ1 Γ1 Z
def hTup (n:Nat) (gs:Gs3):G3:=fun Y x τ Γ Z=>∃ ts,x=.tup ts∧ts.length=n∧gs Y ts τ Γ Z
theorem qg_name {i:Nat} {x:Str} (hN:X.N.Nodup) (hi:X.N[i]? = some x) (hx:Loc X.env.scope x) (hf:X.fn x=true∨X.env.scope.names.lookup x=some .local:=by first | exact .inl rfl | exact .inr rfl | assumption):PG X (.Name x pos) (liG E (hName i)):=
 weakG3 (pg_name hN hi hx hf) fun v σ H Q x τ Γ Y Z r rs hr t nr xr=>nr _ _ H Γ .refl hr (rs.set r i) t
theorem qgs_nil:PGs X [] (liGs E hNil):=weakGs3 pgs_nil fun v σ H Q x τ Γ Y Z r rs hr q0 nr xr=>by
 obtain ⟨e,t⟩:=q0
 subst e
 exact ⟨rs_inv0 r,nr _ _ H Γ .refl hr rs t⟩
theorem qgs_cons {es:List Expr} {g:G3} {gs:Gs3} (h1:PG X e (liG E g)) (h2:PGs X es (liGs E gs)) (hs:(assignEach (e::es) X.env).map (·.2)=assign e X.env::(assignEach es X.env).map (·.2):=by rfl):PGs X (e::es) (liGs E (hCons g gs)):=
 weakGs3 (pgs_cons h1 h2 hs) fun v σ H Q x τ Γ Y Z r rs hr q0 nr xr=>by
  obtain ⟨y,ys,e,t⟩:=q0
  subst e
  obtain ⟨w,ws,rfl,r1,r2⟩:=rs_inv r
  refine ⟨w,ws,rfl,y,τ,Γ,Y,_,r1,rs,hr,t,fun σ' τ' H' Γ' s h r z=>?_,xr⟩
  exact ⟨ys,τ',Γ',Y,Z,r2.mono s.tq,r,h,z,nr.mono s,xr.mono s⟩
theorem qg_tup {es:List Expr} {k:Nat} {gs:Gs3} {n:Nat} (hc:X.calm=true) (h:PGs X es (liGs E gs))
  (hn:(assignEach es X.env).length=n:=by rfl) (hst:(assignEach es X.env).findIdx? (·.1)=none:=by rfl):PG X (.Tuple es k pos) (liG E (hTup n gs)):=
 weakG3 (pg_tup hc h hn hst) fun v σ H Q x τ Γ Y Z r rs hr q0 nr xr=>by
  obtain ⟨ts,e,l,t⟩:=q0
  subst e
  obtain ⟨a,vs,rfl,ha,r⟩:=i_tup r
  exact ⟨a,vs,rfl,SqT.of ha,by rw [r.length]; exact l,ts,τ,Γ,Y,Z,r,rs,hr,t,nr,xr⟩
def hSub (to ti:E3):G3:=fun Y v τ Γ Z=>to Y τ Γ fun o Γ1=>ti Y τ Γ1 fun i Γ2=>∃ a ts k j,o=.ref a∧i=.int k∧Γ2 a=some (.lst ts)∧ixN ts.length k=some j∧Z τ (up Γ2 a (.lst (ts.set j v)))
theorem qg_sub {o i:Expr} {to ti:E3} (ho:PE X o (liE E to)) (hi:PE X i (liE E ti))
  (ha:∀ v,assign (.Subscript o i pos) X.env v=(do
   let ov ← holding [v] (eval o X.env)
   let iv ← holding [v,ov] (eval i X.env)
   standAt pos
   holding [v,ov,iv] (setItem ov iv v)
   release [v,ov,iv] []):=by intro _; rfl):PG X (.Subscript o i pos) (liG E (hSub to ti)):=
 weakG3 (pg_sub ho hi set_list ha) fun v σ H Q x τ Γ Y Z r rs hr t nr xr=>by
  refine ⟨τ,Γ,Y,_,rs,hr,t,fun ov o H1 Γ1 s1 h1 r1 z1=>?_,xr⟩
  refine ⟨τ,Γ1,Y,_,rs.mono s1.tq,h1,z1,fun iv i H2 Γ2 s2 h2 r2 z2=>?_,xr.mono s1⟩
  obtain ⟨a,ts,k,j,rfl,rfl,ga,hj,z⟩:=z2
  obtain ⟨vs,hv,rv⟩:=h2 a _ ga
  refine ⟨a,vs,k,j,i_ref r1,i_int r2,hv,by rw [rv.length]; exact hj,?_⟩
  have s3:Stp H2 Γ2 (upd H2 a (.lst (vs.set j v))) (up Γ2 a (.lst (ts.set j x))):=.set h2 ga
  exact nr σ τ _ _ ((s1.trans s2).trans s3) (h2.set ga ⟨_,upd_same,Rs.set j (rv.mono s3.tq) (r.mono ((s1.trans s2).trans s3).tq)⟩) (rs.mono ((s1.trans s2).trans s3).tq) z
def cAsg (te:E3) (g:G3):C3:=fun Y D τ Γ=>te Y τ Γ fun x Γ1=>g Y x τ Γ1 D.nx
theorem asg_sim {te:E3} {g:G3} (D:Ends) (σ:St) (H:Hp) (q:liS E (cAsg te g) D σ H):tAsg (liE E te) (liG E g) D σ H:=by
 obtain ⟨τ,Γ,Y,Z,rs,hr,t,dr,xr⟩:=q
 exact ⟨τ,Γ,Y,_,rs,hr,t,fun v x H1 Γ1 s1 h1 r1 z1=>⟨x,τ,Γ1,Y,_,r1,rs.mono s1.tq,h1,z1,dr.nx.mono s1,xr.mono s1⟩,xr⟩
theorem qs_asg {tg e:Expr} {te:E3} {g:G3} (he:PE X e (liE E te)) (hg:PG X tg (liG E g)) (hs:swapsWithSole [tg] e pos.line X.env=pure false:=by rfl) (hw:swappedStores [tg] e X.env=pure none:=by rfl)
  (h1:(assignEach [tg] X.env).map (·.2)=[assign tg X.env]:=by rfl):PS X (.Assign [tg] e pos) (liS E (cAsg te g)):=weakS (ps_asg he hg hs hw h1) asg_sim
def cSet (i:Nat) (te:E3):C3:=fun Y D τ Γ=>te Y τ Γ fun x Γ1=>D.nx (τ.set i (some x)) Γ1
theorem qs_set {i:Nat} {x:Str} {e:Expr} {te:E3} {pos':Pos} (hN:X.N.Nodup) (hi:X.N[i]? = some x) (hx:Loc X.env.scope x) (he:PE X e (liE E te)) (hs:swapsWith e (some (.Name x pos')) pos.line X.env=pure false:=by rfl) (hf:X.fn x=true∨X.env.scope.names.lookup x=some .local:=by first | exact .inl rfl | exact .inr rfl | assumption) :
  PS X (.Assign [.Name x pos'] e pos) (liS E (cSet i te)):=weakS3 (ps_set hN hi hx he hs hf) fun D σ H τ Γ Y Z rs hr t dr xr=>
   ⟨τ,Γ,Y,_,rs,hr,t,fun v x H1 Γ1 s1 h1 r1 z1=>dr.nx _ _ H1 Γ1 s1 h1 ((rs.mono s1.tq).set r1 i) z1,xr⟩
structure Walks (J:It) (ts:List T) (gd:Gp→Prop) (H0:Hp):Prop where
 go:∀ i H Γ,Tq H0 H→HR H Γ→gd Γ→i < ts.length→J.go i H
 yld:∀ i H Γ x H',Tq H0 H→HR H Γ→gd Γ→i < ts.length→J.yld i H x H'→Stp H Γ H' Γ∧HR H' Γ∧∃ t,ts[i]? = some t∧R H' x t
 stop:∀ H Γ,Tq H0 H→HR H Γ→gd Γ→J.stop ts.length H
abbrev I3:=X3→S3→Gp→(List T→(Gp→Prop)→Gp→Prop)→Prop
def liI (E:St→XK) (wi:I3):TI:=fun σ H Q=>∃ τ Γ Y Z,RS H σ τ∧HR H Γ∧wi Y τ Γ Z∧(∀ J ts gd H' Γ',Stp H Γ H' Γ'→HR H' Γ'→Walks J ts gd H'→Z ts gd Γ'→Q J H')∧XR H Γ Y E
theorem weakI3 {tg e:Expr} {t0:TI} {t:I3} (h:PI X tg e t0) (w:∀ σ H Q τ Γ Y Z,RS H σ τ→HR H Γ→t Y τ Γ Z→(∀ J ts gd H' Γ',Stp H Γ H' Γ'→HR H' Γ'→Walks J ts gd H'→Z ts gd Γ'→Q J H')→XR H Γ Y E→t0 σ H Q):PI X tg e (liI E t):=
 weakI h (by rintro σ H Q ⟨τ,Γ,Y,Z,rs,hr,q,vr,xr⟩; exact w σ H Q τ Γ Y Z rs hr q vr xr)
def wFor (gd:Gp→Prop) (g:G3) (tb:C3) (Y:X3) (D:D3) (ts:List T) (τ:S3) (Γ:Gp):Prop:=∃ P:List T→S3→Gp→Prop,P ts τ Γ∧(∀ τ Γ,P [] τ Γ→gd Γ∧D.nx τ Γ) ∧
 ∀ x r τ Γ,P (x::r) τ Γ→gd Γ∧g Y x τ Γ fun τ2 Γ2=>tb Y { D with nx:=P r,ct:=P r,bk:=D.nx } τ2 Γ2
def cFor (wi:I3) (g:G3) (tb:C3):C3:=fun Y D τ Γ=>wi Y τ Γ fun ts gd Γ1=>wFor gd g tb Y D ts τ Γ1
theorem drop_cons {α:Type} {xs:List α} {i:Nat} (h:i < xs.length):xs.drop i=xs[i]::xs.drop (i+1):=List.drop_eq_getElem_cons h
theorem qs_for {iter:Expr} {body:List Stmt} {wi:I3} {g:G3} {tb:C3} {tg:Expr} (hp:PassesOwn (model X.prog X.w) X.A X.env X.xe) (hc:X.calm=true) (hi:PI X tg iter (liI E wi)) (hg:PG X tg (liG E g)) (hb:PSs X body (liS E tb))
  (hs:∀ x,foldedSetIterable iter X.env x=pure x:=by intro _; rfl):PS X (.For tg iter body [] pos) (liS E (cFor wi g tb)):=
 weakS3 (ps_for hp hc hi hg hb hs) fun D σ H τ Γ Y Z rs hr t dr xr=>by
  refine ⟨τ,Γ,Y,_,rs,hr,t,fun J ts gd H1 Γ1 s1 h1 wk ⟨P,z1,p0,pc⟩=>?_,xr⟩
  refine ⟨fun i m σ' H'=>∃ τ' Γ',i≤ts.length∧m=ts.length-i∧RS H' σ' τ'∧HR H' Γ'∧Stp H1 Γ1 H' Γ'∧P (ts.drop i) τ' Γ',⟨ts.length,τ,Γ1,Nat.zero_le _,rfl,rs.mono s1.tq,h1,.refl,z1⟩,?_⟩
  rintro i m σ2 H2 ⟨τ2,Γ2,hi,rfl,rs2,h2,s2,w2⟩
  by_cases hlt:i < ts.length
  ·rw [drop_cons hlt] at w2
   obtain ⟨g2,w2⟩:=pc _ _ _ _ w2
   refine .inr ⟨wk.go i H2 Γ2 s2.tq h2 g2 hlt,fun σ' H'=>∃ τ' Γ',RS H' σ' τ'∧HR H' Γ'∧Stp H1 Γ1 H' Γ'∧P (ts.drop (i+1)) τ' Γ',fun σ' H' ⟨τ',Γ',a,b,c,d⟩=>⟨ts.length-(i+1),by omega,τ',Γ',hlt,rfl,a,b,c,d⟩,fun x H3 yl=>?_⟩
   obtain ⟨s3,h3,x3,e3,r3⟩:=wk.yld i H2 Γ2 x H3 s2.tq h2 g2 hlt yl
   rw [List.getElem?_eq_getElem hlt] at e3
   cases e3
   refine ⟨_,τ2,Γ2,Y,_,r3,rs2.mono s3.tq,h3,w2,fun σ4 τ4 H4 Γ4 s4 h4 r4 z4=>?_,xr.mono ((s1.trans s2).trans s3)⟩
   have s5:=(s2.trans s3).trans s4
   refine ⟨τ4,Γ4,Y,_,r4,h4,z4,⟨fun σ' τ' H' Γ' s h r z=>⟨τ',Γ',r,h,s5.trans s,z⟩,dr.rt.mono (s1.trans s5),dr.nx.mono (s1.trans s5),fun σ' τ' H' Γ' s h r z=>⟨τ',Γ',r,h,s5.trans s,z⟩⟩,xr.mono (s1.trans s5)⟩
  ·have e:i=ts.length:=by omega
   subst e
   rw [List.drop_length] at w2
   have w2:=p0 _ _ w2
   exact .inl ⟨wk.stop H2 Γ2 s2.tq h2 w2.1,dr.nx σ2 τ2 H2 Γ2 (s1.trans s2) h2 rs2 w2.2⟩
def cWhile (c:T3) (tb:C3):C3:=fun Y D τ Γ=>∃ W:Nat→S3→Gp→Prop,(∃ m,W m τ Γ)∧∀ m τ Γ,W m τ Γ →
 c Y τ Γ fun b Γ1=>if b=true then ∃ N:S3→Gp→Prop,(∀ τ' Γ',N τ' Γ'→∃ m',m' < m∧W m' τ' Γ')∧tb Y { D with nx:=N,ct:=N,bk:=D.nx } τ Γ1 else D.nx τ Γ1
theorem qs_while {c:Expr} {body:List Stmt} {tc:T3} {tb:C3} (hp:PassesOwn (model X.prog X.w) X.A X.env X.xe) (hc:PT X c (liT E tc)) (hb:PSs X body (liS E tb)):PS X (.While c body [] pos) (liS E (cWhile tc tb)):=
 weakS3 (ps_while hp hc hb) fun D σ H τ Γ Y Z rs hr q0 dr xr=>by
  obtain ⟨W,⟨m0,w0⟩,turn⟩:=q0
  refine ⟨fun m σ' H'=>∃ τ' Γ',RS H' σ' τ'∧HR H' Γ'∧Stp H Γ H' Γ'∧W m τ' Γ',⟨m0,τ,Γ,rs,hr,.refl,w0⟩,?_⟩
  rintro m σ1 H1 ⟨τ1,Γ1,rs1,h1,s1,w1⟩
  refine ⟨τ1,Γ1,Y,_,rs1,h1,turn m τ1 Γ1 w1,fun k H2 Γ2 s2 h2 z2=>?_,xr.mono s1⟩
  cases k with
  | false=>exact dr.nx σ1 τ1 H2 Γ2 (s1.trans s2) h2 (rs1.mono s2.tq) z2
  | true=>
   obtain ⟨N,hN,z2⟩:=z2
   refine ⟨fun σ' H'=>∃ τ' Γ',RS H' σ' τ'∧HR H' Γ'∧Stp H Γ H' Γ'∧N τ' Γ',fun σ' H' ⟨τ',Γ',a,b,c,d⟩=>?_,?_⟩
   ·obtain ⟨m',hm,w'⟩:=hN τ' Γ' d
    exact ⟨m',hm,τ',Γ',a,b,c,w'⟩
   ·have s3:=s1.trans s2
    exact ⟨τ1,Γ2,Y,_,rs1.mono s2.tq,h2,z2,⟨fun σ' τ' H' Γ' s h r z=>⟨τ',Γ',r,h,s3.trans s,z⟩,dr.rt.mono s3,dr.nx.mono s3,fun σ' τ' H' Γ' s h r z=>⟨τ',Γ',r,h,s3.trans s,z⟩⟩,xr.mono s3⟩
def cSt (own:List Str) (cap:List (Nat×Str)) (τ:S3):S3:=List.replicate own.length none++cap.map fun p=>(τ[p.1]?).getD none
theorem rs_app {H:Hp}:∀ {a:St} {b:S3} {c:St} {d:S3},RS H a b→RS H c d→RS H (a++c) (b++d)
 | [],[],_,_,_,h=>h
 | _::_,_::_,_,_,h,q=>⟨h.1,rs_app h.2 q⟩
 | [],_::_,_,_,h,_=>h.elim
 | _::_,[],_,_,h,_=>h.elim
theorem rs_rep {H:Hp}:∀ n:Nat,RS H (List.replicate n none) (List.replicate n none)
 | 0=>trivial
 | n+1=>⟨trivial,rs_rep n⟩
theorem rs_comp {H:Hp} {σ:St} {τ:S3} (own:List Str) (h:RS H σ τ):∀ cap:List (Nat×Str),RS H (compSt own cap σ) (cSt own cap τ):=fun cap=>by
 refine rs_app (rs_rep _) ?_
 induction cap with
 | nil=>exact trivial
 | cons p r ih=>
  refine ⟨?_,ih⟩
  show RO1 H ((σ[p.1]?).getD none) ((τ[p.1]?).getD none)
  cases e:τ[p.1]? with
  | none=>exact trivial
  | some o=>
   cases o with
   | none=>exact trivial
   | some x=>
    obtain ⟨v,ev,rv⟩:=h.get e
    rw [ev]
    exact rv
abbrev Y0:X3:=fun _ _ _=>False
def wComp (gd:Gp→Prop) (g:G3) (tc:T3) (te:E3) (C:List T→Gp→Prop) (ts:List T) (τ:S3) (ys:List T) (Γ:Gp):Prop:=∃ P:List T→S3→List T→Gp→Prop,P ts τ ys Γ∧(∀ τ ys Γ,P [] τ ys Γ→gd Γ∧C ys Γ) ∧
 ∀ x r τ ys Γ,P (x::r) τ ys Γ→gd Γ∧g Y0 x τ Γ fun τ3 Γ3=>tc Y0 τ3 Γ3 fun b Γ4=>if b=true then te Y0 τ3 Γ4 fun y Γ5=>P r τ3 (ys++[y]) Γ5 else P r τ3 ys Γ4
def eComp (wi:I3) (g:G3) (tc:T3) (te:E3) (own:List Str) (cap:List (Nat×Str)):E3:=fun Y τ Γ Z=>wi Y τ Γ fun ts gd Γ1=>ts.length≤sizeLine ∧
 wComp gd g tc te (fun ys Γ2=>∀ D,Γ2 D=none→Z (.ref D) (up Γ2 D (.lst ys))) ts (cSt own cap τ) [] Γ1
abbrev EN:St→XK:=fun _=>E0
theorem xr0 {H:Hp} {Γ:Gp}:XR H Γ Y0 EN:=fun _ _ _ _ _ _ _ _ z=>z.elim
theorem comp_sim {wi:I3} {g:G3} {tc:T3} {te:E3} {own:List Str} {cap:List (Nat×Str)} (σ:St) (H:Hp) (Q:VK) (q:liE E (eComp wi g tc te own cap) σ H Q):tComp (liI E wi) (liG EN g) (liT EN tc) (liE EN te) own cap σ H Q:=by
 obtain ⟨τ,Γ,Y,Z,rs,hr,t,vr,xr⟩:=q
 refine ⟨τ,Γ,Y,_,rs,hr,t,fun J ts gd H1 Γ1 s1 h1 wk ⟨hz,P,z1,p0,pc⟩=>?_,xr⟩
 intro D hD
 have nl:∀ vs:List V,(∀ us:List V,HO.lst vs≠.tup us)∧∀ b w,HO.lst vs≠.frz b w:=fun _=>⟨fun _ z=>(nomatch z),fun _ _ z=>(nomatch z)⟩
 refine ⟨fun i m σ' vs H'=>∃ τ' ys Γ',i≤ts.length∧m=ts.length-i∧vs.length≤i∧RS H' σ' τ'∧HR H' Γ'∧H' D=some (.lst vs)∧Γ' D=none∧Rs H' vs ys∧Stp H1 Γ1 H' Γ'∧P (ts.drop i) τ' ys Γ',
  ⟨ts.length,cSt own cap τ,[],Γ1,Nat.zero_le _,rfl,Nat.le_refl _,(rs_comp own (rs.mono s1.tq) cap).mono (tq_kp (keep_new hD)),h1.keep (keep_new hD),upd_same,h1.free hD,rs_nil,.keep (keep_new hD),z1⟩,?_⟩
 rintro i m σ2 vs H2 ⟨τ2,ys,Γ2,hi,rfl,hv,rs2,h2,d2,gD,ry,s2,w2⟩
 refine ⟨d2,?_⟩
 by_cases hlt:i < ts.length
 ·rw [drop_cons hlt] at w2
  obtain ⟨g2,w2⟩:=pc _ _ _ _ _ w2
  refine .inr ⟨wk.go i H2 Γ2 s2.tq h2 g2 hlt,by omega,fun σ' ws H'=>∃ τ' ys Γ',ws.length≤i+1∧RS H' σ' τ'∧HR H' Γ'∧H' D=some (.lst ws)∧Γ' D=none∧Rs H' ws ys∧Stp H1 Γ1 H' Γ'∧P (ts.drop (i+1)) τ' ys Γ',
   fun σ' ws H' ⟨τ',ys,Γ',a,b,c,d,e,f,k,l⟩=>⟨ts.length-(i+1),by omega,τ',ys,Γ',hlt,rfl,a,b,c,d,e,f,k,l⟩,fun x H3 yl=>?_⟩
  obtain ⟨s3,h3,x3,e3,r3⟩:=wk.yld i H2 Γ2 x H3 s2.tq h2 g2 hlt yl
  rw [List.getElem?_eq_getElem hlt] at e3
  cases e3
  refine ⟨_,τ2,Γ2,Y0,_,r3,rs2.mono s3.tq,h3,w2,fun σ4 τ4 H4 Γ4 s4 h4 r4 z4=>?_,xr0⟩
  refine ⟨τ4,Γ4,Y0,_,r4,h4,z4,fun k H5 Γ5 s5 h5 z5=>?_,xr0⟩
  have s35:=(s3.trans s4).trans s5
  have d5:H5 D=some (.lst vs):=s35.frm D _ d2 gD
  have g5:Γ5 D=none:=s35.new D (by rw [d2]; exact fun z=>nomatch z) gD
  cases k with
  | false=>exact ⟨τ4,ys,Γ5,Nat.le_succ_of_le hv,r4.mono s5.tq,h5,d5,g5,ry.mono s35.tq,s2.trans s35,z5⟩
  | true=>
   refine ⟨τ4,Γ5,Y0,_,r4.mono s5.tq,h5,z5,fun y y' H6 Γ6 s6 h6 r6 z6=>?_,xr0⟩
   have s36:=s35.trans s6
   have d6:H6 D=some (.lst vs):=s36.frm D _ d2 gD
   have g6:Γ6 D=none:=s36.new D (by rw [d2]; exact fun z=>nomatch z) gD
   have tq:Tq H6 (upd H6 D (.lst (vs++[y]))):=tq_set d6 (nl vs)
   refine ⟨d6,τ4,ys++[y'],Γ6,by rw [List.length_append]; exact Nat.succ_le_succ hv,(r4.mono (s5.trans s6).tq).mono tq,h6.hide g6 d6 (nl vs),upd_same,g6,Rs.app ((ry.mono s36.tq).mono tq) (rs_cons (r6.mono tq) rs_nil),?_,z6⟩
   have s7:=s2.trans s36
   refine ⟨s7.tq.trans tq,fun a h z=>?_,s7.new,fun a o h g=>?_⟩
   ·by_cases e:a=D
    ·subst e; exact h hD
    ·rw [upd_ne e] at z; exact s7.dom a h z
   ·have e:a≠D:=fun e=>by subst e; rw [hD] at h; cases h
    rw [upd_ne e]; exact s7.frm a o h g
 ·have e:i=ts.length:=by omega
  subst e
  rw [List.drop_length] at w2
  have w2:=p0 _ _ _ w2
  refine .inl ⟨wk.stop H2 Γ2 s2.tq h2 w2.1,?_⟩
  have s12:=s1.trans s2
  refine vr (.ref D) (.ref D) H2 (up Γ2 D (.lst ys)) ⟨s12.tq,s12.dom,fun a h g=>?_,s12.frm⟩ (fun a o g=>?_) r_ref (w2.2 D gD)
  ·have e:a≠D:=fun e=>by subst e; exact s1.dom _ h hD
   rw [up_ne e]; exact s12.new a h g
  ·by_cases e:a=D
   ·subst e; rw [up_same] at g; cases g; exact ⟨vs,d2,ry⟩
   ·rw [up_ne e] at g; exact h2 a o g
section
variable {scope:Scope} {cl:List (Str×Addr)} {own:List Str} {cap:List (Nat×Str)} {tg iter elt:Expr} {ifs:List Expr} {wi:I3} {g:G3} {tc:T3} {te:E3}
theorem qe_comp (c:CompOk X scope cl own cap) (hc:X.calm=true) (hi:PI X tg iter (liI E wi))
  (hg:∀ C s H fp,PG (compCx X (own++cap.map (·.2)) scope cl C s H fp fun _ _=>False) tg (liG EN g)) (ht:∀ C s H fp,PTs (compCx X (own++cap.map (·.2)) scope cl C s H fp fun _ _=>False) ifs (liT EN tc))
  (he:∀ C s H fp,PE (compCx X (own++cap.map (·.2)) scope cl C s H fp fun _ _=>False) elt (liE EN te)) (hs:∀ x,foldedSetIterable iter X.env x=pure x:=by intro _; rfl) :
  PE X (.ListComp elt [⟨tg,iter,ifs,0⟩] scope pos) (liE E (eComp wi g tc te own cap)):=weakE (pe_comp c hc hi hg ht he hs) comp_sim
theorem qs_comp {i:Nat} {y:Str} {py spos:Pos} (c:CompOk X scope cl own cap) (hc:X.calm=true) (hi:PI X tg iter (liI E wi))
  (hg:∀ C s H fp,PG (compCx X (own++cap.map (·.2)) scope cl C s H fp fun _ _=>False) tg (liG EN g)) (ht:∀ C s H fp,PTs (compCx X (own++cap.map (·.2)) scope cl C s H fp fun _ _=>False) ifs (liT EN tc))
  (he:∀ C s H fp,PE (compCx X (own++cap.map (·.2)) scope cl C s H fp fun _ _=>False) elt (liE EN te))
  (hN:X.N.Nodup) (hy:X.N[i]? = some y) (hl:X.env.scope.names.lookup y=some .local)
  (hsw:swapsWith (.ListComp elt [⟨tg,iter,ifs,0⟩] scope pos) (some (.Name y py)) spos.line X.env=pure true:=by rfl) (hs:∀ x,foldedSetIterable iter X.env x=pure x:=by intro _; rfl) :
  PS X (.Assign [.Name y py] (.ListComp elt [⟨tg,iter,ifs,0⟩] scope pos) spos) (liS E (cSet i (eComp wi g tc te own cap))):=
 weakS3 (ps_comp c hc hi hg ht he hN hy hl hsw hs) fun D σ H τ Γ Y Z rs hr t dr xr=>
  comp_sim σ H _ ⟨τ,Γ,Y,_,rs,hr,t,fun v x H1 Γ1 s1 h1 r1 z1=>dr.nx _ _ H1 Γ1 s1 h1 ((rs.mono s1.tq).set r1 i) z1,xr⟩
def bTrue:T3:=fun _ _ Γ Z=>Z true Γ
theorem qts_nil:PTs X [] (liT E bTrue):=weakTs3 pts_nil fun σ H Q τ Γ Y Z rs hr t vr xr=>vr true H Γ .refl hr t
end
end
def start3:List Str→List T→S3
 | [],_=>[]
 | _::N,[]=>none::start3 N []
 | _::N,t::ts=>some t::start3 N ts
theorem rs_start0 {H:Hp}:∀ N:List Str,RS H (List.replicate N.length none) (start3 N [])
 | []=>trivial
 | _::N=>⟨trivial,rs_start0 N⟩
theorem rs_start {H:Hp}:∀ (N:List Str) {vs:List V} {ts:List T},Rs H vs ts→ts.length≤N.length→RS H (L2.start N vs) (start3 N ts)
 | N,vs,[],h,_=>by
  rw [rs_inv0 h]
  exact rs_start0 N
 | [],vs,t::ts,h,l=>absurd l (by simp)
 | n::N,vs,t::ts,h,l=>by
  obtain ⟨v,ws,rfl,a,b⟩:=rs_inv h
  have:=rs_start N b (by simpa using l)
  refine ⟨a,?_⟩
  unfold L2.start at this
  rw [List.length_cons,List.length_cons,Nat.add_sub_add_right]
  exact this
theorem sc_len {N ps:List Str} {sc:Scope} (S:FnScope N ps sc):ps.length≤N.length:=by
 have:=congrArg List.length S.pre
 rw [List.length_take] at this
 omega
section
variable {P:Program} {w:World} {K:PySem.W.Frag} {mg:Str→Option Value} {base:Heap}
end
section
variable {X:Cx} {x:Str} {C:Addr} {bmB:List Value} {B newId initId:String} {np cpos pos:Pos} {e₀:Expr} {rest:List Expr} {t:A3} {E:XK}
def cRaise (C:Addr) (t:A3):C3:=fun Y D τ Γ=>t Y τ Γ fun xs Γ1=>xs.length≤sizeLine∧Y τ (.ref C) Γ1
end
section
variable {X:Cx} {E:St→XK} {body suite:List Stmt} {b₀:Stmt} {y n:Str} {np hpos pos:Pos} {Cy:Addr} {j:Nat} {tb ts:C3}
def cTry (K:PySem.W.Frag) (Cy:Addr) (j:Nat) (tb ts:C3):C3:=fun _ D τ Γ=>tb (fun τ' C Γ'=>PySem.W.exmOne K C (.ref Cy)=some true∧∀ x,Γ' x=none →
 ts Y0 { nx:=fun τ2 Γ2=>D.nx (τ2.set j none) Γ2,rt:=D.rt,bk:=fun τ2 Γ2=>D.bk (τ2.set j none) Γ2,ct:=fun τ2 Γ2=>D.ct (τ2.set j none) Γ2 } (τ'.set j (some (.ref x))) (up Γ' x (.ext (excAt x C)))) D τ Γ
end
def sc:T→Option V
 | .non=>some .non | .bl b=>some (.bl b) | .int i=>some (.int i) | .str z=>some (.str z) | _=>none
theorem sc_r {H:Hp} {v u:V} {x:T} (r:R H v x) (h:sc x=some u):v=u:=by
 cases x with
 | non=>cases h; exact i_non r
 | bl b=>cases h; exact i_bl r
 | int i=>cases h; exact i_int r
 | str z=>cases h; exact i_str r
 | tup ts=>cases h
 | ref a=>cases h
 | ty n=>cases h
 | scr K a ts=>cases h
def scs:List T→Option (List V)
 | []=>some []
 | x::r=>match sc x,scs r with | some v,some vs=>some (v::vs) | _,_=>none
theorem scs_r {H:Hp}:∀ {ts:List T} {vs us:List V},Rs H vs ts→scs ts=some us→vs=us
 | [],vs,us,r,h=>by cases h; exact rs_inv0 r
 | x::q,vs,us,r,h=>by
  obtain ⟨v,ws,rfl,a,b⟩:=rs_inv r
  unfold scs at h
  split at h
  ·rename_i v' vs' e1 e2
   cases h
   rw [sc_r a e1,scs_r b e2]
  ·cases h
def it3 (Γ:Gp):T→Option (List T)
 | .tup ts=>some ts
 | .ref a=>match Γ a with | some (.lst ts)=>some ts | _=>none
 | _=>none
theorem it3_l {Γ:Gp} {a:Addr} {ts:List T} (h:Γ a=some (.lst ts)):it3 Γ (.ref a)=some ts:=by
 show (match Γ a with | some (.lst ts)=>some ts | _=>none)=_
 rw [h]
theorem it3_a {K:PySem.W.Frag} {H:Hp} {Γ:Gp} {a:Addr} {ts:List T} (hr:HR H Γ) (h:it3 Γ (.ref a)=some ts):∃ vs,SqL K H a vs∧Rs H vs ts:=by
 have h:(match Γ a with | some (.lst ts)=>some ts | _=>none)=some ts:=h
 split at h
 ·rename_i ts' g; cases h; obtain ⟨vs,ha,q⟩:=hr a _ g; exact ⟨vs,SqL.of ha,q⟩
 ·cases h
theorem it3_r {K:PySem.W.Frag} {H:Hp} {Γ:Gp} {v:V} {x:T} {ts:List T} (r:R H v x) (hr:HR H Γ) (h:it3 Γ x=some ts):∃ p vs,v=.ref p∧(SqL K H p vs∨SqT K H p vs)∧Rs H vs ts:=by
 cases x with
 | tup us=>cases h; obtain ⟨a,vs,e,ha,q⟩:=i_tup r; exact ⟨a,vs,e,.inr (SqT.of ha),q⟩
 | ref a=>obtain ⟨vs,s,q⟩:=it3_a (K:=K) hr h; exact ⟨a,vs,i_ref r,.inl s,q⟩
 | _=>cases h
section
variable {X:Cx} {E:St→XK}
def r3I (C:Int→Int→Prop) (g:Int→Int→T):R3:=fun x y Γ Z=>∃ i j,x=.int i∧y=.int j∧C i j∧Z (g i j) Γ
def r3J (g:Int→Int→T):R3:=fun x y Γ Z=>∃ i j,x=.int i∧y=.int j∧Z (g i j) Γ
theorem oq_I {f:Value→Value→Sem Value} {C:Int→Int→Prop} {g:Int→Int→V} {g3:Int→Int→T} (h:OpR X f (rI C g)) (e:∀ i j H,R H (g i j) (g3 i j)):OpQ X f (r3I C g3):=
 ⟨_,h,fun x y a b H Γ Q Z ra rb hr q0 vr=>by obtain ⟨i,j,ea,eb,c,z⟩:=q0; subst ea eb; exact ⟨i,j,i_int ra,i_int rb,c,vr _ _ H Γ .refl hr (e i j H) z⟩⟩
theorem oq_J {f:Value→Value→Sem Value} {g:Int→Int→V} {g3:Int→Int→T} (h:OpR X f (rI0 g)) (e:∀ i j H,R H (g i j) (g3 i j)):OpQ X f (r3J g3):=
 ⟨_,h,fun x y a b H Γ Q Z ra rb hr q0 vr=>by obtain ⟨i,j,ea,eb,z⟩:=q0; subst ea eb; exact ⟨i,j,i_int ra,i_int rb,vr _ _ H Γ .refl hr (e i j H) z⟩⟩
theorem oq_add:OpQ X (binaryOp .Add) (r3J fun i j=>.int (i+j)):=oq_J op_add fun _ _ _=>r_int
theorem oq_sub:OpQ X (binaryOp .Sub) (r3J fun i j=>.int (i-j)):=oq_J op_sub fun _ _ _=>r_int
theorem oq_mul:OpQ X (binaryOp .Mult) (r3I CMul fun i j=>.int (i * j)):=oq_I op_mul fun _ _ _=>r_int
theorem oq_fdiv:OpQ X (binaryOp .FloorDiv) (r3I CDivG fun i j=>.int (i / j)):=oq_I op_fdivG fun _ _ _=>r_int
theorem oq_mod:OpQ X (binaryOp .Mod) (r3I (fun _ j=>0 < j) fun i j=>.int (i % j)):=oq_I op_mod fun _ _ _=>r_int
theorem oq_pow:OpQ X (binaryOp .Pow) (r3I CPow fun i j=>.int (i ^ j.toNat)):=oq_I op_pow fun _ _ _=>r_int
theorem oq_lt:OpQ X (compareOp .Lt) (r3J fun i j=>.bl (decide (i < j))):=oq_J op_lt fun _ _ _=>r_bl
theorem oq_ge:OpQ X (compareOp .GtE) (r3J fun i j=>.bl (decide (j≤i))):=oq_J op_ge fun _ _ _=>r_bl
def r3Eq:R3:=fun x y Γ Z=>∃ u v,sc x=some u∧sc y=some v∧scal u v=true∧Z (.bl (decide (u=v))) Γ
def r3Ne:R3:=fun x y Γ Z=>∃ u v,sc x=some u∧sc y=some v∧scal u v=true∧Z (.bl (!decide (u=v))) Γ
theorem oq_eq:OpQ X (compareOp .Eq) r3Eq:=
 ⟨_,op_eq,fun x y a b H Γ Q Z ra rb hr q0 vr=>by obtain ⟨u,v,ea,eb,c,z⟩:=q0; rw [sc_r ra ea,sc_r rb eb]; exact ⟨c,vr _ _ H Γ .refl hr r_bl z⟩⟩
theorem oq_ne:OpQ X (compareOp .NotEq) r3Ne:=
 ⟨_,op_ne,fun x y a b H Γ Q Z ra rb hr q0 vr=>by obtain ⟨u,v,ea,eb,c,z⟩:=q0; rw [sc_r ra ea,sc_r rb eb]; exact ⟨c,vr _ _ H Γ .refl hr r_bl z⟩⟩
def r3In (neg:Bool):R3:=fun x y Γ Z=>∃ u ts us,sc x=some u∧it3 Γ y=some ts∧scs ts=some us∧flatV u=true∧us.all flatV=true∧Z (.bl (if neg then !inV u us else inV u us)) Γ
theorem in_sim {neg:Bool} (x y:V) (a b:T) (H:Hp) (Γ:Gp) (Q:VK) (Z:K3) (ra:R H x a) (rb:R H y b) (hr:HR H Γ) (h:r3In neg a b Γ Z) (vr:VR H Γ Z Q):rIn X.K neg x y H Q:=by
 obtain ⟨u,ts,us,ea,eb,es,f1,f2,z⟩:=h
 obtain ⟨p,vs,rfl,sq,q⟩:=it3_r (K:=X.K) rb hr eb
 rw [sc_r ra ea]
 cases scs_r q es
 exact ⟨p,_,rfl,sq,f1,f2,vr _ _ H Γ .refl hr r_bl z⟩
theorem oq_in:OpQ X (compareOp .In) (r3In false):=⟨_,op_in_seq,in_sim⟩
theorem empty_r {H:Hp} {vs:List V} {ts:List T} (q:Rs H vs ts):vs.isEmpty=ts.isEmpty:=by
 have:=q.length
 cases vs <;> cases ts <;> simp_all
theorem oq_neNil (hu:X.A.units < cLine):OpQ X (compareOp .NotEq) (fun x y Γ Z=>∃ a b ts,x=.ref a∧y=.ref b∧Γ a=some (.lst ts)∧Γ b=some (.lst [])∧Z (.bl (!ts.isEmpty)) Γ):=
 ⟨_,op_neNil hu,fun x y a b H Γ Q Z ra rb hr q0 vr=>by
  obtain ⟨p,p',ts,ea,eb,g1,g2,z⟩:=q0
  subst ea eb
  obtain ⟨vs,hv,q⟩:=hr p _ g1
  obtain ⟨vs',hv',q'⟩:=hr p' _ g2
  rw [rs_inv0 q'] at hv'
  exact ⟨p,p',vs,i_ref ra,i_ref rb,SqL.of hv,SqL.of hv',by rw [empty_r q]; exact vr _ _ H Γ .refl hr r_bl z⟩⟩
def r3Cat:R3:=fun x y Γ Z=>∃ ts us,x=.tup ts∧y=.tup us∧ts.length+us.length≤sizeLine∧Z (.tup (ts++us)) Γ
theorem kp0 {H H':Hp} (k:Kp [] H H'):∀ b o,H b=some o→H' b=some o:=fun b o h=>k b o (by simp) h
theorem oq_cat:OpQ X (binaryOp .Add) r3Cat:=
 ⟨_,op_catA,fun x y a b H Γ Q Z ra rb hr q0 vr=>by
  obtain ⟨ts,us,ea,eb,l,z⟩:=q0
  subst ea eb
  obtain ⟨p,vs,rfl,hp,q⟩:=i_tup ra
  obtain ⟨p',vs',rfl,hp',q'⟩:=i_tup rb
  refine ⟨p,p',vs,vs',rfl,rfl,hp,hp',by rw [q.length,q'.length]; exact l,fun c H' k hc=>?_⟩
  exact vr _ _ H' Γ (.keep (kp0 k)) (hr.keep (kp0 k)) (r_tup hc (Rs.app (q.mono (tq_kp (kp0 k))) (q'.mono (tq_kp (kp0 k))))) z⟩
def r3CatL:R3:=fun x y Γ Z=>∃ a b ts us,x=.ref a∧y=.ref b∧Γ a=some (.lst ts)∧Γ b=some (.lst us)∧ts.length+us.length≤sizeLine∧∀ p,Γ p=none→Z (.ref p) (up Γ p (.lst (ts++us)))
theorem oq_catL:OpQ X (binaryOp .Add) r3CatL:=
 ⟨_,op_cat,fun x y a b H Γ Q Z ra rb hr q0 vr=>by
  obtain ⟨p,p',ts,us,ea,eb,g1,g2,l,z⟩:=q0
  subst ea eb
  obtain ⟨vs,hv,q⟩:=hr p _ g1
  obtain ⟨vs',hv',q'⟩:=hr p' _ g2
  refine ⟨p,p',vs,vs',i_ref ra,i_ref rb,hv,hv',by rw [q.length,q'.length]; exact l,fun c hc=>?_⟩
  have k:=keep_new (o:=.lst (vs++vs')) hc
  exact vr _ _ _ _ (.make hc) (hr.make (o3:=.lst (ts++us)) hc ⟨_,upd_same,Rs.app (q.mono (tq_kp k)) (q'.mono (tq_kp k))⟩) r_ref (z c (hr.free hc))⟩
def r3Rep:R3:=fun x y Γ Z=>∃ ts k,x=.tup ts∧y=.int k∧0≤k∧k≤1000∧ts.length≤1000∧Z (.tup (List.replicate k.toNat ts).flatten) Γ
theorem rs_flat {H:Hp} {vs:List V} {ts:List T} (q:Rs H vs ts):∀ n:Nat,Rs H (List.replicate n vs).flatten (List.replicate n ts).flatten
 | 0=>rs_nil
 | n+1=>by
  rw [List.replicate_succ,List.replicate_succ,List.flatten_cons,List.flatten_cons]
  exact Rs.app q (rs_flat q n)
theorem oq_rep:OpQ X (binaryOp .Mult) r3Rep:=
 ⟨_,op_repT,fun x y a b H Γ Q Z ra rb hr q0 vr=>by
  obtain ⟨ts,k,ea,eb,k0,k1,l,z⟩:=q0
  subst ea eb
  obtain ⟨p,vs,rfl,hp,q⟩:=i_tup ra
  refine ⟨p,k,vs,rfl,i_int rb,hp,k0,k1,by rw [q.length]; exact l,fun c H' kp hc=>?_⟩
  exact vr _ _ H' Γ (.keep (kp0 kp)) (hr.keep (kp0 kp)) (r_tup hc (rs_flat (q.mono (tq_kp (kp0 kp))) _)) z⟩
theorem at_r {H:Hp} {vs:List V} {ts:List T} {i:Int} {t:T} (q:Rs H vs ts) (h:atI ts i=some t):∃ v,atI vs i=some v∧R H v t:=by
 unfold atI at h ⊢
 rw [q.length]
 cases e:ixN ts.length i with
 | none=>rw [e] at h; cases h
 | some j=>
  rw [e] at h
  have h':ts[j]? = some t:=h
  obtain ⟨v,hv,r⟩:=q.get h'
  exact ⟨v,hv,r⟩
def r3Ix:R3:=fun x y Γ Z=>∃ ts i t,it3 Γ x=some ts∧y=.int i∧atI ts i=some t∧Z t Γ
def r3IxS:R3:=fun x y Γ Z=>∃ z i c,x=.str z∧y=.int i∧z.length≤sizeLine∧atI z.cps.toList i=some c∧Z (.str ⟨#[c]⟩) Γ
variable {a b e:Expr} {ta tb te:E3} {pos p2:Pos}
theorem qe_ix (ha:PE X a (liE E ta)) (hb:PE X b (liE E tb)) (hs:PlainIx b):PE X (.Subscript a b pos) (liE E (eOp r3Ix ta tb)):=
 weakE (pe_ix ix_seq ha hb hs) (op_sim fun x y a b H Γ Q Z ra rb hr q0 vr=>by
  obtain ⟨ts,i,t,ea,eb,h,z⟩:=q0
  subst eb
  obtain ⟨p,vs,rfl,sq,q⟩:=it3_r (K:=X.K) ra hr ea
  obtain ⟨v,hv,r⟩:=at_r q h
  rcases sq with sq | sq
  ·exact .inl ⟨p,vs,i,v,rfl,i_int rb,sq,hv,vr _ _ H Γ .refl hr r z⟩
  ·exact .inr (.inl ⟨p,vs,i,v,rfl,i_int rb,sq,hv,vr _ _ H Γ .refl hr r z⟩))
theorem qe_ixS (ha:PE X a (liE E ta)) (hb:PE X b (liE E tb)) (hs:PlainIx b):PE X (.Subscript a b pos) (liE E (eOp r3IxS ta tb)):=
 weakE (pe_ix ix_str ha hb hs) (op_sim fun x y a b H Γ Q Z ra rb hr q0 vr=>by
  obtain ⟨w,i,c,ea,eb,l,h,z⟩:=q0
  subst ea eb
  exact ⟨w,i,c,i_str ra,i_int rb,l,h,vr _ _ H Γ .refl hr r_str z⟩)
abbrev O3:=X3→S3→Gp→(Option Int→Gp→Prop)→Prop
def liO (E:St→XK) (t:O3):TO:=fun σ H Q=>∃ τ Γ Y Z,RS H σ τ∧HR H Γ∧t Y τ Γ Z∧(∀ i H' Γ',Stp H Γ H' Γ'→HR H' Γ'→Z i Γ'→Q i H')∧XR H Γ Y E
theorem weakO {e:Option Expr} {t t':TO} (h:PO X e t) (w:∀ σ H Q,t' σ H Q→t σ H Q):PO X e t':=⟨fun pins s σ H Q I q=>h.run pins s σ H Q I (w _ _ _ q)⟩
theorem weakO3 {e:Option Expr} {t0:TO} {t:O3} (h:PO X e t0) (w:∀ σ H Q τ Γ Y Z,RS H σ τ→HR H Γ→t Y τ Γ Z→(∀ i H' Γ',Stp H Γ H' Γ'→HR H' Γ'→Z i Γ'→Q i H')→XR H Γ Y E→t0 σ H Q):PO X e (liO E t):=
 weakO h (by rintro σ H Q ⟨τ,Γ,Y,Z,rs,hr,q,vr,xr⟩; exact w σ H Q τ Γ Y Z rs hr q vr xr)
def oNone:O3:=fun _ _ Γ Z=>Z none Γ
def oSome (t:E3):O3:=fun Y τ Γ Z=>t Y τ Γ fun x Γ1=>∃ i,x=.int i∧Z (some i) Γ1
theorem qo_none:PO X none (liO E oNone):=weakO3 po_none fun σ H Q τ Γ Y Z rs hr t vr xr=>vr none H Γ .refl hr t
theorem qo_some (h:PE X e (liE E te)):PO X (some e) (liO E (oSome te)):=weakO3 (po_some h) fun σ H Q τ Γ Y Z rs hr t vr xr=>
 ⟨τ,Γ,Y,_,rs,hr,t,fun v x H1 Γ1 s1 h1 r1 q0=>by obtain ⟨i,ex,z⟩:=q0; subst ex; exact ⟨i,i_int r1,vr _ H1 Γ1 s1 h1 z⟩,xr⟩
abbrev L3r:=T→Option Int→Option Int→Gp→K3→Prop
def SlQ (X:Cx) (r3:L3r):Prop:=∃ r,SlR X r∧∀ x a lo hi H Γ Q Z,R H x a→HR H Γ→r3 a lo hi Γ Z→VR H Γ Z Q→r x lo hi H Q
def eSl (r:L3r) (te:E3) (tl th:O3):E3:=fun Y τ Γ Z=>te Y τ Γ fun x Γ1=>tl Y τ Γ1 fun l Γ2=>th Y τ Γ2 fun u Γ3=>r x l u Γ3 Z
theorem qe_slice {r3:L3r} {lo hi:Option Expr} {tl th:O3} (hs:SlQ X r3) (he:PE X e (liE E te)) (hl:PO X lo (liO E tl)) (hu:PO X hi (liO E th)):PE X (.Subscript e (.Slice lo hi none p2) pos) (liE E (eSl r3 te tl th)):=by
 obtain ⟨r,hr0,sim⟩:=hs
 refine weakE3 (pe_slice hr0 he hl hu) fun σ H Q τ Γ Y Z rs hr t vr xr=>?_
 refine ⟨τ,Γ,Y,_,rs,hr,t,fun v x H1 Γ1 s1 h1 r1 z1=>?_,xr⟩
 refine ⟨τ,Γ1,Y,_,rs.mono s1.tq,h1,z1,fun l H2 Γ2 s2 h2 z2=>?_,xr.mono s1⟩
 refine ⟨τ,Γ2,Y,_,rs.mono (s1.trans s2).tq,h2,z2,fun u H3 Γ3 s3 h3 z3=>?_,xr.mono (s1.trans s2)⟩
 exact sim v x l u H3 Γ3 Q Z (r1.mono (s2.trans s3).tq) h3 z3 (vr.mono ((s1.trans s2).trans s3))
theorem cut_r {H:Hp} {vs:List V} {ts:List T} {lo hi:Option Int} (q:Rs H vs ts):Rs H (cutV vs lo hi) (cutN ts lo hi):=by
 unfold cutV cutN
 rw [q.length]
 exact Rs.take _ (Rs.drop _ q)
theorem sq_tup:SlQ X (fun x lo hi Γ Z=>∃ ts,x=.tup ts∧Z (.tup (cutN ts lo hi)) Γ):=
 ⟨_,sl_tupB,fun x a lo hi H Γ Q Z ra hr q0 vr=>by
  obtain ⟨ts,ea,z⟩:=q0
  subst ea
  obtain ⟨p,vs,rfl,hp,q⟩:=i_tup ra
  exact ⟨p,vs,rfl,hp,fun c H' k hc=>vr _ _ H' Γ (.keep (kp0 k)) (hr.keep (kp0 k)) (r_tup hc (cut_r (q.mono (tq_kp (kp0 k))))) z⟩⟩
theorem sq_list:SlQ X (fun x lo hi Γ Z=>∃ a ts,x=.ref a∧Γ a=some (.lst ts)∧∀ p,Γ p=none→Z (.ref p) (up Γ p (.lst (cutN ts lo hi)))):=
 ⟨_,sl_list,fun x a lo hi H Γ Q Z ra hr q0 vr=>by
  obtain ⟨p,ts,ea,g,z⟩:=q0
  subst ea
  obtain ⟨vs,hv,q⟩:=hr p _ g
  refine ⟨p,vs,i_ref ra,SqL.of hv,fun c hc=>?_⟩
  have k:=keep_new (o:=.lst (cutV vs lo hi)) hc
  exact vr _ _ _ _ (.make hc) (hr.make (o3:=.lst (cutN ts lo hi)) hc ⟨_,upd_same,cut_r (q.mono (tq_kp k))⟩) r_ref (z c (hr.free hc))⟩
def eRev (r:T→Gp→K3→Prop) (te ts:E3):E3:=fun Y τ Γ Z=>te Y τ Γ fun x Γ1=>ts Y τ Γ1 fun k Γ2=>k=.int (-1)∧r x Γ2 Z
def r3U (g:Int→T):T→Gp→K3→Prop:=fun x Γ Z=>∃ i,x=.int i∧Z (g i) Γ
def eUn (r:T→Gp→K3→Prop) (ta:E3):E3:=fun Y τ Γ Z=>ta Y τ Γ fun x Γ1=>r x Γ1 Z
theorem qe_neg (ha:PE X a (liE E ta)):PE X (.UnaryOp .USub a pos) (liE E (eUn (r3U fun i=>.int (-i)) ta)):=
 weakE3 (pe_un un_neg ha) fun σ H Q τ Γ Y Z rs hr t vr xr=>
  ⟨τ,Γ,Y,_,rs,hr,t,fun v x H1 Γ1 s1 h1 r1 q0=>by obtain ⟨i,ex,z⟩:=q0; subst ex; exact ⟨i,i_int r1,vr _ _ H1 Γ1 s1 h1 r_int z⟩,xr⟩
abbrev F3:=List T→Gp→K3→Prop
def CallQ (X:Cx) (f:Value) (r3:F3):Prop:=∃ r,CallR X f r∧∀ vs ts H Γ Q Z,Rs H vs ts→HR H Γ→r3 ts Γ Z→VR H Γ Z Q→r vs H Q
def eCB (r:F3) (t:A3):E3:=fun Y τ Γ Z=>t Y τ Γ fun ts Γ1=>r ts Γ1 Z
theorem cb_sim {r:List V→Hp→VK→Prop} {r3:F3} {t:A3} (h:∀ vs ts H Γ Q Z,Rs H vs ts→HR H Γ→r3 ts Γ Z→VR H Γ Z Q→r vs H Q) (σ:St) (H:Hp) (Q:VK) (q:liE E (eCB r3 t) σ H Q):tCB r (liA E t) σ H Q:=by
 obtain ⟨τ,Γ,Y,Z,rs,hr,t,vr,xr⟩:=q
 exact ⟨τ,Γ,Y,_,rs,hr,t,fun vs xs H1 Γ1 s1 h1 r1 z1=>h vs xs H1 Γ1 Q Z r1 h1 z1 (vr.mono s1),xr⟩
section
variable {x:Str} {p pos:Pos} {e:Expr} {es:List Expr} {t:A3} {id Tn:String} {r3:F3}
theorem qe_callB (hc:CallQ X (.builtin id) r3) (hg:Gl X x) (hm:X.mg x=none) (hv:bootBuiltins x=some (.builtin id)) (ha:PA X (e::es) (liA E t)) (hn:x ≠ "__name__" := by decide) (hdb:(x == ("__debug__" : Str))=false:=by decide)
  (he:starEach (e::es) X.env=(false,eval e X.env)::starEach es X.env:=by rfl) (hpl:(backTo pos (starEach es X.env)).any (·.1)=false:=by rfl):PE X (.Call (.Name x p) (e::es) [] pos) (liE E (eCB r3 t)):=by
 obtain ⟨r,hr,h⟩:=hc
 exact weakE (pe_callB hr hg hm hv ha hn hdb he hpl) (cb_sim h)
theorem qe_callTy (hc:CallQ X (.type Tn) r3) (hg:Gl X x) (hm:X.mg x=none) (hv:bootBuiltins x=some (.type Tn)) (ha:PA X (e::es) (liA E t)) (hn:x ≠ "__name__" := by decide) (hdb:(x == ("__debug__" : Str))=false:=by decide)
  (he:starEach (e::es) X.env=(false,eval e X.env)::starEach es X.env:=by rfl) (hpl:(backTo pos (starEach es X.env)).any (·.1)=false:=by rfl):PE X (.Call (.Name x p) (e::es) [] pos) (liE E (eCB r3 t)):=by
 obtain ⟨r,hr,h⟩:=hc
 exact weakE (pe_callTy hr hg hm hv ha hn hdb he hpl) (cb_sim h)
end
theorem rs1 {H:Hp} {vs:List V} {x:T} (h:Rs H vs [x]):∃ v,vs=[v]∧R H v x:=by
 obtain ⟨v,ws,rfl,a,b⟩:=rs_inv h
 exact ⟨v,by rw [rs_inv0 b],a⟩
theorem rs2 {H:Hp} {vs:List V} {x y:T} (h:Rs H vs [x,y]):∃ v w,vs=[v,w]∧R H v x∧R H w y:=by
 obtain ⟨v,ws,rfl,a,b⟩:=rs_inv h
 obtain ⟨w,rfl,c⟩:=rs1 b
 exact ⟨v,w,rfl,a,c⟩
theorem cq_len:CallQ X (.builtin "len") (fun xs Γ Z=>∃ x ts,xs=[x]∧it3 Γ x=some ts∧Z (.int ts.length) Γ):=
 ⟨_,call_len_seq,fun vs xs H Γ Q Z r hr q0 vr=>by
  obtain ⟨x,ts,e,h,z⟩:=q0
  subst e
  obtain ⟨v,rfl,rv⟩:=rs1 r
  obtain ⟨p,us,rfl,sq,q⟩:=it3_r (K:=X.K) rv hr h
  exact ⟨p,us,rfl,sq,by rw [q.length]; exact vr _ _ H Γ .refl hr r_int z⟩⟩
theorem cq_tuple:CallQ X (.type "tuple") (fun xs Γ Z=>∃ x ts,xs=[x]∧it3 Γ x=some ts∧Z (.tup ts) Γ):=
 ⟨_,call_tuple_of,fun vs xs H Γ Q Z r hr q0 vr=>by
  obtain ⟨x,ts,e,h,z⟩:=q0
  subst e
  obtain ⟨v,rfl,rv⟩:=rs1 r
  cases x with
  | tup us=>
   cases h
   obtain ⟨a,ws,rfl,ha,q⟩:=i_tup rv
   exact ⟨a,ws,rfl,.inr ⟨SqT.of ha,vr _ _ H Γ .refl hr (r_tup ha q) z⟩⟩
  | ref a=>
   obtain ⟨us,sq,q⟩:=it3_a (K:=X.K) hr h
   refine ⟨a,us,by rw [i_ref rv],.inl ⟨sq,fun l hl=>?_⟩⟩
   have k:=keep_new (o:=.tup us) hl
   exact vr _ _ _ Γ (.keep k) (hr.keep k) (r_tup upd_same (q.mono (tq_kp k))) z
  | _=>cases h⟩
theorem cq_max2 (hc:X.calm=true):CallQ X (.builtin "max") (fun xs Γ Z=>∃ i j,xs=[.int i,.int j]∧Z (.int (if j > i then j else i)) Γ):=
 ⟨_,call_max2 hc,fun vs xs H Γ Q Z r hr q0 vr=>by
  obtain ⟨i,j,e,z⟩:=q0
  subst e
  obtain ⟨v,w,rfl,a,b⟩:=rs2 r
  exact ⟨i,j,by rw [i_int a,i_int b],vr _ _ H Γ .refl hr r_int z⟩⟩
theorem cq_min2 (hc:X.calm=true):CallQ X (.builtin "min") (fun xs Γ Z=>∃ i j,xs=[.int i,.int j]∧Z (.int (if j < i then j else i)) Γ):=
 ⟨_,call_min2 hc,fun vs xs H Γ Q Z r hr q0 vr=>by
  obtain ⟨i,j,e,z⟩:=q0
  subst e
  obtain ⟨v,w,rfl,a,b⟩:=rs2 r
  exact ⟨i,j,by rw [i_int a,i_int b],vr _ _ H Γ .refl hr r_int z⟩⟩
theorem cq_ord:CallQ X (.builtin "ord") (fun xs Γ Z=>∃ x:Str,xs=[.str x]∧x.length=1∧Z (.int (x.cps.getD 0 0:Nat)) Γ):=
 ⟨_,call_ord,fun vs xs H Γ Q Z r hr q0 vr=>by
  obtain ⟨i,e,l,z⟩:=q0
  subst e
  obtain ⟨v,rfl,a⟩:=rs1 r
  exact ⟨i,by rw [i_str a],l,vr _ _ H Γ .refl hr r_int z⟩⟩
theorem rs_ints {H:Hp}:∀ {ns:List Int} {vs:List V},Rs H vs (ns.map T.int)→vs=ns.map V.int
 | [],vs,h=>rs_inv0 h
 | n::r,vs,h=>by
  obtain ⟨v,ws,rfl,a,b⟩:=rs_inv h
  rw [i_int a,rs_ints b]; rfl
theorem rs_strs {H:Hp}:∀ {ns:List Str} {vs:List V},Rs H vs (ns.map T.str)→vs=ns.map V.str
 | [],vs,h=>rs_inv0 h
 | n::r,vs,h=>by
  obtain ⟨v,ws,rfl,a,b⟩:=rs_inv h
  rw [i_str a,rs_strs b]; rfl
theorem cq_sum (hc:X.calm=true):CallQ X (.builtin "sum") (fun xs Γ Z=>∃ (p:Addr) (ns:List Int),xs=[.ref p]∧it3 Γ (.ref p)=some (ns.map T.int)∧Z (.int ns.sum) Γ):=
 ⟨_,call_sumL hc,fun vs xs H Γ Q Z r hr q0 vr=>by
  obtain ⟨p,ns,e,g,z⟩:=q0
  subst e
  obtain ⟨v,rfl,a⟩:=rs1 r
  obtain ⟨us,sq,q⟩:=it3_a (K:=X.K) hr g
  rw [rs_ints q] at sq
  exact ⟨p,ns,by rw [i_ref a],sq,vr _ _ H Γ .refl hr r_int z⟩⟩
def tyOf (Γ:Gp):T→Option String
 | .non=>some "NoneType" | .bl _=>some "bool" | .int _=>some "int" | .str _=>some "str" | .tup _=>some "tuple"
 | .ref a=>match Γ a with | some (.lst _)=>some "list" | some (.dK _)=>some "dict" | _=>none
 | .ty _=>none
 | .scr _ _ _=>none
theorem tyOf_r {K:PySem.W.Frag} {H:Hp} {Γ:Gp} {v:V} {x:T} {n:String} (r:R H v x) (hr:HR H Γ) (h:tyOf Γ x=some n):TyOf K H v (.type n):=by
 cases x with
 | non=>cases h; rw [i_non r]; exact .non
 | bl b=>cases h; rw [i_bl r]; exact .bl b
 | int i=>cases h; rw [i_int r]; exact .int i
 | str z=>cases h; rw [i_str r]; exact .str z
 | tup ts=>cases h; obtain ⟨a,vs,e,ha,_⟩:=i_tup r; rw [e]; exact .tup ha
 | ty n=>cases h
 | scr K a ts=>cases h
 | ref a=>
  rw [i_ref r]
  have h:(match Γ a with | some (.lst _)=>some "list" | some (.dK _)=>some "dict" | _=>none)=some n:=h
  split at h
  ·rename_i g; cases h; obtain ⟨vs,hv,_⟩:=hr a _ g; exact .lst hv
  ·rename_i g; cases h; obtain ⟨vs,hv,_⟩:=hr a _ g; exact .dK hv
  ·cases h
def eInst (K:PySem.W.Frag) (Ty:String) (te:E3):E3:=fun Y τ Γ Z=>te Y τ Γ fun x Γ1=>∃ n b,tyOf Γ1 x=some n∧PySem.W.kitOne K (.type n) (.type Ty)=some b∧Z (.bl b) Γ1
theorem qe_inst {x:Expr} {te:E3} {p p2 pos:Pos} {Tn:Str} {Ty:String} (hg:Gl X "isinstance") (hm:X.mg "isinstance" = none) (hgT:Gl X Tn) (hmT:X.mg Tn=none) (hvT:bootBuiltins Tn=some (.type Ty)) (he:PE X x (liE E te)) (hn:Tn ≠ "__name__" := by decide) (hdT:(Tn == ("__debug__" : Str))=false:=by decide)
  (hs:starEach [x,.Name Tn p2] X.env=(false,eval x X.env)::starEach [.Name Tn p2] X.env:=by rfl) (hs2:starEach [.Name Tn p2] X.env=[(false,eval (.Name Tn p2) X.env)]:=by rfl)
  (hpl:(backTo pos (starEach [.Name Tn p2] X.env)).any (·.1)=false:=by rfl):PE X (.Call (.Name "isinstance" p) [x,.Name Tn p2] [] pos) (liE E (eInst X.K Ty te)):=
 weakE3 (pe_inst hg hm hgT hmT hvT he hn hdT hs hs2 hpl) fun σ H Q τ Γ Y Z rs hr t vr xr=>
  ⟨τ,Γ,Y,_,rs,hr,t,fun v x H1 Γ1 s1 h1 r1 ⟨n,b,ty,k,z⟩=>⟨v,rfl,.type n,b,tyOf_r r1 h1 ty,k,vr _ _ H1 Γ1 s1 h1 r_bl z⟩,xr⟩
def tru3 (Γ:Gp):T→Option Bool
 | .non=>some false | .bl b=>some b | .int i=>some (i != 0) | .tup ts=>some (!ts.isEmpty)
 | .str z=>if z.length≤sizeLine then some ((z.length:Int) != 0) else none
 | .ref a=>match Γ a with | some (.lst ts)=>some (!ts.isEmpty) | some (.dK kvs)=>some (!kvs.isEmpty) | _=>none
 | .ty _=>none
 | .scr _ _ _=>none
def eTru (t:E3):T3:=fun Y τ Γ Z=>t Y τ Γ fun x Γ1=>∃ k,tru3 Γ1 x=some k∧Z k Γ1
theorem cq_lenC:CallQ X (.builtin "len") (fun xs Γ Z=>∃ a ts,xs=[.scr X.K a ts]∧Z (.int ts.length) Γ):=
 ⟨_,call_len_seq,fun vs xs H Γ Q Z r hr q0 vr=>by
  obtain ⟨a,ts,e,z⟩:=q0
  subst e
  obtain ⟨v,rfl,rv⟩:=rs1 r
  obtain ⟨rfl,us,sq,q⟩:=i_scr rv
  exact ⟨a,us,rfl,.inl sq.sq,by rw [q.length]; exact vr _ _ H Γ .refl hr r_int z⟩⟩
theorem qe_ixC (ha:PE X a (liE E ta)) (hb:PE X b (liE E tb)) (hs:PlainIx b):PE X (.Subscript a b pos) (liE E (eOp (fun x y Γ Z=>∃ p ts i t,x=.scr X.K p ts∧y=.int i∧atI ts i=some t∧Z t Γ) ta tb)):=
 weakE (pe_ix ix_list ha hb hs) (op_sim fun x y a b H Γ Q Z ra rb hr q0 vr=>by
  obtain ⟨p,ts,i,t,ea,eb,h,z⟩:=q0
  subst ea eb
  obtain ⟨rfl,vs,sq,q⟩:=i_scr ra
  obtain ⟨v,hv,r⟩:=at_r q h
  exact ⟨p,vs,i,v,rfl,i_int rb,sq.sq,hv,vr _ _ H Γ .refl hr r z⟩)
end
section
variable {X:Cx} {E:St→XK} {tg l:Expr} {tl:E3} {pos p:Pos}
abbrev gT:Gp→Prop:=fun _=>True
def iTp (tl:E3):I3:=fun Y τ Γ Z=>tl Y τ Γ fun x Γ1=>∃ ts,x=.tup ts∧Z ts gT Γ1
theorem walk_tup {K:PySem.W.Frag} {H:Hp} {a:Addr} {vs:List V} {ts:List T} (ha:H a=some (.tup vs)) (q:Rs H vs ts):Walks (Itt K a) ts gT H where
 go:=fun i H' Γ t hr _ hi=>⟨vs,vs[i]'(by rw [q.length]; exact hi),SqT.of (t.1 a vs ha),by simp⟩
 yld:=fun i H' Γ x H2 t hr _ hi q0=>by
  obtain ⟨e,y⟩:=q0
  subst e
  obtain ⟨t',e',r⟩:=(q.mono t).getV (y vs (SqT.of (t.1 a vs ha)))
  exact ⟨.refl,hr,t',e',r⟩
 stop:=fun H' Γ t hr _=>⟨vs,SqT.of (t.1 a vs ha),by rw [q.length]; exact Nat.le_refl _⟩
theorem qi_tup (hl:PE X l (liE E tl)):PI X tg l (liI E (iTp tl)):=
 weakI3 (pi_tup hl) fun σ H Q τ Γ Y Z rs hr t vr xr=>⟨τ,Γ,Y,_,rs,hr,t,fun v x H1 Γ1 s1 h1 r1 ⟨ts,ex,z⟩=>by
  subst ex
  obtain ⟨a,vs,rfl,ha,q⟩:=i_tup r1
  exact ⟨a,rfl,⟨vs,SqT.of ha⟩,vr _ ts gT H1 Γ1 s1 h1 (walk_tup ha q) z⟩,xr⟩
def iLs (tl:E3):I3:=fun Y τ Γ Z=>tl Y τ Γ fun x Γ1=>∃ a ts,x=.ref a∧it3 Γ1 (.ref a)=some ts∧Z ts (fun Γ'=>it3 Γ' (.ref a)=some ts) Γ1
theorem walk_list {K:PySem.W.Frag} {H:Hp} {a:Addr} {ts:List T}:Walks (Itl K a) ts (fun Γ'=>it3 Γ' (.ref a)=some ts) H where
 go:=fun i H' Γ t hr g hi=>by
  obtain ⟨vs,sq,q⟩:=it3_a (K:=K) hr g
  exact ⟨vs,vs[i]'(by rw [q.length]; exact hi),sq,by simp⟩
 yld:=fun i H' Γ x H2 t hr g hi q0=>by
  obtain ⟨e,y⟩:=q0
  subst e
  obtain ⟨vs,sq,q⟩:=it3_a (K:=K) hr g
  obtain ⟨t',e',r⟩:=q.getV (y vs sq)
  exact ⟨.refl,hr,t',e',r⟩
 stop:=fun H' Γ t hr g=>by
  obtain ⟨vs,sq,q⟩:=it3_a (K:=K) hr g
  exact ⟨vs,sq,by rw [q.length]; exact Nat.le_refl _⟩
theorem qi_list (hl:PE X l (liE E tl)):PI X tg l (liI E (iLs tl)):=
 weakI3 (pi_list hl) fun σ H Q τ Γ Y Z rs hr t vr xr=>⟨τ,Γ,Y,_,rs,hr,t,fun v x H1 Γ1 s1 h1 r1 ⟨a,ts,ex,g,z⟩=>by
  subst ex
  obtain ⟨vs,sq,q⟩:=it3_a (K:=X.K) h1 g
  exact ⟨a,i_ref r1,⟨vs,sq⟩,vr _ ts _ H1 Γ1 s1 h1 walk_list z⟩,xr⟩
def rngT (lo:Int):Nat→List T
 | 0=>[]
 | n+1=>.int lo::rngT (lo+1) n
theorem rngT_len:∀ (n:Nat) (lo:Int),(rngT lo n).length=n
 | 0,_=>rfl
 | n+1,lo=>by rw [rngT,List.length_cons,rngT_len n]
theorem rngT_get:∀ (n:Nat) (lo:Int) (i:Nat),i < n→(rngT lo n)[i]? = some (.int (lo+i))
 | 0,_,i,h=>absurd h (Nat.not_lt_zero _)
 | n+1,lo,0,_=>by rw [rngT]; simp
 | n+1,lo,i+1,h=>by
  rw [rngT,List.getElem?_cons_succ,rngT_get n (lo+1) i (by omega)]
  congr 2
  omega
theorem walk_range {H:Hp} (lo:Int) (n:Nat):Walks (Itr lo n) (rngT lo n) gT H where
 go:=fun i H' Γ t hr _ hi=>by rw [rngT_len] at hi; exact hi
 yld:=fun i H' Γ x H2 t hr _ hi q0=>by
  obtain ⟨e,y⟩:=q0
  subst e y
  rw [rngT_len] at hi
  exact ⟨.refl,hr,_,rngT_get n lo i hi,r_int⟩
 stop:=fun H' Γ t hr _=>by rw [rngT_len]; exact Nat.le_refl _
def iRg1 (ta:A3):I3:=fun Y τ Γ Z=>ta Y τ Γ fun xs Γ1=>∃ j:Int,xs=[.int j]∧-(2 ^ 62)≤j∧j < 2 ^ 62∧Z (rngT 0 j.toNat) gT Γ1
theorem qi_range1 {a:Expr} {ta:A3} (hg:Gl X "range") (hm:X.mg "range" = none) (ha:PA X [a] (liA E ta)) (hs:starEach [a] X.env=[(false,eval a X.env)]:=by rfl):PI X tg (.Call (.Name "range" p) [a] [] pos) (liI E (iRg1 ta)):=
 weakI3 (pi_range1 hg hm ha hs) fun σ H Q τ Γ Y Z rs hr t vr xr=>⟨τ,Γ,Y,_,rs,hr,t,fun vs xs H1 Γ1 s1 h1 r1 ⟨j,ex,b1,b2,z⟩=>by
  subst ex
  obtain ⟨v,rfl,a⟩:=rs1 r1
  exact ⟨j,by rw [i_int a],b1,b2,vr _ _ gT H1 Γ1 s1 h1 (walk_range 0 _) z⟩,xr⟩
def zipT:List T→List T→List T
 | x::r,y::q=>.tup [x,y]::zipT r q
 | _,_=>[]
theorem zipT_len:∀ {xs ys:List T},(zipT xs ys).length=min xs.length ys.length
 | [],_=>by simp [zipT]
 | _::_,[]=>by simp [zipT]
 | x::r,y::q=>by rw [zipT,List.length_cons,zipT_len,List.length_cons,List.length_cons]; omega
theorem zipT_get:∀ {xs ys:List T} {i:Nat} {x y:T},xs[i]? = some x→ys[i]? = some y→(zipT xs ys)[i]? = some (.tup [x,y])
 | [],_,_,_,_,h,_=>by simp at h
 | _::_,[],_,_,_,_,h=>by simp at h
 | a::r,b::q,0,x,y,h,h'=>by cases h; cases h'; rfl
 | a::r,b::q,i+1,x,y,h,h'=>by rw [zipT,List.getElem?_cons_succ]; exact zipT_get (by simpa using h) (by simpa using h')
def iZp (ta:A3):I3:=fun Y τ Γ Z=>ta Y τ Γ fun xs Γ1=>∃ ts us,xs=[.tup ts,.tup us]∧Z (zipT ts us) gT Γ1
theorem walk_zip {K:PySem.W.Frag} {H:Hp} {a b:Addr} {vs ws:List V} {ts us:List T} (ha:H a=some (.tup vs)) (q:Rs H vs ts) (hb:H b=some (.tup ws)) (q':Rs H ws us):Walks (Itz K a b) (zipT ts us) gT H where
 go:=fun i H' Γ t hr _ hi=>by
  rw [zipT_len] at hi
  exact ⟨vs,ws,vs[i]'(by rw [q.length]; omega),ws[i]'(by rw [q'.length]; omega),SqT.of (t.1 a vs ha),SqT.of (t.1 b ws hb),by simp,by simp⟩
 yld:=fun i H' Γ v H2 t hr _ hi q0=>by
  obtain ⟨p,x,y,hp,e1,e2,y1,y2⟩:=q0
  subst e1 e2
  obtain ⟨t1,f1,r1⟩:=(q.mono t).getV (y1 vs (SqT.of (t.1 a vs ha)))
  obtain ⟨t2,f2,r2⟩:=(q'.mono t).getV (y2 ws (SqT.of (t.1 b ws hb)))
  have k:=keep_new (o:=.tup [x,y]) hp
  exact ⟨.keep k,hr.keep k,_,zipT_get f1 f2,r_tup upd_same (rs_cons (r1.mono (tq_kp k)) (rs_cons (r2.mono (tq_kp k)) rs_nil))⟩
 stop:=fun H' Γ t hr _=>⟨vs,ws,SqT.of (t.1 a vs ha),SqT.of (t.1 b ws hb),by rw [zipT_len,q.length,q'.length]; omega⟩
theorem qi_zip {a b:Expr} {ta:A3} {elts:List Expr} {kk:Nat} {tpos:Pos} (hg:Gl X "zip") (hm:X.mg "zip" = none) (ha:PA X [a,b] (liA E ta)) (hs:starEach [a,b] X.env=[(false,eval a X.env),(false,eval b X.env)]:=by rfl) (hs2:starEach [b] X.env=[(false,eval b X.env)]:=by rfl) :
  PI X (.Tuple elts kk tpos) (.Call (.Name "zip" p) [a,b] [] pos) (liI E (iZp ta)):=
 weakI3 (pi_zip hg hm ha hs hs2) fun σ H Q τ Γ Y Z rs hr t vr xr=>⟨τ,Γ,Y,_,rs,hr,t,fun vs xs H1 Γ1 s1 h1 r1 ⟨ts,us,ex,z⟩=>by
  subst ex
  obtain ⟨v,w,rfl,a,b⟩:=rs2 r1
  obtain ⟨pa,va,rfl,ha,qa⟩:=i_tup a
  obtain ⟨pb,vb,rfl,hb,qb⟩:=i_tup b
  exact ⟨pa,pb,va,vb,rfl,SqT.of ha,SqT.of hb,vr _ _ gT H1 Γ1 s1 h1 (walk_zip ha qa hb qb) z⟩,xr⟩
def enumT (n:Nat):List T→List T
 | []=>[]
 | x::r=>.tup [.int n,x]::enumT (n+1) r
def iEn (ta:A3):I3:=fun Y τ Γ Z=>ta Y τ Γ fun xs Γ1=>∃ ts,xs=[.tup ts]∧Z (enumT 0 ts) gT Γ1
def signsT (z:Str):List T:=z.cps.toList.map fun c=>.str ⟨#[c]⟩
def iSt (tl:E3):I3:=fun Y τ Γ Z=>tl Y τ Γ fun x Γ1=>∃ z,x=.str z∧Z (signsT z) gT Γ1
theorem walk_str {H:Hp} (z:Str):Walks (Its z) (signsT z) gT H where
 go:=fun i H' Γ t hr _ hi=>by
  unfold signsT at hi
  rw [List.length_map,Array.length_toList] at hi
  exact hi
 yld:=fun i H' Γ x H2 t hr _ hi q0=>by
  obtain ⟨e,c,hc,ex⟩:=q0
  subst e ex
  refine ⟨.refl,hr,.str ⟨#[c]⟩,?_,r_str⟩
  unfold signsT
  rw [List.getElem?_map,Array.getElem?_toList,hc]
  rfl
 stop:=fun H' Γ t hr _=>by
  show z.cps.size≤(signsT z).length
  unfold signsT
  rw [List.length_map,Array.length_toList]
  exact Nat.le_refl _
theorem qi_str (hl:PE X l (liE E tl)):PI X tg l (liI E (iSt tl)):=
 weakI3 (pi_str hl) fun σ H Q τ Γ Y Z rs hr t vr xr=>⟨τ,Γ,Y,_,rs,hr,t,fun v x H1 Γ1 s1 h1 r1 ⟨z,ex,zz⟩=>by
  subst ex
  exact ⟨z,i_str r1,vr _ _ gT H1 Γ1 s1 h1 (walk_str z) zz⟩,xr⟩
abbrev M3r:=T→List T→Gp→K3→Prop
def MQ (X:Cx) (id:String) (r3:M3r):Prop:=∃ r,MtR X id r∧∀ v x vs ts H Γ Q Z,R H v x→Rs H vs ts→HR H Γ→r3 x ts Γ Z→VR H Γ Z Q→r v vs H Q
def eBM (Tn:String) (r3:M3r) (to:E3) (t:A3):E3:=fun Y τ Γ Z=>to Y τ Γ fun x Γ1=>tyOf Γ1 x=some Tn∧t Y τ Γ1 fun xs Γ2=>r3 x xs Γ2 Z
def eBM0 (Tn:String) (r3:M3r) (to:E3):E3:=fun Y τ Γ Z=>to Y τ Γ fun x Γ1=>tyOf Γ1 x=some Tn∧r3 x [] Γ1 Z
theorem tyV_of {K:PySem.W.Frag} {H:Hp} {Γ:Gp} {v:V} {x:T} {n:String} (r:R H v x) (hr:HR H Γ) (h:tyOf Γ x=some n) (hn:n = "list" ∨ n = "str" ∨ n = "dict"):tyV K n v H:=by
 have ty:=tyOf_r (K:=K) r hr h
 cases x with
 | non=>cases h; rcases hn with h | h | h <;> exact absurd h (by decide)
 | bl b=>cases h; rcases hn with h | h | h <;> exact absurd h (by decide)
 | int i=>cases h; rcases hn with h | h | h <;> exact absurd h (by decide)
 | str z=>cases h; rw [i_str r]; rfl
 | tup ts=>cases h; rcases hn with h | h | h <;> exact absurd h (by decide)
 | ty n=>cases h
 | scr K a ts=>cases h
 | ref a=>
  rw [i_ref r]
  have h:(match Γ a with | some (.lst _)=>some "list" | some (.dK _)=>some "dict" | _=>none)=some n:=h
  split at h
  ·rename_i g; cases h; obtain ⟨vs,hv,_⟩:=hr a _ g; exact .inl ⟨rfl,vs,SqL.of hv⟩
  ·rename_i g; cases h; obtain ⟨vs,hv,_⟩:=hr a _ g; exact .inr (.inr (.inl ⟨rfl,.inl ⟨vs,hv⟩⟩))
  ·cases h
section
variable {o e:Expr} {es:List Expr} {to:E3} {t:A3} {name:Str} {apos cpos:Pos} {Tn id:String} {r3:M3r}
theorem qe_bm0 (pa:PlainAttrs Tn) (slot:Slot Tn name id) (hty:typeOf (.builtin id)=pure (.type "method_descriptor")) (hm:MQ X id r3) (ho:PE X o (liE E to)) (hn:Tn = "list" ∨ Tn = "str" ∨ Tn = "dict" := by decide)
  (hbase:attributeBase o name X.env (eval o X.env)=eval o X.env:=by rfl) (hline:(apos.endLine == cpos.line)=true:=by rfl):PE X (.Call (.Attribute o name apos) [] [] cpos) (liE E (eBM0 Tn r3 to)):=by
 obtain ⟨r,hm,sim⟩:=hm
 exact weakE3 (pe_bm0 pa slot hty hm ho hbase hline) fun σ H Q τ Γ Y Z rs hr t vr xr=>⟨τ,Γ,Y,_,rs,hr,t,fun v x H1 Γ1 s1 h1 r1 ⟨ty,z⟩=>
  ⟨tyV_of r1 h1 ty hn,sim v x [] [] H1 Γ1 Q Z r1 rs_nil h1 z (vr.mono s1)⟩,xr⟩
theorem qe_bm (pa:PlainAttrs Tn) (slot:Slot Tn name id) (hty:typeOf (.builtin id)=pure (.type "method_descriptor")) (hm:MQ X id r3) (ho:PE X o (liE E to)) (ha:PA X (e::es) (liA E t)) (hn:Tn = "list" ∨ Tn = "str" ∨ Tn = "dict" := by decide)
  (hbase:attributeBase o name X.env (eval o X.env)=eval o X.env:=by rfl)
  (hfew:((backTo cpos (starEach (e::es) X.env)).all (fun x=>!x.1) && (backToKw cpos (keywordEach [] X.env)).all (fun x=>x.1.isSome)
   && decide ((e::es).length+([]:List Keyword).length+(if ([]:List Keyword).isEmpty then 0 else 1) < 30))=true:=by rfl)
  (hline:(apos.endLine == cpos.line)=true:=by rfl) (hs:starEach (e::es) X.env=(false,eval e X.env)::starEach es X.env:=by rfl) (hplain:(backTo cpos (starEach es X.env)).any (·.1)=false:=by rfl) :
  PE X (.Call (.Attribute o name apos) (e::es) [] cpos) (liE E (eBM Tn r3 to t)):=by
 obtain ⟨r,hm,sim⟩:=hm
 exact weakE3 (pe_bm pa slot hty hm ho ha hbase hfew hline hs hplain) fun σ H Q τ Γ Y Z rs hr t vr xr=>⟨τ,Γ,Y,_,rs,hr,t,fun v x H1 Γ1 s1 h1 r1 ⟨ty,z⟩=>
  ⟨tyV_of r1 h1 ty hn,τ,Γ1,Y,_,rs.mono s1.tq,h1,z,fun vs xs H2 Γ2 s2 h2 r2 z2=>sim v x vs xs H2 Γ2 Q Z (r1.mono s2.tq) r2 h2 z2 (vr.mono (s1.trans s2)),xr.mono s1⟩,xr⟩
end
theorem mq_append:MQ X "list.append" (fun x ts Γ Z=>∃ a us y,x=.ref a∧ts=[y]∧Γ a=some (.lst us)∧us.length < sizeLine∧Z .non (up Γ a (.lst (us++[y])))):=
 ⟨_,mt_append,fun v x vs ts H Γ Q Z r rs hr q0 vr=>by
  obtain ⟨a,us,y,ex,et,g,l,z⟩:=q0
  subst ex et
  obtain ⟨w,rfl,rw'⟩:=rs1 rs
  obtain ⟨ws,hw,q⟩:=hr a _ g
  refine ⟨a,ws,w,i_ref r,rfl,hw,by rw [q.length]; exact l,?_⟩
  have s:Stp H Γ (upd H a (.lst (ws++[w]))) (up Γ a (.lst (us++[y]))):=.set hr g
  exact vr _ _ _ _ s (hr.set g ⟨_,upd_same,Rs.app (q.mono s.tq) (rs_cons (rw'.mono s.tq) rs_nil)⟩) r_non z⟩
theorem mq_pop:MQ X "list.pop" (fun x ts Γ Z=>∃ a us y,x=.ref a∧ts=[]∧Γ a=some (.lst us)∧us[us.length-1]? = some y∧Z y (up Γ a (.lst us.dropLast))):=
 ⟨_,mt_pop,fun v x vs ts H Γ Q Z r rs hr q0 vr=>by
  obtain ⟨a,us,y,ex,et,g,l,z⟩:=q0
  subst ex et
  obtain ⟨ws,hw,q⟩:=hr a _ g
  obtain ⟨w,hw',rw'⟩:=q.get l
  refine ⟨a,ws,w,i_ref r,rs_inv0 rs,hw,by rw [q.length]; exact hw',?_⟩
  have s:Stp H Γ (upd H a (.lst ws.dropLast)) (up Γ a (.lst us.dropLast)):=.set hr g
  refine vr _ _ _ _ s (hr.set g ⟨_,upd_same,?_⟩) (rw'.mono s.tq) z
  have e:∀ {H2:Hp},Rs H2 ws us→Rs H2 ws.dropLast us.dropLast:=fun {H2} q2=>by
   rw [List.dropLast_eq_take,List.dropLast_eq_take,q2.length]
   exact Rs.take _ q2
  exact e (q.mono s.tq)⟩
theorem mq_extend:MQ X "list.extend" (fun x ts Γ Z=>∃ a b us ws,x=.ref a∧ts=[.ref b]∧Γ a=some (.lst us)∧Γ b=some (.lst ws)∧us.length+ws.length≤sizeLine∧Z .non (up Γ a (.lst (us++ws)))):=
 ⟨_,mt_extend,fun v x vs ts H Γ Q Z r rs hr q0 vr=>by
  obtain ⟨a,b,us,ws,ex,et,g,g',l,z⟩:=q0
  subst ex et
  obtain ⟨w,rfl,rw'⟩:=rs1 rs
  obtain ⟨va,hva,qa⟩:=hr a _ g
  obtain ⟨vb,hvb,qb⟩:=hr b _ g'
  refine ⟨a,b,va,vb,i_ref r,by rw [i_ref rw'],hva,hvb,by rw [qa.length,qb.length]; exact l,?_⟩
  have s:Stp H Γ (upd H a (.lst (va++vb))) (up Γ a (.lst (us++ws))):=.set hr g
  exact vr _ _ _ _ s (hr.set g ⟨_,upd_same,Rs.app (qa.mono s.tq) (qb.mono s.tq)⟩) r_non z⟩
theorem mq_join:MQ X "str.join" (fun x ts Γ Z=>∃ (p:Addr) (ss:List Str),x=.str Str.empty∧ts=[.ref p]∧it3 Γ (.ref p)=some (ss.map T.str)∧ss.length≤1000∧(∀ y∈ss,y.length≤1000)∧Z (.str (catS ss)) Γ):=
 ⟨_,mt_join,fun v x vs ts H Γ Q Z r rs hr q0 vr=>by
  obtain ⟨p,ss,ex,et,g,l,l2,z⟩:=q0
  subst ex et
  obtain ⟨w,rfl,rw'⟩:=rs1 rs
  obtain ⟨us,sq,q⟩:=it3_a (K:=X.K) hr g
  rw [rs_strs q] at sq
  exact ⟨p,ss,i_str r,by rw [i_ref rw'],sq,l,l2,vr _ _ H Γ .refl hr r_str z⟩⟩
def eLZ (ta:A3):E3:=fun Y τ Γ Z=>ta Y τ Γ fun xs Γ1=>∃ ts us,xs=[.tup ts,.tup us]∧ts.length=us.length∧∀ p,Γ1 p=none→Z (.ref p) (up Γ1 p (.lst (zipT ts us)))
theorem rs_zip {H H0:Hp} (t:Tq H0 H):∀ {xs ys:List V} {ts us:List T} {as:List Addr},Rs H0 xs ts→Rs H0 ys us→xs.length=ys.length→as.length=xs.length→Prs H xs ys as→Rs H (as.map V.ref) (zipT ts us)
 | xs,ys,[],us,as,q,q',l,la,pr=>by
  cases rs_inv0 q
  cases as with
  | nil=>exact rs_nil
  | cons _ _=>cases la
 | xs,ys,t1::r,[],as,q,q',l,la,pr=>by
  cases rs_inv0 q'
  obtain ⟨v,ws,rfl,a,b⟩:=rs_inv q
  cases l
 | xs,ys,t1::r,u1::r',as,q,q',l,la,pr=>by
  obtain ⟨v,ws,rfl,a,b⟩:=rs_inv q
  obtain ⟨v',ws',rfl,a',b'⟩:=rs_inv q'
  cases as with
  | nil=>cases la
  | cons p0 rest=>
   obtain ⟨x,y,e1,e2,h⟩:=pr 0 p0 rfl
   cases e1
   cases e2
   refine rs_cons (r_tup h (rs_cons (a.mono t) (rs_cons (a'.mono t) rs_nil))) (rs_zip t b b' (by simpa using l) (by simpa using la) fun j t e=>?_)
   exact pr (j+1) t (by simpa using e)
theorem qe_listzip {a b:Expr} {ta:A3} {p1 p2 pos1 pos2:Pos} (hc:X.calm=true) (hg:Gl X "list") (hm:X.mg "list" = none) (hg2:Gl X "zip") (hm2:X.mg "zip" = none) (ha:PA X [a,b] (liA E ta))
  (hs:starEach [a,b] X.env=[(false,eval a X.env),(false,eval b X.env)]:=by rfl) (hs2:starEach [b] X.env=[(false,eval b X.env)]:=by rfl)
  (hz:starEach [.Call (.Name "zip" p2) [a,b] [] pos2] X.env=[(false,eval (.Call (.Name "zip" p2) [a,b] [] pos2) X.env)]:=by rfl) :
  PE X (.Call (.Name "list" p1) [.Call (.Name "zip" p2) [a,b] [] pos2] [] pos1) (liE E (eLZ ta)):=
 weakE3 (pe_listzip hc hg hm hg2 hm2 ha hs hs2 hz) fun σ H Q τ Γ Y Z rs hr t vr xr=>⟨τ,Γ,Y,_,rs,hr,t,fun vs xs H1 Γ1 s1 h1 r1 ⟨ts,us,ex,hl,z⟩=>by
  subst ex
  obtain ⟨v,w,rfl,a,b⟩:=rs2 r1
  obtain ⟨pa,va,rfl,ha,qa⟩:=i_tup a
  obtain ⟨pb,vb,rfl,hb,qb⟩:=i_tup b
  refine ⟨pa,pb,va,vb,rfl,SqT.of ha,SqT.of hb,by rw [qa.length,qb.length]; exact hl,fun L H' as hL k hl' la pr=>?_⟩
  have tq:=tq_kp (kp0 k)
  have s2:Stp H1 Γ1 H' (up Γ1 L (.lst (zipT ts us))):=by
   refine ⟨tq,fun x h z=>?_,fun x h g=>?_,fun x o h _=>kp0 k x o h⟩
   ·cases e:H1 x with
    | none=>exact h e
    | some o=>exact (by rw [kp0 k x o e] at z; cases z)
   ·have e:x≠L:=fun e=>h (by rw [e]; exact hL)
    rw [up_ne e]; exact g
  refine vr _ _ H' _ (s1.trans s2) (fun x o g=>?_) r_ref (z L (h1.free hL))
  by_cases e:x=L
  ·subst e; rw [up_same] at g; cases g; exact ⟨_,hl',rs_zip tq qa qb (by rw [qa.length,qb.length]; exact hl) la pr⟩
  ·rw [up_ne e] at g; exact (h1 x o g).mono tq (kp0 k x),xr⟩
theorem rev_sim {r:V→Hp→VK→Prop} {r3:T→Gp→K3→Prop} {te ts:E3} (h:∀ v x H Γ Q Z,R H v x→HR H Γ→r3 x Γ Z→VR H Γ Z Q→r v H Q) (σ:St) (H:Hp) (Q:VK) (q:liE E (eRev r3 te ts) σ H Q) :
  liE E te σ H fun x H1=>liE E ts σ H1 fun y H2=>y=.int (-1)∧r x H2 Q:=by
 obtain ⟨τ,Γ,Y,Z,rs,hr,t,vr,xr⟩:=q
 refine ⟨τ,Γ,Y,_,rs,hr,t,fun v x H1 Γ1 s1 h1 r1 z1=>?_,xr⟩
 refine ⟨τ,Γ1,Y,_,rs.mono s1.tq,h1,z1,fun u y H2 Γ2 s2 h2 r2 z2=>?_,xr.mono s1⟩
 obtain ⟨e,z2⟩:=z2
 subst e
 exact ⟨i_int r2,h v x H2 Γ2 Q Z (r1.mono s2.tq) h2 z2 (vr.mono (s1.trans s2))⟩
section
variable {e st:Expr} {te ts:E3} {p2:Pos}
theorem qe_revT (he:PE X e (liE E te)) (hs:PE X st (liE E ts)):PE X (.Subscript e (.Slice none none (some st) p2) pos) (liE E (eRev (fun x Γ Z=>∃ ts,x=.tup ts∧Z (.tup ts.reverse) Γ) te ts)):=
 weakE (pe_rev rv_tup he hs) (rev_sim fun v x H Γ Q Z r hr q0 vr=>by
  obtain ⟨ts,ex,z⟩:=q0
  subst ex
  obtain ⟨p,us,rfl,hp,q⟩:=i_tup r
  refine ⟨p,us,rfl,SqT.of hp,fun c hc=>?_⟩
  have k:=keep_new (o:=.tup us.reverse) hc
  exact vr _ _ _ Γ (.keep k) (hr.keep k) (r_tup upd_same (Rs.reverse (q.mono (tq_kp k)))) z)
theorem qe_revL (he:PE X e (liE E te)) (hs:PE X st (liE E ts)):PE X (.Subscript e (.Slice none none (some st) p2) pos) (liE E (eRev (fun x Γ Z=>∃ a ts,x=.ref a∧it3 Γ (.ref a)=some ts∧∀ p,Γ p=none→Z (.ref p) (up Γ p (.lst ts.reverse))) te ts)):=
 weakE (pe_rev rv_list he hs) (rev_sim fun v x H Γ Q Z r hr q0 vr=>by
  obtain ⟨a,ts,ex,g,z⟩:=q0
  subst ex
  obtain ⟨us,sq,q⟩:=it3_a (K:=X.K) hr g
  refine ⟨a,us,i_ref r,sq,fun c hc=>?_⟩
  have k:=keep_new (o:=.lst us.reverse) hc
  exact vr _ _ _ _ (.make hc) (hr.make (o3:=.lst ts.reverse) hc ⟨_,upd_same,Rs.reverse (q.mono (tq_kp k))⟩) r_ref (z c (hr.free hc)))
end
end
def Le (Γ Γ':Gp):Prop:=∀ a o,Γ a=some o→Γ' a=some o
theorem Le.refl {Γ:Gp}:Le Γ Γ:=fun _ _ h=>h
theorem Le.trans {Γ Γ1 Γ':Gp} (a:Le Γ Γ1) (b:Le Γ1 Γ'):Le Γ Γ':=fun x o h=>b x o (a x o h)
theorem Le.new {Γ:Gp} {p:Addr} {o:O} (h:Γ p=none):Le Γ (up Γ p o):=fun b u q=>by rw [up_ne (gnn q h)]; exact q
theorem HR.le {H:Hp} {Γ Γ':Gp} (h:HR H Γ') (l:Le Γ Γ'):HR H Γ:=fun a o e=>h a o (l a o e)
def Kq (l:List Addr) (Γ Γ':Gp):Prop:=∀ b o,b∉l→Γ b=some o→Γ' b=some o
theorem Kq.refl {l:List Addr} {Γ:Gp}:Kq l Γ Γ:=fun _ _ _ h=>h
theorem Kq.trans {l:List Addr} {Γ Γ1 Γ':Gp} (a:Kq l Γ Γ1) (b:Kq l Γ1 Γ'):Kq l Γ Γ':=fun c o n h=>b c o n (a c o n h)
theorem Kq.mono {l l':List Addr} {Γ Γ1:Gp} (a:Kq l Γ Γ1) (s:∀ b∈l,b∈l'):Kq l' Γ Γ1:=fun c o n h=>a c o (fun z=>n (s c z)) h
theorem Kq.new {l:List Addr} {Γ:Gp} {p:Addr} (h:Γ p=none) (o:O):Kq l Γ (up Γ p o):=fun b u _ q=>by rw [up_ne (gnn q h)]; exact q
theorem Kq.set {l:List Addr} {Γ:Gp} {p:Addr} (h:p∈l) (o:O):Kq l Γ (up Γ p o):=fun b u n q=>by
 have e:b≠p:=fun z=>n (by rw [z]; exact h)
 rw [up_ne e]; exact q
theorem Kq.setNew {l:List Addr} {Γ Γ1:Gp} {p:Addr} (k:Kq l Γ Γ1) (h:Γ p=none) (o:O):Kq l Γ (up Γ1 p o):=fun b u n q=>by
 rw [up_ne (gnn q h)]; exact k b u n q
theorem Kq.le {Γ Γ':Gp} (k:Kq [] Γ Γ'):Le Γ Γ':=fun a o h=>k a o (by simp) h
theorem Le.kq {l:List Addr} {Γ Γ':Gp} (k:Le Γ Γ'):Kq l Γ Γ':=fun a o _ h=>k a o h
def Fr (l:List Addr) (Γ Γ':Gp):Prop:=∀ b,b∉l→Γ' b=Γ b
theorem Fr.refl {l:List Addr} {Γ:Gp}:Fr l Γ Γ:=fun _ _=>rfl
theorem Fr.kq {l:List Addr} {Γ Γ':Gp} (h:Fr l Γ Γ'):Kq l Γ Γ':=fun b o n q=>by rw [h b n]; exact q
theorem Fr.trans {l:List Addr} {Γ Γ1 Γ':Gp} (a:Fr l Γ Γ1) (b:Fr l Γ1 Γ'):Fr l Γ Γ':=fun x n=>(b x n).trans (a x n)
theorem Fr.mono {l l':List Addr} {Γ Γ1:Gp} (a:Fr l Γ Γ1) (s:∀ b∈l,b∈l'):Fr l' Γ Γ1:=fun c n=>a c fun z=>n (s c z)
theorem Fr.set {l:List Addr} {Γ:Gp} {p:Addr} (h:p∈l) (o:O):Fr l Γ (up Γ p o):=fun b n=>up_ne fun z=>n (by rw [z]; exact h)
def dropK (Z:K3):K3:=fun x Γ'=>∃ Γ2,Le Γ2 Γ'∧Z x Γ2
theorem drop0 {Z:K3} {x:T} {Γ Γ':Gp} (k:Le Γ Γ') (z:Z x Γ):dropK Z x Γ':=⟨Γ,k,z⟩
theorem dropL1 {Z:K3} {x:T} {Γ Γ':Gp} {a:Addr} {o:O} (k:Kq [a] Γ Γ') (h:Γ' a=some o) (z:Z x (up Γ a o)):dropK Z x Γ':=⟨up Γ a o,fun b u q=>by
 by_cases e:b=a
 ·subst e; rw [up_same] at q; cases q; exact h
 ·rw [up_ne e] at q; exact k b u (by simpa using e) q,z⟩
theorem dropL2 {Z:K3} {x:T} {Γ Γ':Gp} {a b:Addr} {o u:O} (k:Kq [a,b] Γ Γ') (h:Γ' a=some o) (h':Γ' b=some u) (z:Z x (up (up Γ a o) b u)):dropK Z x Γ':=⟨up (up Γ a o) b u,fun c w q=>by
 by_cases e:c=b
 ·subst e; rw [up_same] at q; cases q; exact h'
 ·rw [up_ne e] at q
  by_cases e2:c=a
  ·subst e2; rw [up_same] at q; cases q; exact h
  ·rw [up_ne e2] at q; exact k c w (by simp [e,e2]) q,z⟩
theorem Stp.cut {H H':Hp} {Γ Γ' Γ2:Gp} (s:Stp H Γ H' Γ') (l:Le Γ2 Γ'):Stp H Γ H' Γ2:=⟨s.tq,s.dom,fun a h g=>by
 cases e:Γ2 a with
 | none=>rfl
 | some o=>exact (by have:=l a o e; rw [s.new a h g] at this; cases this),s.frm⟩
section
variable {P:Program} {w:World} {K:PySem.W.Frag} {mg:Str→Option Value} {base:Heap}
theorem okd {x qual:Str} {st:Stmt} {f:Addr} {fd:FuncData} {N ps:List Str} {k:Nat} {sp:Sp3} (F:Fun K x qual st f fd) (S:FnScope N ps (defScope st)) (len:∀ ts Γ Z Y,sp ts Γ Z Y→ts.length=ps.length)
  (hbody:∀ (cdv:Value) (A:Around) (outer:List Env) (s:Shared) (H:Hp) (E:XK) (ts:List T) (Γ:Gp) (Z:K3) (Y:Value→Gp→Prop),Room k (A.deeper (envOfC qual (defScope st) s.heap.objs.size f cdv))→sp ts Γ Z Y →
   ∃ t,PSs (cxOf CX0 P w K mg base N qual (defScope st) f cdv A outer s H E).nox (defBody st) (liS EN t)∧t Y0 { nx:=fun _ Γ'=>dropK Z .non Γ',rt:=dropK Z } (start3 N ts) Γ):FnOk P w K mg base CX0 (k+1) f fd ps (liSp sp):=by
 refine F.ok S (fun vs H Q E q0=>by obtain ⟨ts,Γ,Z,Y,r,_,h,_⟩:=q0; rw [r.length]; exact len _ _ _ _ h) fun cdv A outer s H vs Q E hr ⟨ts,Γ,Z,Y,r,h,hsp,vr,xr⟩=>?_
 obtain ⟨t,ht,hq⟩:=hbody cdv A outer s H E ts Γ Z Y hr hsp
 exact ⟨_,ht,start3 N ts,Γ,Y0,_,rs_start N r (by rw [len _ _ _ _ hsp]; exact sc_len S),h,hq,⟨fun σ τ H' Γ' s' h' _ ⟨Γ2,l,z⟩=>vr .non .non H' Γ2 (s'.cut l) (h'.le l) r_non z,fun v x H' Γ' s' h' rv ⟨Γ2,l,z⟩=>vr v x H' Γ2 (s'.cut l) (h'.le l) rv z,fun _ _ _ _ _ _ _ z=>z.elim,fun _ _ _ _ _ _ _ z=>z.elim⟩,xr0⟩
theorem noC {f:Addr} {fd:FuncData} {ps:List Str} {sp:Sp3} {k:Nat} {CX:CXT} (no:∀ ts Γ Z Y,¬ sp ts Γ Z Y):FnOk P w K mg base CX k f fd ps (liSp sp):=
 ⟨fun vs H Q E ⟨ts,Γ,Z,Y,_,_,h,_⟩=>absurd h (no _ _ _ _),fun A outer s H args us vs Q E _ _ _ _ ⟨ts,Γ,Z,Y,_,_,h,_⟩=>absurd h (no _ _ _ _)⟩
end
theorem at0 {α:Type} {t:α} {ts:List α}:atI (t::ts) 0=some t:=by show atI (t::ts) ((0:Nat):Int)=some t; exact atI_nat rfl
theorem at1 {α:Type} {t u:α} {ts:List α}:atI (t::u::ts) 1=some u:=by show atI (t::u::ts) ((1:Nat):Int)=some u; exact atI_nat rfl
section
variable {Y:X3} {τ:S3} {Γ:Gp} {Z:K3} {D:D3} {B:Bool→Gp→Prop} {N:S3→Gp→Prop}
theorem t_var {i:Nat} {x:T} (h:τ[i]? = some (some x)) (z:Z x Γ):eVar i Y τ Γ Z:=⟨x,h,z⟩
theorem t_c {x:T} (z:Z x Γ):eC x Y τ Γ Z:=z
theorem t_op {r:R3} {a b:E3} (h:a Y τ Γ fun x Γ1=>b Y τ Γ1 fun y Γ2=>r x y Γ2 Z):eOp r a b Y τ Γ Z:=h
theorem t_T {t:E3} (h:t Y τ Γ fun x Γ1=>∃ k,x=.bl k∧B k Γ1):eT t Y τ Γ B:=h
theorem t_bl {b:Bool} {Q:Bool→Prop} (h:Q b):∃ k,T.bl b=.bl k∧Q k:=⟨b,rfl,h⟩
theorem t_seq {t u:C3} (h:t Y { D with nx:=u Y D } τ Γ):cSeq t u Y D τ Γ:=h
theorem t_if {c:T3} {t u:C3} (h:c Y τ Γ fun b Γ1=>if b=true then t Y D τ Γ1 else u Y D τ Γ1):cIf c t u Y D τ Γ:=h
theorem t_set {i:Nat} {te:E3} (h:te Y τ Γ fun x Γ1=>D.nx (τ.set i (some x)) Γ1):cSet i te Y D τ Γ:=h
theorem t_ret {te:E3} (h:te Y τ Γ D.rt):cRet te Y D τ Γ:=h
theorem t_retN (h:D.rt .non Γ):cRetN Y D τ Γ:=h
theorem t_drop {te:E3} (h:te Y τ Γ fun _ Γ1=>D.nx τ Γ1):cDrop te Y D τ Γ:=h
theorem t_next (h:D.nx τ Γ):cNext Y D τ Γ:=h
theorem t_cnt (h:D.ct τ Γ):cCont Y D τ Γ:=h
theorem t_and {a b:E3} (h:a Y τ Γ fun x Γ1=>∃ c,x=.bl c∧if c=true then b Y τ Γ1 Z else Z (.bl false) Γ1):eAnd a b Y τ Γ Z:=h
theorem t_or {a b:E3} (h:a Y τ Γ fun x Γ1=>∃ c,x=.bl c∧if c=true then Z (.bl true) Γ1 else b Y τ Γ1 Z):eOr a b Y τ Γ Z:=h
theorem t_not {a:E3} (h:a Y τ Γ fun x Γ1=>∃ c,x=.bl c∧Z (.bl (!c)) Γ1):eNot a Y τ Γ Z:=h
theorem t_band {a b:T3} (h:a Y τ Γ fun c Γ1=>if c=true then b Y τ Γ1 B else B false Γ1):bAnd a b Y τ Γ B:=h
theorem t_bor {a b:T3} (h:a Y τ Γ fun c Γ1=>if c=true then B true Γ1 else b Y τ Γ1 B):bOr a b Y τ Γ B:=h
theorem t_bnot {a:T3} (h:a Y τ Γ fun c Γ1=>B (!c) Γ1):bNot a Y τ Γ B:=h
theorem t_eif {c:T3} {a b:E3} (h:c Y τ Γ fun k Γ1=>if k=true then a Y τ Γ1 Z else b Y τ Γ1 Z):eIf c a b Y τ Γ Z:=h
theorem t_nil {A:List T→Gp→Prop} (h:A [] Γ):aNil Y τ Γ A:=h
theorem t_cons {A:List T→Gp→Prop} {te:E3} {t:A3} (h:te Y τ Γ fun x Γ1=>t Y τ Γ1 fun xs Γ2=>A (x::xs) Γ2):aCons te t Y τ Γ A:=h
theorem t_tup {t:A3} (h:t Y τ Γ fun xs Γ1=>xs.length≤sizeLine∧Z (.tup xs) Γ1):eTup t Y τ Γ Z:=h
theorem t_lst {t:A3} (h:t Y τ Γ fun xs Γ1=>xs.length≤sizeLine∧∀ p,Γ1 p=none→Z (.ref p) (up Γ1 p (.lst xs))):eLst t Y τ Γ Z:=h
theorem t_len {n:Nat} {A:Prop} (h:Nat.ble n 1000=true) (a:A):n≤sizeLine∧A:=⟨Nat.le_trans (Nat.le_of_ble_eq_true h) (by decide),a⟩
theorem t_call {sp:Sp3} {t:A3} (h:t Y τ Γ fun xs Γ1=>sp xs Γ1 Z fun _ _=>False):eCall sp t Y τ Γ Z:=h
theorem t_callX {sp:Sp3} {t:A3} (h:t Y τ Γ fun xs Γ1=>sp xs Γ1 Z (Y τ)):eCallX sp t Y τ Γ Z:=h
theorem t_cb {r:F3} {t:A3} (h:t Y τ Γ fun ts Γ1=>r ts Γ1 Z):eCB r t Y τ Γ Z:=h
theorem t_J {g:Int→Int→T} {i j:Int} (h:Z (g i j) Γ):r3J g (.int i) (.int j) Γ Z:=⟨i,j,rfl,rfl,h⟩
theorem t_I {C:Int→Int→Prop} {g:Int→Int→T} {i j:Int} (c:C i j) (h:Z (g i j) Γ):r3I C g (.int i) (.int j) Γ Z:=⟨i,j,rfl,rfl,c,h⟩
theorem t_eqS {a b:Str} (h:Z (.bl (decide (V.str a=V.str b))) Γ):r3Eq (.str a) (.str b) Γ Z:=⟨_,_,rfl,rfl,rfl,h⟩
theorem t_eqI {a b:Int} (h:Z (.bl (decide (V.int a=V.int b))) Γ):r3Eq (.int a) (.int b) Γ Z:=⟨_,_,rfl,rfl,rfl,h⟩
theorem t_neS {a b:Str} (h:Z (.bl (!decide (V.str a=V.str b))) Γ):r3Ne (.str a) (.str b) Γ Z:=⟨_,_,rfl,rfl,rfl,h⟩
theorem t_neI {a b:Int} (h:Z (.bl (!decide (V.int a=V.int b))) Γ):r3Ne (.int a) (.int b) Γ Z:=⟨_,_,rfl,rfl,rfl,h⟩
theorem t_ix0 {t:T} {ts:List T} (z:Z t Γ):r3Ix (.tup (t::ts)) (.int 0) Γ Z:=⟨_,0,t,rfl,rfl,at0,z⟩
theorem t_ix1 {t u:T} {ts:List T} (z:Z u Γ):r3Ix (.tup (t::u::ts)) (.int 1) Γ Z:=⟨_,1,u,rfl,rfl,at1,z⟩
theorem t_bm {Tn:String} {r:M3r} {to:E3} {t:A3} (h:to Y τ Γ fun x Γ1=>tyOf Γ1 x=some Tn∧t Y τ Γ1 fun xs Γ2=>r x xs Γ2 Z):eBM Tn r to t Y τ Γ Z:=h
theorem t_bm0 {Tn:String} {r:M3r} {to:E3} (h:to Y τ Γ fun x Γ1=>tyOf Γ1 x=some Tn∧r x [] Γ1 Z):eBM0 Tn r to Y τ Γ Z:=h
theorem t_inst {K:PySem.W.Frag} {Ty:String} {te:E3} (h:te Y τ Γ fun x Γ1=>∃ n b,tyOf Γ1 x=some n∧PySem.W.kitOne K (.type n) (.type Ty)=some b∧Z (.bl b) Γ1):eInst K Ty te Y τ Γ Z:=h
theorem t_tru {t:E3} (h:t Y τ Γ fun x Γ1=>∃ k,tru3 Γ1 x=some k∧B k Γ1):eTru t Y τ Γ B:=h
theorem t_asg {te:E3} {g:G3} (h:te Y τ Γ fun x Γ1=>g Y x τ Γ1 D.nx):cAsg te g Y D τ Γ:=h
theorem t_hn {i:Nat} {x:T} (h:N (τ.set i (some x)) Γ):hName i Y x τ Γ N:=h
theorem t_ht {n:Nat} {gs:Gs3} {ts:List T} (l:Nat.beq ts.length n=true) (h:gs Y ts τ Γ N):hTup n gs Y (.tup ts) τ Γ N:=⟨ts,rfl,Nat.eq_of_beq_eq_true l,h⟩
theorem t_hc {g:G3} {gs:Gs3} {x:T} {r:List T} (h:g Y x τ Γ fun τ1 Γ1=>gs Y r τ1 Γ1 N):hCons g gs Y (x::r) τ Γ N:=⟨x,r,rfl,h⟩
theorem t_h0 (h:N τ Γ):hNil Y [] τ Γ N:=⟨rfl,h⟩
theorem t_hs {to ti:E3} {v:T} (h:to Y τ Γ fun o Γ1=>ti Y τ Γ1 fun i Γ2=>∃ a ts k j,o=.ref a∧i=.int k∧Γ2 a=some (.lst ts)∧ixN ts.length k=some j∧N τ (up Γ2 a (.lst (ts.set j v)))):hSub to ti Y v τ Γ N:=h
theorem t_un {r:T→Gp→K3→Prop} {a:E3} (h:a Y τ Γ fun x Γ1=>r x Γ1 Z):eUn r a Y τ Γ Z:=h
theorem t_neg {g:Int→T} {i:Int} (h:Z (g i) Γ):r3U g (.int i) Γ Z:=⟨i,rfl,h⟩
theorem t_sl {r:L3r} {te:E3} {tl th:O3} (h:te Y τ Γ fun x Γ1=>tl Y τ Γ1 fun l Γ2=>th Y τ Γ2 fun u Γ3=>r x l u Γ3 Z):eSl r te tl th Y τ Γ Z:=h
theorem t_on {Q:Option Int→Gp→Prop} (h:Q none Γ):oNone Y τ Γ Q:=h
theorem t_os {Q:Option Int→Gp→Prop} {t:E3} (h:t Y τ Γ fun x Γ1=>∃ i,x=.int i∧Q (some i) Γ1):oSome t Y τ Γ Q:=h
theorem t_oi {i:Int} {Q:Int→Prop} (h:Q i):∃ k,T.int i=.int k∧Q k:=⟨i,rfl,h⟩
theorem t_rev {r:T→Gp→K3→Prop} {te ts:E3} (h:te Y τ Γ fun x Γ1=>ts Y τ Γ1 fun k Γ2=>k=.int (-1)∧r x Γ2 Z):eRev r te ts Y τ Γ Z:=h
theorem t_for {wi:I3} {g:G3} {tb:C3} (h:wi Y τ Γ fun ts gd Γ1=>wFor gd g tb Y D ts τ Γ1):cFor wi g tb Y D τ Γ:=h
theorem t_itp {tl:E3} {I:List T→(Gp→Prop)→Gp→Prop} (h:tl Y τ Γ fun x Γ1=>∃ ts,x=.tup ts∧I ts gT Γ1):iTp tl Y τ Γ I:=h
theorem t_tp {ts:List T} {Q:List T→Prop} (h:Q ts):∃ us,T.tup ts=.tup us∧Q us:=⟨ts,rfl,h⟩
theorem t_cat {ts us:List T} (l:ts.length+us.length≤sizeLine) (h:Z (.tup (ts++us)) Γ):r3Cat (.tup ts) (.tup us) Γ Z:=⟨ts,us,rfl,rfl,l,h⟩
theorem t_comp {wi:I3} {g:G3} {tc:T3} {te:E3} {own:List Str} {cap:List (Nat×Str)} (h:wi Y τ Γ fun ts gd Γ1=>ts.length≤sizeLine∧wComp gd g tc te (fun ys Γ2=>∀ D,Γ2 D=none→Z (.ref D) (up Γ2 D (.lst ys))) ts (cSt own cap τ) [] Γ1):eComp wi g tc te own cap Y τ Γ Z:=h
theorem t_bt (h:B true Γ):bTrue Y τ Γ B:=h
theorem t_raise {C:Addr} {t:A3} (h:t Y τ Γ fun xs Γ1=>xs.length≤sizeLine∧Y τ (.ref C) Γ1):cRaise C t Y D τ Γ:=h
theorem t_rg1 {ta:A3} {I:List T→(Gp→Prop)→Gp→Prop} (h:ta Y τ Γ fun xs Γ1=>∃ j:Int,xs=[.int j]∧-(2 ^ 62)≤j∧j < 2 ^ 62∧I (rngT 0 j.toNat) gT Γ1):iRg1 ta Y τ Γ I:=h
theorem t_zp {ta:A3} {I:List T→(Gp→Prop)→Gp→Prop} (h:ta Y τ Γ fun xs Γ1=>∃ ts us,xs=[.tup ts,.tup us]∧I (zipT ts us) gT Γ1):iZp ta Y τ Γ I:=h
theorem t_en {ta:A3} {I:List T→(Gp→Prop)→Gp→Prop} (h:ta Y τ Γ fun xs Γ1=>∃ ts,xs=[.tup ts]∧I (enumT 0 ts) gT Γ1):iEn ta Y τ Γ I:=h
theorem t_ils {tl:E3} {I:List T→(Gp→Prop)→Gp→Prop} (h:tl Y τ Γ fun x Γ1=>∃ a ts,x=.ref a∧it3 Γ1 (.ref a)=some ts∧I ts (fun Γ'=>it3 Γ' (.ref a)=some ts) Γ1):iLs tl Y τ Γ I:=h
theorem t_ist {tl:E3} {I:List T→(Gp→Prop)→Gp→Prop} (h:tl Y τ Γ fun x Γ1=>∃ z,x=.str z∧I (signsT z) gT Γ1):iSt tl Y τ Γ I:=h
theorem t_str {z:Str} {Q:Str→Prop} (h:Q z):∃ k,T.str z=.str k∧Q k:=⟨z,rfl,h⟩
theorem c_ifT {b:Bool} {A C:Prop} (h:b=true) (a:A):if b=true then A else C:=by rw [if_pos h]; exact a
theorem c_ifF {b:Bool} {A C:Prop} (h:b=false) (a:C):if b=true then A else C:=by rw [if_neg (by rw [h]; exact Bool.false_ne_true)]; exact a
theorem c_if {b:Bool} {A C:Prop} (h1:b=true→A) (h2:b=false→C):if b=true then A else C:=by
 cases b with
 | true=>rw [if_pos rfl]; exact h1 rfl
 | false=>rw [if_neg Bool.false_ne_true]; exact h2 rfl
theorem nocut {t:C3} (h:t Y D τ Γ):cCut t Y D τ Γ:=⟨D.nx,h,fun _ _ z=>z⟩
end
section
variable {X:Cx}
theorem mq_index:MQ X "list.index" (fun x ts Γ Z=>∃ (p:Addr) (us:List T) (xs:List V) (y:T) (v:V) (j:Nat),x=.ref p∧ts=[y]∧it3 Γ (.ref p)=some us∧scs us=some xs∧sc y=some v∧flatV v=true∧xs.all flatV=true∧(∃ z,xs[j]? = some z∧eqV z v=true)∧(∀ m z,m < j→xs[m]? = some z→eqV z v=false)∧Z (.int j) Γ):=
 ⟨_,mt_index,fun v x vs ts H Γ Q Z r rs hr q0 vr=>by
  obtain ⟨p,us,xs,y,w,j,ex,et,g,es,ey,f1,f2,h1,h2,z⟩:=q0
  subst ex et
  obtain ⟨u,rfl,ru⟩:=rs1 rs
  obtain ⟨ws,sq,q⟩:=it3_a (K:=X.K) hr g
  cases scs_r q es
  exact ⟨p,xs,w,j,i_ref r,by rw [sc_r ru ey],sq,f1,f2,h1,h2,vr _ _ H Γ .refl hr r_int z⟩⟩
theorem scs_strs:∀ ss:List Str,scs (ss.map T.str)=some (ss.map V.str)
 | []=>rfl
 | s::r=>by rw [List.map_cons,List.map_cons,scs,scs_strs r]; rfl
end
section
variable {Y:X3} {τ:S3} {Γ:Gp} {Z:K3}
theorem t_1t {us:List T} {Q:List T→Prop} (h:Q us):∃ ts,[T.tup us]=[T.tup ts]∧Q ts:=⟨us,rfl,h⟩
theorem t_2t {us ws:List T} {Q:List T→List T→Prop} (h:Q us ws):∃ ts vs,[T.tup us,T.tup ws]=[T.tup ts,T.tup vs]∧Q ts vs:=⟨us,ws,rfl,h⟩
theorem t_eqSI {a:Str} {b:Int} (h:Z (.bl false) Γ):r3Eq (.str a) (.int b) Γ Z:=⟨_,_,rfl,rfl,rfl,h⟩
theorem t_eqIS {a:Int} {b:Str} (h:Z (.bl false) Γ):r3Eq (.int a) (.str b) Γ Z:=⟨_,_,rfl,rfl,rfl,h⟩
theorem t_neSI {a:Str} {b:Int} (h:Z (.bl true) Γ):r3Ne (.str a) (.int b) Γ Z:=⟨_,_,rfl,rfl,rfl,h⟩
theorem t_neIS {a:Int} {b:Str} (h:Z (.bl true) Γ):r3Ne (.int a) (.str b) Γ Z:=⟨_,_,rfl,rfl,rfl,h⟩
theorem t_gT {A:Prop} (h:A):gT Γ∧A:=⟨trivial,h⟩
theorem d_str {a b:Str} (h:decide (V.str a=V.str b)=true):a=b:=V.str.inj (of_decide_eq_true h)
theorem d_strN {a b:Str} (h:decide (V.str a=V.str b)=false):a≠b:=fun e=>of_decide_eq_false h (by rw [e])
theorem d_intN {a b:Int} (h:decide (V.int a=V.int b)=false):a≠b:=fun e=>of_decide_eq_false h (by rw [e])
theorem t_lenT {us:List T} {Q:T→List T→Prop} (h:Q (.tup us) us):∃ x ts,[T.tup us]=[x]∧it3 Γ x=some ts∧Q x ts:=⟨.tup us,us,rfl,rfl,h⟩
end
section
variable {Y:X3} {τ:S3} {Γ:Gp} {Z:K3}
theorem t_chain {r r':R3} {a b c:E3} (h:a Y τ Γ fun x Γ1=>b Y τ Γ1 fun y Γ2=>r x y Γ2 fun z Γ3=>∃ k,z=.bl k∧(if k=true then c Y τ Γ3 fun w' Γ4=>r' y w' Γ4 Z else Z (.bl false) Γ3)):eChain r r' a b c Y τ Γ Z:=h
theorem t_inT {neg:Bool} {x:T} {u:V} {ts:List T} {us:List V} (h1:sc x=some u) (h2:scs ts=some us) (h3:(flatV u && us.all flatV)=true) (z:Z (.bl (if neg then !inV u us else inV u us)) Γ):r3In neg x (.tup ts) Γ Z:=by
 rw [Bool.and_eq_true] at h3
 exact ⟨u,ts,us,h1,rfl,h2,h3.1,h3.2,z⟩
theorem t_lenR {p:Addr} {ts:List T} {Q:T→List T→Prop} (g:Γ p=some (.lst ts)) (h:Q (.ref p) ts):∃ x us,[T.ref p]=[x]∧it3 Γ x=some us∧Q x us:=⟨.ref p,ts,rfl,it3_l g,h⟩
theorem t_ixR {p:Addr} {ts:List T} {i:Int} {t:T} (g:Γ p=some (.lst ts)) (h:atI ts i=some t) (z:Z t Γ):r3Ix (.ref p) (.int i) Γ Z:=⟨ts,i,t,it3_l g,rfl,h,z⟩
theorem t_ixT {ts:List T} {i:Int} {t:T} (h:atI ts i=some t) (z:Z t Γ):r3Ix (.tup ts) (.int i) Γ Z:=⟨ts,i,t,rfl,rfl,h,z⟩
theorem t_ixN {ts:List T} {i:Nat} {t:T} (h:ts[i]? = some t) (z:Z t Γ):r3Ix (.tup ts) (.int (i:Nat)) Γ Z:=⟨ts,i,t,rfl,rfl,atI_nat h,z⟩
theorem t_tyL {p:Addr} {ts:List T} {A:Prop} (g:Γ p=some (.lst ts)) (h:A):tyOf Γ (.ref p)=some "list" ∧ A:=⟨by show (match Γ p with | some (.lst _)=>some "list" | some (.dK _)=>some "dict" | _=>none)=_; rw [g],h⟩
theorem t_tyS {z:Str} {A:Prop} (h:A):tyOf Γ (.str z)=some "str" ∧ A:=⟨rfl,h⟩
end
section
variable {Y:X3} {τ:S3} {Γ:Gp} {Z:K3} {N:S3→Gp→Prop}
theorem t_2i {i j:Int} {Q:Int→Int→Prop} (h:Q i j):∃ i' j',[T.int i,T.int j]=[T.int i',T.int j']∧Q i' j':=⟨i,j,rfl,h⟩
theorem t_hsub {p:Addr} {ts:List T} {k:Int} {j:Nat} {v:T} (g:Γ p=some (.lst ts)) (h:ixN ts.length k=some j) (z:N τ (up Γ p (.lst (ts.set j v)))):∃ a us k' j',T.ref p=.ref a∧T.int k=.int k'∧Γ a=some (.lst us)∧ixN us.length k'=some j'∧N τ (up Γ a (.lst (us.set j' v))):=⟨p,ts,k,j,rfl,rfl,g,h,z⟩
end
section
variable {Y:X3} {τ:S3} {Γ:Gp} {Z:K3} {N:S3→Gp→Prop}
theorem t_e0 {A:Prop} (h:A):T.tup []=T.tup []∧A:=⟨rfl,h⟩
end
section
variable {Y:X3} {τ:S3} {Γ:Gp} {Z:K3} {D:D3}
theorem t_try {K:PySem.W.Frag} {Cy:Addr} {j:Nat} {tb ts:C3} (h:tb (fun τ' C Γ'=>PySem.W.exmOne K C (.ref Cy)=some true∧∀ x,Γ' x=none →
 ts Y0 { nx:=fun τ2 Γ2=>D.nx (τ2.set j none) Γ2,rt:=D.rt,bk:=fun τ2 Γ2=>D.bk (τ2.set j none) Γ2,ct:=fun τ2 Γ2=>D.ct (τ2.set j none) Γ2 } (τ'.set j (some (.ref x))) (up Γ' x (.ext (excAt x C)))) D τ Γ):cTry K Cy j tb ts Y D τ Γ:=h
theorem t_lz {ta:A3} (h:ta Y τ Γ fun xs Γ1=>∃ ts us,xs=[.tup ts,.tup us]∧ts.length=us.length∧∀ p,Γ1 p=none→Z (.ref p) (up Γ1 p (.lst (zipT ts us)))):eLZ ta Y τ Γ Z:=h
end
mutual
/-- how great a value is -/
def tsz:T→Nat
 | .tup ts=>1+tszs ts
 | .non=>1 | .bl _=>1 | .int _=>1 | .str _=>1 | .ref _=>1 | .ty _=>1 | .scr _ _ _=>1
def tszs:List T→Nat
 | []=>0
 | t::r=>tsz t+tszs r
end
theorem tszs_app:∀ (a b:List T),tszs (a++b)=tszs a+tszs b
 | [],b=>by rw [List.nil_append,tszs,Nat.zero_add]
 | x::r,b=>by rw [List.cons_append,tszs,tszs,tszs_app r b,Nat.add_assoc]
theorem tsz_pos:∀ x:T,1≤tsz x:=fun x=>by cases x <;> rw [tsz] <;> omega
theorem tszs_len:∀ xs:List T,xs.length≤tszs xs
 | []=>Nat.zero_le _
 | x::r=>by rw [tszs,List.length_cons]; have:=tszs_len r; have:=tsz_pos x; omega
inductive Pl:T→Prop
 | int (i:Int):Pl (.int i)
 | str {z:Str}:Pl (.str z)
 | tup {ts:List T} (q:∀ t∈ts,Pl t):Pl (.tup ts)
theorem zip_self:∀ ts:List T,zipT ts ts=ts.map fun y=>.tup [y,y]
 | []=>rfl
 | t::r=>by rw [zipT,zip_self r]; rfl
theorem us1 {α:Type} {P:List α→Prop} (h:∀ a0,P [a0]):∀ us:List α,us.length=1→P us
 | [a0],_=>h _
theorem us2 {α:Type} {P:List α→Prop} (h:∀ a0 a1,P [a0,a1]):∀ us:List α,us.length=2→P us
 | [a0,a1],_=>h _ _
theorem us3 {α:Type} {P:List α→Prop} (h:∀ a0 a1 a2,P [a0,a1,a2]):∀ us:List α,us.length=3→P us
 | [a0,a1,a2],_=>h _ _ _
section
variable {X:Cx}
theorem Rs.getD {H:Hp}:∀ {vs:List V} {ts:List T} {j:Nat} {t:T},Rs H vs ts→ts[j]? = some t→R H (vs.getD j .non) t
 | vs,[],j,t,q,h=>by simp at h
 | vs,x::ts,j,t,q,h=>by
  obtain ⟨w,ws,rfl,r1,r2⟩:=rs_inv q
  cases j with
  | zero=>cases h; exact r1
  | succ j=>
   show R H (ws.getD j .non) t
   exact Rs.getD r2 (by simpa using h)
end
section
variable {X:Cx}
end
end L3
namespace Sr
open PySem PyProof.Rows
structure SB (a0:Array Keyed) (kd:SortKind) (st:SortSt):Prop where
 perm:(arrOf st).Perm a0
 kind:kindOf st=kd
 failed:failedOf st=none
 pend:pendingOf st=#[]
section
variable {prog:Program} {w:World} {A:Around} {E:Value→Shared→Prop} {s:Shared} {a0:Array Keyed} {kd:SortKind} {st:SortSt}
theorem SB.size (B:SB a0 kd st):(arrOf st).size=a0.size:=B.perm.size_eq
theorem SB.arr (B:SB a0 kd st) {xs:Array Keyed} (h:xs.Perm (arrOf st)):SB a0 kd (setArr st xs):=⟨h.trans B.perm,B.kind,B.failed,B.pend⟩
theorem SB.get (B:SB a0 kd st) {i:Nat} (h:i < a0.size):∃ x,(arrOf st)[i]? = some x∧x∈a0.toList:=by
 have h':i < (arrOf st).size:=by rw [B.size]; exact h
 refine ⟨(arrOf st)[i],by simp [h'],?_⟩
 have:=B.perm
 rw [Array.perm_iff_toList_perm] at this
 exact this.mem_iff.mp (by simp)
end
section
variable {prog:Program} {w:World} {A:Around} {E:Value→Shared→Prop} {s:Shared}
theorem pairs_snd (vs:List Value):((pairsOf vs).map fun x=>x.2).toList=vs:=by
 unfold pairsOf
 simp only [Array.toList_map,Array.toList_zip]
 induction vs with
 | nil=>rfl
 | cons v r ih=>simp only [List.zip_cons_cons,List.map_cons]; rw [ih]
theorem out_perm {vs:List Value} {xs:Array Keyed} (h:xs.Perm (pairsOf vs)):(xs.map fun x=>x.2).toList.Perm vs:=by
 rw [Array.perm_iff_toList_perm] at h
 have:=h.map (fun x:Keyed=>x.2)
 rw [Array.toList_map]
 refine this.trans ?_
 rw [← Array.toList_map,pairs_snd]
end
section
variable {prog:Program} {w:World} {A:Around} {E:Value→Shared→Prop} {s:Shared} {M:Model}
theorem wp_mapM {α β:Type} {f:α→Sem β} (R:β→Prop):∀ (vs:List α) {Q:List β→Shared→Prop},(∀ v∈vs,∀ (Q':β→Shared→Prop),(∀ r,R r→Q' r s)→wpAny M A (f v) Q' E s)→(∀ rs:List β,rs.length=vs.length→(∀ r∈rs,R r)→Q rs s)→wpAny M A (List.mapM f vs) Q E s
 | [],Q,h,q=>by
  rw [List.mapM_nil]
  exact wpAny_pure (q [] rfl fun _ h=>nomatch h)
 | v::vs,Q,h,q=>by
  rw [List.mapM_cons]
  refine wpAny_bind (h v (by simp) _ fun r hr=>?_)
  refine wpAny_bind (wp_mapM R vs (fun v' hv=>h v' (by simp [hv])) fun rs hl hrs=>?_)
  exact wpAny_pure (q (r::rs) (by rw [List.length_cons,List.length_cons,hl]) fun r' hr'=>by
   rcases List.mem_cons.mp hr' with rfl | h'
   ·exact hr
   ·exact hrs _ h')
theorem wp_arrM {α β:Type} {f:α→Sem β} (R:β→Prop) {vs:List α} {Q:Array β→Shared→Prop} (h:∀ v∈vs,∀ (Q':β→Shared→Prop),(∀ r,R r→Q' r s)→wpAny M A (f v) Q' E s) (q:∀ rs:List β,rs.length=vs.length→(∀ r∈rs,R r)→Q rs.toArray s):wpAny M A (Array.mapM f vs.toArray) Q E s:=by
 rw [Array.mapM_eq_mapM_toList,map_eq_pure_bind]
 exact wpAny_bind (wp_mapM R vs h fun rs hl hr=>wpAny_pure (q rs hl hr))
end
end Sr
namespace L2
open PySem PySem.Spec PyProof.Rows
theorem vals_perm:∀ {us us':List Value},us'.Perm us→∀ {xs:List V},Vals xs us→∃ zs,zs.Perm xs∧Vals zs us':=by
 intro us us' p
 induction p with
 | nil=>intro xs h; exact ⟨xs,.refl _,h⟩
 | @cons u l1 l2 p ih=>
  intro xs h
  cases h with
  | @cons x u xs us r h'=>
   obtain ⟨zs,pz,hz⟩:=ih h'
   exact ⟨x::zs,pz.cons _,.cons r hz⟩
 | swap u v l=>
  intro xs h
  cases h with
  | @cons x u xs us r h'=>
   cases h' with
   | @cons y v ys vs r2 h2=>exact ⟨y::x::ys,.swap _ _ _,.cons r2 (.cons r h2)⟩
 | trans p1 p2 ih1 ih2=>
  intro xs h
  obtain ⟨zs,pz,hz⟩:=ih2 h
  obtain ⟨ws,pw,hw⟩:=ih1 hz
  exact ⟨ws,pw.trans pz,hw⟩
section
variable {X:Cx}
end
end L2
namespace L3
open PySem PySem.Spec L2
theorem rs_perm {H:Hp} {α:Type} {f:α→T}:∀ {vs vs':List V},vs'.Perm vs→∀ {ns:List α},Rs H vs (ns.map f)→∃ ms:List α,ms.Perm ns∧Rs H vs' (ms.map f):=by
 intro vs vs' p
 induction p with
 | nil=>intro ns h; exact ⟨ns,.refl _,h⟩
 | @cons u l1 l2 p ih=>
  intro ns h
  cases ns with
  | nil=>cases rs_inv0 h
  | cons n ns=>
   obtain ⟨v,ws,e,a,b⟩:=rs_inv h
   cases e
   obtain ⟨ms,pm,hm⟩:=ih b
   exact ⟨n::ms,pm.cons _,rs_cons a hm⟩
 | swap u v l=>
  intro ns h
  cases ns with
  | nil=>cases rs_inv0 h
  | cons n ns=>
   obtain ⟨_,_,e,a,b⟩:=rs_inv h
   cases e
   cases ns with
   | nil=>cases rs_inv0 b
   | cons m ns=>
    obtain ⟨_,_,e,a2,b2⟩:=rs_inv b
    cases e
    exact ⟨m::n::ns,.swap _ _ _,rs_cons a2 (rs_cons a b2)⟩
 | trans p1 p2 ih1 ih2=>
  intro ns h
  obtain ⟨zs,pz,hz⟩:=ih2 h
  obtain ⟨ws,pw,hw⟩:=ih1 hz
  exact ⟨ws,pw.trans pz,hw⟩
section
variable {X:Cx}
end
end L3
namespace L2
open PySem PySem.Spec PyProof.Rows
section
variable {prog:Program} {w:World} {A:Around} {E:Value→Shared→Prop} {s:Shared}
end
section
variable {X:Cx}
def tLR (ta:TA):TE:=fun σ H Q=>ta σ H fun vs H1=>∃ n:Nat,vs=[.int n]∧n≤1000∧∀ L,H1 L=none→Q (.ref L) (upd H1 L (.lst ((List.range n).map fun j=>V.int (j:Nat))))
theorem vals_of_items {f:Nat→V}:∀ {its:List Value} {k:Nat},(∀ (j:Nat) (v:Value),its[j]? = some v→RelV (f (k+j)) v)→Vals ((List.range' k its.length).map f) its
 | [],k,h=>.nil
 | v::r,k,h=>by
  show Vals (f k::(List.range' (k+1) r.length).map f) (v::r)
  refine .cons (h 0 v rfl) (vals_of_items fun j u e=>?_)
  have:=h (j+1) u (by simpa using e)
  rw [show k+1+j=k+(j+1) by omega]
  exact this
theorem pe_listrange {a:Expr} {ta:TA} {p1 p2 pos1 pos2:Pos} (hc:X.calm=true) (hg:Gl X "list") (hm:X.mg "list" = none) (hg2:Gl X "range") (hm2:X.mg "range" = none) (ha:PA X [a] ta)
  (hs:starEach [a] X.env=[(false,eval a X.env)]:=by rfl)
  (hz:starEach [.Call (.Name "range" p2) [a] [] pos2] X.env=[(false,eval (.Call (.Name "range" p2) [a] [] pos2) X.env)]:=by rfl) :
  PE X (.Call (.Name "list" p1) [.Call (.Name "range" p2) [a] [] pos2] [] pos1) (tLR ta):=by
 refine .mk ?_
 intro pins s σ H Q I h
 refine Call_ (ld_blt I hg hm boot_list (PyProof.Rows.callWith_type1 ?_ (by rw [hz]; rfl) rfl))
 rw [hz]
 refine Calls.spliced_cons ?_
 refine Call_ (ld_blt I hg2 hm2 boot_range (PyProof.Rows.callWith_type1 (thn (ha pos2 pins s σ H _ I h) fun us s1 ⟨vs,H1,I1,r1,q1⟩=>?_) hs rfl))
 obtain ⟨n,e,hn,q⟩:=q1
 subst e
 cases r1 with
 | cons r rr=>
  cases rr
  obtain ⟨t,rfl⟩:=r
  refine call_range_1 ?_
  refine Calls.spliced_nil ?_
  have hsz:Builtin.Range.rangeSize 0 (n:Int) 1=(n:Int):=by rw [rangeSize_one]; split <;> omega
  refine call_list_range (I1.ok.hd hc) (IsRange.new ..) (small_one (by omega) (by omega) (by omega) (by omega)) hsz (by omega) fun h' tk acc c' k e io=>?_
  have I2:=I1.kept (h':=s1.heap.push { cls:=.type "range",data:=.fields #[.int 0 s1.toks,.int n t,.int 1 (s1.toks+1)] }) (t':=s1.toks+1+1) fun b o e=>Heap.get?_push_of_some _ e
  have hv:Vals ((List.range n).map fun j=>V.int (j:Nat)) acc.toList:=by
   have:=vals_of_items (f:=fun j=>V.int (j:Nat)) (its:=acc.toList) (k:=0) (fun j v ev=>by
    rw [Nat.zero_add]
    obtain ⟨t',e'⟩:=io.2 j v (by rw [← Array.getElem?_toList]; exact ev)
    refine ⟨t',?_⟩
    rw [e']
    congr 1
    omega)
   rw [Array.length_toList,io.1,← List.range_eq_range'] at this
   exact this
  refine ⟨.ref _,_,I2.laid (t':=tk) k (Nat.le_refl _) (show ObjOk X.prog X.w _ h' _ (.lst ((List.range n).map fun j=>V.int (j:Nat))) from ⟨?_,acc.toList,c',hv,by rw [e]⟩),rfl,q _ (I2.hok.fresh (Nat.le_refl _))⟩
  rw [List.length_map,List.length_range]
  exact Nat.le_of_lt (small1000 hn)
end
end L2
namespace L3
open PySem PySem.Spec L2
section
variable {X:Cx} {E:St→XK}
def rngL (n:Nat):List T:=(List.range n).map fun j=>T.int (j:Nat)
def eLR (ta:A3):E3:=fun Y τ Γ Z=>ta Y τ Γ fun xs Γ1=>∃ n:Nat,xs=[.int n]∧n≤1000∧∀ p,Γ1 p=none→Z (.ref p) (up Γ1 p (.lst (rngL n)))
theorem rs_ints' {H:Hp} {α:Type} {f:α→Int}:∀ ns:List α,Rs H (ns.map fun a=>V.int (f a)) (ns.map fun a=>T.int (f a))
 | []=>rs_nil
 | n::r=>rs_cons r_int (rs_ints' r)
theorem qe_listrange {a:Expr} {ta:A3} {p1 p2 pos1 pos2:Pos} (hc:X.calm=true) (hg:Gl X "list") (hm:X.mg "list" = none) (hg2:Gl X "range") (hm2:X.mg "range" = none) (ha:PA X [a] (liA E ta))
  (hs:starEach [a] X.env=[(false,eval a X.env)]:=by rfl)
  (hz:starEach [.Call (.Name "range" p2) [a] [] pos2] X.env=[(false,eval (.Call (.Name "range" p2) [a] [] pos2) X.env)]:=by rfl) :
  PE X (.Call (.Name "list" p1) [.Call (.Name "range" p2) [a] [] pos2] [] pos1) (liE E (eLR ta)):=
 weakE3 (pe_listrange hc hg hm hg2 hm2 ha hs hz) fun σ H Q τ Γ Y Z rs hr t vr xr=>⟨τ,Γ,Y,_,rs,hr,t,fun vs xs H1 Γ1 s1 h1 r1 ⟨n,ex,hn,z⟩=>by
  subst ex
  obtain ⟨v,rfl,a⟩:=rs1 r1
  refine ⟨n,by rw [i_int a],hn,fun L hL=>?_⟩
  have k:=keep_new (o:=.lst ((List.range n).map fun j=>V.int (j:Nat))) hL
  exact vr _ _ _ _ (s1.trans (.make hL)) (h1.make (o3:=.lst (rngL n)) hL ⟨_,upd_same,rs_ints' (f:=fun j:Nat=>(j:Int)) _⟩) r_ref (z L (h1.free hL)),xr⟩
end
end L3
namespace L2
open PySem PySem.Spec PyProof.Rows
section
variable {X:Cx} {tg:Expr}
end
end L2
namespace L3
open PySem PySem.Spec L2
open PyProof.Rows hiding St
section
variable {X:Cx} {E:St→XK} {tg:Expr} {p pos:Pos}
end
end L3
namespace L2
open PySem PySem.Spec PyProof.Rows
section
variable {X:Cx}
theorem call_intB:CallR X (.type "int") (fun xs H Q=>∃ b:Bool,xs=[.bl b]∧Q (.int (if b=true then 1 else 0)) H):=by
 intro pins s σ H xs us Q I r h
 obtain ⟨b,rfl,q⟩:=h
 obtain ⟨u,rfl,rx⟩:=vals1 r
 cases rx
 refine call_int_1 (meets_int_new_bool b) ?_
 exact ⟨typeIs_int _ _ _,.int _,H,I.tok _,⟨_,rfl⟩,q⟩
def KTup (K:PySem.W.Frag) (a:Addr) (xs:List V):Prop:=∃ (o:Obj) (its:Array Value) (n:Nat),K.lookup a=some o∧o.cls=.type "tuple" ∧ o.data=.seq its n∧its.size≤sizeLine∧Vals xs its.toList
theorem KTup.sq {K:PySem.W.Frag} {H:Hp} {a:Addr} {xs:List V} (h:KTup K a xs):SqT K H a xs:=.inr h
end
end L2
namespace L3
open PySem PySem.Spec L2
section
variable {X:Cx}
theorem cq_intB:CallQ X (.type "int") (fun xs Γ Z=>∃ b:Bool,xs=[.bl b]∧Z (.int (if b=true then 1 else 0)) Γ):=
 ⟨_,call_intB,fun vs xs H Γ Q Z r hr q0 vr=>by
  obtain ⟨b,e,z⟩:=q0
  subst e
  obtain ⟨v,rfl,a⟩:=rs1 r
  exact ⟨b,by rw [i_bl a],vr _ _ H Γ .refl hr r_int z⟩⟩
end
end L3
namespace Sr
open PySem PyProof.Rows
section
variable {O:KeyOrd} (κ:Keyed→O.α) (d0:O.α)
def Le (a b:O.α):Prop:=O.blt b a=false
theorem Le.refl (a:O.α):Le a a:=O.irrefl a
theorem Le.trans {a b c:O.α} (h:Le a b) (h':Le b c):Le a c:=by
 unfold Le at *
 cases e:O.blt c a with
 | false=>rfl
 | true=>
  rcases O.negTrans c b a e with x | x
  ·rw [h'] at x; cases x
  ·rw [h] at x; cases x
theorem Le.of_lt {a b:O.α} (h:O.blt a b=true):Le a b:=by
 unfold Le
 cases e:O.blt b a with
 | false=>rfl
 | true=>have:=O.trans a b a h e; rw [O.irrefl] at this; cases this
def kat (xs:Array Keyed) (i:Nat):O.α:=match xs[i]? with
 | some p=>κ p
 | none=>d0
theorem kat_at {xs:Array Keyed} {i:Nat} {p:Keyed} (h:xs[i]? = some p):kat κ d0 xs i=κ p:=by unfold kat; rw [h]
def SortTo (xs:Array Keyed) (n:Nat):Prop:=∀ i j,i≤j→j < n→Le (kat κ d0 xs i) (kat κ d0 xs j)
theorem SortTo.one (xs:Array Keyed):SortTo κ d0 xs 1:=fun i j h h'=>by
 have e:i=j:=by omega
 rw [e]; exact Le.refl _
theorem SortTo.step {xs:Array Keyed} {n:Nat} (h:SortTo κ d0 xs n) (h1:1≤n) (l:Le (kat κ d0 xs (n-1)) (kat κ d0 xs n)):SortTo κ d0 xs (n+1):=fun i j hij hj=>by
 by_cases e:j=n
 ·subst e
  by_cases e2:i=j
  ·rw [e2]; exact Le.refl _
  ·exact (h i (j-1) (by omega) (by omega)).trans l
 ·exact h i j hij (by omega)
def FallTo (xs:Array Keyed) (n:Nat):Prop:=∀ i j,i < j→j < n→O.blt (kat κ d0 xs j) (kat κ d0 xs i)=true
theorem FallTo.step {xs:Array Keyed} {n:Nat} (h:FallTo κ d0 xs n) (h1:1≤n) (l:O.blt (kat κ d0 xs n) (kat κ d0 xs (n-1))=true):FallTo κ d0 xs (n+1):=fun i j hij hj=>by
 by_cases e:j=n
 ·subst e
  by_cases e2:i=j-1
  ·rw [e2]; exact l
  ·exact O.trans _ _ _ l (h i (j-1) (by omega) (by omega))
 ·exact h i j hij (by omega)
theorem fall_mirror {xs:Array Keyed} {n:Nat} (hn:n≤xs.size) (h:FallTo κ d0 xs n):SortTo κ d0 (mirror xs 0 n ((n-0) / 2)) n:=fun i j hij hj=>by
 have key:∀ k,k < n→kat κ d0 (mirror xs 0 n ((n-0) / 2)) k=kat κ d0 xs (n-1-k):=fun k hk=>by
  unfold kat
  rw [getElem?_mirror_all hn k,if_pos ⟨Nat.zero_le _,hk⟩,Nat.zero_add]
 rw [key i (by omega),key j hj]
 by_cases e:i=j
 ·rw [e]; exact Le.refl _
 ·exact Le.of_lt (h (n-1-j) (n-1-i) (by omega) (by omega))
end
section
variable {prog:Program} {w:World} {A:Around} {E:Value→Shared→Prop} {s:Shared} {a0:Array Keyed} {kd:SortKind} {st:SortSt} {O:KeyOrd} {κ:Keyed→O.α} {d0:O.α}
def LtIs (M:Model) (A:Around) (s:Shared) (kd:SortKind) (a0:Array Keyed) (O:KeyOrd) (κ:Keyed→O.α):Prop:=∀ x∈a0.toList,∀ y∈a0.toList,κ x≠κ y→∀ (Q:Bool→Shared→Prop) (E:Value→Shared→Prop),Q (O.blt (κ x) (κ y)) s→wpAny M A (keyLt' kd x.1 y.1) Q E s
def Dif (κ:Keyed→O.α) (a0:Array Keyed):Prop:=(a0.toList.map κ).Nodup
theorem Dif.ne (D:Dif κ a0) (B:SB a0 kd st) {i j:Nat} (hi:i < a0.size) (hj:j < a0.size) (n:i≠j):kat κ d0 (arrOf st) i≠kat κ d0 (arrOf st) j:=by
 have p:=B.perm
 rw [Array.perm_iff_toList_perm] at p
 have nd:((arrOf st).toList.map κ).Nodup:=(p.map κ).nodup_iff.mpr D
 obtain ⟨x,ex,_⟩:=B.get hi
 obtain ⟨y,ey,_⟩:=B.get hj
 rw [kat_at κ d0 ex,kat_at κ d0 ey]
 intro e
 have hl:∀ k,k < a0.size→k < ((arrOf st).toList.map κ).length:=fun k hk=>by rw [List.length_map,Array.length_toList,B.size]; exact hk
 have hx:((arrOf st).toList.map κ)[i]'(hl i hi)=κ x:=by
  have:((arrOf st).toList.map κ)[i]? = some (κ x):=by rw [List.getElem?_map,Array.getElem?_toList,ex]; rfl
  exact (List.getElem?_eq_some_iff.mp this).2
 have hy:((arrOf st).toList.map κ)[j]'(hl j hj)=κ y:=by
  have:((arrOf st).toList.map κ)[j]? = some (κ y):=by rw [List.getElem?_map,Array.getElem?_toList,ey]; rfl
  exact (List.getElem?_eq_some_iff.mp this).2
 have pw:=List.pairwise_iff_getElem.mp nd
 rcases Nat.lt_or_gt_of_ne n with h | h
 ·exact pw i j (hl i hi) (hl j hj) h (by rw [hx,hy,e])
 ·exact pw j i (hl j hj) (hl i hi) h (by rw [hx,hy,e])
theorem o_ltAt {i j:Nat} {Q:Option Bool→SortSt→Prop} (L:LtIs (model prog w) A s kd a0 O κ) (D:Dif κ a0) (B:SB a0 kd st) (hi:i < a0.size) (hj:j < a0.size) (nij:i≠j) (q:Q (some (O.blt (kat κ d0 (arrOf st) i) (kat κ d0 (arrOf st) j))) st):wpS (model prog w) A E s (ltAt' i j) Q st:=by
 obtain ⟨x,ex,mx⟩:=B.get hi
 obtain ⟨y,ey,my⟩:=B.get hj
 have nk:=D.ne (d0:=d0) B hi hj nij
 rw [kat_at κ d0 ex,kat_at κ d0 ey] at q nk
 rw [ltAt'_eq]
 refine wpS_bind (wpS_get ?_)
 dsimp only
 refine wpS_bind ?_
 rw [elem'_eq,ex]
 refine wpS_pure ?_
 refine wpS_bind ?_
 rw [elem'_eq,ey]
 refine wpS_pure ?_
 rw [lt'_eq]
 refine wpS_bind (wpS_get ?_)
 rw [B.kind]
 refine wpS_bind (wpS_lift (wpAny_attempt (L x mx y my nk _ _ ⟨rfl,?_⟩)))
 exact wpS_pure q
theorem lt_of {a b:O.α} (n:a≠b) (h:O.blt a b=false):O.blt b a=true:=by
 cases e:O.blt b a with
 | true=>rfl
 | false=>exact absurd (O.total a b h e) n
theorem o_count {nrem:Nat} {Q:Option Nat→SortSt→Prop} (L:LtIs (model prog w) A s kd a0 O κ) (D:Dif κ a0) (B:SB a0 kd st) (h:nrem≤a0.size) (h1:1≤nrem) (q:∀ m st',SB a0 kd st'→1≤m→m≤nrem→SortTo κ d0 (arrOf st') m→Q (some m) st'):wpS (model prog w) A E s (countRun' 0 nrem) Q st:=by
 rw [countRun'_eq]
 dsimp only
 refine wpS_bind (wpS_mono (Q:=fun c st'=>∃ n,c=(none,n)∧st'=st∧1≤n∧n≤nrem∧SortTo κ d0 (arrOf st) n∧(n < nrem→O.blt (kat κ d0 (arrOf st) n) (kat κ d0 (arrOf st) (n-1))=true)) ?_ ?_)
 ·refine wpS_forRange (fun i c st'=>c=(none,i)∧st'=st∧1≤i∧SortTo κ d0 (arrOf st) i) (fun i c st1 h1 h2 hI=>?_) (fun c st1 hI=>?_) ⟨rfl,rfl,Nat.le_refl _,SortTo.one κ d0 _⟩
  ·obtain ⟨rfl,rfl,hi,so⟩:=hI
   dsimp only
   refine wpS_bind (o_ltAt (d0:=d0) L D B (by omega) (by omega) (by omega) ?_)
   dsimp only
   rw [Nat.zero_add]
   split
   ·rename_i hb
    exact wpS_pure ⟨i,rfl,rfl,by omega,by omega,so,fun _=>hb⟩
   ·rename_i hb
    exact wpS_pure ⟨rfl,rfl,by omega,so.step κ d0 hi (by unfold Le; simpa using hb)⟩
  ·obtain ⟨rfl,rfl,hi,so⟩:=hI
   refine ⟨_,rfl,rfl,hi,by omega,so,fun h=>?_⟩
   omega
 rintro c st1 ⟨n,rfl,rfl,n1,n2,so,br⟩
 dsimp only
 split
 ·exact wpS_pure (q n st1 B n1 n2 so)
 rename_i hne
 have hlt:n < nrem:=by
  rcases Nat.lt_or_ge n nrem with h | h
  ·exact h
  ·exact absurd (by simpa using Nat.le_antisymm n2 h) hne
 have hbr:=br hlt
 simp only [Nat.zero_add]
 split
 ·rename_i hn1
  refine wpS_bind (o_ltAt (d0:=d0) L D B (by omega) (by omega) (by omega) ?_)
  dsimp only
  have hr:O.blt (kat κ d0 (arrOf st1) 0) (kat κ d0 (arrOf st1) (n-1))=true:=by
   have l:=so 0 (n-1) (Nat.zero_le _) (by omega)
   exact lt_of (D.ne B (by omega) (by omega) (by omega)) l
  rw [if_pos hr]
  exact wpS_pure (q n st1 B n1 n2 so)
 ·rename_i hn1
  have en:n=1:=by omega
  subst en
  refine wpS_bind (wpS_lift (wpAny_rule ⟨rfl,?_⟩))
  have f2:FallTo κ d0 (arrOf st1) 2:=fun i j hij hj=>by
   have e1:i=0:=by omega
   have e2:j=1:=by omega
   subst e1 e2
   exact hbr
  refine wpS_bind (wpS_mono (Q:=fun c st'=>∃ m,c=(none,m,0)∧st'=st1∧2≤m∧m≤nrem∧FallTo κ d0 (arrOf st1) m) ?_ ?_)
  ·refine wpS_forRange (fun i c st'=>c=(none,i,0)∧st'=st1∧2≤i∧FallTo κ d0 (arrOf st1) i) (fun i c st2 h1 h2 hI=>?_) (fun c st2 hI=>?_) ⟨rfl,rfl,Nat.le_refl _,f2⟩
   ·obtain ⟨rfl,rfl,hi,fa⟩:=hI
    dsimp only
    refine wpS_bind (o_ltAt (d0:=d0) L D B (by omega) (by omega) (by omega) ?_)
    dsimp only
    split
    ·rename_i hb
     rw [if_neg (by omega)]
     exact wpS_pure ⟨rfl,rfl,by omega,fa.step κ d0 (by omega) hb⟩
    ·rename_i hb
     refine wpS_bind (o_ltAt (d0:=d0) L D B (by omega) (by omega) (by omega) ?_)
     dsimp only
     rw [if_pos (lt_of (D.ne B (by omega) (by omega) (by omega)) (by simpa using hb))]
     exact wpS_pure ⟨i,rfl,rfl,hi,by omega,fa⟩
   ·obtain ⟨rfl,rfl,hi,fa⟩:=hI
    exact ⟨_,rfl,rfl,hi,by omega,fa⟩
  rintro c st2 ⟨m,rfl,rfl,m1,m2,fa⟩
  dsimp only
  rw [if_neg (by omega)]
  refine wpS_bind (wpS_reverse ?_)
  have B2:=B.arr (mirror_perm (arrOf st2) 0 m ((m-0) / 2))
  have so2:SortTo κ d0 (arrOf (setArr st2 (mirror (arrOf st2) 0 m ((m-0) / 2)))) m:=fall_mirror κ d0 (by rw [B.size]; omega) fa
  generalize setArr st2 (mirror (arrOf st2) 0 m ((m-0) / 2))=st3 at B2 so2 ⊢
  refine wpS_bind (wpS_mono (Q:=fun c st'=>∃ n',c=(none,n')∧st'=st3∧1≤n'∧n'≤nrem∧SortTo κ d0 (arrOf st3) n') ?_ ?_)
  ·refine wpS_forRange (fun i c st'=>c=(none,i)∧st'=st3∧1≤i∧SortTo κ d0 (arrOf st3) i) (fun i c st4 h1 h2 hI=>?_) (fun c st4 hI=>?_) ⟨rfl,rfl,by omega,so2⟩
   ·obtain ⟨rfl,rfl,hi,so⟩:=hI
    dsimp only
    refine wpS_bind (o_ltAt (d0:=d0) L D B2 (by omega) (by omega) (by omega) ?_)
    dsimp only
    split
    ·exact wpS_pure ⟨i,rfl,rfl,by omega,by omega,so⟩
    ·rename_i hb
     exact wpS_pure ⟨rfl,rfl,by omega,so.step κ d0 hi (by unfold Le; simpa using hb)⟩
   ·obtain ⟨rfl,rfl,hi,so⟩:=hI
    exact ⟨_,rfl,rfl,hi,by omega,so⟩
  rintro c st5 ⟨n5,rfl,rfl,n51,n52,so5⟩
  exact wpS_pure (q n5 st5 B2 n51 n52 so5)
theorem bubble_kat {xs:Array Keyed} {src d:Nat} (h:src < xs.size) (hd:d≤src) (k:Nat):kat κ d0 (bubble xs src d) k=if k=src-d then kat κ d0 xs src else if src-d < k∧k≤src then kat κ d0 xs (k-1) else kat κ d0 xs k:=by
 unfold kat
 rw [getElem?_bubble h d hd k]
 by_cases c:k=src-d
 ·rw [if_pos c,if_pos c]
 ·rw [if_neg c,if_neg c]
  by_cases c2:src-d < k∧k≤src
  ·rw [if_pos c2,if_pos c2]
  ·rw [if_neg c2,if_neg c2]
theorem sort_insert {xs:Array Keyed} {k l:Nat} (hk:k < xs.size) (hl:l≤k) (so:SortTo κ d0 xs k) (lo:∀ i,i < l→Le (kat κ d0 xs i) (kat κ d0 xs k)) (hi:∀ i,l≤i→i < k→Le (kat κ d0 xs k) (kat κ d0 xs i)):SortTo κ d0 (bubble xs k (k-l)) (k+1):=fun i j hij hj=>by
 have e:k-(k-l)=l:=by omega
 rw [bubble_kat hk (by omega) i,bubble_kat hk (by omega) j,e]
 by_cases ei:i=l
 ·rw [if_pos ei]
  by_cases ej:j=l
  ·rw [if_pos ej]; exact Le.refl _
  ·rw [if_neg ej,if_pos ⟨by omega,by omega⟩]
   exact hi (j-1) (by omega) (by omega)
 ·rw [if_neg ei]
  by_cases ii:l < i∧i≤k
  ·rw [if_pos ii,if_neg (by omega),if_pos ⟨by omega,by omega⟩]
   exact so (i-1) (j-1) (by omega) (by omega)
  ·rw [if_neg ii]
   by_cases ej:j=l
   ·rw [if_pos ej]; exact lo i (by omega)
   ·rw [if_neg ej]
    by_cases jj:l < j∧j≤k
    ·rw [if_pos jj]; exact so i (j-1) (by omega) (by omega)
    ·rw [if_neg jj]; exact so i j hij (by omega)
theorem o_bin {n ok:Nat} {Q:Bool→SortSt→Prop} (L:LtIs (model prog w) A s kd a0 O κ) (D:Dif κ a0) (B:SB a0 kd st) (h:n≤a0.size) (h1:1≤ok) (hok:ok≤n) (so:SortTo κ d0 (arrOf st) ok) (q:∀ st',SB a0 kd st'→SortTo κ d0 (arrOf st') n→Q true st'):wpS (model prog w) A E s (binarySort' 0 n ok) Q st:=by
 rw [binarySort'_eq]
 have em:max ok 1=ok:=by omega
 rw [em]
 refine wpS_bind (wpS_mono (Q:=fun c st'=>c=(none,())∧SB a0 kd st'∧SortTo κ d0 (arrOf st') n) ?_ ?_)
 ·refine wpS_forRange (fun i c st'=>c=(none,())∧SB a0 kd st'∧SortTo κ d0 (arrOf st') i) (fun i c st1 h1 h2 hI=>?_) (fun c st1 hI=>?_) ⟨rfl,B,so⟩
  ·obtain ⟨rfl,B1,so1⟩:=hI
   dsimp only
   refine wpS_bind (wpS_mono (Q:=fun c st'=>(∃ l r,c=(none,l,r)∧r≤l∧l≤i∧(∀ j,j < l→Le (kat κ d0 (arrOf st1) j) (kat κ d0 (arrOf st1) i))∧(∀ j,l≤j→j < i→Le (kat κ d0 (arrOf st1) i) (kat κ d0 (arrOf st1) j)))∧st'=st1) ?_ ?_)
   ·refine wpS_forRange (fun t c st'=>(∃ l r,c=(none,l,r)∧l≤r∧r≤i∧r-l≤i-t∧(∀ j,j < l→Le (kat κ d0 (arrOf st1) j) (kat κ d0 (arrOf st1) i))∧(∀ j,r≤j→j < i→Le (kat κ d0 (arrOf st1) i) (kat κ d0 (arrOf st1) j)))∧st'=st1) (fun t c st2 j1 j2 hJ=>?_) (fun c st2 hJ=>?_) ⟨⟨0,i,rfl,Nat.zero_le _,Nat.le_refl _,Nat.le_refl _,fun j hj=>absurd hj (Nat.not_lt_zero _),fun j a b=>absurd b (by omega)⟩,rfl⟩
    ·obtain ⟨⟨l,r,rfl,lr,hr,hm,lo,hi⟩,rfl⟩:=hJ
     dsimp only
     split
     ·rename_i hge
      exact wpS_pure ⟨⟨l,r,rfl,hge,by omega,lo,fun j a b=>hi j (by omega) b⟩,rfl⟩
     ·rename_i hge
      simp only [Nat.zero_add]
      refine wpS_bind (o_ltAt (d0:=d0) L D B1 (by omega) (by omega) (by omega) ?_)
      dsimp only
      split
      ·rename_i hb
       refine wpS_pure ⟨⟨l,(l+r) / 2,rfl,by omega,by omega,by omega,lo,fun j a b=>?_⟩,rfl⟩
       exact (Le.of_lt hb).trans (so1 ((l+r) / 2) j a b)
      ·rename_i hb
       refine wpS_pure ⟨⟨(l+r) / 2+1,r,rfl,by omega,hr,by omega,fun j a=>?_,hi⟩,rfl⟩
       have hb':Le (kat κ d0 (arrOf st2) ((l+r) / 2)) (kat κ d0 (arrOf st2) i):=by unfold Le; simpa using hb
       exact (so1 j ((l+r) / 2) (by omega) (by omega)).trans hb'
    ·obtain ⟨⟨l,r,rfl,lr,hr,hm,lo,hi⟩,rfl⟩:=hJ
     exact ⟨⟨l,r,rfl,by omega,by omega,lo,fun j a b=>hi j (by omega) b⟩,rfl⟩
   ·rintro c st2 ⟨⟨l,r,rfl,rl,hl,lo,hi⟩,rfl⟩
    dsimp only
    rw [moveDown'_eq]
    refine wpS_bind (wpS_modify ?_)
    simp only [Nat.zero_add]
    exact wpS_pure ⟨rfl,B1.arr (bubble_perm _ _ _),sort_insert (by rw [B1.size]; omega) hl so1 lo hi⟩
  ·obtain ⟨rfl,B1,so1⟩:=hI
   rw [Nat.max_eq_right hok] at so1
   exact ⟨rfl,B1,so1⟩
 ·rintro c st1 ⟨rfl,B1,so1⟩
  exact wpS_pure (q st1 B1 so1)
theorem o_runs {Q:Unit→SortSt→Prop} (L:LtIs (model prog w) A s kd a0 O κ) (D:Dif κ a0) (B:SB a0 kd st) (h2:2≤a0.size) (h64:a0.size < 64) (q:∀ st',(arrOf st').Perm a0→failedOf st'=none→SortTo κ d0 (arrOf st') a0.size→Q () st'):wpS (model prog w) A E s sortRuns' Q st:=by
 rw [sortRuns'_eq]
 refine wpS_bind (wpS_get ?_)
 dsimp only
 rw [B.size]
 have hm:minRun' a0.size a0.size 0=a0.size:=by
  cases e:a0.size with
  | zero=>omega
  | succ n=>rw [minRun'_succ,if_pos (by omega)]
 rw [hm]
 refine wpS_bind (wpS_mono (Q:=fun c st'=>c=(none,a0.size)∧∃ st1,SB a0 kd st1∧SortTo κ d0 (arrOf st1) a0.size∧st'=setPending st1 (#[].push (0,a0.size,0))) ?_ ?_)
 ·refine wpS_forRange (fun i c st'=>(i=0∧c=(none,0)∧SB a0 kd st')∨(0 < i∧c=(none,a0.size)∧∃ st1,SB a0 kd st1∧SortTo κ d0 (arrOf st1) a0.size∧st'=setPending st1 (#[].push (0,a0.size,0)))) (fun i c st1 h1 h2 hI=>?_) (fun c st1 hI=>?_) (.inl ⟨rfl,rfl,B⟩)
  ·rcases hI with ⟨rfl,rfl,B1⟩ | ⟨hi,rfl,st2,B2,so2,rfl⟩
   ·dsimp only
    rw [if_neg (by omega)]
    refine wpS_bind (o_count (d0:=d0) L D B1 (by omega) (by omega) fun m st2 B2 m1 m2 so=>?_)
    dsimp only
    have hmin:min (a0.size-0) a0.size=a0.size:=by rw [Nat.sub_zero,Nat.min_self]
    split
    ·refine wpS_bind (wpS_lift (wpAny_rule ⟨rfl,?_⟩))
     rw [hmin]
     refine wpS_bind (o_bin (d0:=d0) L D B2 (Nat.le_refl _) m1 (by omega) so fun st3 B3 so3=>?_)
     rw [if_neg (by decide)]
     refine wpS_bind (wpS_get ?_)
     rw [B3.pend]
     refine wpS_bind (wpS_modify ?_)
     refine wpS_pure (.inr ⟨Nat.zero_lt_succ _,by rw [Nat.zero_add],st3,B3,so3,by rw [B3.pend]⟩)
    ·rename_i hm2
     have em:m=a0.size:=by omega
     subst em
     refine wpS_bind (wpS_get ?_)
     rw [B2.pend]
     refine wpS_bind (wpS_modify ?_)
     refine wpS_pure (.inr ⟨Nat.zero_lt_succ _,by rw [Nat.zero_add],st2,B2,so,by rw [B2.pend]⟩)
   ·dsimp only
    rw [if_pos (by omega)]
    exact wpS_pure ⟨rfl,st2,B2,so2,rfl⟩
  ·rcases hI with ⟨h0,_⟩ | ⟨hi,rfl,st2,B2,so2,rfl⟩
   ·omega
   ·exact ⟨rfl,st2,B2,so2,rfl⟩
 ·rintro c st1 ⟨rfl,st2,B2,so2,rfl⟩
  dsimp only
  refine wpS_bind (wpS_mono (Q:=fun c st'=>c=(none,())∧st'=setPending st2 (#[].push (0,a0.size,0))) ?_ ?_)
  ·refine wpS_forRange (fun i c st'=>c=(none,())∧st'=setPending st2 (#[].push (0,a0.size,0))) (fun i c st3 h1 h2 hI=>?_) (fun c st3 hI=>hI) ⟨rfl,rfl⟩
   obtain ⟨rfl,rfl⟩:=hI
   refine wpS_bind (wpS_get ?_)
   split
   ·exact wpS_pure ⟨rfl,rfl⟩
   ·rename_i hc
    exact absurd (Nat.le_refl 1) hc
  ·rintro c st3 ⟨rfl,rfl⟩
   exact wpS_pure (q _ B2.perm B2.failed so2)
end
end Sr
namespace L2
open PySem PySem.Spec PyProof.Rows
def CalleeM (P:Program) (w:World) (K:PySem.W.Frag) (mg:Str→Option Value) (base:Heap) (C:Addr) (m:Str) (k:Nat) (ps:List Str) (sp:Sp):Prop:=
 ∃ f fd,FnOk P w K mg base CX0 k f fd ps sp∧Cls K C∧Meth K C m f∧Binds K fd ps []
theorem CalleeM.mono {P:Program} {w:World} {K:PySem.W.Frag} {mg:Str→Option Value} {base:Heap} {C:Addr} {m:Str} {j k:Nat} {ps:List Str} {sp:Sp} (c:CalleeM P w K mg base C m j ps sp) (h:j≤k):CalleeM P w K mg base C m k ps sp:=by
 obtain ⟨f,fd,F,m,kp,b⟩:=c
 exact ⟨f,fd,F.mono h,m,kp,b⟩
end L2
namespace L3
open PySem PySem.Spec L2
def putT (f:Str) (v:T):List (Str×T)→List (Str×T)
 | []=>[(f,v)]
 | (g,x)::r=>if g=f then (g,v)::r else (g,x)::putT f v r
section
variable {H:Hp}
theorem Fs.len:∀ {gs:List (Str×V)} {fs:List (Str×T)},Fs H gs fs→gs.length=fs.length
 | _,_,.nil=>rfl
 | _,_,.cons a b=>by rw [List.length_cons,List.length_cons,Fs.len b]
theorem Fs.get:∀ {gs:List (Str×V)} {fs:List (Str×T)} {f:Str} {t:T},Fs H gs fs→fs.lookup f=some t→∃ v,gs.lookup f=some v∧R H v t
 | _,_,f,t,.nil,h=>by cases h
 | (g,v)::gs,(g',x)::fs,f,t,.cons a b,h=>by
  obtain ⟨e,r⟩:=a
  have e:g=g':=e
  subst e
  rw [List.lookup_cons] at h ⊢
  split at h
  ·cases h; exact ⟨v,rfl,r⟩
  ·exact Fs.get b h
theorem Fs.non:∀ {gs:List (Str×V)} {fs:List (Str×T)} {f:Str},Fs H gs fs→fs.lookup f=none→gs.lookup f=none
 | _,_,f,.nil,h=>rfl
 | (g,v)::gs,(g',x)::fs,f,.cons a b,h=>by
  obtain ⟨e,r⟩:=a
  have e:g=g':=e
  subst e
  rw [List.lookup_cons] at h ⊢
  split at h
  ·cases h
  ·exact Fs.non b h
theorem Fs.put {v:V} {t:T} (r:R H v t) (f:Str):∀ {gs:List (Str×V)} {fs:List (Str×T)},Fs H gs fs→Fs H (putF f v gs) (putT f t fs)
 | _,_,.nil=>.cons ⟨rfl,r⟩ .nil
 | (g,w)::gs,(g',x)::fs,.cons a b=>by
  obtain ⟨e,q⟩:=a
  have e:g=g':=e
  subst e
  unfold putF putT
  split
  ·exact .cons ⟨rfl,r⟩ b
  ·exact .cons ⟨rfl,q⟩ (Fs.put r f b)
end
section
variable {X:Cx} {E:St→XK} {C:Addr}
variable {m:Str} {k j:Nat} {ps:List Str} {sp:Sp3} {o e:Expr} {es:List Expr} {to:E3} {t:A3} {apos pos p:Pos} {pl:Sem Bool}
end
end L3
namespace L2
open PySem PySem.Spec PyProof.Rows
section
variable {X:Cx}
def S (l:List Nat):Str:=⟨l.toArray⟩
def OnceS (ss:List Str) (S:Str→Bool) (n:Nat):Prop:=(∀ k,S k=true ↔ k∈ss)∧((ss.Nodup∧n=ss.length)∨(¬ ss.Nodup∧n < ss.length))
theorem OnceS.nil:OnceS [] (fun _=>false) 0:=⟨fun k=>by simp,.inl ⟨List.nodup_nil,rfl⟩⟩
theorem OnceS.le {ss:List Str} {S:Str→Bool} {n:Nat} (h:OnceS ss S n):n≤ss.length:=by
 rcases h.2 with ⟨_,h⟩ | ⟨_,h⟩ <;> omega
theorem OnceS.snoc {ss:List Str} {S:Str→Bool} {n:Nat} {k:Str} (h:OnceS ss S n):OnceS (ss++[k]) (fun k'=>S k' || decide (k'=k)) (more S n k):=by
 obtain ⟨h1,h2⟩:=h
 refine ⟨fun k'=>by rw [Bool.or_eq_true,decide_eq_true_eq,h1 k',List.mem_append,List.mem_singleton],?_⟩
 have e:(ss++[k]).Nodup ↔ ss.Nodup∧k∉ss:=by
  rw [List.nodup_append]
  constructor
  ·rintro ⟨a,_,b⟩
   exact ⟨a,fun m=>b k m k (by simp) rfl⟩
  ·rintro ⟨a,b⟩
   refine ⟨a,by simp,fun x hx y hy e=>b ?_⟩
   rw [List.mem_singleton] at hy
   rw [← hy,← e]; exact hx
 rw [e,List.length_append]
 show (_∧(if S k=true then n else n+1)=_)∨(_∧(if S k=true then n else n+1) < _)
 by_cases c:S k=true
 ·rw [if_pos c]
  have m:=(h1 k).mp c
  rcases h2 with ⟨a,b⟩ | ⟨a,b⟩
  ·exact .inr ⟨fun z=>z.2 m,by rw [b]; exact Nat.lt_succ_self _⟩
  ·exact .inr ⟨fun z=>z.2 m,Nat.lt_succ_of_lt b⟩
 ·rw [if_neg c]
  have m:k∉ss:=fun z=>c ((h1 k).mpr z)
  rcases h2 with ⟨a,b⟩ | ⟨a,b⟩
  ·exact .inl ⟨⟨a,m⟩,by rw [b]; rfl⟩
  ·exact .inr ⟨fun z=>a z.1,Nat.succ_lt_succ b⟩
end
end L2
namespace L3
open PySem PySem.Spec L2
section
variable {X:Cx} {E:St→XK}
end
end L3
namespace L2
open PySem PySem.Spec PyProof.Rows
section
variable {X:Cx}
end
end L2
namespace L3
open PySem PySem.Spec L2
section
variable {X:Cx} {E:St→XK} {e st:Expr} {te ts:E3} {p2 pos:Pos}
end
section
variable {Y:X3} {D:D3} {τ:S3} {Γ:Gp} {Z:K3} {A:Prop} {C a dx:Addr} {fs:List (Str×T)} {f m:Str}
end
end L3
namespace L2
open PySem PySem.Spec PyProof.Rows
section
variable {X:Cx} {elts:List Expr} {kk:Nat} {tpos:Pos}
end
end L2
namespace L3
open PySem PySem.Spec L2
section
variable {X:Cx} {E:St→XK} {p pos:Pos}
end
section
variable {X:Cx} {E:St→XK}
end
end L3
namespace L2
open PySem PySem.Spec PyProof.Rows
section
variable {prog:Program} {w:World} {A:Around} {E:Value→Shared→Prop} {s:Shared}
end
section
variable {X:Cx} {elts:List Expr} {kk:Nat} {tpos:Pos}
end
def compIn (elt:Expr) (gens:List Comprehension) (scope:Scope) (pos:Pos) (d:Nat) (acc:Value) (env:Env):Sem Unit:=
 match gens[d+1]? with
 | some g'=>do
  let x ← eval g'.iter env
  standAt g'.iter.pos
  let x ← foldedSetIterable g'.iter env x
  let _ ← runOwn (.compStart (.ListComp elt gens scope pos) (d+1) (← holding [x] (pyIter x)) acc env) env
 | none=>do let _ ← call (.builtin "list.append") [acc,← eval elt env]
theorem compTurn_gens {elt tg iter:Expr} {ifs:List Expr} {gens:List Comprehension} {scope:Scope} {pos:Pos} {d:Nat} {it acc:Value} {env:Env} (hd:gens[d]? = some ⟨tg,iter,ifs,0⟩) (hg:∀ g∈gens,g.is_async=0) :
  compTurn (.ListComp elt gens scope pos) d it acc env=(do
   standAt iter.pos
   match ← pyNext it with
   | none=>pure (.done .next)
   | some v=>
    letOwnedTupleGo tg it v
    assign tg env v
    let mut ok:=true
    for c in ifs do
     if ok then ok ← isTrue c env (eval c env)
    if ok then
     compIn elt gens scope pos d acc env
    again (.compLoop (.ListComp elt gens scope pos) d it acc env)):=by
 unfold compTurn compIn
 dsimp only
 rw [hd]
 cases e:gens[d+1]? with
 | none=>rfl
 | some g=>
  obtain ⟨t2,i2,f2,a2⟩:=g
  have:a2=0:=hg _ (List.mem_of_getElem? e)
  subst this
  simp only [bind_assoc,pure_bind]
  rfl
theorem compLoop_gens {prog:Program} {w:World} {A:Around} {R:Result→Shared→Prop} {s:Shared} {elt tg iter:Expr} {ifs:List Expr} {gens:List Comprehension} {scope:Scope} {pos:Pos} {d:Nat} {it acc:Value} {env:Env} (hd:gens[d]? = some ⟨tg,iter,ifs,0⟩) (hga:∀ g∈gens,g.is_async=0) (I:Nat→Shared→Prop)
  (turn:∀ n s,I n s→wpAny (model prog w) A (pyNext it) (fun r s₁=>match r with
   | none=>R (.ok .next) s₁
   | some v=>wpAny (model prog w) A (letOwnedTupleGo tg it v) (fun _ s₁'=>wpAny (model prog w) A (assign tg env v) (fun _ s₂=>
     wpAny (model prog w) A (forIn ifs true fun c r=>if r=true then do let ok ← isTrue c env (eval c env); pure (ForInStep.yield ok) else pure (ForInStep.yield r)) (fun ok s₃=>
      if ok=true then wpAny (model prog w) A (compIn elt gens scope pos d acc env) (fun _ s₅=>∃ m,m < n∧I m s₅) (notedBy (model prog w) A env fun e s'=>R (.error e) s') s₃
      else ∃ m,m < n∧I m s₃) (notedBy (model prog w) A env fun e s'=>R (.error e) s') s₂) (notedBy (model prog w) A env fun e s'=>R (.error e) s') s₁') (notedBy (model prog w) A env fun e s'=>R (.error e) s') s₁) (notedBy (model prog w) A env fun e s'=>R (.error e) s') s)
  (n:Nat) (h:I n s) :
  codeAny (model prog w) A (.compLoop (.ListComp elt gens scope pos) d it acc env) R s:=by
 refine codeAny_loop rfl I (fun n s hI=>?_) n h
 show wpAny _ A ((compTurn (.ListComp elt gens scope pos) d it acc env).onRaise (fun x=>do noteFrame x env; theTreesLotGoes x)) _ _ s
 refine wpAny_noted ?_
 rw [compTurn_gens hd hga]
 refine wpAny_bind (wpAny_standAt (wpAny_bind (wpAny_mono (turn n s hI) (fun r s₁ h₁=>?_) fun _ _ h'=>h')))
 cases r with
 | none=>exact wpAny_pure h₁
 | some v=>
  refine wpAny_bind (wpAny_mono h₁ (fun _ s₁' h₁'=>?_) fun _ _ h'=>h')
  refine wpAny_bind (wpAny_mono h₁' (fun _ s₂ h₂=>wpAny_bind (wpAny_mono h₂ (fun ok s₃ h₃=>?_) fun _ _ h'=>h')) fun _ _ h'=>h')
  cases ok with
  | false=>exact wpAny_pure ⟨rfl,h₃⟩
  | true=>exact wpAny_bind (wpAny_mono h₃ (fun _ s₅ h₅=>wpAny_pure ⟨rfl,h₅⟩) fun _ _ h'=>h')
theorem compStart_gens {prog:Program} {w:World} {A:Around} {R:Result→Shared→Prop} {s:Shared} {elt tg iter:Expr} {ifs:List Expr} {gens:List Comprehension} {scope:Scope} {pos:Pos} {d:Nat} {it acc:Value} {env:Env} (hd:gens[d]? = some ⟨tg,iter,ifs,0⟩)
  (h0:codeAny (model prog w) A (.compLoop (.ListComp elt gens scope pos) d it acc env) R s)
  (h:wpAny (model prog w) A (pyIter it) (fun it' s'=>codeAny (model prog w) A (.compLoop (.ListComp elt gens scope pos) d it' acc env) R s')
   (notedBy (model prog w) A env fun x s'=>R (.error x) s') s) :
  codeAny (model prog w) A (.compStart (.ListComp elt gens scope pos) d it acc env) R s:=by
 refine codeAny_of_tree ?_
 show wpAny _ _ ((compStart (.ListComp elt gens scope pos) d it acc env).onRaise (fun x=>do noteFrame x env; standAt theWindowsPlace)) _ _ s
 refine wpAny_notedAt ?_
 unfold compStart
 have hc:(clausesOf (.ListComp elt gens scope pos))[d]? = some ⟨tg,iter,ifs,0⟩:=hd
 rw [hc]
 show wpAny _ _ (ask >>= _) _ _ s
 refine wpAny_bind (wpAny_askSetting (wpAny_ite ?_))
 split
 ·first
   | exact wpAny_bind (wpAny_pure (wpAny_pure (And.intro rfl h0)))
   | exact wpAny_pure (And.intro rfl h0)
 ·first
   | exact wpAny_bind (wpAny_rule (wpAny_bind (wpAny_standAt (wpAny_bind (wpAny_mono h (fun it' s' h'=>wpAny_pure (And.intro rfl h')) fun _ _ x=>x)))))
   | (refine wpAny_bind (wpAny_rule ?_); show wpAny _ _ (standAt iter.pos >>= _) _ _ s; exact wpAny_bind (wpAny_standAt (wpAny_bind (wpAny_mono h (fun it' s' h'=>wpAny_pure (And.intro rfl h')) fun _ _ x=>x))))
abbrev TM:=St→Hp→(St→Hp→Prop)→Prop
structure PM (X:Cx) (m:Sem Unit) (t:TM):Prop where
 run:∀ (pins:List (Addr×Obj)) (s:Shared) (σ:St) (H:Hp) (Q:St→Hp→Prop),Inv X pins σ H s→t σ H Q→wpAny (model X.prog X.w) X.A m (fun _ s'=>∃ σ' H',Inv X pins σ' H' s'∧Q σ' H') X.xe s
section
variable {X:Cx} {elt tg iter:Expr} {ifs:List Expr} {gens:List Comprehension} {scope:Scope} {pos:Pos} {d:Nat} {D:Addr} {te:TE} {wi:TI} {g:TG} {tc:TT} {tm:TM}
theorem weakM {m:Sem Unit} {t t':TM} (h:PM X m t) (w:∀ σ H Q,t' σ H Q→t σ H Q):PM X m t':=⟨fun pins s σ H Q I q=>h.run pins s σ H Q I (w σ H Q q)⟩
def tEmit (D:Addr) (te:TE):TM:=fun σ H Q=>te σ H fun y H1=>∃ ys,H1 D=some (.lst ys)∧ys.length < sizeLine∧Q σ (upd H1 D (.lst (ys++[y])))
theorem pm_emit (he:PE X elt te) (hd:gens[d+1]? = none):PM X (compIn elt gens scope pos d (.ref D) X.env) (tEmit D te):=by
 refine ⟨fun pins s σ H Q I h=>?_⟩
 unfold compIn
 rw [hd]
 refine wpAny_bind (thn (he pins s σ H _ I h) fun u s1 ⟨y,H1,I1,r1,ys,d1,hy,q1⟩=>?_)
 refine wpAny_bind (thn (mt_append _ s1 σ H1 (.ref D) [y] (.ref D) [u] (fun _ H2=>Q σ H2) I1 rfl (.cons r1 .nil) ⟨_,ys,y,rfl,rfl,d1,hy,q1⟩) fun _ s2 ⟨_,H2,I2,_,q2⟩=>?_)
 exact wpAny_pure ⟨σ,H2,I2,q2⟩
def tForM (wi:TI) (g:TG) (tc:TT) (tm:TM):TM:=fun σ H Q=>wi σ H fun J H1=>∃ W:Nat→Nat→St→Hp→Prop,(∃ m,W 0 m σ H1)∧∀ i m σ' H',W i m σ' H' →
 ((J.stop i H'∧Q σ' H')∨(J.go i H'∧∃ N:St→Hp→Prop,(∀ σ H,N σ H→∃ m',m' < m∧W (i+1) m' σ H)∧∀ x H2,J.yld i H' x H2→g x σ' H2 fun σ3 H3=>tc σ3 H3 fun b H4=>if b=true then tm σ3 H4 N else N σ3 H4))
theorem pm_for (hx:X.xe=fun _ _=>False) (hc:X.calm=true) (hga:∀ g∈gens,g.is_async=0) (hd:gens[d+1]? = some ⟨tg,iter,ifs,0⟩) (hi:PI X tg iter wi) (hg:PG X tg g) (ht:PTs X ifs tc) (hm:PM X (compIn elt gens scope pos (d+1) (.ref D) X.env) tm)
  (hs:∀ x,foldedSetIterable iter X.env x=pure x:=by intro _; rfl):PM X (compIn elt gens scope pos d (.ref D) X.env) (tForM wi g tc tm):=by
 refine ⟨fun pins s σ H Q I h=>?_⟩
 have nox:∀ {α:Type} {t:Sem α} {Q1:α→Shared→Prop} {E1:Value→Shared→Prop} {s:Shared},wpAny (model X.prog X.w) X.A t Q1 X.xe s→wpAny (model X.prog X.w) X.A t Q1 E1 s:=fun {α t Q1 E1 s} h=>by
  rw [hx] at h
  exact wpAny_mono h (fun _ _ q=>q) fun _ _ f=>f.elim
 unfold compIn
 rw [hd]
 refine wpAny_bind (thn (hi pins s σ H _ I h) fun v s1 h1=>?_)
 refine wpAny_bind (wpAny_standAt ?_)
 refine wpAny_bind (wpAny_of_eq (hs v) ?_)
 refine wpAny_bind (wpAny_holding (thn h1 fun itv s2 h2=>?_))
 obtain ⟨it,fp,tn,J,H2,e,I2,T,st2,f2,W,⟨m0,w0⟩,turn⟩:=h2
 subst e
 have stat:∀ {H':Hp},(∀ b∈fp,H' b=none)→∀ b∈fp,FpOk X pins H' b:=fun hn b hb=>⟨hn b hb,(f2 b hb).2⟩
 refine wpAny_bind (wpAny_runOwn (Q:=fun _ s'=>wpAny (model X.prog X.w) X.A (pure ()) (fun _ s'=>∃ σ' H',Inv X pins σ' H' s'∧Q σ' H') X.xe s') ?_)
 have loop:codeAny (model X.prog X.w) (X.A.mark none) (.compLoop (.ListComp elt gens scope pos) (d+1) (.ref it) (.ref D) X.env)
   (fun r s'=>match r with | .ok f=>wpAny (model X.prog X.w) X.A (pure ()) (fun _ s'=>∃ σ' H',Inv X pins σ' H' s'∧Q σ' H') X.xe s' | .error e=>cameBackBy (model X.prog X.w) X.A X.env X.xe e s') s2:=by
  show codeAny (model X.prog X.w) X.A _ _ s2
  refine compLoop_gens hd hga (fun n s'=>∃ i σ' H',Inv X pins σ' H' s'∧tn i s'.heap∧(∀ b∈fp,H' b=none)∧W i n σ' H') ?_ m0 ⟨0,σ,H2,I2,st2,fun b hb=>(f2 b hb).1,w0⟩
  rintro n s3 ⟨i,σ3,H3,I3,st3,fr3,w3⟩
  rcases turn i n σ3 H3 w3 with ⟨stop,qn⟩ | ⟨go,N,hN,step⟩
  ·refine nox (thn (T.done X rfl rfl rfl hc i pins s3 σ3 H3 X.xe I3 (stat fr3) st3 stop) fun r s4 ⟨hr,I4⟩=>?_)
   subst hr
   exact wpAny_pure ⟨σ3,H3,I4,qn⟩
  ·refine nox (thn (T.item X rfl rfl rfl hc i pins s3 σ3 H3 X.xe I3 (stat fr3) st3 go) fun r s4 ⟨u,hr,h4⟩=>?_)
   subst hr
   refine nox (thn h4 fun _ s5 ⟨x,H5,I5,r5,y5,st5,fr5⟩=>?_)
   have I5':=I5.pinned (stat fr5) (T.obj _ _ st5)
   have again:∀ {σ7:St} {H7:Hp} {s7:Shared},Inv X (pins++pinsAt fp s5.heap) σ7 H7 s7→N σ7 H7→∃ m,m < n∧∃ i σ' H',Inv X pins σ' H' s7∧tn i s7.heap∧(∀ b∈fp,H' b=none)∧W i m σ' H':=fun {σ7 H7 s7} I7 n7=>by
    obtain ⟨m',hm,w7⟩:=hN σ7 H7 n7
    refine ⟨m',hm,i+1,σ7,H7,I7.unpinned,T.keep _ _ _ st5 fun b hb o e=>(I7.pin (b,o) (List.mem_append_right _ (List.mem_append_right _ (mem_pinsAt hb e)))).1,fun b hb=>?_,w7⟩
    obtain ⟨o,e,d⟩:=T.obj _ _ st5 b hb
    exact (I7.pin (b,o) (List.mem_append_right _ (List.mem_append_right _ (mem_pinsAt hb e)))).2.1
   refine nox (thn (hg _ s5 σ3 H5 x u _ I5' r5 (step x H5 y5)) fun _ s6 ⟨σ6,H6,I6,q6⟩=>?_)
   refine nox (thn (ht _ s6 σ6 H6 _ I6 q6) fun b s7 ⟨H7,I7,q7⟩=>?_)
   cases b with
   | false=>
    rw [if_neg Bool.false_ne_true] at q7 ⊢
    exact again I7 q7
   | true=>
    rw [if_pos rfl] at q7 ⊢
    exact nox (thn (hm.run _ s7 σ6 H7 _ I7 q7) fun _ s8 ⟨σ8,H8,I8,q8⟩=>again I8 q8)
 exact compStart_gens hd loop (T.self X.A 0 _ _ _ st2 loop)
end
def tCompM (wi:TI) (g:TG) (tc:TT) (tm:Addr→TM) (own:List Str) (cap:List (Nat×Str)):TE:=fun σ H Q=>wi σ H fun J H2=>∀ D,H2 D=none →
 ∃ W:Nat→Nat→St→Hp→Prop,(∃ m,W 0 m (compSt own cap σ) (upd H2 D (.lst [])))∧∀ i m σ' H',W i m σ' H' →
   ((J.stop i H'∧Q (.ref D) H')∨(J.go i H'∧∃ N:St→Hp→Prop,(∀ σ H,N σ H→∃ m',m' < m∧W (i+1) m' σ H)∧∀ x H2,J.yld i H' x H2→g x σ' H2 fun σ3 H3=>tc σ3 H3 fun b H4=>if b=true then tm D σ3 H4 N else N σ3 H4))
section
variable {X:Cx} {scope:Scope} {cl:List (Str×Addr)} {own:List Str} {cap:List (Nat×Str)} {tg iter elt:Expr} {ifs:List Expr} {gens rest:List Comprehension} {wi:TI} {g:TG} {tc:TT} {tm:Addr→TM} {pos:Pos}
theorem comp_blockM {pins:List (Addr×Obj)} {σ:St} {s2:Shared} {H2:Hp} {it:Addr} {fp:List Addr} {tn:Nat→Heap→Prop} {J:It} {Q:VK} {RR:Value→Addr→Result→Shared→Prop} {E':Value→Shared→Prop}
  (c:CompOk X scope cl own cap) (hc:X.calm=true)
  (hg:∀ C s H fp,PG (compCx X (own++cap.map (·.2)) scope cl C s H fp fun _ _=>False) tg g) (ht:∀ C s H fp,PTs (compCx X (own++cap.map (·.2)) scope cl C s H fp fun _ _=>False) ifs tc)
  (hm:∀ C s H fp D,PM (compCx X (own++cap.map (·.2)) scope cl C s H fp fun _ _=>False) (compIn elt gens scope pos 0 (.ref D) (compEnvC scope cl C X.env)) (tm D)) (hd0:gens[0]? = some ⟨tg,iter,ifs,0⟩) (hga:∀ g∈gens,g.is_async=0)
  (I2:Inv X pins σ H2 s2) (T:Turn X.prog X.w X.K tg J fp it tn) (st2:tn 0 s2.heap) (f2:∀ b∈fp,FpOk X pins H2 b)
  (hw:∀ D,H2 D=none→∃ W:Nat→Nat→St→Hp→Prop,(∃ m,W 0 m (compSt own cap σ) (upd H2 D (.lst [])))∧∀ i m σ' H',W i m σ' H' →
   ((J.stop i H'∧Q (.ref D) H')∨(J.go i H'∧∃ N:St→Hp→Prop,(∀ σ H,N σ H→∃ m',m' < m∧W (i+1) m' σ H)∧∀ x H2,J.yld i H' x H2→g x σ' H2 fun σ3 H3=>tc σ3 H3 fun b H4=>if b=true then tm D σ3 H4 N else N σ3 H4)))
  (hRR:∀ D C s' H' m,Inv X pins σ H' s'→FpOk X pins H' C→s'.heap.Ns C m→Q (.ref D) H'→RR (.ref D) C (.ok .next) s') :
  wpAny (model X.prog X.w) X.A (newList []) (fun acc s₃=>wpAny (model X.prog X.w) X.A (newFunctionEnv scope X.env.globals cl [] X.env.qual none .none (some X.env)) (fun cenv s₄=>
   codeAny (model X.prog X.w) X.A (.compStart (.ListComp elt gens scope pos) 0 (.ref it) acc { cenv with scope:=relabel scope X.env }) (RR acc cenv.locals) s₄) E' s₃) E' s2:=by
 refine wpAny_newObj_type (wpAny_newFunctionEnv c.cell (by intro y hy; simp at hy) (fun h₁ hns₁ hsb₁=>?_) c.kind)
 dsimp only at hns₁ hsb₁ ⊢
 have hsz:(s2.heap.push { cls:=.type "list",dict:=none,data:=.seq ([]:List Value).toArray }).objs.size=s2.heap.objs.size+1:=Heap.size_push _ _
 have kk:∀ b o,s2.heap.get? b=some o→h₁.get? b=some o:=fun b o e=>hsb₁.extBut b o (by rw [hsz]; exact Nat.ne_of_lt (Nat.lt_succ_of_lt (Heap.lt_size e))) (Heap.get?_push_of_some _ (Heap.get?_push_of_some _ e))
 have hD:h₁.get? s2.heap.objs.size=some { cls:=.type "list",data:=.seq ([]:List Value).toArray }:=
  hsb₁.extBut _ _ (by rw [hsz]; exact Nat.ne_of_lt (Nat.lt_succ_self _)) (Heap.get?_push_of_some _ (Heap.get?_push_size _ rfl))
 rw [hsz] at hns₁ ⊢
 have hlt:∀ b∈fp,b < s2.heap.objs.size:=fun b hb=>by
  obtain ⟨o,e,_⟩:=T.obj _ _ st2 b hb
  exact Heap.lt_size e
 obtain ⟨W,⟨m0,w0⟩,turn⟩:=hw s2.heap.objs.size I2.fresh
 have J1:=comp_inv (E:=fun _ _=>False) c I2 f2 hlt (tk:=s2.toks+([]:List (Str×Value)).length) kk hD hns₁
 generalize hX':compCx X (own++cap.map (·.2)) scope cl (s2.heap.objs.size+1) s2 H2 fp (fun _ _=>False)=X' at J1
 have hg':PG X' tg g:=hX' ▸ hg _ _ _ _
 have ht':PTs X' ifs tc:=hX' ▸ ht _ _ _ _
 have hm':PM X' (compIn elt gens scope pos 0 (.ref s2.heap.objs.size) (compEnvC scope cl (s2.heap.objs.size+1) X.env)) (tm s2.heap.objs.size):=hX' ▸ hm _ _ _ _ _
 have pX:X'.prog=X.prog:=by rw [← hX']; rfl
 have wX:X'.w=X.w:=by rw [← hX']; rfl
 have kX:X'.K=X.K:=by rw [← hX']; rfl
 have aX:X'.A=X.A:=by rw [← hX']; rfl
 have cX:X'.calm=true:=by rw [← hX']; exact hc
 have nX:X'.env=compEnvC scope cl (s2.heap.objs.size+1) X.env:=by rw [← hX']; rfl
 have xX:X'.xe=fun _ _=>False:=by rw [← hX']; rfl
 have fX:∀ b∈fp,∀ {H':Hp},H' b=none→FpOk X' [] H' b:=fun b hb {H'} hn=>by
  have o1:=(comp_ok (E:=fun _ _=>False) c I2 f2 hlt (C:=s2.heap.objs.size+1) (Nat.le_succ _)).exf b hb
  have o2:=(comp_ok (E:=fun _ _=>False) c I2 f2 hlt (C:=s2.heap.objs.size+1) (Nat.le_succ _)).exfs b hb
  rw [← hX']
  exact ⟨hn,o1.1,o2,.inl hb,o1.2,fun p hp=>absurd (show p∈([]:List (Addr×Obj)) from hp) (by simp)⟩
 have fin:∀ {σ':St} {H':Hp} {s':Shared},Inv X' [] σ' H' s'→Q (.ref s2.heap.objs.size) H'→RR (.ref s2.heap.objs.size) (s2.heap.objs.size+1) (.ok .next) s':=fun {σ' H' s'} J' q=>by
  rw [← hX'] at J'
  obtain ⟨A1,A2⟩:=comp_after I2 f2 (Nat.le_succ _) J'
  obtain ⟨m,hm,_⟩:=J'.loc
  exact hRR _ _ s' H' m A1 A2 hm q
 have loop:codeAny (model X.prog X.w) X.A (.compLoop (.ListComp elt gens scope pos) 0 (.ref it) (.ref s2.heap.objs.size) (compEnvC scope cl (s2.heap.objs.size+1) X.env)) (RR (.ref s2.heap.objs.size) (s2.heap.objs.size+1))
   { s2 with heap:=h₁,toks:=s2.toks+([]:List (Str×Value)).length }:=by
  refine compLoop_gens hd0 hga (fun n s'=>∃ i σ' H',Inv X' [] σ' H' s'∧tn i s'.heap∧(∀ b∈fp,H' b=none)∧W i n σ' H') ?_ m0
   ⟨0,_,_,J1,T.keep _ _ _ st2 fun b _ o e=>kk b o e,fun b hb=>by rw [upd_ne (Nat.ne_of_lt (hlt b hb))]; exact (f2 b hb).1,w0⟩
  rintro n s3 ⟨i,σ3,H3,I3,st3,fr3,w3⟩
  have w4:=turn i n σ3 H3 w3
  rw [← nX,← aX,← pX,← wX]
  have nox:∀ {α:Type} {t:Sem α} {Q1:α→Shared→Prop} {E1:Value→Shared→Prop} {s:Shared},wpAny (model X'.prog X'.w) X'.A t Q1 X'.xe s→wpAny (model X'.prog X'.w) X'.A t Q1 E1 s:=fun {α t Q1 E1 s} h=>by
   rw [xX] at h
   exact wpAny_mono h (fun _ _ q=>q) fun _ _ f=>f.elim
  rcases w4 with ⟨stop,qn⟩ | ⟨go,N,hN,step⟩
  ·have d:=T.done X' pX wX kX cX i [] s3 σ3 H3 X'.xe I3 (fun b hb=>fX b hb (fr3 b hb)) st3 stop
   rw [← pX,← wX] at d
   refine nox (thn d fun r s4 ⟨hr,I4⟩=>?_)
   subst hr
   exact fin I4 qn
  ·have d:=T.item X' pX wX kX cX i [] s3 σ3 H3 X'.xe I3 (fun b hb=>fX b hb (fr3 b hb)) st3 go
   rw [← pX,← wX] at d
   refine nox (thn d fun r s4 ⟨u,hr,h4⟩=>?_)
   subst hr
   refine nox (thn h4 fun _ s5 ⟨x,H5,I5,r5,y5,st5,fr5⟩=>?_)
   have I5':=I5.pinned (fun b hb=>fX b hb (fr5 b hb)) (T.obj _ _ st5)
   have again:∀ {σ7:St} {H7:Hp} {s7:Shared},Inv X' ([]++pinsAt fp s5.heap) σ7 H7 s7→N σ7 H7 →
     ∃ m,m < n∧∃ i σ' H',Inv X' [] σ' H' s7∧tn i s7.heap∧(∀ b∈fp,H' b=none)∧W i m σ' H':=fun {σ7 H7 s7} I7 n7=>by
    obtain ⟨m',hm,w7⟩:=hN _ _ n7
    refine ⟨m',hm,i+1,σ7,H7,I7.unpinned,T.keep _ _ _ st5 fun b hb o e=>(I7.pin (b,o) (List.mem_append_right _ (List.mem_append_right _ (mem_pinsAt hb e)))).1,fun b hb=>?_,w7⟩
    obtain ⟨o,e,d⟩:=T.obj _ _ st5 b hb
    exact (I7.pin (b,o) (List.mem_append_right _ (List.mem_append_right _ (mem_pinsAt hb e)))).2.1
   refine nox (thn (hg' _ s5 σ3 H5 x u _ I5' r5 (step x H5 y5)) fun _ s6 ⟨σ6,H6,I6,q6⟩=>?_)
   refine nox (thn (ht' _ s6 σ6 H6 _ I6 q6) fun b s7 ⟨H7,I7,q7⟩=>?_)
   cases b with
   | false=>
    rw [if_neg Bool.false_ne_true] at q7 ⊢
    exact again I7 q7
   | true=>
    rw [if_pos rfl] at q7 ⊢
    have hmr:=hm'.run _ s7 σ6 H7 _ I7 q7
    rw [← nX] at hmr
    exact nox (thn hmr fun _ s8 ⟨σ8,H8,I8,q8⟩=>again I8 q8)
 exact compStart_gens hd0 loop (T.self X.A 0 _ _ _ (T.keep _ _ _ st2 fun b _ o e=>kk b o e) loop)
theorem pe_compM (c:CompOk X scope cl own cap) (hc:X.calm=true) (hi:PI X tg iter wi)
  (hg:∀ C s H fp,PG (compCx X (own++cap.map (·.2)) scope cl C s H fp fun _ _=>False) tg g) (ht:∀ C s H fp,PTs (compCx X (own++cap.map (·.2)) scope cl C s H fp fun _ _=>False) ifs tc)
  (hm:∀ C s H fp D,PM (compCx X (own++cap.map (·.2)) scope cl C s H fp fun _ _=>False) (compIn elt (⟨tg,iter,ifs,0⟩::rest) scope pos 0 (.ref D) (compEnvC scope cl C X.env)) (tm D)) (hga:∀ g∈(⟨tg,iter,ifs,0⟩::rest:List Comprehension),g.is_async=0) (hs:∀ x,foldedSetIterable iter X.env x=pure x:=by intro _; rfl) :
  PE X (.ListComp elt (⟨tg,iter,ifs,0⟩::rest) scope pos) (tCompM wi g tc tm own cap):=by
 refine .mk ?_
 intro pins s σ H Q I h
 rw [eval_ListComp]
 refine wpAny_comprehension_free (use:=none) rfl hs c.clos c.kind c.names (thn (hi pins s σ H _ I h) fun v s1 h1=>thn h1 fun itv s2 h2=>?_)
 obtain ⟨it,fp,tn,J,H2,e,I2,T,st2,f2,hw⟩:=h2
 subst e
 refine comp_blockM (Q:=Q) (RR:=fun acc C=>compPost (model X.prog X.w) X.A X.xe none (EP X pins σ Q) acc C) c hc hg ht hm rfl hga I2 T st2 f2 hw ?_
 intro D C s' H' m I' hC hm q
 refine ⟨m,hm,fun h' hs'=>⟨.ref D,H',?_,rfl,q⟩⟩
 exact I'.turned (t':=s'.toks) (fun b o hb e=>(hs'.2 b hb).trans e) hC.1 hC.2.1 hC.2.2.2.1 hC.2.2.2.2.1 hC.2.2.2.2.2
end
end L2
namespace L3
open PySem PySem.Spec L2
open PyProof.Rows hiding St
abbrev M3:=S3→List T→Gp→(S3→List T→Gp→Prop)→Prop
def liM (tm:M3) (D:Addr):TM:=fun σ H Q=>∃ H0 Γ0 τ Γ ys vs Z,RS H σ τ∧HR H Γ∧Γ D=none∧H D=some (.lst vs)∧Rs H vs ys∧H0 D=none∧Stp H0 Γ0 H Γ∧tm τ ys Γ Z ∧
 ∀ σ' τ' H' Γ' vs' ys',Tq H H'→Stp H0 Γ0 H' Γ'→HR H' Γ'→RS H' σ' τ'→Γ' D=none→H' D=some (.lst vs')→Rs H' vs' ys'→Z τ' ys' Γ'→Q σ' H'
theorem nlst (vs:List V):(∀ us:List V,HO.lst vs≠.tup us)∧∀ b w,HO.lst vs≠.frz b w:=⟨fun _ z=>(nomatch z),fun _ _ z=>(nomatch z)⟩
theorem stp_hid {H0 H6:Hp} {Γ0 Γ6:Gp} {D:Addr} {vs us:List V} (hD:H0 D=none) (d6:H6 D=some (.lst vs)) (s7:Stp H0 Γ0 H6 Γ6):Stp H0 Γ0 (upd H6 D (.lst us)) Γ6:=by
 refine ⟨s7.tq.trans (tq_set d6 (nlst vs)),fun a h z=>?_,s7.new,fun a o h g=>?_⟩
 ·by_cases e:a=D
  ·subst e; exact h hD
  ·rw [upd_ne e] at z; exact s7.dom a h z
 ·have e:a≠D:=fun e=>by subst e; rw [hD] at h; cases h
  rw [upd_ne e]; exact s7.frm a o h g
def mEmit (te:E3):M3:=fun τ ys Γ Z=>ys.length < sizeLine∧te Y0 τ Γ fun y Γ1=>Z τ (ys++[y]) Γ1
def mFor (wi:I3) (g:G3) (tc:T3) (tm:M3):M3:=fun τ ys Γ Z=>wi Y0 τ Γ fun ts gd Γ1=>∃ P:List T→S3→List T→Gp→Prop,P ts τ ys Γ1∧(∀ τ ys Γ,P [] τ ys Γ→gd Γ∧Z τ ys Γ) ∧
 ∀ x r τ ys Γ,P (x::r) τ ys Γ→gd Γ∧g Y0 x τ Γ fun τ3 Γ3=>tc Y0 τ3 Γ3 fun b Γ4=>if b=true then tm τ3 ys Γ4 (P r) else P r τ3 ys Γ4
def eCompM (wi:I3) (g:G3) (tc:T3) (tm:M3) (own:List Str) (cap:List (Nat×Str)):E3:=fun Y τ Γ Z=>wi Y τ Γ fun ts gd Γ1=>∃ P:List T→S3→List T→Gp→Prop,P ts (cSt own cap τ) [] Γ1∧(∀ τ ys Γ,P [] τ ys Γ→gd Γ∧∀ D,Γ D=none→Z (.ref D) (up Γ D (.lst ys))) ∧
 ∀ x r τ ys Γ,P (x::r) τ ys Γ→gd Γ∧g Y0 x τ Γ fun τ3 Γ3=>tc Y0 τ3 Γ3 fun b Γ4=>if b=true then tm τ3 ys Γ4 (P r) else P r τ3 ys Γ4
section
variable {X:Cx} {E:St→XK} {elt tg iter:Expr} {ifs:List Expr} {gens rest:List Comprehension} {scope:Scope} {cl:List (Str×Addr)} {own:List Str} {cap:List (Nat×Str)} {pos:Pos} {d:Nat} {D:Addr} {te:E3} {wi:I3} {g:G3} {tc:T3} {tm:M3}
theorem qm_emit (he:PE X elt (liE EN te)) (hd:gens[d+1]? = none:=by rfl):PM X (compIn elt gens scope pos d (.ref D) X.env) (liM (mEmit te) D):=
 weakM (pm_emit he hd) fun σ H Q ⟨H0,Γ0,τ,Γ,ys,vs,Z,rs,hr,gD,hD,ry,h0,s0,⟨hz,t⟩,q⟩=>by
  refine ⟨τ,Γ,Y0,_,rs,hr,t,fun y y' H6 Γ6 s6 h6 r6 z6=>?_,xr0⟩
  have d6:H6 D=some (.lst vs):=s6.frm D _ hD gD
  have g6:Γ6 D=none:=s6.new D (by rw [hD]; exact fun z=>nomatch z) gD
  have tq:Tq H6 (upd H6 D (.lst (vs++[y]))):=tq_set d6 (nlst vs)
  refine ⟨vs,d6,by rw [ry.length]; exact hz,?_⟩
  exact q σ τ _ Γ6 _ _ (s6.tq.trans tq) (stp_hid h0 d6 (s0.trans s6)) (h6.hide g6 d6 (nlst vs)) ((rs.mono s6.tq).mono tq) g6 upd_same (Rs.app ((ry.mono s6.tq).mono tq) (rs_cons (r6.mono tq) rs_nil)) z6
theorem qm_for (hc:X.calm=true) (hd:gens[d+1]? = some ⟨tg,iter,ifs,0⟩) (hi:PI X tg iter (liI EN wi)) (hg:PG X tg (liG EN g)) (ht:PTs X ifs (liT EN tc)) (hm:PM X (compIn elt gens scope pos (d+1) (.ref D) X.env) (liM tm D)) (hga:∀ g∈gens,g.is_async=0:=by decide) (hx:X.xe=fun _ _=>False:=by rfl)
  (hs:∀ x,foldedSetIterable iter X.env x=pure x:=by intro _; rfl):PM X (compIn elt gens scope pos d (.ref D) X.env) (liM (mFor wi g tc tm) D):=
 weakM (pm_for hx hc hga hd hi hg ht hm hs) fun σ H Q ⟨H0,Γ0,τ,Γ,ys,vs,Z,rs,hr,gD,hD,ry,h0,s0,t,q⟩=>by
  refine ⟨τ,Γ,Y0,_,rs,hr,t,fun J ts gd H1 Γ1 s1 h1 wk ⟨P,z1,p0,pc⟩=>?_,xr0⟩
  have d1:H1 D=some (.lst vs):=s1.frm D _ hD gD
  have g1:Γ1 D=none:=s1.new D (by rw [hD]; exact fun z=>nomatch z) gD
  refine ⟨fun i m σ' H'=>∃ τ' ys vs Γ',i≤ts.length∧m=ts.length-i∧RS H' σ' τ'∧HR H' Γ'∧H' D=some (.lst vs)∧Γ' D=none∧Rs H' vs ys∧Tq H1 H'∧Stp H0 Γ0 H' Γ'∧P (ts.drop i) τ' ys Γ',
   ⟨ts.length,τ,ys,vs,Γ1,Nat.zero_le _,rfl,rs.mono s1.tq,h1,d1,g1,ry.mono s1.tq,.refl,s0.trans s1,z1⟩,?_⟩
  rintro i m σ2 H2 ⟨τ2,ys2,vs2,Γ2,hi,rfl,rs2,h2,d2,g2,ry2,t2,s2,w2⟩
  by_cases hlt:i < ts.length
  ·rw [drop_cons hlt] at w2
   obtain ⟨gg,w2⟩:=pc _ _ _ _ _ w2
   refine .inr ⟨wk.go i H2 Γ2 t2 h2 gg hlt,fun σ' H'=>∃ τ' ys vs Γ',RS H' σ' τ'∧HR H' Γ'∧H' D=some (.lst vs)∧Γ' D=none∧Rs H' vs ys∧Tq H1 H'∧Stp H0 Γ0 H' Γ'∧P (ts.drop (i+1)) τ' ys Γ',
    fun σ' H' ⟨τ',ys,vs,Γ',a,b,c,d,e,f,k,l⟩=>⟨ts.length-(i+1),by omega,τ',ys,vs,Γ',hlt,rfl,a,b,c,d,e,f,k,l⟩,fun x H3 yl=>?_⟩
   obtain ⟨s3,h3,x3,e3,r3⟩:=wk.yld i H2 Γ2 x H3 t2 h2 gg hlt yl
   rw [List.getElem?_eq_getElem hlt] at e3
   cases e3
   refine ⟨_,τ2,Γ2,Y0,_,r3,rs2.mono s3.tq,h3,w2,fun σ4 τ4 H4 Γ4 s4 h4 r4 z4=>?_,xr0⟩
   refine ⟨τ4,Γ4,Y0,_,r4,h4,z4,fun k H5 Γ5 s5 h5 z5=>?_,xr0⟩
   have s35:=(s3.trans s4).trans s5
   have d5:H5 D=some (.lst vs2):=s35.frm D _ d2 g2
   have g5:Γ5 D=none:=s35.new D (by rw [d2]; exact fun z=>nomatch z) g2
   cases k with
   | false=>exact ⟨τ4,ys2,vs2,Γ5,r4.mono s5.tq,h5,d5,g5,ry2.mono s35.tq,t2.trans s35.tq,s2.trans s35,z5⟩
   | true=>
    exact ⟨H0,Γ0,τ4,Γ5,ys2,vs2,_,r4.mono s5.tq,h5,g5,d5,ry2.mono s35.tq,h0,s2.trans s35,z5,fun σ' τ' H' Γ' vs' ys' t6 s6 h6 r6 g6 d6 ry6 z6=>⟨τ',ys',vs',Γ',r6,h6,d6,g6,ry6,(t2.trans s35.tq).trans t6,s6,z6⟩⟩
  ·have e:i=ts.length:=by omega
   subst e
   rw [List.drop_length] at w2
   have w2:=p0 _ _ _ w2
   exact .inl ⟨wk.stop H2 Γ2 t2 h2 w2.1,q σ2 τ2 H2 Γ2 vs2 ys2 (s1.tq.trans t2) s2 h2 rs2 g2 d2 ry2 w2.2⟩
theorem compM_sim (σ:St) (H:Hp) (Q:VK) (q:liE E (eCompM wi g tc tm own cap) σ H Q):tCompM (liI E wi) (liG EN g) (liT EN tc) (liM tm) own cap σ H Q:=by
 obtain ⟨τ,Γ,Y,Z,rs,hr,t,vr,xr⟩:=q
 refine ⟨τ,Γ,Y,_,rs,hr,t,fun J ts gd H1 Γ1 s1 h1 wk ⟨P,z1,p0,pc⟩=>?_,xr⟩
 intro D hD
 refine ⟨fun i m σ' H'=>∃ τ' ys vs Γ',i≤ts.length∧m=ts.length-i∧RS H' σ' τ'∧HR H' Γ'∧H' D=some (.lst vs)∧Γ' D=none∧Rs H' vs ys∧Stp H1 Γ1 H' Γ'∧P (ts.drop i) τ' ys Γ',
  ⟨ts.length,cSt own cap τ,[],[],Γ1,Nat.zero_le _,rfl,(rs_comp own (rs.mono s1.tq) cap).mono (tq_kp (keep_new hD)),h1.keep (keep_new hD),upd_same,h1.free hD,rs_nil,.keep (keep_new hD),z1⟩,?_⟩
 rintro i m σ2 H2 ⟨τ2,ys2,vs2,Γ2,hi,rfl,rs2,h2,d2,g2,ry2,s2,w2⟩
 by_cases hlt:i < ts.length
 ·rw [drop_cons hlt] at w2
  obtain ⟨gg,w2⟩:=pc _ _ _ _ _ w2
  refine .inr ⟨wk.go i H2 Γ2 s2.tq h2 gg hlt,fun σ' H'=>∃ τ' ys vs Γ',RS H' σ' τ'∧HR H' Γ'∧H' D=some (.lst vs)∧Γ' D=none∧Rs H' vs ys∧Stp H1 Γ1 H' Γ'∧P (ts.drop (i+1)) τ' ys Γ',
   fun σ' H' ⟨τ',ys,vs,Γ',a,b,c,d,e,f,l⟩=>⟨ts.length-(i+1),by omega,τ',ys,vs,Γ',hlt,rfl,a,b,c,d,e,f,l⟩,fun x H3 yl=>?_⟩
  obtain ⟨s3,h3,x3,e3,r3⟩:=wk.yld i H2 Γ2 x H3 s2.tq h2 gg hlt yl
  rw [List.getElem?_eq_getElem hlt] at e3
  cases e3
  refine ⟨_,τ2,Γ2,Y0,_,r3,rs2.mono s3.tq,h3,w2,fun σ4 τ4 H4 Γ4 s4 h4 r4 z4=>?_,xr0⟩
  refine ⟨τ4,Γ4,Y0,_,r4,h4,z4,fun k H5 Γ5 s5 h5 z5=>?_,xr0⟩
  have s35:=(s3.trans s4).trans s5
  have d5:H5 D=some (.lst vs2):=s35.frm D _ d2 g2
  have g5:Γ5 D=none:=s35.new D (by rw [d2]; exact fun z=>nomatch z) g2
  cases k with
  | false=>exact ⟨τ4,ys2,vs2,Γ5,r4.mono s5.tq,h5,d5,g5,ry2.mono s35.tq,s2.trans s35,z5⟩
  | true=>
   exact ⟨H1,Γ1,τ4,Γ5,ys2,vs2,_,r4.mono s5.tq,h5,g5,d5,ry2.mono s35.tq,hD,s2.trans s35,z5,fun σ' τ' H' Γ' vs' ys' t6 s6 h6 r6 g6 d6 ry6 z6=>⟨τ',ys',vs',Γ',r6,h6,d6,g6,ry6,s6,z6⟩⟩
 ·have e:i=ts.length:=by omega
  subst e
  rw [List.drop_length] at w2
  have w2:=p0 _ _ _ w2
  refine .inl ⟨wk.stop H2 Γ2 s2.tq h2 w2.1,?_⟩
  have s12:=s1.trans s2
  refine vr (.ref D) (.ref D) H2 (up Γ2 D (.lst ys2)) ⟨s12.tq,s12.dom,fun a h g=>?_,s12.frm⟩ (fun a o g=>?_) r_ref (w2.2 D g2)
  ·have e:a≠D:=fun e=>by subst e; exact s1.dom _ h hD
   rw [up_ne e]; exact s12.new a h g
  ·by_cases e:a=D
   ·subst e; rw [up_same] at g; cases g; exact ⟨vs2,d2,ry2⟩
   ·rw [up_ne e] at g; exact h2 a o g
theorem qe_compM (c:CompOk X scope cl own cap) (hc:X.calm=true) (hi:PI X tg iter (liI E wi))
  (hg:∀ C s H fp,PG (compCx X (own++cap.map (·.2)) scope cl C s H fp fun _ _=>False) tg (liG EN g)) (ht:∀ C s H fp,PTs (compCx X (own++cap.map (·.2)) scope cl C s H fp fun _ _=>False) ifs (liT EN tc))
  (hm:∀ C s H fp D,PM (compCx X (own++cap.map (·.2)) scope cl C s H fp fun _ _=>False) (compIn elt (⟨tg,iter,ifs,0⟩::rest) scope pos 0 (.ref D) (compEnvC scope cl C X.env)) (liM tm D)) (hga:∀ g∈(⟨tg,iter,ifs,0⟩::rest:List Comprehension),g.is_async=0:=by decide) (hs:∀ x,foldedSetIterable iter X.env x=pure x:=by intro _; rfl) :
  PE X (.ListComp elt (⟨tg,iter,ifs,0⟩::rest) scope pos) (liE E (eCompM wi g tc tm own cap)):=weakE (pe_compM c hc hi hg ht hm hga hs) compM_sim
end
end L3
namespace Sr
open PySem PyProof.Rows
section
variable {prog:Program} {w:World} {A:Around} {E:Value→Shared→Prop} {s:Shared} {a0:Array Keyed} {kd:SortKind} {st:SortSt}
end
inductive Txs:List Str→List Value→Prop
 | nil:Txs [] []
 | cons {z:Str} {t:Tok} {zs:List Str} {vs:List Value} (h:Txs zs vs):Txs (z::zs) (.str z t::vs)
section
variable {prog:Program} {w:World} {A:Around} {E:Value→Shared→Prop} {s:Shared} {M:Model}
theorem Txs.length:∀ {zs:List Str} {vs:List Value},Txs zs vs→vs.length=zs.length
 | _,_,.nil=>rfl
 | _,_,.cons h=>by rw [List.length_cons,List.length_cons,h.length]
end
end Sr
namespace L2
open PySem PySem.Spec PyProof.Rows
section
variable {X:Cx}
def RowAt (H:Hp) (y:V) (zs:List Str):Prop:=∃ a,y=.ref a∧H a=some (.tup (zs.map V.str))
inductive Rws (H:Hp):List V→List (List Str)→Prop
 | nil:Rws H [] []
 | cons {y:V} {zs:List Str} {ys:List V} {tb:List (List Str)} (a:RowAt H y zs) (b:Rws H ys tb):Rws H (y::ys) (zs::tb)
theorem Rws.get {H:Hp}:∀ {ys:List V} {tb:List (List Str)} {i:Nat} {y:V},Rws H ys tb→ys[i]? = some y→∃ zs,tb[i]? = some zs∧RowAt H y zs
 | _,_,i,y,.nil,h=>by simp at h
 | _,_,0,y,.cons a b,h=>by cases h; exact ⟨_,rfl,a⟩
 | _,_,i+1,y,.cons a b,h=>by simpa using b.get (by simpa using h)
end
end L2
namespace L3
open PySem PySem.Spec L2
end L3
namespace L2
open PySem PySem.Spec PyProof.Rows
end L2
namespace L3
open PySem PySem.Spec L2
open PyProof.Rows hiding St
section
variable {X:Cx} {E:St→XK} {tg l:Expr} {tl:E3} {pos p:Pos}
def KT (K:PySem.W.Frag) (a:Addr) (ts:List T):Prop:=∃ vs,KTup K a vs∧∀ H,Rs H vs ts
end
end L3
namespace L2
open PySem PySem.Spec PyProof.Rows
section
variable (P:Program) (w:World)
end
section
variable {P:Program} {w:World} {H H':Hp} {h h':Heap} {a:Addr} {o:HO}
end
section
variable {P:Program} {w:World} {H:Hp} {h h':Heap} {x e:Addr} {o':HO}
end
section
variable {fs fs' ex ex':List Addr} {H H1 H2:Hp} {h h1 h2 h':Heap} {a x e:Addr} {o:HO}
end
section
variable {X:Cx} {pins:List (Addr×Obj)} {σ:List (Option V)} {H H':Hp} {s:Shared} {h':Heap}
end
section
variable {X:Cx}
variable {a b:Expr} {ta tb:TE} {pos:Pos}
variable {tA tB':TT} {rest:List Expr}
end
section
variable {X:Cx} {pins:List (Addr×Obj)} {σ:St} {H:Hp} {s:Shared} {a:Addr} {xs ys:List V}
end
section
variable {X:Cx} {pins:List (Addr×Obj)} {σ:St} {H:Hp} {s:Shared} {E:Value→Shared→Prop}
end
section
variable {X:Cx} {st:Stmt} {rest:List Stmt} {t u:TS} {e:Expr} {te:TE} {pos:Pos}
end
section
variable {X:Cx} {pos:Pos}
end
section
variable {X:Cx} {pos:Pos}
end
section
variable {X:Cx} {tg:Expr}
end
section
variable {X:Cx} {a b c:Expr} {ta tb tc:TE} {pos:Pos}
end
section
variable {X:Cx} {a b c:Expr} {ta tb tc:TE} {pos:Pos}
end
section
variable {prog:Program} {w:World} {A:Around} {E:Value→Shared→Prop} {s:Shared} {K:PySem.W.Frag} {x dx C f:Addr} {mA:Str→Option Value} {name:Str} {v:Value}
end
section
variable {P:Program} {w:World} {H H':Hp} {h h':Heap} {a C dx:Addr} {fs fs':List (Str×V)}
end
section
variable {X:Cx} {pins:List (Addr×Obj)} {σ:St} {H:Hp} {s:Shared} {a C dx:Addr} {fs:List (Str×V)} {f:Str} {v:V} {A:Around} {E:Value→Shared→Prop}
end
section
variable {X:Cx} {o e value:Expr} {f:Str} {pos pos' tpos:Pos} {ta tv:TE}
end
section
variable {X:Cx} {pins:List (Addr×Obj)} {σ:St} {H:Hp} {s:Shared} {A:Around} {E:Value→Shared→Prop} {Q:Value→Shared→Prop} {c:Value} {b:Bool}
end
section
variable {X:Cx} {e:Expr} {es:List Expr} {te:TE} {t:TA} {pos:Pos}
end
section
variable {X:Cx} {pins:List (Addr×Obj)} {σ:St} {H:Hp} {s s':Shared}
end
section
variable {X:Cx} {CX:CXT} {k:Nat} {f C:Addr} {fd:FuncData} {ps:List Str} {sp:Sp} {dvs:List V} {ds:List Value} {E:XK} {x m:Str} {p pos apos:Pos} {e o:Expr} {es:List Expr} {ta:TE} {t:TA}
end
section
variable {X:Cx} {CX:CXT} {k:Nat} {f C:Addr} {fd:FuncData} {ps ks:List Str} {sp:Sp} {E:XK} {x m:Str} {p pos apos kpos:Pos} {e o:Expr} {es:List Expr} {kws:List Keyword} {te ta:TE} {t tk:TA} {nm:Option Str}
variable {g:List Value→List Value→List Value} {gV:List V→List V→List V}
end
section
variable {X:Cx} {x:Str} {p pos:Pos} {e:Expr} {es:List Expr} {t:TA} {id T:String} {r:List V→Hp→VK→Prop}
end
section
variable {κ:Type} [DecidableEq κ]
def valV (kvs:List (κ×V)) (k:κ):Option V:=(kvs.find? fun kv=>decide (kv.1=k)).map (·.2)
def putK (kvs:List (κ×V)) (k:κ) (v:V):List (κ×V):=
 if (kvs.any fun kv=>decide (kv.1=k))=true then kvs.map (fun kv=>if kv.1=k then (kv.1,v) else kv) else kvs++[(k,v)]
def dropKv (kvs:List (κ×V)) (k:κ):List (κ×V):=kvs.filter fun kv=>decide (kv.1≠k)
theorem valV_pos {p:κ×V} {r:List (κ×V)} {k:κ} (e:p.1=k):valV (p::r) k=some p.2:=by simp [valV,List.find?_cons,e]
theorem valV_neg {p:κ×V} {r:List (κ×V)} {k:κ} (e:¬ p.1=k):valV (p::r) k=valV r k:=by simp [valV,List.find?_cons,e]
theorem valV_any (k:κ):∀ kvs:List (κ×V),(kvs.any fun kv=>decide (kv.1=k))=(valV kvs k).isSome
 | []=>rfl
 | p::r=>by
  rw [List.any_cons]
  by_cases e:p.1=k
  ·simp only [valV_pos e,decide_eq_true e,Bool.true_or,Option.isSome_some]
  ·rw [valV_neg e,decide_eq_false e,Bool.false_or]; exact valV_any k r
theorem length_putK (kvs:List (κ×V)) (k:κ) (v:V):(putK kvs k v).length≤kvs.length+1:=by
 unfold putK
 split
 ·rw [List.length_map]; omega
 ·rw [List.length_append,List.length_cons,List.length_nil]; omega
theorem RelO.isSome_eq {o:Option V} {u:Option Value} (r:RelO o u):o.isSome=u.isSome:=by
 cases o with
 | none=>cases u with
  | none=>rfl
  | some _=>exact (show False from r).elim
 | some _=>cases u with
  | none=>exact (show False from r).elim
  | some _=>rfl
theorem RelO.getD {o:Option V} {u:Option Value} {d:V} {d':Value} (r:RelO o u) (rd:RelV d d'):RelV (o.getD d) (u.getD d'):=by
 cases o with
 | none=>cases u with
  | none=>exact rd
  | some _=>exact (show False from r).elim
 | some _=>cases u with
  | none=>exact (show False from r).elim
  | some _=>exact r
theorem KV.val {kvs:List (κ×V)} {vs:List (κ×Value)} (r:KV kvs vs) (k:κ):RelO (valV kvs k) (valueAt vs k):=by
 unfold KV at r
 induction r with
 | nil=>exact True.intro
 | @cons p q ps qs h t ih=>
  obtain ⟨h1,h2⟩:=h
  by_cases e:p.1=k
  ·have e':q.1=k:=h1.symm.trans e
   have b:valueAt (q::qs) k=some q.2:=by simp [valueAt,List.find?_cons,e']
   rw [valV_pos e,b]; exact h2
  ·have e':¬ q.1=k:=fun z=>e (h1.trans z)
   have b:valueAt (q::qs) k=valueAt qs k:=by simp [valueAt,List.find?_cons,e']
   rw [valV_neg e,b]; exact ih
theorem KV.any {kvs:List (κ×V)} {vs:List (κ×Value)} (r:KV kvs vs) (k:κ):(kvs.any fun kv=>decide (kv.1=k))=vs.any fun kv=>decide (kv.1=k):=by
 unfold KV at r
 induction r with
 | nil=>rfl
 | cons h t ih=>rw [List.any_cons,List.any_cons,ih,h.1]
theorem KV.repl {kvs:List (κ×V)} {vs:List (κ×Value)} (r:KV kvs vs) (k:κ) {y:V} {u:Value} (ry:RelV y u) :
  KV (kvs.map fun kv=>if kv.1=k then (kv.1,y) else kv) (vs.map fun kv=>if kv.1=k then (kv.1,u) else kv):=by
 unfold KV at r ⊢
 induction r with
 | nil=>exact .nil
 | @cons p q ps qs h t ih=>
  rw [List.map_cons,List.map_cons]
  refine .cons ?_ ih
  obtain ⟨h1,h2⟩:=h
  by_cases e:p.1=k
  ·rw [if_pos e,if_pos (h1.symm.trans e)]; exact ⟨h1,ry⟩
  ·rw [if_neg e,if_neg (fun z=>e (h1.trans z))]; exact ⟨h1,h2⟩
theorem KV.put {kvs:List (κ×V)} {vs:List (κ×Value)} (r:KV kvs vs) (k:κ) {y:V} {u:Value} (ry:RelV y u):KV (putK kvs k y) (stored vs k u):=by
 unfold putK stored
 rw [r.any k]
 by_cases e:(vs.any fun kv=>decide (kv.1=k))=true
 ·rw [if_pos e,if_pos e]; exact r.repl k ry
 ·rw [if_neg e,if_neg e]; exact Paired.snoc r ⟨rfl,ry⟩
theorem KV.drop {kvs:List (κ×V)} {vs:List (κ×Value)} (r:KV kvs vs) (k:κ):KV (dropKv kvs k) (without vs k):=by
 unfold KV at r ⊢
 unfold dropKv without
 induction r with
 | nil=>exact .nil
 | @cons p q ps qs h t ih=>
  obtain ⟨h1,h2⟩:=h
  rw [List.filter_cons,List.filter_cons]
  by_cases e:p.1=k
  ·have a:¬ decide (p.1≠k)=true:=by simp [e]
   have b:¬ decide (q.1≠k)=true:=by simp [h1.symm.trans e]
   rw [if_neg a,if_neg b]; exact ih
  ·have e':¬ q.1=k:=fun z=>e (h1.trans z)
   have a:decide (p.1≠k)=true:=by simp [e]
   have b:decide (q.1≠k)=true:=by simp [e']
   rw [if_pos a,if_pos b]; exact .cons ⟨h1,h2⟩ ih
theorem KV.keys {kvs:List (κ×V)} {vs:List (κ×Value)} (r:KV kvs vs):kvs.map (·.1)=vs.map (·.1):=by
 unfold KV at r
 induction r with
 | nil=>rfl
 | cons h t ih=>rw [List.map_cons,List.map_cons,ih,h.1]
theorem KV.length {kvs:List (κ×V)} {vs:List (κ×Value)} (r:KV kvs vs):kvs.length=vs.length:=Paired.length r
end
theorem kV_is {P:Program} {w:World} {k:Key} {u:Value} (r:RelV (kV k) u):(mixKind P w).is k u=true:=by
 cases k with
 | inl i=>obtain ⟨t,e⟩:=(show ∃ t,u=Value.int i t from r); subst e; exact mixKind_int P w i t
 | inr x=>obtain ⟨t,e⟩:=(show ∃ t,u=Value.str x t from r); subst e; exact mixKind_str P w x t
theorem items_are {P:Program} {w:World}:∀ {ks:List Key} {us:List Value},Vals (ks.map kV) us→ItemsAre (mixKind P w) ks us
 | [],_,r=>by rw [List.map_nil] at r; cases r; exact .nil
 | k::ks,_,r=>by
  rw [List.map_cons] at r
  cases r with
  | cons h t=>exact .cons (kV_is h) (items_are t)
abbrev KT (H:Hp):List (List Key×V)→List (List Key×Addr×Value)→Prop:=Paired fun p q=>p.1=q.1∧H q.2.1=some (.tup (p.1.map kV))∧RelV p.2 q.2.2
theorem KT.val {H:Hp} {kvs:List (List Key×V)} {xs:List (List Key×Addr×Value)} (r:KT H kvs xs) (k:List Key):RelO (valV kvs k) ((atKey xs k).map (·.2)):=by
 induction r with
 | nil=>exact True.intro
 | @cons p q ps qs h t ih=>
  obtain ⟨h1,_,h2⟩:=h
  by_cases e:p.1=k
  ·have e':q.1=k:=h1.symm.trans e
   have b:atKey (q::qs) k=some q.2:=by simp [atKey,List.find?_cons,e']
   rw [valV_pos e,b]; exact h2
  ·have e':¬ q.1=k:=fun z=>e (h1.trans z)
   have b:atKey (q::qs) k=atKey qs k:=by simp [atKey,List.find?_cons,e']
   rw [valV_neg e,b]; exact ih
theorem KT.repl {H:Hp} {kvs:List (List Key×V)} {xs:List (List Key×Addr×Value)} (r:KT H kvs xs) (k:List Key) {y:V} {u:Value} (ry:RelV y u) :
  KT H (kvs.map fun kv=>if kv.1=k then (kv.1,y) else kv) (xs.map (putAt k u)):=by
 induction r with
 | nil=>exact .nil
 | @cons p q ps qs h t ih=>
  rw [List.map_cons,List.map_cons]
  refine .cons ?_ ih
  obtain ⟨h1,h2,h3⟩:=h
  unfold putAt
  by_cases e:p.1=k
  ·rw [if_pos e,if_pos (h1.symm.trans e)]; exact ⟨h1,h2,ry⟩
  ·rw [if_neg e,if_neg (fun z=>e (h1.trans z))]; exact ⟨h1,h2,h3⟩
theorem KT.put {H:Hp} {kvs:List (List Key×V)} {xs:List (List Key×Addr×Value)} (r:KT H kvs xs) (k:List Key) {b:Addr} {y:V} {u:Value} (hb:H b=some (.tup (k.map kV))) (ry:RelV y u) :
  KT H (putK kvs k y) (storedH xs k b u):=by
 have e:(kvs.any fun kv=>decide (kv.1=k))=(atKey xs k).isSome:=by
  rw [valV_any,(r.val k).isSome_eq,Option.isSome_map]
 unfold putK storedH
 rw [e]
 by_cases q:(atKey xs k).isSome=true
 ·rw [if_pos q,if_pos q]; exact r.repl k ry
 ·rw [if_neg q,if_neg q]; exact Paired.snoc r ⟨rfl,hb,ry⟩
theorem KT.keeps {H H':Hp} {kvs:List (List Key×V)} {xs:List (List Key×Addr×Value)} (r:KT H kvs xs) (ht:∀ b ys,H b=some (.tup ys)→H' b=some (.tup ys)):KT H' kvs xs:=
 Paired.mapP r fun _ _ z=>⟨z.1,ht _ _ z.2.1,z.2.2⟩
section
variable {P:Program} {w:World} {H:Hp} {h:Heap} {a:Addr}
theorem rd_of {u:HO} (ok:HOk P w H h) (e:Rd H a u):ObjOk P w H h a u:=e.ok ok
theorem dk_rd {kvs:List (Key×V)} (ok:HOk P w H h) (e:Rd H a (.dK kvs)):kvs.length≤sizeLine∧(a == sysModules)=false∧∃ vs,KV kvs vs∧h.DictOf (mixKind P w) a vs:=
 show ObjOk P w H h a (.dK kvs) from rd_of ok e
theorem dk_of {kvs:List (Key×V)} (ok:HOk P w H h) (e:H a=some (.dK kvs)):kvs.length≤sizeLine∧(a == sysModules)=false∧∃ vs,KV kvs vs∧h.DictOf (mixKind P w) a vs:=dk_rd ok (.inl e)
theorem key_of {ks:List Key} (ok:HOk P w H h) (e:H a=some (.tup (ks.map kV))):(tupleKind (mixKind P w)).is h ks a:=by
 obtain ⟨_,its,r,o,h1,h2,n,h3⟩:=(show ObjOk P w H h a (.tup (ks.map kV)) from ok a _ e)
 exact ⟨o,its.toArray,n,h1,h2,h3,by simpa using items_are r⟩
theorem dt_rd {kvs:List (List Key×V)} (ok:HOk P w H h) (e:Rd H a (.dT kvs)):kvs.length≤sizeLine∧(a == sysModules)=false ∧
  ∃ xs,KT H kvs xs∧h.DictOfH (tupleKind (mixKind P w)) a xs:=by
 obtain ⟨z,y,xs,r,o,es,ep,h1,h2,h3,h4,h5⟩:=(show ObjOk P w H h a (.dT kvs) from rd_of ok e)
 refine ⟨z,y,xs,r,o,es,ep,h1,h2,h3,h4,fun x hx=>?_,h5⟩
 have all:∀ {l:List (List Key×V)} {m:List (List Key×Addr×Value)},KT H l m→∀ x∈m,(tupleKind (mixKind P w)).is h x.1 x.2.1:=by
  intro l m q
  induction q with
  | nil=>intro x hx; exact nomatch hx
  | @cons p q ps qs hq t ih=>
   intro x hx
   rcases List.mem_cons.mp hx with e | hx
   ·subst e
    exact key_of ok (by rw [← hq.1]; exact hq.2.1)
   ·exact ih x hx
 exact all r x hx
end
def DGet (H:Hp) (a:Addr) (y:V) (r:Option V):Prop:=
 (∃ kvs k,Rd H a (.dK kvs)∧y=kV k∧r=valV kvs k)∨∃ kvs k b,Rd H a (.dT kvs)∧y=.ref b∧H b=some (.tup (k.map kV))∧r=valV kvs k
def DPut (H:Hp) (a:Addr) (y v:V) (H':Hp):Prop:=
 (∃ kvs k,H a=some (.dK kvs)∧y=kV k∧kvs.length < sizeLine∧H'=upd H a (.dK (putK kvs k v))) ∨
 ∃ kvs k b,H a=some (.dT kvs)∧y=.ref b∧H b=some (.tup (k.map kV))∧kvs.length < sizeLine∧H'=upd H a (.dT (putK kvs k v))
theorem DGet.k {H:Hp} {a:Addr} {kvs:List (Key×V)} {k:Key} (e:H a=some (.dK kvs)):DGet H a (kV k) (valV kvs k):=.inl ⟨kvs,k,.inl e,rfl,rfl⟩
theorem DGet.t {H:Hp} {a b:Addr} {kvs:List (List Key×V)} {k:List Key} (e:H a=some (.dT kvs)) (eb:H b=some (.tup (k.map kV))):DGet H a (.ref b) (valV kvs k):=.inr ⟨kvs,k,b,.inl e,rfl,eb,rfl⟩
theorem DPut.k {H:Hp} {a:Addr} {kvs:List (Key×V)} {k:Key} {v:V} (e:H a=some (.dK kvs)) (hl:kvs.length < sizeLine):DPut H a (kV k) v (upd H a (.dK (putK kvs k v))):=.inl ⟨kvs,k,e,rfl,hl,rfl⟩
theorem DPut.t {H:Hp} {a b:Addr} {kvs:List (List Key×V)} {k:List Key} {v:V} (e:H a=some (.dT kvs)) (eb:H b=some (.tup (k.map kV))) (hl:kvs.length < sizeLine) :
  DPut H a (.ref b) v (upd H a (.dT (putK kvs k v))):=.inr ⟨kvs,k,b,e,rfl,eb,hl,rfl⟩
section
variable {X:Cx} {pins:List (Addr×Obj)} {σ:St} {H:Hp} {s:Shared} {a:Addr} {y v:V} {u r:Value} {o:Option V} {A:Around} {E:Value→Shared→Prop}
theorem Inv.big (I:Inv X pins σ H s):sysModules < s.heap.objs.size:=by
 have h:mainGlobals < s.heap.objs.size:=(I.mod.glob.keeps I.bk).lt
 exact Nat.lt_trans (by decide) h
theorem d_getItem {Q:Value→Shared→Prop} (hu:A.units+1 < cLine) (I:Inv X pins σ H s) (g:DGet H a y (some v)) (ry:RelV y u) (h:∀ w' s',Inv X pins σ H s'→RelV v w'→Q w' s') :
  wpAny (model X.prog X.w) A (getItem (.ref a) u) Q E s:=by
 rcases g with ⟨kvs,k,e,ey,l⟩ | ⟨kvs,k,b,e,ey,eb,l⟩
 ·subst ey
  obtain ⟨z,hd,vs,rel,dd⟩:=dk_rd I.hok e
  obtain ⟨w',hw,rw'⟩:=RelO.some_of (v:=v) (o:=valueAt vs k) (by rw [l]; exact rel.val k)
  exact wpAny_getItem_of (kV_is ry) dd.mapOf hw (h w' _ (I.tok _) rw')
 ·subst ey
  cases (show u=Value.ref b from ry)
  obtain ⟨z,hd,xs,rel,dd⟩:=dt_rd I.hok e
  obtain ⟨w',hw,rw'⟩:=RelO.some_of (v:=v) (o:=(atKey xs k).map (·.2)) (by rw [l]; exact rel.val k)
  obtain ⟨p,hp,hp2⟩:=Option.map_eq_some_iff.mp hw
  refine wpAny_getItem_heap (tupleKind_room_in1 hu) (key_of I.hok eb) dd hp ?_
  rw [hp2]
  exact h w' _ (I.tok _) rw'
theorem d_write {h':Heap} {t':Nat} {ob:HO} (I:Inv X pins σ H s) (mu:Mut (H a)) (hs:Heap.SameBut a s.heap h') (he:∃ q,h'.get? a=some q) (new:ObjOk X.prog X.w (upd H a ob) h' a ob) :
  Inv X pins σ (upd H a ob) { s with heap:=h',toks:=t' }:=
 I.write (x:=a) (e:=a) mu (.inl rfl) (fun b q hb z=>(hs.2 b hb).trans z) he new
theorem dk_new {P:Program} {w:World} {H':Hp} {h':Heap} {kvs:List (Key×V)} {vs:List (Key×Value)} (z:kvs.length≤sizeLine) (hd:(a == sysModules)=false) (rel:KV kvs vs) (dd:h'.DictOf (mixKind P w) a vs) :
  ObjOk P w H' h' a (.dK kvs):=⟨z,hd,vs,rel,dd⟩
end
section
variable {X:Cx} {pins:List (Addr×Obj)} {σ:St} {H:Hp} {s:Shared} {a:Addr} {kvs:List (Key×V)} {k:Key} {u:Value} {A:Around} {E:Value→Shared→Prop}
end
def NoSl (i:Expr):Prop:=∀ ov iv,subscripted i false ov iv=operate [ov,iv] (getItem ov iv)
theorem subD_of {prog:Program} {w:World} {A:Around} {E:Value→Shared→Prop} {s:Shared} {env:Env} {value slice:Expr} {pos:Pos} {T id:String} {Q:Value→Shared→Prop}
  (hl:typeLookup (.type T) "__getitem__" = pure (some (.builtin id))) (hs:NoSl slice)
  (h:wpAny (model prog w) A (eval value env) (fun o s₁=>wpAny (model prog w) A (eval slice env) (fun i s₂=>s₂.TypeIs o T∧wpAny (model prog w) A (getItem o i) Q E s₂) E s₁) E s) :
  wpAny (model prog w) A (eval (.Subscript value slice pos) env) Q E s:=by
 refine Subscript_ (wpAny_mono h (fun o s₁ h₁=>wpAny_mono h₁ (fun i s₂ h₂=>?_) fun _ _ x=>x) fun _ _ x=>x)
 obtain ⟨hT,h₂⟩:=h₂
 unfold subscriptTail
 refine wpAny_bind ?_
 rw [getitemInPython_of_ne hT.not_modules]
 refine wpAny_bind (wpAny_specialOf hT hl ?_)
 have fin:wpAny (model prog w) A (subscripted slice false o i) (fun r s₃=>wpAny (model prog w) A (letTemporaryGo value o r >>= fun _=>pure r) Q E s₃) E s₂:=by
  rw [hs o i]
  exact wpAny_operating (wpAny_mono h₂ (fun r s₃ h₃=>wpAny_bind (wpAny_letTemporaryGo (wpAny_pure h₃))) fun _ _ x=>x)
 first
  | exact wpAny_pure (wpAny_bind fin)
  | exact wpAny_bind (wpAny_pure (wpAny_bind fin))
  | exact wpAny_bind fin
theorem dict_typeIs {X:Cx} {pins:List (Addr×Obj)} {σ:St} {H:Hp} {s:Shared} {a:Addr} {y:V} {o:Option V} (I:Inv X pins σ H s) (g:DGet H a y o):s.TypeIs (.ref a) "dict" := by
 rcases g with ⟨kvs,k,e,_,_⟩ | ⟨kvs,k,b,e,_,_,_⟩
 ·obtain ⟨_,_,vs,_,dd⟩:=dk_rd I.hok e
  exact dd.typeIs
 ·obtain ⟨_,_,xs,_,dd⟩:=dt_rd I.hok e
  exact dd.typeIs
def tDGet (td ty:TE):TE:=fun σ H Q=>td σ H fun x H1=>ty σ H1 fun y H2=>∃ a v,x=.ref a∧DGet H2 a y (some v)∧Q v H2
section
variable {X:Cx} {o i e value:Expr} {pos pos' tpos:Pos} {td ty tv:TE}
theorem pe_dget (hu:X.A.units+1 < cLine) (ho:PE X o td) (hi:PE X i ty) (hs:NoSl i):PE X (.Subscript o i pos) (tDGet td ty):=by
 refine .mk ?_
 intro pins s σ H Q I h
 refine subD_of PySem.F.slot_dict_getitem.lookup hs (thn (ho pins s σ H _ I h) fun u s1 ⟨x,H1,I1,rx,q1⟩=>thn (hi pins s1 σ H1 _ I1 q1) fun iv s2 ⟨y,H2,I2,ry,a,v,ex,g,q2⟩=>?_)
 subst ex
 obtain rfl:u=Value.ref a:=rx
 exact ⟨dict_typeIs I2 g,d_getItem hu I2 g ry fun w' s3 I3 rw'=>⟨v,H2,I3,rw',q2⟩⟩
end
theorem dk_empty {P:Program} {w:World} {H:Hp} (h:Heap) (hb:sysModules < h.objs.size):ObjOk P w H (h.push { cls:=.type "dict",data:=.dict #[] }) h.objs.size (.dK []):=
 ⟨Nat.zero_le _,beq_eq_false_iff_ne.mpr (Ne.symm (Nat.ne_of_lt hb)),[],.nil,Heap.DictOf.new h⟩
section
variable {X:Cx} {pos:Pos}
end
structure M1 (X:Cx) (o:Expr) (m:Str) (apos:Pos) (e:Expr) (cpos:Pos):Prop where
 base:attributeBase o m X.env (eval o X.env)=eval o X.env
 few:((backTo cpos (starEach [e] X.env)).all (fun x=>!x.1) && (backToKw cpos (keywordEach [] X.env)).all (fun x=>x.1.isSome)
  && decide (([e]:List Expr).length+([]:List Keyword).length+(if ([]:List Keyword).isEmpty then 0 else 1) < 30))=true
 line:(apos.endLine == cpos.line)=true
 trees:backTo cpos (starEach [e] X.env)=[(false,eval e X.env)]
structure M2 (X:Cx) (o:Expr) (m:Str) (apos:Pos) (e f:Expr) (cpos:Pos):Prop where
 base:attributeBase o m X.env (eval o X.env)=eval o X.env
 few:((backTo cpos (starEach [e,f] X.env)).all (fun x=>!x.1) && (backToKw cpos (keywordEach [] X.env)).all (fun x=>x.1.isSome)
  && decide (([e,f]:List Expr).length+([]:List Keyword).length+(if ([]:List Keyword).isEmpty then 0 else 1) < 30))=true
 line:(apos.endLine == cpos.line)=true
 trees:backTo cpos (starEach [e,f] X.env)=[(false,eval e X.env),(false,eval f X.env)]
section
variable {X:Cx} {pins:List (Addr×Obj)} {σ:St} {H:Hp} {s:Shared} {a:Addr} {y d:V} {u r:Value} {o:Option V} {A:Around} {E:Value→Shared→Prop}
end
section
variable {X:Cx} {o e f:Expr} {apos cpos:Pos} {td ty tx:TE}
end
section
variable {X:Cx} {pins:List (Addr×Obj)} {σ:St} {H:Hp} {s:Shared} {a:Addr} {kvs:List (Key×V)} {A:Around} {E:Value→Shared→Prop}
end
section
variable {X:Cx} {pins:List (Addr×Obj)} {σ:St} {H:Hp} {s:Shared} {a:Addr} {y:V} {u:Value} {A:Around} {E:Value→Shared→Prop}
end
end L2
namespace Att
open PySem PySem.W PySem.Calls PyProof.Rows
section
variable {prog:Program} {w:World} {A:Around} {E:Value→Shared→Prop} {s:Shared} {K:Frag}
end
end Att
namespace L2
open PySem PySem.Spec PyProof.Rows
section
variable {P:Program} {w:World} {K:PySem.W.Frag} {mg:Str→Option Value} {base:Heap}
end
section
variable {X:Cx}
end
section
variable {κ:Type} [DecidableEq κ]
end
section
variable {X:Cx} {C:Addr} {m:Str} {k j:Nat} {ps:List Str} {sp:Sp} {o e:Expr} {es:List Expr} {ta:TE} {t:TA} {apos pos:Pos} {W:St→XK}
end
end L2
namespace L3
open PySem PySem.Spec L2
open PyProof.Rows hiding St
def kT:Key→T
 | .inl i=>.int i
 | .inr z=>.str z
theorem i_key {H:Hp} {v:V} {k:Key} (h:R H v (kT k)):v=kV k:=by
 cases k with
 | inl i=>exact i_int h
 | inr z=>exact i_str h
def valT (kvs:List (Key×T)) (k:Key):Option T:=(kvs.find? fun kv=>decide (kv.1=k)).map (·.2)
def putKT (kvs:List (Key×T)) (k:Key) (v:T):List (Key×T):=
 if (kvs.any fun kv=>decide (kv.1=k))=true then kvs.map (fun kv=>if kv.1=k then (kv.1,v) else kv) else kvs++[(k,v)]
def dropKT (kvs:List (Key×T)) (k:Key):List (Key×T):=kvs.filter fun kv=>decide (kv.1≠k)
section
variable {H:Hp}
theorem Ks.len:∀ {us:List (Key×V)} {kvs:List (Key×T)},Ks H us kvs→us.length=kvs.length
 | _,_,.nil=>rfl
 | _,_,.cons a b=>by rw [List.length_cons,List.length_cons,Ks.len b]
theorem Ks.val:∀ {us:List (Key×V)} {kvs:List (Key×T)} (k:Key),Ks H us kvs→(valV us k=none∧valT kvs k=none)∨∃ v t,valV us k=some v∧valT kvs k=some t∧R H v t
 | _,_,k,.nil=>.inl ⟨rfl,rfl⟩
 | (k1,v)::us,(k2,t)::kvs,k,.cons a b=>by
  obtain ⟨e,r⟩:=a
  have e:k1=k2:=e
  subst e
  by_cases h:k1=k
  ·exact .inr ⟨v,t,valV_pos h,by simp [valT,List.find?_cons,h],r⟩
  ·rcases Ks.val k b with ⟨x,y⟩ | ⟨v',t',x,y,r'⟩
   ·exact .inl ⟨by rw [valV_neg h]; exact x,by rw [show valT ((k1,t)::kvs) k=valT kvs k by simp [valT,List.find?_cons,h]]; exact y⟩
   ·exact .inr ⟨v',t',by rw [valV_neg h]; exact x,by rw [show valT ((k1,t)::kvs) k=valT kvs k by simp [valT,List.find?_cons,h]]; exact y,r'⟩
theorem Ks.any:∀ {us:List (Key×V)} {kvs:List (Key×T)} (k:Key),Ks H us kvs→(us.any fun kv=>decide (kv.1=k))=(kvs.any fun kv=>decide (kv.1=k))
 | _,_,k,.nil=>rfl
 | (k1,v)::us,(k2,t)::kvs,k,.cons a b=>by
  obtain ⟨e,r⟩:=a
  have e:k1=k2:=e
  subst e
  rw [List.any_cons,List.any_cons,Ks.any k b]
theorem Ks.map:∀ {us:List (Key×V)} {kvs:List (Key×T)} {v:V} {t:T} (k:Key),R H v t→Ks H us kvs→Ks H (us.map fun kv=>if kv.1=k then (kv.1,v) else kv) (kvs.map fun kv=>if kv.1=k then (kv.1,t) else kv)
 | _,_,v,t,k,r,.nil=>.nil
 | (k1,v1)::us,(k2,t1)::kvs,v,t,k,r,.cons a b=>by
  obtain ⟨e,r1⟩:=a
  have e:k1=k2:=e
  subst e
  rw [List.map_cons,List.map_cons]
  by_cases h:k1=k
  ·rw [if_pos h,if_pos h]; exact .cons ⟨rfl,r⟩ (Ks.map k r b)
  ·rw [if_neg h,if_neg h]; exact .cons ⟨rfl,r1⟩ (Ks.map k r b)
theorem Ks.snoc:∀ {us:List (Key×V)} {kvs:List (Key×T)} {v:V} {t:T} (k:Key),R H v t→Ks H us kvs→Ks H (us++[(k,v)]) (kvs++[(k,t)])
 | _,_,v,t,k,r,.nil=>.cons ⟨rfl,r⟩ .nil
 | _::_,_::_,v,t,k,r,.cons a b=>.cons a (Ks.snoc k r b)
theorem Ks.put {us:List (Key×V)} {kvs:List (Key×T)} {v:V} {t:T} (k:Key) (r:R H v t) (h:Ks H us kvs):Ks H (putK us k v) (putKT kvs k t):=by
 unfold putK putKT
 rw [h.any k]
 split
 ·exact h.map k r
 ·exact h.snoc k r
theorem Ks.drop:∀ {us:List (Key×V)} {kvs:List (Key×T)} (k:Key),Ks H us kvs→Ks H (dropKv us k) (dropKT kvs k)
 | _,_,k,.nil=>.nil
 | (k1,v1)::us,(k2,t1)::kvs,k,.cons a b=>by
  obtain ⟨e,r1⟩:=a
  have e:k1=k2:=e
  subst e
  unfold dropKv dropKT
  rw [List.filter_cons,List.filter_cons]
  by_cases h:k1=k
  ·rw [if_neg (by simpa using h),if_neg (by simpa using h)]; exact Ks.drop k b
  ·rw [if_pos (by simpa using h),if_pos (by simpa using h)]; exact .cons ⟨rfl,r1⟩ (Ks.drop k b)
end
section
variable {X:Cx} {E:St→XK} {C:Addr}
def eDGet (td ty:E3):E3:=fun Y τ Γ Z=>td Y τ Γ fun x Γ1=>ty Y τ Γ1 fun y Γ2=>∃ a kvs k v,x=.ref a∧y=kT k∧Γ2 a=some (.dK kvs)∧valT kvs k=some v∧Z v Γ2
theorem qe_dget {o i:Expr} {td ty:E3} {pos:Pos} (hu:X.A.units+1 < cLine) (ho:PE X o (liE E td)) (hi:PE X i (liE E ty)) (hs:NoSl i:=by exact fun _ _=>rfl):PE X (.Subscript o i pos) (liE E (eDGet td ty)):=
 weakE3 (pe_dget hu ho hi hs) fun σ H Q τ Γ Y Z rs hr t vr xr=>by
  refine ⟨τ,Γ,Y,_,rs,hr,t,fun v x H1 Γ1 s1 h1 r1 z1=>?_,xr⟩
  refine ⟨τ,Γ1,Y,_,rs.mono s1.tq,h1,z1,fun w y H2 Γ2 s2 h2 r2 z2=>?_,xr.mono s1⟩
  obtain ⟨a,kvs,k,u,rfl,rfl,g,l,z⟩:=z2
  obtain ⟨us,hu,q⟩:=h2 a _ g
  rcases q.val k with ⟨_,y⟩ | ⟨v',t',x',y',r'⟩
  ·rw [l] at y; cases y
  rw [l] at y'; cases y'
  refine ⟨a,v',i_ref r1,?_,vr v' u H2 Γ2 (s1.trans s2) h2 r' z⟩
  rw [i_key r2,← x']
  exact DGet.k hu
end
end L3
namespace Sr
open PySem PyProof.Rows
section
variable {prog:Program} {w:World} {A:Around} {E:Value→Shared→Prop} {s:Shared} {Kk:Type} [DecidableEq Kk] {knd:KeyKind prog w Kk}
end
end Sr
namespace L2
open PySem PyProof.Rows
section
variable {X:Cx}
end
end L2
namespace L3
open PySem PySem.Spec L2
theorem Ks.keys {H:Hp}:∀ {us:List (Key×V)} {kvs:List (Key×T)},Ks H us kvs→us.map (·.1)=kvs.map (·.1)
 | _,_,.nil=>rfl
 | _,_,.cons a b=>by rw [List.map_cons,List.map_cons,a.1,Ks.keys b]
section
variable {X:Cx} {E:St→XK}
end
end L3
namespace L2
open PySem PySem.Spec PyProof.Rows PySem.W
section
variable {X:Cx} {body suite suite2:List Stmt} {b₀ b₂:Stmt} {y y2:Str} {np hpos np2 hpos2 pos:Pos} {Cy Cz:Addr} {tb:(St→XK)→TS} {ts ts2:TS}
end
end L2
namespace L3
open PySem PySem.Spec L2
section
variable {X:Cx} {E:St→XK} {body suite suite2:List Stmt} {b₀ b₂:Stmt} {y y2:Str} {np hpos np2 hpos2 pos:Pos} {Cy Cz:Addr} {tb ts ts2:C3}
end
end L3
namespace Sr
open PySem PyProof.Rows
def IsI (h:Heap) (v:Value) (i:Int):Prop:=∃ a o t rest n,v=.ref a∧h.get? a=some o∧o.cls=.type "tuple" ∧ o.data=.seq (Value.int i t::rest).toArray n
def fstI (h:Heap) (v:Value):Int:=match v with
 | .ref a=>match h.get? a with
  | some o=>match o.data with
   | .seq xs _=>match (xs[0]? : Option Value) with
    | some (Value.int i _)=>i
    | _=>0
   | _=>0
  | none=>0
 | _=>0
theorem IsI.fst {h:Heap} {v:Value} {i:Int} (x:IsI h v i):fstI h v=i:=by
 obtain ⟨a,o,t,rest,n,rfl,g,c,d⟩:=x
 unfold fstI
 simp [g,d]
theorem IsI.keep {h h':Heap} {v:Value} {i:Int} (x:IsI h v i) (k:∀ b o,h.get? b=some o→v=.ref b→h'.get? b=some o):IsI h' v i:=by
 obtain ⟨a,o,t,rest,n,rfl,g,c,d⟩:=x
 exact ⟨a,o,t,rest,n,rfl,k a o g rfl,c,d⟩
section
variable {M:Model} {prog:Program} {w:World} {A:Around} {E:Value→Shared→Prop} {s:Shared}
end
section
variable {prog:Program} {w:World} {A:Around} {E:Value→Shared→Prop} {s:Shared}
end
end Sr
namespace L2
open PySem PyProof.Rows
section
variable {X:Cx} {pins:List (Addr×Obj)} {σ:St} {H:Hp} {s:Shared}
end
end L2
namespace L3
open PySem PySem.Spec L2
section
variable {X:Cx} {E:St→XK}
end
end L3
namespace Sr
open PySem PyProof.Rows
section
variable {prog:Program} {w:World} {K:Type} [DecidableEq K] {knd:PySem.KeyKind prog w K} {A:Around} {E:Value→Shared→Prop} {s:Shared}
end
section
variable {prog:Program} {w:World} {K:Type} [DecidableEq K] {knd:PySem.KeyKind prog w K} {A:Around} {s:Shared}
def Tups (knd:PySem.KeyKind prog w K) (kvs:List (K×Value)) (h:Heap) (bs:List Addr):Prop:=bs.Nodup∧∀ (j:Nat) (b:Addr),bs[j]? = some b→∃ key k x,h.get? b=some { cls:=.type "tuple",data:=.seq #[key,x] }∧kvs[j]? = some (k,x)∧knd.is k key=true
theorem Tups.nil {kvs:List (K×Value)} {h:Heap}:Tups knd kvs h []:=⟨.nil,fun j b e=>by simp at e⟩
theorem Tups.keep {kvs:List (K×Value)} {h h':Heap} {bs:List Addr} (t:Tups knd kvs h bs) (k:∀ b o,b∈bs→h.get? b=some o→h'.get? b=some o):Tups knd kvs h' bs:=⟨t.1,fun j b e=>by
 obtain ⟨key,kk,x,g,r⟩:=t.2 j b e
 exact ⟨key,kk,x,k b _ (List.mem_of_getElem? e) g,r⟩⟩
theorem Tups.lt {kvs:List (K×Value)} {h:Heap} {bs:List Addr} (t:Tups knd kvs h bs):∀ b∈bs,b < h.objs.size:=fun b hb=>by
 obtain ⟨j,hj,e⟩:=List.getElem_of_mem hb
 obtain ⟨_,_,_,g,_⟩:=t.2 j b (by rw [List.getElem?_eq_getElem hj,e])
 exact Heap.lt_size g
theorem Tups.snoc {kvs:List (K×Value)} {h:Heap} {bs:List Addr} {T:Addr} {key x:Value} {k:K} (t:Tups knd kvs h bs) (nT:T∉bs) (g:h.get? T=some { cls:=.type "tuple",data:=.seq #[key,x] }) (e:kvs[bs.length]? = some (k,x)) (hk:knd.is k key=true):Tups knd kvs h (bs++[T]):=by
 refine ⟨?_,fun j b ej=>?_⟩
 ·rw [List.nodup_append]
  exact ⟨t.1,by simp,fun a ha b hb z=>nT (by rw [List.mem_singleton.mp hb] at z; exact z ▸ ha)⟩
 ·by_cases hj:j < bs.length
  ·rw [List.getElem?_append_left hj] at ej; exact t.2 j b ej
  ·rw [List.getElem?_append_right (by omega)] at ej
   have h0:j-bs.length=0:=by
    by_cases h0:j-bs.length=0
    ·exact h0
    ·rw [List.getElem?_eq_none (by simp; omega)] at ej; cases ej
   have ej2:j=bs.length:=by omega
   subst ej2
   simp at ej
   subst ej
   exact ⟨key,k,x,g,e,hk⟩
end
end Sr
namespace Sr
end Sr
namespace L2
open PySem PyProof.Rows
section
variable {X:Cx} {pins:List (Addr×Obj)} {σ:St} {H:Hp} {s:Shared}
end
end L2
namespace L3
open PySem PySem.Spec L2
section
variable {X:Cx} {E:St→XK}
end
end L3
namespace L2
open PySem PySem.Spec PyProof.Rows
section
variable {prog:Program} {w:World} {A:Around} {E:Value→Shared→Prop} {s:Shared}
end
section
variable {X:Cx} {elts:List Expr} {kk:Nat} {tpos:Pos}
end
end L2
namespace L3
open PySem PySem.Spec L2
open PyProof.Rows hiding St
section
variable {X:Cx} {E:St→XK} {p pos:Pos}
end
end L3
namespace L2
open PySem PySem.Spec PyProof.Rows PySem.W
section
variable {X:Cx} {body:List Stmt} {pos:Pos} {tb:(St→XK)→TS} {hs:List ExceptHandler} {cs:List (Addr×TS)}
end
end L2
namespace L3
open PySem PySem.Spec L2
section
variable {X:Cx} {E:St→XK} {body:List Stmt} {pos:Pos} {tb:C3} {hs:List ExceptHandler}
end
end L3
namespace Sr
open PySem PyProof.Rows
section
variable {prog:Program} {w:World} {A:Around} {E:Value→Shared→Prop} {s:Shared} {Kk:Type} [DecidableEq Kk] {knd:PySem.KeyKind prog w Kk}
end
end Sr
namespace L2
open PySem PyProof.Rows
section
variable {X:Cx}
end
end L2
namespace L3
open PySem PySem.Spec L2
section
variable {X:Cx} {E:St→XK}
end
end L3
namespace L2
open PySem PySem.Spec PyProof.Rows
end L2
namespace L3
open PySem PySem.Spec L2
section
variable {X:Cx} {E:St→XK} {pos tpos:Pos}
end
end L3
namespace L2
open PySem PySem.Spec PyProof.Rows
def fstS (H:Hp):V→Str
 | .ref a=>match H a with
  | some (.tup (.str z::_))=>z
  | _ => ""
 | _ => ""
def fstW (H:Hp):Value→Str
 | .ref a=>fstS H (.ref a)
 | _ => ""
theorem fstS_at {H:Hp} {a:Addr} {z:Str} {r:List V} (h:H a=some (.tup (.str z::r))):fstS H (.ref a)=z:=by
 show (match H a with | some (.tup (.str z::_))=>z | _ => "")=z
 rw [h]
def FstT (H:Hp) (y:V):Prop:=∃ a z r,y=.ref a∧H a=some (.tup (.str z::r))
theorem fst_vals {H:Hp}:∀ {ys:List V} {us:List Value},Vals ys us→(∀ y∈ys,FstT H y)→us.map (fstW H)=ys.map (fstS H)
 | _,_,.nil,_=>rfl
 | _,_,.cons (a:=y) r h,hy=>by
  obtain ⟨a,z,rr,rfl,e⟩:=hy y (by simp)
  cases r
  rw [List.map_cons,List.map_cons,fst_vals h fun y hm=>hy y (by simp [hm])]
  rfl
section
variable {X:Cx} {H:Hp} {f P c:Addr} {q x:Str} {params:Arguments} {scope:Scope} {p1 p2 p3:Pos} {j:Nat}
theorem lam_key (hr:Room 4 X.A) (L:LamH H f q params (.Subscript (.Name x p1) (.Constant (.int 0) j p2) p3) scope) (S:FnScope [x] [x] scope) (hx:scope.names.lookup x=some .local)
  (hb:∀ (pm ctv u:Value) (c':Addr),bindArgs (PySem.W.kla_fn "<lambda>" q params (.Subscript (.Name x p1) (.Constant (.int 0) j p2) p3) scope [] pm (.ref c') ctv) ⟨[u],[]⟩=pure [(x,u)])
  (hd:(x == ("__debug__" : Str))=false) (hcd:(x == ("__classdict__" : Str))=false) {b:Addr} {z:Str} {r:List V} (e:H b=some (.tup (.str z::r))):KeyF X H X.A.in1.in1 (.ref f) (.ref b) z:=by
 intro pins σ s I
 obtain ⟨c',oc,vs,t,u,pm,ctv,h1,h2,h3,h4⟩:=L.ex
 have ho:s.heap.get? f=some (PySem.W.kla_obj "<lambda>" q params (.Subscript (.Name x p1) (.Constant (.int 0) j p2) p3) scope [] pm c' ctv):=(I.hok f _ h1).1
 have hc:s.heap.CodeRec (.ref c') q:=⟨c',oc,vs,t,rfl,(I.hok c' _ h2).1,h3,h4⟩
 have hr2:Room 2 X.A.in1.in1:=hr.in1.in1
 refine wpAny_call (codeAny_mono (lam_code (ps:=[x]) (N:=[x]) (us:=[.ref b]) (vs:=[.ref b]) (Q:=fun v H'=>v=.str z∧H'=H) hr2 I.env0.in1.in1 ho hc (hb pm ctv (.ref b) c') S (.cons rfl .nil) rfl
  (pe_ix ix_tup (pe_var (i:=0) rfl (Or.inl hx) hd hcd) pe_int (fun _ _=>rfl)) ?_) fun res s' hq=>?_)
 ·exact ⟨_,rfl,b,_,0,.str z,rfl,rfl,SqT.of e,atI_nat (j:=0) rfl,rfl,rfl⟩
 ·cases res with
  | error e=>exact hq.elim
  | ok fl=>
   cases fl with
   | next=>exact False.elim hq
   | brk=>exact False.elim hq
   | cont=>exact False.elim hq
   | ret u=>
    obtain ⟨v,H',os,bare,un,hok,rv,rfl,rfl⟩:=hq
    obtain ⟨t,rfl⟩:=rv
    exact ⟨⟨t,rfl⟩,un,hok,bare,os⟩
theorem Mid.list {pins:List (Addr×Obj)} {σ:St} {s s':Shared} {a:Addr} {out:List Value} {n:Nat} {xs:List V} (m:Mid X H s s') (I:Inv X pins σ H s) (ha:s.heap.objs.size≤a) (e:s'.heap.get? a=some (seqObj "list" out.toArray n)) (rv:Vals xs out) (hz:xs.length≤sizeLine) :
  Inv X pins σ (L2.upd H a (.lst xs)) s':=by
 have na:H a=none:=I.hok.fresh ha
 have ne:∀ b o,s.heap.get? b=some o→b≠a:=fun b o e=>Nat.ne_of_lt (Nat.lt_of_lt_of_le (Heap.lt_size e) ha)
 obtain ⟨h,g,d,t,os⟩:=s'
 obtain ⟨un,hok,bare,eo⟩:=m
 cases eo
 refine I.call (h':=h) (g':=g) (d':=d) (t':=t) (ch:=[]) ⟨un.keep,un.slot,fun b o q n hx=>?_,un.there,fun b ys q=>?_,fun b o u q=>?_,fun b ps q=>?_⟩ (fun b u q=>?_) bare (fun b z=>absurd z (by simp))
 ·rw [upd_ne (ne b o q)]; exact un.free b o q n hx
 ·rw [upd_ne (ne_of_none q na)]; exact q
 ·rw [upd_ne (ne_of_none q na)]; exact q
 ·exact ⟨#[],by rw [upd_ne (ne_of_none q na),q]; simp⟩
 ·by_cases z:b=a
  ·subst z; rw [upd_same] at q; cases q
   exact ⟨hz,out,n,rv,e⟩
  ·rw [upd_ne z] at q
   exact (hok b u q).stay (fun _ _ _ k=>k) (fun b' k=>by rw [upd_ne (ne_of_none k na)]; exact k) fun b' ys k=>by rw [upd_ne (ne_of_none k na)]; exact k
theorem vals_ref:∀ {ys:List V} {us:List Value} {i:Nat} {v:Value},Vals ys us→us[i]? = some v→∃ y,ys[i]? = some y∧RelV y v
 | _,_,i,v,.nil,h=>by simp at h
 | _,_,0,v,.cons (a:=y) r h,e=>by cases e; exact ⟨y,rfl,r⟩
 | _,_,i+1,v,.cons r h,e=>vals_ref (i:=i) h e
theorem pe_sortLam {e:Expr} {ta:TA} {p lpos kpos pos:Pos} (hr:Room 4 X.A) (hg:Gl X "sorted") (hm:X.mg "sorted" = none) (ha:PA X [e] ta)
  (hq:X.env.qual ++ "<lambda>" = q) (hcode:X.env.code=.ref c) (hC:PySem.W.codeHdIn X.K c P=true) (hB:BAt X.mg X.base P) (S:FnScope [x] [x] scope) (hx:scope.names.lookup x=some .local)
  (hb:∀ (pm ctv u:Value) (c':Addr),bindArgs (PySem.W.kla_fn "<lambda>" q params (.Subscript (.Name x p1) (.Constant (.int 0) j p2) p3) scope [] pm (.ref c') ctv) ⟨[u],[]⟩=pure [(x,u)])
  (hd:(x == ("__debug__" : Str))=false:=by decide) (hcd:(x == ("__classdict__" : Str))=false:=by decide)
  (hdef:defaultsOf params X.env=([],[]):=by rfl) (hcl:closureFor scope X.env=pure []:=by rfl)
  (he:backTo pos (starEach [e] X.env)=(false,eval e X.env)::backTo pos (starEach [] X.env):=by rfl) (hpl:(backTo pos (starEach [e] X.env)).any (·.1)=false:=by rfl) :
  PE X (.Call (.Name "sorted" p) [e] [⟨some "key",.Lambda params (.Subscript (.Name x p1) (.Constant (.int 0) j p2) p3) scope lpos,kpos⟩] pos)
   (fun σ H Q=>ta σ H fun xs H1=>∃ (l:Addr) (ys:List V),xs=[.ref l]∧H1 l=some (.tup ys)∧ys.length < 64∧(∀ y∈ys,FstT H1 y)∧LamT H1 P q lpos ∧
    ∀ (H2:Hp) (a:Addr) (zs:List V),(∀ b o,b≠P→H1 b=some o→H2 b=some o)→LamT H2 P q lpos→H2 a=none→zs.Perm ys→(zs.map (fstS H1)).Pairwise (fun u v=>¬ v.cps.toList < u.cps.toList)→Q (.ref a) (upd H2 a (.lst zs))):=by
 refine .mk ?_
 intro pins s σ H Q I h
 refine wpAny_Call_Name_kw (ld_blt I hg hm boot_sorted ?_ (by decide) (by decide))
 refine callWith_kw (e:=e) (rest:=[]) ?_ he hpl rfl rfl
 refine thn (ha pos pins s σ H _ I h) fun us s1 ⟨vs,H1,I1,r1,q1⟩=>?_
 obtain ⟨l,ys,rfl,hl,h64,hy,lt,k⟩:=q1
 obtain ⟨u,rfl,ru⟩:=vals1 r1
 cases ru
 refine thn ((pk_cons (pe_lam (pos:=lpos) hq hcode hC hB hdef hcl) pk_nil) pos pins s1 σ H1 (fun zs H2=>∃ f,zs=[.ref f]∧(∀ b o,b≠P→H1 b=some o→H2 b=some o)∧LamT H2 P q lpos∧LamH H2 f q params (.Subscript (.Name x p1) (.Constant (.int 0) j p2) p3) scope) I1
  ⟨lt,fun f H2 _ kp lt2 _ lh=>⟨f,rfl,kp,lt2,lh⟩⟩) fun ws s2 ⟨zs,H2,I2,r2,f,ez,kp,lt2,lh⟩=>?_
 subst ez
 have nP:∀ b ys,H1 b=some (.tup ys)→b≠P:=fun b ys q z=>by
  rw [z] at q
  rcases lt with w | ⟨_,_,_,_,_,w,_⟩
  ·rw [w] at q; cases q
  ·rw [w] at q; cases q
 have tp:∀ b ys,H1 b=some (.tup ys)→H2 b=some (.tup ys):=fun b ys q=>kp b _ (nP b ys q) q
 have hy2:∀ y∈ys,FstT H2 y:=fun y m=>by
  obtain ⟨a,z,r,e1,e2⟩:=hy y m
  exact ⟨a,z,r,e1,tp _ _ e2⟩
 obtain ⟨its,rv,⟨o,ho,hc,n,hd2⟩,hz⟩:=I2.tuple (SqT.of (K:=X.K) (tp _ _ hl))
 have ll:=rv.length
 have fin:wpAny (model X.prog X.w) X.A (call (.builtin "sorted") [.ref l] [(Str.ofString "key",.ref f)]) (EP X pins σ Q) X.xe s2:=by
  refine call_sortKey (zs:=its.map (fstW H2)) I2 ho hc hd2 (by rw [List.length_map]) (by omega) (fun i v z hv hz2=>?_) fun s0 s' a out cc I0 ge m ea ob=>?_
  ·obtain ⟨y,ey,ry⟩:=vals_ref rv hv
   obtain ⟨b,z',r,rfl,eb⟩:=hy2 y (List.mem_of_getElem? ey)
   cases ry
   rw [List.getElem?_map,hv] at hz2
   have hz3:some (fstW H2 (.ref b))=some z:=hz2
   have:z=z':=by
    cases hz3
    exact fstS_at eb
   subst this
   exact lam_key hr lh S hx hb hd hcd eb
  ·obtain ⟨qs,pq,eo,pw⟩:=ob
   have key:∀ q∈qs,q.1=fstW H2 q.2:=fun q hq=>by
    have hm:=pq.mem_iff.mp hq
    obtain ⟨i,hi⟩:=List.mem_iff_getElem?.mp hm
    rw [List.getElem?_zip_eq_some,List.getElem?_map] at hi
    obtain ⟨h1,h2⟩:=hi
    rw [h2] at h1
    exact (Option.some.inj h1).symm
   have po:out.toList.Perm its:=by
    rw [eo]
    have:=pq.map (·.2)
    rw [List.map_snd_zip (by rw [List.length_map]; exact Nat.le_refl _)] at this
    exact this
   obtain ⟨zs,pz,hvz⟩:=vals_perm po rv
   have hs:(zs.map (fstS H1)).Pairwise (fun u v=>¬ v.cps.toList < u.cps.toList):=by
    have e1:zs.map (fstS H1)=zs.map (fstS H2):=List.map_congr_left fun y m=>by
     obtain ⟨a,z,r,rfl,e2⟩:=hy y (pz.mem_iff.mp m)
     rw [fstS_at e2,fstS_at (tp _ _ e2)]
    rw [e1,← fst_vals hvz (fun y m=>hy2 y (pz.mem_iff.mp m)),eo,List.map_map,List.pairwise_map]
    refine pw.imp_of_mem fun {a b} ma mb hab=>?_
    show ¬ (fstW H2 b.2).cps.toList < (fstW H2 a.2).cps.toList
    rw [← key a ma,← key b mb]
    exact hab
   exact ⟨.ref a,_,m.list I0 ge (out:=out.toList) (n:=cc) (by simpa using ea) hvz (by rw [pz.length_eq]; exact hz),rfl,k H2 a zs kp lt2 (I0.hok.fresh ge) pz hs⟩
 cases r2 with
 | cons r3 r4=>cases r4; cases r3; exact fin
end
end L2
namespace L3
open PySem PySem.Spec L2
def fdT (g:Str×T):T:=.tup [.str g.1,g.2]
theorem rs_fst {H:Hp}:∀ {gs:List (Str×T)} {vs:List V},Rs H vs (gs.map fdT)→vs.map (fstS H)=gs.map (·.1)∧∀ y∈vs,FstT H y
 | [],vs,h=>by rw [rs_inv0 h]; exact ⟨rfl,fun _ h=>(nomatch h)⟩
 | g::gs,vs,h=>by
  obtain ⟨v,ws,rfl,a,b⟩:=rs_inv h
  obtain ⟨p,us,rfl,hp,q⟩:=i_tup a
  obtain ⟨w,us',rfl,r1,_⟩:=rs_inv q
  rw [i_str r1] at hp
  obtain ⟨k1,k2⟩:=rs_fst b
  refine ⟨by rw [List.map_cons,List.map_cons,k1,fstS_at hp],fun y hy=>?_⟩
  rcases List.mem_cons.mp hy with rfl | hy
  ·exact ⟨p,_,_,rfl,hp⟩
  ·exact k2 y hy
abbrev Up (ss:List Str):Prop:=ss.Pairwise fun u v=>¬ v.cps.toList < u.cps.toList
def eSortLam (P:Addr) (q:Str) (lpos:Pos) (t:A3):E3:=fun Y τ Γ Z=>t Y τ Γ fun xs Γ1=>∃ gs:List (Str×T),xs=[.tup (gs.map fdT)]∧gs.length < 64∧Γ1 P=some (.lam q lpos) ∧
 ∀ (hs:List (Str×T)) (a:Addr),hs.Perm gs→Up (hs.map (·.1))→Γ1 a=none→Z (.ref a) (up Γ1 a (.lst (hs.map fdT)))
section
variable {X:Cx} {E:St→XK} {P c:Addr} {q x:Str} {params:Arguments} {scope:Scope} {p1 p2 p3 p lpos kpos pos:Pos} {j:Nat} {e:Expr} {t:A3}
theorem qe_sortLam (hr:Room 4 X.A) (hg:Gl X "sorted") (hm:X.mg "sorted" = none) (ha:PA X [e] (liA E t))
  (hq:X.env.qual ++ "<lambda>" = q) (hcode:X.env.code=.ref c) (hC:PySem.W.codeHdIn X.K c P=true) (hB:BAt X.mg X.base P) (S:FnScope [x] [x] scope) (hx:scope.names.lookup x=some .local)
  (hb:∀ (pm ctv u:Value) (c':Addr),bindArgs (PySem.W.kla_fn "<lambda>" q params (.Subscript (.Name x p1) (.Constant (.int 0) j p2) p3) scope [] pm (.ref c') ctv) ⟨[u],[]⟩=pure [(x,u)])
  (hd:(x == ("__debug__" : Str))=false:=by decide) (hcd:(x == ("__classdict__" : Str))=false:=by decide)
  (hdef:defaultsOf params X.env=([],[]):=by rfl) (hcl:closureFor scope X.env=pure []:=by rfl)
  (he:backTo pos (starEach [e] X.env)=(false,eval e X.env)::backTo pos (starEach [] X.env):=by rfl) (hpl:(backTo pos (starEach [e] X.env)).any (·.1)=false:=by rfl) :
  PE X (.Call (.Name "sorted" p) [e] [⟨some "key",.Lambda params (.Subscript (.Name x p1) (.Constant (.int 0) j p2) p3) scope lpos,kpos⟩] pos) (liE E (eSortLam P q lpos t)):=
 weakE3 (pe_sortLam hr hg hm ha hq hcode hC hB S hx hb hd hcd hdef hcl he hpl) fun σ H Q τ Γ Y Z rs hr t vr xr=>by
  refine ⟨τ,Γ,Y,_,rs,hr,t,fun vs xs H1 Γ1 s1 h1 r1 z1=>?_,xr⟩
  obtain ⟨gs,rfl,h64,gl,z⟩:=z1
  obtain ⟨v,rfl,a⟩:=rs1 r1
  obtain ⟨l,ys,rfl,hl,rq⟩:=i_tup a
  refine ⟨l,ys,rfl,hl,by rw [rq.length,List.length_map]; exact h64,(rs_fst rq).2,h1 P _ gl,fun H2 b zs kp lt2 nb pz hs=>?_⟩
  obtain ⟨ms,pm,hm⟩:=rs_perm pz rq
  rw [(rs_fst hm).1] at hs
  have P1:∃ u,H1 P=some u∧(∀ vs:List V,u≠.tup vs)∧∀ b w,u≠.frz b w:=(h1 P _ gl).some
  obtain ⟨u1,e1,n1,n2⟩:=P1
  have tq:Tq H1 H2:=⟨fun b ys e=>kp b _ (fun w=>by rw [w,e1] at e; cases e; exact n1 _ rfl) e,fun b o u e=>kp b _ (fun w=>by rw [w,e1] at e; cases e; exact n2 _ _ rfl) e⟩
  have nP:∀ b,Γ1 b=none→b≠P:=fun b g w=>by rw [w,gl] at g; cases g
  have P2:H2 P≠none:=fun w=>by
   rcases lt2 with k | ⟨_,_,_,_,_,k,_⟩
   ·rw [k] at w; cases w
   ·rw [k] at w; cases w
  have dm:∀ b,H1 b≠none→H2 b≠none:=fun b n w=>by
   by_cases e:b=P
   ·rw [e] at w; exact P2 w
   ·cases e3:H1 b with
    | none=>exact n e3
    | some o=>rw [kp b o e e3] at w; cases w
  have st:Stp H1 Γ1 H2 Γ1:=⟨tq,dm,fun _ _ g=>g,fun b o e g=>kp b o (nP b g) e⟩
  have h2:HR H2 Γ1:=fun b o g=>by
   by_cases e:b=P
   ·subst e; rw [gl] at g; cases g; exact lt2
   ·exact (h1 b o g).mono tq fun u k=>kp b u e k
  have k:=keep_new (o:=.lst zs) nb
  exact vr _ _ _ _ (s1.trans (st.trans (.make nb))) (h2.make (o3:=.lst (ms.map fdT)) nb ⟨_,upd_same,(hm.mono tq).mono (tq_kp k)⟩) r_ref (z ms b pm hs (h2.free nb))
end
end L3
namespace L2
open PySem PySem.Spec PyProof.Rows
def OnlyL (P:Addr) (H:Hp):Prop:=H P=some (.tbl #[])∧∀ b,b≠P→H b=none∨∃ o xs,H b=some (.frz o (.lst xs))
def BMod (mg:Str→Option Value) (h:Heap):Prop:=∃ bm ob,mg "__builtins__" = some (.ref bm)∧bm≠builtinsNs∧h.get? bm=some ob∧ob.cls=.type "module" ∧ ob.dict=some builtinsNs∧ob.data=.plain
theorem law_callL {Pr:Program} {w:World} {K:PySem.W.Frag} {mg mb:Str→Option Value} {CX:CXT} {k:Nat} {fa a c P:Addr} {fd:FuncData} {x:Str} {sp:Sp} {s₁:Shared} {vs:List Value} {ns:List Int}
  (KX:K.In s₁.heap) (hns:s₁.heap.Ns mainGlobals mg) (hb:s₁.heap.Ns builtinsNs mb) (hbb:∀ x:Str,x ≠ "__name__" → mb x=bootBuiltins x) (hlim:s₁.heap.NoLimit) (hg:s₁.gens=#[]) (hbm:BMod mg s₁.heap)
  (hC:PySem.W.CodeHd s₁.heap c P) (hP:s₁.heap.get? P=some (PySem.W.tabObj #[])) (hKP:K.lookup P=none)
  (ha:s₁.heap.get? a=some { cls:=.type "list",data:=.seq vs.toArray }) (hi:IntsAre vs ns) (hl:ns.length≤sizeLine) (hr:Room k callerA)
  (F:∀ base:Heap,K.In base→base.Ns mainGlobals mg→BAt mg base P→FnOk Pr w K mg base CX k fa fd [x] sp) (hbind:∀ (s:Shared) (u:Value),BindsTo s fd ⟨[u],[]⟩ [(x,u)])
  (hsp:∀ H:Hp,OnlyL P H→SqL K H a (ns.map V.int)→sp [.ref a] H (fun v _=>v=.bl true) fun _ _ _=>False)
  (hCX:∀ H e s',CX [] H s₁ (fun _ _ _=>False) e s'→False) :
  codeAny (model Pr w) callerA (.call (.ref fa) ⟨[.ref a],[]⟩) (fun r s'=>r=.ok (.ret (.bool true))∧OldK s₁.heap s'.heap∧s'.os=s₁.os∧AllBare s'.gens) s₁:=by
 have rv:=vals_ints hi
 have lenV:=hi.length
 have aP:a≠P:=fun z=>by rw [z,hP] at ha; cases ha
 have core:∀ H:Hp,OnlyL P H→SqL K H a (ns.map V.int)→HOk Pr w H s₁.heap→(∀ b,H b≠none→b=a∨b=P)→(H a≠none→K.lookup a=none) →
   codeAny (model Pr w) callerA (.call (.ref fa) ⟨[.ref a],[]⟩) (fun r s'=>r=.ok (.ret (.bool true))∧OldK s₁.heap s'.heap∧s'.os=s₁.os∧AllBare s'.gens) s₁:=by
  intro H hO hS hok hA hK
  have dat:∀ {b:Addr} {o:Obj},s₁.heap.get? b=some o→(∀ xs n,o.data≠.seq xs n)→(∀ xs,o.data≠.fields xs)→H b=none:=fun {b o} e d1 d2=>by
   cases q:H b with
   | none=>rfl
   | some u=>
    rcases hA b (by rw [q]; simp) with z | z
    ·subst z; rw [ha] at e; cases e; exact absurd rfl (d1 _ _)
    ·subst z; rw [hP] at e; cases e; exact absurd rfl (d2 _)
  have nsK:∀ {b:Addr} {m:Str→Option Value},s₁.heap.Ns b m→(hidT s₁.heap H).Ns b m:=fun {b m} ⟨o,es,ep,e,d,r⟩=>⟨o,es,ep,hidT_get e (dat e (fun _ _ z=>by rw [d] at z; cases z) (fun _ z=>by rw [d] at z; cases z)),d,r⟩
  have hKb:K.In (hidT s₁.heap H):=fun b o e=>hidT_get (KX b o e) (by
   cases q:H b with
   | none=>rfl
   | some u=>
    rcases hA b (by rw [q]; simp) with z | z
    ·subst z; rw [hK (by rw [q]; simp)] at e; cases e
    ·subst z; rw [hKP] at e; cases e)
  have hM:Mod K mg (hidT s₁.heap H):=⟨hKb,nsK hns,⟨mb,nsK hb,hbb⟩,let ⟨mc,h1,h2⟩:=hlim; ⟨mc,nsK h1,h2⟩⟩
  have hB:BAt mg (hidT s₁.heap H) P:=by
   obtain ⟨bm,ob,b1,b2,b3,b4,b5,b6⟩:=hbm
   refine ⟨bm,ob,b1,b2,fun z=>?_,fun z=>?_,hidT_get b3 (dat b3 (fun _ _ z=>by rw [b6] at z; cases z) (fun _ z=>by rw [b6] at z; cases z)),b4,b5,b6⟩
   ·obtain ⟨o,es,ep,e,d,_⟩:=hns
    rw [z,e] at b3; cases b3; rw [b6] at d; cases d
   ·rw [z,hP] at b3; cases b3; cases b6
  have e0:Env0 Pr w K mg (hidT s₁.heap H) callerA [] s₁ H:=⟨rfl,hM,fun b o e=>of_hidT e,Nat.le_of_eq (hidT_size _ _),trivial,fun b hb=>absurd (show b∈([]:List Addr) from hb) (by simp),hok,.of_eq hg⟩
  refine codeAny_mono ((F _ hKb (nsK hns) hB).run callerA [] s₁ H ⟨[.ref a],[]⟩ [.ref a] [.ref a] _ _ hr e0 (hbind s₁ (.ref a)) (.cons rfl .nil) (hsp H hO hS)) fun r s' h=>?_
  cases r with
  | error e=>exact (hCX H e s' h).elim
  | ok fl=>
   cases fl with
   | next=>exact False.elim h
   | brk=>exact False.elim h
   | cont=>exact False.elim h
   | ret u=>
    obtain ⟨v,H',os,bare,un,hok',r',q⟩:=h
    have q':v=.bl true:=q
    subst q'
    obtain rfl:u=Value.bool true:=r'
    have same:∀ b o,b≠P→s₁.heap.get? b=some o→s'.heap.get? b=some o:=fun b o hne e=>by
     cases q:H b with
     | none=>exact un.keep b o e q (by intro z; exact absurd (show b∈([]:List Addr) from z) (by simp)) (by simp)
     | some u=>
      rcases hO.2 b hne with z | ⟨ob,xs,z⟩
      ·rw [q] at z; cases z
      ·have z2:=un.frzs b ob _ z
       have e1:=(hok b _ z).1
       have e2:=(hok' b _ z2).1
       rw [e] at e1; cases e1
       exact e2
    obtain ⟨more,hm⟩:=un.tbls P #[] hO.1
    have tab:s'.heap.get? P=some (PySem.W.tabObj (#[]++more)):=hok' P _ hm
    refine ⟨rfl,⟨fun b o e=>?_,fun b o e=>?_⟩,os,bare⟩
    ·by_cases z:b=P
     ·subst z
      rw [hP] at e; cases e
      exact .inr (.inl ⟨(hC.tab hP).isCodeTable,rfl,#[],more,rfl,tab⟩)
     ·exact .inl (same b o z e)
    ·by_cases z:b=P
     ·subst z; exact ⟨_,tab⟩
     ·exact ⟨o,same b o z e⟩
 cases hk:K.lookup a with
 | some o=>
  have e:=KX a o hk
  rw [ha] at e
  cases e
  refine core (fun b=>if b=P then some (.tbl #[]) else none) ⟨if_pos rfl,fun b hb=>.inl (if_neg hb)⟩ (.inr ⟨_,vs.toArray,_,hk,rfl,rfl,rfl,by rw [List.size_toArray,lenV]; exact hl,by simpa using rv⟩) (fun b u z=>?_) (fun b z=>?_) fun z=>absurd (if_neg aP) z
  ·by_cases hb:b=P
   ·have z':=(if_pos hb).symm.trans z
    cases z'
    subst hb
    exact hP
   ·have z':=(if_neg hb).symm.trans z
    cases z'
  ·by_cases hb:b=P
   ·exact .inr hb
   ·exact absurd (if_neg hb) z
 | none=>
  have at_:∀ b,b≠a→b≠P→(if b=P then some (.tbl #[]) else if b=a then some (.frz { cls:=.type "list",data:=.seq vs.toArray } (.lst (ns.map V.int))) else none:Option HO)=none:=fun b h1 h2=>by rw [if_neg h2,if_neg h1]
  have ata:(if a=P then some (.tbl #[]) else if a=a then some (.frz { cls:=.type "list",data:=.seq vs.toArray } (.lst (ns.map V.int))) else none:Option HO)=some (.frz { cls:=.type "list",data:=.seq vs.toArray } (.lst (ns.map V.int))):=by rw [if_neg aP,if_pos rfl]
  refine core (fun b=>if b=P then some (.tbl #[]) else if b=a then some (.frz { cls:=.type "list",data:=.seq vs.toArray } (.lst (ns.map V.int))) else none) ⟨if_pos rfl,fun b hb=>?_⟩ (.inl (.inr ⟨{ cls:=.type "list",data:=.seq vs.toArray },ata⟩)) (fun b u z=>?_) (fun b z=>?_) fun _=>hk
  ·by_cases h1:b=a
   ·subst h1; exact .inr ⟨_,_,ata⟩
   ·exact .inl (at_ b h1 hb)
  ·by_cases hb:b=P
   ·subst hb
    have z':=(if_pos rfl).symm.trans z
    cases z'
    exact hP
   ·by_cases h1:b=a
    ·subst h1
     have z':=ata.symm.trans z
     cases z'
     exact ⟨ha,by rw [List.length_map]; exact hl,vs,_,rv,ha⟩
    ·have z':=(at_ b h1 hb).symm.trans z
     cases z'
  ·by_cases hb:b=P
   ·exact .inr hb
   ·by_cases h1:b=a
    ·exact .inl h1
    ·exact absurd (at_ b h1 hb) z
theorem walk_ofL {l:PySem.W.OpenLaw} {n k:Nat} {q:Program} {loose:List Str} {XP:(Str→Option Value)→Heap→Prop} {YP:World→Heap→Prop} {d:DefRec} {K:Params→PySem.W.Frag} {CX:World→CXT} {sp:World→Sp} {x:Str} {c P:Addr}
  (hn:l.most=some n) (hn2:n≤sizeLine) (hdf:d.params.defaults=[]) (hr:Room k callerA)
  (hY:∀ (w:World) (h:Heap),YP w h→(K w.params).In h) (hT:∀ (w:World) (h:Heap),YP w h→h.get? P=some (PySem.W.tabObj #[])) (hC:∀ w:World,PySem.W.codeHdIn (K w.params) c P=true) (hKP:∀ w:World,(K w.params).lookup P=none)
  (F:∀ (w:World) (mg:Str→Option Value) (fa:Addr) (h:Heap),(K w.params).In h→h.Ns mainGlobals mg→mg d.name=some (.ref fa) →
   ∃ fd:FuncData,(∀ (s:Shared) (u:Value),BindsTo s fd ⟨[u],[]⟩ [(x,u)]) ∧
    ∀ base:Heap,(K w.params).In base→base.Ns mainGlobals mg→BAt mg base P→FnOk l.prog w (K w.params) mg base (CX w) k fa fd [x] (sp w))
  (hsp:∀ (w:World) (H:Hp) (a:Addr) (ns:List Int),ns.length≤n→OnlyL P H→SqL (K w.params) H a (ns.map V.int)→sp w [.ref a] H (fun v _=>v=.bl true) fun _ _ _=>False)
  (hCX:∀ (w:World) (H:Hp) (s:Shared) (e:Value) (s':Shared),CX w [] H s (fun _ _ _=>False) e s'→False) :
  PySem.W.WalkO q loose XP YP l.row.toRowW d [] (fun f vs=>PySem.call f vs):=by
 refine Att.attach_call hn hdf fun w s₀ s₁ mg mb fa o pm cd doc a vs ns G Y ho hd hcd hmg hobj hints hlen hg=>?_
 have KX:=hY w _ Y
 obtain ⟨fd,hb,hF⟩:=F w mg fa _ KX G.T.g hmg
 exact law_callL KX G.T.g G.T.b G.T.builtins G.T.nolimit hg G.T.bmain (PySem.W.codeHd_of_K KX (hC w)) (hT w _ Y) (hKP w) hobj hints (Nat.le_trans hlen hn2) hr hF hb (fun H hO hS=>hsp w H a ns hlen hO hS) fun H e s'=>hCX w H s₁ e s'
theorem compLoop_dict {prog:Program} {w:World} {A:Around} {R:Result→Shared→Prop} {s:Shared} {kx vx target iter:Expr} {scope:Scope} {pos:Pos} {it:Value} {D:Addr} {env:Env} (I:Nat→Shared→Prop)
  (turn:∀ n s,I n s→wpAny (model prog w) A (pyNext it) (fun r s₁=>match r with
   | none=>R (.ok .next) s₁
   | some v=>wpAny (model prog w) A (letOwnedTupleGo target it v) (fun _ s₁'=>wpAny (model prog w) A (assign target env v) (fun _ s₂=>
      wpAny (model prog w) A (eval kx env) (fun kv s₃=>wpAny (model prog w) A (eval vx env) (fun vv s₄=>
       wpAny (model prog w) A (dictSet D kv vv) (fun _ s₅=>∃ m,m < n∧I m s₅) (notedBy (model prog w) A env fun e s'=>R (.error e) s') s₄) (notedBy (model prog w) A env fun e s'=>R (.error e) s') s₃) (notedBy (model prog w) A env fun e s'=>R (.error e) s') s₂) (notedBy (model prog w) A env fun e s'=>R (.error e) s') s₁') (notedBy (model prog w) A env fun e s'=>R (.error e) s') s₁) (notedBy (model prog w) A env fun e s'=>R (.error e) s') s)
  (n:Nat) (h:I n s) :
  codeAny (model prog w) A (.compLoop (.DictComp kx vx [⟨target,iter,[],0⟩] scope pos) 0 it (.ref D) env) R s:=by
 refine codeAny_loop rfl I (fun n s hI=>?_) n h
 show wpAny _ A ((compTurn (.DictComp kx vx [⟨target,iter,[],0⟩] scope pos) 0 it (.ref D) env).onRaise (fun x=>do noteFrame x env; theTreesLotGoes x)) _ _ s
 refine wpAny_noted ?_
 rw [compTurn_dict]
 refine wpAny_bind (wpAny_standAt (wpAny_bind (wpAny_mono (turn n s hI) (fun r s₁ h₁=>?_) fun _ _ h'=>h')))
 cases r with
 | none=>exact wpAny_pure h₁
 | some v=>
  refine wpAny_bind (wpAny_mono h₁ (fun _ s₁' h₁'=>?_) fun _ _ h'=>h')
  refine wpAny_bind (wpAny_mono h₁' (fun _ s₂ h₂=>wpAny_bind (wpAny_tests_nil ?_)) fun _ _ h'=>h')
  exact wpAny_bind (wpAny_bind (wpAny_mono h₂ (fun kv s₃ h₃=>wpAny_bind (wpAny_holding (wpAny_mono h₃ (fun vv s₄ h₄=>wpAny_bind (wpAny_standAt (wpAny_holding (wpAny_mono h₄ (fun _ s₅ h₅=>wpAny_pure ⟨rfl,h₅⟩) fun _ _ h'=>h')))) fun _ _ h'=>h'))) fun _ _ h'=>h'))
section
variable {X:Cx} {pins:List (Addr×Obj)} {σ:St} {H:Hp} {s:Shared} {A:Around} {E:Value→Shared→Prop} {a:Addr} {kvs:List (Key×V)} {k:Key} {v:V} {u r:Value}
theorem d_set {Q:Unit→Shared→Prop} (I:Inv X pins σ H s) (e:H a=some (.dK kvs)) (l:kvs.length < sizeLine) (ry:RelV (kV k) u) (rv:RelV v r) (h:∀ s',Inv X pins σ (upd H a (.dK (putK kvs k v))) s'→Q () s') :
  wpAny (model X.prog X.w) A (dictSet a u r) Q E s:=by
 obtain ⟨z,hd,vs,rel,dd⟩:=dk_of I.hok e
 have hz:vs.length≤sizeLine:=by rw [← rel.length]; exact z
 have hl:(putK kvs k v).length≤sizeLine:=by have:=length_putK kvs k v; omega
 unfold dictSet
 try with_reducible refine wpAny_holding ?_
 refine wpAny_bind ((mixKind X.prog X.w).pyHash (kV_is ry) ?_)
 have I1:=I.tok (s.toks+1)
 refine wpAny_dictSetHashed_pairs (knd:=mixKind X.prog X.w) (s:={ s with toks:=s.toks+1 }) (kV_is ry) dd (fun h' dd' hs=>h _ ?_) hz
 have he:∃ q,h'.get? a=some q:=let ⟨q,_,_,hq,_⟩:=dd'; ⟨q,hq⟩
 exact d_write I1 (by rw [e]; exact True.intro) hs he (dk_new hl hd (rel.put k rv) dd')
end
def tDictC (wi:TI) (g:TG) (tk tv:TE) (own:List Str) (cap:List (Nat×Str)):TE:=fun σ H Q=>wi σ H fun J H1=>∀ D,H1 D=none →
 ∃ W:Nat→Nat→St→List (Key×V)→Hp→Prop,(∃ m,W 0 m (compSt own cap σ) [] (upd H1 D (.dK [])))∧∀ i m σ' kvs H',W i m σ' kvs H'→H' D=some (.dK kvs) ∧
  ((J.stop i H'∧Q (.ref D) H')∨(J.go i H'∧kvs.length < sizeLine∧∃ N:St→List (Key×V)→Hp→Prop,(∀ σ kvs H,N σ kvs H→∃ m',m' < m∧W (i+1) m' σ kvs H)∧∀ x H2,J.yld i H' x H2→g x σ' H2 fun σ3 H3=>tk σ3 H3 fun y H4=>tv σ3 H4 fun z H5=>∃ k,y=kV k∧H5 D=some (.dK kvs) ∧
   N σ3 (putK kvs k z) (upd H5 D (.dK (putK kvs k z)))))
section
variable {X:Cx} {scope:Scope} {cl:List (Str×Addr)} {own:List Str} {cap:List (Nat×Str)} {tg iter kx vx:Expr} {wi:TI} {g:TG} {tk tv:TE} {pos:Pos}
theorem pe_dictc (c:CompOk X scope cl own cap) (hc:X.calm=true) (hi:PI X tg iter wi)
  (hg:∀ C s H fp,PG (compCx X (own++cap.map (·.2)) scope cl C s H fp fun _ _=>False) tg g)
  (hk:∀ C s H fp,PE (compCx X (own++cap.map (·.2)) scope cl C s H fp fun _ _=>False) kx tk)
  (hv:∀ C s H fp,PE (compCx X (own++cap.map (·.2)) scope cl C s H fp fun _ _=>False) vx tv) (hs:∀ x,foldedSetIterable iter X.env x=pure x:=by intro _; rfl) :
  PE X (.DictComp kx vx [⟨tg,iter,[],0⟩] scope pos) (tDictC wi g tk tv own cap):=by
 refine .mk ?_
 intro pins s σ H Q I h
 show wpAny _ X.A (comprehension (.DictComp kx vx [⟨tg,iter,[],0⟩] scope pos) scope X.env _ newDict false (eval iter X.env)) _ _ s
 refine wpAny_comprehension_free (use:=none) rfl hs c.clos c.kind c.names (thn (hi pins s σ H _ I h) fun v s1 h1=>thn h1 fun itv s2 h2=>?_)
 obtain ⟨it,fp,tn,J,H2,e,I2,T,st2,f2,hw⟩:=h2
 subst e
 refine wpAny_newObj_type (wpAny_newFunctionEnv c.cell (by intro y hy; simp at hy) (fun h₁ hns₁ hsb₁=>?_) c.kind) (by size_fits)
 dsimp only at hns₁ hsb₁ ⊢
 have hO:=dk_empty (P:=X.prog) (w:=X.w) (H:=upd H2 s2.heap.objs.size (.dK [])) s2.heap I2.big
 generalize hOO:({ cls:=.type "dict",data:=.dict #[] }:Obj)=O at hO hns₁ hsb₁ ⊢
 have hsz:(s2.heap.push O).objs.size=s2.heap.objs.size+1:=Heap.size_push _ _
 have kk:∀ b o,s2.heap.get? b=some o→h₁.get? b=some o:=fun b o e=>hsb₁.extBut b o (by rw [hsz]; exact Nat.ne_of_lt (Nat.lt_succ_of_lt (Heap.lt_size e))) (Heap.get?_push_of_some _ (Heap.get?_push_of_some _ e))
 have hS1:ObjOk X.prog X.w (upd H2 s2.heap.objs.size (.dK [])) h₁ s2.heap.objs.size (.dK []):=by
  refine hO.stay (fun b u hb q=>?_) (fun _ q=>q) fun _ _ q=>q
  rcases hb with rfl | hb
  ·exact hsb₁.extBut _ _ (by rw [hsz]; exact Nat.ne_of_lt (Nat.lt_succ_self _)) (Heap.get?_push_of_some _ q)
  ·by_cases z:b=s2.heap.objs.size
   ·subst z; rw [upd_same] at hb; cases hb
   ·rw [upd_ne z] at hb
    have lt:b < s2.heap.objs.size:=I2.hok.lt hb
    exact hsb₁.extBut _ _ (by rw [hsz]; exact Nat.ne_of_lt (Nat.lt_succ_of_lt lt)) (Heap.get?_push_of_some _ q)
 rw [hsz] at hns₁ ⊢
 have hlt:∀ b∈fp,b < s2.heap.objs.size:=fun b hb=>by
  obtain ⟨o,e,_⟩:=T.obj _ _ st2 b hb
  exact Heap.lt_size e
 obtain ⟨W,⟨m0,w0⟩,turn⟩:=hw s2.heap.objs.size I2.fresh
 have J1:=comp_invX (E:=fun _ _=>False) c I2 f2 hlt (tk:=s2.toks+([]:List (Str×Value)).length) kk hS1 hns₁
 generalize hX':compCx X (own++cap.map (·.2)) scope cl (s2.heap.objs.size+1) s2 H2 fp (fun _ _=>False)=X' at J1
 have hg':PG X' tg g:=hX' ▸ hg _ _ _ _
 have hk':PE X' kx tk:=hX' ▸ hk _ _ _ _
 have hv':PE X' vx tv:=hX' ▸ hv _ _ _ _
 have pX:X'.prog=X.prog:=by rw [← hX']; rfl
 have wX:X'.w=X.w:=by rw [← hX']; rfl
 have kX:X'.K=X.K:=by rw [← hX']; rfl
 have aX:X'.A=X.A:=by rw [← hX']; rfl
 have cX:X'.calm=true:=by rw [← hX']; exact hc
 have nX:X'.env=compEnvC scope cl (s2.heap.objs.size+1) X.env:=by rw [← hX']; rfl
 have xX:X'.xe=fun _ _=>False:=by rw [← hX']; rfl
 have fX:∀ b∈fp,∀ {H':Hp},H' b=none→FpOk X' [] H' b:=fun b hb {H'} hn=>by
  have o1:=(comp_ok (E:=fun _ _=>False) c I2 f2 hlt (C:=s2.heap.objs.size+1) (Nat.le_succ _)).exf b hb
  have o2:=(comp_ok (E:=fun _ _=>False) c I2 f2 hlt (C:=s2.heap.objs.size+1) (Nat.le_succ _)).exfs b hb
  rw [← hX']
  exact ⟨hn,o1.1,o2,.inl hb,o1.2,fun p hp=>absurd (show p∈([]:List (Addr×Obj)) from hp) (by simp)⟩
 have hRR:∀ D C s' H' m,Inv X pins σ H' s'→FpOk X pins H' C→s'.heap.Ns C m→Q (.ref D) H'→compPost (model X.prog X.w) X.A X.xe none (EP X pins σ Q) (.ref D) C (.ok .next) s':=by
  intro D C s' H' m I' hC hm q
  refine ⟨m,hm,fun h' hs'=>⟨.ref D,H',?_,rfl,q⟩⟩
  exact I'.turned (t':=s'.toks) (fun b o hb e=>(hs'.2 b hb).trans e) hC.1 hC.2.1 hC.2.2.2.1 hC.2.2.2.2.1 hC.2.2.2.2.2
 have fin:∀ {σ':St} {H':Hp} {s':Shared},Inv X' [] σ' H' s'→Q (.ref s2.heap.objs.size) H'→compPost (model X.prog X.w) X.A X.xe none (EP X pins σ Q) (.ref s2.heap.objs.size) (s2.heap.objs.size+1) (.ok .next) s':=fun {σ' H' s'} J' q=>by
  rw [← hX'] at J'
  obtain ⟨A1,A2⟩:=comp_after I2 f2 (Nat.le_succ _) J'
  obtain ⟨m,hm,_⟩:=J'.loc
  exact hRR _ _ s' H' m A1 A2 hm q
 have loop:codeAny (model X.prog X.w) X.A (.compLoop (.DictComp kx vx [⟨tg,iter,[],0⟩] scope pos) 0 (.ref it) (.ref s2.heap.objs.size) (compEnvC scope cl (s2.heap.objs.size+1) X.env)) (compPost (model X.prog X.w) X.A X.xe none (EP X pins σ Q) (.ref s2.heap.objs.size) (s2.heap.objs.size+1))
   { s2 with heap:=h₁,toks:=s2.toks+([]:List (Str×Value)).length }:=by
  refine compLoop_dict (fun n s'=>∃ i σ' kvs H',Inv X' [] σ' H' s'∧tn i s'.heap∧(∀ b∈fp,H' b=none)∧W i n σ' kvs H') ?_ m0
   ⟨0,_,_,_,J1,T.keep _ _ _ st2 fun b _ o e=>kk b o e,fun b hb=>by rw [upd_ne (Nat.ne_of_lt (hlt b hb))]; exact (f2 b hb).1,w0⟩
  rintro n s3 ⟨i,σ3,kvs,H3,I3,st3,fr3,w3⟩
  obtain ⟨hDl,w4⟩:=turn i n σ3 kvs H3 w3
  rw [← nX,← aX,← pX,← wX]
  have nox:∀ {α:Type} {t:Sem α} {Q1:α→Shared→Prop} {E1:Value→Shared→Prop} {s:Shared},wpAny (model X'.prog X'.w) X'.A t Q1 X'.xe s→wpAny (model X'.prog X'.w) X'.A t Q1 E1 s:=fun {α t Q1 E1 s} h=>by
   rw [xX] at h
   exact wpAny_mono h (fun _ _ q=>q) fun _ _ f=>f.elim
  rcases w4 with ⟨stop,qn⟩ | ⟨go,hz,N,hN,step⟩
  ·have d:=T.done X' pX wX kX cX i [] s3 σ3 H3 X'.xe I3 (fun b hb=>fX b hb (fr3 b hb)) st3 stop
   rw [← pX,← wX] at d
   refine nox (thn d fun r s4 ⟨hr,I4⟩=>?_)
   subst hr
   have f4:=fin I4 qn
   rw [← pX,← wX,← aX] at f4
   exact f4
  ·have d:=T.item X' pX wX kX cX i [] s3 σ3 H3 X'.xe I3 (fun b hb=>fX b hb (fr3 b hb)) st3 go
   rw [← pX,← wX] at d
   refine nox (thn d fun r s4 ⟨u,hr,h4⟩=>?_)
   subst hr
   refine nox (thn h4 fun _ s5 ⟨x,H5,I5,r5,y5,st5,fr5⟩=>?_)
   have I5':=I5.pinned (fun b hb=>fX b hb (fr5 b hb)) (T.obj _ _ st5)
   have again:∀ {σ7:St} {H7:Hp} {s7:Shared} {kvs':List (Key×V)},Inv X' ([]++pinsAt fp s5.heap) σ7 H7 s7→N σ7 kvs' H7 →
     ∃ m,m < n∧∃ i σ' kvs H',Inv X' [] σ' H' s7∧tn i s7.heap∧(∀ b∈fp,H' b=none)∧W i m σ' kvs H':=fun {σ7 H7 s7 kvs'} I7 n7=>by
    obtain ⟨m',hm,w7⟩:=hN _ _ _ n7
    refine ⟨m',hm,i+1,σ7,kvs',H7,I7.unpinned,T.keep _ _ _ st5 fun b hb o e=>(I7.pin (b,o) (List.mem_append_right _ (List.mem_append_right _ (mem_pinsAt hb e)))).1,fun b hb=>?_,w7⟩
    obtain ⟨o,e,d⟩:=T.obj _ _ st5 b hb
    exact (I7.pin (b,o) (List.mem_append_right _ (List.mem_append_right _ (mem_pinsAt hb e)))).2.1
   refine nox (thn (hg' _ s5 σ3 H5 x u _ I5' r5 (step x H5 y5)) fun _ s6 ⟨σ6,H6,I6,q6⟩=>?_)
   refine nox (thn (hk' _ s6 σ6 H6 _ I6 q6) fun u7 s7 ⟨y7,H7,I7,r7,q7⟩=>?_)
   refine nox (thn (hv' _ s7 σ6 H7 _ I7 q7) fun u8 s8 ⟨y8,H8,I8,r8,k8,e8,d8,q8⟩=>?_)
   subst e8
   exact nox (d_set I8 d8 hz r7 r8 fun s9 I9=>again I9 q8)
 exact codeAny_compStart_dict loop (T.self X.A 0 _ _ _ (T.keep _ _ _ st2 fun b _ o e=>kk b o e) loop)
end
def Itv (K:PySem.W.Frag) (a:Addr) (n:Nat):It:=
 ⟨fun i H=>∃ xs,SqL K H a xs∧xs.length=n∧i < n,fun i H x H'=>H'=H∧∀ xs,SqL K H a xs→xs[n-1-i]? = some x,fun i _=>i=n⟩
theorem turn_rev {P:Program} {w:World} {K:PySem.W.Frag} {tg:Expr} (a it:Addr) (n:Nat):Turn P w K tg (Itv K a n) [it] it (fun i h=>h.IsRevIter it a ((n:Int)-1-(i:Int))) where
 mem:=by simp
 obj:=fun i h st b hb=>by
  have e:b=it:=by simpa using hb
  subst e
  obtain ⟨o,e,c,d⟩:=st
  exact ⟨o,e,fun v z=>by rw [d] at z; cases z⟩
 keep:=fun i h h' st k=>st.at fun o e=>k it (by simp) o e
 item:=by
  intro X hP hw hK hc i pins s σ H E I hf st hg
  subst hP hw hK
  obtain ⟨xs,hq,hn,hi⟩:=hg
  obtain ⟨its,rv,p,hz⟩:=I.list hq
  have hj:n-1-i < xs.length:=by omega
  have hx:xs[n-1-i]? = some (xs[n-1-i]):=List.getElem?_eq_getElem hj
  obtain ⟨u,hu,ru⟩:=rv.get hx
  obtain ⟨f0,f1,f2,f3,f4,f5⟩:=hf it (by simp)
  have e0:(n:Int)-1-(i:Int)=((n-1-i:Nat):Int):=by omega
  have st0:s.heap.IsRevIter it a ((n-1-i:Nat):Int):=e0 ▸ st
  refine wpAny_pyNext_rev_item st0 p.isList (x:=u) (by simpa using hu) fun h' st' sb=>?_
  have e1:((n-1-i:Nat):Int)-1=(n:Int)-1-((i+1:Nat):Int):=by omega
  rw [e1] at st'
  have I1:Inv X pins σ H { s with heap:=h' }:=I.turned (t':=s.toks) (fun b o hb e=>(sb.2 b hb).trans e) f0 f1 f3 f4 f5
  obtain ⟨o,e,c,d⟩:=id st'
  exact ⟨u,rfl,go_of (s:={ s with heap:=h' }) e c d (by decide) ⟨_,H,I1,ru,⟨rfl,fun ys hy=>by rw [I.list_inj hy hq]; exact hx⟩,st',fun b hb=>(hf b hb).1⟩⟩
 done:=by
  intro X hP hw hK hc i pins s σ H E I hf st hg
  subst hP hw hK
  have hg':i=n:=hg
  subst hg'
  obtain ⟨f0,f1,f2,f3,f4,f5⟩:=hf it (by simp)
  have e0:(i:Int)-1-(i:Int)=-1:=by omega
  have st0:s.heap.IsRevIter it a (-1):=e0 ▸ st
  exact wpAny_pyNext_rev_end (I.ok.hd hc) st0 fun h' eb=>⟨rfl,I.turned (t':=s.toks) (fun b o hb e=>eb b o hb e) f0 f1 f3 f4 f5⟩
 self:=fun _ _ _ _ _ st h=>wpAny_pyIter_revIter st h
section
variable {X:Cx} {tg:Expr}
def iRev (K:PySem.W.Frag) (ta:TA):TI:=fun σ H R=>ta σ H fun vs H1=>∃ (a:Addr) (xs:List V),vs=[.ref a]∧SqL K H1 a xs∧R (Itv K a xs.length) H1
theorem pi_rev {a:Expr} {ta:TA} {p pos:Pos} (hg:Gl X "reversed") (hm:X.mg "reversed" = none) (ha:PA X [a] ta) (hs:starEach [a] X.env=[(false,eval a X.env)]:=by rfl) :
  PI X tg (.Call (.Name "reversed" p) [a] [] pos) (iRev X.K ta):=by
 refine .mk ?_
 intro pins s σ H R I h
 refine Call_ (ld_blt I hg hm boot_reversed (PyProof.Rows.callWith_type1 (thn (ha pos pins s σ H _ I h) fun us s1 ⟨vs,H1,I1,r1,q1⟩=>?_) hs rfl))
 obtain ⟨u1,xs,e,hx,q⟩:=q1
 subst e
 cases r1 with
 | cons r rr=>
  cases rr
  cases r
  obtain ⟨its,rv,pl0,_⟩:=I1.list hx
  have ll:=rv.length
  refine call_reversed_list pl0.isList ?_
  have hit:(s1.heap.push (revObj u1 ((its.toArray.size:Int)-1))).IsRevIter s1.heap.objs.size u1 ((xs.length:Int)-1-((0:Nat):Int)):=⟨_,Heap.get?_push_size _ rfl,rfl,by
   have:((its.toArray.size:Nat):Int)-1=(xs.length:Int)-1-((0:Nat):Int):=by simp; omega
   rw [← this]; rfl⟩
  refine wpAny_pyIter_revIter hit ?_
  refine ⟨s1.heap.objs.size,[s1.heap.objs.size],_,_,H1,rfl,I1.kept (t':=s1.toks) (fun b o e=>Heap.get?_push_of_some _ e),turn_rev u1 _ xs.length,hit,fun c hc=>?_,q⟩
  have hc':c=s1.heap.objs.size:=by simpa using hc
  subst hc'
  exact I1.fpOk (Nat.le_refl _) (I1.hok.fresh (Nat.le_refl _))
end
end L2
namespace L3
open PySem PySem.Spec L2
section
variable {X:Cx} {E:St→XK} {p pos:Pos}
def wDictc (gd:Gp→Prop) (g:G3) (tk tv:E3) (C:List (Key×T)→Gp→Prop) (ts:List T) (τ:S3) (Γ:Gp):Prop:=∃ P:List T→S3→List (Key×T)→Gp→Prop,P ts τ [] Γ∧(∀ τ ys Γ,P [] τ ys Γ→gd Γ∧C ys Γ) ∧
 ∀ x r τ ys Γ,P (x::r) τ ys Γ→gd Γ∧g Y0 x τ Γ fun τ3 Γ3=>tk Y0 τ3 Γ3 fun y Γ4=>tv Y0 τ3 Γ4 fun z Γ5=>∃ k,y=kT k∧P r τ3 (putKT ys k z) Γ5
def eDictc (wi:I3) (g:G3) (tk tv:E3) (own:List Str) (cap:List (Nat×Str)):E3:=fun Y τ Γ Z=>wi Y τ Γ fun ts gd Γ1=>ts.length < sizeLine ∧
 wDictc gd g tk tv (fun ys Γ2=>∀ D,Γ2 D=none→Z (.ref D) (up Γ2 D (.dK ys))) ts (cSt own cap τ) Γ1
theorem putKT_len (ys:List (Key×T)) (k:Key) (z:T):(putKT ys k z).length≤ys.length+1:=by
 unfold putKT
 split
 ·rw [List.length_map]; exact Nat.le_succ _
 ·rw [List.length_append]; exact Nat.le_refl _
theorem dictc_sim {wi:I3} {g:G3} {tk tv:E3} {own:List Str} {cap:List (Nat×Str)} (σ:St) (H:Hp) (Q:VK) (q:liE E (eDictc wi g tk tv own cap) σ H Q):tDictC (liI E wi) (liG EN g) (liE EN tk) (liE EN tv) own cap σ H Q:=by
 obtain ⟨τ,Γ,Y,Z,rs,hr,t,vr,xr⟩:=q
 refine ⟨τ,Γ,Y,_,rs,hr,t,fun J ts gd H1 Γ1 s1 h1 wk ⟨hz,Pv,z1,p0,pc⟩=>?_,xr⟩
 intro D hD
 have nl:∀ kvs:List (Key×V),(∀ us:List V,HO.dK kvs≠.tup us)∧∀ b w,HO.dK kvs≠.frz b w:=fun _=>⟨fun _ z=>(nomatch z),fun _ _ z=>(nomatch z)⟩
 refine ⟨fun i m σ' kvs H'=>∃ τ' ys Γ',i≤ts.length∧m=ts.length-i∧ys.length≤i∧RS H' σ' τ'∧HR H' Γ'∧H' D=some (.dK kvs)∧Γ' D=none∧Ks H' kvs ys∧Stp H1 Γ1 H' Γ'∧Pv (ts.drop i) τ' ys Γ',
  ⟨ts.length,cSt own cap τ,[],Γ1,Nat.zero_le _,rfl,Nat.le_refl _,(rs_comp own (rs.mono s1.tq) cap).mono (tq_kp (keep_new hD)),h1.keep (keep_new hD),upd_same,h1.free hD,.nil,.keep (keep_new hD),z1⟩,?_⟩
 rintro i m σ2 kvs H2 ⟨τ2,ys,Γ2,hi,rfl,hv,rs2,h2,d2,gD,ry,s2,w2⟩
 refine ⟨d2,?_⟩
 by_cases hlt:i < ts.length
 ·rw [drop_cons hlt] at w2
  obtain ⟨g2,w2⟩:=pc _ _ _ _ _ w2
  have nn:=ry.len
  refine .inr ⟨wk.go i H2 Γ2 s2.tq h2 g2 hlt,by omega,fun σ' kvs' H'=>∃ τ' ys Γ',ys.length≤i+1∧RS H' σ' τ'∧HR H' Γ'∧H' D=some (.dK kvs')∧Γ' D=none∧Ks H' kvs' ys∧Stp H1 Γ1 H' Γ'∧Pv (ts.drop (i+1)) τ' ys Γ',
   fun σ' kvs' H' ⟨τ',ys,Γ',a,b,c,d,e,f,k,l⟩=>⟨ts.length-(i+1),by omega,τ',ys,Γ',hlt,rfl,a,b,c,d,e,f,k,l⟩,fun x H3 yl=>?_⟩
  obtain ⟨s3,h3,x3,e3,r3⟩:=wk.yld i H2 Γ2 x H3 s2.tq h2 g2 hlt yl
  rw [List.getElem?_eq_getElem hlt] at e3
  cases e3
  refine ⟨_,τ2,Γ2,Y0,_,r3,rs2.mono s3.tq,h3,w2,fun σ4 τ4 H4 Γ4 s4 h4 r4 z4=>?_,xr0⟩
  refine ⟨τ4,Γ4,Y0,_,r4,h4,z4,fun y y' H5 Γ5 s5 h5 r5 z5=>?_,xr0⟩
  refine ⟨τ4,Γ5,Y0,_,r4.mono s5.tq,h5,z5,fun v v' H6 Γ6 s6 h6 r6 z6=>?_,xr0⟩
  obtain ⟨k,rfl,z6⟩:=z6
  have s36:=((s3.trans s4).trans s5).trans s6
  have d6:H6 D=some (.dK kvs):=s36.frm D _ d2 gD
  have g6:Γ6 D=none:=s36.new D (by rw [d2]; exact fun z=>nomatch z) gD
  have tq:Tq H6 (upd H6 D (.dK (putK kvs k v))):=tq_set d6 (nl _)
  refine ⟨k,i_key r5,d6,τ4,putKT ys k v',Γ6,Nat.le_trans (putKT_len _ _ _) (Nat.succ_le_succ hv),(r4.mono (s5.trans s6).tq).mono tq,h6.hide g6 d6 (nl _),upd_same,g6,((ry.mono s36.tq).put k r6).mono tq,?_,z6⟩
  have s7:=s2.trans s36
  refine ⟨s7.tq.trans tq,fun a h z=>?_,s7.new,fun a o h g=>?_⟩
  ·by_cases e:a=D
   ·subst e; exact h hD
   ·rw [upd_ne e] at z; exact s7.dom a h z
  ·have e:a≠D:=fun e=>by subst e; rw [hD] at h; cases h
   rw [upd_ne e]; exact s7.frm a o h g
 ·have e:i=ts.length:=by omega
  subst e
  rw [List.drop_length] at w2
  have w2:=p0 _ _ _ w2
  refine .inl ⟨wk.stop H2 Γ2 s2.tq h2 w2.1,?_⟩
  have s12:=s1.trans s2
  refine vr (.ref D) (.ref D) H2 (up Γ2 D (.dK ys)) ⟨s12.tq,s12.dom,fun a h g=>?_,s12.frm⟩ (fun a o g=>?_) r_ref (w2.2 D gD)
  ·have e:a≠D:=fun e=>by subst e; exact s1.dom _ h hD
   rw [up_ne e]; exact s12.new a h g
  ·by_cases e:a=D
   ·subst e; rw [up_same] at g; cases g; exact ⟨_,d2,ry⟩
   ·rw [up_ne e] at g; exact h2 a o g
theorem qe_dictc {scope:Scope} {cl:List (Str×Addr)} {own:List Str} {cap:List (Nat×Str)} {tg iter kx vx:Expr} {wi:I3} {g:G3} {tk tv:E3} (c:CompOk X scope cl own cap) (hc:X.calm=true) (hi:PI X tg iter (liI E wi))
  (hg:∀ C s H fp,PG (compCx X (own++cap.map (·.2)) scope cl C s H fp fun _ _=>False) tg (liG EN g))
  (hk:∀ C s H fp,PE (compCx X (own++cap.map (·.2)) scope cl C s H fp fun _ _=>False) kx (liE EN tk))
  (hv:∀ C s H fp,PE (compCx X (own++cap.map (·.2)) scope cl C s H fp fun _ _=>False) vx (liE EN tv)) (hs:∀ x,foldedSetIterable iter X.env x=pure x:=by intro _; rfl) :
  PE X (.DictComp kx vx [⟨tg,iter,[],0⟩] scope pos) (liE E (eDictc wi g tk tv own cap)):=weakE (pe_dictc c hc hi hg hk hv hs) dictc_sim
def iRv (ta:A3):I3:=fun Y τ Γ Z=>ta Y τ Γ fun xs Γ1=>∃ a ts,xs=[.ref a]∧it3 Γ1 (.ref a)=some ts∧Z ts.reverse (fun Γ'=>it3 Γ' (.ref a)=some ts) Γ1
theorem walk_rev {K:PySem.W.Frag} {H:Hp} {a:Addr} {ts:List T}:Walks (Itv K a ts.length) ts.reverse (fun Γ'=>it3 Γ' (.ref a)=some ts) H where
 go:=fun i H' Γ t hr g hi=>by
  obtain ⟨vs,sq,q⟩:=it3_a (K:=K) hr g
  rw [List.length_reverse] at hi
  exact ⟨vs,sq,q.length,hi⟩
 yld:=fun i H' Γ x H2 t hr g hi q0=>by
  obtain ⟨e,y⟩:=q0
  subst e
  obtain ⟨vs,sq,q⟩:=it3_a (K:=K) hr g
  obtain ⟨t',e',r⟩:=q.getV (y vs sq)
  rw [List.length_reverse] at hi
  exact ⟨.refl,hr,t',by rw [List.getElem?_reverse hi]; exact e',r⟩
 stop:=fun H' Γ t hr g=>by rw [List.length_reverse]; exact rfl
theorem qi_rev {a tg:Expr} {ta:A3} (hg:Gl X "reversed") (hm:X.mg "reversed" = none) (ha:PA X [a] (liA E ta)) (hs:starEach [a] X.env=[(false,eval a X.env)]:=by rfl) :
  PI X tg (.Call (.Name "reversed" p) [a] [] pos) (liI E (iRv ta)):=
 weakI3 (pi_rev hg hm ha hs) fun σ H Q τ Γ Y Z rs hr t vr xr=>⟨τ,Γ,Y,_,rs,hr,t,fun vs xs H1 Γ1 s1 h1 r1 ⟨a,ts,ex,g,z⟩=>by
  subst ex
  obtain ⟨v,rfl,ra⟩:=rs1 r1
  obtain ⟨us,sq,q⟩:=it3_a (K:=X.K) h1 g
  exact ⟨a,us,by rw [i_ref ra],sq,vr _ _ _ H1 Γ1 s1 h1 (by rw [q.length]; exact walk_rev) z⟩,xr⟩
theorem cq_divmod:CallQ X (.builtin "divmod") (fun xs Γ Z=>∃ i j:Int,xs=[.int i,.int j]∧CDiv i j∧Z (.tup [.int (i / j),.int (i % j)]) Γ):=
 ⟨_,call_divmod,fun vs xs H Γ Q Z r hr q0 vr=>by
  obtain ⟨i,j,rfl,c,z⟩:=q0
  obtain ⟨v,ws,rfl,a,b⟩:=rs_inv r
  obtain ⟨v',ws',rfl,a',b'⟩:=rs_inv b
  rw [i_int a,i_int a',rs_inv0 b']
  refine ⟨i,j,rfl,c,fun p hp=>?_⟩
  have k:=keep_new (o:=.tup [.int (i / j),.int (i % j)]) hp
  exact vr _ _ _ Γ (.keep k) (hr.keep k) (r_tup upd_same (rs_cons r_int (rs_cons r_int rs_nil))) z⟩
def eMaxd (t:A3) (d:E3):E3:=fun Y τ Γ Z=>t Y τ Γ fun xs Γ1=>d Y τ Γ1 fun _ Γ2=>∃ (a:Addr) (ns:List Int),xs=[.ref a]∧it3 Γ2 (.ref a)=some (ns.map T.int)∧ns≠[]∧Z (.int (topOf ns)) Γ2
theorem qe_maxd {e v:Expr} {t:A3} {d:E3} {kpos:Pos} (hc:X.calm=true) (hg:Gl X "max") (hm:X.mg "max" = none) (ha:PA X [e] (liA E t)) (hv:PE X v (liE E d))
  (he:backTo pos (starEach [e] X.env)=(false,eval e X.env)::backTo pos (starEach [] X.env):=by rfl) (hpl:(backTo pos (starEach [e] X.env)).any (·.1)=false:=by rfl) :
  PE X (.Call (.Name "max" p) [e] [⟨some "default",v,kpos⟩] pos) (liE E (eMaxd t d)):=
 weakE3 (pe_maxd hc hg hm ha (pk_cons hv pk_nil) he hpl) fun σ H Q τ Γ Y Z rs hr t vr xr=>by
  refine ⟨τ,Γ,Y,_,rs,hr,t,fun vs xs H1 Γ1 s1 h1 r1 z1=>?_,xr⟩
  refine ⟨τ,Γ1,Y,_,rs.mono s1.tq,h1,z1,fun w y H2 Γ2 s2 h2 r2 z2=>?_,xr.mono s1⟩
  obtain ⟨a,ns,rfl,g,ne,z⟩:=z2
  obtain ⟨v,rfl,ra⟩:=rs1 r1
  obtain ⟨us,sq,q⟩:=it3_a (K:=X.K) h2 g
  rw [rs_ints q] at sq
  exact ⟨_,a,ns,rfl,by rw [i_ref ra],sq,ne,vr _ _ H2 Γ2 (s1.trans s2) h2 r_int z⟩
end
end L3
namespace L3
open PySem PySem.Spec L2
open PyProof.Rows hiding St
def lamPos (st:Stmt):Pos:=match (defBody st).drop 1 with
 | [.Return (some (.Call _ [.Call _ _ [⟨_,.Lambda _ _ _ p,_⟩] _] _ _)) _]=>p
 | _=>⟨0,0,0,0⟩
section
variable {P:Program} {w:World} {K:PySem.W.Frag} {mg:Str→Option Value} {base:Heap}
theorem okdC {x qual:Str} {st:Stmt} {f c:Addr} {fd:FuncData} {N ps:List Str} {k:Nat} {sp:Sp3} (F:Fun K x qual st f fd) (hc:fd.code=.ref c) (S:FnScope N ps (defScope st)) (len:∀ ts Γ Z Y,sp ts Γ Z Y→ts.length=ps.length)
  (hbody:∀ (A:Around) (outer:List Env) (s:Shared) (H:Hp) (E:XK) (ts:List T) (Γ:Gp) (Z:K3) (Y:Value→Gp→Prop),Room k (A.deeper (envOfC qual (defScope st) s.heap.objs.size f (.ref c)))→sp ts Γ Z Y →
   ∃ t,PSs (cxOf CX0 P w K mg base N qual (defScope st) f (.ref c) A outer s H E).nox (defBody st) (liS EN t)∧t Y0 { nx:=fun _ Γ'=>dropK Z .non Γ',rt:=dropK Z } (start3 N ts) Γ):FnOk P w K mg base CX0 (k+1) f fd ps (liSp sp):=by
 obtain ⟨oc,od,kV,doc,pm,an,cdv,ct,osl,rfl,lk,hcd⟩:=F.ex
 have e:cdv=.ref c:=hc
 subst e
 refine fn_of lk hcd S (fun vs H Q E q0=>by obtain ⟨ts,Γ,Z,Y,r,_,h,_⟩:=q0; rw [r.length]; exact len _ _ _ _ h) fun A outer s H vs Q E hr ⟨ts,Γ,Z,Y,r,h,hsp,vr,xr⟩=>?_
 obtain ⟨t,ht,hq⟩:=hbody A outer s H E ts Γ Z Y hr hsp
 exact ⟨_,ht.nox,start3 N ts,Γ,Y0,_,rs_start N r (by rw [len _ _ _ _ hsp]; exact sc_len S),h,hq,⟨fun σ τ H' Γ' s' h' _ ⟨Γ2,l,z⟩=>vr .non .non H' Γ2 (s'.cut l) (h'.le l) r_non z,fun v x H' Γ' s' h' rv ⟨Γ2,l,z⟩=>vr v x H' Γ2 (s'.cut l) (h'.le l) rv z,fun _ _ _ _ _ _ _ z=>z.elim,fun _ _ _ _ _ _ _ z=>z.elim⟩,xr0⟩
end
section
variable {Y:X3} {τ:S3} {Γ:Gp} {Z:K3}
theorem t_slam {P:Addr} {q:Str} {lpos:Pos} {t:A3} (h:t Y τ Γ fun xs Γ1=>∃ gs:List (Str×T),xs=[.tup (gs.map fdT)]∧gs.length < 64∧Γ1 P=some (.lam q lpos)∧∀ (hs:List (Str×T)) (a:Addr),hs.Perm gs→Up (hs.map (·.1))→Γ1 a=none→Z (.ref a) (up Γ1 a (.lst (hs.map fdT)))):eSortLam P q lpos t Y τ Γ Z:=h
theorem t_maxd {t:A3} {d:E3} (h:t Y τ Γ fun xs Γ1=>d Y τ Γ1 fun _ Γ2=>∃ (a:Addr) (ns:List Int),xs=[.ref a]∧it3 Γ2 (.ref a)=some (ns.map T.int)∧ns≠[]∧Z (.int (topOf ns)) Γ2):eMaxd t d Y τ Γ Z:=h
theorem t_dictc {wi:I3} {g:G3} {tk tv:E3} {own:List Str} {cap:List (Nat×Str)} (h:wi Y τ Γ fun ts gd Γ1=>ts.length < sizeLine∧wDictc gd g tk tv (fun ys Γ2=>∀ D,Γ2 D=none→Z (.ref D) (up Γ2 D (.dK ys))) ts (cSt own cap τ) Γ1):eDictc wi g tk tv own cap Y τ Γ Z:=h
theorem t_dget {td ty:E3} (h:td Y τ Γ fun x Γ1=>ty Y τ Γ1 fun y Γ2=>∃ a kvs k v,x=.ref a∧y=kT k∧Γ2 a=some (.dK kvs)∧valT kvs k=some v∧Z v Γ2):eDGet td ty Y τ Γ Z:=h
theorem t_irv {ta:A3} {R:List T→(Gp→Prop)→Gp→Prop} (h:ta Y τ Γ fun xs Γ1=>∃ a ts,xs=[.ref a]∧it3 Γ1 (.ref a)=some ts∧R ts.reverse (fun Γ'=>it3 Γ' (.ref a)=some ts) Γ1):iRv ta Y τ Γ R:=h
theorem t_compM {wi:I3} {g:G3} {tc:T3} {tm:M3} {own:List Str} {cap:List (Nat×Str)} (h:wi Y τ Γ fun ts gd Γ1=>∃ P:List T→S3→List T→Gp→Prop,P ts (cSt own cap τ) [] Γ1∧(∀ τ ys Γ,P [] τ ys Γ→gd Γ∧∀ D,Γ D=none→Z (.ref D) (up Γ D (.lst ys))) ∧
 ∀ x r τ ys Γ,P (x::r) τ ys Γ→gd Γ∧g Y0 x τ Γ fun τ3 Γ3=>tc Y0 τ3 Γ3 fun b Γ4=>if b=true then tm τ3 ys Γ4 (P r) else P r τ3 ys Γ4):eCompM wi g tc tm own cap Y τ Γ Z:=h
theorem t_mfor {wi:I3} {g:G3} {tc:T3} {tm:M3} {ys:List T} {R:S3→List T→Gp→Prop} (h:wi Y0 τ Γ fun ts gd Γ1=>∃ P:List T→S3→List T→Gp→Prop,P ts τ ys Γ1∧(∀ τ ys Γ,P [] τ ys Γ→gd Γ∧R τ ys Γ) ∧
 ∀ x r τ ys Γ,P (x::r) τ ys Γ→gd Γ∧g Y0 x τ Γ fun τ3 Γ3=>tc Y0 τ3 Γ3 fun b Γ4=>if b=true then tm τ3 ys Γ4 (P r) else P r τ3 ys Γ4):mFor wi g tc tm τ ys Γ R:=h
theorem t_memit {te:E3} {ys:List T} {R:S3→List T→Gp→Prop} (hz:ys.length < sizeLine) (h:te Y0 τ Γ fun y Γ1=>R τ (ys++[y]) Γ1):mEmit te τ ys Γ R:=⟨hz,h⟩
end
end L3
namespace Sr
open PySem PyProof.Rows
def strOrd:KeyOrd where
 α:=Str
 blt a b:=decide (a.cps.toList < b.cps.toList)
 irrefl a:=by simpa using List.lt_irrefl _
 trans a b c h h':=by simp only [decide_eq_true_eq] at *; exact List.lt_trans h h'
 negTrans a b c h:=by
  simp only [decide_eq_true_eq] at *
  by_cases k:a.cps.toList < b.cps.toList
  ·exact .inl k
  ·exact .inr (List.lt_of_le_of_lt (List.not_lt.mp k) h)
 total a b h h':=by
  simp only [decide_eq_false_iff_not] at *
  have e:a.cps.toList=b.cps.toList:=List.le_antisymm (List.not_lt.mp h') (List.not_lt.mp h)
  obtain ⟨⟨x⟩⟩:=a
  obtain ⟨⟨y⟩⟩:=b
  cases e
  rfl
def IsS (h:Heap) (v:Value) (i:Str):Prop:=∃ a o t rest n,v=.ref a∧h.get? a=some o∧o.cls=.type "tuple" ∧ o.data=.seq (Value.str i t::rest).toArray n
def fstZ (h:Heap) (v:Value):Str:=match v with
 | .ref a=>match h.get? a with
  | some o=>match o.data with
   | .seq xs _=>match (xs[0]? : Option Value) with
    | some (Value.str i _)=>i
    | _ => ""
   | _ => ""
  | none => ""
 | _ => ""
theorem IsS.fst {h:Heap} {v:Value} {i:Str} (x:IsS h v i):fstZ h v=i:=by
 obtain ⟨a,o,t,rest,n,rfl,g,c,d⟩:=x
 unfold fstZ
 simp [g,d]
theorem IsS.keep {h h':Heap} {v:Value} {i:Str} (x:IsS h v i) (k:∀ b o,h.get? b=some o→v=.ref b→h'.get? b=some o):IsS h' v i:=by
 obtain ⟨a,o,t,rest,n,rfl,g,c,d⟩:=x
 exact ⟨a,o,t,rest,n,rfl,k a o g rfl,c,d⟩
theorem zip_fstS (f:Value→Str):∀ vs:List Value,(vs.zip vs).map (fun p=>f p.1)=vs.map f
 | []=>rfl
 | v::r=>by rw [List.zip_cons_cons,List.map_cons,List.map_cons,zip_fstS f r]
section
variable {M:Model} {prog:Program} {w:World} {A:Around} {E:Value→Shared→Prop} {s:Shared}
theorem first_S {v:Value} {i:Str} {Q:Option Value→Shared→Prop} (h:IsS s.heap v i) (q:∀ t,Q (some (.str i t)) s):wpAny M A (firstOfTuple' v) Q E s:=by
 obtain ⟨a,o,t,rest,n,rfl,g,c,d⟩:=h
 show wpAny M A (typeOf (.ref a) >>= _) Q E s
 refine wpAny_bind (wpAny_typeOf (T := "tuple") ⟨o,g,c⟩ ?_)
 rw [if_neg (by decide)]
 refine wpAny_bind (listItems_at g d ?_)
 refine wpAny_pure ?_
 have e:(Value.str i t::rest).toArray[0]? = some (Value.str i t):=by simp
 first
  | exact q t
  | (rw [e]; exact q t)
theorem kind_S {vs:List Value} {Q:SortKind→Shared→Prop} (h:∀ v∈vs,∃ i,IsS s.heap v i) (ne:0 < vs.length) (q:Q (tuples' true) s):wpAny M A (keyKind' vs.toArray) Q E s:=by
 rw [keyKind'_eq]
 refine wpAny_bind (wp_arrM (fun r=>∃ i t,r=some (Value.str i t)) (fun v hv Q' hQ=>?_) fun rs hl hr=>?_)
 ·obtain ⟨i,hp⟩:=h v hv
  exact first_S hp fun t=>hQ _ ⟨i,t,rfl⟩
 have ha:(rs.toArray.all fun x=>x.isSome)=true:=by
  rw [List.all_toArray,List.all_eq_true]
  intro x hx
  obtain ⟨z,t,rfl⟩:=hr x hx
  rfl
 rw [if_pos ha]
 refine wpAny_bind (wpAny_rule ?_)
 rw [oneTypeOnly'_eq]
 have hf:Array.filterMap id rs.toArray=(rs.filterMap id).toArray:=by simp
 rw [hf]
 have hm:∀ v∈rs.filterMap id,∃ z t,v=Value.str z t:=fun v hv=>by
  obtain ⟨x,hx,e⟩:=List.mem_filterMap.mp hv
  obtain ⟨z,t,rfl⟩:=hr x hx
  cases e
  exact ⟨z,t,rfl⟩
 have hlen:(rs.filterMap id).length=rs.length:=by
  clear hf hm ha hl
  induction rs with
  | nil=>rfl
  | cons x r ih=>
   obtain ⟨z,t,rfl⟩:=hr x (by simp)
   show ((Value.str z t)::r.filterMap id).length=_
   rw [List.length_cons,List.length_cons,ih fun y hy=>hr y (by simp [hy])]
 refine wpAny_bind (wpAny_bind (wp_arrM (fun r=>r=Value.type "str") (fun v hv Q' hQ=>?_) fun ts hl2 ht=>?_))
 ·obtain ⟨z,t,rfl⟩:=hm v hv
  exact wpAny_typeOf (T := "str") rfl (hQ _ rfl)
 cases ts with
 | nil=>rw [hlen,hl] at hl2; simp at hl2; omega
 | cons x r=>
  have hx:=ht x (by simp)
  subst hx
  have hall:((Value.type "str" :: r).toArray.all fun y=>y == Value.type "str")=true:=by
   rw [List.all_toArray,List.all_eq_true]
   intro y hy
   rw [ht y hy]
   decide
  show wpAny M A (pure (if ((Value.type "str" :: r).toArray.all fun y=>y == Value.type "str")=true then some (Value.type "str") else none)) _ E s
  rw [if_pos hall]
  exact wpAny_pure (wpAny_pure q)
theorem lt_S {u v:Value} {i j:Str} {Q:Bool→Shared→Prop} (hu:IsS s.heap u i) (hv:IsS s.heap v j) (ne:i≠j) (q:Q (decide (i.cps.toList < j.cps.toList)) s):wpAny (model prog w) A (keyLt' (tuples' true) u v) Q E s:=by
 obtain ⟨a,o1,t1,r1,n1,rfl,g1,c1,d1⟩:=hu
 obtain ⟨b,o2,t2,r2,n2,rfl,g2,c2,d2⟩:=hv
 show wpAny (model prog w) A (Builtin.List.listItems (.ref a) >>= _) Q E s
 refine wpAny_bind (listItems_at g1 d1 ?_)
 refine wpAny_bind (listItems_at g2 d2 ?_)
 refine wpAny_bind ?_
 have e0:((Value.str i t1::r1).toArray.toList.zip (Value.str j t2::r2).toArray.toList).zipIdx=((Value.str i t1,Value.str j t2),0)::(r1.zip r2).zipIdx 1:=rfl
 rw [e0,List.forIn_cons]
 refine wpAny_bind (wpAny_bind (L2.eqAt_V (y:=.str i) (x:=.str j) ⟨t1,rfl⟩ ⟨t2,rfl⟩ rfl rfl prog w _ _ ?_))
 have e1:L2.eqV (.str i) (.str j)=false:=by simp [L2.eqV,ne]
 rw [e1,if_pos (by decide)]
 refine wpAny_bind (oneLt_str ?_)
 refine wpAny_pure ?_
 dsimp only
 exact wpAny_pure (wpAny_pure q)
theorem sort_tree_S {a:Addr} {vs:List Value} {n:Nat} {P:Fin→Shared→Prop} (ho:s.heap.get? a=some (seqObj "list" vs.toArray n)) (hI:∀ v∈vs,∃ i,IsS s.heap v i∧v≠.ref a) (nd:(vs.map (fstZ s.heap)).Nodup) (h64:vs.length < 64)
  (h:∀ out:Array Value,out.toList.Perm vs→(out.toList.map (fstZ s.heap)).Pairwise (fun u v=>¬ v.cps.toList < u.cps.toList)→P (.done (.ret .none)) { s with heap:=sortedHeap s.heap a vs out }):wpAny (model prog w) A (Builtin.«list.sort» { pos:=[.ref a] }) P E s:=by
 have hl:∀ k:Nat,k < 64→k≤sizeLine:=fun k hk=>by rw [sizeLine_eq]; omega
 rw [list_sort_plain]
 have ha:=Heap.lt_size ho
 refine wpAny_bind (listItems_at ho rfl ?_)
 refine wpAny_bind (listUpdate_at ho rfl ?_ (by simpa using hl _ h64) (by simp))
 obtain ⟨e1,ho1⟩:∃ e,(s.heap.update a (Obj.mapSeq fun x=>#[])).get? a=some (seqObj "list" #[] e):=⟨_,get?_update_seq ho fun x=>#[]⟩
 refine wpAny_bind (seqEpoch_at ho1 rfl ?_)
 refine wpAny_bind (wpAny_newTuple ?_ (by simpa using hl _ h64))
 refine wpAny_bind (wpAny_newList ?_)
 refine wpAny_holding ?_
 have ho6:(((s.heap.update a (Obj.mapSeq fun x=>#[])).push (seqObj "tuple" vs.toArray 0)).push (seqObj "list" #[] 0)).get? a=some (seqObj "list" #[] e1):=by
  rw [Heap.get?_push_ne _ _ _ (by rw [size_push',Heap.size_update]; exact Nat.ne_of_lt (Nat.lt_succ_of_lt ha)),Heap.get?_push_ne _ _ _ (by rw [Heap.size_update]; exact Nat.ne_of_lt ha)]
  exact ho1
 have keep:∀ b o,b≠a→s.heap.get? b=some o→(((s.heap.update a (Obj.mapSeq fun x=>#[])).push (seqObj "tuple" vs.toArray 0)).push (seqObj "list" #[] 0)).get? b=some o:=fun b o nb hb=>by
  have hbl:=Heap.lt_size hb
  rw [Heap.get?_push_ne _ _ _ (by rw [size_push',Heap.size_update]; exact Nat.ne_of_lt (Nat.lt_succ_of_lt hbl)),Heap.get?_push_ne _ _ _ (by rw [Heap.size_update]; exact Nat.ne_of_lt hbl)]
  rw [Heap.get?_update_ne _ _ _ _ nb]
  exact hb
 dsimp only
 have sz:∀ out:Array Value,out.toList.Perm vs→out.size≤sizeLine+1:=fun out hp=>by
  have:=hp.length_eq
  rw [Array.length_toList] at this
  rw [this]
  exact Nat.le_succ_of_le (hl _ h64)
 by_cases h2:vs.length < 2
 ·have h2':vs.toArray.size < 2:=by simpa using h2
  rw [if_pos h2',if_pos h2']
  refine wpAny_bind (wpAny_pure ?_)
  rw [StateT.run_pure]
  refine wpAny_bind (wpAny_pure ?_)
  dsimp only
  refine wpAny_bind (seqEpoch_at ho6 rfl ?_)
  have hp:(((arrOf (SortSt.mk' general' (vs.toArray.zip vs.toArray) #[] 7 none)).map fun x=>x.2)).toList.Perm vs:=out_perm (Array.Perm.refl _)
  refine wpAny_bind (listUpdate_at ho6 rfl ?_ (by simp) (sz _ hp))
  rw [if_neg (by simp)]
  refine wpAny_pure (h _ hp ?_)
  have hle:=hp.length_eq
  generalize (((arrOf (SortSt.mk' general' (vs.toArray.zip vs.toArray) #[] 7 none)).map fun x=>x.2)).toList=l at hle
  match l,hle with
  | [],_=>exact .nil
  | [x],_=>exact List.pairwise_singleton _ _
  | x::y::r,hle=>rw [List.length_cons,List.length_cons] at hle; omega
 ·have h2':¬ vs.toArray.size < 2:=by simpa using h2
  rw [if_neg h2']
  have mem:∀ x∈(pairsOf vs).toList,x.1∈vs∧x.2=x.1:=fun x hx=>by
   unfold pairsOf at hx
   rw [Array.toList_zip] at hx
   obtain ⟨p,q⟩:=x
   refine ⟨(List.of_mem_zip hx).1,?_⟩
   have:∀ (l:List Value),(p,q)∈l.zip l→q=p:=fun l=>by
    induction l with
    | nil=>intro z; simp at z
    | cons y r ih=>
     intro z
     rw [List.zip_cons_cons] at z
     rcases List.mem_cons.mp z with z | z
     ·cases z; rfl
     ·exact ih z
   exact this _ hx
  refine wpAny_bind (kind_S (fun v hv=>?_) (by omega) ?_)
  ·obtain ⟨i,hi,nv⟩:=hI v hv
   exact ⟨i,hi.keep fun b o g e=>keep b o (fun z=>nv (by rw [e,z])) g⟩
  rw [if_neg h2']
  have B:SB (pairsOf vs) (tuples' true) (SortSt.mk' (tuples' true) (vs.toArray.zip vs.toArray) #[] 7 none):=⟨Array.Perm.refl _,rfl,rfl,rfl⟩
  have psz:(pairsOf vs).size=vs.length:=by unfold pairsOf; simp
  have L:∀ A,LtIs (model prog w) A { s with heap:=((s.heap.update a (Obj.mapSeq fun x=>#[])).push (seqObj "tuple" vs.toArray 0)).push (seqObj "list" #[] 0) } (tuples' true) (pairsOf vs) strOrd (fun p=>fstZ s.heap p.1):=fun A x hx y hy nxy Q E q=>by
   obtain ⟨i,hi,ni⟩:=hI x.1 (mem x hx).1
   obtain ⟨j,hj,nj⟩:=hI y.1 (mem y hy).1
   dsimp only at nxy q
   rw [hi.fst,hj.fst] at nxy q
   exact lt_S (hi.keep fun b o g e=>keep b o (fun z=>ni (by rw [e,z])) g) (hj.keep fun b o g e=>keep b o (fun z=>nj (by rw [e,z])) g) nxy q
  have D:Dif (O:=strOrd) (fun p:Keyed=>fstZ s.heap p.1) (pairsOf vs):=by
   unfold Dif
   have:(pairsOf vs).toList.map (fun p:Keyed=>fstZ s.heap p.1)=vs.map (fstZ s.heap):=by
    unfold pairsOf
    rw [Array.toList_zip]
    exact zip_fstS (fstZ s.heap) vs
   exact Eq.mpr (congrArg List.Nodup this) nd
  refine wpAny_bind (wpAny_mono (o_runs (d0:=("" : Str)) (Q:=fun _ st'=>(arrOf st').Perm (pairsOf vs)∧failedOf st'=none∧SortTo (O:=strOrd) (fun p:Keyed=>fstZ s.heap p.1) ("" : Str) (arrOf st') (pairsOf vs).size) (L A) D B (by omega) (by omega) fun st' hp hf so=>⟨hp,hf,so⟩) (fun r s' hr=>?_) (fun _ _ z=>z))
  obtain ⟨rfl,hp,hf,so⟩:=hr
  obtain ⟨u,st'⟩:=r
  dsimp only at hp hf so ⊢
  refine wpAny_bind (seqEpoch_at ho6 rfl ?_)
  have op:=out_perm hp
  refine wpAny_bind (listUpdate_at ho6 rfl ?_ (by simp) (sz _ op))
  rw [hf]
  dsimp only
  rw [if_neg (by simp)]
  refine wpAny_pure (h _ op ?_)
  rw [List.pairwise_iff_getElem]
  intro i j hi hj hij
  rw [List.length_map,Array.length_toList,Array.size_map] at hi hj
  have hz:=hp.size_eq
  have:=so i j (Nat.le_of_lt hij) (by omega)
  unfold Le at this
  have k1:=kat_at (O:=strOrd) (fun p:Keyed=>fstZ s.heap p.1) ("" : Str) (Array.getElem?_eq_getElem hi)
  have k2:=kat_at (O:=strOrd) (fun p:Keyed=>fstZ s.heap p.1) ("" : Str) (Array.getElem?_eq_getElem hj)
  have this:=(congr (congrArg strOrd.blt k2.symm) k1.symm).trans this
  have m1:=mem (arrOf st')[i] ((Array.perm_iff_toList_perm.mp hp).mem_iff.mp (by simp))
  have m2:=mem (arrOf st')[j] ((Array.perm_iff_toList_perm.mp hp).mem_iff.mp (by simp))
  simp only [List.getElem_map,Array.getElem_toList,Array.getElem_map]
  rw [m1.2,m2.2]
  have:decide ((fstZ s.heap (arrOf st')[j].1).cps.toList < (fstZ s.heap (arrOf st')[i].1).cps.toList)=false:=this
  exact of_decide_eq_false this
end
theorem fst_sameS {h h':Heap}:∀ {vs:List Value},(∀ v∈vs,∃ i,IsS h v i∧IsS h' v i)→vs.map (fstZ h)=vs.map (fstZ h')
 | [],_=>rfl
 | v::r,H=>by
  obtain ⟨i,a,b⟩:=H v (by simp)
  rw [List.map_cons,List.map_cons,a.fst,b.fst,fst_sameS fun v hv=>H v (by simp [hv])]
section
variable {prog:Program} {w:World} {A:Around} {E:Value→Shared→Prop} {s:Shared}
theorem sort_newS {vs:List Value} {Q:Value→Shared→Prop} (h64:vs.length < 64) (hI:∀ v∈vs,∃ i,IsS s.heap v i) (nd:(vs.map (fstZ s.heap)).Nodup)
  (h:∀ (out:Array Value) (h':Heap),out.toList.Perm vs→(out.toList.map (fstZ s.heap)).Pairwise (fun u v=>¬ v.cps.toList < u.cps.toList)→(∀ b o,s.heap.get? b=some o→h'.get? b=some o)→(∃ e,h'.get? s.heap.objs.size=some (seqObj "list" out e))→Q (.ref s.heap.objs.size) { s with heap:=h' }) :
  wpAny (model prog w) A (do
   let l ← newList vs
   let _ ← holding [l] (call (.builtin "list.sort") [l] [])
   ret l) (fun fin s'=>∃ v,fin=Fin.done (Flow.ret v)∧Q v s') E s:=by
 have hz:vs.length≤sizeLine:=by rw [sizeLine_eq]; omega
 refine wpAny_bind (wpAny_newList ?_ hz)
 have hoL:(s.heap.push (seqObj "list" vs.toArray 0)).get? s.heap.objs.size=some (seqObj "list" vs.toArray 0):=Heap.get?_push_size _ rfl
 have up:∀ v∈vs,∃ i,IsS s.heap v i∧IsS (s.heap.push (seqObj "list" vs.toArray 0)) v i:=fun v hv=>by
  obtain ⟨i,x⟩:=hI v hv
  exact ⟨i,x,x.keep fun b o g _=>Heap.get?_push_of_some _ g⟩
 refine wpAny_bind (wpAny_holding (wpAny_call_entry slot_list_sort ⟨_,hoL,rfl⟩ entry_list_sort (sort_tree_S hoL (fun v hv=>?_) ?_ h64 fun out hp hs=>⟨.none,rfl,wpAny_pure ⟨_,rfl,?_⟩⟩) (args_list_sort _)))
 ·obtain ⟨i,x,y⟩:=up v hv
  refine ⟨i,y,fun e=>?_⟩
  obtain ⟨a,o,t,r,n,e2,g,_⟩:=x
  rw [e2] at e
  cases e
  exact Nat.lt_irrefl _ (Heap.lt_size g)
 ·rw [← fst_sameS up]; exact nd
 ·rw [← fst_sameS (vs:=out.toList) fun v hv=>up v (hp.mem_iff.mp hv)] at hs
  obtain ⟨e,he⟩:=sortedHeap_at (vs:=vs) (out:=out) hoL
  refine h out _ hp hs (fun b o hb=>?_) ⟨e,he⟩
  have hl:=Heap.lt_size hb
  rw [sortedHeap_old (Nat.ne_of_lt hl) (by rw [size_push']; exact Nat.lt_succ_of_lt hl)]
  exact Heap.get?_push_of_some _ hb
theorem sorted_S {l:Addr} {vs:List Value} {Q:Value→Shared→Prop} (hl:s.heap.IsList l vs.toArray) (h64:vs.length < 64) (hI:∀ v∈vs,∃ i,IsS s.heap v i) (nd:(vs.map (fstZ s.heap)).Nodup)
  (h:∀ (out:Array Value) (a:Addr) (h':Heap),out.toList.Perm vs→(out.toList.map (fstZ s.heap)).Pairwise (fun u v=>¬ v.cps.toList < u.cps.toList)→s.heap.objs.size≤a→(∀ b o,s.heap.get? b=some o→h'.get? b=some o)→(∃ e,h'.get? a=some (seqObj "list" out e))→Q (.ref a) { s with heap:=h' }) :
  wpAny (model prog w) A (call (.builtin "sorted") [.ref l]) Q E s:=by
 have hz:vs.length≤sizeLine:=by rw [sizeLine_eq]; omega
 refine Calls.call_function_entry kind_sorted plain_sorted entry_sorted (args_sorted1 _) ?_
 show wpAny _ _ (do
  checkCount "sorted" 1 1 1
  let __do_lift ← collect (.ref l)
  let l ← newList __do_lift
  let _ ← holding [l] (call (.builtin "list.sort") [l] [])
  ret l) _ _ _
 refine wpAny_bind (wpAny_pure ?_)
 refine wpAny_bind (collect_list hl ?_ hz)
 have keep:∀ b o,s.heap.get? b=some o→((s.heap.push (seqObj "list" #[] 0)).update s.heap.objs.size (Obj.mapSeq fun x=>x++vs.toArray)).get? b=some o:=fun b o hb=>by
  have hbl:=Heap.lt_size hb
  rw [Heap.get?_update_ne _ _ _ _ (Nat.ne_of_lt hbl),Heap.get?_push_ne _ _ _ (Nat.ne_of_lt hbl)]
  exact hb
 have hsz:((s.heap.push (seqObj "list" #[] 0)).update s.heap.objs.size (Obj.mapSeq fun x=>x++vs.toArray)).objs.size=s.heap.objs.size+1:=by rw [Heap.size_update,size_push']
 have up:∀ v∈vs,∃ i,IsS s.heap v i∧IsS ((s.heap.push (seqObj "list" #[] 0)).update s.heap.objs.size (Obj.mapSeq fun x=>x++vs.toArray)) v i:=fun v hv=>by
  obtain ⟨i,x⟩:=hI v hv
  exact ⟨i,x,x.keep fun b o g _=>keep b o g⟩
 refine sort_newS (s:={ s with heap:=(s.heap.push (seqObj "list" #[] 0)).update s.heap.objs.size (Obj.mapSeq fun x=>x++vs.toArray) }) h64 (fun v hv=>let ⟨i,_,y⟩:=up v hv; ⟨i,y⟩) (by rw [← fst_sameS up]; exact nd) fun out h' hp hs k he=>?_
 rw [← fst_sameS (vs:=out.toList) fun v hv=>up v (hp.mem_iff.mp hv)] at hs
 exact h out _ h' hp hs (by dsimp only; rw [hsz]; exact Nat.le_succ _) (fun b o hb=>k b o (keep b o hb)) he
end
end Sr
namespace L2
open PySem PyProof.Rows
section
variable {X:Cx} {pins:List (Addr×Obj)} {σ:St} {H:Hp} {s:Shared}
theorem isS_of (I:Inv X pins σ H s) {a:Addr} {i:Str} {r:List V} (e:H a=some (.tup (.str i::r))):Sr.IsS s.heap (.ref a) i:=by
 obtain ⟨is2,r2,t2,_⟩:=I.tuple (SqT.of (K:=X.K) e)
 cases r2 with
 | cons ra r3=>
  obtain ⟨t,rfl⟩:=ra
  obtain ⟨o,g,c,n,d⟩:=t2
  exact ⟨a,o,t,_,n,rfl,g,c,d⟩
theorem keys_eqS (I:Inv X pins σ H s):∀ {ys:List V} {its:List Value},Vals ys its→(∀ y∈ys,∃ a i r,y=.ref a∧H a=some (.tup (.str i::r)))→its.map (Sr.fstZ s.heap)=ys.map (fstS H)∧∀ v∈its,∃ i,Sr.IsS s.heap v i
 | _,_,.nil,_=>⟨rfl,fun _ h=>(nomatch h)⟩
 | _,_,.cons (a:=y) r h',hy=>by
  obtain ⟨a,i,rr,rfl,e⟩:=hy y (by simp)
  cases r
  obtain ⟨k1,k2⟩:=keys_eqS I h' fun y hm=>hy y (by simp [hm])
  have x:=isS_of I e
  refine ⟨?_,fun v hv=>?_⟩
  ·rw [List.map_cons,List.map_cons,k1,x.fst,fstS_at e]
  ·rcases List.mem_cons.mp hv with rfl | hv
   ·exact ⟨i,x⟩
   ·exact k2 v hv
theorem call_sortS:CallR X (.builtin "sorted") (fun xs H Q=>∃ p ys,xs=[.ref p]∧H p=some (.lst ys)∧ys.length < 64∧(∀ y∈ys,∃ a i r,y=.ref a∧H a=some (.tup (.str i::r)))∧(ys.map (fstS H)).Nodup∧∀ zs l,zs.Perm ys→(zs.map (fstS H)).Pairwise (fun u v=>¬ v.cps.toList < u.cps.toList)→H l=none→Q (.ref l) (upd H l (.lst zs))):=by
 intro pins s σ H xs us Q I r h
 obtain ⟨p,ys,rfl,hp,h64,hy,hd,q⟩:=h
 obtain ⟨u,rfl,rx⟩:=vals1 r
 cases rx
 obtain ⟨its,rv,pl,hz⟩:=I.list (SqL.of (K:=X.K) hp)
 have hl:=rv.length
 obtain ⟨k1,k2⟩:=keys_eqS I rv hy
 refine Sr.sorted_S pl.isList (by omega) k2 (by rw [k1]; exact hd) fun out a h' hperm hs ge keep he=>?_
 obtain ⟨e,he⟩:=he
 obtain ⟨zs,pz,hvz⟩:=vals_perm hperm rv
 obtain ⟨k3,_⟩:=keys_eqS I hvz fun y hm=>hy y (pz.mem_iff.mp hm)
 rw [k3] at hs
 have hf:H a=none:=I.hok.fresh ge
 exact ⟨.ref a,_,I.laid (t':=s.toks) keep ge (show ObjOk X.prog X.w _ _ _ (.lst zs) from ⟨by rw [pz.length_eq]; exact hz,out.toList,e,hvz,by rw [he]⟩),rfl,q zs a pz hs hf⟩
end
end L2
namespace L3
open PySem PySem.Spec L2
theorem rs_keysS {H:Hp} {α:Type} {f:α→T} {key:α→Str} (hf:∀ x,∃ r,f x=.tup (.str (key x)::r)):∀ {ns:List α} {vs:List V},Rs H vs (ns.map f)→vs.map (fstS H)=ns.map key∧∀ y∈vs,∃ a i r,y=.ref a∧H a=some (.tup (.str i::r))
 | [],vs,h=>by rw [rs_inv0 h]; exact ⟨rfl,fun _ h=>(nomatch h)⟩
 | n::ns,vs,h=>by
  obtain ⟨v,ws,rfl,a,b⟩:=rs_inv h
  obtain ⟨r,er⟩:=hf n
  rw [er] at a
  obtain ⟨p,us,rfl,hp,q⟩:=i_tup a
  obtain ⟨w,us',rfl,r1,_⟩:=rs_inv q
  rw [i_str r1] at hp
  obtain ⟨k1,k2⟩:=rs_keysS hf b
  refine ⟨by rw [List.map_cons,List.map_cons,k1,fstS_at hp],fun y hy=>?_⟩
  rcases List.mem_cons.mp hy with rfl | hy
  ·exact ⟨p,_,_,rfl,hp⟩
  ·exact k2 y hy
section
variable {X:Cx} {E:St→XK}
theorem cq_sortS {α:Type} (f:α→T) (key:α→Str) (hf:∀ x,∃ r,f x=.tup (.str (key x)::r)):CallQ X (.builtin "sorted") (fun xs Γ Z=>∃ (p:Addr) (ns:List α),xs=[.ref p]∧Γ p=some (.lst (ns.map f))∧ns.length < 64∧(ns.map key).Nodup∧∀ (ms:List α) (l:Addr),ms.Perm ns→(ms.map key).Pairwise (fun u v=>¬ v.cps.toList < u.cps.toList)→Γ l=none→Z (.ref l) (up Γ l (.lst (ms.map f)))):=
 ⟨_,call_sortS,fun vs xs H Γ Q Z r hr q0 vr=>by
  obtain ⟨p,ns,e,g,h64,nd,z⟩:=q0
  subst e
  obtain ⟨v,rfl,a⟩:=rs1 r
  obtain ⟨us,hu,q⟩:=hr p _ g
  obtain ⟨k1,k2⟩:=rs_keysS hf q
  refine ⟨p,us,by rw [i_ref a],hu,by rw [q.length,List.length_map]; exact h64,k2,by rw [k1]; exact nd,fun zs l pz hs hl=>?_⟩
  obtain ⟨ms,pm,hm⟩:=rs_perm pz q
  have k:=keep_new (o:=.lst zs) hl
  rw [(rs_keysS hf hm).1] at hs
  exact vr _ _ _ _ (.make hl) (hr.make (o3:=.lst (ms.map f)) hl ⟨_,upd_same,hm.mono (tq_kp k)⟩) r_ref (z ms l pm hs (hr.free hl))⟩
end
end L3
namespace Tg
open PySem L2 L3
mutual
def Kd.tr:Kd→T
 | .num w=>.tup [.str "num",.int w]
 | .text=>.tup [.str "text"]
 | .row k=>.tup [.str "row",k.tr]
 | .rec_ fs=>.tup [.str "rec",.tup (trF fs)]
 | .pick fs=>.tup [.str "pick",.tup (trF fs)]
def trF:List (Str×Kd)→List T
 | []=>[]
 | (n,k)::r=>.tup [.str n,k.tr]::trF r
end
theorem trF_map:∀ fs:List (Str×Kd),trF fs=fs.map fun p=>.tup [.str p.1,p.2.tr]
 | []=>rfl
 | (n,k)::r=>by rw [trF,trF_map r]; rfl
theorem trF_len (fs:List (Str×Kd)):(trF fs).length=fs.length:=by rw [trF_map,List.length_map]
theorem trF_get {fs:List (Str×Kd)} {i:Nat} {n:Str} {k:Kd} (h:fs[i]? = some (n,k)):(trF fs)[i]? = some (.tup [.str n,k.tr]):=by rw [trF_map,List.getElem?_map,h]; rfl
theorem trF_app:∀ (fs gs:List (Str×Kd)),trF (fs++gs)=trF fs++trF gs:=fun fs gs=>by rw [trF_map,trF_map,trF_map,List.map_append]
def findF:List (Str×Kd)→Str→Option (Nat×Kd)
 | [],_=>none
 | (m,k)::r,n=>if m=n then some (0,k) else (findF r n).map fun p=>(p.1+1,p.2)
theorem findF_mem:∀ {fs:List (Str×Kd)} {n:Str} {j:Nat} {k:Kd},findF fs n=some (j,k)→fs[j]? = some (n,k)
 | [],_,_,_,h=>by cases h
 | (m,q)::r,n,j,k,h=>by
  unfold findF at h
  by_cases e:m=n
  ·rw [if_pos e] at h; cases h; rw [e]; rfl
  ·rw [if_neg e] at h
   cases f:findF r n with
   | none=>rw [f] at h; cases h
   | some p=>
    rw [f] at h
    cases h
    exact findF_mem (j:=p.1) (k:=p.2) f
theorem goodF_mem:∀ {fs:List (Str×Kd)} {p:Str×Kd},goodF fs→p∈fs→p.2.good
 | (nm,k)::r,p,g,h=>by
  unfold goodF at g
  rcases List.mem_cons.mp h with rfl | h
  ·exact g.2.1
  ·exact goodF_mem g.2.2 h
def okc (c:Nat):Bool:=decide (32≤c) && decide (c≤126) && !decide (c=37)
inductive Has:Kd→T→Prop
 | num {w:Int} {i:Int} (l:-(65536 ^ w.toNat)≤2 * i) (h:2 * i < 65536 ^ w.toNat):Has (.num w) (.int i)
 | text {z:Str} (l:z.length≤60) (h:z.cps.toList.all okc=true):Has .text (.str z)
 | row {k:Kd} {ts:List T} (l:ts.length≤60) (q:∀ t∈ts,Has k t):Has (.row k) (.tup ts)
 | rec_ {fs:List (Str×Kd)} {ts:List T} (l:ts.length=fs.length) (q:∀ (j:Nat) (n:Str) (k:Kd) (t:T),fs[j]? = some (n,k)→ts[j]? = some t→Has k t):Has (.rec_ fs) (.tup ts)
 | pick {fs:List (Str×Kd)} {n:Str} {k:Kd} {j:Nat} {t:T} (f:findF fs n=some (j,k)) (q:Has k t):Has (.pick fs) (.tup [.str n,t])
theorem findF_at:∀ {fs:List (Str×Kd)} {n:Str} {j:Nat} {k:Kd},(fs.map (·.1)).Nodup→fs[j]? = some (n,k)→findF fs n=some (j,k)
 | [],_,_,_,_,h=>by simp at h
 | (m,q)::r,n,j,k,nd,h=>by
  rw [List.map_cons,List.nodup_cons] at nd
  unfold findF
  cases j with
  | zero=>cases h; rw [if_pos rfl]
  | succ j=>
   have h:r[j]? = some (n,k):=by simpa using h
   have ne:m≠n:=fun e=>nd.1 (by rw [e]; exact List.mem_map.mpr ⟨(n,k),List.mem_of_getElem? h,rfl⟩)
   rw [if_neg ne,findF_at nd.2 h]
   rfl
inductive Ap:List T→List T→Prop
 | here {p q:T} {r s:List T} (h:p≠q):Ap (p::r) (q::s)
 | there {p:T} {r s:List T} (h:Ap r s):Ap (p::r) (p::s)
theorem Ap.symm:∀ {c o:List T},Ap c o→Ap o c
 | _,_,.here h=>.here (Ne.symm h)
 | _,_,.there h=>.there h.symm
def vx:T→V
 | .int i=>.int i
 | .str z=>.str z
 | _=>.non
mutual
def sK:Kd→Nat
 | .num w=>w.toNat
 | .text=>1
 | .row _=>1
 | .rec_ fs=>sF fs
 | .pick fs=>sP fs
def sF:List (Str×Kd)→Nat
 | []=>0
 | (_,k)::r=>sK k+sF r
def sP:List (Str×Kd)→Nat
 | []=>0
 | (_,k)::r=>max (1+sK k) (sP r)
end
theorem depth1:∀ k:Kd,1≤k.depth
 | .num _=>by rw [Kd.depth]; exact Nat.le_refl _
 | .text=>by rw [Kd.depth]; exact Nat.le_refl _
 | .row k=>by rw [Kd.depth]; omega
 | .rec_ fs=>by rw [Kd.depth]; omega
 | .pick fs=>by rw [Kd.depth]; omega
mutual
theorem sK_le:∀ (k:Kd) (D:Nat),k.good→k.depth≤D+1→sK k≤4 * 6 ^ D
 | .num w,D,g,h=>by
  unfold Kd.good at g
  rw [sK]
  have:1≤6 ^ D:=Nat.pow_pos (by decide)
  omega
 | .text,D,g,h=>by
  rw [sK]
  have:1≤6 ^ D:=Nat.pow_pos (by decide)
  omega
 | .row k,D,g,h=>by
  rw [sK]
  have:1≤6 ^ D:=Nat.pow_pos (by decide)
  omega
 | .rec_ fs,D,g,h=>by
  unfold Kd.good at g
  rw [Kd.depth] at h
  rw [sK]
  cases D with
  | zero=>
   have:=depthF_pos g.2.1
   omega
  | succ D=>
   have:=(sF_le fs D g.1 (by omega)).1
   have h6:fs.length * (4 * 6 ^ D)≤6 * (4 * 6 ^ D):=Nat.mul_le_mul_right _ g.2.2.1
   rw [Nat.pow_succ]
   omega
 | .pick fs,D,g,h=>by
  unfold Kd.good at g
  rw [Kd.depth] at h
  rw [sK]
  cases D with
  | zero=>
   have:=depthF_pos g.2.1
   omega
  | succ D=>
   have:=(sF_le fs D g.1 (by omega)).2
   have:1≤6 ^ D:=Nat.pow_pos (by decide)
   rw [Nat.pow_succ]
   omega
theorem sF_le:∀ (fs:List (Str×Kd)) (D:Nat),goodF fs→depthF fs≤D+1→sF fs≤fs.length * (4 * 6 ^ D)∧sP fs≤1+4 * 6 ^ D
 | [],D,g,h=>by rw [sF,sP]; exact ⟨Nat.zero_le _,Nat.zero_le _⟩
 | (n,k)::r,D,g,h=>by
  unfold goodF at g
  unfold depthF at h
  have a:=sK_le k D g.2.1 (by omega)
  have b:=sF_le r D g.2.2 (by omega)
  rw [sF,sP,List.length_cons,Nat.succ_mul]
  omega
theorem depthF_pos:∀ {fs:List (Str×Kd)},1≤fs.length→1≤depthF fs
 | [],h=>by cases h
 | (n,k)::r,h=>by
  unfold depthF
  have:=depth1 k
  omega
end
theorem sK_max {k:Kd} (g:k.good) (d:k.depth≤5):sK k≤5184:=by
 have:=sK_le k 4 g (by omega)
 exact this
theorem sP_mem:∀ {fs:List (Str×Kd)} {p:Str×Kd},p∈fs→1+sK p.2≤sP fs
 | (n,k)::r,p,h=>by
  rw [sP]
  rcases List.mem_cons.mp h with rfl | h
  ·exact Nat.le_max_left _ _
  ·exact Nat.le_trans (sP_mem h) (Nat.le_max_right _ _)
mutual
def cT:T→Nat
 | .tup us=>cL us
 | _=>0
def cL:List T→Nat
 | []=>0
 | t::r=>1+cT t+cL r
end
def isTp:T→Bool
 | .tup _=>true
 | _=>false
mutual
def dT:T→Nat
 | .tup us=>1+(us.filter isTp).length+dL us
 | _=>0
def dL:List T→Nat
 | []=>0
 | t::r=>max (dT t) (dL r)
end
def leN {β:Type} (a b:Str×β):Bool:=!decide (b.1.cps.toList < a.1.cps.toList)
def srt {β:Type} (xs:List (Str×β)):List (Str×β):=xs.mergeSort leN
def ordB {β:Type} (na:Bool) (xs:List (Str×β)):List (Str×β):=if na=true then srt xs else xs
theorem str_ext {a b:Str} (h:a.cps.toList=b.cps.toList):a=b:=by
 obtain ⟨⟨x⟩⟩:=a
 obtain ⟨⟨y⟩⟩:=b
 cases h
 rfl
theorem leN_iff {β:Type} {a b:Str×β}:leN a b=true ↔ ¬ b.1.cps.toList < a.1.cps.toList:=by unfold leN; simp
theorem srt_perm {β:Type} (xs:List (Str×β)):(srt xs).Perm xs:=List.mergeSort_perm _ _
theorem srt_up {β:Type} (xs:List (Str×β)):(srt xs).Pairwise fun a b=>¬ b.1.cps.toList < a.1.cps.toList:=by
 have:=List.pairwise_mergeSort (le:=leN (β:=β)) (fun a b c h h'=>by
  rw [leN_iff] at *
  exact List.not_lt.mpr (List.le_trans (List.not_lt.mp h) (List.not_lt.mp h'))) (fun a b=>by
  cases e:leN a b with
  | true=>rfl
  | false=>
   have:leN b a=true:=by
    rw [leN_iff]
    intro z
    have z2:b.1.cps.toList < a.1.cps.toList:=by unfold leN at e; simpa using e
    exact List.lt_irrefl _ (List.lt_trans z z2)
   simp [this]) xs
 exact this.imp fun h=>leN_iff.mp h
theorem perm_eq {α:Type} {R:α→α→Prop}:∀ {xs ys:List α},xs.Perm ys→xs.Pairwise R→ys.Pairwise R→(∀ a∈xs,∀ b∈xs,R a b→R b a→a=b)→xs=ys
 | [],ys,p,_,_,_=>p.nil_eq
 | x::xs,[],p,_,_,_=>absurd p.length_eq (by simp)
 | x::xs,y::ys,p,hx,hy,an=>by
  have e:x=y:=by
   have m1:x∈y::ys:=p.mem_iff.mp (by simp)
   have m2:y∈x::xs:=p.mem_iff.mpr (by simp)
   rcases List.mem_cons.mp m1 with h | h
   ·exact h
   rcases List.mem_cons.mp m2 with h' | h'
   ·exact h'.symm
   exact an x (by simp) y m2 ((List.pairwise_cons.mp hx).1 y h') ((List.pairwise_cons.mp hy).1 x h)
  subst e
  rw [perm_eq (p.cons_inv) (List.pairwise_cons.mp hx).2 (List.pairwise_cons.mp hy).2 fun a ha b hb=>an a (by simp [ha]) b (by simp [hb])]
theorem nodup_fst {β:Type}:∀ {xs:List (Str×β)},(xs.map (·.1)).Nodup→∀ a∈xs,∀ b∈xs,a.1=b.1→a=b
 | [],_,a,ha,_,_,_=>by cases ha
 | x::xs,nd,a,ha,b,hb,e=>by
  rw [List.map_cons,List.nodup_cons] at nd
  rcases List.mem_cons.mp ha with rfl | ha' <;> rcases List.mem_cons.mp hb with rfl | hb'
  ·rfl
  ·exact absurd (List.mem_map.mpr ⟨b,hb',e.symm⟩) nd.1
  ·exact absurd (List.mem_map.mpr ⟨a,ha',e⟩) nd.1
  ·exact nodup_fst nd.2 a ha' b hb' e
theorem srt_of {β:Type} {xs hs:List (Str×β)} (nd:(xs.map (·.1)).Nodup) (p:hs.Perm xs) (u:Up (hs.map (·.1))):hs=srt xs:=by
 have u':hs.Pairwise fun a b=>¬ b.1.cps.toList < a.1.cps.toList:=by
  have:=List.pairwise_map.mp u
  exact this
 refine perm_eq (p.trans (srt_perm xs).symm) u' (srt_up xs) fun a ha b hb h h'=>?_
 refine nodup_fst nd a (p.mem_iff.mp ha) b (p.mem_iff.mp hb) (str_ext ?_)
 exact List.le_antisymm (List.not_lt.mp h) (List.not_lt.mp h')
theorem ordB_perm {β:Type} (na:Bool) (xs:List (Str×β)):(ordB na xs).Perm xs:=by
 unfold ordB
 split
 ·exact srt_perm xs
 ·exact .refl _
theorem ordB_map {β γ:Type} {na:Bool} {xs:List (Str×β)} (nd:(xs.map (·.1)).Nodup) (g:Str×β→γ):ordB na (xs.map fun x=>(x.1,g x))=(ordB na xs).map fun x=>(x.1,g x):=by
 unfold ordB
 split
 ·refine (srt_of ?_ ((srt_perm xs).map _) ?_).symm
  ·rw [List.map_map]; exact nd
  ·rw [List.map_map,Up,List.pairwise_map]; exact srt_up xs
 ·rfl
theorem ordB_nodup {β:Type} {na:Bool} {xs:List (Str×β)} (nd:(xs.map (·.1)).Nodup):((ordB na xs).map (·.1)).Nodup:=((ordB_perm na xs).map _).nodup_iff.mpr nd
theorem ordB_len {β:Type} (na:Bool) (xs:List (Str×β)):(ordB na xs).length=xs.length:=(ordB_perm na xs).length_eq
structure Ly where
 hi:Bool
 en:Bool
 ch:Bool
 na:Bool
def Ly.s1 (L:Ly):Str:=if L.hi=true then "high" else "low"
def Ly.s2 (L:Ly):Str:=if L.en=true then "end" else "count"
def Ly.s3 (L:Ly):Str:=if L.ch=true then "chain" else "array"
def Ly.s4 (L:Ly):Str:=if L.na=true then "names" else "told"
def Ly.tr (L:Ly):T:=.tup [.str L.s1,.str L.s2,.str L.s3,.str L.s4]
def wds (n:Nat) (i:Int):List Int:=(List.range n).map fun j=>i / 65536 ^ j % 65536
def wdsN (hi:Bool) (n:Nat) (i:Int):List Int:=if hi=true then (wds n i).reverse else wds n i
def sgns (en:Bool) (z:Str):List Int:=if en=true then z.cps.toList.map (fun c:Nat=>(c:Int))++[0] else (z.length:Int)::z.cps.toList.map (fun c:Nat=>(c:Int))
def chn:List (List T)→T
 | []=>.int 0
 | p::ps=>.tup (chn ps::p)
mutual
def pK (L:Ly):Kd→T→List T
 | .num w,.int i=>(wdsN L.hi w.toNat i).map T.int
 | .text,.str z=>[.tup ((sgns L.en z).map T.int)]
 | .row k,.tup ts=>[if L.ch=true then chn (ts.map fun t=>pK L k t) else .tup (.int ts.length::(ts.map fun t=>pK L k t).flatten)]
 | .rec_ fs,.tup ts=>((ordB L.na (pF L fs ts)).map (·.2)).flatten
 | .pick fs,.tup [.str m,t]=>(T.int (((ordB L.na fs).map (·.1)).idxOf m:Nat)::pP L fs m t)++List.replicate (sP fs-(1+(pP L fs m t).length)) (T.int 0)
 | _,_=>[]
def pF (L:Ly):List (Str×Kd)→List T→List (Str×List T)
 | (n,k)::fs,t::ts=>(n,pK L k t)::pF L fs ts
 | _,_=>[]
def pP (L:Ly):List (Str×Kd)→Str→T→List T
 | [],_,_=>[]
 | (n,k)::fs,m,t=>if n=m then pK L k t else pP L fs m t
end
theorem wds_len (n:Nat) (i:Int):(wds n i).length=n:=by unfold wds; simp
theorem wdsN_len (hi:Bool) (n:Nat) (i:Int):(wdsN hi n i).length=n:=by unfold wdsN; split <;> simp [wds_len]
theorem sgns_len (en:Bool) (z:Str):(sgns en z).length=z.length+1:=by unfold sgns; split <;> simp <;> rfl
theorem pF_mem (L:Ly):∀ {fs:List (Str×Kd)} {ts:List T} {x:Str×List T},x∈pF L fs ts→∃ (j:Nat) (n:Str) (k:Kd) (t:T),fs[j]? = some (n,k)∧ts[j]? = some t∧x=(n,pK L k t)
 | (n,k)::fs,t::ts,x,h=>by
  rw [pF] at h
  rcases List.mem_cons.mp h with rfl | h
  ·exact ⟨0,n,k,t,rfl,rfl,rfl⟩
  ·obtain ⟨j,n,k,t,a,b,c⟩:=pF_mem L h
   exact ⟨j+1,n,k,t,a,b,c⟩
 | [],ts,x,h=>by
  have:pF L [] ts=[]:=by rw [pF]; all_goals (intros; contradiction)
  rw [this] at h; cases h
 | a::fs,[],x,h=>by
  have:pF L (a::fs) []=[]:=by rw [pF]; all_goals (intros; contradiction)
  rw [this] at h; cases h
theorem pP_at (L:Ly):∀ {fs:List (Str×Kd)} {m:Str} {j:Nat} {k:Kd} {t:T},findF fs m=some (j,k)→pP L fs m t=pK L k t
 | [],m,j,k,t,h=>by cases h
 | (n,q)::fs,m,j,k,t,h=>by
  unfold findF at h
  rw [pP]
  by_cases e:n=m
  ·rw [if_pos e] at h; cases h; rw [if_pos e]
  ·rw [if_neg e] at h
   rw [if_neg e]
   cases e2:findF fs m with
   | none=>rw [e2] at h; cases h
   | some p=>
    rw [e2] at h
    cases h
    exact pP_at L (j:=p.1) (by rw [e2])
mutual
def sdT:T→Nat
 | .tup us=>us.length+sdL us
 | _=>0
def sdL:List T→Nat
 | []=>0
 | t::r=>max (sdT t) (sdL r)
end
theorem sdL_app:∀ (a b:List T),sdL (a++b)=max (sdL a) (sdL b)
 | [],b=>by rw [List.nil_append,sdL,Nat.zero_max]
 | t::r,b=>by rw [List.cons_append,sdL,sdL,sdL_app r b,Nat.max_assoc]
theorem sdL_ints:∀ (ns:List Int),sdL (ns.map T.int)=0
 | []=>by rw [List.map_nil,sdL]
 | n::r=>by
  have e:sdT (.int n)=0:=by rw [sdT]; intro us e; cases e
  rw [List.map_cons,sdL,sdL_ints r,e]; rfl
theorem sdL_rep (n:Nat):sdL (List.replicate n (T.int 0))=0:=by
 have:=sdL_ints (List.replicate n 0)
 rw [List.map_replicate] at this
 exact this
theorem sd_tup (us:List T):sdT (.tup us)=us.length+sdL us:=by rw [sdT]
theorem sd_int (i:Int):sdT (.int i)=0:=by rw [sdT]; intro us e; cases e
theorem sdL_flat {D:Nat}:∀ {ps:List (List T)},(∀ p∈ps,sdL p≤D)→sdL ps.flatten≤D
 | [],_=>by rw [List.flatten_nil,sdL]; exact Nat.zero_le _
 | p::ps,h=>by
  rw [List.flatten_cons,sdL_app]
  exact Nat.max_le.mpr ⟨h p (by simp),sdL_flat fun q hq=>h q (by simp [hq])⟩
theorem sdL_le:∀ {us:List T} {u:T},u∈us→sdT u≤sdL us
 | u::us,v,h=>by
  rw [sdL]
  rcases List.mem_cons.mp h with rfl | h
  ·exact Nat.le_max_left _ _
  ·exact Nat.le_trans (sdL_le h) (Nat.le_max_right _ _)
inductive Pc:T→Prop
 | int (i:Int):Pc (.int i)
 | tup {us:List T} (h:∀ u∈us,Pc u):Pc (.tup us)
theorem pc_ints {ns:List Int}:∀ t∈ns.map T.int,Pc t:=fun t h=>by
 obtain ⟨n,_,rfl⟩:=List.mem_map.mp h
 exact .int n
theorem len_flat {D:Nat}:∀ {ps:List (List T)},(∀ p∈ps,p.length=D)→ps.flatten.length=ps.length * D
 | [],_=>by simp
 | p::ps,h=>by
  rw [List.flatten_cons,List.length_append,h p (by simp),len_flat fun q hq=>h q (by simp [hq]),List.length_cons,Nat.succ_mul,Nat.add_comm]
theorem chn_sd {D N:Nat}:∀ {ps:List (List T)},(∀ p∈ps,p.length=N∧sdL p≤D)→sdT (chn ps)≤ps.length * (N+1)+D
 | [],_=>by rw [chn,sd_int]; exact Nat.zero_le _
 | p::ps,h=>by
  have ih:=chn_sd (ps:=ps) fun q hq=>h q (by simp [hq])
  have hp:=h p (by simp)
  rw [chn,sd_tup,sdL,List.length_cons,List.length_cons,hp.1,Nat.succ_mul]
  have:max (sdT (chn ps)) (sdL p)≤ps.length * (N+1)+D:=Nat.max_le.mpr ⟨ih,by omega⟩
  omega
theorem chn_pc:∀ {ps:List (List T)},(∀ p∈ps,∀ t∈p,Pc t)→Pc (chn ps)
 | [],_=>.int 0
 | p::ps,h=>.tup fun u hu=>by
  rcases List.mem_cons.mp hu with rfl | hu
  ·exact chn_pc fun q hq=>h q (by simp [hq])
  ·exact h p (by simp) u hu
structure PkOk (L:Ly) (k:Kd) (u:T):Prop where
 len:(pK L k u).length=sK k
 sd:sdL (pK L k u)≤311200 * k.depth
 pc:∀ t∈pK L k u,Pc t
theorem sum_perm {ps qs:List Nat} (h:ps.Perm qs):ps.sum=qs.sum:=h.sum_nat
theorem pF_len (L:Ly):∀ {fs:List (Str×Kd)} {ts:List T},ts.length=fs.length→(∀ (j:Nat) (n:Str) (k:Kd) (t:T),fs[j]? = some (n,k)→ts[j]? = some t→(pK L k t).length=sK k)→(((pF L fs ts).map (·.2)).map (·.length)).sum=sF fs
 | [],[],_,_=>by rw [pF,sF]; rfl; all_goals (intros; contradiction)
 | (n,k)::fs,t::ts,h,q=>by
  rw [pF,List.map_cons,List.map_cons,List.sum_cons,pF_len L (by simpa using h) fun j n k t a b=>q (j+1) n k t a b,sF,q 0 n k t rfl rfl]
 | [],_::_,h,_=>by cases h
 | _::_,[],h,_=>by cases h
theorem pk_ok (L:Ly) {k:Kd} {u:T} (h:Has k u):k.good→k.depth≤5→PkOk L k u:=by
 induction h with
 | @num w i l h=>
  intro g d
  have e:pK L (.num w) (.int i)=(wdsN L.hi w.toNat i).map T.int:=by rw [pK]
  exact ⟨by rw [e,List.length_map,wdsN_len,sK],by rw [e,sdL_ints]; exact Nat.zero_le _,by rw [e]; exact pc_ints⟩
 | @text z l h=>
  intro g d
  have e:pK L .text (.str z)=[.tup ((sgns L.en z).map T.int)]:=by rw [pK]
  refine ⟨by rw [e,sK]; rfl,?_,fun t ht=>?_⟩
  ·rw [e,sdL,sdL,sd_tup,List.length_map,sgns_len,sdL_ints,Kd.depth]; omega
  ·rw [e] at ht; rw [List.mem_singleton.mp ht]; exact .tup pc_ints
 | @row k ts l q ih=>
  intro g d
  unfold Kd.good at g
  rw [Kd.depth] at d
  have e:pK L (.row k) (.tup ts)=[if L.ch=true then chn (ts.map fun t=>pK L k t) else .tup (.int ts.length::(ts.map fun t=>pK L k t).flatten)]:=by rw [pK]
  have ok:∀ p∈ts.map (fun t=>pK L k t),p.length=sK k∧sdL p≤311200 * k.depth∧∀ t∈p,Pc t:=fun p hp=>by
   obtain ⟨t,ht,rfl⟩:=List.mem_map.mp hp
   have:=ih t ht g (by omega)
   exact ⟨this.len,this.sd,this.pc⟩
  have sm:=sK_max g (by omega)
  refine ⟨by rw [e,sK]; rfl,?_,fun t ht=>?_⟩
  ·rw [e,sdL,sdL,Kd.depth]
   split
   ·have:=chn_sd (D:=311200 * k.depth) (N:=sK k) fun p hp=>⟨(ok p hp).1,(ok p hp).2.1⟩
    rw [List.length_map] at this
    have h2:ts.length * (sK k+1)≤60 * 5185:=Nat.mul_le_mul l (by omega)
    omega
   ·rw [sd_tup,List.length_cons,sdL,sd_int,len_flat fun p hp=>(ok p hp).1,List.length_map]
    have h1:=sdL_flat (D:=311200 * k.depth) fun p hp=>(ok p hp).2.1
    have h2:ts.length * sK k≤60 * 5184:=Nat.mul_le_mul l sm
    omega
  ·rw [e] at ht
   rw [List.mem_singleton.mp ht]
   split
   ·exact chn_pc fun p hp=>(ok p hp).2.2
   ·refine .tup fun v hv=>?_
    rcases List.mem_cons.mp hv with rfl | hv
    ·exact .int _
    ·obtain ⟨p,hp,hv⟩:=List.mem_flatten.mp hv
     exact (ok p hp).2.2 v hv
 | @rec_ fs ts l q ih=>
  intro g d
  unfold Kd.good at g
  rw [Kd.depth] at d
  have e:pK L (.rec_ fs) (.tup ts)=((ordB L.na (pF L fs ts)).map (·.2)).flatten:=by rw [pK]
  have ok:∀ (j:Nat) (n:Str) (k:Kd) (t:T),fs[j]? = some (n,k)→ts[j]? = some t→PkOk L k t:=fun j n k t a b=>by
   have m:=List.mem_of_getElem? a
   have:=depthF_le m
   exact ih j n k t a b (goodF_mem g.1 m) (by show k.depth≤5; have:k.depth≤depthF fs:=this; omega)
  have pm:=(ordB_perm L.na (pF L fs ts)).map (·.2)
  have ok2:∀ p∈(ordB L.na (pF L fs ts)).map (·.2),sdL p≤311200 * depthF fs∧∀ t∈p,Pc t:=fun p hp=>by
   obtain ⟨x,hx,rfl⟩:=List.mem_map.mp (pm.mem_iff.mp hp)
   obtain ⟨j,n,k,t,a,b,rfl⟩:=pF_mem L hx
   have o:=ok j n k t a b
   have:k.depth≤depthF fs:=depthF_le (List.mem_of_getElem? a)
   exact ⟨Nat.le_trans o.sd (Nat.mul_le_mul_left _ this),o.pc⟩
  refine ⟨?_,?_,fun t ht=>?_⟩
  ·rw [e,List.length_flatten,sum_perm (pm.map (·.length)),pF_len L l fun j n k t a b=>(ok j n k t a b).len,sK]
  ·rw [e,Kd.depth]
   exact Nat.le_trans (sdL_flat fun p hp=>(ok2 p hp).1) (Nat.mul_le_mul_left _ (by omega))
  ·rw [e] at ht
   obtain ⟨p,hp,ht⟩:=List.mem_flatten.mp ht
   exact (ok2 p hp).2 t ht
 | @pick fs n k j t f q ih=>
  intro g d
  unfold Kd.good at g
  rw [Kd.depth] at d
  have m:=List.mem_of_getElem? (findF_mem f)
  have dk:k.depth≤depthF fs:=depthF_le m
  have o:=ih (goodF_mem g.1 m) (by omega)
  have sp:1+sK k≤sP fs:=sP_mem m
  have e:pK L (.pick fs) (.tup [.str n,t])=(T.int (((ordB L.na fs).map (·.1)).idxOf n:Nat)::pP L fs n t)++List.replicate (sP fs-(1+(pP L fs n t).length)) (T.int 0):=by rw [pK]
  rw [pP_at L f] at e
  refine ⟨?_,?_,fun v hv=>?_⟩
  ·rw [e,List.length_append,List.length_replicate,List.length_cons,o.len,sK]; omega
  ·rw [e,sdL_app,sdL,sd_int,sdL_rep,Kd.depth]
   have:=o.sd
   have:311200 * k.depth≤311200 * (depthF fs+1):=Nat.mul_le_mul_left _ (by omega)
   omega
  ·rw [e] at hv
   rcases List.mem_append.mp hv with hv | hv
   ·rcases List.mem_cons.mp hv with rfl | hv
    ·exact .int _
    ·exact o.pc v hv
   ·rw [(List.mem_replicate.mp hv).2]; exact .int 0
theorem Pc.pl:∀ {t:T},Pc t→Pl t:=fun h=>by
 induction h with
 | int i=>exact .int i
 | tup h ih=>exact .tup ih
theorem top_sP:∀ {fs:List (Str×Kd)},fs≠[]→1+topOf (fs.map fun p=>((sK p.2:Nat):Int))=((sP fs:Nat):Int)
 | [(n,k)],_=>by simp only [List.map_cons,List.map_nil,topOf,sP]; omega
 | (n,k)::q::r,_=>by
  have ih:=top_sP (fs:=q::r) (by simp)
  rw [List.map_cons,List.map_cons] at *
  rw [topOf,sP]
  have:((max (1+sK k) (sP (q::r)):Nat):Int)=max (((1+sK k:Nat)):Int) ((sP (q::r):Nat):Int):=by omega
  rw [this,← ih]
  show 1+max ((sK k:Nat):Int) _=_
  omega
theorem sum_sF:∀ (fs:List (Str×Kd)),(fs.map fun p=>((sK p.2:Nat):Int)).sum=((sF fs:Nat):Int)
 | []=>by rw [sF]; rfl
 | (n,k)::r=>by rw [List.map_cons,List.sum_cons,sum_sF r,sF]; show ((sK k:Nat):Int)+_=_; omega
theorem ediv_pow (i:Int) (j:Nat):i / 65536 ^ j / 65536=i / 65536 ^ (j+1):=by
 rw [Int.ediv_ediv_of_nonneg (Int.pow_nonneg (by decide)),Int.pow_succ]
theorem wds_succ (n:Nat) (i:Int):wds (n+1) i=wds n i++[i / 65536 ^ n % 65536]:=by
 unfold wds
 rw [List.range_succ,List.map_append]
 rfl
end Tg
namespace Sto
abbrev Gap:=Int×Int
abbrev Blk:=Int×Int×Int
def GSep:List Gap→Int→Prop
 | [],_=>True
 | g::r,lo=>lo < g.1∧g.1 < g.2∧GSep r g.2
def InG (G:List Gap) (x:Int):Prop:=∃ g∈G,g.1≤x∧x < g.2
def Free (size:Int) (B:List Blk) (x:Int):Prop:=1≤x∧x≤size∧∀ q∈B,¬ (q.1≤x∧x < q.1+q.2.1)
structure SI (size:Int) (B:List Blk) (G:List Gap):Prop where
 sep:GSep G 0
 fr:∀ x,InG G x ↔ Free size B x
 pos:∀ q∈B,1≤q.1∧1≤q.2.1∧q.1+q.2.1≤size+1
 dis:B.Pairwise fun p q=>p.1+p.2.1≤q.1∨q.1+q.2.1≤p.1
def Fits (size:Int) (B:List Blk) (at_ many:Int):Prop:=at_+many-1≤size∧∀ q∈B,¬ (at_ < q.1+q.2.1∧q.1 < at_+many)
theorem GSep.weak {lo lo':Int} (h:lo'≤lo):∀ {G:List Gap},GSep G lo→GSep G lo'
 | [],_=>trivial
 | _::_,⟨a,b,c⟩=>⟨by omega,b,c⟩
theorem GSep.mem:∀ {G:List Gap} {lo:Int} {g:Gap},GSep G lo→g∈G→lo < g.1∧g.1 < g.2
 | x::r,lo,g,⟨a,b,c⟩,h=>by
  rcases List.mem_cons.mp h with rfl | h
  ·exact ⟨a,b⟩
  ·have:=GSep.mem c h
   exact ⟨by omega,this.2⟩
def GE:List Gap→Int→Int
 | [],lo=>lo
 | g::r,_=>GE r g.2
theorem GSep.app:∀ {L M:List Gap} {lo:Int},GSep (L++M) lo ↔ GSep L lo∧GSep M (GE L lo)
 | [],M,lo=>⟨fun h=>⟨trivial,h⟩,fun h=>h.2⟩
 | g::r,M,lo=>by
  show (lo < g.1∧g.1 < g.2∧GSep (r++M) g.2) ↔ (lo < g.1∧g.1 < g.2∧GSep r g.2)∧GSep M (GE r g.2)
  rw [GSep.app]
  exact ⟨fun ⟨a,b,c,d⟩=>⟨⟨a,b,c⟩,d⟩,fun ⟨⟨a,b,c⟩,d⟩=>⟨a,b,c,d⟩⟩
theorem GE.ge:∀ {L:List Gap} {lo:Int},GSep L lo→lo≤GE L lo∧∀ g∈L,g.2≤GE L lo
 | [],lo,_=>⟨Int.le_refl _,fun _ h=>nomatch h⟩
 | g::r,lo,⟨a,b,c⟩=>by
  obtain ⟨h1,h2⟩:=GE.ge c
  have e:GE (g::r) lo=GE r g.2:=rfl
  rw [e]
  refine ⟨by omega,fun k hk=>?_⟩
  rcases List.mem_cons.mp hk with rfl | hk
  ·exact h1
  ·exact h2 k hk
theorem GE.le:∀ {L:List Gap} {lo b:Int},lo < b→(∀ g∈L,g.2 < b)→GE L lo < b
 | [],lo,b,h,_=>h
 | g::r,lo,b,h,hL=>by
  show GE r g.2 < b
  exact GE.le (hL g (by simp)) fun k hk=>hL k (by simp [hk])
theorem GSep.mid {L R:List Gap} {g:Gap} {lo:Int} (h:GSep (L++g::R) lo):(∀ l∈L,l.2 < g.1)∧(∀ r∈R,g.2 < r.1)∧GSep L lo∧lo < g.1∧g.1 < g.2∧GSep R g.2:=by
 obtain ⟨a,b,c,d⟩:=GSep.app.mp h
 obtain ⟨g0,g1⟩:=GE.ge a
 exact ⟨fun l hl=>by have:=g1 l hl; omega,fun r hr=>(GSep.mem d hr).1,a,by omega,c,d⟩
theorem GSep.join {L R:List Gap} {lo b e:Int} (a:GSep L lo) (h0:lo < b) (hL:∀ l∈L,l.2 < b) (be:b < e) (d:GSep R e):GSep (L++(b,e)::R) lo:=GSep.app.mpr ⟨a,GE.le h0 hL,be,d⟩
theorem GSep.join2 {L R:List Gap} {lo e:Int} (a:GSep L lo) (h0:lo < e) (hL:∀ l∈L,l.2 < e) (d:GSep R e):GSep (L++R) lo:=GSep.app.mpr ⟨a,d.weak (Int.le_of_lt (GE.le h0 hL))⟩
section
variable {size:Int} {B:List Blk} {G:List Gap}
theorem SI.size_ge (h:SI size B G) {g:Gap} (m:g∈G):1≤g.1∧g.1 < g.2∧g.2≤size+1:=by
 obtain ⟨a,b⟩:=GSep.mem h.sep m
 have:=((h.fr (g.2-1)).mp ⟨g,m,by omega,by omega⟩).2.1
 exact ⟨by omega,b,by omega⟩
theorem fits_of (h:SI size B G) {at_ many:Int} {g:Gap} (hg:g∈G) (g1:g.1≤at_) (m1:1≤many) (g2:at_+many≤g.2):Fits size B at_ many:=by
 refine ⟨?_,fun q hq=>fun ⟨q1,q2⟩=>?_⟩
 ·have:=((h.fr (at_+many-1)).mp ⟨g,hg,by omega,by omega⟩).2.1
  omega
 ·have hp:=h.pos q hq
  by_cases c:at_≤q.1
  ·exact ((h.fr q.1).mp ⟨g,hg,by omega,by omega⟩).2.2 q hq ⟨by omega,by omega⟩
  ·exact ((h.fr at_).mp ⟨g,hg,by omega,by omega⟩).2.2 q hq ⟨by omega,by omega⟩
theorem InG.app {L M:List Gap} {x:Int}:InG (L++M) x ↔ InG L x∨InG M x:=by
 constructor
 ·rintro ⟨g,hg,h⟩
  rcases List.mem_append.mp hg with hg | hg
  ·exact .inl ⟨g,hg,h⟩
  ·exact .inr ⟨g,hg,h⟩
 ·rintro (⟨g,hg,h⟩ | ⟨g,hg,h⟩)
  ·exact ⟨g,List.mem_append_left _ hg,h⟩
  ·exact ⟨g,List.mem_append_right _ hg,h⟩
theorem InG.cons {g:Gap} {M:List Gap} {x:Int}:InG (g::M) x ↔ (g.1≤x∧x < g.2)∨InG M x:=by
 constructor
 ·rintro ⟨k,hk,h⟩
  rcases List.mem_cons.mp hk with rfl | hk
  ·exact .inl h
  ·exact .inr ⟨k,hk,h⟩
 ·rintro (h | ⟨k,hk,h⟩)
  ·exact ⟨g,by simp,h⟩
  ·exact ⟨k,by simp [hk],h⟩
theorem free_snoc {q:Blk} {x:Int}:Free size (B++[q]) x ↔ Free size B x∧¬ (q.1≤x∧x < q.1+q.2.1):=by
 constructor
 ·rintro ⟨a,b,c⟩
  exact ⟨⟨a,b,fun p hp=>c p (by simp [hp])⟩,c q (by simp)⟩
 ·rintro ⟨⟨a,b,c⟩,d⟩
  refine ⟨a,b,fun p hp=>?_⟩
  rcases List.mem_append.mp hp with hp | hp
  ·exact c p hp
  ·rw [List.mem_singleton.mp hp]; exact d
def restG (b many e:Int):List Gap:=if b+many < e then [(b+many,e)] else []
theorem SI.take (h:SI size B G) {many b e hand:Int} {L R:List Gap} (eG:G=L++(b,e)::R) (m1:1≤many) (yes:many≤e-b):SI size (B++[(b,many,hand)]) (L++restG b many e++R):=by
 have mg:(b,e)∈G:=by rw [eG]; simp
 have sz:=h.size_ge mg
 have sz1:1≤b:=sz.1
 have sz2:e≤size+1:=sz.2.2
 have fit:Fits size B b many:=fits_of h mg (Int.le_refl _) m1 (by show b+many≤e; omega)
 have sp:=h.sep
 rw [eG] at sp
 obtain ⟨hL,hR,sL,_,be,sR⟩:=GSep.mid sp
 have hL:∀ l∈L,l.2 < b:=hL
 have hR:∀ r∈R,e < r.1:=hR
 have be:b < e:=be
 have sR:GSep R e:=sR
 refine ⟨?_,fun x=>?_,fun q hq=>?_,?_⟩
 ·unfold restG
  split
  ·rw [List.append_assoc]
   exact GSep.join sL (by omega) (fun l hl=>by have:=hL l hl; omega) (by omega) sR
  ·rw [List.append_nil]
   exact GSep.join2 sL (by omega) (fun l hl=>by have:=hL l hl; omega) sR
 ·rw [free_snoc,← h.fr x,eG,InG.app,InG.app,InG.app,InG.cons]
  have hx:InG (restG b many e) x ↔ (b+many≤x∧x < e):=by
   unfold restG
   split
   ·exact ⟨fun ⟨k,hk,z⟩=>by rw [List.mem_singleton.mp hk] at z; exact z,fun z=>⟨(b+many,e),by simp,z⟩⟩
   ·exact ⟨fun ⟨k,hk,z⟩=>(nomatch hk),fun z=>by omega⟩
  rw [hx]
  constructor
  ·rintro ((⟨l,hl,z⟩ | z) | ⟨r,hr,z⟩)
   ·exact ⟨.inl ⟨l,hl,z⟩,by show ¬ (b≤x∧x < b+many); have:=hL l hl; omega⟩
   ·exact ⟨.inr (.inl ⟨by show b≤x; omega,z.2⟩),by show ¬ (b≤x∧x < b+many); omega⟩
   ·exact ⟨.inr (.inr ⟨r,hr,z⟩),by show ¬ (b≤x∧x < b+many); have:=hR r hr; omega⟩
  ·rintro ⟨z | z | z,n⟩
   ·exact .inl (.inl z)
   ·have n:¬ (b≤x∧x < b+many):=n
    have z:b≤x∧x < e:=z
    exact .inl (.inr (by omega))
   ·exact .inr z
 ·rcases List.mem_append.mp hq with hq | hq
  ·exact h.pos q hq
  ·rw [List.mem_singleton.mp hq]; exact ⟨sz1,m1,by show b+many≤size+1; omega⟩
 ·rw [List.pairwise_append]
  refine ⟨h.dis,List.pairwise_singleton _ _,fun p hp q hq=>?_⟩
  rw [List.mem_singleton.mp hq]
  have:=fit.2 p hp
  show p.1+p.2.1≤b∨b+many≤p.1
  omega
theorem GSep.len:∀ {G:List Gap} {lo M:Int},GSep G lo→(∀ g∈G,g.2≤M)→lo≤M→(G.length:Int)≤M-lo
 | [],lo,M,_,_,h=>by simp; omega
 | g::r,lo,M,⟨a,b,c⟩,hM,h=>by
  have hg:=hM g (by simp)
  have:=GSep.len c (fun k hk=>hM k (by simp [hk])) hg
  rw [List.length_cons]
  omega
theorem GSep.mono:∀ {G:List Gap} {lo:Int} {i j:Nat} {g k:Gap},GSep G lo→i < j→G[i]? = some g→G[j]? = some k→g.1 < k.1
 | x::r,lo,0,j+1,g,k,⟨a,b,c⟩,h,hi,hj=>by
  cases hi
  have hk:k∈r:=List.mem_of_getElem? (by simpa using hj)
  have:=GSep.mem c hk
  omega
 | x::r,lo,i+1,j+1,g,k,⟨a,b,c⟩,h,hi,hj=>GSep.mono (i:=i) (j:=j) c (by omega) (by simpa using hi) (by simpa using hj)
end
end Sto
set_option maxHeartbeats 4000000
namespace Tg
open PySem L2
def top (i:Nat):Stmt:=PySem.Challenge.pw_tonguegate_k10_pictures.main.body.getD i (.Pass ⟨0,0,0,0⟩)
section
variable {P:Program} {w:World} {K:PySem.W.Frag} {mg:Str→Option Value} {base:Heap} {f:Addr} {fd:FuncData}
abbrev s_law_cell_at:Stmt:=top 15
theorem sc_law_cell_at:FnScope ["script","k"] ["script","k"] (defScope s_law_cell_at):=⟨rfl,rfl,rfl,by decide +kernel,rfl,by decide +kernel,by decide +kernel⟩
abbrev s_law_flow:Stmt:=top 16
theorem sc_law_flow:FnScope ["cell","mixed"] ["cell"] (defScope s_law_flow):=⟨rfl,rfl,rfl,by decide +kernel,rfl,by decide +kernel,by decide +kernel⟩
def Flow (H:Hp) (a:Addr):Prop:=∃ f0 f1 f2:Int,H a=some (.lst [.int f0,.int f1,.int f2])∧0≤f0∧0≤f1∧f1 < 10 ^ 40+121
def spFlow:Sp:=fun vs H Q _=>∃ c:Int,vs=[.int c]∧∀ (a:Addr) (H':Hp),H a=none→Same H H'→Flow H' a→Q (.ref a) H'
theorem ok_flow (F:Fun K "_law_flow" "_law_flow" s_law_flow f fd) (z_max:mg "max" = none):FnOk P w K mg base CX0 1 f fd ["cell"] spFlow:=by
 refine F.ok sc_law_flow (fun vs H Q E h=>?_) (fun cdv A outer s H vs Q E hr h=>?_)
 ·obtain ⟨c,rfl,_⟩:=h
  rfl
 obtain ⟨c,rfl,q⟩:=h
 refine ⟨_,(pss_cons (ps_set (i:=1) sc_law_flow.nd rfl (Or.inl rfl) (pe_op op_add (pe_op op_mul (pe_op op_mul (pv 0) pe_int) pe_int) pe_int))
  (pss_cons (ps_ret (pe_lst (pa_cons (pe_callB (call_max2 rfl) rfl z_max PyProof.Rows.boot_max (pa_cons pe_int (pa_cons (pe_op op_sub (pv 0) (pe_op op_pow pe_int pe_int)) pa_nil))) (pa_cons (pe_op op_mod (pv 1) (pe_op op_add (pe_op op_pow pe_int pe_int) pe_int)) (pa_cons pe_int pa_nil)))))
  pss_nil)),?_⟩
 refine ⟨_,rfl,_,_,rfl,rfl,.inr ⟨by decide,by decide⟩,_,_,rfl,rfl,.inr ⟨by decide,by decide⟩,_,_,rfl,rfl,?_⟩
 refine ⟨_,rfl,_,_,rfl,rfl,⟨by decide,by decide,by decide⟩,_,_,rfl,rfl,_,_,rfl,?_⟩
 refine ⟨_,rfl,_,_,rfl,rfl,⟨by decide,by decide,by decide⟩,_,_,rfl,rfl,_,_,rfl,rfl,(by show (0:Int) < 10 ^ Int.toNat 40+121; decide),?_⟩
 refine ⟨by show 3≤sizeLine; decide,fun p hp=>?_⟩
 refine q p _ hp (fun b o h=>by rw [upd_ne (ne_of_none h hp)]; exact h) ⟨_,_,_,upd_same,?_,?_,?_⟩
 ·split <;> omega
 ·exact Int.emod_nonneg _ (by decide)
 ·exact Int.emod_lt_of_pos _ (by decide)
abbrev s_law_draw:Stmt:=top 17
theorem sc_law_draw:FnScope ["flow","many","found"] ["flow","many"] (defScope s_law_draw):=⟨rfl,rfl,rfl,by decide +kernel,rfl,by decide +kernel,by decide +kernel⟩
def spDraw:Sp:=fun vs H Q _=>∃ (a:Addr) (m:Int),vs=[.ref a,.int m]∧Flow H a∧0 < m∧m < 2 ^ 200∧∀ (r:Int) (H':Hp),0≤r→r < m→Flow H' a→Kp [a] H H'→Q (.int r) H'
theorem atI0 {α:Type} {x:α} {r:List α}:atI (x::r) 0=some x:=atI_nat (j:=0) rfl
theorem atI1 {α:Type} {x y:α} {r:List α}:atI (x::y::r) 1=some y:=atI_nat (j:=1) rfl
theorem atI2 {α:Type} {x y z:α} {r:List α}:atI (x::y::z::r) 2=some z:=atI_nat (j:=2) rfl
theorem ok_draw (F:Fun K "_law_draw" "_law_draw" s_law_draw f fd):FnOk P w K mg base CX0 1 f fd ["flow","many"] spDraw:=by
 refine F.ok sc_law_draw (fun vs H Q E h=>?_) (fun cdv A outer s H vs Q E hr h=>?_)
 ·obtain ⟨a,m,rfl,_⟩:=h
  rfl
 obtain ⟨a,m,rfl,⟨f0,f1,f2,hf,b0,b1,b2⟩,m0,m1,q⟩:=h
 refine ⟨_,(pss_cons (ps_if (pt_cmpR op_gt (pe_ix ix_list (pv 0) pe_int (fun _ _=>rfl)) pe_int (nomark _)) (pss_cons (ps_set (i:=2) sc_law_draw.nd rfl (Or.inl rfl) (pe_op op_mod (pe_ix ix_list (pv 0) pe_int (fun _ _=>rfl)) (pv 1)))
  (pss_cons (ps_asg (pe_op op_fdivG (pe_ix ix_list (pv 0) pe_int (fun _ _=>rfl)) (pv 1)) (pg_sub (pv 0) pe_int set_list (fun _=>rfl)))
  (pss_cons (ps_ret (pv 2))
  pss_nil))) pss_nil)
  (pss_cons (ps_asg (pe_op op_add (pe_ix ix_list (pv 0) pe_int (fun _ _=>rfl)) pe_int) (pg_sub (pv 0) pe_int set_list (fun _=>rfl)))
  (pss_cons (ps_asg (pe_op op_mod (pe_op op_add (pe_op op_mulB (pe_ix ix_list (pv 0) pe_int (fun _ _=>rfl)) (pe_ix ix_list (pv 0) pe_int (fun _ _=>rfl))) (pe_op op_mul (pe_ix ix_list (pv 0) pe_int (fun _ _=>rfl)) pe_int)) (pe_op op_add (pe_op op_pow pe_int pe_int) pe_int)) (pg_sub (pv 0) pe_int set_list (fun _=>rfl)))
  (pss_cons (ps_ret (pe_op op_mod (pe_op op_fdivG (pe_ix ix_list (pv 0) pe_int (fun _ _=>rfl)) pe_int) (pv 1)))
  pss_nil)))),?_⟩
 have sq:SqL K H a [.int f0,.int f1,.int f2]:=SqL.of hf
 refine ⟨_,rfl,a,_,_,_,rfl,rfl,sq,atI0,_,_,rfl,rfl,_,rfl,?_⟩
 refine ite2 (fun c=>?_) (fun c=>?_)
 ·refine ⟨_,rfl,a,_,_,_,rfl,rfl,sq,atI0,_,rfl,_,_,rfl,rfl,m0,?_⟩
  refine ⟨_,rfl,a,_,_,_,rfl,rfl,sq,atI0,_,rfl,_,_,rfl,rfl,⟨m0,m1⟩,_,rfl,a,_,_,_,rfl,rfl,hf,rfl,?_⟩
  refine ⟨_,rfl,?_⟩
  refine q _ _ (Int.emod_nonneg _ (by omega)) (Int.emod_lt_of_pos _ m0) ⟨_,_,_,upd_same,Int.ediv_nonneg b0 (by omega),b1,b2⟩ (Kp.set (by simp) _)
 ·refine ⟨_,rfl,a,_,_,_,rfl,rfl,sq,atI2,_,_,rfl,rfl,_,rfl,a,_,_,_,rfl,rfl,hf,rfl,?_⟩
  have sq2:SqL K (upd H a (.lst ([.int f0,.int f1,.int f2].set 2 (.int (f2+1))))) a [.int f0,.int f1,.int (f2+1)]:=SqL.of upd_same
  have n1:f1.natAbs < 2 ^ 200:=Nat.lt_of_lt_of_le (by omega:f1.natAbs < 10 ^ 40+121) (by decide)
  refine ⟨_,rfl,a,_,_,_,rfl,rfl,sq2,atI1,_,rfl,a,_,_,_,rfl,rfl,sq2,atI1,_,_,rfl,rfl,⟨n1,n1⟩,_,rfl,a,_,_,_,rfl,rfl,sq2,atI2,_,_,rfl,rfl,.inr ⟨by decide,by decide⟩,_,_,rfl,rfl,_,_,rfl,rfl,⟨by decide,by decide,by decide⟩,_,_,rfl,rfl,_,_,rfl,rfl,(by show (0:Int) < 10 ^ Int.toNat 40+121; decide),?_⟩
  refine ⟨_,rfl,a,_,_,_,rfl,rfl,upd_same,rfl,?_⟩
  refine ⟨_,rfl,a,_,_,_,rfl,rfl,SqL.of upd_same,atI1,_,_,rfl,rfl,⟨by decide,by decide⟩,_,rfl,_,_,rfl,rfl,m0,?_⟩
  refine q _ _ (Int.emod_nonneg _ (by omega)) (Int.emod_lt_of_pos _ m0) ⟨_,_,_,upd_same,b0,?_,?_⟩ ((Kp.set (by simp) _).trans (Kp.set (by simp) _))
  ·exact Int.emod_nonneg _ (by decide)
  ·exact Int.emod_lt_of_pos _ (by decide)
end
section
variable {P:Program} {w:World} {K:PySem.W.Frag} {mg:Str→Option Value} {base:Heap} {f:Addr} {fd:FuncData}
abbrev s_law_name:Stmt:=top 18
theorem sc_law_name:FnScope ["flow","taken","way","name","k","old","at","some","spare"] ["flow","taken"] (defScope s_law_name):=⟨rfl,rfl,rfl,by decide +kernel,rfl,by decide +kernel,by decide +kernel⟩
def spName:Sp:=fun vs H Q _=>∃ (a b:Addr) (ss:List Str),vs=[.ref a,.ref b]∧Flow H a∧H b=some (.lst (ss.map V.str))∧ss.length≤6∧(∀ z∈ss,Nm z) ∧
 ∀ (z:Str) (H':Hp),Nm z→z∉ss→Flow H' a→Kp [a] H H'→Q (.str z) H'
theorem Flow.ne {H:Hp} {a b:Addr} {ss:List Str} (h:Flow H a) (h':H b=some (.lst (ss.map V.str))):b≠a:=by
 obtain ⟨f0,f1,f2,e,_⟩:=h
 refine ne_of h' e ?_
 intro z
 have z':=HO.lst.inj z
 cases ss with
 | nil=>cases z'
 | cons x r=>cases z'
theorem Flow.kp {H H':Hp} {a:Addr} {l:List Addr} (h:Flow H a) (k:Kp l H H') (n:a∉l):Flow H' a:=by
 obtain ⟨f0,f1,f2,e,r⟩:=h
 exact ⟨f0,f1,f2,k a _ n e,r⟩
theorem Flow.some {H:Hp} {a:Addr} (h:Flow H a):∃ o,H a=.some o:=by
 obtain ⟨f0,f1,f2,e,r⟩:=h
 exact ⟨_,e⟩
theorem Flow.new {H:Hp} {a p:Addr} {o:HO} (h:Flow H a) (n:H p=none):Flow (upd H p o) a:=by
 obtain ⟨f0,f1,f2,e,r⟩:=h
 exact ⟨f0,f1,f2,by rw [upd_ne (ne_of_none e n)]; exact e,r⟩
theorem ok_name (F:Fun K "_law_name" "_law_name" s_law_name f fd) (c_law_draw:Callee P w K mg base "_law_draw" 1 ["flow","many"] spDraw)
  (z_len:mg "len" = none) (z_max:mg "max" = none) (z_range:mg "range" = none):FnOk P w K mg base CX0 2 f fd ["flow","taken"] spName:=by
 refine F.ok sc_law_name (fun vs H Q E h=>?_) (fun cdv A outer s H vs Q E hr h=>?_)
 ·obtain ⟨a,b,ss,rfl,_⟩:=h
  rfl
 obtain ⟨a,b,ss,rfl,fl,hb,h6,hnm,q⟩:=h
 refine ⟨_,(pss_cons (ps_set (i:=2) sc_law_name.nd rfl (Or.inl rfl) (pe_callC c_law_draw hr (by omega) rfl (pa_cons (pv 0) (pa_cons pe_int pa_nil))))
  (pss_cons (ps_set (i:=3) sc_law_name.nd rfl (Or.inl rfl) pe_str)
  (pss_cons (ps_for PassesOwn.never rfl (pi_range1 rfl z_range (pa_cons (pe_op op_add pe_int (pe_callC c_law_draw hr (by omega) rfl (pa_cons (pv 0) (pa_cons pe_int pa_nil)))) pa_nil)) (pg_name (i:=4) sc_law_name.nd rfl (Or.inl rfl)) (pss_cons (ps_set (i:=3) sc_law_name.nd rfl (Or.inl rfl) (pe_op op_add_str (pv 3) (pe_ix ix_str pe_str (pe_callC c_law_draw hr (by omega) rfl (pa_cons (pv 0) (pa_cons pe_int pa_nil))) (fun _ _=>rfl))))
  pss_nil))
  (pss_cons (ps_cut (ps_if (pt_cmpR op_eq (pv 2) pe_int (nomark _)) (pss_cons (ps_set (i:=3) sc_law_name.nd rfl (Or.inl rfl) (pe_ix ix_list (pe_lst (pa_cons pe_str (pa_cons pe_str (pa_cons pe_str (pa_cons pe_str (pa_cons pe_str (pa_cons pe_str (pa_cons pe_str (pa_cons pe_str pa_nil))))))))) (pe_callC c_law_draw hr (by omega) rfl (pa_cons (pv 0) (pa_cons pe_int pa_nil))) (fun _ _=>rfl)))
  pss_nil) pss_nil))
  (pss_cons (ps_cut (ps_if (PW.pt (pw_and (pt_cmpR (op_neNil hr.units0) (pv 1) (pe_lst pa_nil) (nomark _)) (pw_and (pt_cmpR op_le pe_int (pv 2) (nomark _)) (pw_and1 (pt_cmpR op_le (pv 2) pe_int (nomark _)))))) (pss_cons (ps_set (i:=5) sc_law_name.nd rfl (Or.inl rfl) (pe_ix ix_list (pv 1) (pe_callC c_law_draw hr (by omega) rfl (pa_cons (pv 0) (pa_cons (pe_callB call_len_seq rfl z_len PySem.boot_len (pa_cons (pv 1) pa_nil)) pa_nil))) (fun _ _=>rfl)))
  (pss_cons (ps_set (i:=6) sc_law_name.nd rfl (Or.inl rfl) (pe_callC c_law_draw hr (by omega) rfl (pa_cons (pv 0) (pa_cons (pe_op op_add (pe_callB call_len_str rfl z_len PySem.boot_len (pa_cons (pv 5) pa_nil)) pe_int) pa_nil))))
  (pss_cons (ps_set (i:=7) sc_law_name.nd rfl (Or.inl rfl) (pe_lst (pa_cons (pe_op op_add_str (pe_op op_add_str (pe_slice sl_str (pv 5) po_none (po_some (pv 6))) (pe_slice sl_str (pv 3) po_none (po_some pe_int))) (pe_slice sl_str (pv 5) (po_some (pe_op op_add (pv 6) pe_int)) po_none)) (pa_cons (pe_op op_add_str (pe_op op_add_str (pe_slice sl_str (pv 5) po_none (po_some (pv 6))) (pe_slice sl_str (pv 3) po_none (po_some pe_int))) (pe_slice sl_str (pv 5) (po_some (pv 6)) po_none)) (pa_cons (pe_slice sl_str (pv 5) po_none (po_some (pe_callB (call_max2 rfl) rfl z_max PyProof.Rows.boot_max (pa_cons pe_int (pa_cons (pv 6) pa_nil))))) (pa_cons (pe_op op_add_str (pv 3) (pv 5)) pa_nil))))))
  (pss_cons (ps_set (i:=3) sc_law_name.nd rfl (Or.inl rfl) (pe_slice sl_str (pe_ix ix_list (pv 7) (pe_op op_sub (pv 2) pe_int) (fun _ _=>rfl)) po_none (po_some pe_int)))
  pss_nil)))) pss_nil))
  (pss_cons (ps_comp (i:=8) (own:=["one"]) (cap:=[(1,"taken")]) (compOkC rfl (by decide +kernel) (by decide +kernel) rfl (⟨rfl,trivial⟩) rfl (⟨⟨rfl,rfl,rfl⟩,trivial⟩)) rfl (pi_list (pe_lst (pa_cons (pv 3) (pa_cons pe_str (pa_cons pe_str (pa_cons pe_str (pa_cons pe_str (pa_cons pe_str (pa_cons pe_str (pa_cons pe_str pa_nil)))))))))) (fun _ _ _ _=>(pg_name (i:=0) (show List.Nodup (["one","taken"]:List Str) from by decide +kernel) rfl (Or.inl rfl) (Or.inr rfl))) (fun _ _ _ _=>(pts_one (pt_cmpR (show OpR _ (compareOp .NotIn) (rIn K true) from op_notIn_seq) (pv 0) (pv 1) (by with_unfolding_all rfl)))) (fun _ _ _ _=>(pv 0)) sc_law_name.nd rfl rfl)
  (pss_cons (ps_ret (pe_ix ix_list (pv 8) pe_int (fun _ _=>rfl)))
  pss_nil))))))),?_⟩
 have hba:b≠a:=fl.ne hb
 have hbn:b∉[a]:=by simpa using hba
 refine ⟨_,rfl,a,8,rfl,fl,by decide,by decide,fun way H1 w0 w8 fl1 k1=>?_⟩
 -- the letters
 refine ⟨_,rfl,a,8,rfl,fl1,by decide,by decide,fun r2 H2 r0 r8 fl2 k2=>?_⟩
 refine ⟨_,_,rfl,rfl,1+r2,rfl,by omega,by omega,?_⟩
 refine for_range (fun i σ H'=>∃ o z,σ=[some (.ref a),some (.ref b),some (.int way),some (.str z),o,none,none,none,none]∧z.length=i∧Lets z∧Flow H' a∧Kp [a] H H') ?_ ?_ ?_
 ·exact ⟨none,_,rfl,by decide,(fun c hc=>nomatch (show c∈([]:List Nat) from hc)),fl2,k1.trans k2⟩
 ·rintro i σ H3 hi ⟨o,z,rfl,hz,hl,fl3,k3⟩
  refine ⟨_,rfl,_,rfl,a,26,rfl,fl3,by decide,by decide,fun r4 H4 r40 r41 fl4 k4=>?_⟩
  obtain ⟨c,hc,hc1⟩:=abc_at r40 r41
  refine ⟨_,_,c,rfl,rfl,(by show abc.length≤sizeLine; rw [abc_len]; decide),hc,_,_,rfl,rfl,?_,?_⟩
  ·have:z.length+1≤sizeLine:=by
    rw [hz]
    exact Nat.le_of_lt (small1000 (show i+1≤1000 by omega))
   exact this
  ·refine ⟨_,_,rfl,?_,hl.app (fun d hd=>?_),fl4,k3.trans k4⟩
   ·rw [app_len,hz]; rfl
   ·have hd':d∈[c]:=hd
    rw [List.mem_singleton.mp hd']; exact hc1
 rintro σ H3 ⟨o,z,rfl,hz,hl,fl3,k3⟩
 have hz1:Nm z:=⟨by omega,by omega,hl⟩
 have hb3:=k3 b _ hbn hb
 -- a word in its place
 refine ⟨fun σ H'=>∃ z,σ=[some (.ref a),some (.ref b),some (.int way),some (.str z),o,none,none,none,none]∧Nm z∧Flow H' a∧Kp [a] H H',?_,?_⟩
 ·refine ⟨_,rfl,rfl,_,rfl,?_⟩
  refine ite2 (fun c=>?_) (fun c=>⟨z,rfl,hz1,fl3,k3⟩)
  refine ⟨by show 8≤sizeLine; decide,fun p hp=>?_⟩
  refine ⟨_,rfl,a,8,rfl,fl3.new hp,by decide,by decide,fun r4 H4 r40 r41 fl4 k4=>?_⟩
  have hpa:p∉[a]:=by
   obtain ⟨u,e⟩:=fl3.some
   simpa using (ne_of_none e hp).symm
  obtain ⟨x,hx,hm⟩:=at_some (xs:=wordsL.map V.str) r40 (by simpa using r41)
  obtain ⟨y,hy,rfl⟩:=List.mem_map.mp hm
  exact ⟨p,_,_,_,rfl,rfl,SqL.of (k4 p _ hpa upd_same),hx,y,rfl,words_nm y hy,fl4,(k3.trans (Kp.new hp _)).trans k4⟩
 rintro σ H5 ⟨z5,rfl,nm5,fl5,k5⟩
 have hb5:=k5 b _ hbn hb
 -- near a taken one
 refine ⟨fun σ H'=>∃ z o5 o6 o7,σ=[some (.ref a),some (.ref b),some (.int way),some (.str z),o,o5,o6,o7,none]∧Nm z∧Flow H' a∧Kp [a] H H',?_,?_⟩
 ·have sz:∀ n:Nat,n≤1000→n≤sizeLine:=fun n h=>Nat.le_of_lt (small1000 h)
  have stay:∀ {p:Addr} {o':HO},H5 p=none→Kp [a] H (upd H5 p o'):=fun hp=>k5.trans (Kp.new hp _)
  refine ⟨_,rfl,by show 0≤sizeLine; decide,fun p hp=>⟨b,p,_,rfl,rfl,SqL.of (by rw [upd_ne (ne_of_none hb5 hp)]; exact hb5),SqL.of upd_same,_,rfl,?_⟩⟩
  have flp:Flow (upd H5 p (.lst [])) a:=fl5.new hp
  refine ite2 (fun c1=>?_) (fun c1=>iteF ⟨z5,none,none,none,rfl,nm5,flp,stay hp⟩)
  refine ⟨_,rfl,_,_,rfl,rfl,_,rfl,?_⟩
  refine ite2 (fun c2=>?_) (fun c2=>iteF ⟨z5,none,none,none,rfl,nm5,flp,stay hp⟩)
  refine ⟨_,rfl,_,_,rfl,rfl,_,rfl,?_⟩
  refine ite2 (fun c3=>?_) (fun c3=>⟨z5,none,none,none,rfl,nm5,flp,stay hp⟩)
  have w1:(1:Int)≤way:=of_decide_eq_true c2
  have w4:way≤4:=of_decide_eq_true c3
  have hss:0 < ss.length:=by
   cases ss with
   | nil=>exact absurd c1 (by decide)
   | cons x r=>exact Nat.succ_pos _
  have hbp:(upd H5 p (.lst [])) b=some (.lst (ss.map V.str)):=by rw [upd_ne (ne_of_none hb5 hp)]; exact hb5
  have kp0:Kp [a] H (upd H5 p (.lst [])):=stay hp
  generalize upd H5 p (.lst [])=Hp0 at hbp kp0 flp ⊢
  -- old
  refine ⟨_,rfl,_,rfl,_,rfl,b,_,rfl,.inl (SqL.of hbp),a,_,rfl,flp,(by show (0:Int) < ((ss.map V.str).length:Nat); rw [List.length_map]; omega),(by show (((ss.map V.str).length:Nat):Int) < 2 ^ 200; rw [List.length_map]; omega),fun r7 H7 r70 r71 fl7 k7=>?_⟩
  obtain ⟨x,hx,hm⟩:=at_some r70 r71
  obtain ⟨y,hy,rfl⟩:=List.mem_map.mp hm
  have nmy:=hnm y hy
  have hb7:=k7 b _ hbn hbp
  refine ⟨b,_,_,_,rfl,rfl,SqL.of hb7,hx,?_⟩
  -- at
  refine ⟨_,rfl,_,rfl,y,rfl,sz _ (by have:=nmy.2.1; omega),_,_,rfl,rfl,a,_,rfl,fl7,(by show (0:Int) < (y.length:Int)+1; omega),(by have:=nmy.2.1; show (y.length:Int)+1 < 2 ^ 200; omega),fun r8 H8 r80 r81 fl8 k8=>?_⟩
  have ly:y.length≤sizeLine:=sz _ (by have:=nmy.2.1; omega)
  have lz:z5.length≤sizeLine:=sz _ (by have:=nm5.2.1; omega)
  have l8:=nmy.2.1
  have z8:=nm5.2.1
  have ny:=nmy.1
  have nz:=nm5.1
  -- some
  refine ⟨_,rfl,_,rfl,_,rfl,y,rfl,ly,fun s1 e1=>?_⟩
  refine ⟨_,rfl,_,rfl,z5,rfl,lz,fun s2 e2=>?_⟩
  have q1:=cut_le e1
  have q2:=cut_le e2
  refine ⟨_,_,rfl,rfl,sz _ (by omega),?_⟩
  refine ⟨_,rfl,_,rfl,_,_,rfl,rfl,_,rfl,y,rfl,ly,fun s3 e3=>?_⟩
  have q3:=cut_le e3
  refine ⟨_,_,rfl,rfl,sz _ (by rw [app_len]; omega),?_⟩
  refine ⟨_,rfl,_,rfl,_,rfl,y,rfl,ly,fun s4 e4=>?_⟩
  refine ⟨_,rfl,_,rfl,z5,rfl,lz,fun s5 e5=>?_⟩
  have q4:=cut_le e4
  have q5:=cut_le e5
  refine ⟨_,_,rfl,rfl,sz _ (by omega),?_⟩
  refine ⟨_,rfl,_,rfl,_,rfl,y,rfl,ly,fun s6 e6=>?_⟩
  have q6:=cut_le e6
  refine ⟨_,_,rfl,rfl,sz _ (by rw [app_len]; omega),?_⟩
  refine ⟨_,rfl,_,rfl,_,_,rfl,_,rfl,y,rfl,ly,fun s7 e7=>?_⟩
  refine ⟨_,rfl,_,rfl,_,_,rfl,rfl,sz _ (by omega),?_⟩
  refine ⟨by show 4≤sizeLine; decide,fun p2 hp2=>?_⟩
  have h2:=cut_head (by decide:(0:Int)≤1) e2
  have h5:=cut_head (by decide:(0:Int)≤1) e5
  have h7:=cut_head (by split <;> omega) e7
  have good:∀ x∈[s1++s2++s3,s4++s5++s6,s7,z5++y],1≤x.length∧x.length≤24∧Lets x:=by
   intro x hx
   simp only [List.mem_cons,List.not_mem_nil,or_false] at hx
   rcases hx with rfl | rfl | rfl | rfl
   ·refine ⟨?_,?_,((nmy.2.2.cut e1).app (nm5.2.2.cut e2)).app (nmy.2.2.cut e3)⟩
    ·rw [app_len,app_len,h2]; omega
    ·rw [app_len,app_len]; omega
   ·refine ⟨?_,?_,((nmy.2.2.cut e4).app (nm5.2.2.cut e5)).app (nmy.2.2.cut e6)⟩
    ·rw [app_len,app_len,h5]; omega
    ·rw [app_len,app_len]; omega
   ·refine ⟨?_,?_,nmy.2.2.cut e7⟩
    ·rw [h7]; split <;> omega
    ·have:=cut_le e7; omega
   ·refine ⟨?_,?_,nm5.2.2.app nmy.2.2⟩
    ·rw [app_len]; omega
    ·rw [app_len]; omega
  obtain ⟨v,hv,hvm⟩:=at_some (xs:=[s1++s2++s3,s4++s5++s6,s7,z5++y].map V.str) (r:=way-1) (by omega) (by show way-1 < 4; omega)
  obtain ⟨u,hu,rfl⟩:=List.mem_map.mp hvm
  obtain ⟨g1,g2,g3⟩:=good u hu
  refine ⟨_,rfl,_,rfl,_,_,rfl,rfl,p2,_,_,_,rfl,rfl,SqL.of upd_same,hv,_,rfl,u,rfl,sz _ (by omega),fun t9 e9=>?_⟩
  have h9:=cut_head (by decide:(0:Int)≤8) e9
  exact ⟨t9,_,_,_,rfl,⟨by rw [h9]; have:(8:Int).toNat=8:=rfl; omega,by rw [h9]; have:(8:Int).toNat=8:=rfl; omega,g3.cut e9⟩,fl8.new hp2,((kp0.trans k7).trans k8).trans (Kp.new hp2 _)⟩
 rintro σ H6 ⟨z6,o5,o6,o7,rfl,nm6,fl6,k6⟩
 have hb6:=k6 b _ hbn hb
 -- the spare ones
 refine ⟨_,rfl,by show 8≤sizeLine; decide,fun p hp=>?_⟩
 have hbp:(upd H6 p (.lst ((z6::spareL).map V.str))) b=some (.lst (ss.map V.str)):=by rw [upd_ne (ne_of_none hb6 hp)]; exact hb6
 have flp:Flow (upd H6 p (.lst ((z6::spareL).map V.str))) a:=fl6.new hp
 have kpp:Kp [a] H (upd H6 p (.lst ((z6::spareL).map V.str))):=k6.trans (Kp.new hp _)
 have hpp:(upd H6 p (.lst ((z6::spareL).map V.str))) p=some (.lst ((z6::spareL).map V.str)):=upd_same
 refine ⟨p,rfl,⟨_,SqL.of hpp⟩,?_⟩
 intro D hD
 have hD:(upd H6 p (.lst ((z6::spareL).map V.str))) D=none:=hD
 refine comp_list (K:=K) (xs:=(z6::spareL).map V.str) (fun i σ' ys H'=>∃ o',σ'=[o',some (.ref b)]∧ys=(((z6::spareL).take i).filter fun x=>!decide (x∈ss)).map V.str∧H'=upd (upd H6 p (.lst ((z6::spareL).map V.str))) D (.lst ys)) ?_ ?_ ?_ ?_ ?_
 ·exact ⟨none,rfl,rfl,rfl⟩
 ·rintro i σ' ys H' hi ⟨o',rfl,rfl,rfl⟩
  refine ⟨upd_same,?_,SqL.of (by rw [upd_ne (ne_of_none hpp hD)]; exact hpp)⟩
  rw [List.length_map]
  refine Nat.le_trans (List.length_filter_le _ _) ?_
  rw [List.length_take]
  exact Nat.min_le_left _ _
 ·show 8≤sizeLine
  decide
 ·rintro i x σ' ys H' hx ⟨o',rfl,rfl,rfl⟩
  rw [List.getElem?_map] at hx
  cases hy:(z6::spareL)[i]? with
  | none=>rw [hy] at hx; cases hx
  | some y=>
   rw [hy] at hx
   cases hx
   have hb8:(upd (upd H6 p (.lst ((z6::spareL).map V.str))) D (.lst ((((z6::spareL).take i).filter fun x=>!decide (x∈ss)).map V.str))) b=some (.lst (ss.map V.str)):=by rw [upd_ne (ne_of_none hbp hD)]; exact hbp
   refine ⟨_,rfl,_,rfl,b,_,rfl,.inl (SqL.of hb8),rfl,flat_strs ss,_,rfl,?_⟩
   have tk:(z6::spareL).take (i+1)=(z6::spareL).take i++[y]:=by rw [List.take_add_one,hy]; rfl
   show if (!inV (.str y) (ss.map V.str))=true then _ else _
   rw [inV_strs]
   refine ite2 (fun c=>?_) (fun c=>?_)
   ·refine ⟨_,rfl,upd_same,_,rfl,?_,?_⟩
    ·rw [tk,List.filter_append,List.map_append]
     simp only [List.filter_cons,c,if_true,List.filter_nil,List.map_cons,List.map_nil]
    ·rw [upd_upd]
   ·refine ⟨_,rfl,?_,rfl⟩
    rw [tk,List.filter_append,List.map_append]
    have c':(!decide (y∈ss))=false:=Bool.eq_false_iff.mpr c
    simp only [List.filter_cons,c',Bool.false_eq_true,if_false,List.filter_nil,List.map_nil,List.append_nil]
 ·rintro σ' ys H' ⟨o',rfl,rfl,rfl⟩
  obtain ⟨y,r,e,ny,ns⟩:=fresh_name nm6 h6
  have e8:(((z6::spareL).take ((z6::spareL).map V.str).length).filter fun x=>!decide (x∈ss))=y::r:=by rw [List.length_map,List.take_length]; exact e
  rw [e8]
  refine ⟨_,rfl,D,_,_,_,rfl,rfl,SqL.of upd_same,atI0,?_⟩
  exact q y _ ny ns (flp.new hD) (kpp.trans (Kp.new hD _))
end
section
variable {P:Program} {w:World} {K:PySem.W.Frag} {mg:Str→Option Value} {base:Heap} {f:Addr} {fd:FuncData}
abbrev s_law_kind:Stmt:=top 19
theorem sc_law_kind:FnScope ["flow","depth","room","word","many","deepest","names","fields","k","below"] ["flow","depth","room"] (defScope s_law_kind):=⟨rfl,rfl,rfl,by decide +kernel,rfl,by decide +kernel,by decide +kernel⟩
def One (H:Hp) (b:Addr):Prop:=∃ r:Int,H b=some (.lst [.int r])
theorem One.ne {H:Hp} {a b:Addr} (h:Flow H a) (h':One H b):b≠a:=by
 obtain ⟨f0,f1,f2,e,_⟩:=h
 obtain ⟨r,e'⟩:=h'
 exact ne_of e' e (by intro z; have z':=HO.lst.inj z; cases z')
theorem One.kp {H H':Hp} {b:Addr} {l:List Addr} (h:One H b) (k:Kp l H H') (n:b∉l):One H' b:=by
 obtain ⟨r,e⟩:=h
 exact ⟨r,k b _ n e⟩
theorem One.new {H:Hp} {b p:Addr} {o:HO} (h:One H b) (n:H p=none):One (upd H p o) b:=by
 obtain ⟨r,e⟩:=h
 exact ⟨r,by rw [upd_ne (ne_of_none e n)]; exact e⟩
theorem tp_set {H:Hp} {p:Addr} {xs:List V} (h:H p=some (.lst xs)) (o:HO):Tp H (upd H p o):=fun b ys q=>by
 rw [upd_ne (ne_of q h (by intro z; cases z))]; exact q
theorem tp_new {H:Hp} {p:Addr} (h:H p=none) (o:HO):Tp H (upd H p o):=fun b ys q=>by rw [upd_ne (ne_of_none q h)]; exact q
theorem Flow.tp {H H':Hp} {a:Addr} (h:Flow H a) (k:Kp [a] H H'):Tp H H':=k.tp fun b hb xs e=>by
 obtain ⟨f0,f1,f2,e',_⟩:=h
 rw [List.mem_singleton.mp hb,e'] at e
 cases e
theorem Flow.tp2 {H H':Hp} {a b:Addr} (h:Flow H a) (h':One H b) (k:Kp [a,b] H H'):Tp H H':=k.tp fun c hb xs e=>by
 obtain ⟨f0,f1,f2,e',_⟩:=h
 obtain ⟨r,e2⟩:=h'
 rcases List.mem_cons.mp hb with rfl | hb
 ·rw [e'] at e; cases e
 ·rw [List.mem_singleton.mp hb,e2] at e; cases e
def spKind (n:Nat):Sp:=fun vs H Q _=>∃ (a b:Addr) (d:Int),vs=[.ref a,.int d,.ref b]∧Flow H a∧One H b∧1≤d∧d < n∧d≤10 ∧
 ∀ (v:V) (k:Kd) (H':Hp),KIn H' v k→k.good→k.depth≤d.toNat→Flow H' a→One H' b→Kp [a,b] H H'→Q v H'
theorem goodF_snoc {nm:Str} {k:Kd} (h1:Nm nm) (h2:k.good):∀ {fs:List (Str×Kd)},goodF fs→goodF (fs++[(nm,k)])
 | [],_=>by show goodF [(nm,k)]; unfold goodF; exact ⟨⟨h1.1,h1.2.1,h1.2.2⟩,h2,by unfold goodF; trivial⟩
 | (n',k')::r,h=>by
  show goodF ((n',k')::(r++[(nm,k)]))
  unfold goodF at h ⊢
  exact ⟨h.1,h.2.1,goodF_snoc h1 h2 h.2.2⟩
theorem nodup_snoc {α:Type} {xs:List α} {x:α} (h:xs.Nodup) (n:x∉xs):(xs++[x]).Nodup:=by
 rw [List.nodup_append]
 exact ⟨h,by simp,fun a ha b hb=>by rw [List.mem_singleton.mp hb]; rintro rfl; exact n ha⟩
theorem ok_kind {n:Nat} (F:Fun K "_law_kind" "_law_kind" s_law_kind f fd) (c_law_draw:Callee P w K mg base "_law_draw" 1 ["flow","many"] spDraw) (c_law_name:Callee P w K mg base "_law_name" 2 ["flow","taken"] spName)
  (c_law_kind:Callee P w K mg base "_law_kind" (2+n) ["flow","depth","room"] (spKind n))
  (z_range:mg "range" = none) (z_tuple:mg "tuple" = none):FnOk P w K mg base CX0 (2+n+1) f fd ["flow","depth","room"] (spKind (n+1)):=by
 refine F.ok sc_law_kind (fun vs H Q E h=>?_) (fun cdv A outer s H vs Q E hr h=>?_)
 ·obtain ⟨a,b,d,rfl,_⟩:=h
  rfl
 obtain ⟨a,b,d,rfl,fl,on,d1,dn,d10,q⟩:=h
 refine ⟨_,(pss_cons (ps_if (pt_cmpR op_lt (pv 1) pe_int (nomark _)) (pss_cons (ps_if (pt_cmpR op_eq (pe_callC c_law_draw hr (by omega) rfl (pa_cons (pv 0) (pa_cons pe_int pa_nil))) pe_int (nomark _)) (pss_cons (ps_ret (pe_tup (pa_cons pe_str pa_nil)))
  pss_nil) pss_nil)
  (pss_cons (ps_ret (pe_tup (pa_cons pe_str (pa_cons (pe_op op_add pe_int (pe_callC c_law_draw hr (by omega) rfl (pa_cons (pv 0) (pa_cons pe_int pa_nil)))) pa_nil))))
  pss_nil)) pss_nil)
  (pss_cons (ps_set (i:=3) sc_law_kind.nd rfl (Or.inl rfl) (pe_ix ix_list (pe_lst (pa_cons pe_str (pa_cons pe_str (pa_cons pe_str (pa_cons pe_str pa_nil))))) (pe_callC c_law_draw hr (by omega) rfl (pa_cons (pv 0) (pa_cons pe_int pa_nil))) (fun _ _=>rfl)))
  (pss_cons (ps_if (pt_cmpR op_eq (pv 3) pe_str (nomark _)) (pss_cons (ps_ret (pe_tup (pa_cons pe_str (pa_cons (pe_callC c_law_kind hr (by omega) rfl (pa_cons (pv 0) (pa_cons (pe_op op_sub (pv 1) pe_int) (pa_cons (pv 2) pa_nil)))) pa_nil))))
  pss_nil) pss_nil)
  (pss_cons (ps_set (i:=4) sc_law_kind.nd rfl (Or.inl rfl) (pe_op op_add pe_int (pe_callC c_law_draw hr (by omega) rfl (pa_cons (pv 0) (pa_cons (pe_ix ix_list (pe_lst (pa_cons pe_int (pa_cons pe_int (pa_cons pe_int (pa_cons pe_int pa_nil))))) (pe_callC c_law_draw hr (by omega) rfl (pa_cons (pv 0) (pa_cons pe_int pa_nil))) (fun _ _=>rfl)) pa_nil)))))
  (pss_cons (ps_set (i:=5) sc_law_kind.nd rfl (Or.inl rfl) (pe_callC c_law_draw hr (by omega) rfl (pa_cons (pv 0) (pa_cons (pv 4) pa_nil))))
  (pss_cons (ps_set (i:=6) sc_law_kind.nd rfl (Or.inl rfl) (pe_lst pa_nil))
  (pss_cons (ps_set (i:=7) sc_law_kind.nd rfl (Or.inl rfl) (pe_lst pa_nil))
  (pss_cons (ps_for PassesOwn.never rfl (pi_range1 rfl z_range (pa_cons (pv 4) pa_nil)) (pg_name (i:=8) sc_law_kind.nd rfl (Or.inl rfl)) (pss_cons (ps_set (i:=9) sc_law_kind.nd rfl (Or.inl rfl) pe_int)
  (pss_cons (ps_cut (ps_if (pt_cmpR op_eq (pv 8) (pv 5) (nomark _)) (pss_cons (ps_set (i:=9) sc_law_kind.nd rfl (Or.inl rfl) (pe_op op_sub (pv 1) pe_int))
  pss_nil) (pss_cons (ps_cut (ps_if (PW.pt (pw_and (pt_cmpR op_gt (pe_ix ix_list (pv 2) pe_int (fun _ _=>rfl)) pe_int (nomark _)) (pw_and1 (pt_cmpR op_eq (pe_callC c_law_draw hr (by omega) rfl (pa_cons (pv 0) (pa_cons pe_int pa_nil))) pe_int (nomark _))))) (pss_cons (ps_asg (pe_op op_sub (pe_ix ix_list (pv 2) pe_int (fun _ _=>rfl)) pe_int) (pg_sub (pv 2) pe_int set_list (fun _=>rfl)))
  (pss_cons (ps_set (i:=9) sc_law_kind.nd rfl (Or.inl rfl) (pe_op op_add pe_int (pe_callC c_law_draw hr (by omega) rfl (pa_cons (pv 0) (pa_cons (pe_op op_sub (pv 1) pe_int) pa_nil)))))
  pss_nil)) pss_nil))
  pss_nil)))
  (pss_cons (ps_expr (pe_bm PySem.F.plainAttrs_list PySem.F.slot_list_append PySem.F.type_list_append mt_append (pv 6) (pa_cons (pe_callC c_law_name hr (by omega) rfl (pa_cons (pv 0) (pa_cons (pv 6) pa_nil))) pa_nil)))
  (pss_cons (ps_expr (pe_bm PySem.F.plainAttrs_list PySem.F.slot_list_append PySem.F.type_list_append mt_append (pv 7) (pa_cons (pe_tup (pa_cons (pe_ix ix_list (pv 6) (pv 8) (fun _ _=>rfl)) (pa_cons (pe_callC c_law_kind hr (by omega) rfl (pa_cons (pv 0) (pa_cons (pv 9) (pa_cons (pv 2) pa_nil)))) pa_nil))) pa_nil)))
  pss_nil)))))
  (pss_cons (ps_ret (pe_tup (pa_cons (pv 3) (pa_cons (pe_callTy call_tuple_of rfl z_tuple bt_tuple (pa_cons (pv 7) pa_nil)) pa_nil))))
  pss_nil))))))))),?_⟩
 have hba:b≠a:=One.ne fl on
 have hbn:b∉[a]:=by simpa using hba
 have up1:∀ {H1 H2:Hp},Kp [a] H1 H2→Kp [a,b] H1 H2:=fun k=>k.mono (by simp)
 have sz:∀ n:Nat,n≤1000→n≤sizeLine:=fun n h=>Nat.le_of_lt (small1000 h)
 refine ⟨_,rfl,_,_,rfl,rfl,_,rfl,?_⟩
 refine ite2 (fun c=>?_) (fun c=>?_)
 ·-- a leaf
  refine ⟨_,rfl,a,3,rfl,fl,by decide,by decide,fun r H1 r0 r1 fl1 k1=>⟨rfl,_,rfl,?_⟩⟩
  refine ite2 (fun c=>?_) (fun c=>?_)
  ·refine ⟨by show 1≤sizeLine; decide,fun p hp=>?_⟩
   refine q _ .text _ (by unfold KIn; exact ⟨p,rfl,upd_same⟩) (by unfold Kd.good; trivial) (by unfold Kd.depth; omega) (fl1.new hp) ((on.kp k1 hbn).new hp) ((up1 k1).trans (Kp.new hp _))
  ·refine ⟨_,rfl,a,4,rfl,fl1,by decide,by decide,fun r2 H2 r20 r21 fl2 k2=>⟨_,_,rfl,rfl,by show 2≤sizeLine; decide,fun p hp=>?_⟩⟩
   refine q _ (.num (1+r2)) _ (by unfold KIn; exact ⟨p,rfl,upd_same⟩) (by unfold Kd.good; omega) (by unfold Kd.depth; omega) (fl2.new hp) (((on.kp k1 hbn).kp k2 hbn).new hp) (((up1 k1).trans (up1 k2)).trans (Kp.new hp _))
 have d2:2≤d:=by
  have:¬ d < 2:=fun z=>c (decide_eq_true z)
  omega
 -- the word
 refine ⟨by show 4≤sizeLine; decide,fun p0 hp0=>?_⟩
 refine ⟨_,rfl,a,4,rfl,fl.new hp0,by decide,by decide,fun r1 H1 r10 r11 fl1 k1=>?_⟩
 have hp0a:p0∉[a]:=by
  obtain ⟨u,e⟩:=fl.some
  simpa using (ne_of_none e hp0).symm
 obtain ⟨x,hx,hm⟩:=at_some (xs:=(["row","rec","pick","rec"]:List Str).map V.str) r10 (by simpa using r11)
 obtain ⟨word,hw,rfl⟩:=List.mem_map.mp hm
 refine ⟨p0,_,_,_,rfl,rfl,SqL.of (k1 p0 _ hp0a upd_same),hx,?_⟩
 have kH1:Kp [a,b] H H1:=(Kp.new hp0 _).trans (up1 k1)
 have on1:One H1 b:=(on.new hp0).kp k1 hbn
 refine ⟨_,rfl,rfl,_,rfl,?_⟩
 refine ite2 (fun c=>?_) (fun c=>?_)
 ·-- a row
  refine ⟨_,rfl,_,rfl,_,_,rfl,rfl,_,rfl,a,b,d-1,rfl,fl1,on1,by omega,by omega,by omega,fun v k H2 ki kg kd fl2 on2 k2=>?_⟩
  refine ⟨by show 2≤sizeLine; decide,fun p hp=>?_⟩
  refine q _ (.row k) _ (by unfold KIn; exact ⟨p,v,rfl,upd_same,ki.mono (tp_new hp _)⟩) (by unfold Kd.good; exact kg) (by unfold Kd.depth; omega) (fl2.new hp) (on2.new hp) ((kH1.trans k2).trans (Kp.new hp _))
 have hw2:word = "rec" ∨ word = "pick" := by
  have cw:¬ word = "row" := fun z=>c (decide_eq_true (congrArg V.str z))
  simp only [List.mem_cons,List.not_mem_nil,or_false] at hw
  rcases hw with h | h | h | h
  ·exact absurd h cw
  ·exact .inl h
  ·exact .inr h
  ·exact .inl h
 -- many
 refine ⟨_,rfl,by show 4≤sizeLine; decide,fun p1 hp1=>?_⟩
 refine ⟨_,rfl,a,4,rfl,fl1.new hp1,by decide,by decide,fun r2 H2 r20 r21 fl2 k2=>?_⟩
 have hp1a:p1∉[a]:=by
  obtain ⟨u,e⟩:=fl1.some
  simpa using (ne_of_none e hp1).symm
 obtain ⟨x2,hx2,hm2⟩:=at_some (xs:=([3,3,2,6]:List Int).map V.int) r20 (by simpa using r21)
 obtain ⟨m,hmm,rfl⟩:=List.mem_map.mp hm2
 have hm6:0 < m∧m≤6:=by
  simp only [List.mem_cons,List.not_mem_nil,or_false] at hmm
  omega
 refine ⟨p1,_,_,_,rfl,rfl,SqL.of (k2 p1 _ hp1a upd_same),hx2,a,m,rfl,fl2,hm6.1,by omega,fun r3 H3 r30 r31 fl3 k3=>⟨_,_,rfl,rfl,?_⟩⟩
 -- deepest
 refine ⟨_,rfl,_,rfl,a,1+r3,rfl,fl3,by omega,by omega,fun dp H4 dp0 dp1 fl4 k4=>?_⟩
 have kH4:Kp [a,b] H H4:=(((kH1.trans (Kp.new hp1 _)).trans (up1 k2)).trans (up1 k3)).trans (up1 k4)
 have on4:One H4 b:=((((on1.new hp1).kp k2 hbn).kp k3 hbn).kp k4 hbn)
 -- names,fields
 refine ⟨by show 0≤sizeLine; decide,fun N hN=>?_⟩
 refine ⟨by show 0≤sizeLine; decide,fun Fa hF=>?_⟩
 have hNa:N≠a:=by
  obtain ⟨u,e⟩:=fl4.some
  exact (ne_of_none e hN).symm
 have hNb:N≠b:=by
  obtain ⟨u,e⟩:=on4
  exact (ne_of_none e hN).symm
 have hFN:Fa≠N:=(ne_of_none (upd_same (H:=H4) (a:=N) (o:=.lst [])) hF).symm
 have hF4:H4 Fa=none:=by rw [upd_ne hFN] at hF; exact hF
 have hFa:Fa≠a:=by
  obtain ⟨u,e⟩:=fl4.some
  exact (ne_of_none e hF4).symm
 have hFb:Fa≠b:=by
  obtain ⟨u,e⟩:=on4
  exact (ne_of_none e hF4).symm
 have frH:∀ {c:Addr},H4 c=none→(c≠a)→(c≠b)→H c=none:=fun {c} h1 h2 h3=>by
  cases e:H c with
  | none=>rfl
  | some o=>rw [kH4 c o (by simp [h2,h3]) e] at h1; cases h1
 have HN:H N=none:=frH hN hNa hNb
 have HF:H Fa=none:=frH hF4 hFa hFb
 have stay:∀ {H':Hp} {c:Addr} {o:HO},H c=none→Kp [a,b] H H'→Kp [a,b] H (upd H' c o):=fun {H' c o} hc k x u hx hu=>by
  have e:x≠c:=ne_of_none hu hc
  rw [upd_ne e]; exact k x u hx hu
 refine ⟨_,rfl,1+r3,rfl,by omega,by omega,?_⟩
 refine for_range (fun i σ H'=>∃ o8 o9 ss xs fs,σ=[some (.ref a),some (.int d),some (.ref b),some (.str word),some (.int (1+r3)),some (.int dp),some (.ref N),some (.ref Fa),o8,o9] ∧
   H' N=some (.lst (ss.map V.str))∧ss.length=i∧(∀ z∈ss,Nm z)∧ss.Nodup∧H' Fa=some (.lst xs)∧FIn H' xs fs∧fs.map (·.1)=ss∧goodF fs∧depthF fs≤(d-1).toNat∧Flow H' a∧One H' b∧Kp [a,b] H H') ?_ ?_ ?_
 ·refine ⟨none,none,[],[],[],rfl,?_,rfl,(fun z hz=>nomatch hz),List.nodup_nil,upd_same,by unfold FIn; rfl,rfl,by unfold goodF; trivial,by unfold depthF; omega,(fl4.new hN).new hF,(on4.new hN).new hF,stay HF (stay HN kH4)⟩
  rw [upd_ne hFN.symm]; exact upd_same
 ·rintro i σ H5 hi ⟨o8,o9,ss,xs,fs,rfl,hN5,hsl,hnm,hnd,hF5,fin,hfs,hgf,hdf,fl5,on5,k5⟩
  -- below
  refine ⟨fun σ H'=>∃ bl:Int,σ=[some (.ref a),some (.int d),some (.ref b),some (.str word),some (.int (1+r3)),some (.int dp),some (.ref N),some (.ref Fa),some (.int (0+i)),some (.int bl)]∧1≤bl∧bl≤d-1 ∧
   H' N=some (.lst (ss.map V.str))∧H' Fa=some (.lst xs)∧FIn H' xs fs∧Flow H' a∧One H' b∧Kp [a,b] H H',?_,?_⟩
  ·refine ⟨_,rfl,_,rfl,rfl,_,rfl,?_⟩
   refine ite2 (fun c=>?_) (fun c=>?_)
   ·exact ⟨_,rfl,_,_,rfl,rfl,d-1,rfl,by omega,by omega,hN5,hF5,fin,fl5,on5,k5⟩
   ·refine ⟨fun σ H'=>∃ bl:Int,σ=[some (.ref a),some (.int d),some (.ref b),some (.str word),some (.int (1+r3)),some (.int dp),some (.ref N),some (.ref Fa),some (.int (0+i)),some (.int bl)]∧1≤bl∧bl≤d-1 ∧
     H' N=some (.lst (ss.map V.str))∧H' Fa=some (.lst xs)∧FIn H' xs fs∧Flow H' a∧One H' b∧Kp [a,b] H H',?_,fun _ _ h=>h⟩
    obtain ⟨rr,er⟩:=id on5
    refine ⟨_,rfl,b,_,_,_,rfl,rfl,SqL.of er,atI0,_,_,rfl,rfl,_,rfl,?_⟩
    refine ite2 (fun c1=>?_) (fun c1=>iteF ⟨1,rfl,by omega,by omega,hN5,hF5,fin,fl5,on5,k5⟩)
    refine ⟨_,rfl,a,3,rfl,fl5,by decide,by decide,fun r6 H6 r60 r61 fl6 k6=>⟨rfl,_,rfl,?_⟩⟩
    have on6:=on5.kp k6 hbn
    have hN6:=k6 N _ (by simpa using hNa) hN5
    have hF6:=k6 Fa _ (by simpa using hFa) hF5
    have fin6:=fin.mono (fl5.tp k6)
    refine ite2 (fun c2=>?_) (fun c2=>⟨1,rfl,by omega,by omega,hN6,hF6,fin6,fl6,on6,k5.trans (up1 k6)⟩)
    obtain ⟨r7,er7⟩:=id on6
    refine ⟨_,rfl,b,_,_,_,rfl,rfl,SqL.of er7,atI0,_,_,rfl,rfl,_,rfl,b,_,_,_,rfl,rfl,er7,rfl,?_⟩
    have flb:Flow (upd H6 b (.lst ([.int r7].set 0 (.int (r7-1))))) a:=by
     obtain ⟨f0,f1,f2,e,z⟩:=fl6
     exact ⟨f0,f1,f2,by rw [upd_ne hba.symm]; exact e,z⟩
    have onb:One (upd H6 b (.lst ([.int r7].set 0 (.int (r7-1))))) b:=⟨r7-1,upd_same⟩
    refine ⟨_,rfl,_,rfl,_,_,rfl,rfl,a,d-1,rfl,flb,by omega,by omega,fun r8 H8 r80 r81 fl8 k8=>⟨_,_,rfl,rfl,?_⟩⟩
    refine ⟨1+r8,rfl,by omega,by omega,k8 N _ (by simpa using hNa) (by rw [upd_ne hNb]; exact hN6),k8 Fa _ (by simpa using hFa) (by rw [upd_ne hFb]; exact hF6),(fin6.mono (tp_set er7 _)).mono (flb.tp k8),fl8,onb.kp k8 hbn,?_⟩
    exact ((k5.trans (up1 k6)).trans (Kp.set (by simp) _)).trans (up1 k8)
  rintro σ H6 ⟨bl,rfl,bl1,bld,hN6,hF6,fin6,fl6,on6,k6⟩
  -- names.append(name)
  refine ⟨_,rfl,.inl ⟨rfl,_,SqL.of hN6⟩,_,rfl,_,rfl,a,N,ss,rfl,fl6,hN6,by omega,hnm,fun z H7 nz nf fl7 k7=>?_⟩
  have hN7:=k7 N _ (by simpa using hNa) hN6
  have hF7:=k7 Fa _ (by simpa using hFa) hF6
  refine ⟨N,_,_,rfl,rfl,hN7,?_,?_⟩
  ·rw [List.length_map,hsl]; exact small1000 (by omega)
  -- fields.append((names[k],kind))
  have on7:=on6.kp k7 hbn
  have fl8:Flow (upd H7 N (.lst (ss.map V.str++[.str z]))) a:=by
   obtain ⟨f0,f1,f2,e,zz⟩:=fl7
   exact ⟨f0,f1,f2,by rw [upd_ne hNa.symm]; exact e,zz⟩
  have on8:One (upd H7 N (.lst (ss.map V.str++[.str z]))) b:=by
   obtain ⟨r,e⟩:=on7
   exact ⟨r,by rw [upd_ne hNb.symm]; exact e⟩
  have fin8:=(fin6.mono (fl6.tp k7)).mono (tp_set hN7 (.lst (ss.map V.str++[.str z])))
  have hF8:(upd H7 N (.lst (ss.map V.str++[.str z]))) Fa=some (.lst xs):=by rw [upd_ne hFN]; exact hF7
  have k8:Kp [a,b] H (upd H7 N (.lst (ss.map V.str++[.str z]))):=stay HN (k6.trans (up1 k7))
  have hix:atI (ss.map V.str++[.str z]) (0+(i:Int))=some (.str z):=by
   have e:(0+(i:Int))=((ss.map V.str).length:Nat):=by rw [List.length_map,hsl]; omega
   rw [e]
   exact atI_nat (by rw [List.getElem?_append_right (Nat.le_refl _),Nat.sub_self]; rfl)
  refine ⟨_,rfl,.inl ⟨rfl,_,SqL.of hF8⟩,_,rfl,_,rfl,N,_,_,_,rfl,rfl,SqL.of upd_same,hix,?_⟩
  refine ⟨_,rfl,_,rfl,_,rfl,a,b,bl,rfl,fl8,on8,bl1,by omega,by omega,fun v k H9 ki kg kd fl9 on9 k9=>?_⟩
  have nNab:N∉[a,b]:=by simp [hNa,hNb]
  have nFab:Fa∉[a,b]:=by simp [hFa,hFb]
  have hN9:=k9 N _ nNab upd_same
  have hF9:=k9 Fa _ nFab hF8
  have fin9:=fin8.mono (fl8.tp2 on8 k9)
  refine ⟨by show 2≤sizeLine; decide,fun p hp=>?_⟩
  have hFp:Fa≠p:=ne_of_none hF9 hp
  have hNp:N≠p:=ne_of_none hN9 hp
  have hF10:(upd H9 p (.tup [.str z,v])) Fa=some (.lst xs):=by rw [upd_ne hFp]; exact hF9
  have xl:xs.length=i:=by rw [fin.length,← hsl,← hfs,List.length_map]
  refine ⟨Fa,_,_,rfl,rfl,hF10,by rw [xl]; exact small1000 (by omega),?_⟩
  refine ⟨_,_,ss++[z],xs++[.ref p],fs++[(z,k)],rfl,?_,?_,?_,?_,upd_same,?_,?_,?_,?_,?_,?_,?_⟩
  ·rw [upd_ne hFN.symm,upd_ne hNp,hN9,List.map_append]; rfl
  ·rw [List.length_append,hsl]; rfl
  ·intro y hy
   rcases List.mem_append.mp hy with h | h
   ·exact hnm y h
   ·rw [List.mem_singleton.mp h]; exact nz
  ·exact nodup_snoc hnd nf
  ·have t1:Tp H9 (upd (upd H9 p (.tup [.str z,v])) Fa (.lst (xs++[.ref p]))):=(tp_new hp _).trans (tp_set hF10 _)
   exact (fin9.mono t1).snoc (by rw [upd_ne hFp.symm]; exact upd_same) (ki.mono t1)
  ·rw [List.map_append,hfs]; rfl
  ·exact goodF_snoc nz kg hgf
  ·exact depthF_snoc hdf (by omega)
  ·obtain ⟨f0,f1,f2,e,zz⟩:=fl9
   have ea:a≠p:=ne_of_none e hp
   exact ⟨f0,f1,f2,by rw [upd_ne hFa.symm,upd_ne ea]; exact e,zz⟩
  ·obtain ⟨r,e⟩:=on9
   have eb:b≠p:=ne_of_none e hp
   exact ⟨r,by rw [upd_ne hFb.symm,upd_ne eb]; exact e⟩
  ·exact stay HF ((k8.trans k9).trans (Kp.new hp _))
 rintro σ H5 ⟨o8,o9,ss,xs,fs,rfl,hN5,hsl,hnm,hnd,hF5,fin,hfs,hgf,hdf,fl5,on5,k5⟩
 -- the end
 refine ⟨_,rfl,_,rfl,Fa,xs,rfl,.inl ⟨SqL.of hF5,fun l hl=>⟨by show 2≤sizeLine; decide,fun p hp=>?_⟩⟩⟩
 have lp:l≠p:=ne_of_none upd_same hp
 have fl7:fs.length=(1+r3).toNat:=by rw [← hsl,← hfs,List.length_map]
 have t1:Tp H5 (upd (upd H5 l (.tup xs)) p (.tup [.str word,.ref l])):=(tp_new hl _).trans (tp_new hp _)
 have hl':(upd (upd H5 l (.tup xs)) p (.tup [.str word,.ref l])) l=some (.tup xs):=by rw [upd_ne lp]; exact upd_same
 have kk:Kp [a,b] H (upd (upd H5 l (.tup xs)) p (.tup [.str word,.ref l])):=(k5.trans (Kp.new hl _)).trans (Kp.new hp _)
 rcases hw2 with e | e <;> subst e
 ·refine q _ (.rec_ fs) _ (by unfold KIn; exact ⟨p,l,xs,rfl,upd_same,hl',fin.mono t1⟩) (by unfold Kd.good; exact ⟨hgf,by omega,by omega,by rw [hfs]; exact hnd⟩) (by unfold Kd.depth; omega) ((fl5.new hl).new hp) ((on5.new hl).new hp) kk
 ·refine q _ (.pick fs) _ (by unfold KIn; exact ⟨p,l,xs,rfl,upd_same,hl',fin.mono t1⟩) (by unfold Kd.good; exact ⟨hgf,by omega,by omega,by rw [hfs]; exact hnd⟩) (by unfold Kd.depth; omega) ((fl5.new hl).new hp) ((on5.new hl).new hp) kk
end
end Tg
namespace Tg
open PySem L2 L3
mutual
theorem kin_r {H:Hp}:∀ {k:Kd} {v:V},KIn H v k→R H v k.tr
 | .num w,v,h=>by
  unfold KIn at h
  obtain ⟨a,rfl,e⟩:=h
  exact r_tup e (rs_cons r_str (rs_cons r_int rs_nil))
 | .text,v,h=>by
  unfold KIn at h
  obtain ⟨a,rfl,e⟩:=h
  exact r_tup e (rs_cons r_str rs_nil)
 | .row k,v,h=>by
  unfold KIn at h
  obtain ⟨a,u,rfl,e,q⟩:=h
  exact r_tup e (rs_cons r_str (rs_cons (kin_r q) rs_nil))
 | .rec_ fs,v,h=>by
  unfold KIn at h
  obtain ⟨a,f,xs,rfl,e,e2,q⟩:=h
  exact r_tup e (rs_cons r_str (rs_cons (r_tup e2 (fin_r q)) rs_nil))
 | .pick fs,v,h=>by
  unfold KIn at h
  obtain ⟨a,f,xs,rfl,e,e2,q⟩:=h
  exact r_tup e (rs_cons r_str (rs_cons (r_tup e2 (fin_r q)) rs_nil))
theorem fin_r {H:Hp}:∀ {fs:List (Str×Kd)} {xs:List V},FIn H xs fs→Rs H xs (trF fs)
 | [],xs,h=>by unfold FIn at h; rw [h]; exact rs_nil
 | (nm,k)::r,xs,h=>by
  unfold FIn at h
  obtain ⟨p,u,ys,rfl,e,q,z⟩:=h
  exact rs_cons (r_tup e (rs_cons r_str (rs_cons (kin_r q) rs_nil))) (fin_r z)
end
def FlowAt (Γ:Gp) (a:Addr):Prop:=∃ f0 f1 f2:Int,Γ a=some (.lst [.int f0,.int f1,.int f2])∧0≤f0∧0≤f1∧f1 < 10 ^ 40+121
def OneAt (Γ:Gp) (b:Addr):Prop:=∃ r:Int,Γ b=some (.lst [.int r])
theorem FlowAt.fr {Γ Γ':Gp} {a:Addr} {l:List Addr} (h:FlowAt Γ a) (f:Fr l Γ Γ') (n:a∉l):FlowAt Γ' a:=by
 obtain ⟨f0,f1,f2,e,r⟩:=h
 exact ⟨f0,f1,f2,by rw [f a n]; exact e,r⟩
theorem FlowAt.kq {Γ Γ':Gp} {a:Addr} {l:List Addr} (h:FlowAt Γ a) (f:Kq l Γ Γ') (n:a∉l):FlowAt Γ' a:=by
 obtain ⟨f0,f1,f2,e,r⟩:=h
 exact ⟨f0,f1,f2,f a _ n e,r⟩
theorem FlowAt.new {Γ:Gp} {a p:Addr} {o:O} (h:FlowAt Γ a) (n:Γ p=none):FlowAt (up Γ p o) a:=h.kq (l:=[]) (Kq.new n o) (by simp)
theorem FlowAt.up {Γ:Gp} {a p:Addr} {o:O} (h:FlowAt Γ a) (n:a≠p):FlowAt (up Γ p o) a:=by
 obtain ⟨f0,f1,f2,e,r⟩:=h
 exact ⟨f0,f1,f2,by rw [up_ne n]; exact e,r⟩
theorem FlowAt.some {Γ:Gp} {a:Addr} (h:FlowAt Γ a):∃ o,Γ a=.some o:=by
 obtain ⟨f0,f1,f2,e,r⟩:=h
 exact ⟨_,e⟩
theorem FlowAt.nn {Γ:Gp} {a p:Addr} (h:FlowAt Γ a) (n:Γ p=none):p≠a:=by
 obtain ⟨o,e⟩:=h.some
 exact (gnn e n).symm
theorem OneAt.fr {Γ Γ':Gp} {a:Addr} {l:List Addr} (h:OneAt Γ a) (f:Fr l Γ Γ') (n:a∉l):OneAt Γ' a:=by
 obtain ⟨r,e⟩:=h
 exact ⟨r,by rw [f a n]; exact e⟩
theorem OneAt.kq {Γ Γ':Gp} {a:Addr} {l:List Addr} (h:OneAt Γ a) (f:Kq l Γ Γ') (n:a∉l):OneAt Γ' a:=by
 obtain ⟨r,e⟩:=h
 exact ⟨r,f a _ n e⟩
theorem OneAt.ne {Γ:Gp} {a b:Addr} (h:FlowAt Γ a) (h':OneAt Γ b):b≠a:=by
 obtain ⟨f0,f1,f2,e,_⟩:=h
 obtain ⟨r,e'⟩:=h'
 exact gne e' e (fun z=>by have:=O.lst.inj z; cases this)
theorem br_step {H H':Hp} {Γ Γ':Gp} {l:List Addr} (hr:HR H Γ) (k:Kp l H H') (hl:∀ b∈l,∃ ts ts' vs',Γ b=some (.lst ts)∧H' b=some (.lst vs')∧Rs H' vs' ts'∧Γ' b=some (.lst ts')) (fr:Fr l Γ Γ'):Stp H Γ H' Γ'∧HR H' Γ':=by
 have nl:∀ b∈l,∃ vs,H b=some (.lst vs):=fun b hb=>by
  obtain ⟨ts,ts',vs',g,_⟩:=hl b hb
  obtain ⟨vs,h,_⟩:=hr b _ g
  exact ⟨vs,h⟩
 have tq:Tq H H':=⟨fun a vs h=>k a _ (fun z=>by obtain ⟨us,h'⟩:=nl a z; rw [h] at h'; cases h') h,fun a o u h=>k a _ (fun z=>by obtain ⟨us,h'⟩:=nl a z; rw [h] at h'; cases h') h⟩
 refine ⟨⟨tq,fun a h z=>?_,fun a h g=>?_,fun a o h g=>?_⟩,fun a o g=>?_⟩
 ·by_cases m:a∈l
  ·obtain ⟨_,_,vs',_,h',_⟩:=hl a m
   rw [z] at h'; cases h'
  ·cases e:H a with
   | none=>exact h e
   | some o=>exact (by rw [k a o m e] at z; cases z)
 ·have m:a∉l:=fun m=>by obtain ⟨ts,_,_,g',_⟩:=hl a m; rw [g] at g'; cases g'
  rw [fr a m]; exact g
 ·have m:a∉l:=fun m=>by obtain ⟨ts,_,_,g',_⟩:=hl a m; rw [g] at g'; cases g'
  exact k a o m h
 ·by_cases m:a∈l
  ·obtain ⟨_,ts',vs',_,h',q,g'⟩:=hl a m
   rw [g] at g'; cases g'
   exact ⟨vs',h',q⟩
  ·rw [fr a m] at g
   exact (hr a o g).mono tq fun u h=>k a u m h
theorem flow_dn {H:Hp} {Γ:Gp} {a:Addr} (hr:HR H Γ) (h:FlowAt Γ a):Flow H a:=by
 obtain ⟨f0,f1,f2,e,r⟩:=h
 obtain ⟨vs,hv,q⟩:=hr a _ e
 rw [rs_ints (ns:=[f0,f1,f2]) q] at hv
 exact ⟨f0,f1,f2,hv,r⟩
theorem one_dn {H:Hp} {Γ:Gp} {a:Addr} (hr:HR H Γ) (h:OneAt Γ a):One H a:=by
 obtain ⟨r,e⟩:=h
 obtain ⟨vs,hv,q⟩:=hr a _ e
 rw [rs_ints (ns:=[r]) q] at hv
 exact ⟨r,hv⟩
theorem rs_of_ints {H:Hp}:∀ ns:List Int,Rs H (ns.map V.int) (ns.map T.int)
 | []=>rs_nil
 | n::r=>rs_cons r_int (rs_of_ints r)
def spDr:Sp3:=fun ts Γ Z _=>∃ (a:Addr) (m:Int),ts=[.ref a,.int m]∧FlowAt Γ a∧0 < m∧m < 2 ^ 200∧∀ (r:Int) (Γ':Gp),0≤r→r < m→FlowAt Γ' a→Fr [a] Γ Γ'→Z (.int r) Γ'
def spKd (n:Nat):Sp3:=fun ts Γ Z _=>∃ (a b:Addr) (d:Int),ts=[.ref a,.int d,.ref b]∧FlowAt Γ a∧OneAt Γ b∧1≤d∧d < n∧d≤10 ∧
 ∀ (k:Kd) (Γ':Gp),k.good→(k.depth:Int)≤d→FlowAt Γ' a→OneAt Γ' b→Fr [a,b] Γ Γ'→Z k.tr Γ'
section
variable {P:Program} {w:World} {K:PySem.W.Frag} {mg:Str→Option Value} {base:Heap}
theorem br_draw {k:Nat} (c:Callee P w K mg base "_law_draw" k ["flow","many"] spDraw):Cl3 P w K mg base "_law_draw" k ["flow","many"] spDr:=
 c.imp fun vs H Q E ⟨ts,Γ,Z,Y,r,hr,⟨a,m,e,fl,m0,m1,q⟩,vr,xr⟩=>by
  subst e
  obtain ⟨v,w,rfl,r1,r2⟩:=rs2 r
  refine ⟨a,m,by rw [i_ref r1,i_int r2],flow_dn hr fl,m0,m1,fun i H' i0 i1 fl' k=>?_⟩
  obtain ⟨f0,f1,f2,e',b'⟩:=fl'
  obtain ⟨g0,g1,g2,eg,_⟩:=fl
  have fr:Fr [a] Γ (up Γ a (.lst [.int f0,.int f1,.int f2])):=.set (by simp) _
  obtain ⟨s,hr'⟩:=br_step hr k (fun b hb=>by rw [List.mem_singleton.mp hb]; exact ⟨_,_,_,eg,e',rs_of_ints [f0,f1,f2],up_same⟩) fr
  exact vr _ _ H' _ s hr' r_int (q i _ i0 i1 ⟨f0,f1,f2,up_same,b'⟩ fr)
theorem br_kind {k n:Nat} (c:Callee P w K mg base "_law_kind" k ["flow","depth","room"] (spKind n)):Cl3 P w K mg base "_law_kind" k ["flow","depth","room"] (spKd n):=
 c.imp fun vs H Q E ⟨ts,Γ,Z,Y,r,hr,⟨a,b,d,e,fl,on,d1,dn,d10,q⟩,vr,xr⟩=>by
  subst e
  obtain ⟨v,ws,rfl,r1,r'⟩:=rs_inv r
  obtain ⟨w,u,rfl,r2,r3⟩:=rs2 r'
  refine ⟨a,b,d,by rw [i_ref r1,i_int r2,i_ref r3],flow_dn hr fl,one_dn hr on,d1,dn,d10,fun v k H' ki kg kd fl' on' kp=>?_⟩
  have nab:b≠a:=OneAt.ne fl on
  obtain ⟨f0,f1,f2,e',b'⟩:=fl'
  obtain ⟨g0,g1,g2,eg,_⟩:=fl
  obtain ⟨r0,er⟩:=on
  obtain ⟨r',er'⟩:=on'
  have fr:Fr [a,b] Γ (up (up Γ a (.lst [.int f0,.int f1,.int f2])) b (.lst [.int r'])):=(Fr.set (by simp) _).trans (Fr.set (by simp) _)
  obtain ⟨s,hr'⟩:=br_step hr kp (fun c hc=>by
   rcases List.mem_cons.mp hc with rfl | hc
   ·exact ⟨_,_,_,eg,e',rs_of_ints [f0,f1,f2],by rw [up_ne nab.symm]; exact up_same⟩
   ·rw [List.mem_singleton.mp hc]; exact ⟨_,_,_,er,er',rs_of_ints [r'],up_same⟩) fr
  exact vr _ _ H' _ s hr' (kin_r ki) (q k _ kg (by omega) ⟨f0,f1,f2,by rw [up_ne nab.symm]; exact up_same,b'⟩ ⟨r',up_same⟩ fr)
end
local macro_rules | `(tactic| and_intros)=>`(tactic| repeat (first
 | with_reducible refine t_seq ?_ | with_reducible refine t_if ?_ | with_reducible refine t_op ?_ | with_reducible refine t_T ?_ | with_reducible refine t_c ?_
 | ((with_reducible apply t_var); exact rfl) | with_reducible refine t_set ?_ | with_reducible refine t_ret ?_ | with_reducible refine t_retN ?_ | with_reducible refine t_drop ?_ | with_reducible refine t_next ?_ | with_reducible refine t_cnt ?_
 | with_reducible refine t_ix0 ?_ | with_reducible refine t_ix1 ?_ | with_reducible refine t_J ?_ | with_reducible refine t_eqS ?_ | with_reducible refine t_eqI ?_ | with_reducible refine t_neS ?_ | with_reducible refine t_neI ?_ | with_reducible refine t_bl ?_
 | with_reducible refine t_band ?_ | with_reducible refine t_bor ?_ | with_reducible refine t_bnot ?_ | with_reducible refine t_and ?_ | with_reducible refine t_or ?_ | with_reducible refine t_not ?_ | with_reducible refine t_eif ?_
 | with_reducible refine t_cons ?_ | with_reducible refine t_nil ?_ | with_reducible refine t_tup ?_ | with_reducible refine t_lst ?_ | with_reducible refine t_call ?_ | with_reducible refine t_callX ?_ | with_reducible refine t_cb ?_
 | with_reducible refine t_bm ?_ | with_reducible refine t_bm0 ?_ | with_reducible refine t_inst ?_ | with_reducible refine t_tru ?_ | with_reducible refine t_asg ?_ | with_reducible refine t_hn ?_ | ((with_reducible refine t_ht ?_ ?_); exact rfl) | with_reducible refine t_hc ?_ | with_reducible refine t_h0 ?_ | with_reducible refine t_hs ?_
 | with_reducible refine t_un ?_ | with_reducible refine t_neg ?_ | with_reducible refine t_sl ?_ | with_reducible refine t_on ?_ | with_reducible refine t_os ?_ | with_reducible refine t_oi ?_ | with_reducible refine t_rev ?_ | with_reducible refine t_for ?_ | with_reducible refine t_itp ?_ | with_reducible refine t_tp ?_ | with_reducible refine t_comp ?_ | with_reducible refine t_bt ?_ | with_reducible refine t_raise ?_ | with_reducible refine t_rg1 ?_ | with_reducible refine t_zp ?_ | with_reducible refine t_en ?_ | with_reducible refine t_ils ?_ | with_reducible refine t_ist ?_ | with_reducible refine t_str ?_
 | with_reducible refine t_slam ?_ | with_reducible refine t_maxd ?_ | with_reducible refine t_dictc ?_ | with_reducible refine t_dget ?_ | with_reducible refine t_irv ?_ | with_reducible refine t_compM ?_ | with_reducible refine t_mfor ?_
 | with_reducible refine t_2i ?_ | ((with_reducible apply t_ixR); (first | assumption | exact up_same); (first | exact at0 | exact at1)) | ((with_reducible apply t_hsub); (first | assumption | exact up_same); exact rfl)
 | with_reducible refine And.intro (rfl:T.non=T.non) ?_ | with_reducible refine t_try ?_ | with_reducible refine t_lz ?_ | with_reducible refine t_e0 ?_ | with_reducible refine t_chain ?_ | ((with_reducible apply t_inT); exact rfl; exact rfl; exact rfl) | with_reducible refine t_tyS ?_ | with_reducible refine t_1t ?_ | with_reducible refine t_2t ?_ | with_reducible refine t_eqSI ?_ | with_reducible refine t_eqIS ?_ | with_reducible refine t_neSI ?_ | with_reducible refine t_neIS ?_ | with_reducible refine t_gT ?_ | with_reducible refine t_lenT ?_
 | ((with_reducible refine t_len ?_ ?_); exact rfl)
 | ((with_reducible refine t_I ?_ ?_); (first | exact ⟨by decide,by decide,by decide⟩ | exact ⟨by decide,by decide⟩ | exact Or.inl ⟨by decide,by decide⟩ | exact Or.inr ⟨by decide,by decide⟩ | ((show (0:Int) < _); decide)))
 | ((with_reducible refine c_ifT ?_ ?_); (first | exact rfl | decide +kernel)) | ((with_reducible refine c_ifF ?_ ?_); (first | exact rfl | decide +kernel))))
theorem ret1 {Γ Γ':Gp} {a:Addr} {Z:K3} {x:T} (fl:FlowAt Γ' a) (k:Kq [a] Γ Γ') (q:∀ Γ2,FlowAt Γ2 a→Fr [a] Γ Γ2→Z x Γ2):dropK Z x Γ':=by
 obtain ⟨f0,f1,f2,e,r⟩:=fl
 exact dropL1 k e (q _ ⟨f0,f1,f2,up_same,r⟩ (Fr.set (by simp) _))
theorem ret2 {Γ Γ':Gp} {a b:Addr} {Z:K3} {x:T} (fl:FlowAt Γ' a) (on:OneAt Γ' b) (k:Kq [a,b] Γ Γ') (q:∀ Γ2,FlowAt Γ2 a→OneAt Γ2 b→Fr [a,b] Γ Γ2→Z x Γ2):dropK Z x Γ':=by
 have n:=OneAt.ne fl on
 obtain ⟨f0,f1,f2,e,r⟩:=fl
 obtain ⟨r',e'⟩:=on
 exact dropL2 k e e' (q _ ⟨f0,f1,f2,by rw [up_ne n.symm]; exact up_same,r⟩ ⟨r',up_same⟩ ((Fr.set (by simp) _).trans (Fr.set (by simp) _)))
theorem menu {ns:List Int} {r:Int} (h0:0≤r) (h1:r < ns.length):∃ n,n∈ns∧atI (ns.map T.int) r=some (.int n):=by
 obtain ⟨x,hx,hm⟩:=at_some (xs:=ns.map T.int) h0 (by simpa using h1)
 obtain ⟨n,hn,rfl⟩:=List.mem_map.mp hm
 exact ⟨n,hn,hx⟩
abbrev signsS:Str := " !\"#$&'()*+,-./0123456789:;<=>?@ABCDEFGHIJKLMNOPQRSTUVWXYZ[\\]^_`abcdefghijklmnopqrstuvwxyz{|}~"
theorem signs_len:signsS.cps.toList.length=94:=by decide +kernel
theorem signs_ok:∀ c∈signsS.cps.toList,okc c=true:=by decide +kernel
theorem pow_le4 {k:Nat} (h:k≤4):(65536:Int) ^ k≤65536 ^ 4:=by
 have c:k=0∨k=1∨k=2∨k=3∨k=4:=by omega
 rcases c with rfl | rfl | rfl | rfl | rfl <;> decide
theorem pow_lt {k:Nat} (h:k≤4):(65536:Int) ^ k < 2 ^ 200:=by
 have:=pow_le4 h
 have e:(65536:Int) ^ 4 < 2 ^ 200:=by decide
 omega
theorem pow_mul {k:Nat} (h:1≤k):∃ m:Int,(65536:Int) ^ k=65536 * m∧1≤m:=by
 obtain ⟨j,rfl⟩:∃ j,k=j+1:=⟨k-1,by omega⟩
 refine ⟨65536 ^ j,by rw [Int.pow_succ,Int.mul_comm],?_⟩
 have:=pow_pos' j
 omega
theorem pow7_pos (d:Nat):(1:Int)≤7 ^ d:=by
 have:(0:Int) < 7 ^ d:=Int.pow_pos (by decide)
 omega
theorem pow7_mono {d e:Nat} (h:d≤e):(7:Int) ^ d≤7 ^ e:=by
 obtain ⟨t,rfl⟩:∃ t,e=d+t:=⟨e-d,by omega⟩
 rw [Int.pow_add]
 have h3:=Int.mul_le_mul_of_nonneg_left (pow7_pos t) (show (0:Int)≤7 ^ d by have:=pow7_pos d; omega)
 rw [Int.mul_one] at h3
 exact h3
theorem sum_in {d:Int}:∀ {ns:List Int},(∀ x∈ns,1≤x∧x≤d)→(ns.length:Int)≤ns.sum∧ns.sum≤ns.length * d
 | [],_=>by simp
 | x::r,h=>by
  have h1:=h x List.mem_cons_self
  have h2:=sum_in fun y hy=>h y (List.mem_cons_of_mem _ hy)
  rw [List.sum_cons,List.length_cons]
  have e:((r.length+1:Nat):Int) * d=r.length * d+d:=by push_cast; rw [Int.add_mul,Int.one_mul]
  rw [e]
  push_cast
  omega
section
variable {P:Program} {w:World} {K:PySem.W.Frag} {mg:Str→Option Value} {base:Heap} {f:Addr} {fd:FuncData}
abbrev s_law_sign:Stmt:=top 20
theorem sc_law_sign:FnScope ["flow","some"] ["flow"] (defScope s_law_sign):=⟨rfl,rfl,rfl,by decide +kernel,rfl,by decide +kernel,by decide +kernel⟩
def spSg:Sp3:=fun ts Γ Z _=>∃ a:Addr,ts=[.ref a]∧FlowAt Γ a∧∀ (z:Str) (Γ':Gp),z.length=1→z.cps.toList.all okc=true→FlowAt Γ' a→Fr [a] Γ Γ'→Z (.str z) Γ'
theorem ok_sign (F:Fun K "_law_sign" "_law_sign" s_law_sign f fd) (c_law_draw:Cl3 P w K mg base "_law_draw" 1 ["flow","many"] spDr):FnOk P w K mg base CX0 2 f fd ["flow"] (liSp spSg):=by
 refine okd F sc_law_sign (fun ts Γ Z Y h=>?_) (fun cdv A outer s H E ts Γ Z Y hr h=>?_)
 ·obtain ⟨a,rfl,_⟩:=h
  rfl
 obtain ⟨a,rfl,fl,q⟩:=h
 refine ⟨_,(qss_cons (qs_set (i:=1) sc_law_sign.nd rfl (Or.inl rfl) qe_str)
  (qss_cons (qs_ret (qe_ixS (qv 1) (qe_call c_law_draw hr (by omega) rfl (qa_cons (qv 0) (qa_cons qe_int qa_nil))) (fun _ _=>rfl)))
  qss_nil)),?_⟩
 simp only [start3]
 and_intros
 refine ⟨a,94,rfl,fl,by decide,by decide,fun r Γ1 r0 r1 fl1 k1=>?_⟩
 obtain ⟨c,hc,hm⟩:=at_some (xs:=signsS.cps.toList) r0 (by rw [signs_len]; exact r1)
 refine ⟨signsS,_,c,rfl,rfl,by show signsS.cps.size≤sizeLine; rw [← Array.length_toList,signs_len]; decide,hc,?_⟩
 refine drop0 .refl (q _ Γ1 rfl ?_ fl1 k1)
 show ([c].all okc)=true
 rw [List.all_cons,signs_ok c hm]; rfl
abbrev s_law_number:Stmt:=top 21
theorem sc_law_number:FnScope ["flow","width","span","way","found"] ["flow","width"] (defScope s_law_number):=⟨rfl,rfl,rfl,by decide +kernel,rfl,by decide +kernel,by decide +kernel⟩
def spNm:Sp3:=fun ts Γ Z _=>∃ (a:Addr) (k:Nat),ts=[.ref a,.int (k:Nat)]∧FlowAt Γ a∧1≤k∧k≤4∧∀ (n:Int) (Γ':Gp),-(65536 ^ k)≤2 * n→2 * n < 65536 ^ k→FlowAt Γ' a→Fr [a] Γ Γ'→Z (.int n) Γ'
theorem ok_number (F:Fun K "_law_number" "_law_number" s_law_number f fd) (c_law_draw:Cl3 P w K mg base "_law_draw" 1 ["flow","many"] spDr):FnOk P w K mg base CX0 2 f fd ["flow","width"] (liSp spNm):=by
 refine okd F sc_law_number (fun ts Γ Z Y h=>?_) (fun cdv A outer s H E ts Γ Z Y hr h=>?_)
 ·obtain ⟨a,k,rfl,_⟩:=h
  rfl
 obtain ⟨a,k,rfl,fl,k1,k4,q⟩:=h
 refine ⟨_,(qss_cons (qs_set (i:=2) sc_law_number.nd rfl (Or.inl rfl) (qe_ix (qe_lst (qa_cons qe_int (qa_cons qe_int (qa_cons (qe_op oq_pow qe_int qe_int) (qa_cons (qe_op oq_pow qe_int qe_int) (qa_cons (qe_op oq_pow qe_int qe_int) qa_nil)))))) (qv 1) (fun _ _=>rfl)))
  (qss_cons (qs_set (i:=3) sc_law_number.nd rfl (Or.inl rfl) (qe_call c_law_draw hr (by omega) rfl (qa_cons (qv 0) (qa_cons qe_int qa_nil))))
  (qss_cons (qs_set (i:=4) sc_law_number.nd rfl (Or.inl rfl) (qe_call c_law_draw hr (by omega) rfl (qa_cons (qv 0) (qa_cons (qv 2) qa_nil))))
  (qss_cons (qs_cut (qs_if (qt_cmpR oq_eq (qv 3) qe_int (nomark _)) (qss_cons (qs_set (i:=4) sc_law_number.nd rfl (Or.inl rfl) (qe_ix (qe_lst (qa_cons qe_int (qa_cons qe_int (qa_cons (qe_op oq_sub (qe_op oq_fdiv (qv 2) qe_int) qe_int) (qa_cons (qe_op oq_fdiv (qv 2) qe_int) (qa_cons (qe_op oq_sub (qv 2) qe_int) (qa_cons qe_int qa_nil))))))) (qe_call c_law_draw hr (by omega) rfl (qa_cons (qv 0) (qa_cons qe_int qa_nil))) (fun _ _=>rfl)))
  qss_nil) (qss_cons (qs_cut (qs_if (qt_cmpR oq_eq (qv 3) qe_int (nomark _)) (qss_cons (qs_set (i:=4) sc_law_number.nd rfl (Or.inl rfl) (qe_op oq_mul (qe_op oq_mod (qv 4) qe_int) (qe_ix (qe_lst (qa_cons qe_int (qa_cons qe_int (qa_cons (qe_op oq_pow qe_int qe_int) (qa_cons (qe_op oq_pow qe_int qe_int) qa_nil))))) (qe_call c_law_draw hr (by omega) rfl (qa_cons (qv 0) (qa_cons (qv 1) qa_nil))) (fun _ _=>rfl))))
  qss_nil) (qss_cons (qs_cut (qs_if (qt_cmpR oq_eq (qv 3) qe_int (nomark _)) (qss_cons (qs_set (i:=4) sc_law_number.nd rfl (Or.inl rfl) (qe_op oq_mod (qv 4) qe_int))
  qss_nil) qss_nil))
  qss_nil)))
  qss_nil)))
  (qss_cons (qs_cut (qs_if (qt_cmpR oq_ge (qv 4) (qe_op oq_fdiv (qv 2) qe_int) (nomark _)) (qss_cons (qs_set (i:=4) sc_law_number.nd rfl (Or.inl rfl) (qe_op oq_sub (qv 4) (qv 2)))
  qss_nil) qss_nil))
  (qss_cons (qs_ret (qv 4))
  qss_nil)))))),?_⟩
 simp only [start3]
 obtain ⟨m,hm,m1⟩:=pow_mul k1
 have hp:=pow_lt k4
 and_intros
 intro p hp0
 have hspan:atI [T.int 1,T.int 65536,T.int (65536 ^ (2:Int).toNat),T.int (65536 ^ (3:Int).toNat),T.int (65536 ^ (4:Int).toNat)] (k:Int)=some (.int (65536 ^ k)):=by
  have c:k=1∨k=2∨k=3∨k=4:=by omega
  rcases c with rfl | rfl | rfl | rfl <;> exact atI_nat rfl
 and_intros
 refine t_ixR up_same hspan ?_
 have fl0:=fl.new (o:=.lst [T.int 1,T.int 65536,T.int (65536 ^ (2:Int).toNat),T.int (65536 ^ (3:Int).toNat),T.int (65536 ^ (4:Int).toNat)]) hp0
 have q0:Kq [a] Γ (up Γ p (.lst [T.int 1,T.int 65536,T.int (65536 ^ (2:Int).toNat),T.int (65536 ^ (3:Int).toNat),T.int (65536 ^ (4:Int).toNat)])):=.new hp0 _
 and_intros
 refine ⟨a,6,rfl,fl0,by decide,by decide,fun way Γ1 w0 w6 fl1 q1=>?_⟩
 and_intros
 refine ⟨a,_,rfl,fl1,by omega,by omega,fun fo Γ2 f0 f1 fl2 q2=>?_⟩
 have kq2:Kq [a] Γ Γ2:=(q0.trans q1.kq).trans q2.kq
 and_intros
 refine ⟨fun τ Γ'=>∃ fo:Int,τ=[some (.ref a),some (.int k),some (.int (65536 ^ k)),some (.int way),some (.int fo)]∧0≤fo∧fo < 65536 ^ k∧FlowAt Γ' a∧Kq [a] Γ Γ',?_,?_⟩
 ·and_intros
  refine c_if (fun c=>?_) (fun c=>?_)
  ·and_intros
   intro p2 hp2
   and_intros
   refine ⟨a,6,rfl,fl2.new hp2,by decide,by decide,fun r Γ3 r0 r6 fl3 q3=>?_⟩
   obtain ⟨n,hn,he⟩:=menu (ns:=[0,1,65536 ^ k / 2-1,65536 ^ k / 2,65536 ^ k-1,65535]) r0 r6
   refine t_ixR (by rw [q3 p2 (by simpa using fl2.nn hp2)]; exact up_same) he ?_
   refine ⟨n,rfl,?_,?_,fl3,(kq2.trans (.new hp2 _)).trans q3.kq⟩
   ·simp only [List.mem_cons,List.not_mem_nil,or_false] at hn; omega
   ·simp only [List.mem_cons,List.not_mem_nil,or_false] at hn; omega
  ·and_intros
   refine nocut ?_
   and_intros
   refine c_if (fun c=>?_) (fun c=>?_)
   ·and_intros
    intro p2 hp2
    and_intros
    refine ⟨a,_,rfl,fl2.new hp2,by omega,by omega,fun r Γ3 r0 r6 fl3 q3=>?_⟩
    obtain ⟨j,rfl⟩:∃ j:Nat,r=j:=⟨r.toNat,by omega⟩
    have hj:atI [T.int 1,T.int 65536,T.int (65536 ^ (2:Int).toNat),T.int (65536 ^ (3:Int).toNat)] (j:Int)=some (.int (65536 ^ j)):=by
     have c:j=0∨j=1∨j=2∨j=3:=by omega
     rcases c with rfl | rfl | rfl | rfl <;> exact atI_nat rfl
    refine t_ixR (by rw [q3 p2 (by simpa using fl2.nn hp2)]; exact up_same) hj ?_
    have e1:0≤fo % 65536:=Int.emod_nonneg _ (by decide)
    have e2:fo % 65536 < 65536:=Int.emod_lt_of_pos _ (by decide)
    have pj:=pow_pos' j
    have up:fo % 65536 * 65536 ^ j < 65536 ^ k:=by
     have h1:(65536:Int) ^ (j+1)≤65536 ^ k:=by
      obtain ⟨t,rfl⟩:∃ t,k=j+1+t:=⟨k-(j+1),by omega⟩
      rw [Int.pow_add 65536 (j+1) t]
      have:=pow_pos' t
      have h2:=pow_pos' (j+1)
      have h3:=Int.mul_le_mul_of_nonneg_left (show (1:Int)≤65536 ^ t by omega) (Int.le_of_lt h2)
      rw [Int.mul_one] at h3
      exact h3
     have h2:fo % 65536 * 65536 ^ j≤65535 * 65536 ^ j:=Int.mul_le_mul_of_nonneg_right (by omega) (by omega)
     rw [Int.pow_succ] at h1
     omega
    refine t_I (.inl ⟨by omega,by omega⟩) ?_
    exact ⟨_,rfl,Int.mul_nonneg e1 (Int.le_of_lt pj),up,fl3,(kq2.trans (.new hp2 _)).trans q3.kq⟩
   ·and_intros
    refine nocut ?_
    and_intros
    refine c_if (fun c=>?_) (fun c=>?_)
    ·and_intros
     exact ⟨_,rfl,Int.emod_nonneg _ (by decide),by have:=Int.emod_lt_of_pos fo (show (0:Int) < 256 by decide); omega,fl2,kq2⟩
    ·and_intros
     exact ⟨_,rfl,f0,f1,fl2,kq2⟩
 rintro τ Γ3 ⟨fo,rfl,f0,f1,fl3,q3⟩
 and_intros
 refine ⟨fun τ Γ'=>∃ fo:Int,τ=[some (.ref a),some (.int k),some (.int (65536 ^ k)),some (.int way),some (.int fo)]∧-(65536 ^ k)≤2 * fo∧2 * fo < 65536 ^ k∧FlowAt Γ' a∧Kq [a] Γ Γ',?_,?_⟩
 ·and_intros
  refine c_if (fun c=>?_) (fun c=>?_)
  ·have c':65536 ^ k / 2≤fo:=of_decide_eq_true c
   and_intros
   exact ⟨_,rfl,by omega,by omega,fl3,q3⟩
  ·have c':¬ 65536 ^ k / 2≤fo:=of_decide_eq_false c
   and_intros
   exact ⟨_,rfl,by omega,by omega,fl3,q3⟩
 rintro τ Γ4 ⟨fo,rfl,f0,f1,fl4,q4⟩
 and_intros
 exact ret1 fl4 q4 fun Γ5 fl5 k5=>q fo Γ5 f0 f1 fl5 k5
abbrev s_law_many:Stmt:=top 22
theorem sc_law_many:FnScope ["flow","way"] ["flow"] (defScope s_law_many):=⟨rfl,rfl,rfl,by decide +kernel,rfl,by decide +kernel,by decide +kernel⟩
def spMn:Sp3:=fun ts Γ Z _=>∃ a:Addr,ts=[.ref a]∧FlowAt Γ a∧∀ (m:Int) (Γ':Gp),0≤m→m≤60→FlowAt Γ' a→Fr [a] Γ Γ'→Z (.int m) Γ'
theorem ok_many (F:Fun K "_law_many" "_law_many" s_law_many f fd) (c_law_draw:Cl3 P w K mg base "_law_draw" 1 ["flow","many"] spDr):FnOk P w K mg base CX0 2 f fd ["flow"] (liSp spMn):=by
 refine okd F sc_law_many (fun ts Γ Z Y h=>?_) (fun cdv A outer s H E ts Γ Z Y hr h=>?_)
 ·obtain ⟨a,rfl,_⟩:=h
  rfl
 obtain ⟨a,rfl,fl,q⟩:=h
 refine ⟨_,(qss_cons (qs_set (i:=1) sc_law_many.nd rfl (Or.inl rfl) (qe_call c_law_draw hr (by omega) rfl (qa_cons (qv 0) (qa_cons qe_int qa_nil))))
  (qss_cons (qs_if (qt_cmpR oq_eq (qv 1) qe_int (nomark _)) (qss_cons (qs_ret qe_int)
  qss_nil) qss_nil)
  (qss_cons (qs_ret (qe_call c_law_draw hr (by omega) rfl (qa_cons (qv 0) (qa_cons (qe_ix (qe_lst (qa_cons qe_int (qa_cons qe_int (qa_cons qe_int (qa_cons qe_int (qa_cons qe_int (qa_cons qe_int (qa_cons qe_int (qa_cons qe_int qa_nil))))))))) (qe_op oq_sub (qv 1) qe_int) (fun _ _=>rfl)) qa_nil))))
  qss_nil))),?_⟩
 simp only [start3]
 and_intros
 refine ⟨a,9,rfl,fl,by decide,by decide,fun way Γ1 w0 w9 fl1 k1=>?_⟩
 and_intros
 refine c_if (fun c=>?_) (fun c=>?_)
 ·and_intros
  exact drop0 .refl (q 60 Γ1 (by decide) (by decide) fl1 k1)
 ·have c':=d_intN c
  and_intros
  intro p hp
  obtain ⟨m,hm,he⟩:=menu (ns:=[61,4,4,2,3,3,4,5]) (r:=way-1) (by omega) (by show way-1 < 8; omega)
  and_intros
  refine t_ixR up_same he ?_
  have hm6:0 < m∧m≤61:=by
   simp only [List.mem_cons,List.not_mem_nil,or_false] at hm
   omega
  and_intros
  refine ⟨a,m,rfl,fl1.new hp,hm6.1,by omega,fun r Γ2 r0 r1 fl2 k2=>?_⟩
  exact ret1 fl2 ((k1.kq.trans (.new hp _)).trans k2.kq) fun Γ3 fl3 k3=>q r Γ3 r0 (by omega) fl3 k3
abbrev s_law_leaves:Stmt:=top 23
theorem sc_law_leaves:FnScope ["kind"] ["kind"] (defScope s_law_leaves):=⟨rfl,rfl,rfl,by decide +kernel,rfl,by decide +kernel,by decide +kernel⟩
mutual
def leavesK:Kd→Int
 | .num _=>1
 | .text=>1
 | .row k=>1+leavesK k
 | .rec_ fs=>(leavesF fs).sum
 | .pick fs=>(leavesF fs).sum
def leavesF:List (Str×Kd)→List Int
 | []=>[]
 | (_,k)::r=>leavesK k::leavesF r
end
theorem leavesF_map:∀ fs:List (Str×Kd),leavesF fs=fs.map fun p=>leavesK p.2
 | []=>rfl
 | (_,k)::r=>by rw [leavesF,leavesF_map r]; rfl
mutual
theorem leaves_in:∀ k:Kd,k.good→1≤leavesK k∧leavesK k≤7 ^ k.depth
 | .num w,_=>by rw [leavesK,Kd.depth]; exact ⟨by decide,by decide⟩
 | .text,_=>by rw [leavesK,Kd.depth]; exact ⟨by decide,by decide⟩
 | .row k,g=>by
  unfold Kd.good at g
  have h:=leaves_in k g
  rw [leavesK,Kd.depth,Int.pow_succ]
  have:=pow7_pos k.depth
  omega
 | .rec_ fs,g=>by
  unfold Kd.good at g
  rw [leavesK,Kd.depth,Int.pow_succ]
  have h:=sum_in (leavesF_in fs g.1)
  have hl:(leavesF fs).length=fs.length:=by rw [leavesF_map,List.length_map]
  rw [hl] at h
  have h6:(fs.length:Int) * 7 ^ depthF fs≤6 * 7 ^ depthF fs:=Int.mul_le_mul_of_nonneg_right (by omega) (by have:=pow7_pos (depthF fs); omega)
  have:=pow7_pos (depthF fs)
  omega
 | .pick fs,g=>by
  unfold Kd.good at g
  rw [leavesK,Kd.depth,Int.pow_succ]
  have h:=sum_in (leavesF_in fs g.1)
  have hl:(leavesF fs).length=fs.length:=by rw [leavesF_map,List.length_map]
  rw [hl] at h
  have h6:(fs.length:Int) * 7 ^ depthF fs≤6 * 7 ^ depthF fs:=Int.mul_le_mul_of_nonneg_right (by omega) (by have:=pow7_pos (depthF fs); omega)
  have:=pow7_pos (depthF fs)
  omega
theorem leavesF_in:∀ fs:List (Str×Kd),goodF fs→∀ x∈leavesF fs,1≤x∧x≤7 ^ depthF fs
 | [],_,x,h=>by rw [leavesF] at h; cases h
 | (n,k)::r,g,x,h=>by
  unfold goodF at g
  rw [leavesF] at h
  rw [depthF]
  rcases List.mem_cons.mp h with rfl | h
  ·have:=leaves_in k g.2.1
   exact ⟨this.1,Int.le_trans this.2 (pow7_mono (Nat.le_max_left _ _))⟩
  ·have:=leavesF_in r g.2.2 x h
   exact ⟨this.1,Int.le_trans this.2 (pow7_mono (Nat.le_max_right _ _))⟩
end
def spLv (n:Nat):Sp3:=fun ts Γ Z _=>∃ k:Kd,ts=[k.tr]∧k.good∧k.depth < n∧Z (.int (leavesK k)) Γ
theorem ok_leaves {n m:Nat} (F:Fun K "_law_leaves" "_law_leaves" s_law_leaves f fd) (c_law_leaves:Cl3 P w K mg base "_law_leaves" m ["kind"] (spLv n)) (z_sum:mg "sum" = none):FnOk P w K mg base CX0 (m+1) f fd ["kind"] (liSp (spLv (n+1))):=by
 refine okd F sc_law_leaves (fun ts Γ Z Y h=>?_) (fun cdv A outer s H E ts Γ Z Y hr h=>?_)
 ·obtain ⟨k,rfl,_⟩:=h
  rfl
 obtain ⟨k,rfl,kg,kd,q⟩:=h
 refine ⟨_,(qss_cons (qs_if (PW.pt (qw_or (qt_cmpR oq_eq (qe_ix (qv 0) qe_int (fun _ _=>rfl)) qe_str (nomark _)) (qw_or1 (qt_cmpR oq_eq (qe_ix (qv 0) qe_int (fun _ _=>rfl)) qe_str (nomark _))))) (qss_cons (qs_ret qe_int)
  qss_nil) qss_nil)
  (qss_cons (qs_if (qt_cmpR oq_eq (qe_ix (qv 0) qe_int (fun _ _=>rfl)) qe_str (nomark _)) (qss_cons (qs_ret (qe_op oq_add qe_int (qe_call c_law_leaves hr (by omega) rfl (qa_cons (qe_ix (qv 0) qe_int (fun _ _=>rfl)) qa_nil))))
  qss_nil) qss_nil)
  (qss_cons (qs_ret (qe_callB (cq_sum rfl) rfl z_sum PyProof.Rows.boot_sum (qa_cons (qe_comp (own:=["field"]) (cap:=[]) (compOk0 rfl (by decide +kernel) (by decide +kernel)) rfl (qi_tup (qe_ix (qv 0) qe_int (fun _ _=>rfl))) (fun _ _ _ _=>(qg_name (i:=0) (show List.Nodup (["field"]:List Str) from by decide +kernel) rfl (Or.inl rfl) (Or.inr rfl))) (fun _ _ _ _=>qts_nil) (fun _ _ _ _=>(qe_call c_law_leaves hr (by omega) rfl (qa_cons (qe_ix (qv 0) qe_int (fun _ _=>rfl)) qa_nil)))) qa_nil)))
  qss_nil))),?_⟩
 simp only [start3]
 have fld:∀ fs:List (Str×Kd),goodF fs→depthF fs < n→fs.length≤6→Z (.int (leavesF fs).sum) Γ→∀ (C:List T→Gp→Prop),(∀ Γ',C ((leavesF fs).map T.int) Γ')→True:=fun _ _ _ _ _ _ _=>trivial
 cases k with
 | num wd=>rw [Kd.tr]; and_intros; exact drop0 .refl q
 | text=>rw [Kd.tr]; and_intros; exact drop0 .refl q
 | row k=>
  unfold Kd.good at kg
  rw [Kd.depth] at kd
  rw [Kd.tr]
  and_intros
  refine ⟨k,rfl,kg,by omega,?_⟩
  and_intros
  exact drop0 .refl q
 | rec_ fs=>
  unfold Kd.good at kg
  rw [Kd.depth] at kd
  rw [Kd.tr]
  and_intros
  refine ⟨by rw [trF_len]; exact Nat.le_of_lt (small1000 (by omega)),fun rest τ ys Γ'=>∃ (gs hs:List (Str×Kd)) (o:Option T),τ=[o]∧rest=trF gs∧fs=hs++gs∧ys=(leavesF hs).map T.int∧Γ'=Γ,?_,?_,?_⟩
  ·exact ⟨fs,[],none,rfl,rfl,rfl,rfl,rfl⟩
  ·rintro τ ys Γ' ⟨gs,hs,o,rfl,e,e2,rfl,rfl⟩
   cases gs with
   | cons p r=>cases e
   | nil=>
    rw [List.append_nil] at e2
    subst e2
    refine ⟨trivial,fun D hD=>?_⟩
    refine ⟨D,leavesF fs,rfl,it3_l up_same,?_⟩
    and_intros
    exact drop0 (Le.new hD) q
  ·rintro x r τ ys Γ' ⟨gs,hs,o,rfl,e,e2,rfl,rfl⟩
   cases gs with
   | nil=>cases e
   | cons p gs=>
    obtain ⟨nm,k⟩:=p
    cases e
    have km:(nm,k)∈fs:=by rw [e2]; simp
    have dk:k.depth≤depthF fs:=depthF_le km
    and_intros
    refine ⟨k,rfl,goodF_mem kg.1 km,by omega,?_⟩
    refine ⟨gs,hs++[(nm,k)],_,rfl,rfl,by rw [e2]; simp,?_,rfl⟩
    rw [leavesF_map,leavesF_map,List.map_append,List.map_append]; rfl
 | pick fs=>
  unfold Kd.good at kg
  rw [Kd.depth] at kd
  rw [Kd.tr]
  and_intros
  refine ⟨by rw [trF_len]; exact Nat.le_of_lt (small1000 (by omega)),fun rest τ ys Γ'=>∃ (gs hs:List (Str×Kd)) (o:Option T),τ=[o]∧rest=trF gs∧fs=hs++gs∧ys=(leavesF hs).map T.int∧Γ'=Γ,?_,?_,?_⟩
  ·exact ⟨fs,[],none,rfl,rfl,rfl,rfl,rfl⟩
  ·rintro τ ys Γ' ⟨gs,hs,o,rfl,e,e2,rfl,rfl⟩
   cases gs with
   | cons p r=>cases e
   | nil=>
    rw [List.append_nil] at e2
    subst e2
    refine ⟨trivial,fun D hD=>?_⟩
    refine ⟨D,leavesF fs,rfl,it3_l up_same,?_⟩
    and_intros
    exact drop0 (Le.new hD) q
  ·rintro x r τ ys Γ' ⟨gs,hs,o,rfl,e,e2,rfl,rfl⟩
   cases gs with
   | nil=>cases e
   | cons p gs=>
    obtain ⟨nm,k⟩:=p
    cases e
    have km:(nm,k)∈fs:=by rw [e2]; simp
    have dk:k.depth≤depthF fs:=depthF_le km
    and_intros
    refine ⟨k,rfl,goodF_mem kg.1 km,by omega,?_⟩
    refine ⟨gs,hs++[(nm,k)],_,rfl,rfl,by rw [e2]; simp,?_,rfl⟩
    rw [leavesF_map,leavesF_map,List.map_append,List.map_append]; rfl
end
theorem rngT_cons {lo:Int} {n:Nat} {x:T} {r:List T} (h:x::r=rngT lo n):∃ m,n=m+1∧x=.int lo∧r=rngT (lo+1) m:=by
 cases n with
 | zero=>cases h
 | succ m=>cases h; exact ⟨m,rfl,rfl,rfl⟩
theorem rngT_nil {lo:Int} {n:Nat} (h:[]=rngT lo n):n=0:=by
 cases n with
 | zero=>rfl
 | succ m=>cases h
theorem catS_codes (ss:List Str):(catS ss).cps.toList=(ss.map (·.cps.toList)).flatten:=rfl
theorem catS_ok {ss:List Str} (h:∀ z∈ss,z.cps.toList.all okc=true):(catS ss).cps.toList.all okc=true:=by
 rw [catS_codes,List.all_eq_true]
 intro c hc
 obtain ⟨l,hl,hcl⟩:=List.mem_flatten.mp hc
 obtain ⟨z,hz,rfl⟩:=List.mem_map.mp hl
 exact List.all_eq_true.mp (h z hz) c hcl
theorem catS_one {ss:List Str} (h:∀ z∈ss,z.length=1):(catS ss).length=ss.length:=by
 rw [← len_codes,catS_codes]
 induction ss with
 | nil=>rfl
 | cons x r ih=>
  rw [List.map_cons,List.flatten_cons,List.length_append,ih fun z hz=>h z (List.mem_cons_of_mem _ hz),len_codes,h x List.mem_cons_self,List.length_cons]
  omega
section
variable {P:Program} {w:World} {K:PySem.W.Frag} {mg:Str→Option Value} {base:Heap} {f:Addr} {fd:FuncData}
abbrev s_law_worth:Stmt:=top 24
theorem sc_law_worth:FnScope ["flow","kind","room","many","each","name","below"] ["flow","kind","room"] (defScope s_law_worth):=⟨rfl,rfl,rfl,by decide +kernel,rfl,by decide +kernel,by decide +kernel⟩
def spWo (n:Nat):Sp3:=fun ts Γ Z _=>∃ (a b:Addr) (k:Kd),ts=[.ref a,k.tr,.ref b]∧FlowAt Γ a∧OneAt Γ b∧k.good∧k.depth < n∧k.depth≤12∧∀ (t:T) (Γ':Gp),Has k t→FlowAt Γ' a→OneAt Γ' b→Fr [a,b] Γ Γ'→Z t Γ'
theorem ok_worth {n m:Nat} (F:Fun K "_law_worth" "_law_worth" s_law_worth f fd) (c_law_worth:Cl3 P w K mg base "_law_worth" m ["flow","kind","room"] (spWo n)) (c_law_draw:Cl3 P w K mg base "_law_draw" 1 ["flow","many"] spDr) (c_law_number:Cl3 P w K mg base "_law_number" 2 ["flow","width"] spNm)
  (c_law_many:Cl3 P w K mg base "_law_many" 2 ["flow"] spMn) (c_law_sign:Cl3 P w K mg base "_law_sign" 2 ["flow"] spSg) (c_law_leaves:Cl3 P w K mg base "_law_leaves" m ["kind"] (spLv 13)) (m2:2≤m)
  (z_min:mg "min" = none) (z_max:mg "max" = none) (z_range:mg "range" = none) (z_tuple:mg "tuple" = none) (z_len:mg "len" = none):FnOk P w K mg base CX0 (m+1) f fd ["flow","kind","room"] (liSp (spWo (n+1))):=by
 refine okd F sc_law_worth (fun ts Γ Z Y h=>?_) (fun cdv A outer s H E ts Γ Z Y hr h=>?_)
 ·obtain ⟨a,b,k,rfl,_⟩:=h
  rfl
 obtain ⟨a,b,k,rfl,fl,on,kg,kd,kd12,q⟩:=h
 refine ⟨_,(qss_cons (qs_if (qt_cmpR oq_eq (qe_ix (qv 1) qe_int (fun _ _=>rfl)) qe_str (nomark _)) (qss_cons (qs_ret (qe_call c_law_number hr (by omega) rfl (qa_cons (qv 0) (qa_cons (qe_ix (qv 1) qe_int (fun _ _=>rfl)) qa_nil))))
  qss_nil) qss_nil)
  (qss_cons (qs_if (qt_cmpR oq_eq (qe_ix (qv 1) qe_int (fun _ _=>rfl)) qe_str (nomark _)) (qss_cons (qs_set (i:=3) sc_law_worth.nd rfl (Or.inl rfl) (qe_callB (cq_min2 rfl) rfl z_min PyProof.Rows.boot_min (qa_cons (qe_call c_law_many hr (by omega) rfl (qa_cons (qv 0) qa_nil)) (qa_cons (qe_callB (cq_max2 rfl) rfl z_max PyProof.Rows.boot_max (qa_cons qe_int (qa_cons (qe_ix (qv 2) qe_int (fun _ _=>rfl)) qa_nil))) qa_nil))))
  (qss_cons (qs_asg (qe_op oq_sub (qe_ix (qv 2) qe_int (fun _ _=>rfl)) (qv 3)) (qg_sub (qv 2) qe_int))
  (qss_cons (qs_ret (qe_bm PySem.F.plainAttrs_str PySem.F.slot_str_join PySem.F.type_str_join mq_join qe_str (qa_cons (qe_comp (own:=["k"]) (cap:=[(0,"flow")]) (compOkC rfl (by decide +kernel) (by decide +kernel) rfl (⟨rfl,trivial⟩) rfl (⟨⟨rfl,rfl,rfl⟩,trivial⟩)) rfl (qi_range1 rfl z_range (qa_cons (qv 3) qa_nil)) (fun _ _ _ _=>(qg_name (i:=0) (show List.Nodup (["k","flow"]:List Str) from by decide +kernel) rfl (Or.inl rfl) (Or.inr rfl))) (fun _ _ _ _=>qts_nil) (fun _ _ _ _=>(qe_call c_law_sign hr (by omega) rfl (qa_cons (qv 1) qa_nil)))) qa_nil)))
  qss_nil))) qss_nil)
  (qss_cons (qs_if (qt_cmpR oq_eq (qe_ix (qv 1) qe_int (fun _ _=>rfl)) qe_str (nomark _)) (qss_cons (qs_set (i:=4) sc_law_worth.nd rfl (Or.inl rfl) (qe_call c_law_leaves hr (by omega) rfl (qa_cons (qe_ix (qv 1) qe_int (fun _ _=>rfl)) qa_nil)))
  (qss_cons (qs_set (i:=3) sc_law_worth.nd rfl (Or.inl rfl) (qe_callB (cq_min2 rfl) rfl z_min PyProof.Rows.boot_min (qa_cons (qe_call c_law_many hr (by omega) rfl (qa_cons (qv 0) qa_nil)) (qa_cons (qe_op oq_fdiv (qe_callB (cq_max2 rfl) rfl z_max PyProof.Rows.boot_max (qa_cons qe_int (qa_cons (qe_ix (qv 2) qe_int (fun _ _=>rfl)) qa_nil))) (qv 4)) qa_nil))))
  (qss_cons (qs_asg (qe_op oq_sub (qe_ix (qv 2) qe_int (fun _ _=>rfl)) (qe_op oq_mul (qv 3) (qv 4))) (qg_sub (qv 2) qe_int))
  (qss_cons (qs_ret (qe_callTy cq_tuple rfl z_tuple bt_tuple (qa_cons (qe_comp (own:=["k"]) (cap:=[(0,"flow"),(2,"room"),(1,"kind")]) (compOkC rfl (by decide +kernel) (by decide +kernel) rfl (⟨rfl,⟨rfl,⟨rfl,trivial⟩⟩⟩) rfl (⟨⟨rfl,rfl,rfl⟩,⟨⟨rfl,rfl,rfl⟩,⟨⟨rfl,rfl,rfl⟩,trivial⟩⟩⟩)) rfl (qi_range1 rfl z_range (qa_cons (qv 3) qa_nil)) (fun _ _ _ _=>(qg_name (i:=0) (show List.Nodup (["k","flow","room","kind"]:List Str) from by decide +kernel) rfl (Or.inl rfl) (Or.inr rfl))) (fun _ _ _ _=>qts_nil) (fun _ _ _ _=>(qe_call c_law_worth hr (by omega) rfl (qa_cons (qv 1) (qa_cons (qe_ix (qv 3) qe_int (fun _ _=>rfl)) (qa_cons (qv 2) qa_nil)))))) qa_nil)))
  qss_nil)))) qss_nil)
  (qss_cons (qs_if (qt_cmpR oq_eq (qe_ix (qv 1) qe_int (fun _ _=>rfl)) qe_str (nomark _)) (qss_cons (qs_asg (qe_ix (qe_ix (qv 1) qe_int (fun _ _=>rfl)) (qe_call c_law_draw hr (by omega) rfl (qa_cons (qv 0) (qa_cons (qe_callB cq_len rfl z_len PySem.boot_len (qa_cons (qe_ix (qv 1) qe_int (fun _ _=>rfl)) qa_nil)) qa_nil))) (fun _ _=>rfl)) (qg_tup (n:=2) rfl (qgs_cons (qg_name (i:=5) sc_law_worth.nd rfl (Or.inl rfl)) (qgs_cons (qg_name (i:=6) sc_law_worth.nd rfl (Or.inl rfl)) qgs_nil))))
  (qss_cons (qs_ret (qe_tup (qa_cons (qv 5) (qa_cons (qe_call c_law_worth hr (by omega) rfl (qa_cons (qv 0) (qa_cons (qv 6) (qa_cons (qv 2) qa_nil)))) qa_nil))))
  qss_nil)) qss_nil)
  (qss_cons (qs_ret (qe_callTy cq_tuple rfl z_tuple bt_tuple (qa_cons (qe_comp (own:=["field"]) (cap:=[(0,"flow"),(2,"room")]) (compOkC rfl (by decide +kernel) (by decide +kernel) rfl (⟨rfl,⟨rfl,trivial⟩⟩) rfl (⟨⟨rfl,rfl,rfl⟩,⟨⟨rfl,rfl,rfl⟩,trivial⟩⟩)) rfl (qi_tup (qe_ix (qv 1) qe_int (fun _ _=>rfl))) (fun _ _ _ _=>(qg_name (i:=0) (show List.Nodup (["field","flow","room"]:List Str) from by decide +kernel) rfl (Or.inl rfl) (Or.inr rfl))) (fun _ _ _ _=>qts_nil) (fun _ _ _ _=>(qe_call c_law_worth hr (by omega) rfl (qa_cons (qv 1) (qa_cons (qe_ix (qv 0) qe_int (fun _ _=>rfl)) (qa_cons (qv 2) qa_nil)))))) qa_nil)))
  qss_nil))))),?_⟩
 simp only [start3]
 have hba:b≠a:=OneAt.ne fl on
 have hbn:b∉[a]:=by simpa using hba
 have up1:∀ {Γ1 Γ2:Gp},Kq [a] Γ1 Γ2→Kq [a,b] Γ1 Γ2:=fun k=>k.mono (by simp)
 have fin:∀ {t:T} {Γ':Gp},Has k t→FlowAt Γ' a→OneAt Γ' b→Kq [a,b] Γ Γ'→dropK Z t Γ':=fun h1 h2 h3 h4=>ret2 h2 h3 h4 fun Γ2 a1 a2 a3=>q _ Γ2 h1 a1 a2 a3
 cases k with
 | num wd=>
  unfold Kd.good at kg
  obtain ⟨nn,rfl⟩:∃ nn:Nat,wd=nn:=⟨wd.toNat,by omega⟩
  rw [Kd.tr]
  and_intros
  refine ⟨a,nn,rfl,fl,by omega,by omega,fun i Γ1 i0 i1 fl1 k1=>?_⟩
  exact fin (.num i0 i1) fl1 (on.fr k1 hbn) (up1 k1.kq)
 | text=>
  rw [Kd.tr]
  and_intros
  refine ⟨a,rfl,fl,fun mm Γ1 m0 m60 fl1 k1=>?_⟩
  obtain ⟨r,hr1⟩:=on.fr k1 hbn
  and_intros
  obtain ⟨M,hM,M0,M60⟩:∃ M:Int,(if (if r > 0 then r else 0) < mm then (if r > 0 then r else 0) else mm)=M∧0≤M∧M≤60:=⟨_,rfl,by split <;> split <;> omega,by split <;> omega⟩
  rw [hM]
  refine ⟨M,rfl,by omega,by omega,by rw [rngT_len]; exact Nat.le_of_lt (small1000 (by omega)),fun rest τ ys Γ'=>∃ (lo:Int) (c:Nat) (o:Option T) (ss:List Str),τ=[o,some (.ref a)]∧rest=rngT lo c∧ys=ss.map T.str∧ss.length+c=M.toNat∧(∀ z∈ss,z.length=1∧z.cps.toList.all okc=true)∧FlowAt Γ' a∧OneAt Γ' b∧Kq [a,b] Γ Γ',?_,?_,?_⟩
  ·exact ⟨0,_,none,[],rfl,rfl,rfl,by simp,(fun z hz=>nomatch hz),fl1.up hba.symm,⟨_,up_same⟩,(up1 k1.kq).trans (.set (by simp) _)⟩
  ·rintro τ ys Γ' ⟨lo,c,o,ss,rfl,e,rfl,sl,sb,fl',on',k'⟩
   have hc:=rngT_nil e
   refine ⟨trivial,fun D hD=>?_⟩
   refine ⟨D,ss,rfl,rfl,it3_l up_same,by omega,fun y hy=>by rw [(sb y hy).1]; decide,?_⟩
   refine fin (.text ?_ (catS_ok fun z hz=>(sb z hz).2)) (fl'.new hD) (on'.kq (l:=[]) (.new hD _) (by simp)) (k'.trans (.new hD _))
   rw [catS_one fun z hz=>(sb z hz).1]
   omega
  ·rintro x rr τ ys Γ' ⟨lo,c,o,ss,rfl,e,rfl,sl,sb,fl',on',k'⟩
   obtain ⟨c',rfl,rfl,rfl⟩:=rngT_cons e
   and_intros
   refine ⟨a,rfl,fl',fun z Γ3 zl zc fl3 k3=>?_⟩
   refine ⟨lo+1,c',_,ss++[z],rfl,rfl,by rw [List.map_append]; rfl,by rw [List.length_append]; simp; omega,fun y hy=>?_,fl3,on'.fr k3 hbn,k'.trans (up1 k3.kq)⟩
   rcases List.mem_append.mp hy with h | h
   ·exact sb y h
   ·rw [List.mem_singleton.mp h]; exact ⟨zl,zc⟩
 | row k=>
  unfold Kd.good at kg
  rw [Kd.depth] at kd kd12
  rw [Kd.tr]
  and_intros
  refine ⟨k,rfl,kg,by omega,?_⟩
  have lv:=leaves_in k kg
  have ea3:leavesK k < 2 ^ 200:=by
   have h1:=pow7_mono (show k.depth≤12 by omega)
   have h2:(7:Int) ^ 12 < 2 ^ 200:=by decide
   omega
  generalize leavesK k=ea at lv ea3 ⊢
  and_intros
  refine ⟨a,rfl,fl,fun mm Γ1 m0 m60 fl1 k1=>?_⟩
  obtain ⟨r,hr1⟩:=on.fr k1 hbn
  and_intros
  refine t_I ⟨by omega,ea3⟩ ?_
  and_intros
  obtain ⟨R,hR,R0⟩:∃ R:Int,(if r > 0 then r else 0) / ea=R∧0≤R:=⟨_,rfl,Int.ediv_nonneg (by split <;> omega) (by omega)⟩
  obtain ⟨M,hM,M0,M60⟩:∃ M:Int,(if (if r > 0 then r else 0) / ea < mm then (if r > 0 then r else 0) / ea else mm)=M∧0≤M∧M≤60:=⟨_,rfl,by rw [hR]; split <;> omega,by rw [hR]; split <;> omega⟩
  rw [hM]
  refine t_I (.inl ⟨by omega,by omega⟩) ?_
  and_intros
  refine ⟨M,rfl,by omega,by omega,by rw [rngT_len]; exact Nat.le_of_lt (small1000 (by omega)),fun rest τ ys Γ'=>∃ (lo:Int) (c:Nat) (o:Option T),τ=[o,some (.ref a),some (.ref b),some (.tup [.str "row",k.tr])]∧rest=rngT lo c∧ys.length+c=M.toNat∧(∀ t∈ys,Has k t)∧FlowAt Γ' a∧OneAt Γ' b∧Kq [a,b] Γ Γ',?_,?_,?_⟩
  ·exact ⟨0,_,none,rfl,rfl,by simp,(fun z hz=>nomatch hz),fl1.up hba.symm,⟨_,up_same⟩,(up1 k1.kq).trans (.set (by simp) _)⟩
  ·rintro τ ys Γ' ⟨lo,c,o,rfl,e,sl,sb,fl',on',k'⟩
   have hc:=rngT_nil e
   refine ⟨trivial,fun D hD=>?_⟩
   refine t_lenR up_same ?_
   exact fin (.row (by omega) sb) (fl'.new hD) (on'.kq (l:=[]) (.new hD _) (by simp)) (k'.trans (.new hD _))
  ·rintro x rr τ ys Γ' ⟨lo,c,o,rfl,e,sl,sb,fl',on',k'⟩
   obtain ⟨c',rfl,rfl,rfl⟩:=rngT_cons e
   and_intros
   refine ⟨a,b,k,rfl,fl',on',kg,by omega,by omega,fun t Γ3 ht fl3 on3 k3=>?_⟩
   refine ⟨lo+1,c',_,rfl,rfl,by rw [List.length_append]; simp; omega,fun y hy=>?_,fl3,on3,k'.trans k3.kq⟩
   rcases List.mem_append.mp hy with h | h
   ·exact sb y h
   ·rw [List.mem_singleton.mp h]; exact ht
 | pick fs=>
  unfold Kd.good at kg
  rw [Kd.depth] at kd kd12
  rw [Kd.tr]
  and_intros
  refine ⟨a,_,rfl,fl,by rw [trF_len]; omega,by rw [trF_len]; have:=kg.2.2.1; omega,fun r Γ1 r0 r1 fl1 k1=>?_⟩
  obtain ⟨j,rfl⟩:∃ j:Nat,r=j:=⟨r.toNat,by omega⟩
  have hj:j < fs.length:=by rw [trF_len] at r1; omega
  obtain ⟨⟨nm,k⟩,hp⟩:∃ p,fs[j]? = some p:=⟨fs[j],by simp [hj]⟩
  refine t_ixN (trF_get hp) ?_
  have km:=List.mem_of_getElem? hp
  have dk:k.depth≤depthF fs:=depthF_le km
  and_intros
  refine ⟨a,b,k,rfl,fl1,on.fr k1 hbn,goodF_mem kg.1 km,by omega,by omega,fun t Γ3 ht fl3 on3 k3=>?_⟩
  and_intros
  refine fin (.pick (findF_at kg.2.2.2 hp) ht) fl3 on3 ((up1 k1.kq).trans k3.kq)
 | rec_ fs=>
  unfold Kd.good at kg
  rw [Kd.depth] at kd kd12
  rw [Kd.tr]
  and_intros
  refine ⟨by rw [trF_len]; exact Nat.le_of_lt (small1000 (by omega)),fun rest τ ys Γ'=>∃ (gs hs:List (Str×Kd)) (o:Option T),τ=[o,some (.ref a),some (.ref b)]∧rest=trF gs∧fs=hs++gs∧ys.length=hs.length∧(∀ (j:Nat) (nm:Str) (k:Kd) (t:T),hs[j]? = some (nm,k)→ys[j]? = some t→Has k t)∧FlowAt Γ' a∧OneAt Γ' b∧Kq [a,b] Γ Γ',?_,?_,?_⟩
  ·exact ⟨fs,[],none,rfl,rfl,rfl,rfl,(fun j nm k t h=>by simp at h),fl,on,.refl⟩
  ·rintro τ ys Γ' ⟨gs,hs,o,rfl,e,e2,sl,sb,fl',on',k'⟩
   cases gs with
   | cons p r=>cases e
   | nil=>
    rw [List.append_nil] at e2
    subst e2
    refine ⟨trivial,fun D hD=>?_⟩
    refine t_lenR up_same ?_
    exact fin (.rec_ sl sb) (fl'.new hD) (on'.kq (l:=[]) (.new hD _) (by simp)) (k'.trans (.new hD _))
  ·rintro x rr τ ys Γ' ⟨gs,hs,o,rfl,e,e2,sl,sb,fl',on',k'⟩
   cases gs with
   | nil=>cases e
   | cons p gs=>
    obtain ⟨nm,k⟩:=p
    cases e
    have km:(nm,k)∈fs:=by rw [e2]; simp
    have dk:k.depth≤depthF fs:=depthF_le km
    and_intros
    refine ⟨a,b,k,rfl,fl',on',goodF_mem kg.1 km,by omega,by omega,fun t Γ3 ht fl3 on3 k3=>?_⟩
    refine ⟨gs,hs++[(nm,k)],_,rfl,rfl,by rw [e2]; simp,by rw [List.length_append,List.length_append,sl]; rfl,fun j nm' k' t' h1 h2=>?_,fl3,on3,k'.trans k3.kq⟩
    by_cases hj:j < hs.length
    ·rw [List.getElem?_append_left hj] at h1
     rw [List.getElem?_append_left (by omega)] at h2
     exact sb j nm' k' t' h1 h2
    ·rw [List.getElem?_append_right (by omega)] at h1
     rw [List.getElem?_append_right (by omega),sl] at h2
     cases jj:j-hs.length with
     | zero=>rw [jj] at h1 h2; cases h1; cases h2; exact ht
     | succ i=>rw [jj] at h1; simp at h1
end
theorem rs_strs {H:Hp}:∀ {ns:List Str} {vs:List V},Rs H vs (ns.map T.str)→vs=ns.map V.str
 | [],vs,h=>rs_inv0 h
 | n::r,vs,h=>by
  obtain ⟨v,ws,rfl,a,b⟩:=rs_inv h
  rw [i_str a,rs_strs b]; rfl
theorem goodF_of:∀ {gs:List (Str×Kd)} {D:Nat},(∀ p∈gs,Nm p.1∧p.2.good∧p.2.depth≤D)→goodF gs∧depthF gs≤D
 | [],D,h=>by unfold goodF depthF; exact ⟨trivial,Nat.zero_le _⟩
 | (m,k)::r,D,h=>by
  obtain ⟨a,b⟩:=goodF_of (gs:=r) (D:=D) fun p hp=>h p (by simp [hp])
  obtain ⟨x,y,z⟩:=h (m,k) (by simp)
  unfold goodF depthF
  exact ⟨⟨x,y,a⟩,by have z:k.depth≤D:=z; omega⟩
theorem kq2 {Γ Γ4 Γ5:Gp} {a b:Addr} {o:O} (k:Kq [a] Γ Γ4) (hb:Γ4 b=none) (f:Fr [a,b] (up Γ4 b o) Γ5):Kq [a] Γ Γ5:=fun x u n e=>by
 have e4:=k x u n e
 have nb:=gnn e4 hb
 rw [f x (by simp only [List.mem_cons,List.not_mem_nil,or_false] at n ⊢; exact fun h=>h.elim n nb),up_ne nb]; exact e4
theorem rep1 (t:T) (n:Nat):(List.replicate n [t]).flatten=List.replicate n t:=by
 induction n with
 | zero=>rfl
 | succ n ih=>rw [List.replicate_succ,List.flatten_cons,ih]; rfl
section
variable {P:Program} {w:World} {K:PySem.W.Frag} {mg:Str→Option Value} {base:Heap} {f:Addr} {fd:FuncData} {v1 v2 v3:Value}
def spNa:Sp3:=fun ts Γ Z _=>∃ (a b:Addr) (ss:List Str),ts=[.ref a,.ref b]∧FlowAt Γ a∧Γ b=some (.lst (ss.map T.str))∧ss.length≤6∧(∀ z∈ss,Nm z)∧∀ (z:Str) (Γ':Gp),Nm z→z∉ss→FlowAt Γ' a→Fr [a] Γ Γ'→Z (.str z) Γ'
theorem br_name {k:Nat} (c:Callee P w K mg base "_law_name" k ["flow","taken"] spName):Cl3 P w K mg base "_law_name" k ["flow","taken"] spNa:=
 c.imp fun vs H Q E ⟨ts,Γ,Z,Y,r,hr,⟨a,b,ss,e,fl,gb,s6,nm,q⟩,vr,xr⟩=>by
  subst e
  obtain ⟨v,w,rfl,r1,r2⟩:=rs2 r
  obtain ⟨us,hus,qus⟩:=hr b _ gb
  rw [rs_strs qus] at hus
  refine ⟨a,b,ss,by rw [i_ref r1,i_ref r2],flow_dn hr fl,hus,s6,nm,fun z H' nz ni fl' k=>?_⟩
  obtain ⟨f0,f1,f2,e',b'⟩:=fl'
  obtain ⟨g0,g1,g2,eg,_⟩:=fl
  have fr:Fr [a] Γ (up Γ a (.lst [.int f0,.int f1,.int f2])):=.set (by simp) _
  obtain ⟨s,hr'⟩:=br_step hr k (fun b hb=>by rw [List.mem_singleton.mp hb]; exact ⟨_,_,_,eg,e',rs_of_ints [f0,f1,f2],up_same⟩) fr
  exact vr _ _ H' _ s hr' r_str (q z _ nz ni ⟨f0,f1,f2,up_same,b'⟩ fr)
abbrev s_law_broad:Stmt:=top 25
theorem sc_law_broad:FnScope ["flow","word","within","names","k","kind"] ["flow"] (defScope s_law_broad):=⟨rfl,rfl,rfl,by decide +kernel,rfl,by decide +kernel,by decide +kernel⟩
def spBr:Sp3:=fun ts Γ Z _=>∃ a:Addr,ts=[.ref a]∧FlowAt Γ a∧∀ (k:Kd) (Γ':Gp),k.good→k.depth≤5→FlowAt Γ' a→Fr [a] Γ Γ'→Z k.tr Γ'
theorem ok_broad (F:Fun K "_law_broad" "_law_broad" s_law_broad f fd) (c_law_draw:Cl3 P w K mg base "_law_draw" 1 ["flow","many"] spDr) (c_law_name:Cl3 P w K mg base "_law_name" 2 ["flow","taken"] spNa) (c_law_kind:Cl3 P w K mg base "_law_kind" 12 ["flow","depth","room"] (spKd 10)) (z_range:mg "range" = none) (z_tuple:mg "tuple" = none):FnOk P w K mg base CX0 13 f fd ["flow"] (liSp spBr):=by
 refine okd F sc_law_broad (fun ts Γ Z Y h=>?_) (fun cdv A outer s H E ts Γ Z Y hr h=>?_)
 ·obtain ⟨a,rfl,_⟩:=h
  rfl
 obtain ⟨a,rfl,fl,q⟩:=h
 refine ⟨_,(qss_cons (qs_set (i:=1) sc_law_broad.nd rfl (Or.inl rfl) (qe_ix (qe_lst (qa_cons qe_str (qa_cons qe_str qa_nil))) (qe_call c_law_draw hr (by omega) rfl (qa_cons (qv 0) (qa_cons qe_int qa_nil))) (fun _ _=>rfl)))
  (qss_cons (qs_set (i:=2) sc_law_broad.nd rfl (Or.inl rfl) (qe_cmpR oq_eq (qe_call c_law_draw hr (by omega) rfl (qa_cons (qv 0) (qa_cons qe_int qa_nil))) qe_int (nomark _)))
  (qss_cons (qs_set (i:=3) sc_law_broad.nd rfl (Or.inl rfl) (qe_lst qa_nil))
  (qss_cons (qs_for PassesOwn.never rfl (qi_range1 rfl z_range (qa_cons (qe_op oq_add qe_int (qe_call c_law_draw hr (by omega) rfl (qa_cons (qv 0) (qa_cons qe_int qa_nil)))) qa_nil)) (qg_name (i:=4) sc_law_broad.nd rfl (Or.inl rfl)) (qss_cons (qs_expr (qe_bm PySem.F.plainAttrs_list PySem.F.slot_list_append PySem.F.type_list_append mq_append (qv 3) (qa_cons (qe_call c_law_name hr (by omega) rfl (qa_cons (qv 0) (qa_cons (qv 3) qa_nil))) qa_nil)))
  qss_nil))
  (qss_cons (qs_set (i:=5) sc_law_broad.nd rfl (Or.inl rfl) (qe_tup (qa_cons (qv 1) (qa_cons (qe_callTy cq_tuple rfl z_tuple bt_tuple (qa_cons (qe_comp (own:=["name"]) (cap:=[(0,"flow")]) (compOkC rfl (by decide +kernel) (by decide +kernel) rfl (⟨rfl,trivial⟩) rfl (⟨⟨rfl,rfl,rfl⟩,trivial⟩)) rfl (qi_list (qv 3)) (fun _ _ _ _=>(qg_name (i:=0) (show List.Nodup (["name","flow"]:List Str) from by decide +kernel) rfl (Or.inl rfl) (Or.inr rfl))) (fun _ _ _ _=>qts_nil) (fun _ _ _ _=>(qe_tup (qa_cons (qv 0) (qa_cons (qe_call c_law_kind hr (by omega) rfl (qa_cons (qv 1) (qa_cons qe_int (qa_cons (qe_lst (qa_cons qe_int qa_nil)) qa_nil)))) qa_nil))))) qa_nil)) qa_nil))))
  (qss_cons (qs_if (qt_val (qv 2)) (qss_cons (qs_ret (qe_tup (qa_cons qe_str (qa_cons (qv 5) qa_nil))))
  qss_nil) qss_nil)
  (qss_cons (qs_ret (qv 5))
  qss_nil))))))),?_⟩
 simp only [start3]
 and_intros
 intro L hL
 and_intros
 refine ⟨a,2,rfl,fl.new hL,by decide,by decide,fun r Γ1 r0 r1 fl1 k1=>?_⟩
 obtain ⟨wd,hwd,hx⟩:∃ wd:Str,(wd = "rec" ∨ wd = "pick")∧atI [T.str "rec",T.str "pick"] r=some (.str wd):=by
  have:r=0∨r=1:=by omega
  rcases this with rfl | rfl
  ·exact ⟨_,.inl rfl,rfl⟩
  ·exact ⟨_,.inr rfl,rfl⟩
 have kq1:Kq [a] Γ Γ1:=(Kq.new hL _).trans k1.kq
 refine t_ixR (by rw [k1 L (by simpa using fl.nn hL)]; exact up_same) hx ?_
 and_intros
 refine ⟨a,3,rfl,fl1,by decide,by decide,fun r2 Γ2 r20 r21 fl2 k2=>?_⟩
 and_intros
 intro N hN
 and_intros
 refine ⟨a,4,rfl,fl2.new hN,by decide,by decide,fun r3 Γ3 r30 r31 fl3 k3=>?_⟩
 and_intros
 have nN:=fl2.nn hN
 obtain ⟨n,hn⟩:∃ n:Nat,3+r3=n:=⟨(3+r3).toNat,by omega⟩
 have n6:3≤n∧n≤6:=by omega
 rw [hn]
 have kq3:Kq [a] Γ Γ3:=((kq1.trans k2.kq).trans (.new hN _)).trans k3.kq
 have bN:Γ N=none:=by
  cases e:Γ N with
  | none=>rfl
  | some o=>have:=(kq1.trans k2.kq) N o (by simpa using nN) e; rw [hN] at this; cases this
 have g3:Γ3 N=some (.lst []):=by rw [k3 N (by simpa using nN)]; exact up_same
 refine ⟨n,rfl,by omega,by omega,?_⟩
 refine ⟨fun rest τ Γ'=>∃ (i c:Nat) (ss:List Str) (o4:Option T),rest=rngT i c∧i+c=n∧τ=[some (.ref a),some (.str wd),some (.bl (decide (V.int r2=V.int 0))),some (.ref N),o4,none]∧ss.length=i∧(∀ z∈ss,Nm z)∧ss.Nodup∧Γ' N=some (.lst (ss.map T.str))∧FlowAt Γ' a∧Kq [a] Γ Γ',?_,?_,?_⟩
 ·exact ⟨0,n,[],none,rfl,by omega,rfl,rfl,fun _ h=>(nomatch h),List.nodup_nil,g3,fl3,kq3⟩
 rotate_left
 ·rintro x rr τ Γ' ⟨i,c,ss,o4,er,ic,rfl,sl,snm,snd,gN,fl',kq'⟩
  obtain ⟨c',rfl,rfl,rfl⟩:=rngT_cons er
  and_intros
  refine t_tyL gN ?_
  and_intros
  refine ⟨a,N,ss,rfl,fl',gN,by omega,snm,fun z Γ4 nz ni fl4 k4=>?_⟩
  have gN4:Γ4 N=some (.lst (ss.map T.str)):=by rw [k4 N (by simpa using nN)]; exact gN
  and_intros
  refine ⟨N,_,_,rfl,rfl,gN4,small1000 (by rw [List.length_map]; omega),?_⟩
  and_intros
  refine ⟨ss.length+1,c',ss++[z],_,by rw [sl]; rfl,by omega,rfl,by rw [List.length_append]; rfl,fun z' hz=>?_,?_,by rw [List.map_append]; exact up_same,fl4.up nN.symm,(kq'.trans k4.kq).setNew bN _⟩
  ·rcases List.mem_append.mp hz with hz | hz
   ·exact snm z' hz
   ·rw [List.mem_singleton.mp hz]; exact nz
  ·rw [List.nodup_append]
   refine ⟨snd,by simp,fun x hx y hy e=>ni ?_⟩
   rw [List.mem_singleton] at hy
   rw [← hy,← e]; exact hx
 rintro τ Γ' ⟨i,c,ss,o4,er,ic,rfl,sl,snm,snd,gN,fl',kq'⟩
 refine ⟨trivial,?_⟩
 have hc0:c=0:=by
  cases c with
  | zero=>rfl
  | succ c=>cases er
 subst hc0
 and_intros
 refine ⟨N,_,rfl,it3_l gN,Nat.le_of_lt (small1000 (by rw [List.length_map]; omega)),?_⟩
 refine ⟨fun rest τ ys Γ2=>∃ (gs:List (Str×Kd)) (rs:List Str) (o0:Option T),rest=rs.map T.str∧τ=[o0,some (.ref a)]∧ss=gs.map (·.1)++rs∧ys=trF gs∧(∀ p∈gs,p.2.good∧p.2.depth≤2)∧Γ2 N=some (.lst (ss.map T.str))∧FlowAt Γ2 a∧Kq [a] Γ Γ2,⟨[],ss,none,rfl,rfl,rfl,rfl,fun _ h=>(nomatch h),gN,fl',kq'⟩,?_,?_⟩
 ·rintro τ ys Γ4 ⟨gs,rs,o0,er2,rfl,es,rfl,hg,gN4,fl4,kq4⟩
  have hrs:rs=[]:=by
   cases rs with
   | nil=>rfl
   | cons _ _=>cases er2
  subst hrs
  rw [List.append_nil] at es
  refine ⟨it3_l gN4,fun D hD=>?_⟩
  and_intros
  refine ⟨_,_,rfl,it3_l up_same,?_⟩
  and_intros
  have gl:gs.length=n:=by rw [← sl,es,List.length_map] at ic; omega
  obtain ⟨gF,dF⟩:=goodF_of (gs:=gs) (D:=2) (fun p hp=>⟨snm _ (by rw [es]; exact List.mem_map.mpr ⟨p,hp,rfl⟩),hg p hp⟩)
  have nd:(gs.map (·.1)).Nodup:=by rw [← es]; exact snd
  have fl5:=fl4.new (o:=.lst (trF gs)) hD
  have kq5:Kq [a] Γ (up Γ4 D (.lst (trF gs))):=kq4.trans (.new hD _)
  obtain ⟨kk,ek,kg,kd⟩:∃ kk:Kd,T.tup [.str wd,.tup (trF gs)]=kk.tr∧kk.good∧kk.depth≤3:=by
   rcases hwd with rfl | rfl
   ·exact ⟨.rec_ gs,by rw [Kd.tr],by unfold Kd.good; exact ⟨gF,by omega,by omega,nd⟩,by rw [Kd.depth]; omega⟩
   ·exact ⟨.pick gs,by rw [Kd.tr],by unfold Kd.good; exact ⟨gF,by omega,by omega,nd⟩,by rw [Kd.depth]; omega⟩
  rw [ek]
  refine c_if (fun c=>?_) (fun c=>?_)
  ·and_intros
   refine ret1 fl5 kq5 fun Γ6 fl6 k6=>?_
   have:=q (.row kk) Γ6 (by unfold Kd.good; exact kg) (by rw [Kd.depth]; omega) fl6 k6
   rw [Kd.tr] at this
   exact this
  ·and_intros
   exact ret1 fl5 kq5 fun Γ6 fl6 k6=>q kk Γ6 kg (by omega) fl6 k6
 ·rintro x rr τ ys Γ4 ⟨gs,rs,o0,er2,rfl,es,rfl,hg,gN4,fl4,kq4⟩
  cases rs with
  | nil=>cases er2
  | cons z rs=>
   cases er2
   refine ⟨it3_l gN4,?_⟩
   and_intros
   intro b hb
   and_intros
   refine ⟨a,b,2,rfl,fl4.new hb,⟨0,up_same⟩,by decide,by decide,by decide,fun k3 Γ6 kg3 kd3 fl6 on6 k6=>?_⟩
   have gN6:Γ6 N=some (.lst (ss.map T.str)):=by
    have nb:=gnn gN4 hb
    rw [k6 N (by simp [nN,nb]),up_ne nb]; exact gN4
   and_intros
   refine ⟨gs++[(z,k3)],rs,_,rfl,rfl,by rw [es]; simp,by rw [trF_app]; rfl,fun p hp=>?_,gN6,fl6,kq2 kq4 hb k6⟩
   rcases List.mem_append.mp hp with hp | hp
   ·exact hg p hp
   ·rw [List.mem_singleton.mp hp]; exact ⟨kg3,by have:(k3.depth:Int)≤2:=kd3; show k3.depth≤2; omega⟩
end
section
variable {P:Program} {w:World} {K:PySem.W.Frag} {mg:Str→Option Value} {base:Heap} {f:Addr} {fd:FuncData} {v1 v2 v3:Value}
abbrev s_law_thing:Stmt:=top 26
theorem sc_law_thing:FnScope ["flow","room","way","item","many","at","kind"] ["flow","room"] (defScope s_law_thing):=⟨rfl,rfl,rfl,by decide +kernel,rfl,by decide +kernel,by decide +kernel⟩
def spTh:Sp3:=fun ts Γ Z _=>∃ (a:Addr) (r:Int),ts=[.ref a,.int r]∧FlowAt Γ a∧∀ (k:Kd) (u:T) (Γ':Gp),k.good→k.depth≤5→Has k u→FlowAt Γ' a→Fr [a] Γ Γ'→Z (.tup [k.tr,u]) Γ'
theorem ok_thing (F:Fun K "_law_thing" "_law_thing" s_law_thing f fd) (c_law_draw:Cl3 P w K mg base "_law_draw" 1 ["flow","many"] spDr) (c_law_kind:Cl3 P w K mg base "_law_kind" 12 ["flow","depth","room"] (spKd 10)) (c_law_worth:Cl3 P w K mg base "_law_worth" 30 ["flow","kind","room"] (spWo 13)) (c_law_broad:Cl3 P w K mg base "_law_broad" 13 ["flow"] spBr):FnOk P w K mg base CX0 31 f fd ["flow","room"] (liSp spTh):=by
 refine okd F sc_law_thing (fun ts Γ Z Y h=>?_) (fun cdv A outer s H E ts Γ Z Y hr h=>?_)
 ·obtain ⟨a,r,rfl,_⟩:=h
  rfl
 obtain ⟨a,r,rfl,fl,q⟩:=h
 refine ⟨_,(qss_cons (qs_set (i:=2) sc_law_thing.nd rfl (Or.inl rfl) (qe_call c_law_draw hr (by omega) rfl (qa_cons (qv 0) (qa_cons qe_int qa_nil))))
  (qss_cons (qs_if (qt_cmpR oq_eq (qv 2) qe_int (nomark _)) (qss_cons (qs_set (i:=3) sc_law_thing.nd rfl (Or.inl rfl) (qe_call c_law_kind hr (by omega) rfl (qa_cons (qv 0) (qa_cons qe_int (qa_cons (qe_lst (qa_cons qe_int qa_nil)) qa_nil)))))
  (qss_cons (qs_set (i:=4) sc_law_thing.nd rfl (Or.inl rfl) (qe_op oq_add qe_int (qe_call c_law_draw hr (by omega) rfl (qa_cons (qv 0) (qa_cons qe_int qa_nil)))))
  (qss_cons (qs_set (i:=5) sc_law_thing.nd rfl (Or.inl rfl) (qe_call c_law_draw hr (by omega) rfl (qa_cons (qv 0) (qa_cons (qe_op oq_add (qv 4) qe_int) qa_nil))))
  (qss_cons (qs_ret (qe_tup (qa_cons (qe_tup (qa_cons qe_str (qa_cons (qv 3) qa_nil))) (qa_cons (qe_op oq_cat (qe_op oq_rep (qe_tup (qa_cons (qe_call c_law_worth hr (by omega) rfl (qa_cons (qv 0) (qa_cons (qv 3) (qa_cons (qe_lst (qa_cons qe_int qa_nil)) qa_nil)))) qa_nil)) (qv 5)) (qe_op oq_rep (qe_tup (qa_cons (qe_call c_law_worth hr (by omega) rfl (qa_cons (qv 0) (qa_cons (qv 3) (qa_cons (qe_lst (qa_cons qe_int qa_nil)) qa_nil)))) qa_nil)) (qe_op oq_sub (qv 4) (qv 5)))) qa_nil))))
  qss_nil)))) qss_nil)
  (qss_cons (qs_cut (qs_if (qt_cmpR oq_eq (qv 2) qe_int (nomark _)) (qss_cons (qs_set (i:=6) sc_law_thing.nd rfl (Or.inl rfl) (qe_call c_law_broad hr (by omega) rfl (qa_cons (qv 0) qa_nil)))
  qss_nil) (qss_cons (qs_set (i:=6) sc_law_thing.nd rfl (Or.inl rfl) (qe_call c_law_kind hr (by omega) rfl (qa_cons (qv 0) (qa_cons (qe_ix (qe_lst (qa_cons qe_int (qa_cons qe_int (qa_cons qe_int (qa_cons qe_int (qa_cons qe_int (qa_cons qe_int (qa_cons qe_int (qa_cons qe_int qa_nil))))))))) (qe_call c_law_draw hr (by omega) rfl (qa_cons (qv 0) (qa_cons qe_int qa_nil))) (fun _ _=>rfl)) (qa_cons (qe_lst (qa_cons qe_int qa_nil)) qa_nil)))))
  qss_nil)))
  (qss_cons (qs_ret (qe_tup (qa_cons (qv 6) (qa_cons (qe_call c_law_worth hr (by omega) rfl (qa_cons (qv 0) (qa_cons (qv 6) (qa_cons (qe_lst (qa_cons (qv 1) qa_nil)) qa_nil)))) qa_nil))))
  qss_nil)))),?_⟩
 simp only [start3]
 and_intros
 refine ⟨a,8,rfl,fl,by decide,by decide,fun wy Γ1 w0 w1 fl1 k1=>?_⟩
 and_intros
 refine c_if (fun c=>?_) (fun c=>?_)
 ·and_intros
  intro b hb
  and_intros
  refine ⟨a,b,2,rfl,fl1.new hb,⟨0,up_same⟩,by decide,by decide,by decide,fun ki Γ2 kgi kdi fl2 on2 k2=>?_⟩
  have kdi':(ki.depth:Int)≤2:=kdi
  and_intros
  refine ⟨a,31,rfl,fl2,by decide,by decide,fun m0 Γ3 m00 m01 fl3 k3=>?_⟩
  and_intros
  refine ⟨a,_,rfl,fl3,by omega,by omega,fun at_ Γ4 a0 a1 fl4 k4=>?_⟩
  and_intros
  intro b5 hb5
  and_intros
  refine ⟨a,b5,ki,rfl,fl4.new hb5,⟨3,up_same⟩,kgi,by omega,by omega,fun w1 Γ5 hw1 fl5 on5 k5=>?_⟩
  and_intros
  refine ⟨_,_,rfl,rfl,a0,by omega,by show 1≤1000; decide,?_⟩
  rw [rep1]
  and_intros
  intro b6 hb6
  and_intros
  refine ⟨a,b6,ki,rfl,fl5.new hb6,⟨3,up_same⟩,kgi,by omega,by omega,fun w2 Γ6 hw2 fl6 on6 k6=>?_⟩
  and_intros
  refine ⟨_,_,rfl,rfl,by omega,by omega,by show 1≤1000; decide,?_⟩
  rw [rep1]
  and_intros
  refine t_cat (Nat.le_of_lt (small1000 (by rw [List.length_replicate,List.length_replicate]; omega))) ?_
  and_intros
  have hrow:Has (.row ki) (.tup (List.replicate at_.toNat w1++List.replicate (30+m0-at_).toNat w2)):=Has.row (by rw [List.length_append,List.length_replicate,List.length_replicate]; omega) (fun y hy=>by
   rcases List.mem_append.mp hy with hy | hy
   ·rw [(List.mem_replicate.mp hy).2]; exact hw1
   ·rw [(List.mem_replicate.mp hy).2]; exact hw2)
  have kk:Kq [a] Γ Γ6:=kq2 (kq2 (((kq2 k1.kq hb k2).trans k3.kq).trans k4.kq) hb5 k5) hb6 k6
  refine ret1 fl6 kk fun Γ7 fl7 k7=>?_
  have:=q (.row ki) _ Γ7 (by unfold Kd.good; exact kgi) (by rw [Kd.depth]; omega) hrow fl7 k7
  rw [Kd.tr] at this
  exact this
 ·and_intros
  refine ⟨fun τ Γ'=>∃ k:Kd,τ=[some (.ref a),some (.int r),some (.int wy),none,none,none,some k.tr]∧k.good∧k.depth≤5∧FlowAt Γ' a∧Kq [a] Γ Γ',?_,?_⟩
  ·and_intros
   refine c_if (fun c2=>?_) (fun c2=>?_)
   ·and_intros
    refine ⟨a,rfl,fl1,fun k Γ2 kg kd fl2 k2=>?_⟩
    and_intros
    exact ⟨k,rfl,kg,kd,fl2,k1.kq.trans k2.kq⟩
   ·and_intros
    intro L hL
    and_intros
    refine ⟨a,8,rfl,fl1.new hL,by decide,by decide,fun r2 Γ2 r20 r21 fl2 k2=>?_⟩
    obtain ⟨dd,hdd,hx⟩:=menu (ns:=[5,1,2,3,4,5,3,2]) r20 (by simpa using r21)
    refine t_ixR (by rw [k2 L (by simpa using fl1.nn hL)]; exact up_same) hx ?_
    have hd5:1≤dd∧dd≤5:=by
     simp only [List.mem_cons,List.not_mem_nil,or_false] at hdd
     omega
    and_intros
    intro b hb
    and_intros
    refine ⟨a,b,dd,rfl,fl2.new hb,⟨1,up_same⟩,by omega,by omega,by omega,fun k Γ4 kg kd fl4 on4 k4=>?_⟩
    and_intros
    exact ⟨k,rfl,kg,by omega,fl4,kq2 ((k1.kq.trans (Kq.new hL _)).trans k2.kq) hb k4⟩
  rintro τ Γ2 ⟨k,rfl,kg,kd,fl2,kk⟩
  and_intros
  intro b hb
  and_intros
  refine ⟨a,b,k,rfl,fl2.new hb,⟨r,up_same⟩,kg,by omega,by omega,fun u Γ5 hu fl5 on5 k5=>?_⟩
  and_intros
  exact ret1 fl5 (kq2 kk hb k5) fun Γ6 fl6 k6=>q k u Γ6 kg kd hu fl6 k6
abbrev s_law_laying:Stmt:=top 27
theorem sc_law_laying:FnScope ["flow","words"] ["flow"] (defScope s_law_laying):=⟨rfl,rfl,rfl,by decide +kernel,rfl,by decide +kernel,by decide +kernel⟩
def spLay:Sp3:=fun ts Γ Z _=>∃ a:Addr,ts=[.ref a]∧FlowAt Γ a∧∀ (L:Ly) (Γ':Gp),FlowAt Γ' a→Fr [a] Γ Γ'→Z L.tr Γ'
theorem lay_step {i:Nat} {ss:List Str} {L:Ly} (hi:i < 4) (hL:ss=([L.s1,L.s2,L.s3,L.s4]:List Str).take i) (b:Bool) :
  ∃ (z:Str) (L':Ly),([T.str "low",T.str "high",T.str "count",T.str "end",T.str "array",T.str "chain",T.str "told",T.str "names"]:List T)[2 * i+b.toNat]? = some (.str z)∧ss++[z]=([L'.s1,L'.s2,L'.s3,L'.s4]:List Str).take (i+1):=by
 subst hL
 match i,hi,b with
 | 0,_,false=>exact ⟨"low",{ L with hi:=false },rfl,rfl⟩
 | 0,_,true=>exact ⟨"high",{ L with hi:=true },rfl,rfl⟩
 | 1,_,false=>exact ⟨"count",{ L with en:=false },rfl,rfl⟩
 | 1,_,true=>exact ⟨"end",{ L with en:=true },rfl,rfl⟩
 | 2,_,false=>exact ⟨"array",{ L with ch:=false },rfl,rfl⟩
 | 2,_,true=>exact ⟨"chain",{ L with ch:=true },rfl,rfl⟩
 | 3,_,false=>exact ⟨"told",{ L with na:=false },rfl,rfl⟩
 | 3,_,true=>exact ⟨"names",{ L with na:=true },rfl,rfl⟩
theorem ok_laying (F:Fun K "_law_laying" "_law_laying" s_law_laying f fd) (c_law_draw:Cl3 P w K mg base "_law_draw" 1 ["flow","many"] spDr) (z_range:mg "range" = none) (z_tuple:mg "tuple" = none):FnOk P w K mg base CX0 2 f fd ["flow"] (liSp spLay):=by
 refine okd F sc_law_laying (fun ts Γ Z Y h=>?_) (fun cdv A outer s H E ts Γ Z Y hr h=>?_)
 ·obtain ⟨a,rfl,_⟩:=h
  rfl
 obtain ⟨a,rfl,fl,q⟩:=h
 refine ⟨_,(qss_cons (qs_set (i:=1) sc_law_laying.nd rfl (Or.inr rfl) (qe_lst (qa_cons qe_str (qa_cons qe_str (qa_cons qe_str (qa_cons qe_str (qa_cons qe_str (qa_cons qe_str (qa_cons qe_str (qa_cons qe_str qa_nil))))))))))
  (qss_cons (qs_ret (qe_callTy cq_tuple rfl z_tuple bt_tuple (qa_cons (qe_comp (own:=["k"]) (cap:=[(1,"words"),(0,"flow")]) (compOkC rfl (by decide +kernel) (by decide +kernel) rfl (⟨rfl,⟨rfl,trivial⟩⟩) rfl (⟨⟨rfl,rfl,rfl⟩,⟨⟨rfl,rfl,rfl⟩,trivial⟩⟩)) rfl (qi_range1 rfl z_range (qa_cons qe_int qa_nil)) (fun _ _ _ _=>(qg_name (i:=0) (show List.Nodup (["k","words","flow"]:List Str) from by decide +kernel) rfl (Or.inl rfl) (Or.inr rfl))) (fun _ _ _ _=>qts_nil) (fun _ _ _ _=>(qe_ix (qv 1) (qe_op oq_add (qe_op oq_mul qe_int (qv 0)) (qe_call c_law_draw hr (by omega) rfl (qa_cons (qv 2) (qa_cons qe_int qa_nil)))) (fun _ _=>rfl)))) qa_nil)))
  qss_nil)),?_⟩
 simp only [start3]
 and_intros
 intro W hW
 and_intros
 have nW:=fl.nn hW
 refine ⟨4,rfl,by decide,by decide,?_⟩
 refine ⟨Nat.le_of_lt (small1000 (by decide)),fun rest τ ys Γ2=>∃ (i c:Nat) (ss:List Str) (L:Ly) (o0:Option T),rest=rngT i c∧i+c=4∧ss=([L.s1,L.s2,L.s3,L.s4]:List Str).take i∧τ=[o0,some (.ref W),some (.ref a)]∧ys=ss.map T.str∧Γ2 W=some (.lst [.str "low",.str "high",.str "count",.str "end",.str "array",.str "chain",.str "told",.str "names"])∧FlowAt Γ2 a∧Kq [a] Γ Γ2,⟨0,4,[],⟨true,true,true,true⟩,none,rfl,rfl,rfl,rfl,rfl,up_same,fl.new hW,.new hW _⟩,?_,?_⟩
 ·rintro τ ys Γ2 ⟨i,c,ss,L,o0,er,ic,sl,rfl,rfl,gW,fl2,kk⟩
  have hc0:c=0:=by
   cases c with
   | zero=>rfl
   | succ c=>cases er
  subst hc0
  refine ⟨trivial,fun D hD=>?_⟩
  and_intros
  refine ⟨_,_,rfl,it3_l up_same,?_⟩
  have hi:i=4:=ic
  subst hi
  have e:ss=[L.s1,L.s2,L.s3,L.s4]:=sl
  rw [e]
  exact ret1 (fl2.new hD) (kk.trans (.new hD _)) fun Γ3 fl3 k3=>q L Γ3 fl3 k3
 ·rintro x rr τ ys Γ2 ⟨i,c,ss,L,o0,er,ic,sl,rfl,rfl,gW,fl2,kk⟩
  obtain ⟨c',rfl,rfl,rfl⟩:=rngT_cons er
  and_intros
  refine ⟨a,2,rfl,fl2,by decide,by decide,fun r Γ3 r0 r1 fl3 k3=>?_⟩
  have gW3:Γ3 W=some (.lst [.str "low",.str "high",.str "count",.str "end",.str "array",.str "chain",.str "told",.str "names"]):=by rw [k3 W (by simpa using nW)]; exact gW
  and_intros
  obtain ⟨b,hb⟩:∃ b:Bool,r=(b.toNat:Int):=by
   rcases (show r=0∨r=1 by omega) with h | h
   ·exact ⟨false,h⟩
   ·exact ⟨true,h⟩
  obtain ⟨z,L',hz,hs⟩:=lay_step (by omega) sl b
  have e:2 * (i:Int)+r=((2 * i+b.toNat:Nat):Int):=by rw [hb]; omega
  rw [e]
  refine t_ixR gW3 (atI_nat hz) ?_
  exact ⟨i+1,c',ss++[z],L',_,rfl,by omega,hs,rfl,by rw [List.map_append]; rfl,gW3,fl3,kk.trans k3.kq⟩
end
theorem s1_lo {L:Ly} (h:L.s1 = "low"):L.hi=false:=by
 cases e:L.hi with
 | false=>rfl
 | true=>unfold Ly.s1 at h; rw [e] at h; exact absurd h (by decide)
theorem s1_hi {L:Ly} (h:L.s1 ≠ "low"):L.hi=true:=by
 cases e:L.hi with
 | true=>rfl
 | false=>unfold Ly.s1 at h; rw [e] at h; exact absurd rfl h
theorem s2_co {L:Ly} (h:L.s2 = "count"):L.en=false:=by
 cases e:L.en with
 | false=>rfl
 | true=>unfold Ly.s2 at h; rw [e] at h; exact absurd h (by decide)
theorem s2_en {L:Ly} (h:L.s2 ≠ "count"):L.en=true:=by
 cases e:L.en with
 | true=>rfl
 | false=>unfold Ly.s2 at h; rw [e] at h; exact absurd rfl h
theorem s3_ar {L:Ly} (h:L.s3 = "array"):L.ch=false:=by
 cases e:L.ch with
 | false=>rfl
 | true=>unfold Ly.s3 at h; rw [e] at h; exact absurd h (by decide)
theorem s3_ch {L:Ly} (h:L.s3 ≠ "array"):L.ch=true:=by
 cases e:L.ch with
 | true=>rfl
 | false=>unfold Ly.s3 at h; rw [e] at h; exact absurd rfl h
theorem s4_to {L:Ly} (h:L.s4 = "told"):L.na=false:=by
 cases e:L.na with
 | false=>rfl
 | true=>unfold Ly.s4 at h; rw [e] at h; exact absurd h (by decide)
theorem s4_na {L:Ly} (h:L.s4 ≠ "told"):L.na=true:=by
 cases e:L.na with
 | true=>rfl
 | false=>unfold Ly.s4 at h; rw [e] at h; exact absurd rfl h
section
variable {P:Program} {w:World} {K:PySem.W.Frag} {mg:Str→Option Value} {base:Heap} {f:Addr} {fd:FuncData} {vW:Value} {cT pT:Addr}
abbrev s_size_of:Stmt:=top 1
theorem sc_size_of:FnScope ["kind","head","sizes"] ["kind"] (defScope s_size_of):=⟨rfl,rfl,rfl,by decide +kernel,rfl,by decide +kernel,by decide +kernel⟩
def spSo (n:Nat):Sp3:=fun ts Γ Z _=>∃ k:Kd,ts=[k.tr]∧k.good∧k.depth < n∧Z (.int (sK k:Nat)) Γ
theorem ok_size_of {n lv:Nat} (F:Fun K "size_of" "size_of" s_size_of f fd) (c_size_of:Cl3 P w K mg base "size_of" lv ["kind"] (spSo n)) (z_sum:mg "sum" = none) (z_max:mg "max" = none):FnOk P w K mg base CX0 (lv+1) f fd ["kind"] (liSp (spSo (n+1))):=by
 refine okd F sc_size_of (fun ts Γ Z Y h=>?_) (fun cdv A outer s H E ts Γ Z Y hr h=>?_)
 ·obtain ⟨k,rfl,_⟩:=h
  rfl
 obtain ⟨k,rfl,kg,kd,q⟩:=h
 refine ⟨_,(qss_cons (qs_set (i:=1) sc_size_of.nd rfl (Or.inl rfl) (qe_ix (qv 0) qe_int (fun _ _=>rfl)))
  (qss_cons (qs_if (qt_cmpR oq_eq (qv 1) qe_str (nomark _)) (qss_cons (qs_ret (qe_ix (qv 0) qe_int (fun _ _=>rfl)))
  qss_nil) qss_nil)
  (qss_cons (qs_if (qt_cmpR oq_in (qv 1) (qe_tup (qa_cons qe_str (qa_cons qe_str qa_nil))) (by with_unfolding_all rfl)) (qss_cons (qs_ret qe_int)
  qss_nil) qss_nil)
  (qss_cons (qs_comp (i:=2) (own:=["name","inner"]) (cap:=[]) (compOk0 rfl (by decide +kernel) (by decide +kernel)) rfl (qi_tup (qe_ix (qv 0) qe_int (fun _ _=>rfl))) (fun _ _ _ _=>(qg_tup (n:=2) rfl (qgs_cons (qg_name (i:=0) (show List.Nodup (["name","inner"]:List Str) from by decide +kernel) rfl (Or.inl rfl) (Or.inr rfl)) (qgs_cons (qg_name (i:=1) (show List.Nodup (["name","inner"]:List Str) from by decide +kernel) rfl (Or.inl rfl) (Or.inr rfl)) qgs_nil)))) (fun _ _ _ _=>qts_nil) (fun _ _ _ _=>(qe_call c_size_of hr (by omega) rfl (qa_cons (qv 1) qa_nil))) sc_size_of.nd rfl rfl)
  (qss_cons (qs_if (qt_cmpR oq_eq (qv 1) qe_str (nomark _)) (qss_cons (qs_ret (qe_callB (cq_sum rfl) rfl z_sum PyProof.Rows.boot_sum (qa_cons (qv 2) qa_nil)))
  qss_nil) qss_nil)
  (qss_cons (qs_ret (qe_op oq_add qe_int (qe_maxd rfl rfl z_max (qa_cons (qv 2) qa_nil) qe_int)))
  qss_nil)))))),?_⟩
 simp only [start3]
 cases k with
 | num w=>
  rw [Kd.tr]
  and_intros
  unfold Kd.good at kg
  rw [sK,show ((w.toNat:Nat):Int)=w by omega] at q
  exact drop0 .refl q
 | text=>
  rw [Kd.tr]
  and_intros
  rw [sK] at q
  exact drop0 .refl q
 | row k=>
  rw [Kd.tr]
  and_intros
  rw [sK] at q
  exact drop0 .refl q
 | rec_ fs=>
  unfold Kd.good at kg
  rw [Kd.depth] at kd
  rw [sK] at q
  rw [Kd.tr]
  and_intros
  refine ⟨by rw [trF_len]; exact Nat.le_of_lt (small1000 (by omega)),fun rest τ ys Γ'=>∃ (gs hs:List (Str×Kd)) (o0 o1:Option T),τ=[o0,o1]∧rest=trF gs∧fs=hs++gs∧ys=(hs.map fun p=>((sK p.2:Nat):Int)).map T.int∧Γ'=Γ,⟨fs,[],none,none,rfl,rfl,rfl,rfl,rfl⟩,?_,?_⟩
  ·rintro τ ys Γ' ⟨gs,hs,o0,o1,rfl,e,e2,rfl,rfl⟩
   cases gs with
   | cons p r=>cases e
   | nil=>
    rw [List.append_nil] at e2
    subst e2
    refine ⟨trivial,fun D hD=>?_⟩
    and_intros
    refine ⟨D,_,rfl,it3_l up_same,?_⟩
    rw [sum_sF]
    exact drop0 (.new hD) q
  ·rintro x rr τ ys Γ' ⟨gs,hs,o0,o1,rfl,e,e2,rfl,rfl⟩
   cases gs with
   | nil=>cases e
   | cons p gs=>
    obtain ⟨nm,k⟩:=p
    cases e
    have km:(nm,k)∈fs:=by rw [e2]; simp
    have dk:k.depth≤depthF fs:=depthF_le km
    and_intros
    refine ⟨k,rfl,goodF_mem kg.1 km,by omega,?_⟩
    exact ⟨gs,hs++[(nm,k)],_,_,rfl,rfl,by rw [e2]; simp,by rw [List.map_append,List.map_append]; rfl,rfl⟩
 | pick fs=>
  unfold Kd.good at kg
  rw [Kd.depth] at kd
  rw [sK] at q
  rw [Kd.tr]
  and_intros
  refine ⟨by rw [trF_len]; exact Nat.le_of_lt (small1000 (by omega)),fun rest τ ys Γ'=>∃ (gs hs:List (Str×Kd)) (o0 o1:Option T),τ=[o0,o1]∧rest=trF gs∧fs=hs++gs∧ys=(hs.map fun p=>((sK p.2:Nat):Int)).map T.int∧Γ'=Γ,⟨fs,[],none,none,rfl,rfl,rfl,rfl,rfl⟩,?_,?_⟩
  ·rintro τ ys Γ' ⟨gs,hs,o0,o1,rfl,e,e2,rfl,rfl⟩
   cases gs with
   | cons p r=>cases e
   | nil=>
    rw [List.append_nil] at e2
    subst e2
    refine ⟨trivial,fun D hD=>?_⟩
    and_intros
    refine ⟨D,_,rfl,it3_l up_same,?_,?_⟩
    ·intro z
     have:=congrArg List.length z
     rw [List.length_map] at this
     have h1:=kg.2.1
     simp at this
     rw [this] at h1
     exact absurd h1 (by decide)
    and_intros
    rw [top_sP (by intro z; rw [z] at kg; exact absurd kg.2.1 (by decide))]
    exact drop0 (.new hD) q
  ·rintro x rr τ ys Γ' ⟨gs,hs,o0,o1,rfl,e,e2,rfl,rfl⟩
   cases gs with
   | nil=>cases e
   | cons p gs=>
    obtain ⟨nm,k⟩:=p
    cases e
    have km:(nm,k)∈fs:=by rw [e2]; simp
    have dk:k.depth≤depthF fs:=depthF_le km
    and_intros
    refine ⟨k,rfl,goodF_mem kg.1 km,by omega,?_⟩
    exact ⟨gs,hs++[(nm,k)],_,_,rfl,rfl,by rw [e2]; simp,by rw [List.map_append,List.map_append]; rfl,rfl⟩
abbrev s_in_order:Stmt:=top 3
theorem sc_in_order:FnScope ["laying","fields"] ["laying","fields"] (defScope s_in_order):=⟨rfl,rfl,rfl,by decide +kernel,rfl,by decide +kernel,by decide +kernel⟩
abbrev qIO:Str:=(("in_order" : Str) ++ ".<locals>.") ++ "<lambda>"
abbrev LamG (pT:Addr) (Γ:Gp):Prop:=Γ pT=some (.lam qIO (lamPos s_in_order))
def spIo (pT:Addr):Sp3:=fun ts Γ Z _=>∃ (L:Ly) (gs:List (Str×T)),ts=[L.tr,.tup (gs.map fdT)]∧gs.length < 64∧(gs.map (·.1)).Nodup∧LamG pT Γ∧Z (.tup ((ordB L.na gs).map fdT)) Γ
theorem ok_in_order (F:Fun K "in_order" "in_order" s_in_order f fd) (hc_tab:fd.code=.ref cT) (hC_tab:PySem.W.codeHdIn K cT pT=true) (hB_tab:BAt mg base pT) (z_tuple:mg "tuple" = none) (z_sorted:mg "sorted" = none):FnOk P w K mg base CX0 6 f fd ["laying","fields"] (liSp (spIo pT)):=by
 refine okdC F hc_tab sc_in_order (fun ts Γ Z Y h=>?_) (fun A outer s H E ts Γ Z Y hr h=>?_)
 ·obtain ⟨L,gs,rfl,_⟩:=h
  rfl
 obtain ⟨L,gs,rfl,l64,nd,gl,q⟩:=h
 refine ⟨_,(qss_cons (qs_if (qt_cmpR oq_eq (qe_ix (qv 0) qe_int (fun _ _=>rfl)) qe_str (nomark _)) (qss_cons (qs_ret (qv 1))
  qss_nil) qss_nil)
  (qss_cons (qs_ret (qe_callTy cq_tuple rfl z_tuple bt_tuple (qa_cons (qe_sortLam (hr.mono (by omega)) rfl z_sorted (qa_cons (qv 1) qa_nil) rfl rfl hC_tab hB_tab ⟨rfl,rfl,rfl,by decide +kernel,rfl,by decide +kernel,by decide +kernel⟩ rfl (fun _ _ _ _=>rfl)) qa_nil)))
  qss_nil)),?_⟩
 simp only [start3,Ly.tr]
 and_intros
 refine t_ixT (i:=3) (t:=.str L.s4) rfl ?_
 and_intros
 refine c_if (fun c=>?_) (fun c=>?_)
 ·rw [s4_to (d_str c)] at q
  and_intros
  exact drop0 .refl q
 ·rw [s4_na (d_strN c)] at q
  and_intros
  refine ⟨gs,rfl,l64,gl,fun hs a pm u ha=>?_⟩
  refine ⟨_,_,rfl,it3_l up_same,?_⟩
  rw [srt_of nd pm u]
  exact drop0 (.new ha) q
abbrev s_words_of_number:Stmt:=top 6
theorem sc_words_of_number:FnScope ["halves","width","number","words","rest","place","word"] ["halves","width","number"] (defScope s_words_of_number):=⟨rfl,rfl,rfl,by decide +kernel,rfl,by decide +kernel,by decide +kernel⟩
def spWn:Sp3:=fun ts Γ Z _=>∃ (L:Ly) (n:Nat) (i:Int),ts=[.str L.s1,.int (n:Nat),.int i]∧n≤4∧Z (.tup ((wdsN L.hi n i).map T.int)) Γ
theorem ok_words_of_number (F:Fun K "words_of_number" "words_of_number" s_words_of_number f fd) (m_WORD_NUMBERS:mg "WORD_NUMBERS" = some vW) (g_WORD_NUMBERS:GlobIs vW (.int 65536)) (z_range:mg "range" = none) (z_divmod:mg "divmod" = none) (z_tuple:mg "tuple" = none):FnOk P w K mg base CX0 1 f fd ["halves","width","number"] (liSp spWn):=by
 refine okd F sc_words_of_number (fun ts Γ Z Y h=>?_) (fun cdv A outer s H E ts Γ Z Y hr h=>?_)
 ·obtain ⟨L,n,i,rfl,_⟩:=h
  rfl
 obtain ⟨L,n,i,rfl,n4,q⟩:=h
 refine ⟨_,(qss_cons (qs_set (i:=3) sc_words_of_number.nd rfl (Or.inl rfl) (qe_lst qa_nil))
  (qss_cons (qs_set (i:=4) sc_words_of_number.nd rfl (Or.inl rfl) (qv 2))
  (qss_cons (qs_for PassesOwn.never rfl (qi_range1 rfl z_range (qa_cons (qv 1) qa_nil)) (qg_name (i:=5) sc_words_of_number.nd rfl (Or.inl rfl)) (qss_cons (qs_asg (qe_callB (cq_divmod) rfl z_divmod PyProof.Rows.boot_divmod (qa_cons (qv 4) (qa_cons (qe_glob rfl m_WORD_NUMBERS g_WORD_NUMBERS) qa_nil))) (qg_tup (n:=2) rfl (qgs_cons (qg_name (i:=4) sc_words_of_number.nd rfl (Or.inl rfl)) (qgs_cons (qg_name (i:=6) sc_words_of_number.nd rfl (Or.inl rfl)) qgs_nil))))
  (qss_cons (qs_expr (qe_bm PySem.F.plainAttrs_list PySem.F.slot_list_append PySem.F.type_list_append mq_append (qv 3) (qa_cons (qv 6) qa_nil)))
  qss_nil)))
  (qss_cons (qs_ret (qe_callTy cq_tuple rfl z_tuple bt_tuple (qa_cons (qe_ifExp (qt_cmpR oq_eq (qv 0) qe_str (nomark _)) (qv 3) (qe_revL (qv 3) (qe_neg qe_int))) qa_nil)))
  qss_nil)))),?_⟩
 simp only [start3]
 and_intros
 intro D hD
 and_intros
 refine ⟨_,rfl,by omega,by omega,?_⟩
 refine ⟨fun rest τ Γ'=>∃ (j c:Nat) (o5 o6:Option T),rest=rngT j c∧j+c=n∧τ=[some (.str L.s1),some (.int (n:Nat)),some (.int i),some (.ref D),some (.int (i / 65536 ^ j)),o5,o6]∧Γ' D=some (.lst ((wds j i).map T.int))∧Le Γ Γ',⟨0,n,none,none,rfl,Nat.zero_add _,by rw [Int.pow_zero,Int.ediv_one]; rfl,up_same,.new hD⟩,?_,?_⟩
 ·rintro τ Γ' ⟨j,c,o5,o6,e,jc,rfl,g,le⟩
  have hc:=rngT_nil e
  subst hc
  have hj:j=n:=jc
  subst hj
  refine ⟨trivial,?_⟩
  and_intros
  refine c_if (fun c=>?_) (fun c=>?_)
  ·and_intros
   refine ⟨_,_,rfl,it3_l g,?_⟩
   unfold wdsN at q
   rw [s1_lo (d_str c),if_neg Bool.false_ne_true] at q
   exact drop0 le q
  ·and_intros
   refine ⟨rfl,D,_,rfl,it3_l g,fun p3 hp3=>?_⟩
   and_intros
   refine ⟨_,_,rfl,it3_l up_same,?_⟩
   unfold wdsN at q
   rw [s1_hi (d_strN c),if_pos rfl,List.map_reverse] at q
   exact drop0 (le.trans (.new hp3)) q
 ·rintro x rr τ Γ' ⟨j,c,o5,o6,e,jc,rfl,g,le⟩
  obtain ⟨c',rfl,rfl,rfl⟩:=rngT_cons e
  refine ⟨trivial,?_⟩
  and_intros
  refine ⟨⟨by decide,by decide⟩,?_⟩
  and_intros
  refine t_tyL g ?_
  and_intros
  refine ⟨D,_,_,rfl,rfl,g,by rw [List.length_map,wds_len]; exact small1000 (by omega),?_⟩
  refine ⟨j+1,c',some (.int (j:Nat)),some (.int (i / 65536 ^ j % 65536)),rfl,by omega,by rw [← ediv_pow]; rfl,?_,fun b o gb=>?_⟩
  ·rw [up_same,wds_succ,List.map_append]; rfl
  ·have:b≠D:=gnn gb hD
   rw [up_ne this]; exact le b o gb
abbrev s_words_of_text:Stmt:=top 7
theorem sc_words_of_text:FnScope ["texts","text","signs"] ["texts","text"] (defScope s_words_of_text):=⟨rfl,rfl,rfl,by decide +kernel,rfl,by decide +kernel,by decide +kernel⟩
def spWt:Sp3:=fun ts Γ Z _=>∃ (L:Ly) (z:Str),ts=[.str L.s2,.str z]∧z.length≤60∧Z (.tup ((sgns L.en z).map T.int)) Γ
theorem ok_words_of_text (F:Fun K "words_of_text" "words_of_text" s_words_of_text f fd) (z_ord:mg "ord" = none) (z_len:mg "len" = none) (z_tuple:mg "tuple" = none):FnOk P w K mg base CX0 1 f fd ["texts","text"] (liSp spWt):=by
 refine okd F sc_words_of_text (fun ts Γ Z Y h=>?_) (fun cdv A outer s H E ts Γ Z Y hr h=>?_)
 ·obtain ⟨L,z,rfl,_⟩:=h
  rfl
 obtain ⟨L,z,rfl,l,q⟩:=h
 refine ⟨_,(qss_cons (qs_set (i:=2) sc_words_of_text.nd rfl (Or.inl rfl) (qe_callTy cq_tuple rfl z_tuple bt_tuple (qa_cons (qe_comp (own:=["sign"]) (cap:=[]) (compOk0 rfl (by decide +kernel) (by decide +kernel)) rfl (qi_str (qv 1)) (fun _ _ _ _=>(qg_name (i:=0) (show List.Nodup (["sign"]:List Str) from by decide +kernel) rfl (Or.inl rfl) (Or.inr rfl))) (fun _ _ _ _=>qts_nil) (fun _ _ _ _=>(qe_callB (cq_ord) rfl z_ord PyProof.Rows.boot_ord (qa_cons (qv 0) qa_nil)))) qa_nil)))
  (qss_cons (qs_ret (qe_ifExp (qt_cmpR oq_eq (qv 0) qe_str (nomark _)) (qe_op oq_cat (qe_tup (qa_cons (qe_callB cq_len rfl z_len PySem.boot_len (qa_cons (qv 2) qa_nil)) qa_nil)) (qv 2)) (qe_op oq_cat (qv 2) (qe_tup (qa_cons qe_int qa_nil)))))
  qss_nil)),?_⟩
 simp only [start3]
 and_intros
 have lz:z.cps.toList.length≤60:=l
 refine ⟨Nat.le_of_lt (small1000 (by show (z.cps.toList.map _).length≤1000; rw [List.length_map]; omega)),?_⟩
 refine ⟨fun rest τ ys Γ'=>∃ (cs ds:List Nat) (o:Option T),rest=cs.map (fun c=>T.str ⟨#[c]⟩)∧τ=[o]∧z.cps.toList=ds++cs∧ys=ds.map (fun c:Nat=>T.int (c:Int))∧Γ'=Γ,⟨z.cps.toList,[],none,rfl,rfl,rfl,rfl,rfl⟩,?_,?_⟩
 ·rintro τ ys Γ' ⟨cs,ds,o,er,rfl,ez,rfl,rfl⟩
  have hz:cs=[]:=by
   cases cs with
   | nil=>rfl
   | cons _ _=>cases er
  subst hz
  rw [List.append_nil] at ez
  subst ez
  refine ⟨trivial,fun D hD=>?_⟩
  and_intros
  refine ⟨_,_,rfl,it3_l up_same,?_⟩
  and_intros
  have e1:z.cps.toList.map (fun c:Nat=>T.int (c:Int))=(z.cps.toList.map (fun c:Nat=>(c:Int))).map T.int:=by rw [List.map_map]; rfl
  refine c_if (fun c=>?_) (fun c=>?_)
  ·and_intros
   refine t_cat (Nat.le_of_lt (by rw [List.length_map,sizeLine_eq]; show 1+_ < _; omega)) ?_
   unfold sgns at q
   rw [s2_co (d_str c),if_neg Bool.false_ne_true,List.map_cons,← e1] at q
   rw [List.length_map]
   exact drop0 (.new hD) q
  ·and_intros
   refine t_cat (Nat.le_of_lt (by rw [List.length_map,sizeLine_eq]; show _+1 < _; omega)) ?_
   unfold sgns at q
   rw [s2_en (d_strN c),if_pos rfl,List.map_append,← e1] at q
   exact drop0 (.new hD) q
 ·rintro x r τ ys Γ' ⟨cs,ds,o,er,rfl,ez,rfl,rfl⟩
  cases cs with
  | nil=>cases er
  | cons c cs=>
   cases er
   refine ⟨trivial,?_⟩
   and_intros
   refine ⟨_,rfl,rfl,?_⟩
   exact ⟨cs,ds++[c],_,rfl,rfl,by rw [ez]; simp,by rw [List.map_append]; rfl,rfl⟩
abbrev s_joined:Stmt:=top 13
theorem sc_joined:FnScope ["pictures"] ["pictures"] (defScope s_joined):=⟨rfl,rfl,rfl,by decide +kernel,rfl,by decide +kernel,by decide +kernel⟩
def spJo:Sp3:=fun ts Γ Z _=>∃ (p:Addr) (ps:List (List T)),ts=[.ref p]∧Γ p=some (.lst (ps.map T.tup))∧ps.flatten.length < sizeLine∧Z (.tup ps.flatten) Γ
theorem ok_joined (F:Fun K "joined" "joined" s_joined f fd) (z_tuple:mg "tuple" = none):FnOk P w K mg base CX0 1 f fd ["pictures"] (liSp spJo):=by
 refine okd F sc_joined (fun ts Γ Z Y h=>?_) (fun cdv A outer s H E ts Γ Z Y hr h=>?_)
 ·obtain ⟨p,ps,rfl,_⟩:=h
  rfl
 obtain ⟨p,ps,rfl,g,l,q⟩:=h
 refine ⟨_,(qss_cons (qs_ret (qe_callTy cq_tuple rfl z_tuple bt_tuple (qa_cons (qe_compM (own:=["one","entry"]) (cap:=[]) (compOk0 rfl (by decide +kernel) (by decide +kernel)) rfl (qi_list (qv 0)) (fun _ _ _ _=>(qg_name (i:=0) (show List.Nodup (["one","entry"]:List Str) from by decide +kernel) rfl (Or.inl rfl) (Or.inr rfl))) (fun _ _ _ _=>qts_nil) (fun _ _ _ _ _=>(qm_for rfl rfl (qi_tup (qv 0)) (qg_name (i:=1) (show List.Nodup (["one","entry"]:List Str) from by decide +kernel) rfl (Or.inl rfl) (Or.inr rfl)) qts_nil (qm_emit (qv 1))))) qa_nil)))
  qss_nil),?_⟩
 simp only [start3]
 and_intros
 refine ⟨p,_,rfl,it3_l g,?_⟩
 refine ⟨fun rest τ ys Γ'=>∃ (qs rs:List (List T)) (o0 o1:Option T),rest=rs.map T.tup∧ps=qs++rs∧τ=[o0,o1]∧ys=qs.flatten∧Γ'=Γ,⟨[],ps,none,none,rfl,rfl,rfl,rfl,rfl⟩,?_,?_⟩
 ·rintro τ ys Γ' ⟨qs,rs,o0,o1,er,ep,rfl,rfl,rfl⟩
  have hz:rs=[]:=by
   cases rs with
   | nil=>rfl
   | cons _ _=>cases er
  subst hz
  rw [List.append_nil] at ep
  subst ep
  refine ⟨it3_l g,fun D hD=>?_⟩
  and_intros
  refine ⟨_,_,rfl,it3_l up_same,?_⟩
  exact drop0 (.new hD) q
 ·rintro x r τ ys Γ' ⟨qs,rs,o0,o1,er,ep,rfl,rfl,rfl⟩
  cases rs with
  | nil=>cases er
  | cons us rs=>
   cases er
   refine ⟨it3_l g,?_⟩
   and_intros
   refine ⟨fun rest τ ys Γ2=>∃ (xs:List T) (o1:Option T),us=xs++rest∧τ=[some (.tup us),o1]∧ys=qs.flatten++xs∧Γ'=Γ2,⟨[],_,rfl,rfl,by rw [List.append_nil],rfl⟩,?_,?_⟩
   ·rintro τ ys Γ' ⟨xs,o1,eu,rfl,rfl,rfl⟩
    rw [List.append_nil] at eu
    subst eu
    exact ⟨trivial,qs++[us],rs,_,_,rfl,by rw [ep]; simp,rfl,by rw [List.flatten_append]; simp,rfl⟩
   ·rintro x r τ ys Γ' ⟨xs,o1,eu,rfl,rfl,rfl⟩
    refine ⟨trivial,?_⟩
    and_intros
    have hl:(qs.flatten++xs).length < sizeLine:=by
     rw [ep,List.flatten_append,List.flatten_cons,eu] at l
     simp only [List.length_append,List.length_cons] at l ⊢
     omega
    refine t_memit hl ?_
    and_intros
    exact ⟨xs++[x],_,by rw [eu]; simp,rfl,by simp,rfl⟩
end
theorem trF_fd (fs:List (Str×Kd)):trF fs=(fs.map fun p=>(p.1,p.2.tr)).map fdT:=by rw [trF_map,List.map_map]; rfl
theorem trF_ord {na:Bool} {fs:List (Str×Kd)} (nd:(fs.map (·.1)).Nodup):(ordB na (fs.map fun p=>(p.1,p.2.tr))).map fdT=trF (ordB na fs):=by rw [ordB_map nd fun p=>p.2.tr,trF_fd]
def kvOf:List (Str×Kd)→List T→List (Key×T)
 | (n,_)::fs,t::ts=>(.inr n,t)::kvOf fs ts
 | _,_=>[]
theorem kvOf_fst:∀ {fs:List (Str×Kd)} {ts:List T} {x:Key×T},x∈kvOf fs ts→∃ p∈fs,x.1=.inr p.1
 | (n,k)::fs,t::ts,x,h=>by
  rw [kvOf] at h
  rcases List.mem_cons.mp h with rfl | h
  ·exact ⟨(n,k),by simp,rfl⟩
  ·obtain ⟨p,hp,e⟩:=kvOf_fst h
   exact ⟨p,by simp [hp],e⟩
 | [],ts,x,h=>by cases ts <;> (rw [kvOf] at h; cases h; all_goals (intros; contradiction))
 | (n,k)::fs,[],x,h=>by rw [kvOf] at h; cases h; all_goals (intros; contradiction)
theorem kvOf_snoc {n:Str} {k:Kd} {t:T}:∀ {fs:List (Str×Kd)} {ts:List T},ts.length=fs.length→kvOf (fs++[(n,k)]) (ts++[t])=kvOf fs ts++[(.inr n,t)]
 | [],[],_=>rfl
 | (m,q)::fs,u::ts,h=>by
  show (Sum.inr m,u)::kvOf (fs++[(n,k)]) (ts++[t])=(Sum.inr m,u)::(kvOf fs ts++[(.inr n,t)])
  rw [kvOf_snoc (by simpa using h)]
 | [],_::_,h=>by cases h
 | _::_,[],h=>by cases h
theorem put_new {kvs:List (Key×T)} {k:Key} {v:T} (h:∀ x∈kvs,x.1≠k):putKT kvs k v=kvs++[(k,v)]:=by
 unfold putKT
 rw [if_neg]
 intro z
 obtain ⟨x,hx,e⟩:=List.any_eq_true.mp z
 exact h x hx (of_decide_eq_true e)
def valOf (fs:List (Str×Kd)) (ts:List T) (n:Str):T:=(valT (kvOf fs ts) (.inr n)).getD .non
theorem val_cons_eq {n:Str} {k:Kd} {t:T} {fs:List (Str×Kd)} {ts:List T}:valT (kvOf ((n,k)::fs) (t::ts)) (.inr n)=some t:=by
 show valT ((Sum.inr n,t)::kvOf fs ts) (.inr n)=some t
 unfold valT
 rw [List.find?_cons_of_pos (by simp)]
 rfl
theorem val_cons_ne {n m:Str} {k:Kd} {t:T} {fs:List (Str×Kd)} {ts:List T} (h:n≠m):valT (kvOf ((n,k)::fs) (t::ts)) (.inr m)=valT (kvOf fs ts) (.inr m):=by
 show valT ((Sum.inr n,t)::kvOf fs ts) (.inr m)=_
 unfold valT
 rw [List.find?_cons_of_neg (by simpa using h)]
theorem val_at:∀ {fs:List (Str×Kd)} {ts:List T} {p:Str×Kd},(fs.map (·.1)).Nodup→ts.length=fs.length→p∈fs→∃ (j:Nat) (t:T),fs[j]? = some p∧ts[j]? = some t∧valT (kvOf fs ts) (.inr p.1)=some t
 | (n,k)::fs,t::ts,p,nd,hl,h=>by
  rw [List.map_cons,List.nodup_cons] at nd
  rcases List.mem_cons.mp h with rfl | h
  ·exact ⟨0,t,rfl,rfl,val_cons_eq⟩
  ·have ne:n≠p.1:=fun e=>nd.1 (by rw [e]; exact List.mem_map.mpr ⟨p,h,rfl⟩)
   obtain ⟨j,t',a,b,c⟩:=val_at nd.2 (by simpa using hl) h
   exact ⟨j+1,t',a,b,by rw [val_cons_ne ne]; exact c⟩
 | [],_,p,_,_,h=>by cases h
 | _::_,[],p,_,hl,_=>by cases hl
theorem pF_map (L:Ly):∀ {fs:List (Str×Kd)} {ts:List T},(fs.map (·.1)).Nodup→ts.length=fs.length→pF L fs ts=fs.map fun p=>(p.1,pK L p.2 (valOf fs ts p.1))
 | [],[],_,_=>by rw [pF]; rfl; all_goals (intros; contradiction)
 | (n,k)::fs,t::ts,nd,hl=>by
  rw [List.map_cons,List.nodup_cons] at nd
  rw [pF,List.map_cons,pF_map L nd.2 (by simpa using hl)]
  congr 1
  ·show (n,pK L k t)=(n,pK L k (valOf ((n,k)::fs) (t::ts) n))
   unfold valOf
   rw [val_cons_eq]
   rfl
  ·refine List.map_congr_left fun p hp=>?_
   have ne:n≠p.1:=fun e=>nd.1 (by rw [e]; exact List.mem_map.mpr ⟨p,hp,rfl⟩)
   unfold valOf
   rw [val_cons_ne ne]
 | [],_::_,_,h=>by cases h
 | _::_,[],_,h=>by cases h
theorem rec_parts (L:Ly) {fs:List (Str×Kd)} {ts:List T} (nd:(fs.map (·.1)).Nodup) (hl:ts.length=fs.length):((ordB L.na fs).map fun p=>pK L p.2 (valOf fs ts p.1)).flatten=pK L (.rec_ fs) (.tup ts):=by
 rw [pK,pF_map L nd hl,ordB_map nd fun p=>pK L p.2 (valOf fs ts p.1),List.map_map]
 rfl
theorem zipT_cons {x y:T} {xs ys:List T}:zipT (x::xs) (y::ys)=.tup [x,y]::zipT xs ys:=rfl
theorem ix_str {m:Str}:∀ {ss:List Str},m∈ss→(∃ z,(ss.map V.str)[ss.idxOf m]? = some z∧eqV z (.str m)=true)∧∀ (i:Nat) (z:V),i < ss.idxOf m→(ss.map V.str)[i]? = some z→eqV z (.str m)=false
 | [],h=>by cases h
 | s::ss,h=>by
  by_cases e:s=m
  ·subst e
   rw [List.idxOf_cons_self]
   exact ⟨⟨_,rfl,by simp [eqV]⟩,fun i z hi=>absurd hi (Nat.not_lt_zero _)⟩
  ·have h':m∈ss:=by
    rcases List.mem_cons.mp h with h | h
    ·exact absurd h.symm e
    ·exact h
   obtain ⟨⟨z,b1,b2⟩,c⟩:=ix_str h'
   have ei:(s::ss).idxOf m=ss.idxOf m+1:=by rw [List.idxOf_cons,beq_eq_false_iff_ne.mpr e]; rfl
   rw [ei]
   refine ⟨⟨z,by simpa using b1,b2⟩,fun i z hi hz=>?_⟩
   cases i with
   | zero=>cases hz; simp [eqV,e]
   | succ i=>exact c i z (by omega) (by simpa using hz)
theorem strs_fl (ss:List Str):(ss.map V.str).all flatV=true:=by
 rw [List.all_eq_true]
 intro v hv
 obtain ⟨z,_,rfl⟩:=List.mem_map.mp hv
 rfl
theorem LamG.new {pT p:Addr} {o:O} {Γ:Gp} (g:LamG pT Γ) (h:Γ p=none):LamG pT (up Γ p o):=by show up Γ p o pT=_; rw [up_ne (gnn g h)]; exact g
theorem rows_len {L:Ly} {k:Kd} {ts:List T} (h:∀ t∈ts,Has k t) (kg:k.good) (kd:k.depth≤5):(ts.map fun t=>pK L k t).flatten.length=ts.length * sK k:=by
 rw [len_flat (D:=sK k) fun p hp=>?_,List.length_map]
 obtain ⟨t,ht,rfl⟩:=List.mem_map.mp hp
 exact (pk_ok L (h t ht) kg kd).len
section
variable {P:Program} {w:World} {K:PySem.W.Frag} {mg:Str→Option Value} {base:Heap} {f:Addr} {fd:FuncData} {pT:Addr}
def spPi (pT:Addr) (n:Nat):Sp3:=fun ts Γ Z _=>∃ (L:Ly) (k:Kd) (u:T),ts=[L.tr,k.tr,u]∧k.good∧k.depth < n∧k.depth≤5∧Has k u∧LamG pT Γ∧Z (.tup (pK L k u)) Γ
abbrev s_row_entry:Stmt:=top 10
theorem sc_row_entry:FnScope ["laying","kind","items","pictures","entry","one"] ["laying","kind","items"] (defScope s_row_entry):=⟨rfl,rfl,rfl,by decide +kernel,rfl,by decide +kernel,by decide +kernel⟩
def spRe (pT:Addr) (n:Nat):Sp3:=fun ts Γ Z _=>∃ (L:Ly) (k:Kd) (us:List T),ts=[L.tr,k.tr,.tup us]∧k.good∧k.depth < n∧k.depth≤5∧us.length≤60∧(∀ t∈us,Has k t)∧LamG pT Γ∧Z (if L.ch=true then chn (us.map fun t=>pK L k t) else .tup (.int us.length::(us.map fun t=>pK L k t).flatten)) Γ
theorem ok_row_entry {n lv:Nat} (F:Fun K "row_entry" "row_entry" s_row_entry f fd) (c_picture:Cl3 P w K mg base "picture" lv ["laying","kind","worth"] (spPi pT n)) (c_joined:Cl3 P w K mg base "joined" 1 ["pictures"] spJo) (hv:1≤lv) (z_len:mg "len" = none) (z_reversed:mg "reversed" = none):FnOk P w K mg base CX0 (lv+1) f fd ["laying","kind","items"] (liSp (spRe pT n)):=by
 refine okd F sc_row_entry (fun ts Γ Z Y h=>?_) (fun cdv A outer s H E ts Γ Z Y hr h=>?_)
 ·obtain ⟨L,k,us,rfl,_⟩:=h
  rfl
 obtain ⟨L,k,us,rfl,kg,kd,kd5,l,hs,gl,q⟩:=h
 refine ⟨_,(qss_cons (qs_comp (i:=3) (own:=["item"]) (cap:=[(0,"laying"),(1,"kind")]) (compOkC rfl (by decide +kernel) (by decide +kernel) rfl (⟨rfl,⟨rfl,trivial⟩⟩) rfl (⟨⟨rfl,rfl,rfl⟩,⟨⟨rfl,rfl,rfl⟩,trivial⟩⟩)) rfl (qi_tup (qv 2)) (fun _ _ _ _=>(qg_name (i:=0) (show List.Nodup (["item","laying","kind"]:List Str) from by decide +kernel) rfl (Or.inl rfl) (Or.inr rfl))) (fun _ _ _ _=>qts_nil) (fun _ _ _ _=>(qe_call c_picture hr (by omega) rfl (qa_cons (qv 1) (qa_cons (qv 2) (qa_cons (qv 0) qa_nil))))) sc_row_entry.nd rfl rfl)
  (qss_cons (qs_if (qt_cmpR oq_eq (qe_ix (qv 0) qe_int (fun _ _=>rfl)) qe_str (nomark _)) (qss_cons (qs_ret (qe_op oq_cat (qe_tup (qa_cons (qe_callB cq_len rfl z_len PySem.boot_len (qa_cons (qv 3) qa_nil)) qa_nil)) (qe_call c_joined hr (by omega) rfl (qa_cons (qv 3) qa_nil))))
  qss_nil) qss_nil)
  (qss_cons (qs_set (i:=4) sc_row_entry.nd rfl (Or.inl rfl) qe_int)
  (qss_cons (qs_for PassesOwn.never rfl (qi_rev rfl z_reversed (qa_cons (qv 3) qa_nil)) (qg_name (i:=5) sc_row_entry.nd rfl (Or.inl rfl)) (qss_cons (qs_set (i:=4) sc_row_entry.nd rfl (Or.inl rfl) (qe_op oq_cat (qe_tup (qa_cons (qv 4) qa_nil)) (qv 5)))
  qss_nil))
  (qss_cons (qs_ret (qv 4))
  qss_nil))))),?_⟩
 simp only [start3]
 have sm:=sK_max kg kd5
 have hfl:=rows_len (L:=L) hs kg kd5
 have hm:us.length * sK k≤60 * 5184:=Nat.mul_le_mul l sm
 and_intros
 refine ⟨Nat.le_of_lt (small1000 (by omega)),fun rest τ ys Γ'=>∃ (vs:List T) (o0:Option T),us=vs++rest∧τ=[o0,some L.tr,some k.tr]∧ys=(vs.map fun t=>pK L k t).map T.tup∧Γ'=Γ,⟨[],none,rfl,rfl,rfl,rfl⟩,?_,?_⟩
 ·rintro τ ys Γ' ⟨vs,o0,eu,rfl,rfl,rfl⟩
  rw [List.append_nil] at eu
  subst eu
  refine ⟨trivial,fun D hD=>?_⟩
  and_intros
  unfold Ly.tr
  and_intros
  refine t_ixT (i:=2) (t:=.str L.s3) rfl ?_
  and_intros
  refine c_if (fun c=>?_) (fun c=>?_)
  ·rw [s3_ar (d_str c),if_neg Bool.false_ne_true] at q
   and_intros
   refine t_lenR up_same ?_
   and_intros
   refine ⟨D,_,rfl,up_same,by rw [hfl,sizeLine_eq]; omega,?_⟩
   refine t_cat (Nat.le_of_lt (by rw [hfl,sizeLine_eq]; show 1+_ < _; omega)) ?_
   rw [List.length_map,List.length_map]
   exact drop0 (.new hD) q
  ·rw [s3_ch (d_strN c),if_pos rfl] at q
   and_intros
   refine ⟨D,_,rfl,it3_l up_same,?_⟩
   refine ⟨fun rest τ Γ2=>∃ (xs ys:List T) (o5:Option T),us=xs++ys∧rest=((xs.map fun t=>pK L k t).map T.tup).reverse∧τ=[some (.tup [.str L.s1,.str L.s2,.str L.s3,.str L.s4]),some k.tr,some (.tup us),some (.ref D),some (chn (ys.map fun t=>pK L k t)),o5]∧up Γ' D (.lst ((us.map fun t=>pK L k t).map T.tup))=Γ2,⟨us,[],none,by simp,rfl,rfl,rfl⟩,?_,?_⟩
   ·rintro τ Γ2 ⟨xs,ys,o5,eu,er,rfl,rfl⟩
    have hx:xs=[]:=by
     have:=congrArg List.length er
     simp at this
     exact List.eq_nil_of_length_eq_zero this.symm
    subst hx
    rw [List.nil_append] at eu
    subst eu
    refine ⟨it3_l up_same,?_⟩
    and_intros
    exact drop0 (.new hD) q
   ·rintro x r τ Γ2 ⟨xs,ys,o5,eu,er,rfl,rfl⟩
    refine ⟨it3_l up_same,?_⟩
    rcases List.eq_nil_or_concat xs with rfl | ⟨zs,z,ez⟩
    ·cases er
    ·rw [List.concat_eq_append] at ez
     subst ez
     rw [List.map_append,List.map_append,List.reverse_append] at er
     have er':x::r=T.tup (pK L k z)::((zs.map fun t=>pK L k t).map T.tup).reverse:=er
     cases er'
     have mz:z∈us:=by rw [eu]; simp
     have lz:=(pk_ok L (hs z mz) kg kd5).len
     and_intros
     refine t_cat (Nat.le_of_lt (by rw [lz,sizeLine_eq]; show 1+_ < _; omega)) ?_
     and_intros
     exact ⟨zs,z::ys,_,by rw [eu]; simp,rfl,rfl,rfl⟩
 ·rintro x r τ ys Γ' ⟨vs,o0,eu,rfl,rfl,rfl⟩
  have mx:x∈us:=by rw [eu]; simp
  and_intros
  refine ⟨L,k,x,rfl,kg,kd,kd5,hs x mx,gl,?_⟩
  exact ⟨vs++[x],_,by rw [eu]; simp,rfl,by rw [List.map_append,List.map_append]; rfl,rfl⟩
abbrev s_record_picture:Stmt:=top 11
theorem sc_record_picture:FnScope ["laying","fields","parts","by_name"] ["laying","fields","parts"] (defScope s_record_picture):=⟨rfl,rfl,rfl,by decide +kernel,rfl,by decide +kernel,by decide +kernel⟩
def spRc (pT:Addr) (n:Nat):Sp3:=fun ts Γ Z _=>∃ (L:Ly) (fs:List (Str×Kd)) (us:List T),ts=[L.tr,.tup (trF fs),.tup us]∧(Kd.rec_ fs).good∧depthF fs < n∧depthF fs≤4∧Has (.rec_ fs) (.tup us)∧LamG pT Γ∧Z (.tup (pK L (.rec_ fs) (.tup us))) Γ
theorem ok_record_picture {n lv:Nat} (F:Fun K "record_picture" "record_picture" s_record_picture f fd) (c_picture:Cl3 P w K mg base "picture" lv ["laying","kind","worth"] (spPi pT n)) (c_joined:Cl3 P w K mg base "joined" 1 ["pictures"] spJo) (c_in_order:Cl3 P w K mg base "in_order" 6 ["laying","fields"] (spIo pT)) (hv:6≤lv) (z_zip:mg "zip" = none):FnOk P w K mg base CX0 (lv+1) f fd ["laying","fields","parts"] (liSp (spRc pT n)):=by
 refine okd F sc_record_picture (fun ts Γ Z Y h=>?_) (fun cdv A outer s H E ts Γ Z Y hr h=>?_)
 ·obtain ⟨L,fs,us,rfl,_⟩:=h
  rfl
 obtain ⟨L,fs,us,rfl,kg0,kd,kd4,hs,gl,q⟩:=h
 refine ⟨_,(qss_cons (qs_set (i:=3) sc_record_picture.nd rfl (Or.inr rfl) (qe_dictc (own:=["name","inner","part"]) (cap:=[]) (compOk0 rfl (by decide +kernel) (by decide +kernel)) rfl (qi_zip rfl z_zip (qa_cons (qv 1) (qa_cons (qv 2) qa_nil))) (fun _ _ _ _=>(qg_tup (n:=2) rfl (qgs_cons (qg_tup (n:=2) rfl (qgs_cons (qg_name (i:=0) (show List.Nodup (["name","inner","part"]:List Str) from by decide +kernel) rfl (Or.inl rfl) (Or.inr rfl)) (qgs_cons (qg_name (i:=1) (show List.Nodup (["name","inner","part"]:List Str) from by decide +kernel) rfl (Or.inl rfl) (Or.inr rfl)) qgs_nil))) (qgs_cons (qg_name (i:=2) (show List.Nodup (["name","inner","part"]:List Str) from by decide +kernel) rfl (Or.inl rfl) (Or.inr rfl)) qgs_nil)))) (fun _ _ _ _=>(qv 0)) (fun _ _ _ _=>(qv 2))))
  (qss_cons (qs_ret (qe_call c_joined hr (by omega) rfl (qa_cons (qe_comp (own:=["name","inner"]) (cap:=[(0,"laying"),(3,"by_name")]) (compOkC rfl (by decide +kernel) (by decide +kernel) rfl (⟨rfl,⟨rfl,trivial⟩⟩) rfl (⟨⟨rfl,rfl,rfl⟩,⟨⟨rfl,rfl,rfl⟩,trivial⟩⟩)) rfl (qi_tup (qe_call c_in_order hr (by omega) rfl (qa_cons (qv 0) (qa_cons (qv 1) qa_nil)))) (fun _ _ _ _=>(qg_tup (n:=2) rfl (qgs_cons (qg_name (i:=0) (show List.Nodup (["name","inner","laying","by_name"]:List Str) from by decide +kernel) rfl (Or.inl rfl) (Or.inr rfl)) (qgs_cons (qg_name (i:=1) (show List.Nodup (["name","inner","laying","by_name"]:List Str) from by decide +kernel) rfl (Or.inl rfl) (Or.inr rfl)) qgs_nil)))) (fun _ _ _ _=>qts_nil) (fun _ _ _ _=>(qe_call c_picture hr (by omega) rfl (qa_cons (qv 2) (qa_cons (qv 1) (qa_cons (qe_dget (Nat.lt_of_le_of_lt (Nat.add_le_add_left (by decide:1≤64) _) hr.units) (qv 3) (qv 0)) qa_nil)))))) qa_nil)))
  qss_nil)),?_⟩
 simp only [start3]
 have kg:=kg0
 unfold Kd.good at kg
 have plen:=(pk_ok L hs kg0 (by rw [Kd.depth]; omega)).len
 have psm:=sK_max kg0 (by rw [Kd.depth]; omega)
 rw [← rec_parts L kg.2.2.2 (by cases hs; assumption)] at q plen
 obtain ⟨hl,hq⟩:us.length=fs.length∧∀ (j:Nat) (n:Str) (k:Kd) (t:T),fs[j]? = some (n,k)→us[j]? = some t→Has k t:=by
  cases hs with
  | rec_ l q=>exact ⟨l,q⟩
 and_intros
 refine ⟨by rw [zipT_len,trF_len]; exact small1000 (by omega),fun rest τ ys Γ'=>∃ (gs hs:List (Str×Kd)) (ws vs:List T) (o0 o1 o2:Option T),fs=hs++gs∧us=vs++ws∧vs.length=hs.length∧rest=zipT (trF gs) ws∧τ=[o0,o1,o2]∧ys=kvOf hs vs∧Γ'=Γ,⟨fs,[],us,[],none,none,none,rfl,rfl,rfl,rfl,rfl,rfl,rfl⟩,?_,?_⟩
 ·rintro τ ys Γ' ⟨gs,hs',ws,vs,o0,o1,o2,ef,eu,el,er,rfl,rfl,rfl⟩
  have hg:gs=[]:=by
   cases gs with
   | nil=>rfl
   | cons p gs=>
    cases ws with
    | nil=>rw [ef,eu,List.length_append,List.length_append,el] at hl; simp at hl
    | cons w ws=>cases er
  subst hg
  have hw:ws=[]:=by
   cases ws with
   | nil=>rfl
   | cons w ws=>rw [ef,eu,List.length_append,List.length_append,el] at hl; simp at hl
  subst hw
  rw [List.append_nil] at ef eu
  subst ef eu
  refine ⟨trivial,fun D hD=>?_⟩
  and_intros
  refine ⟨L,fs.map fun p=>(p.1,p.2.tr),by rw [trF_fd],by rw [List.length_map]; omega,by rw [List.map_map]; exact kg.2.2.2,gl.new hD,?_⟩
  rw [trF_ord kg.2.2.2]
  and_intros
  have ol:(ordB L.na fs).length≤6:=by rw [ordB_len]; exact kg.2.2.1
  refine ⟨by rw [trF_len]; exact Nat.le_of_lt (small1000 (by omega)),fun rest τ ys Γ2=>∃ (gs hs:List (Str×Kd)) (o0 o1:Option T),ordB L.na fs=hs++gs∧rest=trF gs∧τ=[o0,o1,some L.tr,some (.ref D)]∧ys=(hs.map fun p=>pK L p.2 (valOf fs us p.1)).map T.tup∧up Γ' D (.dK (kvOf fs us))=Γ2,⟨_,[],none,none,rfl,rfl,rfl,rfl,rfl⟩,?_,?_⟩
  ·rintro τ ys Γ2 ⟨gs,hs',o0,o1,eo,er,rfl,rfl,rfl⟩
   cases gs with
   | cons p r=>cases er
   | nil=>
    rw [List.append_nil] at eo
    refine ⟨trivial,fun D2 hD2=>?_⟩
    and_intros
    refine ⟨D2,_,rfl,up_same,?_,?_⟩
    ·rw [← eo,plen,sizeLine_eq]; omega
    rw [← eo]
    exact drop0 (.trans (.new hD) (.new hD2)) q
  ·rintro x r τ ys Γ2 ⟨gs,hs',o0,o1,eo,er,rfl,rfl,rfl⟩
   cases gs with
   | nil=>cases er
   | cons p gs=>
    obtain ⟨nm,k⟩:=p
    cases er
    have mem:(nm,k)∈fs:=(ordB_perm L.na fs).mem_iff.mp (by rw [eo]; simp)
    obtain ⟨j,t,gf,gt,gv⟩:=val_at kg.2.2.2 hl mem
    have dk:k.depth≤depthF fs:=depthF_le mem
    have vo:valOf fs us nm=t:=by
     unfold valOf
     have gv:valT (kvOf fs us) (.inr nm)=some t:=gv
     rw [gv]; rfl
    and_intros
    refine ⟨D,kvOf fs us,.inr nm,t,rfl,rfl,up_same,gv,?_⟩
    refine ⟨L,k,t,rfl,goodF_mem kg.1 mem,by omega,by omega,hq j nm k t gf gt,gl.new hD,?_⟩
    refine ⟨gs,hs'++[(nm,k)],_,_,by rw [eo]; simp,rfl,rfl,?_,rfl⟩
    rw [List.map_append,List.map_append]
    show _=_++[T.tup (pK L k (valOf fs us nm))]
    rw [vo]
 ·rintro x r τ ys Γ' ⟨gs,hs',ws,vs,o0,o1,o2,ef,eu,el,er,rfl,rfl,rfl⟩
  cases gs with
  | nil=>
   have:zipT (trF []) ws=[]:=by cases ws <;> rfl
   rw [this] at er; cases er
  | cons p gs=>
   obtain ⟨nm,k⟩:=p
   cases ws with
   | nil=>cases er
   | cons t ws=>
    cases er
    have nw:∀ y∈kvOf hs' vs,y.1≠.inr nm:=fun y hy z=>by
     obtain ⟨p,hp,e⟩:=kvOf_fst hy
     rw [z] at e
     have nd:=kg.2.2.2
     rw [ef,List.map_append,List.nodup_append] at nd
     exact nd.2.2 _ (List.mem_map_of_mem hp) nm (by simp) (Sum.inr.inj e).symm
    and_intros
    refine ⟨.inr nm,rfl,?_⟩
    refine ⟨gs,hs'++[(nm,k)],ws,vs++[t],_,_,_,by rw [ef]; simp,by rw [eu]; simp,by rw [List.length_append,List.length_append,el]; rfl,rfl,rfl,?_,rfl⟩
    rw [put_new nw,kvOf_snoc el]
abbrev s_choice_picture:Stmt:=top 12
theorem sc_choice_picture:FnScope ["laying","kind","pair","ordered","place","entries"] ["laying","kind","pair"] (defScope s_choice_picture):=⟨rfl,rfl,rfl,by decide +kernel,rfl,by decide +kernel,by decide +kernel⟩
def spCh (pT:Addr) (n:Nat):Sp3:=fun ts Γ Z _=>∃ (L:Ly) (fs:List (Str×Kd)) (u:T),ts=[L.tr,(Kd.pick fs).tr,u]∧(Kd.pick fs).good∧depthF fs < n∧depthF fs≤4∧Has (.pick fs) u∧LamG pT Γ∧Z (.tup (pK L (.pick fs) u)) Γ
theorem ok_choice_picture {n lv:Nat} (F:Fun K "choice_picture" "choice_picture" s_choice_picture f fd) (c_picture:Cl3 P w K mg base "picture" lv ["laying","kind","worth"] (spPi pT n)) (c_size_of:Cl3 P w K mg base "size_of" 6 ["kind"] (spSo 6)) (c_in_order:Cl3 P w K mg base "in_order" 6 ["laying","fields"] (spIo pT)) (hv:6≤lv) (z_len:mg "len" = none):FnOk P w K mg base CX0 (lv+1) f fd ["laying","kind","pair"] (liSp (spCh pT n)):=by
 refine okd F sc_choice_picture (fun ts Γ Z Y h=>?_) (fun cdv A outer s H E ts Γ Z Y hr h=>?_)
 ·obtain ⟨L,fs,u,rfl,_⟩:=h
  rfl
 obtain ⟨L,fs,u,rfl,kg0,kd,kd4,hs,gl,q⟩:=h
 refine ⟨_,(qss_cons (qs_set (i:=3) sc_choice_picture.nd rfl (Or.inl rfl) (qe_call c_in_order hr (by omega) rfl (qa_cons (qv 0) (qa_cons (qe_ix (qv 1) qe_int (fun _ _=>rfl)) qa_nil))))
  (qss_cons (qs_set (i:=4) sc_choice_picture.nd rfl (Or.inl rfl) (qe_bm PySem.F.plainAttrs_list PySem.F.slot_list_index PySem.F.type_list_index mq_index (qe_comp (own:=["name","inner"]) (cap:=[]) (compOk0 rfl (by decide +kernel) (by decide +kernel)) rfl (qi_tup (qv 3)) (fun _ _ _ _=>(qg_tup (n:=2) rfl (qgs_cons (qg_name (i:=0) (show List.Nodup (["name","inner"]:List Str) from by decide +kernel) rfl (Or.inl rfl) (Or.inr rfl)) (qgs_cons (qg_name (i:=1) (show List.Nodup (["name","inner"]:List Str) from by decide +kernel) rfl (Or.inl rfl) (Or.inr rfl)) qgs_nil)))) (fun _ _ _ _=>qts_nil) (fun _ _ _ _=>(qv 0))) (qa_cons (qe_ix (qv 2) qe_int (fun _ _=>rfl)) qa_nil)))
  (qss_cons (qs_set (i:=5) sc_choice_picture.nd rfl (Or.inl rfl) (qe_op oq_cat (qe_tup (qa_cons (qv 4) qa_nil)) (qe_call c_picture hr (by omega) rfl (qa_cons (qv 0) (qa_cons (qe_ix (qe_ix (qv 3) (qv 4) (fun _ _=>rfl)) qe_int (fun _ _=>rfl)) (qa_cons (qe_ix (qv 2) qe_int (fun _ _=>rfl)) qa_nil))))))
  (qss_cons (qs_ret (qe_op oq_cat (qv 5) (qe_op oq_rep (qe_tup (qa_cons qe_int qa_nil)) (qe_op oq_sub (qe_call c_size_of hr (by omega) rfl (qa_cons (qv 1) qa_nil)) (qe_callB cq_len rfl z_len PySem.boot_len (qa_cons (qv 5) qa_nil))))))
  qss_nil)))),?_⟩
 simp only [start3]
 have kg:=kg0
 unfold Kd.good at kg
 cases hs with
 | @pick fs m k2 j t f2 hq=>
  have gfj:=findF_mem f2
  have mem:=List.mem_of_getElem? gfj
  have dk:k2.depth≤depthF fs:=depthF_le mem
  have gk:k2.good:=goodF_mem kg.1 mem
  have sm:=sK_max gk (by omega)
  have sp:1+sK k2≤sP fs:=sP_mem mem
  have s865:sP fs≤865:=(sF_le fs 3 kg.1 (by omega)).2
  rw [pK,pP_at L f2] at q
  have pl:=(pk_ok L hq gk (by omega)).len
  rw [pl] at q
  rw [Kd.tr]
  and_intros
  refine ⟨L,fs.map fun p=>(p.1,p.2.tr),by rw [trF_fd],by rw [List.length_map]; omega,by rw [List.map_map]; exact kg.2.2.2,gl,?_⟩
  rw [trF_ord kg.2.2.2]
  and_intros
  have ol:(ordB L.na fs).length≤6:=by rw [ordB_len]; exact kg.2.2.1
  refine ⟨by rw [trF_len]; exact Nat.le_of_lt (small1000 (by omega)),fun rest τ ys Γ2=>∃ (gs hs:List (Str×Kd)) (o0 o1:Option T),ordB L.na fs=hs++gs∧rest=trF gs∧τ=[o0,o1]∧ys=(hs.map (·.1)).map T.str∧Γ2=Γ,⟨_,[],none,none,rfl,rfl,rfl,rfl,rfl⟩,?_,?_⟩
  ·rintro τ ys Γ2 ⟨gs,hs',o0,o1,eo,er,rfl,rfl,rfl⟩
   cases gs with
   | cons p r=>cases er
   | nil=>
    rw [List.append_nil] at eo
    rw [← eo]
    refine ⟨trivial,fun D hD=>?_⟩
    refine t_tyL up_same ?_
    and_intros
    have pmem:(m,k2)∈ordB L.na fs:=(ordB_perm L.na fs).mem_iff.mpr mem
    have mm:m∈(ordB L.na fs).map (·.1):=List.mem_map_of_mem pmem
    obtain ⟨i1,i2⟩:=ix_str mm
    have hj0:((ordB L.na fs).map (·.1)).idxOf m < (ordB L.na fs).length:=by have:=List.idxOf_lt_length_of_mem mm; rwa [List.length_map] at this
    have gm:((ordB L.na fs).map (·.1))[((ordB L.na fs).map (·.1)).idxOf m]? = some m:=by
     rw [List.getElem?_eq_getElem (by rw [List.length_map]; exact hj0),List.getElem_idxOf]
    generalize ((ordB L.na fs).map (·.1)).idxOf m=j0 at i1 i2 hj0 gm q
    have gf:(ordB L.na fs)[j0]? = some (m,k2):=by
     rw [List.getElem?_map] at gm
     cases e:(ordB L.na fs)[j0]? with
     | none=>rw [e] at gm; cases gm
     | some x=>
      rw [e] at gm
      have e1:x.1=m:=Option.some.inj gm
      rw [nodup_fst (ordB_nodup (na:=L.na) kg.2.2.2) x (List.mem_of_getElem? e) (m,k2) pmem e1]
    refine ⟨D,_,_,_,_,j0,rfl,rfl,it3_l up_same,scs_strs _,rfl,rfl,strs_fl _,i1,i2,?_⟩
    and_intros
    refine t_ixN (trF_get gf) ?_
    and_intros
    refine ⟨L,k2,t,rfl,gk,by omega,by omega,hq,gl.new hD,?_⟩
    refine t_cat (Nat.le_of_lt (by rw [pl,sizeLine_eq]; show 1+_ < _; omega)) ?_
    and_intros
    refine ⟨.pick fs,by rw [Kd.tr],kg0,by rw [Kd.depth]; omega,?_⟩
    rw [sK]
    and_intros
    have lu:([T.int (j0:Nat)]++pK L k2 t).length=1+sK k2:=by rw [List.length_append,pl]; rfl
    rw [lu]
    refine ⟨_,_,rfl,rfl,by omega,by omega,by show 1≤1000; decide,?_⟩
    rw [rep1]
    and_intros
    have e0:((sP fs:Nat):Int)-((1+sK k2:Nat):Int)=((sP fs-(1+sK k2):Nat):Int):=by omega
    rw [e0,Int.toNat_natCast]
    refine t_cat (Nat.le_of_lt (by rw [lu,List.length_replicate,sizeLine_eq]; omega)) ?_
    exact drop0 (.new hD) q
  ·rintro x r τ ys Γ2 ⟨gs,hs',o0,o1,eo,er,rfl,rfl,rfl⟩
   cases gs with
   | nil=>cases er
   | cons p gs=>
    obtain ⟨nm,k⟩:=p
    cases er
    and_intros
    exact ⟨gs,hs'++[(nm,k)],_,_,by rw [eo]; simp,rfl,rfl,by rw [List.map_append,List.map_append]; rfl,rfl⟩
abbrev s_picture:Stmt:=top 9
theorem sc_picture:FnScope ["laying","kind","worth","head"] ["laying","kind","worth"] (defScope s_picture):=⟨rfl,rfl,rfl,by decide +kernel,rfl,by decide +kernel,by decide +kernel⟩
theorem ok_picture0 {n lv:Nat} (F:Fun K "picture" "picture" s_picture f fd) (c_row_entry:Cl3 P w K mg base "row_entry" (lv+1) ["laying","kind","items"] (spRe pT n)) (c_record_picture:Cl3 P w K mg base "record_picture" (lv+1) ["laying","fields","parts"] (spRc pT n)) (c_choice_picture:Cl3 P w K mg base "choice_picture" (lv+1) ["laying","kind","pair"] (spCh pT n)) (c_words_of_number:Cl3 P w K mg base "words_of_number" 1 ["halves","width","number"] spWn) (c_words_of_text:Cl3 P w K mg base "words_of_text" 1 ["texts","text"] spWt):FnOk P w K mg base CX0 (lv+1+1) f fd ["laying","kind","worth"] (liSp (spPi pT (n+1))):=by
 refine okd F sc_picture (fun ts Γ Z Y h=>?_) (fun cdv A outer s H E ts Γ Z Y hr h=>?_)
 ·obtain ⟨L,k,u,rfl,_⟩:=h
  rfl
 obtain ⟨L,k,u,rfl,kg,kd,kd5,hs,gl,q⟩:=h
 refine ⟨_,(qss_cons (qs_set (i:=3) sc_picture.nd rfl (Or.inl rfl) (qe_ix (qv 1) qe_int (fun _ _=>rfl)))
  (qss_cons (qs_if (qt_cmpR oq_eq (qv 3) qe_str (nomark _)) (qss_cons (qs_ret (qe_call c_words_of_number hr (by omega) rfl (qa_cons (qe_ix (qv 0) qe_int (fun _ _=>rfl)) (qa_cons (qe_ix (qv 1) qe_int (fun _ _=>rfl)) (qa_cons (qv 2) qa_nil)))))
  qss_nil) qss_nil)
  (qss_cons (qs_if (qt_cmpR oq_eq (qv 3) qe_str (nomark _)) (qss_cons (qs_ret (qe_tup (qa_cons (qe_call c_words_of_text hr (by omega) rfl (qa_cons (qe_ix (qv 0) qe_int (fun _ _=>rfl)) (qa_cons (qv 2) qa_nil))) qa_nil)))
  qss_nil) qss_nil)
  (qss_cons (qs_if (qt_cmpR oq_eq (qv 3) qe_str (nomark _)) (qss_cons (qs_ret (qe_tup (qa_cons (qe_call c_row_entry hr (by omega) rfl (qa_cons (qv 0) (qa_cons (qe_ix (qv 1) qe_int (fun _ _=>rfl)) (qa_cons (qv 2) qa_nil)))) qa_nil)))
  qss_nil) qss_nil)
  (qss_cons (qs_if (qt_cmpR oq_eq (qv 3) qe_str (nomark _)) (qss_cons (qs_ret (qe_call c_record_picture hr (by omega) rfl (qa_cons (qv 0) (qa_cons (qe_ix (qv 1) qe_int (fun _ _=>rfl)) (qa_cons (qv 2) qa_nil)))))
  qss_nil) qss_nil)
  (qss_cons (qs_ret (qe_call c_choice_picture hr (by omega) rfl (qa_cons (qv 0) (qa_cons (qv 1) (qa_cons (qv 2) qa_nil)))))
  qss_nil)))))),?_⟩
 simp only [start3]
 have hs0:=hs
 cases hs with
 | @num w i l h=>
  rw [Kd.tr]
  unfold Kd.good at kg
  rw [pK] at q
  unfold Ly.tr
  and_intros
  refine ⟨L,w.toNat,i,by rw [Int.toNat_of_nonneg (by omega)],by omega,?_⟩
  exact drop0 .refl q
 | @text z l h=>
  rw [Kd.tr]
  rw [pK] at q
  unfold Ly.tr
  and_intros
  refine ⟨L,z,rfl,l,?_⟩
  and_intros
  exact drop0 .refl q
 | @row k2 ts l hq=>
  unfold Kd.good at kg
  rw [Kd.depth] at kd kd5
  rw [Kd.tr]
  rw [pK] at q
  and_intros
  refine ⟨L,k2,ts,rfl,kg,by omega,by omega,l,hq,gl,?_⟩
  and_intros
  exact drop0 .refl q
 | @rec_ fs ts l hq=>
  rw [Kd.depth] at kd kd5
  rw [Kd.tr]
  and_intros
  refine ⟨L,fs,ts,rfl,kg,by omega,by omega,hs0,gl,?_⟩
  exact drop0 .refl q
 | @pick fs m k2 j t f2 hq=>
  rw [Kd.depth] at kd kd5
  rw [Kd.tr]
  and_intros
  refine ⟨L,fs,_,by rw [Kd.tr],kg,by omega,by omega,hs0,gl,?_⟩
  exact drop0 .refl q
end
theorem sF_snoc {n:Str} {k:Kd}:∀ (fs:List (Str×Kd)),sF (fs++[(n,k)])=sF fs+sK k
 | []=>by simp only [List.nil_append,sF]; omega
 | (m,q)::r=>by rw [List.cons_append,sF,sF,sF_snoc r,Nat.add_assoc]
theorem sP_snoc {n:Str} {k:Kd}:∀ (fs:List (Str×Kd)),sP (fs++[(n,k)])=max (sP fs) (1+sK k)
 | []=>by simp only [List.nil_append,sP]; omega
 | (m,q)::r=>by rw [List.cons_append,sP,sP,sP_snoc r]; omega
theorem dropN {Z:K3} {Γ Γ':Gp} {p:Addr} {o:O} (l:Le Γ Γ') (h:Γ' p=none) (z:∀ p,Γ p=none→Z (.ref p) (up Γ p o)):dropK Z (.ref p) (up Γ' p o):=by
 have g:Γ p=none:=by
  cases e:Γ p with
  | none=>rfl
  | some u=>have:=l p u e; rw [h] at this; cases this
 refine ⟨up Γ p o,fun b u q=>?_,z p g⟩
 by_cases e:b=p
 ·subst e; rw [up_same] at q ⊢; exact q
 ·rw [up_ne e] at q ⊢; exact l b u q
def zsI (fs:List (Str×Kd)):List (Str×(Kd×Nat)):=fs.zipIdx.map fun q=>(q.1.1,(q.1.2,q.2))
def plN (na:Bool) (fs:List (Str×Kd)):List Nat:=(ordB na (zsI fs)).map fun z=>z.2.2
theorem zsI_len (fs:List (Str×Kd)):(zsI fs).length=fs.length:=by unfold zsI; rw [List.length_map,List.length_zipIdx]
theorem zsI_fs (fs:List (Str×Kd)):(zsI fs).map (fun z=>(z.1,z.2.1))=fs:=by
 unfold zsI
 rw [List.map_map]
 have:=List.zipIdx_map_fst 0 fs
 conv=>rhs; rw [← this]
 rfl
theorem zsI_fst (fs:List (Str×Kd)):(zsI fs).map (·.1)=fs.map (·.1):=by
 conv=>rhs; rw [← zsI_fs fs]
 rw [List.map_map]
 rfl
theorem zsI_snd (fs:List (Str×Kd)):(zsI fs).map (fun z=>z.2.2)=List.range fs.length:=by
 unfold zsI
 rw [List.map_map,List.range_eq_range',← List.zipIdx_map_snd 0 fs]
 rfl
theorem zsI_at {fs:List (Str×Kd)} {z:Str×(Kd×Nat)} (h:z∈zsI fs):fs[z.2.2]? = some (z.1,z.2.1):=by
 unfold zsI at h
 obtain ⟨⟨⟨n,k⟩,i⟩,hx,rfl⟩:=List.mem_map.mp h
 exact List.mem_zipIdx_iff_getElem?.mp hx
theorem zsI_snoc (fs:List (Str×Kd)) (n:Str) (k:Kd):zsI (fs++[(n,k)])=zsI fs++[(n,(k,fs.length))]:=by
 unfold zsI
 rw [List.zipIdx_append,List.map_append]
 simp
theorem ord_zs {na:Bool} {fs:List (Str×Kd)} (nd:(fs.map (·.1)).Nodup):ordB na fs=(ordB na (zsI fs)).map fun z=>(z.1,z.2.1):=by
 conv=>lhs; rw [← zsI_fs fs]
 exact ordB_map (xs:=zsI fs) (by rw [zsI_fst]; exact nd) (fun z:Str×(Kd×Nat)=>z.2.1)
theorem zs_mem {na:Bool} {fs:List (Str×Kd)} {z:Str×(Kd×Nat)} (h:z∈ordB na (zsI fs)):fs[z.2.2]? = some (z.1,z.2.1):=zsI_at ((ordB_perm na _).mem_iff.mp h)
def zT (z:Str×(Kd×Nat)):T:=.tup [.str z.1,.int (z.2.2:Nat)]
section
variable {P:Program} {w:World} {K:PySem.W.Frag} {mg:Str→Option Value} {base:Heap} {f:Addr} {fd:FuncData} {v1 v2 v3:Value}
abbrev s_law_size:Stmt:=top 28
theorem sc_law_size:FnScope ["kind","size","name","below"] ["kind"] (defScope s_law_size):=⟨rfl,rfl,rfl,by decide +kernel,rfl,by decide +kernel,by decide +kernel⟩
def spSz (n:Nat):Sp3:=fun ts Γ Z _=>∃ k:Kd,ts=[k.tr]∧k.good∧k.depth < n∧Z (.int (sK k:Nat)) Γ
theorem ok_size {n lv:Nat} (F:Fun K "_law_size" "_law_size" s_law_size f fd) (c_law_size:Cl3 P w K mg base "_law_size" lv ["kind"] (spSz n)) (z_max:mg "max" = none):FnOk P w K mg base CX0 (lv+1) f fd ["kind"] (liSp (spSz (n+1))):=by
 refine okd F sc_law_size (fun ts Γ Z Y h=>?_) (fun cdv A outer s H E ts Γ Z Y hr h=>?_)
 ·obtain ⟨k,rfl,_⟩:=h
  rfl
 obtain ⟨k,rfl,kg,kd,q⟩:=h
 refine ⟨_,(qss_cons (qs_if (qt_cmpR oq_eq (qe_ix (qv 0) qe_int (fun _ _=>rfl)) qe_str (nomark _)) (qss_cons (qs_ret (qe_ix (qv 0) qe_int (fun _ _=>rfl)))
  qss_nil) qss_nil)
  (qss_cons (qs_if (PW.pt (qw_or (qt_cmpR oq_eq (qe_ix (qv 0) qe_int (fun _ _=>rfl)) qe_str (nomark _)) (qw_or1 (qt_cmpR oq_eq (qe_ix (qv 0) qe_int (fun _ _=>rfl)) qe_str (nomark _))))) (qss_cons (qs_ret qe_int)
  qss_nil) qss_nil)
  (qss_cons (qs_set (i:=1) sc_law_size.nd rfl (Or.inl rfl) qe_int)
  (qss_cons (qs_for PassesOwn.never rfl (qi_tup (qe_ix (qv 0) qe_int (fun _ _=>rfl))) (qg_tup (n:=2) rfl (qgs_cons (qg_name (i:=2) sc_law_size.nd rfl (Or.inl rfl)) (qgs_cons (qg_name (i:=3) sc_law_size.nd rfl (Or.inl rfl)) qgs_nil))) (qss_cons (qs_cut (qs_if (qt_cmpR oq_eq (qe_ix (qv 0) qe_int (fun _ _=>rfl)) qe_str (nomark _)) (qss_cons (qs_set (i:=1) sc_law_size.nd rfl (Or.inl rfl) (qe_op oq_add (qv 1) (qe_call c_law_size hr (by omega) rfl (qa_cons (qv 3) qa_nil))))
  qss_nil) (qss_cons (qs_set (i:=1) sc_law_size.nd rfl (Or.inl rfl) (qe_callB (cq_max2 rfl) rfl z_max PyProof.Rows.boot_max (qa_cons (qv 1) (qa_cons (qe_op oq_add qe_int (qe_call c_law_size hr (by omega) rfl (qa_cons (qv 3) qa_nil))) qa_nil))))
  qss_nil)))
  qss_nil))
  (qss_cons (qs_ret (qv 1))
  qss_nil))))),?_⟩
 simp only [start3]
 cases k with
 | num w=>
  rw [Kd.tr]
  and_intros
  unfold Kd.good at kg
  rw [sK,show ((w.toNat:Nat):Int)=w by omega] at q
  exact drop0 .refl q
 | text=>
  rw [Kd.tr]
  and_intros
  rw [sK] at q
  exact drop0 .refl q
 | row k=>
  rw [Kd.tr]
  and_intros
  rw [sK] at q
  exact drop0 .refl q
 | rec_ fs=>
  unfold Kd.good at kg
  rw [Kd.depth] at kd
  rw [sK] at q
  rw [Kd.tr]
  and_intros
  refine ⟨fun rest τ Γ'=>∃ (gs hs:List (Str×Kd)) (o2 o3:Option T),rest=trF gs∧fs=hs++gs∧τ=[some (.tup [.str "rec",.tup (trF fs)]),some (.int (sF hs:Nat)),o2,o3]∧Γ'=Γ,⟨fs,[],none,none,rfl,rfl,by rw [sF]; rfl,rfl⟩,?_,?_⟩
  ·rintro τ Γ' ⟨gs,hs,o2,o3,e0,e2,rfl,rfl⟩
   cases gs with
   | cons p r=>cases e0
   | nil=>
    rw [List.append_nil] at e2
    subst e2
    refine ⟨trivial,?_⟩
    and_intros
    exact drop0 .refl q
  ·rintro x rr τ Γ' ⟨gs,hs,o2,o3,e0,e2,rfl,rfl⟩
   cases gs with
   | nil=>cases e0
   | cons p gs=>
    obtain ⟨nm,k⟩:=p
    cases e0
    have mem:(nm,k)∈fs:=by rw [e2]; simp
    have dk:k.depth≤depthF fs:=depthF_le mem
    and_intros
    refine nocut ?_
    and_intros
    refine ⟨k,rfl,goodF_mem kg.1 mem,by omega,?_⟩
    and_intros
    exact ⟨gs,hs++[(nm,k)],_,_,rfl,by rw [e2]; simp,by rw [sF_snoc]; rfl,rfl⟩
 | pick fs=>
  unfold Kd.good at kg
  rw [Kd.depth] at kd
  rw [sK] at q
  rw [Kd.tr]
  and_intros
  refine ⟨fun rest τ Γ'=>∃ (gs hs:List (Str×Kd)) (o2 o3:Option T),rest=trF gs∧fs=hs++gs∧τ=[some (.tup [.str "pick",.tup (trF fs)]),some (.int (sP hs:Nat)),o2,o3]∧Γ'=Γ,⟨fs,[],none,none,rfl,rfl,by rw [sP]; rfl,rfl⟩,?_,?_⟩
  ·rintro τ Γ' ⟨gs,hs,o2,o3,e0,e2,rfl,rfl⟩
   cases gs with
   | cons p r=>cases e0
   | nil=>
    rw [List.append_nil] at e2
    subst e2
    refine ⟨trivial,?_⟩
    and_intros
    exact drop0 .refl q
  ·rintro x rr τ Γ' ⟨gs,hs,o2,o3,e0,e2,rfl,rfl⟩
   cases gs with
   | nil=>cases e0
   | cons p gs=>
    obtain ⟨nm,k⟩:=p
    cases e0
    have mem:(nm,k)∈fs:=by rw [e2]; simp
    have dk:k.depth≤depthF fs:=depthF_le mem
    and_intros
    refine nocut ?_
    and_intros
    refine ⟨k,rfl,goodF_mem kg.1 mem,by omega,?_⟩
    and_intros
    refine ⟨gs,hs++[(nm,k)],some (.str nm),some k.tr,rfl,by rw [e2]; simp,?_,rfl⟩
    rw [sP_snoc]
    have:(if (1:Int)+(sK k:Nat) > (sP hs:Nat) then (1:Int)+(sK k:Nat) else ((sP hs:Nat):Int))=((max (sP hs) (1+sK k):Nat):Int):=by split <;> omega
    rw [this]
    rfl
abbrev s_law_places:Stmt:=top 29
theorem sc_law_places:FnScope ["laying","fields"] ["laying","fields"] (defScope s_law_places):=⟨rfl,rfl,rfl,by decide +kernel,rfl,by decide +kernel,by decide +kernel⟩
def spPl:Sp3:=fun ts Γ Z _=>∃ (L:Ly) (fs:List (Str×Kd)),ts=[L.tr,.tup (trF fs)]∧fs.length≤6∧(fs.map (·.1)).Nodup∧∀ p:Addr,Γ p=none→Z (.ref p) (up Γ p (.lst ((plN L.na fs).map fun j=>T.int (j:Nat))))
theorem ok_places (F:Fun K "_law_places" "_law_places" s_law_places f fd) (z_list:mg "list" = none) (z_range:mg "range" = none) (z_len:mg "len" = none) (z_sorted:mg "sorted" = none):FnOk P w K mg base CX0 1 f fd ["laying","fields"] (liSp spPl):=by
 refine okd F sc_law_places (fun ts Γ Z Y h=>?_) (fun cdv A outer s H E ts Γ Z Y hr h=>?_)
 ·obtain ⟨L,fs,rfl,_⟩:=h
  rfl
 obtain ⟨L,fs,rfl,l6,nd,q⟩:=h
 refine ⟨_,(qss_cons (qs_if (qt_cmpR oq_eq (qe_ix (qv 0) qe_int (fun _ _=>rfl)) qe_str (nomark _)) (qss_cons (qs_ret (qe_listrange rfl rfl z_list rfl z_range (qa_cons (qe_callB cq_len rfl z_len PySem.boot_len (qa_cons (qv 1) qa_nil)) qa_nil)))
  qss_nil) qss_nil)
  (qss_cons (qs_ret (qe_comp (own:=["name","at"]) (cap:=[]) (compOk0 rfl (by decide +kernel) (by decide +kernel)) rfl (qi_list (qe_callB (cq_sortS zT (·.1) (fun _=>⟨_,rfl⟩)) rfl z_sorted PyProof.Rows.boot_sorted (qa_cons (qe_comp (own:=["at"]) (cap:=[(1,"fields")]) (compOkC rfl (by decide +kernel) (by decide +kernel) rfl (⟨rfl,trivial⟩) rfl (⟨⟨rfl,rfl,rfl⟩,trivial⟩)) rfl (qi_range1 rfl z_range (qa_cons (qe_callB cq_len rfl z_len PySem.boot_len (qa_cons (qv 1) qa_nil)) qa_nil)) (fun _ _ _ _=>(qg_name (i:=0) (show List.Nodup (["at","fields"]:List Str) from by decide +kernel) rfl (Or.inl rfl) (Or.inr rfl))) (fun _ _ _ _=>qts_nil) (fun _ _ _ _=>(qe_tup (qa_cons (qe_ix (qe_ix (qv 1) (qv 0) (fun _ _=>rfl)) qe_int (fun _ _=>rfl)) (qa_cons (qv 0) qa_nil))))) qa_nil))) (fun _ _ _ _=>(qg_tup (n:=2) rfl (qgs_cons (qg_name (i:=0) (show List.Nodup (["name","at"]:List Str) from by decide +kernel) rfl (Or.inl rfl) (Or.inr rfl)) (qgs_cons (qg_name (i:=1) (show List.Nodup (["name","at"]:List Str) from by decide +kernel) rfl (Or.inl rfl) (Or.inr rfl)) qgs_nil)))) (fun _ _ _ _=>qts_nil) (fun _ _ _ _=>(qv 1))))
  qss_nil)),?_⟩
 simp only [start3,Ly.tr]
 and_intros
 refine t_ixT (i:=3) (t:=.str L.s4) rfl ?_
 and_intros
 refine c_if (fun c=>?_) (fun c=>?_)
 ·unfold plN ordB at q
  rw [s4_to (d_str c),if_neg Bool.false_ne_true,zsI_snd] at q
  and_intros
  unfold eLR
  and_intros
  refine ⟨(trF fs).length,rfl,by rw [trF_len]; omega,fun p hp=>?_⟩
  rw [trF_len]
  exact ⟨_,.refl,q p hp⟩
 ·unfold plN ordB at q
  rw [s4_na (d_strN c),if_pos rfl] at q
  and_intros
  rw [trF_len]
  refine ⟨_,rfl,by omega,by omega,Nat.le_of_lt (small1000 (by rw [rngT_len]; omega)),?_⟩
  refine ⟨fun rest τ ys Γ2=>∃ (hs gs:List (Str×Kd)) (o0:Option T),rest=rngT hs.length gs.length∧fs=hs++gs∧τ=[o0,some (.tup (trF fs))]∧ys=(zsI hs).map zT∧Γ2=Γ,⟨[],fs,none,rfl,rfl,rfl,rfl,rfl⟩,?_,?_⟩
  ·rintro τ ys Γ2 ⟨hs,gs,o0,er,ef,rfl,rfl,rfl⟩
   have hg:gs=[]:=by
    cases gs with
    | nil=>rfl
    | cons _ _=>cases er
   subst hg
   rw [List.append_nil] at ef
   subst ef
   refine ⟨trivial,fun D hD=>?_⟩
   and_intros
   refine ⟨D,zsI fs,rfl,up_same,by rw [zsI_len]; omega,by rw [zsI_fst]; exact nd,fun ms l pm u hl=>?_⟩
   have em:ms=srt (zsI fs):=srt_of (by rw [zsI_fst]; exact nd) pm u
   subst em
   and_intros
   have ml:(srt (zsI fs)).length≤6:=by rw [pm.length_eq,zsI_len]; exact l6
   refine ⟨l,_,rfl,it3_l up_same,Nat.le_of_lt (small1000 (by rw [List.length_map]; omega)),?_⟩
   refine ⟨fun rest τ ys Γ3=>∃ (done more:List (Str×(Kd×Nat))) (o0 o1:Option T),rest=more.map zT∧srt (zsI fs)=done++more∧τ=[o0,o1]∧ys=done.map (fun z=>T.int (z.2.2:Nat))∧up (up Γ2 D (.lst ((zsI fs).map zT))) l (.lst ((srt (zsI fs)).map zT))=Γ3,⟨[],_,none,none,rfl,rfl,rfl,rfl,rfl⟩,?_,?_⟩
   ·rintro τ ys Γ3 ⟨done,more,o0,o1,er2,em,rfl,rfl,rfl⟩
    have hm:more=[]:=by
     cases more with
     | nil=>rfl
     | cons _ _=>cases er2
    subst hm
    rw [List.append_nil] at em
    refine ⟨it3_l up_same,fun D2 hD2=>?_⟩
    refine dropN (.trans (.new hD) (.new hl)) hD2 fun p hp=>?_
    have:=q p hp
    rw [em,List.map_map] at this
    exact this
   ·rintro x r τ ys Γ3 ⟨done,more,o0,o1,er2,em,rfl,rfl,rfl⟩
    cases more with
    | nil=>cases er2
    | cons y more=>
     cases er2
     refine ⟨it3_l up_same,?_⟩
     unfold zT
     and_intros
     exact ⟨done++[y],more,_,_,rfl,by rw [em]; simp,rfl,by rw [List.map_append]; rfl,rfl⟩
  ·rintro x r τ ys Γ2 ⟨hs,gs,o0,er,ef,rfl,rfl,rfl⟩
   cases gs with
   | nil=>cases er
   | cons p gs=>
    obtain ⟨nm,k⟩:=p
    obtain ⟨c',e1,rfl,rfl⟩:=rngT_cons er
    cases e1
    have gf:fs[hs.length]? = some (nm,k):=by rw [ef]; simp
    and_intros
    refine t_ixN (trF_get gf) ?_
    and_intros
    refine ⟨hs++[(nm,k)],gs,_,by rw [List.length_append]; rfl,by rw [ef]; simp,rfl,?_,rfl⟩
    rw [zsI_snoc,List.map_append]
    rfl
end
theorem cut_take {α:Type} {xs:List α} {n:Int} (h:0≤n):cutN xs none (some n)=xs.take n.toNat:=by
 unfold cutN
 rw [HT.sIx_none,List.drop_zero,Nat.sub_zero]
 have e1:HT.sIx xs.length xs.length (some n)=min n.toNat xs.length:=by
  show (if n < 0 then _ else min n.toNat _)=_
  rw [if_neg (by omega)]
 rw [e1]
 by_cases c:n.toNat≤xs.length
 ·rw [Nat.min_eq_left c]
 ·rw [Nat.min_eq_right (by omega),List.take_length,List.take_of_length_le (by omega)]
theorem pows_take {n:Nat} (h:n≤4):([1,65536,65536 ^ 2,65536 ^ 3]:List Int).take n=(List.range n).map fun j=>(65536:Int) ^ j:=by
 match n,h with
 | 0,_=>rfl
 | 1,_=>rfl
 | 2,_=>rfl
 | 3,_=>rfl
 | 4,_=>rfl
theorem s1_h1 {L:Ly} (h:L.s1 = "high"):L.hi=true:=by
 cases e:L.hi with
 | true=>rfl
 | false=>unfold Ly.s1 at h; rw [e] at h; exact absurd h (by decide)
theorem s1_h0 {L:Ly} (h:L.s1 ≠ "high"):L.hi=false:=by
 cases e:L.hi with
 | false=>rfl
 | true=>unfold Ly.s1 at h; rw [e] at h; exact absurd rfl h
theorem s2_e1 {L:Ly} (h:L.s2 = "end"):L.en=true:=by
 cases e:L.en with
 | true=>rfl
 | false=>unfold Ly.s2 at h; rw [e] at h; exact absurd h (by decide)
theorem s2_e0 {L:Ly} (h:L.s2 ≠ "end"):L.en=false:=by
 cases e:L.en with
 | false=>rfl
 | true=>unfold Ly.s2 at h; rw [e] at h; exact absurd rfl h
def atT (us:List T) (j:Nat):T:=(us[j]?).getD .non
theorem rec_places (L:Ly) {fs:List (Str×Kd)} {ts:List T} (nd:(fs.map (·.1)).Nodup) (hl:ts.length=fs.length):((ordB L.na (zsI fs)).map fun z=>pK L z.2.1 (atT ts z.2.2)).flatten=pK L (.rec_ fs) (.tup ts):=by
 rw [← rec_parts L nd hl,ord_zs nd,List.map_map]
 congr 1
 refine List.map_congr_left fun z hz=>?_
 have gf:=zs_mem hz
 show pK L z.2.1 (atT ts z.2.2)=pK L z.2.1 (valOf fs ts z.1)
 obtain ⟨j,t,a,b,c⟩:=val_at nd hl (List.mem_of_getElem? gf)
 have ej:j=z.2.2:=by
  have h1:(fs.map (·.1))[j]? = some z.1:=by rw [List.getElem?_map,a]; rfl
  have h2:(fs.map (·.1))[z.2.2]? = some z.1:=by rw [List.getElem?_map,gf]; rfl
  obtain ⟨i1,_⟩:=List.getElem?_eq_some_iff.mp h1
  obtain ⟨i2,_⟩:=List.getElem?_eq_some_iff.mp h2
  exact (List.getElem?_inj i1 nd).mp (h1.trans h2.symm)
 subst ej
 unfold atT valOf
 rw [b]
 have c:valT (kvOf fs ts) (.inr z.1)=some t:=c
 rw [c]
section
variable {P:Program} {w:World} {K:PySem.W.Frag} {mg:Str→Option Value} {base:Heap} {f:Addr} {fd:FuncData} {v1 v2 v3:Value}
abbrev s_law_picture:Stmt:=top 30
theorem sc_law_picture:FnScope ["laying","kind","worth","words","numbers","found","one","places","at"] ["laying","kind","worth"] (defScope s_law_picture):=⟨rfl,rfl,rfl,by decide +kernel,rfl,by decide +kernel,by decide +kernel⟩
def spPc (n:Nat):Sp3:=fun ts Γ Z _=>∃ (L:Ly) (k:Kd) (u:T),ts=[L.tr,k.tr,u]∧k.good∧k.depth < n∧k.depth≤5∧Has k u∧Z (.tup (pK L k u)) Γ
theorem ok_picture {n lv:Nat} (F:Fun K "_law_picture" "_law_picture" s_law_picture f fd) (c_law_picture:Cl3 P w K mg base "_law_picture" (lv+7) ["laying","kind","worth"] (spPc n)) (c_law_places:Cl3 P w K mg base "_law_places" 1 ["laying","fields"] spPl) (c_law_size:Cl3 P w K mg base "_law_size" 6 ["kind"] (spSz 6)) (z_tuple:mg "tuple" = none) (z_len:mg "len" = none) (z_ord:mg "ord" = none):FnOk P w K mg base CX0 (lv+7+1) f fd ["laying","kind","worth"] (liSp (spPc (n+1))):=by
 refine okd F sc_law_picture (fun ts Γ Z Y h=>?_) (fun cdv A outer s H E ts Γ Z Y hr h=>?_)
 ·obtain ⟨L,k,u,rfl,_⟩:=h
  rfl
 obtain ⟨L,k,u,rfl,kg,kd,kd5,hs,q⟩:=h
 refine ⟨_,(qss_cons (qs_if (qt_cmpR oq_eq (qe_ix (qv 1) qe_int (fun _ _=>rfl)) qe_str (nomark _)) (qss_cons (qs_comp (i:=3) (own:=["one"]) (cap:=[(2,"worth")]) (compOkC rfl (by decide +kernel) (by decide +kernel) rfl (⟨rfl,trivial⟩) rfl (⟨⟨rfl,rfl,rfl⟩,trivial⟩)) rfl (qi_list (qe_slice sq_list (qe_lst (qa_cons qe_int (qa_cons qe_int (qa_cons (qe_op oq_pow qe_int qe_int) (qa_cons (qe_op oq_pow qe_int qe_int) qa_nil))))) qo_none (qo_some (qe_ix (qv 1) qe_int (fun _ _=>rfl))))) (fun _ _ _ _=>(qg_name (i:=0) (show List.Nodup (["one","worth"]:List Str) from by decide +kernel) rfl (Or.inl rfl) (Or.inr rfl))) (fun _ _ _ _=>qts_nil) (fun _ _ _ _=>(qe_op oq_mod (qe_op oq_fdiv (qv 1) (qv 0)) qe_int)) sc_law_picture.nd rfl rfl)
  (qss_cons (qs_cut (qs_if (qt_cmpR oq_eq (qe_ix (qv 0) qe_int (fun _ _=>rfl)) qe_str (nomark _)) (qss_cons (qs_set (i:=3) sc_law_picture.nd rfl (Or.inl rfl) (qe_revL (qv 3) (qe_neg qe_int)))
  qss_nil) qss_nil))
  (qss_cons (qs_ret (qe_callTy cq_tuple rfl z_tuple bt_tuple (qa_cons (qv 3) qa_nil)))
  qss_nil))) qss_nil)
  (qss_cons (qs_if (qt_cmpR oq_eq (qe_ix (qv 1) qe_int (fun _ _=>rfl)) qe_str (nomark _)) (qss_cons (qs_comp (i:=4) (own:=["sign"]) (cap:=[]) (compOk0 rfl (by decide +kernel) (by decide +kernel)) rfl (qi_str (qv 2)) (fun _ _ _ _=>(qg_name (i:=0) (show List.Nodup (["sign"]:List Str) from by decide +kernel) rfl (Or.inl rfl) (Or.inr rfl))) (fun _ _ _ _=>qts_nil) (fun _ _ _ _=>(qe_callB (cq_ord) rfl z_ord PyProof.Rows.boot_ord (qa_cons (qv 0) qa_nil))) sc_law_picture.nd rfl rfl)
  (qss_cons (qs_if (qt_cmpR oq_eq (qe_ix (qv 0) qe_int (fun _ _=>rfl)) qe_str (nomark _)) (qss_cons (qs_ret (qe_tup (qa_cons (qe_callTy cq_tuple rfl z_tuple bt_tuple (qa_cons (qe_op oq_catL (qv 4) (qe_lst (qa_cons qe_int qa_nil))) qa_nil)) qa_nil)))
  qss_nil) qss_nil)
  (qss_cons (qs_ret (qe_tup (qa_cons (qe_callTy cq_tuple rfl z_tuple bt_tuple (qa_cons (qe_op oq_catL (qe_lst (qa_cons (qe_callB cq_len rfl z_len PySem.boot_len (qa_cons (qv 4) qa_nil)) qa_nil)) (qv 4)) qa_nil)) qa_nil)))
  qss_nil))) qss_nil)
  (qss_cons (qs_if (PW.pt (qw_and (qt_cmpR oq_eq (qe_ix (qv 1) qe_int (fun _ _=>rfl)) qe_str (nomark _)) (qw_and1 (qt_cmpR oq_eq (qe_ix (qv 0) qe_int (fun _ _=>rfl)) qe_str (nomark _))))) (qss_cons (qs_set (i:=5) sc_law_picture.nd rfl (Or.inl rfl) (qe_tup (qa_cons (qe_callB cq_len rfl z_len PySem.boot_len (qa_cons (qv 2) qa_nil)) qa_nil)))
  (qss_cons (qs_for PassesOwn.never rfl (qi_tup (qv 2)) (qg_name (i:=6) sc_law_picture.nd rfl (Or.inl rfl)) (qss_cons (qs_set (i:=5) sc_law_picture.nd rfl (Or.inl rfl) (qe_op oq_cat (qv 5) (qe_call c_law_picture hr (by omega) rfl (qa_cons (qv 0) (qa_cons (qe_ix (qv 1) qe_int (fun _ _=>rfl)) (qa_cons (qv 6) qa_nil))))))
  qss_nil))
  (qss_cons (qs_ret (qe_tup (qa_cons (qv 5) qa_nil)))
  qss_nil))) qss_nil)
  (qss_cons (qs_if (qt_cmpR oq_eq (qe_ix (qv 1) qe_int (fun _ _=>rfl)) qe_str (nomark _)) (qss_cons (qs_set (i:=5) sc_law_picture.nd rfl (Or.inl rfl) qe_int)
  (qss_cons (qs_for PassesOwn.never rfl (qi_tup (qe_revT (qv 2) (qe_neg qe_int))) (qg_name (i:=6) sc_law_picture.nd rfl (Or.inl rfl)) (qss_cons (qs_set (i:=5) sc_law_picture.nd rfl (Or.inl rfl) (qe_op oq_cat (qe_tup (qa_cons (qv 5) qa_nil)) (qe_call c_law_picture hr (by omega) rfl (qa_cons (qv 0) (qa_cons (qe_ix (qv 1) qe_int (fun _ _=>rfl)) (qa_cons (qv 6) qa_nil))))))
  qss_nil))
  (qss_cons (qs_ret (qe_tup (qa_cons (qv 5) qa_nil)))
  qss_nil))) qss_nil)
  (qss_cons (qs_set (i:=7) sc_law_picture.nd rfl (Or.inl rfl) (qe_call c_law_places hr (by omega) rfl (qa_cons (qv 0) (qa_cons (qe_ix (qv 1) qe_int (fun _ _=>rfl)) qa_nil))))
  (qss_cons (qs_if (qt_cmpR oq_eq (qe_ix (qv 1) qe_int (fun _ _=>rfl)) qe_str (nomark _)) (qss_cons (qs_set (i:=5) sc_law_picture.nd rfl (Or.inl rfl) (qe_tup qa_nil))
  (qss_cons (qs_for PassesOwn.never rfl (qi_list (qv 7)) (qg_name (i:=8) sc_law_picture.nd rfl (Or.inl rfl)) (qss_cons (qs_set (i:=5) sc_law_picture.nd rfl (Or.inl rfl) (qe_op oq_cat (qv 5) (qe_call c_law_picture hr (by omega) rfl (qa_cons (qv 0) (qa_cons (qe_ix (qe_ix (qe_ix (qv 1) qe_int (fun _ _=>rfl)) (qv 8) (fun _ _=>rfl)) qe_int (fun _ _=>rfl)) (qa_cons (qe_ix (qv 2) (qv 8) (fun _ _=>rfl)) qa_nil))))))
  qss_nil))
  (qss_cons (qs_ret (qv 5))
  qss_nil))) qss_nil)
  (qss_cons (qs_set (i:=8) sc_law_picture.nd rfl (Or.inl rfl) (qe_bm PySem.F.plainAttrs_list PySem.F.slot_list_index PySem.F.type_list_index mq_index (qe_comp (own:=["place"]) (cap:=[(1,"kind")]) (compOkC rfl (by decide +kernel) (by decide +kernel) rfl (⟨rfl,trivial⟩) rfl (⟨⟨rfl,rfl,rfl⟩,trivial⟩)) rfl (qi_list (qv 7)) (fun _ _ _ _=>(qg_name (i:=0) (show List.Nodup (["place","kind"]:List Str) from by decide +kernel) rfl (Or.inl rfl) (Or.inr rfl))) (fun _ _ _ _=>qts_nil) (fun _ _ _ _=>(qe_ix (qe_ix (qe_ix (qv 1) qe_int (fun _ _=>rfl)) (qv 0) (fun _ _=>rfl)) qe_int (fun _ _=>rfl)))) (qa_cons (qe_ix (qv 2) qe_int (fun _ _=>rfl)) qa_nil)))
  (qss_cons (qs_set (i:=5) sc_law_picture.nd rfl (Or.inl rfl) (qe_op oq_cat (qe_tup (qa_cons (qv 8) qa_nil)) (qe_call c_law_picture hr (by omega) rfl (qa_cons (qv 0) (qa_cons (qe_ix (qe_ix (qe_ix (qv 1) qe_int (fun _ _=>rfl)) (qe_ix (qv 7) (qv 8) (fun _ _=>rfl)) (fun _ _=>rfl)) qe_int (fun _ _=>rfl)) (qa_cons (qe_ix (qv 2) qe_int (fun _ _=>rfl)) qa_nil))))))
  (qss_cons (qs_ret (qe_op oq_cat (qv 5) (qe_op oq_rep (qe_tup (qa_cons qe_int qa_nil)) (qe_op oq_sub (qe_call c_law_size hr (by omega) rfl (qa_cons (qv 1) qa_nil)) (qe_callB cq_len rfl z_len PySem.boot_len (qa_cons (qv 5) qa_nil))))))
  qss_nil))))))))),?_⟩
 simp only [start3,Ly.tr]
 cases hs with
 | @num w i l h=>
  rw [Kd.tr]
  and_intros
  intro p hp
  and_intros
  unfold Kd.good at kg
  refine ⟨p,_,rfl,up_same,fun p2 hp2=>?_⟩
  have ct:cutN [T.int 1,.int 65536,.int (65536 ^ Int.toNat 2),.int (65536 ^ Int.toNat 3)] none (some w)=((List.range w.toNat).map fun j=>(65536:Int) ^ j).map T.int:=by rw [cut_take (by omega),← pows_take (by omega),List.map_take]; rfl
  rw [ct]
  refine ⟨p2,_,rfl,it3_l up_same,Nat.le_of_lt (small1000 (by rw [List.length_map,List.length_map,List.length_range]; omega)),?_⟩
  refine ⟨fun rest τ ys Γ'=>∃ (done more:List Nat) (o0:Option T),List.range w.toNat=done++more∧rest=(more.map fun j=>(65536:Int) ^ j).map T.int∧τ=[o0,some (.int i)]∧ys=(done.map fun j=>i / 65536 ^ j % 65536).map T.int∧Γ' p2=some (.lst (((List.range w.toNat).map fun j=>(65536:Int) ^ j).map T.int))∧Le Γ Γ',⟨[],_,none,rfl,rfl,rfl,rfl,up_same,.trans (.new hp) (.new hp2)⟩,?_,?_⟩
  ·rintro τ ys Γ2 ⟨done,more,o0,ed,er,rfl,rfl,g2,le⟩
   have hz:more=[]:=by
    cases more with
    | nil=>rfl
    | cons _ _=>cases er
   subst hz
   rw [List.append_nil] at ed
   refine ⟨it3_l g2,fun D hD=>?_⟩
   rw [← ed]
   have q:Z (.tup ((wdsN L.hi w.toNat i).map T.int)) Γ:=by rw [pK] at q; exact q
   and_intros
   refine ⟨fun τ Γ'=>∃ D':Addr,τ=[some (.tup [.str L.s1,.str L.s2,.str L.s3,.str L.s4]),some (.tup [.str "num",.int w]),some (.int i),some (.ref D'),none,none,none,none,none]∧Γ' D'=some (.lst ((wdsN L.hi w.toNat i).map T.int))∧Le Γ Γ',?_,?_⟩
   ·and_intros
    refine c_if (fun c=>?_) (fun c=>?_)
    ·and_intros
     refine ⟨rfl,D,_,rfl,it3_l up_same,fun p3 hp3=>?_⟩
     and_intros
     exact ⟨p3,rfl,by rw [up_same]; unfold wdsN; rw [s1_h1 (d_str c),if_pos rfl,List.map_reverse]; rfl,le.trans (.trans (.new hD) (.new hp3))⟩
    ·and_intros
     exact ⟨D,rfl,by rw [up_same]; unfold wdsN; rw [s1_h0 (d_strN c),if_neg Bool.false_ne_true]; rfl,le.trans (.new hD)⟩
   rintro τ Γ3 ⟨D',rfl,g3,le3⟩
   and_intros
   refine ⟨_,_,rfl,it3_l g3,?_⟩
   exact drop0 le3 q
  ·rintro x r τ ys Γ2 ⟨done,more,o0,ed,er,rfl,rfl,g2,le⟩
   cases more with
   | nil=>cases er
   | cons d more=>
    cases er
    have d4:d < 4:=by
     have:d∈List.range w.toNat:=by rw [ed]; simp
     have:=List.mem_range.mp this
     omega
    refine ⟨it3_l g2,?_⟩
    and_intros
    refine ⟨i,_,rfl,rfl,?_,?_⟩
    ·match d,d4 with
     | 0,_=>exact ⟨by decide,by decide⟩
     | 1,_=>exact ⟨by decide,by decide⟩
     | 2,_=>exact ⟨by decide,by decide⟩
     | 3,_=>exact ⟨by decide,by decide⟩
    and_intros
    exact ⟨done++[d],more,_,by rw [ed]; simp,rfl,rfl,by rw [List.map_append,List.map_append]; rfl,g2,le⟩
 | @text z l h=>
  rw [Kd.tr]
  and_intros
  have lz:z.cps.toList.length≤60:=l
  refine ⟨Nat.le_of_lt (small1000 (by show (z.cps.toList.map _).length≤1000; rw [List.length_map]; omega)),?_⟩
  refine ⟨fun rest τ ys Γ'=>∃ (cs ds:List Nat) (o:Option T),rest=cs.map (fun c=>T.str ⟨#[c]⟩)∧τ=[o]∧z.cps.toList=ds++cs∧ys=ds.map (fun c:Nat=>T.int (c:Int))∧Γ'=Γ,⟨z.cps.toList,[],none,rfl,rfl,rfl,rfl,rfl⟩,?_,?_⟩
  ·rintro τ ys Γ2 ⟨cs,ds,o,er,rfl,ez,rfl,rfl⟩
   have hz:cs=[]:=by
    cases cs with
    | nil=>rfl
    | cons _ _=>cases er
   subst hz
   rw [List.append_nil] at ez
   subst ez
   have q:Z (.tup [.tup ((sgns L.en z).map T.int)]) Γ2:=by rw [pK] at q; exact q
   have e1:z.cps.toList.map (fun c:Nat=>T.int (c:Int))=(z.cps.toList.map (fun c:Nat=>(c:Int))).map T.int:=by rw [List.map_map]; rfl
   refine ⟨trivial,fun D hD=>?_⟩
   and_intros
   refine c_if (fun c=>?_) (fun c=>?_)
   ·unfold sgns at q
    rw [s2_e1 (d_str c),if_pos rfl,List.map_append,← e1] at q
    and_intros
    intro p hp
    and_intros
    refine ⟨D,p,_,_,rfl,rfl,by rw [up_ne (gnn up_same hp)]; exact up_same,up_same,by rw [List.length_map]; exact Nat.le_of_lt (by rw [sizeLine_eq]; show _+1 < _; omega),fun p2 hp2=>?_⟩
    and_intros
    refine ⟨_,_,rfl,it3_l up_same,?_⟩
    and_intros
    exact drop0 (.trans (.new hD) (.trans (.new hp) (.new hp2))) q
   ·unfold sgns at q
    rw [s2_e0 (d_strN c),if_neg Bool.false_ne_true,List.map_cons,← e1] at q
    and_intros
    refine t_lenR up_same ?_
    rw [List.length_map]
    and_intros
    intro p hp
    and_intros
    refine ⟨p,D,_,_,rfl,rfl,up_same,by rw [up_ne (gnn up_same hp)]; exact up_same,by rw [List.length_map]; exact Nat.le_of_lt (by rw [sizeLine_eq]; show 1+_ < _; omega),fun p2 hp2=>?_⟩
    and_intros
    refine ⟨_,_,rfl,it3_l up_same,?_⟩
    and_intros
    exact drop0 (.trans (.new hD) (.trans (.new hp) (.new hp2))) q
  ·rintro x r τ ys Γ2 ⟨cs,ds,o,er,rfl,ez,rfl,rfl⟩
   cases cs with
   | nil=>cases er
   | cons c cs=>
    cases er
    refine ⟨trivial,?_⟩
    and_intros
    refine ⟨_,rfl,rfl,?_⟩
    exact ⟨cs,ds++[c],_,rfl,rfl,by rw [ez]; simp,by rw [List.map_append]; rfl,rfl⟩
 | @row k2 ts l hq=>
  have kg2:=kg
  unfold Kd.good at kg2
  rw [Kd.depth] at kd kd5
  have sm:=sK_max kg2 (by omega)
  have q:Z (.tup [if L.ch=true then chn (ts.map fun t=>pK L k2 t) else .tup (.int ts.length::(ts.map fun t=>pK L k2 t).flatten)]) Γ:=by rw [pK] at q; exact q
  have plen:∀ t∈ts,(pK L k2 t).length=sK k2:=fun t ht=>(pk_ok L (hq t ht) kg2 (by omega)).len
  rw [Kd.tr]
  and_intros
  refine t_ixT (i:=2) (t:=.str L.s3) rfl ?_
  and_intros
  refine c_if (fun c=>?_) (fun c=>?_)
  ·rw [s3_ar (d_str c),if_neg Bool.false_ne_true] at q
   and_intros
   refine ⟨fun rest τ Γ'=>∃ (xs ys:List T) (o3 o4 o6 o7 o8:Option T),ts=xs++ys∧rest=ys∧τ=[some (.tup [.str L.s1,.str L.s2,.str L.s3,.str L.s4]),some (.tup [.str "row",k2.tr]),some (.tup ts),o3,o4,some (.tup (.int ts.length::(xs.map fun t=>pK L k2 t).flatten)),o6,o7,o8]∧Γ'=Γ,⟨[],ts,none,none,none,none,none,rfl,rfl,rfl,rfl⟩,?_,?_⟩
   ·rintro τ Γ' ⟨xs,ys,o3,o4,o6,o7,o8,et,er,rfl,rfl⟩
    subst er
    rw [List.append_nil] at et
    subst et
    refine ⟨trivial,?_⟩
    and_intros
    exact drop0 .refl q
   ·rintro x r τ Γ' ⟨xs,ys,o3,o4,o6,o7,o8,et,er,rfl,rfl⟩
    subst er
    have hx:x∈ts:=by rw [et]; simp
    have xl:xs.length < ts.length:=by rw [et,List.length_append,List.length_cons]; omega
    have hm:xs.length * sK k2≤60 * 5184:=Nat.mul_le_mul (by omega) sm
    have hf:(xs.map fun t=>pK L k2 t).flatten.length=xs.length * sK k2:=by
     rw [len_flat (D:=sK k2) fun p hp=>?_,List.length_map]
     obtain ⟨t,ht,rfl⟩:=List.mem_map.mp hp
     exact plen t (by rw [et]; simp [ht])
    and_intros
    refine ⟨L,k2,x,rfl,kg2,by omega,by omega,hq x hx,?_⟩
    refine t_cat (Nat.le_of_lt (by rw [List.length_cons,hf,plen x hx,sizeLine_eq]; omega)) ?_
    and_intros
    exact ⟨xs++[x],r,_,_,_,_,_,by rw [et]; simp,rfl,by simp only [List.map_append,List.flatten_append,List.map_cons,List.map_nil,List.flatten_cons,List.flatten_nil,List.append_nil]; rfl,rfl⟩
  ·rw [s3_ch (d_strN c),if_pos rfl] at q
   and_intros
   refine ⟨rfl,ts,rfl,ts.reverse,rfl,?_⟩
   refine ⟨fun rest τ Γ'=>∃ (xs ys:List T) (o3 o4 o6 o7 o8:Option T),ts=xs++ys∧rest=xs.reverse∧τ=[some (.tup [.str L.s1,.str L.s2,.str L.s3,.str L.s4]),some (.tup [.str "row",k2.tr]),some (.tup ts),o3,o4,some (chn (ys.map fun t=>pK L k2 t)),o6,o7,o8]∧Γ'=Γ,⟨ts,[],none,none,none,none,none,by simp,rfl,rfl,rfl⟩,?_,?_⟩
   ·rintro τ Γ' ⟨xs,ys,o3,o4,o6,o7,o8,et,er,rfl,rfl⟩
    have hx:xs=[]:=by
     have:=congrArg List.length er
     simp at this
     exact List.eq_nil_of_length_eq_zero this.symm
    subst hx
    rw [List.nil_append] at et
    subst et
    refine ⟨trivial,?_⟩
    and_intros
    exact drop0 .refl q
   ·rintro x r τ Γ' ⟨xs,ys,o3,o4,o6,o7,o8,et,er,rfl,rfl⟩
    rcases List.eq_nil_or_concat xs with rfl | ⟨zs,z,ez⟩
    ·cases er
    ·rw [List.concat_eq_append] at ez
     subst ez
     rw [List.reverse_append] at er
     have er':x::r=z::zs.reverse:=er
     cases er'
     have hx:x∈ts:=by rw [et]; simp
     and_intros
     refine ⟨L,k2,x,rfl,kg2,by omega,by omega,hq x hx,?_⟩
     refine t_cat (Nat.le_of_lt (by rw [plen x hx,sizeLine_eq]; show 1+_ < _; omega)) ?_
     and_intros
     exact ⟨zs,x::ys,_,_,_,_,_,by rw [et]; simp,rfl,rfl,rfl⟩
 | @rec_ fs ts l hq=>
  have kg0:=kg
  unfold Kd.good at kg
  have hs0:Has (.rec_ fs) (.tup ts):=.rec_ l hq
  have kd0:=kd
  have kd50:=kd5
  rw [Kd.depth] at kd kd5
  have plen:=(pk_ok L hs0 kg0 kd50).len
  have psm:=sK_max kg0 kd50
  rw [← rec_places L kg.2.2.2 l] at q plen
  rw [Kd.tr]
  and_intros
  refine ⟨L,fs,rfl,kg.2.2.1,kg.2.2.2,fun p hp=>?_⟩
  and_intros
  refine ⟨p,_,rfl,it3_l up_same,?_⟩
  refine ⟨fun rest τ Γ'=>∃ (xs ys:List (Str×(Kd×Nat))) (o3 o4 o6 o8:Option T),ordB L.na (zsI fs)=xs++ys∧rest=ys.map (fun z=>T.int (z.2.2:Nat))∧τ=[some (.tup [.str L.s1,.str L.s2,.str L.s3,.str L.s4]),some (.tup [.str "rec",.tup (trF fs)]),some (.tup ts),o3,o4,some (.tup (xs.map fun z=>pK L z.2.1 (atT ts z.2.2)).flatten),o6,some (.ref p),o8]∧up Γ p (.lst ((plN L.na fs).map fun j=>T.int (j:Nat)))=Γ',⟨[],_,none,none,none,none,rfl,by unfold plN; rw [List.map_map]; rfl,rfl,rfl⟩,?_,?_⟩
  ·rintro τ Γ' ⟨xs,ys,o3,o4,o6,o8,et,er,rfl,rfl⟩
   have hy:ys=[]:=by
    cases ys with
    | nil=>rfl
    | cons _ _=>cases er
   subst hy
   rw [List.append_nil] at et
   refine ⟨it3_l up_same,?_⟩
   and_intros
   rw [← et]
   exact drop0 (.new hp) q
  ·rintro x r τ Γ' ⟨xs,ys,o3,o4,o6,o8,et,er,rfl,rfl⟩
   cases ys with
   | nil=>cases er
   | cons y ys=>
    cases er
    have gf:fs[y.2.2]? = some (y.1,y.2.1):=zs_mem (na:=L.na) (by rw [et]; simp)
    have hy:y.2.2 < fs.length:=(List.getElem?_eq_some_iff.mp gf).1
    obtain ⟨t,gt⟩:∃ t,ts[y.2.2]? = some t:=⟨ts[y.2.2]'(by omega),by simp [show y.2.2 < ts.length by omega]⟩
    have ea:atT ts y.2.2=t:=by unfold atT; rw [gt]; rfl
    have mem:=List.mem_of_getElem? gf
    have dk:y.2.1.depth≤depthF fs:=depthF_le mem
    have gk:=goodF_mem kg.1 mem
    have ht:=hq _ _ _ t gf gt
    refine ⟨it3_l up_same,?_⟩
    and_intros
    refine t_ixN (trF_get gf) ?_
    and_intros
    refine t_ixN gt ?_
    and_intros
    refine ⟨L,y.2.1,t,rfl,gk,by show y.2.1.depth < n; omega,by show y.2.1.depth≤5; omega,ht,?_⟩
    have fl:(xs.map fun z=>pK L z.2.1 (atT ts z.2.2)).flatten.length+(pK L y.2.1 t).length≤5184:=by
     rw [et,List.map_append,List.flatten_append,List.length_append,List.map_cons,List.flatten_cons,List.length_append,ea] at plen
     omega
    refine t_cat (Nat.le_of_lt (by rw [sizeLine_eq]; omega)) ?_
    and_intros
    exact ⟨xs++[y],ys,_,_,_,_,by rw [et]; simp,rfl,by simp only [List.map_append,List.flatten_append,List.map_cons,List.map_nil,List.flatten_cons,List.flatten_nil,List.append_nil,ea]; rfl,rfl⟩
 | @pick fs m k2 j t f2 hq=>
  have kg0:=kg
  unfold Kd.good at kg
  have kd0:=kd
  rw [Kd.depth] at kd kd5
  have gfj:=findF_mem f2
  have mem:=List.mem_of_getElem? gfj
  have dk:k2.depth≤depthF fs:=depthF_le mem
  have gk:k2.good:=goodF_mem kg.1 mem
  have sm:=sK_max gk (by omega)
  have sp:1+sK k2≤sP fs:=sP_mem mem
  have s865:sP fs≤865:=(sF_le fs 3 kg.1 (by omega)).2
  have pl:=(pk_ok L hq gk (by omega)).len
  rw [pK,pP_at L f2,pl,ord_zs kg.2.2.2,List.map_map] at q
  rw [Kd.tr]
  and_intros
  refine ⟨L,fs,rfl,kg.2.2.1,kg.2.2.2,fun p hp=>?_⟩
  and_intros
  have zl:(ordB L.na (zsI fs)).length≤6:=by rw [ordB_len,zsI_len]; exact kg.2.2.1
  refine ⟨p,_,rfl,it3_l up_same,Nat.le_of_lt (small1000 (by unfold plN; rw [List.length_map,List.length_map]; omega)),?_⟩
  refine ⟨fun rest τ ys Γ'=>∃ (xs more:List (Str×(Kd×Nat))) (o0:Option T),ordB L.na (zsI fs)=xs++more∧rest=more.map (fun z=>T.int (z.2.2:Nat))∧τ=[o0,some (.tup [.str "pick",.tup (trF fs)])]∧ys=(xs.map (·.1)).map T.str∧up Γ p (.lst ((plN L.na fs).map fun j=>T.int (j:Nat)))=Γ',⟨[],_,none,rfl,by unfold plN; rw [List.map_map]; rfl,rfl,rfl,rfl⟩,?_,?_⟩
  ·rintro τ ys Γ' ⟨xs,more,o0,et,er,rfl,rfl,rfl⟩
   have hy:more=[]:=by
    cases more with
    | nil=>rfl
    | cons _ _=>cases er
   subst hy
   rw [List.append_nil] at et
   rw [← et]
   refine ⟨it3_l up_same,fun D hD=>?_⟩
   refine t_tyL up_same ?_
   and_intros
   have zm:∃ z∈ordB L.na (zsI fs),z.1=m∧z.2.1=k2:=by
    have:(m,k2)∈ordB L.na fs:=(ordB_perm L.na fs).mem_iff.mpr mem
    rw [ord_zs kg.2.2.2] at this
    obtain ⟨z,hz,e⟩:=List.mem_map.mp this
    exact ⟨z,hz,(Prod.mk.inj e).1,(Prod.mk.inj e).2⟩
   obtain ⟨z,hz,ez1,ez2⟩:=zm
   have mm:m∈(ordB L.na (zsI fs)).map (·.1):=by rw [← ez1]; exact List.mem_map.mpr ⟨z,hz,rfl⟩
   obtain ⟨i1,i2⟩:=ix_str mm
   have hj0:((ordB L.na (zsI fs)).map (·.1)).idxOf m < (ordB L.na (zsI fs)).length:=by have:=List.idxOf_lt_length_of_mem mm; rwa [List.length_map] at this
   have gm:((ordB L.na (zsI fs)).map (·.1))[((ordB L.na (zsI fs)).map (·.1)).idxOf m]? = some m:=by
    rw [List.getElem?_eq_getElem (by rw [List.length_map]; exact hj0),List.getElem_idxOf]
   have q':Z (.tup (T.int ((((ordB L.na (zsI fs)).map (·.1)).idxOf m:Nat):Int)::pK L k2 t++List.replicate (sP fs-(1+sK k2)) (T.int 0))) Γ:=q
   clear q
   generalize ((ordB L.na (zsI fs)).map (·.1)).idxOf m=j0 at i1 i2 hj0 gm q'
   have nz:((ordB L.na (zsI fs)).map (·.1)).Nodup:=ordB_nodup (by rw [zsI_fst]; exact kg.2.2.2)
   have gz:(ordB L.na (zsI fs))[j0]? = some z:=by
    rw [List.getElem?_map] at gm
    cases e:(ordB L.na (zsI fs))[j0]? with
    | none=>rw [e] at gm; cases gm
    | some x=>
     rw [e] at gm
     have e1:x.1=m:=Option.some.inj gm
     rw [nodup_fst nz x (List.mem_of_getElem? e) z hz (e1.trans ez1.symm)]
   have gf:=zs_mem hz
   rw [ez1,ez2] at gf
   refine ⟨D,_,_,_,_,j0,rfl,rfl,it3_l up_same,scs_strs _,rfl,rfl,strs_fl _,i1,i2,?_⟩
   and_intros
   have gp:(up (up Γ p (.lst ((plN L.na fs).map fun j=>T.int (j:Nat)))) D (.lst (((ordB L.na (zsI fs)).map (·.1)).map T.str))) p=some (.lst ((plN L.na fs).map fun j=>T.int (j:Nat))):=by rw [up_ne (gnn up_same hD)]; exact up_same
   refine t_ixR gp (atI_nat (v:=.int (z.2.2:Nat)) (by unfold plN; rw [List.getElem?_map,List.getElem?_map,gz]; rfl)) ?_
   and_intros
   refine t_ixN (trF_get gf) ?_
   and_intros
   refine ⟨L,k2,t,rfl,gk,by omega,by omega,hq,?_⟩
   refine t_cat (Nat.le_of_lt (by rw [pl,sizeLine_eq]; show 1+_ < _; omega)) ?_
   and_intros
   refine ⟨.pick fs,by rw [Kd.tr],kg0,by rw [Kd.depth]; omega,?_⟩
   rw [sK]
   and_intros
   have lu:([T.int (j0:Nat)]++pK L k2 t).length=1+sK k2:=by rw [List.length_append,pl]; rfl
   rw [lu]
   refine ⟨_,_,rfl,rfl,by omega,by omega,by show 1≤1000; decide,?_⟩
   rw [rep1]
   and_intros
   have e0:((sP fs:Nat):Int)-((1+sK k2:Nat):Int)=((sP fs-(1+sK k2):Nat):Int):=by omega
   rw [e0,Int.toNat_natCast]
   refine t_cat (Nat.le_of_lt (by rw [lu,List.length_replicate,sizeLine_eq]; omega)) ?_
   exact drop0 (.trans (.new hp) (.new hD)) q'
  ·rintro x r τ ys Γ' ⟨xs,more,o0,et,er,rfl,rfl,rfl⟩
   cases more with
   | nil=>cases er
   | cons y more=>
    cases er
    have gf:fs[y.2.2]? = some (y.1,y.2.1):=zs_mem (na:=L.na) (by rw [et]; simp)
    refine ⟨it3_l up_same,?_⟩
    and_intros
    refine t_ixN (trF_get gf) ?_
    and_intros
    exact ⟨xs++[y],more,_,by rw [et]; simp,rfl,rfl,by rw [List.map_append,List.map_append]; rfl,rfl⟩
end
theorem zip_self:∀ us:List T,zipT us us=us.map fun y=>.tup [y,y]
 | []=>rfl
 | u::us=>by rw [zipT_cons,zip_self us]; rfl
def StB (M:Nat) (xs:List T):Prop:=∀ (i:Nat) (y:T),xs[i]? = some y→i+1+sdT y≤M
theorem StB.one (x:T):StB (1+sdT x) [x]:=fun i y h=>by
 cases i with
 | zero=>cases h; omega
 | succ i=>simp at h
theorem StB.pre {M:Nat} {ys:List T} {y:T} (h:StB M (ys++[y])):StB M ys:=fun i z hz=>h i z (by rw [List.getElem?_append_left (List.getElem?_eq_some_iff.mp hz).1]; exact hz)
theorem StB.len {M:Nat} {ys us:List T} (h:StB M (ys++[.tup us])):ys.length+us.length+1≤M:=by
 have:=h ys.length (.tup us) (by simp)
 rw [sd_tup] at this
 omega
theorem StB.push {M:Nat} {ys us:List T} (h:StB M (ys++[.tup us])):StB M (ys++us):=fun i z hz=>by
 by_cases c:i < ys.length
 ·rw [List.getElem?_append_left c] at hz
  exact h.pre i z hz
 ·rw [List.getElem?_append_right (by omega)] at hz
  have h1:=h ys.length (.tup us) (by simp)
  rw [sd_tup] at h1
  have h2:=sdL_le (List.mem_of_getElem? hz)
  have h3:=(List.getElem?_eq_some_iff.mp hz).1
  omega
section
variable {P:Program} {w:World} {K:PySem.W.Frag} {mg:Str→Option Value} {base:Heap} {f:Addr} {fd:FuncData} {v1 v2 v3:Value} {pT:Addr}
abbrev s_law_same:Stmt:=top 31
theorem sc_law_same:FnScope ["found","due","left","one","other"] ["found","due"] (defScope s_law_same):=⟨rfl,rfl,rfl,by decide +kernel,rfl,by decide +kernel,by decide +kernel⟩
def spSame:Sp3:=fun ts Γ Z _=>∃ x:T,ts=[x,x]∧Pl x∧sdT x < sizeLine∧Z (.bl true) Γ
theorem ok_same (F:Fun K "_law_same" "_law_same" s_law_same f fd) (z_isinstance:mg "isinstance" = none) (z_tuple:mg "tuple" = none) (z_str:mg "str" = none) (z_int:mg "int" = none) (z_bool:mg "bool" = none) (z_len:mg "len" = none) (z_list:mg "list" = none) (z_zip:mg "zip" = none):FnOk P w K mg base CX0 1 f fd ["found","due"] (liSp spSame):=by
 refine okd F sc_law_same (fun ts Γ Z Y h=>?_) (fun cdv A outer s H E ts Γ Z Y hr h=>?_)
 ·obtain ⟨x,rfl,_⟩:=h
  rfl
 obtain ⟨x,rfl,px,sx,q⟩:=h
 refine ⟨_,(qss_cons (qs_set (i:=2) sc_law_same.nd rfl (Or.inl rfl) (qe_lst (qa_cons (qe_tup (qa_cons (qv 0) (qa_cons (qv 1) qa_nil))) qa_nil)))
  (qss_cons (qs_while PassesOwn.never (qt_cmpR (oq_neNil hr.units0) (qv 2) (qe_lst qa_nil) (nomark _)) (qss_cons (qs_asg (qe_bm0 PySem.F.plainAttrs_list PySem.F.slot_list_pop PySem.F.type_list_pop mq_pop (qv 2)) (qg_tup (n:=2) rfl (qgs_cons (qg_name (i:=3) sc_law_same.nd rfl (Or.inl rfl)) (qgs_cons (qg_name (i:=4) sc_law_same.nd rfl (Or.inl rfl)) qgs_nil))))
  (qss_cons (qs_cut (qs_if (qt_val (qe_inst rfl z_isinstance rfl z_tuple bt_tuple (qv 4))) (qss_cons (qs_if (PW.pt (qw_or (qt_not (qt_val (qe_inst rfl z_isinstance rfl z_tuple bt_tuple (qv 3)))) (qw_or1 (qt_cmpR oq_ne (qe_callB cq_len rfl z_len PySem.boot_len (qa_cons (qv 3) qa_nil)) (qe_callB cq_len rfl z_len PySem.boot_len (qa_cons (qv 4) qa_nil)) (nomark _))))) (qss_cons (qs_ret qe_bl)
  qss_nil) qss_nil)
  (qss_cons (qs_expr (qe_bm PySem.F.plainAttrs_list PySem.F.slot_list_extend PySem.F.type_list_extend mq_extend (qv 2) (qa_cons (qe_listzip rfl rfl z_list rfl z_zip (qa_cons (qv 3) (qa_cons (qv 4) qa_nil))) qa_nil)))
  qss_nil)) (qss_cons (qs_cut (qs_if (qt_val (qe_inst rfl z_isinstance rfl z_str bt_str (qv 4))) (qss_cons (qs_if (PW.pt (qw_or (qt_not (qt_val (qe_inst rfl z_isinstance rfl z_str bt_str (qv 3)))) (qw_or1 (qt_cmpR oq_ne (qv 3) (qv 4) (nomark _))))) (qss_cons (qs_ret qe_bl)
  qss_nil) qss_nil)
  qss_nil) (qss_cons (qs_if (PW.pt (qw_or (qt_not (qt_val (qe_inst rfl z_isinstance rfl z_int bt_int (qv 3)))) (qw_or (qt_val (qe_inst rfl z_isinstance rfl z_bool bt_bool (qv 3))) (qw_or1 (qt_cmpR oq_ne (qv 3) (qv 4) (nomark _)))))) (qss_cons (qs_ret qe_bl)
  qss_nil) qss_nil)
  qss_nil)))
  qss_nil)))
  qss_nil)))
  (qss_cons (qs_ret qe_bl)
  qss_nil))),?_⟩
 simp only [start3]
 and_intros
 intro L hL
 refine ⟨fun m τ Γ'=>∃ (xs:List T) (o3 o4:Option T),τ=[some x,some x,some (.ref L),o3,o4]∧Γ' L=some (.lst (xs.map fun y=>.tup [y,y]))∧(∀ y∈xs,Pl y)∧tszs xs=m∧StB (1+sdT x) xs∧Le Γ Γ',⟨tszs [x],[x],none,none,rfl,up_same,fun y hy=>by rw [List.mem_singleton.mp hy]; exact px,rfl,StB.one x,.new hL⟩,?_⟩
 rintro m τ Γ1 ⟨xs,o3,o4,rfl,gL,hp,hm,ml,le⟩
 and_intros
 intro p hp0
 have gL':(up Γ1 p (.lst [])) L=some (.lst (xs.map fun y=>.tup [y,y])):=by rw [up_ne (gnn gL hp0)]; exact gL
 refine ⟨L,p,_,rfl,rfl,gL',up_same,?_⟩
 have le1:Le Γ (up Γ1 p (.lst [])):=le.trans (.new hp0)
 generalize up Γ1 p (.lst [])=Γ2 at gL' le1 ⊢
 rcases List.eq_nil_or_concat xs with rfl | ⟨ys,y,ey⟩
 ·and_intros
  exact drop0 le1 q
 ·rw [List.concat_eq_append] at ey
  subst ey
  and_intros
  refine c_ifT (by simp) ?_
  refine ⟨fun τ' Γ'=>∃ m',m' < m∧∃ (xs:List T) (o3 o4:Option T),τ'=[some x,some x,some (.ref L),o3,o4]∧Γ' L=some (.lst (xs.map fun y=>.tup [y,y]))∧(∀ y∈xs,Pl y)∧tszs xs=m'∧StB (1+sdT x) xs∧Le Γ Γ',fun _ _ h=>h,?_⟩
  and_intros
  refine t_tyL gL' ?_
  refine ⟨L,_,.tup [y,y],rfl,rfl,gL',by simp,?_⟩
  have dl:((ys++[y]).map fun y=>T.tup [y,y]).dropLast=ys.map fun y=>.tup [y,y]:=by simp
  simp only [dl]
  rw [tszs_app,tszs,tszs,Nat.add_zero] at hm
  have py:=hp y (by simp)
  have pos:=tsz_pos y
  have le3:Le Γ (up Γ2 L (.lst (ys.map fun y=>.tup [y,y]))):=fun b o g=>by
   have:b≠L:=gnn g hL
   rw [up_ne this]; exact le1 b o g
  have fin:∃ m',m' < m∧∃ (xs:List T) (o3 o4:Option T),[some x,some x,some (.ref L),some y,some y]=[some x,some x,some (.ref L),o3,o4]∧(up Γ2 L (.lst (ys.map fun y=>.tup [y,y]))) L=some (.lst (xs.map fun y=>.tup [y,y]))∧(∀ y∈xs,Pl y)∧tszs xs=m'∧StB (1+sdT x) xs∧Le Γ (up Γ2 L (.lst (ys.map fun y=>.tup [y,y]))):=
   ⟨tszs ys,by omega,ys,_,_,rfl,up_same,fun z hz=>hp z (by simp [hz]),rfl,ml.pre,le3⟩
  and_intros
  refine nocut ?_
  and_intros
  cases py with
  | int i=>
   refine ⟨_,false,rfl,rfl,?_⟩
   and_intros
   refine nocut ?_
   and_intros
   refine ⟨_,false,rfl,rfl,?_⟩
   and_intros
   refine ⟨_,true,rfl,rfl,?_⟩
   and_intros
   refine ⟨_,false,rfl,rfl,?_⟩
   and_intros
   refine c_ifF (by simp) ?_
   and_intros
   exact fin
  | @str z=>
   refine ⟨_,false,rfl,rfl,?_⟩
   and_intros
   refine nocut ?_
   and_intros
   refine ⟨_,true,rfl,rfl,?_⟩
   and_intros
   refine ⟨_,true,rfl,rfl,?_⟩
   and_intros
   refine c_ifF (by simp) ?_
   and_intros
   exact fin
  | @tup us hu=>
   refine ⟨_,true,rfl,rfl,?_⟩
   and_intros
   refine ⟨_,true,rfl,rfl,?_⟩
   and_intros
   refine c_ifF (by simp) ?_
   and_intros
   refine t_tyL up_same ?_
   and_intros
   refine ⟨rfl,fun p2 hp2=>?_⟩
   rw [zip_self]
   rw [tsz] at hm
   have l1:=tszs_len ys
   have l2:=tszs_len us
   have gL2:(up (up Γ2 L (.lst (ys.map fun y=>.tup [y,y]))) p2 (.lst (us.map fun y=>.tup [y,y]))) L=some (.lst (ys.map fun y=>.tup [y,y])):=by rw [up_ne (gnn up_same hp2)]; exact up_same
   refine ⟨L,p2,_,_,rfl,rfl,gL2,up_same,by rw [List.length_map,List.length_map]; have:=ml.len; omega,?_⟩
   refine ⟨tszs (ys++us),by rw [tszs_app]; omega,ys++us,_,_,rfl,by rw [up_same,List.map_append],fun z hz=>?_,rfl,ml.push,fun b o g=>?_⟩
   ·rcases List.mem_append.mp hz with h | h
    ·exact hp z (by simp [h])
    ·exact hu z h
   ·have:b≠L:=gnn g hL
    rw [up_ne this]
    exact (le3.trans (.new hp2)) b o g
def spCe (K:PySem.W.Frag):Sp3:=fun ts Γ Z _=>∃ (a:Addr) (ns:List Int) (k:Int),ts=[.scr K a (ns.map T.int),.int k]∧0≤k∧∀ c:Int,Z (.int c) Γ
theorem ok_cell3 (F:Fun K "_law_cell_at" "_law_cell_at" s_law_cell_at f fd) (z_len:mg "len" = none):FnOk P w K mg base CX0 1 f fd ["script","k"] (liSp (spCe K)):=by
 refine okd F sc_law_cell_at (fun ts Γ Z Y h=>?_) (fun cdv A outer s H E ts Γ Z Y hr h=>?_)
 ·obtain ⟨a,ns,k,rfl,_⟩:=h
  rfl
 obtain ⟨a,ns,k,rfl,k0,q⟩:=h
 refine ⟨_,(qss_cons (qs_if (qt_cmpR oq_lt (qv 1) (qe_callB cq_lenC rfl z_len PySem.boot_len (qa_cons (qv 0) qa_nil)) (nomark _)) (qss_cons (qs_ret (qe_ixC (qv 0) (qv 1) (fun _ _=>rfl)))
  qss_nil) qss_nil)
  (qss_cons (qs_ret qe_int)
  qss_nil)),?_⟩
 simp only [start3]
 and_intros
 refine ⟨a,_,rfl,?_⟩
 and_intros
 refine c_if (fun c=>?_) (fun c=>?_)
 ·have c:=of_decide_eq_true c
  rw [List.length_map] at c
  and_intros
  obtain ⟨j,rfl⟩:∃ j:Nat,k=j:=⟨k.toNat,by omega⟩
  have hk:j < ns.length:=by omega
  have e:atI (ns.map T.int) (j:Int)=some (.int ns[j]):=atI_nat (by simp [hk])
  refine ⟨a,_,_,_,rfl,rfl,e,?_⟩
  exact drop0 .refl (q _)
 ·and_intros
  exact drop0 .refl (q _)
def spFw:Sp3:=fun ts Γ Z _=>∃ c:Int,ts=[.int c]∧∀ (a:Addr) (Γ':Gp),Γ a=none→FlowAt Γ' a→Fr [a] Γ Γ'→Z (.ref a) Γ'
theorem br_flow {k:Nat} (c:Callee P w K mg base "_law_flow" k ["cell"] spFlow):Cl3 P w K mg base "_law_flow" k ["cell"] spFw:=
 c.imp fun vs H Q E ⟨ts,Γ,Z,Y,r,hr,⟨c,e,q⟩,vr,xr⟩=>by
  subst e
  obtain ⟨v,rfl,r1⟩:=rs1 r
  refine ⟨c,by rw [i_int r1],fun a H' ha sm fl=>?_⟩
  obtain ⟨f0,f1,f2,e',b'⟩:=fl
  have g:=hr.free ha
  have tq:Tq H H':=tq_kp sm
  refine vr _ _ H' (up Γ a (.lst [.int f0,.int f1,.int f2])) ⟨tq,fun x h z=>?_,fun x h g'=>?_,fun x o h _=>sm x o h⟩ (fun x o g'=>?_) r_ref (q a _ g ⟨f0,f1,f2,up_same,b'⟩ (Fr.set (by simp) _))
  ·cases e:H x with
   | none=>exact h e
   | some o=>exact (by rw [sm x o e] at z; cases z)
  ·have:x≠a:=fun z=>h (by rw [z]; exact ha)
   rw [up_ne this]; exact g'
  ·by_cases z:x=a
   ·subst z; rw [up_same] at g'; cases g'; exact ⟨_,e',rs_of_ints [f0,f1,f2]⟩
   ·rw [up_ne z] at g'; exact (hr x o g').mono tq (sm x)
theorem no_calls {ps:List Str} {sp:Sp} {k:Nat} (no:∀ vs H Q E,¬ sp vs H Q E):FnOk P w K mg base CX0 k f fd ps sp:=
 ⟨fun vs H Q E h=>absurd h (no vs H Q E),fun A outer s H args us vs Q E _ _ _ _ h=>absurd h (no vs H Q E)⟩
theorem kind_all (F:Fun K "_law_kind" "_law_kind" s_law_kind f fd) (m:mg "_law_kind" = some (.ref f)) (kp:PySem.W.keepIn K (.ref f)=true) (b:Binds K fd ["flow","depth","room"] [])
  (C4:Callee P w K mg base "_law_draw" 1 ["flow","many"] spDraw) (C5:Callee P w K mg base "_law_name" 2 ["flow","taken"] spName) (z_range:mg "range" = none) (z_tuple:mg "tuple" = none) :
  ∀ n:Nat,Callee P w K mg base "_law_kind" (2+n) ["flow","depth","room"] (spKind n)
 | 0=>⟨f,fd,no_calls fun vs H Q E h=>by obtain ⟨_,_,d,_,_,_,h1,h2,_⟩:=h; have h3:d < 0:=h2; omega,m,kp,b⟩
 | n+1=>⟨f,fd,ok_kind F C4 C5 (kind_all F m kp b C4 C5 z_range z_tuple n) z_range z_tuple,m,kp,b⟩
theorem leaves_all (F:Fun K "_law_leaves" "_law_leaves" s_law_leaves f fd) (m:mg "_law_leaves" = some (.ref f)) (kp:PySem.W.keepIn K (.ref f)=true) (b:Binds K fd ["kind"] []) (z_sum:mg "sum" = none) :
  ∀ n:Nat,Cl3 P w K mg base "_law_leaves" n ["kind"] (spLv n)
 | 0=>⟨f,fd,noC fun ts Γ Z Y h=>by obtain ⟨k,_,_,h,_⟩:=h; omega,m,kp,b⟩
 | n+1=>⟨f,fd,ok_leaves F (leaves_all F m kp b z_sum n) z_sum,m,kp,b⟩
theorem worth_all (F:Fun K "_law_worth" "_law_worth" s_law_worth f fd) (m:mg "_law_worth" = some (.ref f)) (kp:PySem.W.keepIn K (.ref f)=true) (b:Binds K fd ["flow","kind","room"] [])
  (C1:Cl3 P w K mg base "_law_draw" 1 ["flow","many"] spDr) (C2:Cl3 P w K mg base "_law_number" 2 ["flow","width"] spNm)
  (C3:Cl3 P w K mg base "_law_many" 2 ["flow"] spMn) (C4:Cl3 P w K mg base "_law_sign" 2 ["flow"] spSg) (C5:Cl3 P w K mg base "_law_leaves" 13 ["kind"] (spLv 13))
  (z_min:mg "min" = none) (z_max:mg "max" = none) (z_range:mg "range" = none) (z_tuple:mg "tuple" = none) (z_len:mg "len" = none) :
  ∀ n:Nat,Cl3 P w K mg base "_law_worth" (17+n) ["flow","kind","room"] (spWo n)
 | 0=>⟨f,fd,noC fun ts Γ Z Y h=>by obtain ⟨_,_,k,_,_,_,_,h,_⟩:=h; omega,m,kp,b⟩
 | n+1=>⟨f,fd,ok_worth F (worth_all F m kp b C1 C2 C3 C4 C5 z_min z_max z_range z_tuple z_len n) C1 C2 C3 C4 (C5.mono (Nat.le_trans (by decide:13≤17) (Nat.le_add_right _ _))) (Nat.le_trans (by decide:2≤17) (Nat.le_add_right _ _)) z_min z_max z_range z_tuple z_len,m,kp,b⟩
theorem size_all (F:Fun K "_law_size" "_law_size" s_law_size f fd) (m:mg "_law_size" = some (.ref f)) (kp:PySem.W.keepIn K (.ref f)=true) (b:Binds K fd ["kind"] []) (z_max:mg "max" = none) :
  ∀ n:Nat,Cl3 P w K mg base "_law_size" n ["kind"] (spSz n)
 | 0=>⟨f,fd,noC fun ts Γ Z Y h=>by obtain ⟨k,_,_,h,_⟩:=h; omega,m,kp,b⟩
 | n+1=>⟨f,fd,ok_size F (size_all F m kp b z_max n) z_max,m,kp,b⟩
theorem pic_all (F:Fun K "_law_picture" "_law_picture" s_law_picture f fd) (m:mg "_law_picture" = some (.ref f)) (kp:PySem.W.keepIn K (.ref f)=true) (b:Binds K fd ["laying","kind","worth"] []) (C1:Cl3 P w K mg base "_law_places" 1 ["laying","fields"] spPl) (C2:Cl3 P w K mg base "_law_size" 6 ["kind"] (spSz 6)) (z_tuple:mg "tuple" = none) (z_len:mg "len" = none) (z_ord:mg "ord" = none) :
  ∀ n:Nat,Cl3 P w K mg base "_law_picture" (n+7) ["laying","kind","worth"] (spPc n)
 | 0=>⟨f,fd,noC fun ts Γ Z Y h=>by obtain ⟨_,k,_,_,_,h,_⟩:=h; omega,m,kp,b⟩
 | n+1=>⟨f,fd,by rw [show n+1+7=n+7+1 by omega]; exact ok_picture F (pic_all F m kp b C1 C2 z_tuple z_len z_ord n) C1 C2 z_tuple z_len z_ord,m,kp,b⟩
theorem sizeof_all (F:Fun K "size_of" "size_of" s_size_of f fd) (m:mg "size_of" = some (.ref f)) (kp:PySem.W.keepIn K (.ref f)=true) (b:Binds K fd ["kind"] []) (z_sum:mg "sum" = none) (z_max:mg "max" = none) :
  ∀ n:Nat,Cl3 P w K mg base "size_of" n ["kind"] (spSo n)
 | 0=>⟨f,fd,noC fun ts Γ Z Y h=>by obtain ⟨k,_,_,h,_⟩:=h; omega,m,kp,b⟩
 | n+1=>⟨f,fd,ok_size_of F (sizeof_all F m kp b z_sum z_max n) z_sum z_max,m,kp,b⟩
theorem picture_all {f2 f3 f4:Addr} {fd2 fd3 fd4:FuncData} (F:Fun K "picture" "picture" s_picture f fd) (m:mg "picture" = some (.ref f)) (kp:PySem.W.keepIn K (.ref f)=true) (b:Binds K fd ["laying","kind","worth"] [])
  (F_row_entry:Fun K "row_entry" "row_entry" s_row_entry f2 fd2) (m_row_entry:mg "row_entry" = some (.ref f2)) (kp_row_entry:PySem.W.keepIn K (.ref f2)=true) (b_row_entry:Binds K fd2 ["laying","kind","items"] [])
  (F_record_picture:Fun K "record_picture" "record_picture" s_record_picture f3 fd3) (m_record_picture:mg "record_picture" = some (.ref f3)) (kp_record_picture:PySem.W.keepIn K (.ref f3)=true) (b_record_picture:Binds K fd3 ["laying","fields","parts"] [])
  (F_choice_picture:Fun K "choice_picture" "choice_picture" s_choice_picture f4 fd4) (m_choice_picture:mg "choice_picture" = some (.ref f4)) (kp_choice_picture:PySem.W.keepIn K (.ref f4)=true) (b_choice_picture:Binds K fd4 ["laying","kind","pair"] [])
  (C1:Cl3 P w K mg base "joined" 1 ["pictures"] spJo) (C2:Cl3 P w K mg base "in_order" 6 ["laying","fields"] (spIo pT)) (C3:Cl3 P w K mg base "size_of" 6 ["kind"] (spSo 6)) (C4:Cl3 P w K mg base "words_of_number" 1 ["halves","width","number"] spWn) (C5:Cl3 P w K mg base "words_of_text" 1 ["texts","text"] spWt)
  (z_len:mg "len" = none) (z_reversed:mg "reversed" = none) (z_zip:mg "zip" = none) :
  ∀ n:Nat,Cl3 P w K mg base "picture" (n+n+6) ["laying","kind","worth"] (spPi pT n)
 | 0=>⟨f,fd,noC fun ts Γ Z Y h=>by obtain ⟨_,k,_,_,_,h,_⟩:=h; omega,m,kp,b⟩
 | n+1=>by
  have ih:=picture_all F m kp b F_row_entry m_row_entry kp_row_entry b_row_entry F_record_picture m_record_picture kp_record_picture b_record_picture F_choice_picture m_choice_picture kp_choice_picture b_choice_picture C1 C2 C3 C4 C5 z_len z_reversed z_zip n
  have D1:Cl3 P w K mg base "row_entry" (n+n+6+1) ["laying","kind","items"] (spRe pT n):=⟨f2,fd2,ok_row_entry F_row_entry ih C1 (by omega) z_len z_reversed,m_row_entry,kp_row_entry,b_row_entry⟩
  have D2:Cl3 P w K mg base "record_picture" (n+n+6+1) ["laying","fields","parts"] (spRc pT n):=⟨f3,fd3,ok_record_picture F_record_picture ih C1 C2 (by omega) z_zip,m_record_picture,kp_record_picture,b_record_picture⟩
  have D3:Cl3 P w K mg base "choice_picture" (n+n+6+1) ["laying","kind","pair"] (spCh pT n):=⟨f4,fd4,ok_choice_picture F_choice_picture ih C3 C2 (by omega) z_len,m_choice_picture,kp_choice_picture,b_choice_picture⟩
  exact ⟨f,fd,by rw [show n+1+(n+1)+6=n+n+6+1+1 by omega]; exact ok_picture0 F D1 D2 D3 C4 C5,m,kp,b⟩
end
theorem LamG.fr {pT a:Addr} {Γ Γ':Gp} (g:LamG pT Γ) (fl:FlowAt Γ a) (k:Fr [a] Γ Γ'):LamG pT Γ':=by
 obtain ⟨f0,f1,f2,e,_⟩:=fl
 show Γ' pT=_
 rw [k pT (by intro z; rw [List.mem_singleton.mp z] at g; have g:Γ a=_:=g; rw [e] at g; cases g)]
 exact g
theorem LamG.fresh {pT a:Addr} {Γ Γ':Gp} (g:LamG pT Γ) (h:Γ a=none) (k:Fr [a] Γ Γ'):LamG pT Γ':=by
 show Γ' pT=_
 rw [k pT (by intro z; rw [List.mem_singleton.mp z] at g; have g:Γ a=_:=g; rw [h] at g; cases g)]
 exact g
def Ly.flip (L:Ly):Nat→Ly
 | 0=>{ L with hi:=!L.hi }
 | 1=>{ L with en:=!L.en }
 | 2=>{ L with ch:=!L.ch }
 | _=>{ L with na:=!L.na }
def words4:List (Str×Str):=[("high","low"),("end","count"),("chain","array"),("names","told")]
theorem flip_tr (L:Ly):∀ {j:Nat},j < 4→∃ (w:Str×Str) (z:Str),words4[j]? = some w∧([L.s1,L.s2,L.s3,L.s4]:List Str)[j]? = some z ∧
  (L.flip j).tr=.tup ((([L.s1,L.s2,L.s3,L.s4]:List Str).take j++[if z=w.1 then w.2 else w.1]++([L.s1,L.s2,L.s3,L.s4]:List Str).drop (j+1)).map T.str)
 | 0,_=>⟨_,_,rfl,rfl,by obtain ⟨a,b,c,d⟩:=L; cases a <;> rfl⟩
 | 1,_=>⟨_,_,rfl,rfl,by obtain ⟨a,b,c,d⟩:=L; cases b <;> rfl⟩
 | 2,_=>⟨_,_,rfl,rfl,by obtain ⟨a,b,c,d⟩:=L; cases c <;> rfl⟩
 | 3,_=>⟨_,_,rfl,rfl,by obtain ⟨a,b,c,d⟩:=L; cases d <;> rfl⟩
theorem cut_from {α:Type} {xs:List α} {n:Nat}:cutN xs (some (n:Int)) none=xs.drop n:=by
 unfold cutN HT.sIx
 simp only
 rw [if_neg (by omega),Int.toNat_natCast,List.take_of_length_le (by rw [List.length_drop]; omega)]
 by_cases h:n≤xs.length
 ·rw [Nat.min_eq_left h]
 ·rw [Nat.min_eq_right (by omega),List.drop_length,List.drop_eq_nil_of_le (by omega)]
section
variable {P:Program} {w:World} {K:PySem.W.Frag} {mg:Str→Option Value} {base:Heap} {f:Addr} {fd:FuncData} {v1 v2 v3:Value} {pT:Addr}
abbrev s_law_right:Stmt:=top 32
theorem sc_law_right:FnScope ["flow","laying","at","kind","worth","word","other","one"] ["flow"] (defScope s_law_right):=⟨rfl,rfl,rfl,by decide +kernel,rfl,by decide +kernel,by decide +kernel⟩
def spRight (pT:Addr):Sp3:=fun ts Γ Z _=>∃ a:Addr,ts=[.ref a]∧FlowAt Γ a∧LamG pT Γ∧∀ Γ',LamG pT Γ'→Z (.bl true) Γ'
theorem ok_right (F:Fun K "_law_right" "_law_right" s_law_right f fd) (c_law_laying:Cl3 P w K mg base "_law_laying" 2 ["flow"] spLay) (c_law_draw:Cl3 P w K mg base "_law_draw" 1 ["flow","many"] spDr) (c_law_thing:Cl3 P w K mg base "_law_thing" 31 ["flow","room"] spTh) (c_picture:Cl3 P w K mg base "picture" 18 ["laying","kind","worth"] (spPi pT 6)) (c_law_picture:Cl3 P w K mg base "_law_picture" 13 ["laying","kind","worth"] (spPc 6)) (c_law_same:Cl3 P w K mg base "_law_same" 1 ["found","due"] spSame) (z_int:mg "int" = none):FnOk P w K mg base CX0 32 f fd ["flow"] (liSp (spRight pT)):=by
 refine okd F sc_law_right (fun ts Γ Z Y h=>?_) (fun cdv A outer s H E ts Γ Z Y hr h=>?_)
 ·obtain ⟨a,rfl,_⟩:=h
  rfl
 obtain ⟨a,rfl,fl,gl,q⟩:=h
 refine ⟨_,(qss_cons (qs_set (i:=1) sc_law_right.nd rfl (Or.inl rfl) (qe_call c_law_laying hr (by omega) rfl (qa_cons (qv 0) qa_nil)))
  (qss_cons (qs_set (i:=2) sc_law_right.nd rfl (Or.inl rfl) (qe_call c_law_draw hr (by omega) rfl (qa_cons (qv 0) (qa_cons qe_int qa_nil))))
  (qss_cons (qs_asg (qe_call c_law_thing hr (by omega) rfl (qa_cons (qv 0) (qa_cons qe_int qa_nil))) (qg_tup (n:=2) rfl (qgs_cons (qg_name (i:=3) sc_law_right.nd rfl (Or.inl rfl)) (qgs_cons (qg_name (i:=4) sc_law_right.nd rfl (Or.inl rfl)) qgs_nil))))
  (qss_cons (qs_set (i:=5) sc_law_right.nd rfl (Or.inl rfl) (qe_ix (qe_lst (qa_cons (qe_tup (qa_cons qe_str (qa_cons qe_str qa_nil))) (qa_cons (qe_tup (qa_cons qe_str (qa_cons qe_str qa_nil))) (qa_cons (qe_tup (qa_cons qe_str (qa_cons qe_str qa_nil))) (qa_cons (qe_tup (qa_cons qe_str (qa_cons qe_str qa_nil))) qa_nil))))) (qv 2) (fun _ _=>rfl)))
  (qss_cons (qs_set (i:=6) sc_law_right.nd rfl (Or.inl rfl) (qe_op oq_cat (qe_op oq_cat (qe_slice sq_tup (qv 1) qo_none (qo_some (qv 2))) (qe_tup (qa_cons (qe_ix (qv 5) (qe_callTy cq_intB rfl z_int bt_int (qa_cons (qe_cmpR oq_eq (qe_ix (qv 1) (qv 2) (fun _ _=>rfl)) (qe_ix (qv 5) qe_int (fun _ _=>rfl)) (nomark _)) qa_nil)) (fun _ _=>rfl)) qa_nil))) (qe_slice sq_tup (qv 1) (qo_some (qe_op oq_add (qv 2) qe_int)) qo_none)))
  (qss_cons (qs_for PassesOwn.never rfl (qi_list (qe_lst (qa_cons (qv 1) (qa_cons (qv 6) qa_nil)))) (qg_name (i:=7) sc_law_right.nd rfl (Or.inl rfl)) (qss_cons (qs_if (qt_not (qt_val (qe_call c_law_same hr (by omega) rfl (qa_cons (qe_call c_picture hr (by omega) rfl (qa_cons (qv 7) (qa_cons (qv 3) (qa_cons (qv 4) qa_nil)))) (qa_cons (qe_call c_law_picture hr (by omega) rfl (qa_cons (qv 7) (qa_cons (qv 3) (qa_cons (qv 4) qa_nil)))) qa_nil))))) (qss_cons (qs_ret qe_bl)
  qss_nil) qss_nil)
  qss_nil))
  (qss_cons (qs_ret qe_bl)
  qss_nil))))))),?_⟩
 simp only [start3]
 and_intros
 refine ⟨a,rfl,fl,fun L Γ1 fl1 k1=>?_⟩
 have gl1:=gl.fr fl k1
 and_intros
 refine ⟨a,4,rfl,fl1,by decide,by decide,fun at_ Γ2 a0 a4 fl2 k2=>?_⟩
 have gl2:=gl1.fr fl1 k2
 obtain ⟨j,rfl⟩:∃ j:Nat,at_=j:=⟨at_.toNat,by omega⟩
 have hj:j < 4:=by omega
 and_intros
 refine ⟨a,70,rfl,fl2,fun k u Γ3 kg kd hu fl3 k3=>?_⟩
 have gl3:=gl2.fr fl2 k3
 and_intros
 intro p hp
 obtain ⟨wd,z,hw,hz,ef⟩:=flip_tr L hj
 and_intros
 refine t_ixR up_same (atI_nat (v:=.tup [.str wd.1,.str wd.2]) (by show (words4.map fun w=>T.tup [T.str w.1,T.str w.2])[j]? = _; rw [List.getElem?_map,hw]; rfl)) ?_
 have eL:L.tr=.tup (([L.s1,L.s2,L.s3,L.s4]:List Str).map T.str):=rfl
 and_intros
 refine ⟨_,eL,?_⟩
 rw [cut_take (by omega),Int.toNat_natCast]
 and_intros
 refine ⟨_,j,_,by rw [eL]; rfl,rfl,atI_nat (v:=.str z) (by rw [List.getElem?_map,hz]; rfl),?_⟩
 and_intros
 refine ⟨_,rfl,?_⟩
 have hx:atI [T.str wd.1,T.str wd.2] (if decide (V.str z=V.str wd.1)=true then 1 else 0)=some (.str (if z=wd.1 then wd.2 else wd.1)):=by
  by_cases e:z=wd.1
  ·rw [if_pos e,if_pos (decide_eq_true (by rw [e]))]; exact at1
  ·rw [if_neg e,if_neg (by simpa using e)]; exact at0
 refine t_ixT hx ?_
 and_intros
 have l4:(([L.s1,L.s2,L.s3,L.s4]:List Str).map T.str).length=4:=rfl
 refine t_cat (Nat.le_of_lt (small1000 (by rw [List.length_take,l4]; show min j 4+1≤_; omega))) ?_
 and_intros
 refine ⟨_,eL,?_⟩
 have ej:(j:Int)+1=((j+1:Nat):Int):=by omega
 rw [ej,cut_from]
 refine t_cat (Nat.le_of_lt (small1000 (by rw [List.length_append,List.length_take,List.length_drop,l4]; show min j 4+1+(4-(j+1))≤_; omega))) ?_
 have eo:T.tup (List.take j (([L.s1,L.s2,L.s3,L.s4]:List Str).map T.str)++[T.str (if z=wd.1 then wd.2 else wd.1)]++List.drop (j+1) (([L.s1,L.s2,L.s3,L.s4]:List Str).map T.str))=(L.flip j).tr:=by rw [ef,List.map_append,List.map_append,List.map_take,List.map_drop]; rfl
 rw [eo]
 generalize L.flip j=L2
 and_intros
 intro p2 hp2
 refine ⟨p2,_,rfl,it3_l up_same,?_⟩
 have gl5:LamG pT (up (up Γ3 p (.lst (words4.map fun w=>T.tup [T.str w.1,T.str w.2]))) p2 (.lst [L.tr,L2.tr])):=(gl3.new hp).new hp2
 refine ⟨fun rest τ Γ'=>∃ (Ls:List Ly) (o7:Option T),rest=Ls.map Ly.tr∧τ=[some (.ref a),some L.tr,some (.int (j:Nat)),some k.tr,some u,some (.tup [.str wd.1,.str wd.2]),some L2.tr,o7]∧up (up Γ3 p (.lst (words4.map fun w=>T.tup [T.str w.1,T.str w.2]))) p2 (.lst [L.tr,L2.tr])=Γ',⟨[L,L2],none,rfl,rfl,rfl⟩,?_,?_⟩
 ·rintro τ Γ' ⟨Ls,o7,er,rfl,rfl⟩
  refine ⟨it3_l up_same,?_⟩
  and_intros
  exact drop0 .refl (q _ gl5)
 ·rintro x r τ Γ' ⟨Ls,o7,er,rfl,rfl⟩
  cases Ls with
  | nil=>cases er
  | cons M Ls=>
   cases er
   refine ⟨it3_l up_same,?_⟩
   have ok:=pk_ok M hu kg kd
   have sm:=sK_max kg kd
   and_intros
   refine ⟨M,k,u,rfl,kg,by omega,kd,hu,gl5,?_⟩
   and_intros
   refine ⟨M,k,u,rfl,kg,by omega,kd,hu,?_⟩
   and_intros
   refine ⟨_,rfl,(Pc.tup ok.pc).pl,?_,?_⟩
   ·rw [sd_tup,ok.len,sizeLine_eq]
    have:=ok.sd
    omega
   and_intros
   exact ⟨Ls,_,rfl,rfl,rfl⟩
abbrev s_law:Stmt:=top 33
theorem sc_law:FnScope ["script","k"] ["script"] (defScope s_law):=⟨rfl,rfl,rfl,by decide +kernel,rfl,by decide +kernel,by decide +kernel⟩
def spLaw3 (K:PySem.W.Frag) (pT:Addr):Sp3:=fun ts Γ Z _=>∃ (a:Addr) (ns:List Int),ts=[.scr K a (ns.map T.int)]∧ns.length≤63∧LamG pT Γ∧∀ Γ',Z (.bl true) Γ'
theorem ok_law3 (F:Fun K "law" "law" s_law f fd) (c_law_right:Cl3 P w K mg base "_law_right" 32 ["flow"] (spRight pT)) (c_law_flow:Cl3 P w K mg base "_law_flow" 1 ["cell"] spFw) (c_law_cell_at:Cl3 P w K mg base "_law_cell_at" 1 ["script","k"] (spCe K))
  (z_range:mg "range" = none) (z_max:mg "max" = none) (z_min:mg "min" = none) (z_len:mg "len" = none):FnOk P w K mg base CX0 33 f fd ["script"] (liSp (spLaw3 K pT)):=by
 refine okd F sc_law (fun ts Γ Z Y h=>?_) (fun cdv A outer s H E ts Γ Z Y hr h=>?_)
 ·obtain ⟨a,ns,rfl,_⟩:=h
  rfl
 obtain ⟨a,ns,rfl,h63,gl,q⟩:=h
 refine ⟨_,(qss_cons (qs_for PassesOwn.never rfl (qi_range1 rfl z_range (qa_cons (qe_callB (cq_max2 rfl) rfl z_max PyProof.Rows.boot_max (qa_cons qe_int (qa_cons (qe_callB (cq_min2 rfl) rfl z_min PyProof.Rows.boot_min (qa_cons (qe_callB cq_lenC rfl z_len PySem.boot_len (qa_cons (qv 0) qa_nil)) (qa_cons qe_int qa_nil))) qa_nil))) qa_nil)) (qg_name (i:=1) sc_law.nd rfl (Or.inl rfl)) (qss_cons (qs_if (qt_not (qt_val (qe_call c_law_right hr (by omega) rfl (qa_cons (qe_call c_law_flow hr (by omega) rfl (qa_cons (qe_call c_law_cell_at hr (by omega) rfl (qa_cons (qv 0) (qa_cons (qv 1) qa_nil))) qa_nil)) qa_nil)))) (qss_cons (qs_ret qe_bl)
  qss_nil) qss_nil)
  qss_nil))
  (qss_cons (qs_ret qe_bl)
  qss_nil)),?_⟩
 simp only [start3]
 and_intros
 refine ⟨a,_,rfl,?_⟩
 rw [List.length_map]
 and_intros
 refine ⟨_,rfl,by split <;> split <;> omega,by split <;> split <;> omega,?_⟩
 refine ⟨fun rest τ Γ'=>∃ (lo:Int) (c:Nat) (o:Option T),rest=rngT lo c∧0≤lo∧τ=[some (.scr K a (ns.map T.int)),o]∧LamG pT Γ',⟨0,_,none,rfl,by omega,rfl,gl⟩,?_,?_⟩
 ·rintro τ Γ' ⟨lo,c,o,e,l0,rfl,gl⟩
  refine ⟨trivial,?_⟩
  and_intros
  exact drop0 .refl (q _)
 ·rintro x r τ Γ' ⟨lo,c,o,e,l0,rfl,gl⟩
  obtain ⟨c',rfl,rfl,rfl⟩:=rngT_cons e
  and_intros
  refine ⟨a,ns,lo,rfl,l0,fun cl=>?_⟩
  and_intros
  refine ⟨cl,rfl,fun b Γ2 hb fl2 fr2=>?_⟩
  and_intros
  refine ⟨b,rfl,fl2,gl.fresh hb fr2,fun Γ3 gl3=>?_⟩
  and_intros
  exact ⟨lo+1,c',_,rfl,by omega,rfl,gl3⟩
end
def spLaw (K:PySem.W.Frag) (pT:Addr):Sp:=fun vs H Q _=>∃ (a:Addr) (ns:List Int),vs=[.ref a]∧OnlyL pT H∧SqL K H a (ns.map V.int)∧ns.length≤63∧∀ H',Q (.bl true) H'
theorem law_dn {K:PySem.W.Frag} {pT:Addr} (vs:List V) (H:Hp) (Q:VK) (E:XK) (h:spLaw K pT vs H Q E):liSp (spLaw3 K pT) vs H Q E:=by
 obtain ⟨a,ns,rfl,hO,hS,h63,q⟩:=h
 have sc:SqC K H a (ns.map V.int):=by
  rcases hS with (h | ⟨o,h⟩) | h
  ·by_cases e:a=pT
   ·rw [e,hO.1] at h; cases h
   rcases hO.2 a e with z | ⟨o,xs,z⟩
   ·rw [h] at z; cases z
   ·rw [h] at z; cases z
  ·exact .inl ⟨o,h⟩
  ·exact .inr h
 refine ⟨[.scr K a (ns.map T.int)],fun b=>if b=pT then some (.lam qIO (lamPos s_in_order)) else none,fun x _=>x=.bl true,fun _ _=>False,rs_cons (r_scr sc (rs_of_ints ns)) rs_nil,fun b o h=>?_,⟨a,ns,rfl,h63,if_pos rfl,fun _=>rfl⟩,fun v x H' Γ' _ _ r z=>?_,fun _ _ _ _ _ z=>z.elim⟩
 ·by_cases e:b=pT
  ·subst e
   have h':=(if_pos rfl).symm.trans h
   cases h'
   exact .inl hO.1
  ·have h':=(if_neg e).symm.trans h
   cases h'
 ·subst z
  rw [i_bl r]
  exact q H'
theorem all_mk {l:PySem.W.OpenLaw} {w:World} {K:PySem.W.Frag} {h:Heap} {mg:Str→Option Value} {fa f1 f2 f3 f4 f5 f6 f7 f8 f9 f10 f11 f12 f13 f14 f15 f16 f17 f18 f19 f20 f21 f22 f23 f24 f25 f26 f27 f28:Addr} (X:K.In h) (G:h.Ns mainGlobals mg) (hfa:mg "law" = some (.ref fa))
  {od1 an1 od2 an2 od3 an3 od4 an4 od5 an5 od6 an6 od7 an7 od8 an8 od9 an9 od10 an10 od11 an11 od12 an12 od13 an13 od14 an14 od15 an15 od16 an16 od17 an17 od18 an18 od19 an19 od20 an20 od21 an21 od22 an22 od23 an23 od24 an24 od25 an25 od26 an26 od27 an27 od28 an28:Option Addr} {sl1 sl2 sl3 sl4 sl5 sl6 sl7 sl8 sl9 sl10 sl11 sl12 sl13 sl14 sl15 sl16 sl17 sl18 sl19 sl20 sl21 sl22 sl23 sl24 sl25 sl26 sl27 sl28:Array (Option Value)} {oc1 kV1 dc1 pm1 cd1 ct1 oc2 kV2 dc2 pm2 cd2 ct2 oc3 kV3 dc3 pm3 cd3 ct3 oc4 kV4 dc4 pm4 cd4 ct4 oc5 kV5 dc5 pm5 cd5 ct5 oc6 kV6 dc6 pm6 cd6 ct6 oc7 kV7 dc7 pm7 cd7 ct7 oc8 kV8 dc8 pm8 cd8 ct8 oc9 kV9 dc9 pm9 cd9 ct9 oc10 kV10 dc10 pm10 cd10 ct10 oc11 kV11 dc11 pm11 cd11 ct11 oc12 kV12 dc12 pm12 cd12 ct12 oc13 kV13 dc13 pm13 cd13 ct13 oc14 kV14 dc14 pm14 cd14 ct14 oc15 kV15 dc15 pm15 cd15 ct15 oc16 kV16 dc16 pm16 cd16 ct16 oc17 kV17 dc17 pm17 cd17 ct17 oc18 kV18 dc18 pm18 cd18 ct18 oc19 kV19 dc19 pm19 cd19 ct19 oc20 kV20 dc20 pm20 cd20 ct20 oc21 kV21 dc21 pm21 cd21 ct21 oc22 kV22 dc22 pm22 cd22 ct22 oc23 kV23 dc23 pm23 cd23 ct23 oc24 kV24 dc24 pm24 cd24 ct24 oc25 kV25 dc25 pm25 cd25 ct25 oc26 kV26 dc26 pm26 cd26 ct26 oc27 kV27 dc27 pm27 cd27 ct27 oc28 kV28 dc28 pm28 cd28 ct28:Value}
  (a1:PySem.W.nsIn K mainGlobals "size_of" = some (some (.ref f1))) (l1:K.lookup f1=some ⟨oc1,od1,.func (PySem.W.fnOf "size_of" "size_of" (defArgs s_size_of) (defBody s_size_of) (defScope s_size_of) .none kV1 dc1 pm1 an1 cd1 ct1),sl1⟩) (c1:PySem.W.codeIn K cd1 "size_of" = true) (k1:PySem.W.keepIn K (.ref f1)=true)
  (a2:PySem.W.nsIn K mainGlobals "in_order" = some (some (.ref f2))) (l2:K.lookup f2=some ⟨oc2,od2,.func (PySem.W.fnOf "in_order" "in_order" (defArgs s_in_order) (defBody s_in_order) (defScope s_in_order) .none kV2 dc2 pm2 an2 cd2 ct2),sl2⟩) (c2:PySem.W.codeIn K cd2 "in_order" = true) (k2:PySem.W.keepIn K (.ref f2)=true)
  (a3:PySem.W.nsIn K mainGlobals "words_of_number" = some (some (.ref f3))) (l3:K.lookup f3=some ⟨oc3,od3,.func (PySem.W.fnOf "words_of_number" "words_of_number" (defArgs s_words_of_number) (defBody s_words_of_number) (defScope s_words_of_number) .none kV3 dc3 pm3 an3 cd3 ct3),sl3⟩) (c3:PySem.W.codeIn K cd3 "words_of_number" = true) (k3:PySem.W.keepIn K (.ref f3)=true)
  (a4:PySem.W.nsIn K mainGlobals "words_of_text" = some (some (.ref f4))) (l4:K.lookup f4=some ⟨oc4,od4,.func (PySem.W.fnOf "words_of_text" "words_of_text" (defArgs s_words_of_text) (defBody s_words_of_text) (defScope s_words_of_text) .none kV4 dc4 pm4 an4 cd4 ct4),sl4⟩) (c4:PySem.W.codeIn K cd4 "words_of_text" = true) (k4:PySem.W.keepIn K (.ref f4)=true)
  (a5:PySem.W.nsIn K mainGlobals "picture" = some (some (.ref f5))) (l5:K.lookup f5=some ⟨oc5,od5,.func (PySem.W.fnOf "picture" "picture" (defArgs s_picture) (defBody s_picture) (defScope s_picture) .none kV5 dc5 pm5 an5 cd5 ct5),sl5⟩) (c5:PySem.W.codeIn K cd5 "picture" = true) (k5:PySem.W.keepIn K (.ref f5)=true)
  (a6:PySem.W.nsIn K mainGlobals "row_entry" = some (some (.ref f6))) (l6:K.lookup f6=some ⟨oc6,od6,.func (PySem.W.fnOf "row_entry" "row_entry" (defArgs s_row_entry) (defBody s_row_entry) (defScope s_row_entry) .none kV6 dc6 pm6 an6 cd6 ct6),sl6⟩) (c6:PySem.W.codeIn K cd6 "row_entry" = true) (k6:PySem.W.keepIn K (.ref f6)=true)
  (a7:PySem.W.nsIn K mainGlobals "record_picture" = some (some (.ref f7))) (l7:K.lookup f7=some ⟨oc7,od7,.func (PySem.W.fnOf "record_picture" "record_picture" (defArgs s_record_picture) (defBody s_record_picture) (defScope s_record_picture) .none kV7 dc7 pm7 an7 cd7 ct7),sl7⟩) (c7:PySem.W.codeIn K cd7 "record_picture" = true) (k7:PySem.W.keepIn K (.ref f7)=true)
  (a8:PySem.W.nsIn K mainGlobals "choice_picture" = some (some (.ref f8))) (l8:K.lookup f8=some ⟨oc8,od8,.func (PySem.W.fnOf "choice_picture" "choice_picture" (defArgs s_choice_picture) (defBody s_choice_picture) (defScope s_choice_picture) .none kV8 dc8 pm8 an8 cd8 ct8),sl8⟩) (c8:PySem.W.codeIn K cd8 "choice_picture" = true) (k8:PySem.W.keepIn K (.ref f8)=true)
  (a9:PySem.W.nsIn K mainGlobals "joined" = some (some (.ref f9))) (l9:K.lookup f9=some ⟨oc9,od9,.func (PySem.W.fnOf "joined" "joined" (defArgs s_joined) (defBody s_joined) (defScope s_joined) .none kV9 dc9 pm9 an9 cd9 ct9),sl9⟩) (c9:PySem.W.codeIn K cd9 "joined" = true) (k9:PySem.W.keepIn K (.ref f9)=true)
  (a10:PySem.W.nsIn K mainGlobals "_law_cell_at" = some (some (.ref f10))) (l10:K.lookup f10=some ⟨oc10,od10,.func (PySem.W.fnOf "_law_cell_at" "_law_cell_at" (defArgs s_law_cell_at) (defBody s_law_cell_at) (defScope s_law_cell_at) .none kV10 dc10 pm10 an10 cd10 ct10),sl10⟩) (c10:PySem.W.codeIn K cd10 "_law_cell_at" = true) (k10:PySem.W.keepIn K (.ref f10)=true)
  (a11:PySem.W.nsIn K mainGlobals "_law_flow" = some (some (.ref f11))) (l11:K.lookup f11=some ⟨oc11,od11,.func (PySem.W.fnOf "_law_flow" "_law_flow" (defArgs s_law_flow) (defBody s_law_flow) (defScope s_law_flow) .none kV11 dc11 pm11 an11 cd11 ct11),sl11⟩) (c11:PySem.W.codeIn K cd11 "_law_flow" = true) (k11:PySem.W.keepIn K (.ref f11)=true)
  (a12:PySem.W.nsIn K mainGlobals "_law_draw" = some (some (.ref f12))) (l12:K.lookup f12=some ⟨oc12,od12,.func (PySem.W.fnOf "_law_draw" "_law_draw" (defArgs s_law_draw) (defBody s_law_draw) (defScope s_law_draw) .none kV12 dc12 pm12 an12 cd12 ct12),sl12⟩) (c12:PySem.W.codeIn K cd12 "_law_draw" = true) (k12:PySem.W.keepIn K (.ref f12)=true)
  (a13:PySem.W.nsIn K mainGlobals "_law_name" = some (some (.ref f13))) (l13:K.lookup f13=some ⟨oc13,od13,.func (PySem.W.fnOf "_law_name" "_law_name" (defArgs s_law_name) (defBody s_law_name) (defScope s_law_name) .none kV13 dc13 pm13 an13 cd13 ct13),sl13⟩) (c13:PySem.W.codeIn K cd13 "_law_name" = true) (k13:PySem.W.keepIn K (.ref f13)=true)
  (a14:PySem.W.nsIn K mainGlobals "_law_kind" = some (some (.ref f14))) (l14:K.lookup f14=some ⟨oc14,od14,.func (PySem.W.fnOf "_law_kind" "_law_kind" (defArgs s_law_kind) (defBody s_law_kind) (defScope s_law_kind) .none kV14 dc14 pm14 an14 cd14 ct14),sl14⟩) (c14:PySem.W.codeIn K cd14 "_law_kind" = true) (k14:PySem.W.keepIn K (.ref f14)=true)
  (a15:PySem.W.nsIn K mainGlobals "_law_sign" = some (some (.ref f15))) (l15:K.lookup f15=some ⟨oc15,od15,.func (PySem.W.fnOf "_law_sign" "_law_sign" (defArgs s_law_sign) (defBody s_law_sign) (defScope s_law_sign) .none kV15 dc15 pm15 an15 cd15 ct15),sl15⟩) (c15:PySem.W.codeIn K cd15 "_law_sign" = true) (k15:PySem.W.keepIn K (.ref f15)=true)
  (a16:PySem.W.nsIn K mainGlobals "_law_number" = some (some (.ref f16))) (l16:K.lookup f16=some ⟨oc16,od16,.func (PySem.W.fnOf "_law_number" "_law_number" (defArgs s_law_number) (defBody s_law_number) (defScope s_law_number) .none kV16 dc16 pm16 an16 cd16 ct16),sl16⟩) (c16:PySem.W.codeIn K cd16 "_law_number" = true) (k16:PySem.W.keepIn K (.ref f16)=true)
  (a17:PySem.W.nsIn K mainGlobals "_law_many" = some (some (.ref f17))) (l17:K.lookup f17=some ⟨oc17,od17,.func (PySem.W.fnOf "_law_many" "_law_many" (defArgs s_law_many) (defBody s_law_many) (defScope s_law_many) .none kV17 dc17 pm17 an17 cd17 ct17),sl17⟩) (c17:PySem.W.codeIn K cd17 "_law_many" = true) (k17:PySem.W.keepIn K (.ref f17)=true)
  (a18:PySem.W.nsIn K mainGlobals "_law_leaves" = some (some (.ref f18))) (l18:K.lookup f18=some ⟨oc18,od18,.func (PySem.W.fnOf "_law_leaves" "_law_leaves" (defArgs s_law_leaves) (defBody s_law_leaves) (defScope s_law_leaves) .none kV18 dc18 pm18 an18 cd18 ct18),sl18⟩) (c18:PySem.W.codeIn K cd18 "_law_leaves" = true) (k18:PySem.W.keepIn K (.ref f18)=true)
  (a19:PySem.W.nsIn K mainGlobals "_law_worth" = some (some (.ref f19))) (l19:K.lookup f19=some ⟨oc19,od19,.func (PySem.W.fnOf "_law_worth" "_law_worth" (defArgs s_law_worth) (defBody s_law_worth) (defScope s_law_worth) .none kV19 dc19 pm19 an19 cd19 ct19),sl19⟩) (c19:PySem.W.codeIn K cd19 "_law_worth" = true) (k19:PySem.W.keepIn K (.ref f19)=true)
  (a20:PySem.W.nsIn K mainGlobals "_law_broad" = some (some (.ref f20))) (l20:K.lookup f20=some ⟨oc20,od20,.func (PySem.W.fnOf "_law_broad" "_law_broad" (defArgs s_law_broad) (defBody s_law_broad) (defScope s_law_broad) .none kV20 dc20 pm20 an20 cd20 ct20),sl20⟩) (c20:PySem.W.codeIn K cd20 "_law_broad" = true) (k20:PySem.W.keepIn K (.ref f20)=true)
  (a21:PySem.W.nsIn K mainGlobals "_law_thing" = some (some (.ref f21))) (l21:K.lookup f21=some ⟨oc21,od21,.func (PySem.W.fnOf "_law_thing" "_law_thing" (defArgs s_law_thing) (defBody s_law_thing) (defScope s_law_thing) .none kV21 dc21 pm21 an21 cd21 ct21),sl21⟩) (c21:PySem.W.codeIn K cd21 "_law_thing" = true) (k21:PySem.W.keepIn K (.ref f21)=true)
  (a22:PySem.W.nsIn K mainGlobals "_law_laying" = some (some (.ref f22))) (l22:K.lookup f22=some ⟨oc22,od22,.func (PySem.W.fnOf "_law_laying" "_law_laying" (defArgs s_law_laying) (defBody s_law_laying) (defScope s_law_laying) .none kV22 dc22 pm22 an22 cd22 ct22),sl22⟩) (c22:PySem.W.codeIn K cd22 "_law_laying" = true) (k22:PySem.W.keepIn K (.ref f22)=true)
  (a23:PySem.W.nsIn K mainGlobals "_law_size" = some (some (.ref f23))) (l23:K.lookup f23=some ⟨oc23,od23,.func (PySem.W.fnOf "_law_size" "_law_size" (defArgs s_law_size) (defBody s_law_size) (defScope s_law_size) .none kV23 dc23 pm23 an23 cd23 ct23),sl23⟩) (c23:PySem.W.codeIn K cd23 "_law_size" = true) (k23:PySem.W.keepIn K (.ref f23)=true)
  (a24:PySem.W.nsIn K mainGlobals "_law_places" = some (some (.ref f24))) (l24:K.lookup f24=some ⟨oc24,od24,.func (PySem.W.fnOf "_law_places" "_law_places" (defArgs s_law_places) (defBody s_law_places) (defScope s_law_places) .none kV24 dc24 pm24 an24 cd24 ct24),sl24⟩) (c24:PySem.W.codeIn K cd24 "_law_places" = true) (k24:PySem.W.keepIn K (.ref f24)=true)
  (a25:PySem.W.nsIn K mainGlobals "_law_picture" = some (some (.ref f25))) (l25:K.lookup f25=some ⟨oc25,od25,.func (PySem.W.fnOf "_law_picture" "_law_picture" (defArgs s_law_picture) (defBody s_law_picture) (defScope s_law_picture) .none kV25 dc25 pm25 an25 cd25 ct25),sl25⟩) (c25:PySem.W.codeIn K cd25 "_law_picture" = true) (k25:PySem.W.keepIn K (.ref f25)=true)
  (a26:PySem.W.nsIn K mainGlobals "_law_same" = some (some (.ref f26))) (l26:K.lookup f26=some ⟨oc26,od26,.func (PySem.W.fnOf "_law_same" "_law_same" (defArgs s_law_same) (defBody s_law_same) (defScope s_law_same) .none kV26 dc26 pm26 an26 cd26 ct26),sl26⟩) (c26:PySem.W.codeIn K cd26 "_law_same" = true) (k26:PySem.W.keepIn K (.ref f26)=true)
  (a27:PySem.W.nsIn K mainGlobals "_law_right" = some (some (.ref f27))) (l27:K.lookup f27=some ⟨oc27,od27,.func (PySem.W.fnOf "_law_right" "_law_right" (defArgs s_law_right) (defBody s_law_right) (defScope s_law_right) .none kV27 dc27 pm27 an27 cd27 ct27),sl27⟩) (c27:PySem.W.codeIn K cd27 "_law_right" = true) (k27:PySem.W.keepIn K (.ref f27)=true)
  (a28:PySem.W.nsIn K mainGlobals "law" = some (some (.ref f28))) (l28:K.lookup f28=some ⟨oc28,od28,.func (PySem.W.fnOf "law" "law" (defArgs s_law) (defBody s_law) (defScope s_law) .none kV28 dc28 pm28 an28 cd28 ct28),sl28⟩) (c28:PySem.W.codeIn K cd28 "law" = true) (k28:PySem.W.keepIn K (.ref f28)=true)
  (y1:PySem.W.nsIn K mainGlobals "len" = some none)
  (y2:PySem.W.nsIn K mainGlobals "max" = some none)
  (y3:PySem.W.nsIn K mainGlobals "min" = some none)
  (y4:PySem.W.nsIn K mainGlobals "range" = some none)
  (y5:PySem.W.nsIn K mainGlobals "tuple" = some none)
  (y6:PySem.W.nsIn K mainGlobals "isinstance" = some none)
  (y7:PySem.W.nsIn K mainGlobals "int" = some none)
  (y8:PySem.W.nsIn K mainGlobals "bool" = some none)
  (y9:PySem.W.nsIn K mainGlobals "str" = some none)
  (y10:PySem.W.nsIn K mainGlobals "list" = some none)
  (y11:PySem.W.nsIn K mainGlobals "zip" = some none)
  (y12:PySem.W.nsIn K mainGlobals "sum" = some none)
  (y13:PySem.W.nsIn K mainGlobals "sorted" = some none)
  (y14:PySem.W.nsIn K mainGlobals "ord" = some none)
  (y15:PySem.W.nsIn K mainGlobals "divmod" = some none)
  (y16:PySem.W.nsIn K mainGlobals "reversed" = some none)
  {u1:Value} (g1:PySem.W.nsIn K mainGlobals "WORD_NUMBERS" = some (some u1)) (q1:RelV (.int 65536) u1)
  {cT pT:Addr} (hc_tab:cd2=.ref cT) (hC_tab:PySem.W.codeHdIn K cT pT=true) :
  ∃ fd:FuncData,(∀ (s:Shared) (v:Value),BindsTo s fd ⟨[v],[]⟩ [("script",v)])∧∀ base:Heap,K.In base→base.Ns mainGlobals mg→BAt mg base pT→FnOk l.prog w K mg base CX0 33 fa fd ["script"] (spLaw K pT):=by
 have e:=hfa.symm.trans (PySem.W.mg_of X G a28)
 cases e
 have F1:=fun_mk (st:=s_size_of) l1 c1 k1
 have b1:=F1.binds (ps:=["kind"]) fun _ _ _ _ _ _=>L3.us1 (fun _=>rfl)
 have m1:=PySem.W.mg_of X G a1
 have F2:=fun_mk (st:=s_in_order) l2 c2 k2
 have b2:=F2.binds (ps:=["laying","fields"]) fun _ _ _ _ _ _=>L3.us2 (fun _ _=>rfl)
 have m2:=PySem.W.mg_of X G a2
 have F3:=fun_mk (st:=s_words_of_number) l3 c3 k3
 have b3:=F3.binds (ps:=["halves","width","number"]) fun _ _ _ _ _ _=>L3.us3 (fun _ _ _=>rfl)
 have m3:=PySem.W.mg_of X G a3
 have F4:=fun_mk (st:=s_words_of_text) l4 c4 k4
 have b4:=F4.binds (ps:=["texts","text"]) fun _ _ _ _ _ _=>L3.us2 (fun _ _=>rfl)
 have m4:=PySem.W.mg_of X G a4
 have F5:=fun_mk (st:=s_picture) l5 c5 k5
 have b5:=F5.binds (ps:=["laying","kind","worth"]) fun _ _ _ _ _ _=>L3.us3 (fun _ _ _=>rfl)
 have m5:=PySem.W.mg_of X G a5
 have F6:=fun_mk (st:=s_row_entry) l6 c6 k6
 have b6:=F6.binds (ps:=["laying","kind","items"]) fun _ _ _ _ _ _=>L3.us3 (fun _ _ _=>rfl)
 have m6:=PySem.W.mg_of X G a6
 have F7:=fun_mk (st:=s_record_picture) l7 c7 k7
 have b7:=F7.binds (ps:=["laying","fields","parts"]) fun _ _ _ _ _ _=>L3.us3 (fun _ _ _=>rfl)
 have m7:=PySem.W.mg_of X G a7
 have F8:=fun_mk (st:=s_choice_picture) l8 c8 k8
 have b8:=F8.binds (ps:=["laying","kind","pair"]) fun _ _ _ _ _ _=>L3.us3 (fun _ _ _=>rfl)
 have m8:=PySem.W.mg_of X G a8
 have F9:=fun_mk (st:=s_joined) l9 c9 k9
 have b9:=F9.binds (ps:=["pictures"]) fun _ _ _ _ _ _=>L3.us1 (fun _=>rfl)
 have m9:=PySem.W.mg_of X G a9
 have F10:=fun_mk (st:=s_law_cell_at) l10 c10 k10
 have b10:=F10.binds (ps:=["script","k"]) fun _ _ _ _ _ _=>L3.us2 (fun _ _=>rfl)
 have m10:=PySem.W.mg_of X G a10
 have F11:=fun_mk (st:=s_law_flow) l11 c11 k11
 have b11:=F11.binds (ps:=["cell"]) fun _ _ _ _ _ _=>L3.us1 (fun _=>rfl)
 have m11:=PySem.W.mg_of X G a11
 have F12:=fun_mk (st:=s_law_draw) l12 c12 k12
 have b12:=F12.binds (ps:=["flow","many"]) fun _ _ _ _ _ _=>L3.us2 (fun _ _=>rfl)
 have m12:=PySem.W.mg_of X G a12
 have F13:=fun_mk (st:=s_law_name) l13 c13 k13
 have b13:=F13.binds (ps:=["flow","taken"]) fun _ _ _ _ _ _=>L3.us2 (fun _ _=>rfl)
 have m13:=PySem.W.mg_of X G a13
 have F14:=fun_mk (st:=s_law_kind) l14 c14 k14
 have b14:=F14.binds (ps:=["flow","depth","room"]) fun _ _ _ _ _ _=>L3.us3 (fun _ _ _=>rfl)
 have m14:=PySem.W.mg_of X G a14
 have F15:=fun_mk (st:=s_law_sign) l15 c15 k15
 have b15:=F15.binds (ps:=["flow"]) fun _ _ _ _ _ _=>L3.us1 (fun _=>rfl)
 have m15:=PySem.W.mg_of X G a15
 have F16:=fun_mk (st:=s_law_number) l16 c16 k16
 have b16:=F16.binds (ps:=["flow","width"]) fun _ _ _ _ _ _=>L3.us2 (fun _ _=>rfl)
 have m16:=PySem.W.mg_of X G a16
 have F17:=fun_mk (st:=s_law_many) l17 c17 k17
 have b17:=F17.binds (ps:=["flow"]) fun _ _ _ _ _ _=>L3.us1 (fun _=>rfl)
 have m17:=PySem.W.mg_of X G a17
 have F18:=fun_mk (st:=s_law_leaves) l18 c18 k18
 have b18:=F18.binds (ps:=["kind"]) fun _ _ _ _ _ _=>L3.us1 (fun _=>rfl)
 have m18:=PySem.W.mg_of X G a18
 have F19:=fun_mk (st:=s_law_worth) l19 c19 k19
 have b19:=F19.binds (ps:=["flow","kind","room"]) fun _ _ _ _ _ _=>L3.us3 (fun _ _ _=>rfl)
 have m19:=PySem.W.mg_of X G a19
 have F20:=fun_mk (st:=s_law_broad) l20 c20 k20
 have b20:=F20.binds (ps:=["flow"]) fun _ _ _ _ _ _=>L3.us1 (fun _=>rfl)
 have m20:=PySem.W.mg_of X G a20
 have F21:=fun_mk (st:=s_law_thing) l21 c21 k21
 have b21:=F21.binds (ps:=["flow","room"]) fun _ _ _ _ _ _=>L3.us2 (fun _ _=>rfl)
 have m21:=PySem.W.mg_of X G a21
 have F22:=fun_mk (st:=s_law_laying) l22 c22 k22
 have b22:=F22.binds (ps:=["flow"]) fun _ _ _ _ _ _=>L3.us1 (fun _=>rfl)
 have m22:=PySem.W.mg_of X G a22
 have F23:=fun_mk (st:=s_law_size) l23 c23 k23
 have b23:=F23.binds (ps:=["kind"]) fun _ _ _ _ _ _=>L3.us1 (fun _=>rfl)
 have m23:=PySem.W.mg_of X G a23
 have F24:=fun_mk (st:=s_law_places) l24 c24 k24
 have b24:=F24.binds (ps:=["laying","fields"]) fun _ _ _ _ _ _=>L3.us2 (fun _ _=>rfl)
 have m24:=PySem.W.mg_of X G a24
 have F25:=fun_mk (st:=s_law_picture) l25 c25 k25
 have b25:=F25.binds (ps:=["laying","kind","worth"]) fun _ _ _ _ _ _=>L3.us3 (fun _ _ _=>rfl)
 have m25:=PySem.W.mg_of X G a25
 have F26:=fun_mk (st:=s_law_same) l26 c26 k26
 have b26:=F26.binds (ps:=["found","due"]) fun _ _ _ _ _ _=>L3.us2 (fun _ _=>rfl)
 have m26:=PySem.W.mg_of X G a26
 have F27:=fun_mk (st:=s_law_right) l27 c27 k27
 have b27:=F27.binds (ps:=["flow"]) fun _ _ _ _ _ _=>L3.us1 (fun _=>rfl)
 have m27:=PySem.W.mg_of X G a27
 have F28:=fun_mk (st:=s_law) l28 c28 k28
 have z_len:=PySem.W.mg_none_of X G y1
 have z_max:=PySem.W.mg_none_of X G y2
 have z_min:=PySem.W.mg_none_of X G y3
 have z_range:=PySem.W.mg_none_of X G y4
 have z_tuple:=PySem.W.mg_none_of X G y5
 have z_isinstance:=PySem.W.mg_none_of X G y6
 have z_int:=PySem.W.mg_none_of X G y7
 have z_bool:=PySem.W.mg_none_of X G y8
 have z_str:=PySem.W.mg_none_of X G y9
 have z_list:=PySem.W.mg_none_of X G y10
 have z_zip:=PySem.W.mg_none_of X G y11
 have z_sum:=PySem.W.mg_none_of X G y12
 have z_sorted:=PySem.W.mg_none_of X G y13
 have z_ord:=PySem.W.mg_none_of X G y14
 have z_divmod:=PySem.W.mg_none_of X G y15
 have z_reversed:=PySem.W.mg_none_of X G y16
 refine ⟨PySem.W.fnOf "law" "law" (defArgs s_law) (defBody s_law) (defScope s_law) .none kV28 dc28 pm28 an28 cd28 ct28,fun s v=>.of_eq rfl,fun base _ _ hB_tab=>?_⟩
 have m_WORD_NUMBERS:=PySem.W.mg_of X G g1
 have D11:Callee l.prog w K mg base "_law_flow" _ _ _:=⟨_,_,ok_flow F11 z_max,m11,k11,b11⟩
 have D12:Callee l.prog w K mg base "_law_draw" _ _ _:=⟨_,_,ok_draw F12,m12,k12,b12⟩
 have D13:Callee l.prog w K mg base "_law_name" _ _ _:=⟨_,_,ok_name F13 D12 z_len z_max z_range,m13,k13,b13⟩
 have C12:=br_draw D12
 have C15:Cl3 l.prog w K mg base "_law_sign" _ _ _:=⟨_,_,ok_sign F15 C12,m15,k15,b15⟩
 have C16:Cl3 l.prog w K mg base "_law_number" _ _ _:=⟨_,_,ok_number F16 C12,m16,k16,b16⟩
 have C17:Cl3 l.prog w K mg base "_law_many" _ _ _:=⟨_,_,ok_many F17 C12,m17,k17,b17⟩
 have C13:=br_name D13
 have C22:Cl3 l.prog w K mg base "_law_laying" _ _ _:=⟨_,_,ok_laying F22 C12 z_range z_tuple,m22,k22,b22⟩
 have C2:Cl3 l.prog w K mg base "in_order" _ _ _:=⟨_,_,ok_in_order F2 hc_tab hC_tab hB_tab z_tuple z_sorted,m2,k2,b2⟩
 have C3:Cl3 l.prog w K mg base "words_of_number" _ _ _:=⟨_,_,ok_words_of_number F3 m_WORD_NUMBERS (gl_int q1) z_range z_divmod z_tuple,m3,k3,b3⟩
 have C4:Cl3 l.prog w K mg base "words_of_text" _ _ _:=⟨_,_,ok_words_of_text F4 z_ord z_len z_tuple,m4,k4,b4⟩
 have C9:Cl3 l.prog w K mg base "joined" _ _ _:=⟨_,_,ok_joined F9 z_tuple,m9,k9,b9⟩
 have C24:Cl3 l.prog w K mg base "_law_places" _ _ _:=⟨_,_,ok_places F24 z_list z_range z_len z_sorted,m24,k24,b24⟩
 have C26:Cl3 l.prog w K mg base "_law_same" _ _ _:=⟨_,_,ok_same F26 z_isinstance z_tuple z_str z_int z_bool z_len z_list z_zip,m26,k26,b26⟩
 have C10:Cl3 l.prog w K mg base "_law_cell_at" _ _ _:=⟨_,_,ok_cell3 F10 z_len,m10,k10,b10⟩
 have C11:=br_flow D11
 have D14:=kind_all (P:=l.prog) (w:=w) (base:=base) F14 m14 k14 b14 D12 D13 z_range z_tuple 10
 have C18:=leaves_all (P:=l.prog) (w:=w) (base:=base) F18 m18 k18 b18 z_sum 13
 have C19:=worth_all (P:=l.prog) (w:=w) (base:=base) F19 m19 k19 b19 C12 C16 C17 C15 C18 z_min z_max z_range z_tuple z_len 13
 have C23:=size_all (P:=l.prog) (w:=w) (base:=base) F23 m23 k23 b23 z_max 6
 have C25:=pic_all (P:=l.prog) (w:=w) (base:=base) F25 m25 k25 b25 C24 C23 z_tuple z_len z_ord 6
 have C1:=sizeof_all (P:=l.prog) (w:=w) (base:=base) F1 m1 k1 b1 z_sum z_max 6
 have C5:=picture_all (P:=l.prog) (w:=w) (base:=base) F5 m5 k5 b5 F6 m6 k6 b6 F7 m7 k7 b7 F8 m8 k8 b8 C9 C2 C1 C3 C4 z_len z_reversed z_zip 6
 have C14:=br_kind D14
 have C20:Cl3 l.prog w K mg base "_law_broad" _ _ _:=⟨_,_,ok_broad F20 C12 C13 C14 z_range z_tuple,m20,k20,b20⟩
 have C21:Cl3 l.prog w K mg base "_law_thing" _ _ _:=⟨_,_,ok_thing F21 C12 C14 C19 C20,m21,k21,b21⟩
 have C27:Cl3 l.prog w K mg base "_law_right" _ _ _:=⟨_,_,ok_right F27 C22 C12 C21 C5 C25 C26 z_int,m27,k27,b27⟩
 exact (ok_law3 F28 C27 C11 C10 z_range z_max z_min z_len).imp law_dn
theorem walk {l:PySem.W.OpenLaw} {q:Program} {loose:List Str} {XP:(Str→Option Value)→Heap→Prop} {YP:World→Heap→Prop} {d:DefRec} {K:Params→PySem.W.Frag} {c P:Addr} (hn:l.most=some 63) (hdf:d.params.defaults=[])
  (hY:∀ (w:World) (h:Heap),YP w h→(K w.params).In h) (hT:∀ (w:World) (h:Heap),YP w h→h.get? P=some (PySem.W.tabObj #[])) (hC:∀ w:World,PySem.W.codeHdIn (K w.params) c P=true) (hKP:∀ w:World,(K w.params).lookup P=none)
  (F:∀ (w:World) (mg:Str→Option Value) (fa:Addr) (h:Heap),(K w.params).In h→h.Ns mainGlobals mg→mg d.name=some (.ref fa) →
   ∃ fd:FuncData,(∀ (s:Shared) (u:Value),BindsTo s fd ⟨[u],[]⟩ [("script",u)])∧∀ base:Heap,(K w.params).In base→base.Ns mainGlobals mg→BAt mg base P→FnOk l.prog w (K w.params) mg base CX0 33 fa fd ["script"] (spLaw (K w.params) P)) :
  PySem.W.WalkO q loose XP YP l.row.toRowW d [] (fun f vs=>PySem.call f vs):=
 L2.walk_ofL (n:=63) (k:=33) (x := "script") (CX:=fun _=>CX0) (sp:=fun w=>spLaw (K w.params) P) hn (by decide) hdf ⟨rfl,by decide,by decide⟩ hY hT hC hKP F (fun _ _ a ns hl hO hS=>⟨a,ns,rfl,hO,hS,hl,fun _=>rfl⟩) fun _ _ _ _ _ z=>z
end Tg
open PySem PySem.W PyProof.Rows
def PySem.W.Fast.tw18421585147121660899:Unit:=()
def PySem.W.Fast.tw13205243728670516968:Unit:=()
def PySem.W.Fast.tw3081183784350194026:Unit:=()
def PySem.W.Fast.tw2397896358972024173:Unit:=()
def PySem.W.Fast.tw16343811920548836432:Unit:=()
def PySem.W.Fast.tw13414883189113920977:Unit:=()
def PySem.W.Fast.tw15065465036248716786:Unit:=()
def PySem.W.Fast.tw3034384505884186805:Unit:=()
def PySem.W.Fast.tw1816641911657151927:Unit:=()
def PySem.W.Fast.tw15887568999241636667:Unit:=()
def PySem.W.Fast.tw10370851043526725212:Unit:=()
def PySem.W.Fast.tw14504709373179669623:Unit:=()
set_option maxRecDepth 100000 in
set_option maxHeartbeats 0 in
theorem PySem.Challenge.cw_tonguegate_k10_pictures_holds : PySem.Challenge.rw_tonguegate_k10_pictures.Holds := by
 w_on; o_law; k_head; (case hw=>w_witness2)
 k_fill
 refine Tg.walk (l:=PySem.Challenge.rw_tonguegate_k10_pictures) (c:=25) (P:=21) rfl rfl (fun w h Y=>PySem.W.km_in_of Y) (fun w h Y=>PySem.W.km_tabs_of Y 21 (by simp)) (fun w=>by kernel_rfl) (fun w=>by kernel_rfl) ?F
 case F=>
  intro w mg fa h KX G hmg
  refine' Tg.all_mk KX G hmg ?a1 ?l1 ?c1 ?k1 ?a2 ?l2 ?c2 ?k2 ?a3 ?l3 ?c3 ?k3 ?a4 ?l4 ?c4 ?k4 ?a5 ?l5 ?c5 ?k5 ?a6 ?l6 ?c6 ?k6 ?a7 ?l7 ?c7 ?k7 ?a8 ?l8 ?c8 ?k8 ?a9 ?l9 ?c9 ?k9 ?a10 ?l10 ?c10 ?k10 ?a11 ?l11 ?c11 ?k11 ?a12 ?l12 ?c12 ?k12 ?a13 ?l13 ?c13 ?k13 ?a14 ?l14 ?c14 ?k14 ?a15 ?l15 ?c15 ?k15 ?a16 ?l16 ?c16 ?k16 ?a17 ?l17 ?c17 ?k17 ?a18 ?l18 ?c18 ?k18 ?a19 ?l19 ?c19 ?k19 ?a20 ?l20 ?c20 ?k20 ?a21 ?l21 ?c21 ?k21 ?a22 ?l22 ?c22 ?k22 ?a23 ?l23 ?c23 ?k23 ?a24 ?l24 ?c24 ?k24 ?a25 ?l25 ?c25 ?k25 ?a26 ?l26 ?c26 ?k26 ?a27 ?l27 ?c27 ?k27 ?a28 ?l28 ?c28 ?k28 ?y1 ?y2 ?y3 ?y4 ?y5 ?y6 ?y7 ?y8 ?y9 ?y10 ?y11 ?y12 ?y13 ?y14 ?y15 ?y16 ?g1 ?q1       ?tb1 ?tb2
  (case a1=>k_is); (case l1=>k_is); (case c1=>k_is); (case k1=>k_is)
  (case a2=>k_is); (case l2=>k_is); (case c2=>k_is); (case k2=>k_is)
  (case a3=>k_is); (case l3=>k_is); (case c3=>k_is); (case k3=>k_is)
  (case a4=>k_is); (case l4=>k_is); (case c4=>k_is); (case k4=>k_is)
  (case a5=>k_is); (case l5=>k_is); (case c5=>k_is); (case k5=>k_is)
  (case a6=>k_is); (case l6=>k_is); (case c6=>k_is); (case k6=>k_is)
  (case a7=>k_is); (case l7=>k_is); (case c7=>k_is); (case k7=>k_is)
  (case a8=>k_is); (case l8=>k_is); (case c8=>k_is); (case k8=>k_is)
  (case a9=>k_is); (case l9=>k_is); (case c9=>k_is); (case k9=>k_is)
  (case a10=>k_is); (case l10=>k_is); (case c10=>k_is); (case k10=>k_is)
  (case a11=>k_is); (case l11=>k_is); (case c11=>k_is); (case k11=>k_is)
  (case a12=>k_is); (case l12=>k_is); (case c12=>k_is); (case k12=>k_is)
  (case a13=>k_is); (case l13=>k_is); (case c13=>k_is); (case k13=>k_is)
  (case a14=>k_is); (case l14=>k_is); (case c14=>k_is); (case k14=>k_is)
  (case a15=>k_is); (case l15=>k_is); (case c15=>k_is); (case k15=>k_is)
  (case a16=>k_is); (case l16=>k_is); (case c16=>k_is); (case k16=>k_is)
  (case a17=>k_is); (case l17=>k_is); (case c17=>k_is); (case k17=>k_is)
  (case a18=>k_is); (case l18=>k_is); (case c18=>k_is); (case k18=>k_is)
  (case a19=>k_is); (case l19=>k_is); (case c19=>k_is); (case k19=>k_is)
  (case a20=>k_is); (case l20=>k_is); (case c20=>k_is); (case k20=>k_is)
  (case a21=>k_is); (case l21=>k_is); (case c21=>k_is); (case k21=>k_is)
  (case a22=>k_is); (case l22=>k_is); (case c22=>k_is); (case k22=>k_is)
  (case a23=>k_is); (case l23=>k_is); (case c23=>k_is); (case k23=>k_is)
  (case a24=>k_is); (case l24=>k_is); (case c24=>k_is); (case k24=>k_is)
  (case a25=>k_is); (case l25=>k_is); (case c25=>k_is); (case k25=>k_is)
  (case a26=>k_is); (case l26=>k_is); (case c26=>k_is); (case k26=>k_is)
  (case a27=>k_is); (case l27=>k_is); (case c27=>k_is); (case k27=>k_is)
  (case a28=>k_is); (case l28=>k_is); (case c28=>k_is); (case k28=>k_is)
  (case y1=>k_is)
  (case y2=>k_is)
  (case y3=>k_is)
  (case y4=>k_is)
  (case y5=>k_is)
  (case y6=>k_is)
  (case y7=>k_is)
  (case y8=>k_is)
  (case y9=>k_is)
  (case y10=>k_is)
  (case y11=>k_is)
  (case y12=>k_is)
  (case y13=>k_is)
  (case y14=>k_is)
  (case y15=>k_is)
  (case y16=>k_is)
  (case g1=>k_is); (case q1=>exact ⟨_,rfl⟩)
  (case tb1=>exact rfl); (case tb2=>kernel_rfl)

import PyProof.Rows.All
import Wide.All
import OpenK.AllK
import Wide.FinOn
import Lean
import PyProof.EqAt
import PyProof.EqKinds
import PyProof.TupleCall
import PySem.Challenge.RW_tonguegate_k64_deep_and_wide_texts
set_option Elab.async false
set_option linter.all false
set_option maxRecDepth 100000
namespace L2
open PySem PySem.Spec PyProof.Rows
abbrev Key := Sum Int Str
def keyIs : Key → Value → Bool
 | .inl k, v => Value.isInt k v
 | .inr x, v => Value.isStrOf x v
def keyH (w : World) : Key → Int
 | .inl k => hashInt k
 | .inr x => hashStr w x
theorem keyIs_shape : ∀ {k : Key} {v : Value}, keyIs k v = true → (∃ i t, k = Sum.inl i ∧ v = Value.int i t) ∨ (∃ x t, k = Sum.inr x ∧ v = Value.str x t)
 | .inl i, v, h => by
  obtain ⟨t, e⟩ := Value.isInt_shape (k := i) (v := v) h
  exact .inl ⟨i, t, rfl, e⟩
 | .inr x, v, h => by
  obtain ⟨t, e⟩ := Value.isStrOf_shape (x := x) (v := v) h
  exact .inr ⟨x, t, rfl, e⟩
theorem key_ll (a b : Int) : decide ((Sum.inl a : Key) = Sum.inl b) = (a == b) := by
 by_cases e : a = b
 ·subst e; simp
 ·have h : ¬ (Sum.inl a : Key) = Sum.inl b := fun q => e (Sum.inl.inj q)
  rw [decide_eq_false h]
  exact (beq_eq_false_iff_ne.mpr e).symm
theorem key_rr (a b : Str) : decide ((Sum.inr a : Key) = Sum.inr b) = decide (a = b) := by
 by_cases e : a = b
 ·subst e; simp
 ·have h : ¬ (Sum.inr a : Key) = Sum.inr b := fun q => e (Sum.inr.inj q)
  rw [decide_eq_false h, decide_eq_false e]
theorem key_lr (a : Int) (b : Str) : decide ((Sum.inl a : Key) = Sum.inr b) = false := decide_eq_false (fun q => nomatch q)
theorem key_rl (a : Str) (b : Int) : decide ((Sum.inr a : Key) = Sum.inl b) = false := decide_eq_false (fun q => nomatch q)
def mixKind (prog : Program) (w : World) : PySem.KeyKind prog w Key where
 is := keyIs
 hash := keyH w
 inj := fun v a b ha hb => by
  rcases keyIs_shape ha with ⟨i, t, rfl, rfl⟩ | ⟨x, t, rfl, rfl⟩
  ·rcases keyIs_shape hb with ⟨j, u, rfl, e⟩ | ⟨y, u, rfl, e⟩
   ·injection e with e1 _; rw [e1]
   ·exact nomatch e
  ·rcases keyIs_shape hb with ⟨j, u, rfl, e⟩ | ⟨y, u, rfl, e⟩
   ·exact nomatch e
   ·injection e with e1 _; rw [e1]
 byValue := fun k v h => by
  rcases keyIs_shape h with ⟨i, t, rfl, rfl⟩ | ⟨x, t, rfl, rfl⟩ <;> rfl
 pyHash := fun hv h => by
  rcases keyIs_shape hv with ⟨i, t, rfl, rfl⟩ | ⟨x, t, rfl, rfl⟩
  ·exact wpAny_pyHash_int h
  ·exact wpAny_pyHash_str h
 eqBool := fun hu hv h => by
  rcases keyIs_shape hu with ⟨i, t, rfl, rfl⟩ | ⟨x, t, rfl, rfl⟩
  ·rcases keyIs_shape hv with ⟨j, u, rfl, rfl⟩ | ⟨y, u, rfl, rfl⟩
   ·rw [key_ll] at h; exact wpAny_eqBool_int h
   ·rw [key_lr] at h; exact SeqAt.EqAt.int_str i t y u _ _ _ _ h
  ·rcases keyIs_shape hv with ⟨j, u, rfl, rfl⟩ | ⟨y, u, rfl, rfl⟩
   ·rw [key_rl] at h; exact SeqAt.EqAt.str_int x t j u _ _ _ _ h
   ·rw [key_rr] at h; exact wpAny_eqBool_str h
 «strs» := fun k x t v h => by
  rcases keyIs_shape h with ⟨i, u, rfl, e⟩ | ⟨y, u, rfl, e⟩
  ·exact nomatch e
  ·injection e with e1 _
   subst e1
   cases v <;> rfl
end L2
namespace L2
open PySem PySem.Spec PyProof.Rows
inductive V where
 | non | bl (b : Bool) | int (i : Int) | str (x : Str) | byt (b : Array UInt8) | flt (b : UInt64) | ref (a : Addr) | ty (n : String)
 deriving DecidableEq
def RelV : V → Value → Prop
 | .non, u => u = Value.none
 | .bl b, u => u = Value.bool b
 | .int i, u => ∃ t, u = Value.int i t
 | .str x, u => ∃ t, u = Value.str x t
 | .byt b, u => ∃ t, u = Value.bytes b t
 | .flt b, u => ∃ t, u = Value.float b t
 | .ref a, u => u = Value.ref a
 | .ty n, u => u = Value.type n
abbrev Vals : List V → List Value → Prop := Paired RelV
theorem Vals.length {xs : List V} {us : List Value} (r : Vals xs us) : xs.length = us.length := Paired.length r
theorem Vals.get : ∀ {xs : List V} {us : List Value} {i : Nat} {x : V}, Vals xs us → xs[i]? = some x → ∃ u, us[i]? = some u ∧ RelV x u
 | _, _, _, _, .nil, e => by simp at e
 | _, _, 0, _, .cons r _, e => by simp at e; subst e; exact ⟨_, rfl, r⟩
 | _, _, i + 1, x, .cons _ t, e => by
  obtain ⟨u, h1, h2⟩ := Vals.get (i := i) (x := x) t (by simpa using e)
  exact ⟨u, by simpa using h1, h2⟩
theorem Vals.set {x : V} {u : Value} (r : RelV x u) : ∀ {xs : List V} {us : List Value} (i : Nat), Vals xs us → Vals (xs.set i x) (us.set i u)
 | _, _, _, .nil => .nil
 | _, _, 0, .cons _ t => .cons r t
 | _, _, i + 1, .cons q t => .cons q (Vals.set r i t)
theorem Vals.append : ∀ {xs ys : List V} {us ws : List Value}, Vals xs us → Vals ys ws → Vals (xs ++ ys) (us ++ ws)
 | _, _, _, _, .nil, s => s
 | _, _, _, _, .cons r t, s => .cons r (Vals.append t s)
def RelO : Option V → Option Value → Prop
 | some v, some u => RelV v u
 | none, none => True
 | _, _ => False
def KV {κ : Type} : List (κ × V) → List (κ × Value) → Prop := Paired fun (p : κ × V) (q : κ × Value) => p.1 = q.1 ∧ RelV p.2 q.2
def kV : Key → V
 | .inl i => .int i
 | .inr x => .str x
inductive HO where
 /-- a list -/
 | lst (xs : List V)
 /-- a tuple (never changes) -/
 | tup (xs : List V)
 /-- a dict whose keys are ints and texts; one whose keys are tuples of ints and texts (the empty one is both) -/
 | dK (kvs : List (Key × V)) | dT (kvs : List (List Key × V))
 /-- a set of ints: its members, its size -/
 | set (S : Int → Bool) (n : Nat)
 /-- an instance of the class at C, its dict at dx, its attributes -/
 | ins (C dx : Addr) (fs : List (Str × V))
 /-- the dict of the instance at x -/
 | own (x : Addr)
 /-- the dict of an exception -/
 | xd (fs : List (Str × V))
 /-- a bound method, f of x -/
 | met (f x : Addr)
 /-- a range object lo, lo + 1, .. below hi -/
 | rng (lo hi : Int)
 /-- a thing that is known to the object (the script; a dict while a loop walks it): read, never written while it is so -/
 | frz (o : Obj) (u : HO)
 /-- a code object's table -/
 | tbl (ps : Array Value)
 /-- any other thing, by what is true of its one object (a def of one's own: SetO a S n := HO.ext fun h => ..) -/
 | ext (φ : Heap → Prop)
abbrev Hp := Addr → Option HO
def upd (H : Hp) (a : Addr) (o : HO) : Hp := fun b => if b = a then some o else H b
theorem upd_same {H : Hp} {a : Addr} {o : HO} : upd H a o a = some o := by unfold upd; rw [if_pos rfl]
theorem upd_ne {H : Hp} {a b : Addr} {o : HO} (h : b ≠ a) : upd H a o b = H b := by unfold upd; rw [if_neg h]
theorem ne_of_none {H : Hp} {a b : Addr} {o : HO} (h : H a = some o) (h' : H b = none) : a ≠ b := by
 intro e; subst e; rw [h] at h'; cases h'
section
variable (P: Program)(w: World)
def ObjOk (H : Hp) (h : Heap) (a : Addr) : HO → Prop
 | .lst xs => xs.length ≤ sizeLine ∧ ∃ (its : List Value) (n : Nat), Vals xs its ∧ h.get? a = some { cls := .type "list", data := .seq its.toArray n }
 | .tup xs => xs.length ≤ sizeLine ∧ ∃ its : List Value, Vals xs its ∧ IsTup h a its.toArray
 | .dK kvs => kvs.length ≤ sizeLine ∧ (a == sysModules) = false ∧ ∃ vs, KV kvs vs ∧ h.DictOf (mixKind P w) a vs
 | .dT kvs => kvs.length ≤ sizeLine ∧ (a == sysModules) = false ∧ ∃ xs : List (List Key × Addr × Value),
   Paired (fun (p : List Key × V) (q : List Key × Addr × Value) => p.1 = q.1 ∧ H q.2.1 = some (.tup (p.1.map kV)) ∧ RelV p.2 q.2.2) kvs xs ∧
   ∃ o es ep, h.get? a = some o ∧ o.ExactDict ∧ o.data = .dict es ep ∧ es.toList = xs.map (entryOfKey (tupleKind (mixKind P w))) ∧ (xs.map (·.1)).Nodup
 | .set S n => h.SetOf (intKind P w) a S n
 | .ins C dx fs => H dx = some (.own a) ∧ fs.length ≤ 1000 ∧ dx ≠ a ∧ h.get? a = some (PySem.W.instObj C dx) ∧
   ∃ mA, h.Ns1 dx mA ∧ (∀ f, RelO (fs.lookup f) (mA f)) ∧ PySem.Within mA (fs.map (·.1))
 | .own _ => ∃ o, h.get? a = some o
 | .xd fs => ∃ mA, h.Ns1 a mA ∧ ∀ f, RelO (fs.lookup f) (mA f)
 | .rng lo hi => ∃ t u v, h.get? a = some { cls := .type "range", data := .fields #[.int lo t, .int hi u, .int 1 v] }
 | .frz o u => h.get? a = some o ∧ ObjOk H h a u
 | .tbl ps => h.get? a = some { cls := .none, data := .fields ps }
 | .met f x => h.get? a = some (PySem.W.methodObj (.ref f) (.ref x))
 | .ext φ => φ h ∧ (∃ o, h.get? a = some o) ∧ ∀ h1 h2 : Heap, φ h1 → (∀ o, h1.get? a = some o → h2.get? a = some o) → φ h2
def HOk (H : Hp) (h : Heap) : Prop := ∀ a o, H a = some o → ObjOk P w H h a o
end
section
variable {P: Program}{w: World}{H H': Hp}{h h': Heap}{a: Addr}{o: HO}
theorem ObjOk.lt (x : ObjOk P w H h a o) : a < h.objs.size := by
 cases o with
 | lst xs => obtain ⟨_, _, _, _, e⟩ := x; exact Heap.lt_size e
 | tup xs => obtain ⟨_, _, _, p⟩ := x; exact p.lt
 | dK kvs => obtain ⟨_, _, _, _, o, _, _, e, _⟩ := x; exact Heap.lt_size e
 | dT kvs => obtain ⟨_, _, _, _, o, _, _, e, _⟩ := x; exact Heap.lt_size e
 | set S n => obtain ⟨o, _, _, _, e, _⟩ := x; exact Heap.lt_size e
 | ins C dx fs => obtain ⟨_, _, _, e, _⟩ := x; exact Heap.lt_size e
 | own y => obtain ⟨_, e⟩ := x; exact Heap.lt_size e
 | xd fs => obtain ⟨_, ⟨_, _, _, e, _⟩, _⟩ := x; exact Heap.lt_size e
 | rng lo hi => obtain ⟨_, _, _, e⟩ := x; exact Heap.lt_size e
 | frz ob u => obtain ⟨e, _⟩ := x; exact Heap.lt_size e
 | tbl ps => exact Heap.lt_size (show h.get? a = some _ from x)
 | met f y => exact Heap.lt_size (show h.get? a = some _ from x)
 | ext φ => obtain ⟨_, ⟨_, e⟩, _⟩ := x; exact Heap.lt_size e
theorem Paired.mapP {α β : Type} {F G : α → β → Prop} : ∀ {l₁ : List α} {l₂ : List β}, Paired F l₁ l₂ → (∀ a b, F a b → G a b) → Paired G l₁ l₂
 | _, _, .nil, _ => .nil
 | _, _, .cons r t, f => .cons (f _ _ r) (Paired.mapP t f)
theorem ObjOk.stay (x : ObjOk P w H h a o) (k : ∀ b u, (b = a ∨ H b = some (.own a)) → h.get? b = some u → h'.get? b = some u)
  (ho : ∀ b, H b = some (.own a) → H' b = some (.own a)) (ht : ∀ b xs, H b = some (.tup xs) → H' b = some (.tup xs)) : ObjOk P w H' h' a o := by
 induction o with
 | lst xs => obtain ⟨z, its, n, r, e⟩ := x; exact ⟨z, its, n, r, k _ _ (.inl rfl) e⟩
 | tup xs => obtain ⟨z, its, r, ob, e, c⟩ := x; exact ⟨z, its, r, ob, k _ _ (.inl rfl) e, c⟩
 | dK kvs => obtain ⟨z, y, vs, r, ob, es, ep, e, c⟩ := x; exact ⟨z, y, vs, r, ob, es, ep, k _ _ (.inl rfl) e, c⟩
 | dT kvs =>
  obtain ⟨z, y, xs, r, ob, es, ep, e, c⟩ := x
  exact ⟨z, y, xs, Paired.mapP r fun p q z => ⟨z.1, ht _ _ z.2.1, z.2.2⟩, ob, es, ep, k _ _ (.inl rfl) e, c⟩
 | set S n => obtain ⟨ob, es, ep, t, e, c⟩ := x; exact ⟨ob, es, ep, t, k _ _ (.inl rfl) e, c⟩
 | ins C dx fs =>
  obtain ⟨d, z, ne, e, mA, ⟨od, es, ep, e2, c⟩, r⟩ := x
  exact ⟨ho _ d, z, ne, k _ _ (.inl rfl) e, mA, ⟨od, es, ep, k _ _ (.inr d) e2, c⟩, r⟩
 | own y => obtain ⟨ob, e⟩ := x; exact ⟨ob, k _ _ (.inl rfl) e⟩
 | xd fs => obtain ⟨mA, ⟨od, es, ep, e, c⟩, r⟩ := x; exact ⟨mA, ⟨od, es, ep, k _ _ (.inl rfl) e, c⟩, r⟩
 | rng lo hi => obtain ⟨t, u, v, e⟩ := x; exact ⟨t, u, v, k _ _ (.inl rfl) e⟩
 | frz ob u ih => obtain ⟨e, q⟩ := x; exact ⟨k _ _ (.inl rfl) e, ih q⟩
 | tbl ps =>
  have e : h.get? a = some { cls := .none, data := .fields ps } := x
  show h'.get? a = some { cls := .none, data := .fields ps }
  exact k a _ (.inl rfl) e
 | met f y =>
  have e : h.get? a = some (PySem.W.methodObj (.ref f) (.ref y)) := x
  show h'.get? a = some (PySem.W.methodObj (.ref f) (.ref y))
  exact k a _ (.inl rfl) e
 | ext φ => obtain ⟨p, ⟨o, e⟩, st⟩ := x; exact ⟨st _ _ p fun o q => k _ _ (.inl rfl) q, ⟨o, k _ _ (.inl rfl) e⟩, st⟩
theorem HOk.lt (x : HOk P w H h) (e : H a = some o) : a < h.objs.size := (x a o e).lt
theorem HOk.fresh (x : HOk P w H h) (e : h.objs.size ≤ a) : H a = none := by
 cases q : H a with
 | none => rfl
 | some u => exact absurd (Nat.lt_of_lt_of_le (x.lt q) e) (Nat.lt_irrefl _)
theorem HOk.kept (x : HOk P w H h) (k : ∀ b u, h.get? b = some u → h'.get? b = some u) : HOk P w H h' := fun a o e =>
 (x a o e).stay (fun b u _ q => k b u q) (fun _ q => q) fun _ _ q => q
theorem HOk.laid (x : HOk P w H h) (k : ∀ b u, h.get? b = some u → h'.get? b = some u) (hp : h.objs.size ≤ a) (new : ObjOk P w (upd H a o) h' a o) : HOk P w (upd H a o) h' := fun b u e => by
 have hn := x.fresh hp
 by_cases hb : b = a
 ·subst hb; rw [upd_same] at e; cases e; exact new
 ·rw [upd_ne hb] at e
  exact (x b u e).stay (fun c v _ q => k c v q) (fun c q => by rw [upd_ne (ne_of_none q hn)]; exact q) fun c xs q => by rw [upd_ne (ne_of_none q hn)]; exact q
end
def Rd (H : Hp) (a : Addr) (u : HO) : Prop := H a = some u ∨ ∃ o, H a = some (.frz o u)
theorem Rd.ok {P : Program} {w : World} {H : Hp} {h : Heap} {a : Addr} {u : HO} (r : Rd H a u) (x : HOk P w H h) : ObjOk P w H h a u := by
 rcases r with r | ⟨o, r⟩
 ·exact x a u r
 ·obtain ⟨_, q⟩ := x a _ r
  exact q
def Mut : Option HO → Prop
 | some (.lst _) => True
 | some (.dK _) => True
 | some (.dT _) => True
 | some (.set _ _) => True
 | some (.ins _ _ _) => True
 | some (.ext _) => True
 | _ => False
section
variable {P: Program}{w: World}{H: Hp}{h h': Heap}{x e: Addr}{o': HO}
theorem HOk.write (ok : HOk P w H h) (mu : Mut (H x)) (he : e = x ∨ H e = some (.own x)) (k : ∀ b u, b ≠ e → h.get? b = some u → h'.get? b = some u) (heo : ∃ u, h'.get? e = some u)
  (new : ObjOk P w (upd H x o') h' x o') : HOk P w (upd H x o') h' := fun b u q => by
 have nown : ∀ c y, H c = some (.own y) → c ≠ x := fun c y r z => by subst z; rw [r] at mu; exact mu
 have ntup : ∀ c xs, H c = some (.tup xs) → c ≠ x := fun c xs r z => by subst z; rw [r] at mu; exact mu
 by_cases hb : b = x
 ·subst hb; rw [upd_same] at q; cases q; exact new
 ·rw [upd_ne hb] at q
  by_cases hbe : b = e
  ·have q' : H b = some (.own x) := by
    rcases he with z | z
    ·exact absurd (hbe.trans z) hb
    ·rw [hbe]; exact z
   rw [q] at q'; cases q'
   obtain ⟨v, hv⟩ := heo
   exact ⟨v, by rw [hbe]; exact hv⟩
  ·refine (ok b u q).stay (fun c v hc r => k c v ?_ r) (fun c r => by rw [upd_ne (nown c b r)]; exact r) fun c xs r => by rw [upd_ne (ntup c xs r)]; exact r
   rcases hc with rfl | hc
   ·exact hbe
   ·rintro rfl
    rcases he with z | z
    ·exact nown c b hc z
    ·rw [hc] at z; cases z; exact hb rfl
end
structure Un (fs ex : List Addr) (H H' : Hp) (h h' : Heap) : Prop where
 keep : ∀ b o, h.get? b = some o → H b = none → b ∉ fs → b ∉ ex → h'.get? b = some o
 slot : ∀ b o, h.get? b = some o → H b = none → b ∈ fs → b ∉ ex → ∃ sl, h'.get? b = some { o with slots := sl }
 free : ∀ b o, h.get? b = some o → H b = none → b ∉ ex → H' b = none
 there : ∀ b o, h.get? b = some o → b ∉ ex → ∃ o', h'.get? b = some o'
 tups : ∀ b xs, H b = some (.tup xs) → H' b = some (.tup xs)
 frzs : ∀ b o u, H b = some (.frz o u) → H' b = some (.frz o u)
 tbls : ∀ b ps, H b = some (.tbl ps) → ∃ more, H' b = some (.tbl (ps ++ more))
section
variable {fs ex: List Addr}{H H1: Hp}{h h1 h': Heap}{a x e: Addr}{o: HO}
theorem Un.any (u : Un fs ex H H1 h h1) {b : Addr} {ob : Obj} (q : h.get? b = some ob) (n : H b = none) (hx : b ∉ ex) : ∃ sl, h1.get? b = some { ob with slots := sl } := by
 by_cases hb : b ∈ fs
 ·exact u.slot b ob q n hb hx
 ·exact ⟨ob.slots, u.keep b ob q n hb hx⟩
theorem Un.kept (k : ∀ b u, h.get? b = some u → h'.get? b = some u) : Un fs ex H H h h' :=
 ⟨fun b ob q _ _ _ => k b ob q, fun b ob q _ _ _ => ⟨ob.slots, k b ob q⟩, fun _ _ _ n _ => n, fun b ob q _ => ⟨ob, k b ob q⟩, fun _ _ q => q, fun _ _ _ q => q, fun _ ps q => ⟨#[], by rw [q]; simp⟩⟩
theorem Un.refl : Un fs ex H H h h := Un.kept fun _ _ q => q
theorem Un.laid (k : ∀ b u, h.get? b = some u → h'.get? b = some u) (hp : h.objs.size ≤ a) (hn : H a = none) : Un fs ex H (upd H a o) h h' where
 keep := fun b u q _ _ _ => k b u q
 slot := fun b u q _ _ _ => ⟨u.slots, k b u q⟩
 free := fun b u q n _ => by rw [upd_ne (Nat.ne_of_lt (Nat.lt_of_lt_of_le (Heap.lt_size q) hp))]; exact n
 there := fun b u q _ => ⟨u, k b u q⟩
 tups := fun b xs q => by rw [upd_ne (ne_of_none q hn)]; exact q
 frzs := fun b u xs q => by rw [upd_ne (ne_of_none q hn)]; exact q
 tbls := fun b ps q => ⟨#[], by rw [upd_ne (ne_of_none q hn), q]; simp⟩
theorem Un.write (mu : Mut (H x)) (he : e = x ∨ H e = some (.own x)) (k : ∀ b u, b ≠ e → h.get? b = some u → h'.get? b = some u) (heo : ∃ u, h'.get? e = some u) : Un fs ex H (upd H x o) h h' := by
 have hx : ∀ b, H b = none → b ≠ x := fun b n z => by subst z; rw [n] at mu; exact mu
 have hb : ∀ b, H b = none → b ≠ e := fun b n z => by
  subst z
  rcases he with r | r
  ·exact hx b n r
  ·rw [n] at r; cases r
 have hm : ∀ b u, H b = some u → ¬ Mut (some u) → b ≠ x := fun b u q nm z => by subst z; rw [q] at mu; exact nm mu
 refine ⟨fun b u q n _ _ => k b u (hb b n) q, fun b u q n _ _ => ⟨u.slots, k b u (hb b n) q⟩, fun b u q n _ => by rw [upd_ne (hx b n)]; exact n, fun b u q _ => ?_,
  fun b xs q => by rw [upd_ne (hm b _ q fun z => z)]; exact q, fun b u xs q => by rw [upd_ne (hm b _ q fun z => z)]; exact q, fun b ps q => ⟨#[], by rw [upd_ne (hm b _ q fun z => z), q]; simp⟩⟩
 by_cases hbe : b = e
 ·subst hbe; exact heo
 ·exact ⟨u, k b u hbe q⟩
end
def trk (h : Heap) (H : Hp) : List Addr := (List.range h.objs.size).filter fun a => (H a).isSome
def hidT (h : Heap) (H : Hp) : Heap := PySem.W.hideAll h (trk h H)
theorem hidT_size (h : Heap) (H : Hp) : (hidT h H).objs.size = h.objs.size := PySem.W.hideAll_size _ _
theorem hidT_get {h : Heap} {H : Hp} {b : Addr} {o : Obj} (e : h.get? b = some o) (n : H b = none) : (hidT h H).get? b = some o :=
 PySem.W.hideAll_get _ e fun hm => by
  have q : (H b).isSome = true := (List.mem_filter.mp hm).2
  rw [n] at q; simp at q
theorem of_hidT {h : Heap} {H : Hp} {b : Addr} {o : Obj} (e : (hidT h H).get? b = some o) : h.get? b = some o ∧ H b = none := by
 have e' : h.get? b = some o := PySem.W.of_hideAll (trk h H) e
 refine ⟨e', ?_⟩
 cases q : H b with
 | none => rfl
 | some x =>
  have hm : b ∈ trk h H := List.mem_filter.mpr ⟨List.mem_range.mpr (Heap.lt_size e'), by simp [q]⟩
  have z : (hidT h H).get? b = none := PySem.W.hideAll_none (trk h H) hm
  rw [z] at e; cases e
def allNews (g h : Heap) (L : Addr) : List (Addr × Obj) := (List.range h.objs.size).filterMap fun a => if a = L ∨ (g.get? a).isSome = true then none else (h.get? a).map fun o => (a, o)
def rest (g h : Heap) (L d : Addr) : List (Addr × Obj) := (allNews g h L).filter fun p => decide (p.1 ≠ d)
end L2
namespace L2
open PySem PySem.Spec PyProof.Rows
structure Mod (K : PySem.W.Frag) (mg : Str → Option Value) (base : Heap) : Prop where
 kin : K.In base
 glob : base.Ns mainGlobals mg
 blt : ∃ mb, base.Ns builtinsNs mb ∧ ∀ x : Str, x ≠ "__name__" → mb x = bootBuiltins x
 nolimit : base.NoLimit
structure Cx where
 prog : Program
 w : World
 K : PySem.W.Frag
 mg : Str → Option Value
 base : Heap
 A : Around
 N : List Str
 s₀ : Shared
 H₀ : Hp
 env : Env
 outer : List Env
 stack : List Env
 ex : List Addr
 fn : Str → Bool
 calm : Bool
 pn : List (Addr × Obj)
 xe : Value → Shared → Prop
def frs (l : List Env) : List Addr := l.filterMap (·.frame)
abbrev Cx.fs (X : Cx) : List Addr := frs X.outer
def Vis (sc : Scope) (x : Str) : Prop := sc.names.lookup x = some .local ∨ sc.names.lookup x = some .cell ∨ sc.names.lookup x = some .free
def Loc (sc : Scope) (x : Str) : Prop := sc.names.lookup x = some .local ∨ sc.names.lookup x = some .cell
def Look (env : Env) (h : Heap) (m : Str → Option Value) (x : Str) (u : Value) : Prop :=
 (env.kindOf x = some .local ∧ m x = some u) ∨ ((env.kindOf x = some .cell ∨ env.kindOf x = some .free) ∧ ∃ c, env.cells.lookup x = some c ∧ h.IsCell c (some u))
structure Cx.Ok (X : Cx) : Prop where
 mod : Mod X.K X.mg X.base
 kind : X.env.scope.kind = .function
 glob : X.env.globals = mainGlobals
 blt : X.env.builtins = builtinsNs
 above : X.s₀.heap.objs.size ≤ X.env.locals
 inj : ∀ x y c, X.env.cells.lookup x = some c → X.env.cells.lookup y = some c → x = y
 has : ∀ x, (X.env.kindOf x = some .cell ∨ X.env.kindOf x = some .free) → ∃ c, X.env.cells.lookup x = some c
 cab : ∀ x c, X.fn x = true → X.env.cells.lookup x = some c → X.s₀.heap.objs.size ≤ c
 hd : X.calm = true → X.A.handled = none
 frames : X.A.frames = some X.stack
 stk : X.stack = X.outer ∨ (X.stack = X.env :: X.outer ∧ X.env.frame = some X.env.locals)
 exf : ∀ b ∈ X.ex, b ≠ X.env.locals ∧ ∀ x c, X.env.cells.lookup x = some c → c ≠ b
 bs : ∀ b o, X.base.get? b = some o → X.s₀.heap.get? b = some o ∧ X.H₀ b = none
 bsz : X.base.objs.size ≤ X.s₀.heap.objs.size
 noex : ∀ b o, X.base.get? b = some o → b ∉ X.ex
 exfs : ∀ b ∈ X.ex, b ∉ X.fs
 funs : X.s₀.heap.FunFrames X.base X.outer
 frf : ∀ b ∈ X.fs, X.H₀ b = none
structure Inv (X : Cx) (pins : List (Addr × Obj)) (σ : List (Option V)) (H : Hp) (s : Shared) : Prop where
 ok : X.Ok
 os : s.os = X.s₀.os
 bare : AllBare s.gens
 base : Un X.fs X.ex X.H₀ H X.s₀.heap s.heap
 loc : ∃ m, s.heap.Ns X.env.locals m ∧ ∀ (i : Nat) (x : Str) (v : V), X.N[i]? = some x → σ[i]? = some (some v) → Vis X.env.scope x → ∃ u, RelV v u ∧ Look X.env s.heap m x u
 cell : ∀ x c, X.env.cells.lookup x = some c → ∃ v, s.heap.IsCell c v
 free : H X.env.locals = none
 freeC : ∀ x c, X.env.cells.lookup x = some c → H c = none
 pin : ∀ p ∈ X.pn ++ pins, s.heap.get? p.1 = some p.2 ∧ H p.1 = none ∧ p.1 ≠ X.env.locals ∧ p.1 ∉ X.fs ∧ ∀ v, p.2.data ≠ .cell v
 hok : HOk X.prog X.w H s.heap
 len : σ.length = X.N.length
section
variable {X: Cx}{pins: List (Addr × Obj)}{σ: List (Option V)}{H H': Hp}{s: Shared}{h': Heap}
theorem Cx.Ok.nofr (ok : X.Ok) {b : Addr} {o : Obj} (e : X.base.get? b = some o) : b ∉ X.fs := fun hb => by
 have := (ok.funs.mem hb).1
 rw [e] at this; cases this
theorem Inv.bs (I : Inv X pins σ H s) : ∀ b o, X.base.get? b = some o → s.heap.get? b = some o ∧ H b = none := fun b o e =>
 ⟨I.base.keep b o (I.ok.bs b o e).1 (I.ok.bs b o e).2 (I.ok.nofr e) (I.ok.noex b o e), I.base.free b o (I.ok.bs b o e).1 (I.ok.bs b o e).2 (I.ok.noex b o e)⟩
theorem Inv.bk (I : Inv X pins σ H s) : ∀ b o, X.base.get? b = some o → s.heap.get? b = some o := fun b o e => (I.bs b o e).1
theorem Inv.mod (I : Inv X pins σ H s) : Mod X.K X.mg X.base := I.ok.mod
theorem Inv.kIn (I : Inv X pins σ H s) : X.K.In s.heap := I.ok.mod.kin.keeps I.bk
theorem Inv.lt (I : Inv X pins σ H s) : X.env.locals < s.heap.objs.size := let ⟨_, hn, _⟩ := I.loc; hn.lt
theorem Inv.sz (I : Inv X pins σ H s) : X.s₀.heap.objs.size ≤ s.heap.objs.size := Nat.le_trans I.ok.above (Nat.le_of_lt I.lt)
theorem Inv.nofs (I : Inv X pins σ H s) {a : Addr} (h : s.heap.objs.size ≤ a) : a ∉ X.fs := fun hb => by
 obtain ⟨_, o, ho, _⟩ := I.ok.funs.mem hb
 exact absurd (Nat.lt_of_lt_of_le (Heap.lt_size ho) (Nat.le_trans I.sz h)) (Nat.lt_irrefl _)
theorem Inv.cne (I : Inv X pins σ H s) : ∀ x c, X.env.cells.lookup x = some c → c ≠ X.env.locals := fun x c e z => by
 obtain ⟨v, o, ho, hd⟩ := I.cell x c e
 obtain ⟨m, ⟨o', es, ep, ho', hd', _⟩, _⟩ := I.loc
 rw [z, ho'] at ho; cases ho; rw [hd'] at hd; cases hd
theorem Inv.funs (I : Inv X pins σ H s) : s.heap.FunFrames X.base X.outer := by
 have all : ∀ (l : List Env), (∀ b ∈ frs l, b ∈ X.fs) → X.s₀.heap.FunFrames X.base l → s.heap.FunFrames X.base l := by
  intro l
  induction l with
  | nil => intro _ _; trivial
  | cons env r ih =>
   intro hs hl
   obtain ⟨hk, ⟨L, o, hf, hn, ho, hd⟩, hr⟩ := hl
   have hL : L ∈ X.fs := hs L (by unfold frs; rw [List.filterMap_cons, hf]; exact List.mem_cons_self)
   obtain ⟨sl, e⟩ := I.base.slot L o ho (I.ok.frf L hL) hL fun z => I.ok.exfs L z hL
   exact ⟨hk, ⟨L, _, hf, hn, e, hd⟩, ih (fun b hb => hs b (by unfold frs; rw [List.filterMap_cons, hf]; exact List.mem_cons_of_mem _ hb)) hr⟩
 exact all X.outer (fun _ hb => hb) I.ok.funs
theorem Inv.stack (I : Inv X pins σ H s) : s.heap.FunFrames X.base X.stack := by
 rcases I.ok.stk with e | ⟨e, hf⟩
 ·rw [e]; exact I.funs
 ·rw [e]
  obtain ⟨m, hn, _⟩ := I.loc
  refine .cons (by rw [I.ok.kind]; decide) hf hn ?_ I.funs
  exact Heap.get?_none_of_le (Nat.le_trans I.ok.bsz I.ok.above)
theorem Inv.stkSub (I : Inv X pins σ H s) : ∀ b ∈ frs X.stack, b ∈ X.env.locals :: X.fs := fun b hb => by
 rcases I.ok.stk with e | ⟨e, hf⟩
 ·rw [e] at hb; exact List.mem_cons_of_mem _ hb
 ·rw [e] at hb
  unfold frs at hb
  rw [List.filterMap_cons, hf] at hb
  exact hb
theorem Inv.stkFree (I : Inv X pins σ H s) : ∀ b ∈ frs X.stack, H b = none := fun b hb => by
 rcases List.mem_cons.mp (I.stkSub b hb) with e | hb
 ·rw [e]; exact I.free
 ·obtain ⟨_, o, ho, _⟩ := I.ok.funs.mem hb
  exact I.base.free b o ho (I.ok.frf b hb) fun z => I.ok.exfs b z hb
theorem Inv.step {g' : Array GenState} {t' : Nat} {d' : Drawn} {ch : List Addr} (I : Inv X pins σ H s)
  (hch : ∀ b ∈ ch, (b ∈ X.ex ∨ X.s₀.heap.objs.size ≤ b) ∧ b ≠ X.env.locals ∧ (∀ x c, X.env.cells.lookup x = some c → c ≠ b) ∧ ∀ p ∈ X.pn ++ pins, p.1 ≠ b)
  (keep : ∀ b o, b ≠ X.env.locals → b ∉ X.fs → b ∉ ch → s.heap.get? b = some o → H b = none → h'.get? b = some o)
  (slot : ∀ b o, b ≠ X.env.locals → b ∈ X.fs → b ∉ ch → s.heap.get? b = some o → H b = none → ∃ sl, h'.get? b = some { o with slots := sl }) (free : ∀ b o, b ∉ ch → s.heap.get? b = some o → H b = none → H' b = none)
  (there : ∀ b o, b ∉ ch → s.heap.get? b = some o → ∃ o', h'.get? b = some o')
  (tups : ∀ b xs, H b = some (.tup xs) → H' b = some (.tup xs)) (frzs : ∀ b o u, H b = some (.frz o u) → H' b = some (.frz o u)) (tbls : ∀ b ps, H b = some (.tbl ps) → ∃ more, H' b = some (.tbl (ps ++ more)))
  (ns : ∀ m, s.heap.Ns X.env.locals m → h'.Ns X.env.locals m) (hok : HOk X.prog X.w H' h') (hg : AllBare g') :
  Inv X pins σ H' { s with heap := h', gens := g', drawn := d', toks := t' } := by
 have neL : ∀ b o, X.s₀.heap.get? b = some o → b ≠ X.env.locals := fun b o e => Nat.ne_of_lt (Nat.lt_of_lt_of_le (Heap.lt_size e) I.ok.above)
 have neC : ∀ b o, X.s₀.heap.get? b = some o → b ∉ X.ex → b ∉ ch := fun b o e hx hb => by
  rcases (hch b hb).1 with z | z
  ·exact hx z
  ·exact absurd (Nat.lt_of_lt_of_le (Heap.lt_size e) z) (Nat.lt_irrefl _)
 have cellK : ∀ x c, X.env.cells.lookup x = some c → ∀ v, s.heap.IsCell c v → h'.IsCell c v := fun x c e v ⟨o, ho, hd⟩ => by
  have nch : c ∉ ch := fun z => (hch c z).2.2.1 x c e rfl
  by_cases hc : c ∈ X.fs
  ·obtain ⟨sl, q⟩ := slot c o (I.cne x c e) hc nch ho (I.freeC x c e)
   exact ⟨_, q, hd⟩
  ·exact ⟨o, keep c o (I.cne x c e) hc nch ho (I.freeC x c e), hd⟩
 refine ⟨I.ok, I.os, hg, ⟨fun b o e n hb hx => ?_, fun b o e n hb hx => ?_, fun b o e n hx => ?_, fun b o e hx => ?_, fun b xs e => tups b xs (I.base.tups b xs e), fun b o xs e => frzs b o xs (I.base.frzs b o xs e), fun b ps e => ?_⟩, ?_, fun x c e => ?_, ?_, fun x c e => ?_, fun p hp => ?_, hok, I.len⟩
 ·exact keep b o (neL b o e) hb (neC b o e hx) (I.base.keep b o e n hb hx) (I.base.free b o e n hx)
 ·obtain ⟨sl, e1⟩ := I.base.slot b o e n hb hx
  obtain ⟨sl', e2⟩ := slot b _ (neL b o e) hb (neC b o e hx) e1 (I.base.free b o e n hx)
  exact ⟨sl', e2⟩
 ·obtain ⟨o', e1⟩ := I.base.there b o e hx
  exact free b o' (neC b o e hx) e1 (I.base.free b o e n hx)
 ·obtain ⟨o', e1⟩ := I.base.there b o e hx
  exact there b o' (neC b o e hx) e1
 ·obtain ⟨m1, e1⟩ := I.base.tbls b ps e
  obtain ⟨m2, e2⟩ := tbls b _ e1
  exact ⟨m1 ++ m2, by rw [e2, Array.append_assoc]⟩
 ·obtain ⟨m, hn, hl⟩ := I.loc
  refine ⟨m, ns m hn, fun i x v e1 e2 e3 => ?_⟩
  obtain ⟨u, r, l⟩ := hl i x v e1 e2 e3
  refine ⟨u, r, ?_⟩
  rcases l with l | ⟨k, c, e, z⟩
  ·exact .inl l
  ·exact .inr ⟨k, c, e, cellK x c e _ z⟩
 ·obtain ⟨v, z⟩ := I.cell x c e
  exact ⟨v, cellK x c e v z⟩
 ·obtain ⟨m, ⟨o, _, _, ho, _⟩, _⟩ := I.loc
  exact free _ o (fun z => (hch _ z).2.1 rfl) ho I.free
 ·obtain ⟨v, o, ho, hd⟩ := I.cell x c e
  exact free c o (fun z => (hch c z).2.2.1 x c e rfl) ho (I.freeC x c e)
 ·obtain ⟨e, n, ne, nf, d⟩ := I.pin p hp
  have nch : p.1 ∉ ch := fun z => (hch p.1 z).2.2.2 p hp rfl
  exact ⟨keep p.1 p.2 ne nf nch e n, free p.1 p.2 nch e n, ne, nf, d⟩
theorem Inv.un {t' : Nat} (I : Inv X pins σ H s) (u : Un X.fs [] H H' s.heap h') (hok : HOk X.prog X.w H' h') : Inv X pins σ H' { s with heap := h', toks := t' } := by
 obtain ⟨m, ⟨o, es, ep, ho, r⟩, _⟩ := id I.loc
 obtain ⟨sl, hL⟩ := u.any ho I.free (by simp)
 exact I.step (g' := s.gens) (d' := s.drawn) (ch := []) (fun _ z => nomatch z) (fun b o _ hb _ e n => u.keep b o e n hb (by simp)) (fun b o _ hb _ e n => u.slot b o e n hb (by simp)) (fun b o _ e n => u.free b o e n (by simp)) (fun b o _ e => u.there b o e (by simp)) u.tups u.frzs u.tbls (fun m' hm => by
  obtain ⟨o', es', ep', ho', r'⟩ := hm
  rw [ho] at ho'; cases ho'
  exact ⟨_, es', ep', hL, r'⟩) hok I.bare
theorem Inv.call {g' : Array GenState} {t' : Nat} {d' : Drawn} {ch : List Addr} (I : Inv X pins σ H s) (u : Un (frs X.stack) ch H H' s.heap h') (hok : HOk X.prog X.w H' h') (hg : AllBare g')
  (hch : ∀ b ∈ ch, (b ∈ X.ex ∨ X.s₀.heap.objs.size ≤ b) ∧ b ≠ X.env.locals ∧ (∀ x c, X.env.cells.lookup x = some c → c ≠ b) ∧ ∀ p ∈ X.pn ++ pins, p.1 ≠ b) :
  Inv X pins σ H' { s with heap := h', gens := g', drawn := d', toks := t' } := by
 obtain ⟨m, ⟨o, es, ep, ho, r⟩, _⟩ := id I.loc
 obtain ⟨sl, hL⟩ := u.any ho I.free fun z => (hch _ z).2.1 rfl
 exact I.step (ch := ch) hch (fun b o hL hb hc e n => u.keep b o e n (fun z => (List.mem_cons.mp (I.stkSub b z)).elim hL hb) hc) (fun b o _ _ hc e n => u.any e n hc) (fun b o hc e n => u.free b o e n hc) (fun b o hc e => u.there b o e hc) u.tups u.frzs u.tbls (fun m' hm => by
  obtain ⟨o', es', ep', ho', r'⟩ := hm
  rw [ho] at ho'; cases ho'
  exact ⟨_, es', ep', hL, r'⟩) hok hg
theorem Inv.turned {t' : Nat} {it : Addr} (I : Inv X pins σ H s) (k : ∀ b o, b ≠ it → s.heap.get? b = some o → h'.get? b = some o) (hn : H it = none) (hL : it ≠ X.env.locals)
  (h1 : it ∈ X.ex ∨ X.s₀.heap.objs.size ≤ it) (h2 : ∀ x c, X.env.cells.lookup x = some c → c ≠ it) (h3 : ∀ p ∈ X.pn ++ pins, p.1 ≠ it) : Inv X pins σ H { s with heap := h', toks := t' } := by
 have nit : ∀ b u, H b = some u → b ≠ it := fun b u e z => by rw [z, hn] at e; cases e
 refine I.step (g' := s.gens) (d' := s.drawn) (ch := [it]) (fun b hb => ?_) (fun b o _ _ hc e _ => k b o (fun z => hc (by simp [z])) e) (fun b o _ _ hc e _ => ⟨o.slots, k b o (fun z => hc (by simp [z])) e⟩) (fun _ _ _ _ n => n)
  (fun b o hc e => ⟨o, k b o (fun z => hc (by simp [z])) e⟩) (fun _ _ e => e) (fun _ _ _ e => e) (fun b ps e => ⟨#[], by rw [e]; simp⟩) (fun m hm => ?_) (fun b u e => ?_) I.bare
 ·have e : b = it := by simpa using hb
  subst e
  exact ⟨h1, hL, h2, h3⟩
 ·obtain ⟨o, es, ep, ho, r⟩ := hm
  exact ⟨o, es, ep, k _ o (Ne.symm hL) ho, r⟩
 ·refine (I.hok b u e).stay (fun c v hc q => k c v ?_ q) (fun _ q => q) fun _ _ q => q
  rcases hc with z | z
  ·rw [z]; exact nit b u e
  ·exact nit c _ z
theorem Inv.tok (I : Inv X pins σ H s) (t : Nat) : Inv X pins σ H { s with toks := t } := I.un (h' := s.heap) (t' := t) Un.refl I.hok
theorem Inv.kept {t' : Nat} (I : Inv X pins σ H s) (k : ∀ b u, s.heap.get? b = some u → h'.get? b = some u) : Inv X pins σ H { s with heap := h', toks := t' } := I.un (Un.kept k) (I.hok.kept k)
theorem Inv.laid {a : Addr} {o : HO} {t' : Nat} (I : Inv X pins σ H s) (k : ∀ b u, s.heap.get? b = some u → h'.get? b = some u) (hp : s.heap.objs.size ≤ a) (new : ObjOk X.prog X.w (upd H a o) h' a o) :
  Inv X pins σ (upd H a o) { s with heap := h', toks := t' } := I.un (Un.laid k hp (I.hok.fresh hp)) (I.hok.laid k hp new)
theorem Inv.write {x e : Addr} {o : HO} {t' : Nat} (I : Inv X pins σ H s) (mu : Mut (H x)) (he : e = x ∨ H e = some (.own x)) (k : ∀ b u, b ≠ e → s.heap.get? b = some u → h'.get? b = some u) (heo : ∃ u, h'.get? e = some u)
  (new : ObjOk X.prog X.w (upd H x o) h' x o) : Inv X pins σ (upd H x o) { s with heap := h', toks := t' } := I.un (Un.write mu he k heo) (I.hok.write mu he k heo new)
theorem Inv.pins_of {pins' : List (Addr × Obj)} (I : Inv X pins σ H s) (h : ∀ p ∈ pins', s.heap.get? p.1 = some p.2 ∧ H p.1 = none ∧ p.1 ≠ X.env.locals ∧ p.1 ∉ X.fs ∧ ∀ v, p.2.data ≠ .cell v) : Inv X pins' σ H s :=
 ⟨I.ok, I.os, I.bare, I.base, I.loc, I.cell, I.free, I.freeC, fun p hp => (List.mem_append.mp hp).elim (fun z => I.pin p (List.mem_append_left _ z)) (h p), I.hok, I.len⟩
theorem nodup_ix {N : List Str} (hN : N.Nodup) {i j : Nat} {x : Str} (a : N[i]? = some x) (b : N[j]? = some x) : i = j := by
 obtain ⟨h1, e1⟩ := List.getElem?_eq_some_iff.mp a
 obtain ⟨h2, e2⟩ := List.getElem?_eq_some_iff.mp b
 exact (List.getElem_inj hN).mp (e1.trans e2.symm)
theorem store_ok2 {M : Model} {A : Around} {E : Value → Shared → Prop} {i : Nat} {x : Str} {v : V} {u : Value} {Q : Unit → Shared → Prop} (I : Inv X pins σ H s) (hN : X.N.Nodup) (hi : X.N[i]? = some x) (hx : Loc X.env.scope x) (r : RelV v u)
  (h : ∀ s', Inv X pins (σ.set i (some v)) H s' → (∃ a, Heap.SameBut a s.heap s'.heap ∧ (a = X.env.locals ∨ X.env.cells.lookup x = some a)) → Q () s') (hf : X.fn x = true ∨ X.env.scope.names.lookup x = some .local := by first | exact .inl rfl | exact .inr rfl | assumption) : wpAny M A (storeName X.env x u) Q E s := by
 obtain ⟨m, hn, hl⟩ := id I.loc
 have hcls : (X.env.scope.kind == .class || (X.env.scope.kind == .module && X.env.locals != X.env.globals)) = false := by rw [I.ok.kind]; rfl
 have hiσ : i < σ.length := by rw [I.len]; exact (List.getElem?_eq_some_iff.mp hi).1
 have cne := I.cne
 have tracked : ∀ {a : Addr} {h' : Heap}, (∃ o, s.heap.get? a = some o ∧ H a = none) → Heap.SameBut a s.heap h' → HOk X.prog X.w H h' := fun {a h'} ha hs b ob e => by
  obtain ⟨_, _, hfree⟩ := ha
  refine (I.hok b ob e).stay (fun c w' hc q => (hs.2 c ?_).trans q) (fun _ q => q) fun _ _ q => q
  rintro rfl
  rcases hc with rfl | hc
  ·rw [hfree] at e; cases e
  ·rw [hfree] at hc; cases hc
 rcases hx with hk | hk
 ·refine wpAny_storeName_local hk hn (fun h' hn' hs => ?_) hcls
  obtain ⟨oL, _, _, hoL, _⟩ := id hn
  refine h _ ⟨I.ok, I.os, I.bare, ⟨fun b o e n hb hx => ?_, fun b o e n hb hx => ?_, I.base.free, fun b o e hx => ?_, I.base.tups, I.base.frzs, I.base.tbls⟩, ⟨_, hn', fun j y v' e1 e2 e3 => ?_⟩, fun y c e => ?_, I.free, I.freeC, fun p hp => ?_, tracked ⟨oL, hoL, I.free⟩ hs, by simpa using I.len⟩ ⟨_, hs, .inl rfl⟩
  ·exact (hs.2 b (Nat.ne_of_lt (Nat.lt_of_lt_of_le (Heap.lt_size e) I.ok.above))).trans (I.base.keep b o e n hb hx)
  ·obtain ⟨sl, e1⟩ := I.base.slot b o e n hb hx
   exact ⟨sl, (hs.2 b (Nat.ne_of_lt (Nat.lt_of_lt_of_le (Heap.lt_size e) I.ok.above))).trans e1⟩
  ·obtain ⟨o', e1⟩ := I.base.there b o e hx
   exact ⟨o', (hs.2 b (Nat.ne_of_lt (Nat.lt_of_lt_of_le (Heap.lt_size e) I.ok.above))).trans e1⟩
  ·by_cases hj : j = i
   ·subst hj
    rw [hi] at e1; cases e1
    rw [List.getElem?_set_self hiσ] at e2
    cases e2
    exact ⟨u, r, .inl ⟨hk, by simp⟩⟩
   ·rw [List.getElem?_set_ne (Ne.symm hj)] at e2
    obtain ⟨u', r', q⟩ := hl j y v' e1 e2 e3
    refine ⟨u', r', ?_⟩
    rcases q with ⟨k, e⟩ | ⟨k, c, e, z⟩
    ·refine .inl ⟨k, ?_⟩
     have : y ≠ x := fun e => hj (nodup_ix hN e1 (e ▸ hi))
     simp [this, e]
    ·exact .inr ⟨k, c, e, z.sameBut hs (cne y c e)⟩
  ·obtain ⟨w', z⟩ := I.cell y c e
   exact ⟨w', z.sameBut hs (cne y c e)⟩
  ·obtain ⟨e, n, ne, nf, d⟩ := I.pin p hp
   exact ⟨(hs.2 p.1 ne).trans e, n, ne, nf, d⟩
 ·have hfn : X.fn x = true := by
   rcases hf with z | z
   ·exact z
   ·rw [z] at hk; cases hk
  obtain ⟨c, hc⟩ := I.ok.has x (.inl hk)
  obtain ⟨w', z⟩ := I.cell x c hc
  refine wpAny_storeName_cell I.ok.kind hk hc z (fun h' hc' hs => ?_)
  obtain ⟨oc, hoc, hocd⟩ := id z
  refine h { s with heap := h' } ⟨I.ok, I.os, I.bare, ⟨fun b o e n hb hx => ?_, fun b o e n hb hx => ?_, I.base.free, fun b o e hx => ?_, I.base.tups, I.base.frzs, I.base.tbls⟩, ⟨m, hn.sameBut hs (Ne.symm (cne x c hc)), fun j y v' e1 e2 e3 => ?_⟩, fun y c' e => ?_, I.free, I.freeC, fun p hp => ?_, tracked ⟨oc, hoc, I.freeC x c hc⟩ hs, by simpa using I.len⟩ ⟨c, hs, .inr hc⟩
  ·exact (hs.2 b (Nat.ne_of_lt (Nat.lt_of_lt_of_le (Heap.lt_size e) (I.ok.cab x c hfn hc)))).trans (I.base.keep b o e n hb hx)
  ·obtain ⟨sl, e1⟩ := I.base.slot b o e n hb hx
   exact ⟨sl, (hs.2 b (Nat.ne_of_lt (Nat.lt_of_lt_of_le (Heap.lt_size e) (I.ok.cab x c hfn hc)))).trans e1⟩
  ·obtain ⟨o', e1⟩ := I.base.there b o e hx
   exact ⟨o', (hs.2 b (Nat.ne_of_lt (Nat.lt_of_lt_of_le (Heap.lt_size e) (I.ok.cab x c hfn hc)))).trans e1⟩
  ·by_cases hj : j = i
   ·subst hj
    rw [hi] at e1; cases e1
    rw [List.getElem?_set_self hiσ] at e2
    cases e2
    exact ⟨u, r, .inr ⟨.inl hk, c, hc, hc'⟩⟩
   ·rw [List.getElem?_set_ne (Ne.symm hj)] at e2
    obtain ⟨u', r', q⟩ := hl j y v' e1 e2 e3
    refine ⟨u', r', ?_⟩
    rcases q with q | ⟨k, c', e, z'⟩
    ·exact .inl q
    ·refine .inr ⟨k, c', e, z'.sameBut hs ?_⟩
     rintro rfl
     exact hj (nodup_ix hN e1 (I.ok.inj _ _ _ e hc ▸ hi))
  ·by_cases hcc : c' = c
   ·subst hcc; exact ⟨_, hc'⟩
   ·obtain ⟨w2, z2⟩ := I.cell y c' e
    exact ⟨w2, z2.sameBut hs hcc⟩
  ·obtain ⟨e, n, ne, nf, d⟩ := I.pin p hp
   refine ⟨(hs.2 p.1 ?_).trans e, n, ne, nf, d⟩
   intro q
   rw [q, hoc] at e
   have q' : oc = p.2 := Option.some.inj e
   exact d w' (by rw [← q']; exact hocd)
theorem store_ok {M : Model} {A : Around} {E : Value → Shared → Prop} {i : Nat} {x : Str} {v : V} {u : Value} {Q : Unit → Shared → Prop} (I : Inv X pins σ H s) (hN : X.N.Nodup) (hi : X.N[i]? = some x) (hx : Loc X.env.scope x) (r : RelV v u)
  (h : ∀ s', Inv X pins (σ.set i (some v)) H s' → Q () s') (hf : X.fn x = true ∨ X.env.scope.names.lookup x = some .local := by first | exact .inl rfl | exact .inr rfl | assumption) : wpAny M A (storeName X.env x u) Q E s :=
 store_ok2 I hN hi hx r (fun s' I' _ => h s' I') hf
theorem Inv.call' {s' : Shared} {ch : List Addr} (I : Inv X pins σ H s) (ho : s'.os = s.os) (u : Un (frs X.stack) ch H H' s.heap s'.heap) (hok : HOk X.prog X.w H' s'.heap) (hg : AllBare s'.gens)
  (hch : ∀ b ∈ ch, (b ∈ X.ex ∨ X.s₀.heap.objs.size ≤ b) ∧ b ≠ X.env.locals ∧ (∀ x c, X.env.cells.lookup x = some c → c ≠ b) ∧ ∀ p ∈ X.pn ++ pins, p.1 ≠ b) : Inv X pins σ H' s' := by
 obtain ⟨h', g', d', t', o'⟩ := s'
 have e : o' = s.os := ho
 subst e
 exact I.call (g' := g') (t' := t') (d' := d') u hok hg hch
end
abbrev XK := Value → Option Addr → Hp → Prop
abbrev St := List (Option V)
abbrev VK := V → Hp → Prop
abbrev TE := St → Hp → VK → Prop
abbrev TT := St → Hp → (Bool → Hp → Prop) → Prop
abbrev TA := St → Hp → (List V → Hp → Prop) → Prop
structure Ends where
 nx : St → Hp → Prop
 rt : VK
 bk : St → Hp → Prop := fun _ _ => False
 ct : St → Hp → Prop := fun _ _ => False
abbrev TS := Ends → St → Hp → Prop
def EP (X : Cx) (pins : List (Addr × Obj)) (σ : St) (Q : VK) (u : Value) (s' : Shared) : Prop := ∃ v H', Inv X pins σ H' s' ∧ RelV v u ∧ Q v H'
def TP (X : Cx) (pins : List (Addr × Obj)) (σ : St) (Q : Bool → Hp → Prop) (b : Bool) (s' : Shared) : Prop := ∃ H', Inv X pins σ H' s' ∧ Q b H'
def AP (X : Cx) (pins : List (Addr × Obj)) (σ : St) (Q : List V → Hp → Prop) (us : List Value) (s' : Shared) : Prop := ∃ vs H', Inv X pins σ H' s' ∧ Vals vs us ∧ Q vs H'
def SP (X : Cx) (pins : List (Addr × Obj)) (D : Ends) (f : Flow) (s' : Shared) : Prop :=
 match f with
 | .next => ∃ σ' H', Inv X pins σ' H' s' ∧ D.nx σ' H'
 | .brk => ∃ σ' H', Inv X pins σ' H' s' ∧ D.bk σ' H'
 | .cont => ∃ σ' H', Inv X pins σ' H' s' ∧ D.ct σ' H'
 | .ret u => ∃ v σ' H', Inv X pins σ' H' s' ∧ RelV v u ∧ D.rt v H'
structure PE (X : Cx) (e : Expr) (t : TE) : Prop where
 run : ∀ (pins : List (Addr × Obj)) (s : Shared) (σ : St) (H : Hp) (Q : VK), Inv X pins σ H s → t σ H Q → wpAny (model X.prog X.w) X.A (eval e X.env) (EP X pins σ Q) X.xe s
instance {X : Cx} {e : Expr} {t : TE} : CoeFun (PE X e t) fun _ => ∀ (pins : List (Addr × Obj)) (s : Shared) (σ : St) (H : Hp) (Q : VK), Inv X pins σ H s → t σ H Q → wpAny (model X.prog X.w) X.A (eval e X.env) (EP X pins σ Q) X.xe s := ⟨PE.run⟩
structure PT (X : Cx) (e : Expr) (t : TT) : Prop where
 run : ∀ (pins : List (Addr × Obj)) (s : Shared) (σ : St) (H : Hp) (Q : Bool → Hp → Prop), Inv X pins σ H s → t σ H Q → wpAny (model X.prog X.w) X.A (isTrue e X.env (eval e X.env)) (TP X pins σ Q) X.xe s
instance {X : Cx} {e : Expr} {t : TT} : CoeFun (PT X e t) fun _ => ∀ (pins : List (Addr × Obj)) (s : Shared) (σ : St) (H : Hp) (Q : Bool → Hp → Prop), Inv X pins σ H s → t σ H Q → wpAny (model X.prog X.w) X.A (isTrue e X.env (eval e X.env)) (TP X pins σ Q) X.xe s := ⟨PT.run⟩
structure PW (X : Cx) (e : Expr) (t : TT) : Prop where
 run : ∀ (whole : Sem Value) (pins : List (Addr × Obj)) (s : Shared) (σ : St) (H : Hp) (Q : Bool → Hp → Prop), Inv X pins σ H s → t σ H Q → wpAny (model X.prog X.w) X.A (isTrue e X.env whole) (TP X pins σ Q) X.xe s
instance {X : Cx} {e : Expr} {t : TT} : CoeFun (PW X e t) fun _ => ∀ (whole : Sem Value) (pins : List (Addr × Obj)) (s : Shared) (σ : St) (H : Hp) (Q : Bool → Hp → Prop), Inv X pins σ H s → t σ H Q → wpAny (model X.prog X.w) X.A (isTrue e X.env whole) (TP X pins σ Q) X.xe s := ⟨PW.run⟩
theorem PW.pt {X : Cx} {e : Expr} {t : TT} (h : PW X e t) : PT X e t := ⟨h.run _⟩
structure PA (X : Cx) (es : List Expr) (t : TA) : Prop where
 run : ∀ (pos : Pos) (pins : List (Addr × Obj)) (s : Shared) (σ : St) (H : Hp) (Q : List V → Hp → Prop), Inv X pins σ H s → t σ H Q → wpAny (model X.prog X.w) X.A (spliced (backTo pos (starEach es X.env))) (AP X pins σ Q) X.xe s
instance {X : Cx} {es : List Expr} {t : TA} : CoeFun (PA X es t) fun _ => ∀ (pos : Pos) (pins : List (Addr × Obj)) (s : Shared) (σ : St) (H : Hp) (Q : List V → Hp → Prop), Inv X pins σ H s → t σ H Q → wpAny (model X.prog X.w) X.A (spliced (backTo pos (starEach es X.env))) (AP X pins σ Q) X.xe s := ⟨PA.run⟩
structure PS (X : Cx) (st : Stmt) (t : TS) : Prop where
 run : ∀ (pins : List (Addr × Obj)) (s : Shared) (σ : St) (H : Hp) (D : Ends), Inv X pins σ H s → t D σ H → wpAny (model X.prog X.w) X.A (exec st X.env) (SP X pins D) X.xe s
instance {X : Cx} {st : Stmt} {t : TS} : CoeFun (PS X st t) fun _ => ∀ (pins : List (Addr × Obj)) (s : Shared) (σ : St) (H : Hp) (D : Ends), Inv X pins σ H s → t D σ H → wpAny (model X.prog X.w) X.A (exec st X.env) (SP X pins D) X.xe s := ⟨PS.run⟩
structure PSs (X : Cx) (st : List Stmt) (t : TS) : Prop where
 run : ∀ (pins : List (Addr × Obj)) (s : Shared) (σ : St) (H : Hp) (D : Ends), Inv X pins σ H s → t D σ H → wpAny (model X.prog X.w) X.A (execs st X.env) (SP X pins D) X.xe s
instance {X : Cx} {st : List Stmt} {t : TS} : CoeFun (PSs X st t) fun _ => ∀ (pins : List (Addr × Obj)) (s : Shared) (σ : St) (H : Hp) (D : Ends), Inv X pins σ H s → t D σ H → wpAny (model X.prog X.w) X.A (execs st X.env) (SP X pins D) X.xe s := ⟨PSs.run⟩
theorem thn {α : Type} {t : Sem α} {Q Q' : α → Shared → Prop} {M : Model} {A : Around} {E : Value → Shared → Prop} {s : Shared} (h : wpAny M A t Q E s) (hQ : ∀ a s, Q a s → Q' a s) : wpAny M A t Q' E s := wpAny_mono h hQ fun _ _ x => x
end L2
namespace L2
open PySem PySem.Spec PyProof.Rows
section
variable {X: Cx}
def tVar (i : Nat) : TE := fun σ H Q => ∃ v, σ[i]? = some (some v) ∧ Q v H
def tC (v : V) : TE := fun _ H Q => Q v H
theorem pe_var {i : Nat} {x : Str} {pos : Pos} (hN : X.N[i]? = some x) (hv : Vis X.env.scope x) (hd : (x == ("__debug__" : Str)) = false := by decide) (hcd : (x == ("__classdict__" : Str)) = false := by decide) : PE X (.Name x pos) (tVar i) := by
 refine .mk ?_
 intro pins s σ H Q I h
 obtain ⟨v, e, h⟩ := h
 obtain ⟨m, hn, hl⟩ := I.loc
 obtain ⟨u, r, l⟩ := hl i x v hN e hv
 have fin : EP X pins σ Q u s := ⟨v, H, I, r, h⟩
 rcases l with ⟨hk, hm⟩ | ⟨hk, c, hc, hcell⟩
 ·exact wpAny_Name (wpAny_loadName_local I.ok.kind hk hn hm fin) hd
 ·rcases hk with hk | hk
  ·exact wpAny_Name (wpAny_loadName_cell I.ok.kind hk hc hcell fin) hd
  ·exact wpAny_Name (wpAny_loadName_free I.ok.kind hk hc hcell fin hcd) hd
theorem pe_int {i j pos} : PE X (.Constant (.int i) j pos) (tC (.int i)) := .mk fun _ _ _ H _ I h => wpAny_Constant_int ⟨.int i, H, I.tok _, ⟨_, rfl⟩, h⟩
theorem pe_bl {b j pos} : PE X (.Constant (.bool b) j pos) (tC (.bl b)) := .mk fun _ _ _ H _ I h => Constant_bool ⟨.bl b, H, I, rfl, h⟩
theorem pe_non {j pos} : PE X (.Constant .none j pos) (tC .non) := .mk fun _ _ _ H _ I h => Constant_none ⟨.non, H, I, rfl, h⟩
theorem pe_str {x j pos} : PE X (.Constant (.str x) j pos) (tC (.str x)) := .mk fun _ _ _ H _ I h => Calls.Constant_str ⟨.str x, H, I.tok _, ⟨_, rfl⟩, h⟩
def Gl (X : Cx) (x : Str) : Prop := X.env.kindOf x = some .globalImplicit
theorem ld_glob {E : Value → Shared → Prop} {pins : List (Addr × Obj)} {s : Shared} {σ : St} {H : Hp} {x : Str} {u : Value} {pos : Pos} {Q : Value → Shared → Prop} (I : Inv X pins σ H s) (hg : Gl X x) (hm : X.mg x = some u) (h : Q u s)
  (hd : (x == ("__debug__" : Str)) = false := by decide) : wpAny (model X.prog X.w) X.A (eval (.Name x pos) X.env) Q E s :=
 Calls.Name_function_global I.ok.kind hg (Calls.loadGlobal_global (by rw [I.ok.glob]; exact I.mod.glob.keeps I.bk) hm h) hd
theorem ld_blt {E : Value → Shared → Prop} {pins : List (Addr × Obj)} {s : Shared} {σ : St} {H : Hp} {x : Str} {u : Value} {pos : Pos} {Q : Value → Shared → Prop} (I : Inv X pins σ H s) (hg : Gl X x) (hm : X.mg x = none) (hv : bootBuiltins x = some u) (h : Q u s)
  (hn : x ≠ "__name__" := by decide) (hd : (x == ("__debug__" : Str)) = false := by decide) : wpAny (model X.prog X.w) X.A (eval (.Name x pos) X.env) Q E s := by
 obtain ⟨mb, h1, h2⟩ := I.mod.blt
 exact Calls.Name_function_global I.ok.kind hg (Calls.loadGlobal_builtin (by rw [I.ok.glob]; exact I.mod.glob.keeps I.bk) hm (by rw [I.ok.blt]; exact h1.keeps I.bk) ((h2 x hn).trans hv) h) hd
theorem pe_glob {x : Str} {v : V} {u : Value} {pos : Pos} (hg : Gl X x) (hm : X.mg x = some u) (r : RelV v u) (hd : (x == ("__debug__" : Str)) = false := by decide) : PE X (.Name x pos) (tC v) :=
 .mk fun _ _ _ H _ I h => ld_glob I hg hm ⟨v, H, I, r, h⟩ hd
theorem pe_bltn {x : Str} {v : V} {u : Value} {pos : Pos} (hg : Gl X x) (hm : X.mg x = none) (hv : bootBuiltins x = some u) (r : RelV v u) (hn : x ≠ "__name__" := by decide) (hd : (x == ("__debug__" : Str)) = false := by decide) : PE X (.Name x pos) (tC v) :=
 .mk fun _ _ _ H _ I h => ld_blt I hg hm hv ⟨v, H, I, r, h⟩ hn hd
variable {a b: Expr}{ta tb: TE}{pos: Pos}
structure PC (X : Cx) (op : CmpOp) (a b : Expr) (t : TE) : Prop where
 run : ∀ (pins : List (Addr × Obj)) (s : Shared) (σ : St) (H : Hp) (Q : VK), Inv X pins σ H s → t σ H Q →
  wpAny (model X.prog X.w) X.A (eval a X.env) (fun v s₁ => wpAny (model X.prog X.w) X.A (eval b X.env) (fun u s₂ => wpAny (model X.prog X.w) X.A (compareOp op v u) (EP X pins σ Q) X.xe s₂) X.xe s₁) X.xe s
instance {X : Cx} {op : CmpOp} {a b : Expr} {t : TE} : CoeFun (PC X op a b t) fun _ => ∀ (pins : List (Addr × Obj)) (s : Shared) (σ : St) (H : Hp) (Q : VK), Inv X pins σ H s → t σ H Q → wpAny (model X.prog X.w) X.A (eval a X.env) (fun v s₁ => wpAny (model X.prog X.w) X.A (eval b X.env) (fun u s₂ => wpAny (model X.prog X.w) X.A (compareOp op v u) (EP X pins σ Q) X.xe s₂) X.xe s₁) X.xe s := ⟨PC.run⟩
def tB (t : TE) : TT := fun σ H Q => t σ H fun x H1 => ∃ c, x = .bl c ∧ Q c H1
theorem pt_val {e : Expr} {t : TE} (h : PE X e t) (he : ∀ whole, isTrue e X.env whole = (do let v ← whole; standAt e.pos; holding [v] (truthy v)) := by intro _; rfl) : PT X e (tB t) := by
 refine .mk ?_
 intro pins s σ H Q I hw
 refine isTrue_plain (thn (h pins s σ H _ I hw) fun v s1 ⟨x, H1, I1, r1, q1⟩ => ?_) (he _)
 obtain ⟨d, rfl, q⟩ := q1
 cases r1
 exact wpAny_truthy_bool ⟨H1, I1, q⟩
variable {tA tB': TT}{rest: List Expr}
def tAnd (t u : TT) : TT := fun σ H Q => t σ H fun c H1 => if c = true then u σ H1 Q else Q false H1
def tOr (t u : TT) : TT := fun σ H Q => t σ H fun c H1 => if c = true then Q true H1 else u σ H1 Q
def tNot (t : TT) : TT := fun σ H Q => t σ H fun c H1 => Q (!c) H1
theorem pw_and1 (ha : PT X a tA) : PW X (.BoolOp .And [a] pos) tA := by
 refine .mk ?_
 intro wh pins s σ H Q I h
 refine isTrue_and (thn (ha pins s σ H Q I h) fun c s1 e => ?_)
 cases c with
 | true => exact isTrue_and_nil e
 | false => exact e
theorem pw_or1 (ha : PT X a tA) : PW X (.BoolOp .Or [a] pos) tA := by
 refine .mk ?_
 intro wh pins s σ H Q I h
 refine isTrue_or (thn (ha pins s σ H Q I h) fun c s1 e => ?_)
 cases c with
 | false => exact isTrue_or_nil e
 | true => exact e
theorem pw_and (ha : PT X a tA) (hb : PW X (.BoolOp .And (b :: rest) pos) tB') : PW X (.BoolOp .And (a :: b :: rest) pos) (tAnd tA tB') := by
 refine .mk ?_
 intro wh pins s σ H Q I h
 refine isTrue_and (thn (ha pins s σ H _ I h) fun c s1 ⟨H1, I1, q1⟩ => ?_)
 cases c with
 | true => exact hb wh pins s1 σ H1 Q I1 q1
 | false => exact ⟨H1, I1, q1⟩
theorem pw_or (ha : PT X a tA) (hb : PW X (.BoolOp .Or (b :: rest) pos) tB') : PW X (.BoolOp .Or (a :: b :: rest) pos) (tOr tA tB') := by
 refine .mk ?_
 intro wh pins s σ H Q I h
 refine isTrue_or (thn (ha pins s σ H _ I h) fun c s1 ⟨H1, I1, q1⟩ => ?_)
 cases c with
 | true => exact ⟨H1, I1, q1⟩
 | false => exact hb wh pins s1 σ H1 Q I1 q1
theorem pt_not (ha : PT X a tA) : PT X (.UnaryOp .Not a pos) (tNot tA) := by
 refine .mk ?_
 intro pins s σ H Q I h
 exact isTrue_not (ha pins s σ H (fun c H1 => Q (!c) H1) I h)
def tAndV (ta tb : TE) : TE := fun σ H Q => ta σ H fun x H1 => ∃ c, x = .bl c ∧ if c = true then tb σ H1 Q else Q (.bl false) H1
def tOrV (ta tb : TE) : TE := fun σ H Q => ta σ H fun x H1 => ∃ c, x = .bl c ∧ if c = true then Q (.bl true) H1 else tb σ H1 Q
def tNotV (ta : TE) : TE := fun σ H Q => ta σ H fun x H1 => ∃ c, x = .bl c ∧ Q (.bl (!c)) H1
theorem pe_one {op} {t : TE} (h : PE X a t) : PE X (.BoolOp op [a] pos) t := .mk fun pins s σ H Q I hw => BoolOp_one (h pins s σ H Q I hw)
theorem pe_and (ha : PE X a ta) (hb : PE X (.BoolOp .And (b :: rest) pos) tb) : PE X (.BoolOp .And (a :: b :: rest) pos) (tAndV ta tb) := by
 refine .mk ?_
 intro pins s σ H Q I h
 refine BoolOp_and (thn (ha pins s σ H _ I h) fun v s1 ⟨x, H1, I1, r1, q1⟩ => ?_)
 obtain ⟨c, rfl, q1⟩ := q1
 cases r1
 refine wpAny_truthy_bool ?_
 cases c with
 | true => exact hb pins s1 σ H1 Q I1 q1
 | false => exact ⟨.bl false, H1, I1, rfl, q1⟩
theorem pe_or (ha : PE X a ta) (hb : PE X (.BoolOp .Or (b :: rest) pos) tb) : PE X (.BoolOp .Or (a :: b :: rest) pos) (tOrV ta tb) := by
 refine .mk ?_
 intro pins s σ H Q I h
 refine BoolOp_or (thn (ha pins s σ H _ I h) fun v s1 ⟨x, H1, I1, r1, q1⟩ => ?_)
 obtain ⟨c, rfl, q1⟩ := q1
 cases r1
 refine wpAny_truthy_bool ?_
 cases c with
 | false => exact hb pins s1 σ H1 Q I1 q1
 | true => exact ⟨.bl true, H1, I1, rfl, q1⟩
theorem pe_not (ha : PE X a ta) : PE X (.UnaryOp .Not a pos) (tNotV ta) := by
 refine .mk ?_
 intro pins s σ H Q I h
 refine UnaryOp_ (thn (ha pins s σ H _ I h) fun v s1 ⟨x, H1, I1, r1, q1⟩ => ?_)
 obtain ⟨c, rfl, q1⟩ := q1
 cases r1
 exact not_of (wpAny_truthy_bool ⟨.bl (!c), H1, I1, rfl, q1⟩)
def tIf (t : TT) (ta tb : TE) : TE := fun σ H Q => t σ H fun c H1 => if c = true then ta σ H1 Q else tb σ H1 Q
theorem pe_ifExp {c : Expr} (hc : PT X c tA) (ha : PE X a ta) (hb : PE X b tb) : PE X (.IfExp c a b pos) (tIf tA ta tb) := by
 refine .mk ?_
 intro pins s σ H Q I h
 refine wpAny_IfExp (thn (hc pins s σ H _ I h) fun d s1 ⟨H1, I1, q1⟩ => ?_)
 cases d with
 | true => exact ha pins s1 σ H1 Q I1 q1
 | false => exact hb pins s1 σ H1 Q I1 q1
end
end L2
namespace L2
open PySem PySem.Spec PyProof.Rows
def SqL (K : PySem.W.Frag) (H : Hp) (a : Addr) (xs : List V) : Prop :=
 Rd H a (.lst xs) ∨
  ∃ (o : Obj) (its : Array Value) (n : Nat), K.lookup a = some o ∧ o.cls = .type "list" ∧ o.dict = none ∧ o.data = .seq its n ∧ its.size ≤ sizeLine ∧ Vals xs its.toList
def SqT (K : PySem.W.Frag) (H : Hp) (a : Addr) (xs : List V) : Prop :=
 Rd H a (.tup xs) ∨
  ∃ (o : Obj) (its : Array Value) (n : Nat), K.lookup a = some o ∧ o.cls = .type "tuple" ∧ o.data = .seq its n ∧ its.size ≤ sizeLine ∧ Vals xs its.toList
def absV : Value → Option V
 | .none => some .non
 | .bool b => some (.bl b)
 | .int i _ => some (.int i)
 | .str x _ => some (.str x)
 | .bytes b _ => some (.byt b)
 | .float b _ => some (.flt b)
 | .ref a => some (.ref a)
 | .type n => some (.ty n)
 | _ => none
theorem RelV.abs {x : V} {u : Value} (r : RelV x u) : absV u = some x := by
 cases x with
 | non => cases r; rfl
 | bl _ => cases r; rfl
 | int _ => obtain ⟨t, rfl⟩ := r; rfl
 | str _ => obtain ⟨t, rfl⟩ := r; rfl
 | byt _ => obtain ⟨t, rfl⟩ := r; rfl
 | flt _ => obtain ⟨t, rfl⟩ := r; rfl
 | ref _ => cases r; rfl
 | ty _ => cases r; rfl
theorem RelV.inj {x y : V} {u : Value} (r : RelV x u) (q : RelV y u) : x = y := Option.some.inj (r.abs.symm.trans q.abs)
theorem Vals.inj : ∀ {xs ys : List V} {us : List Value}, Vals xs us → Vals ys us → xs = ys
 | _, _, _, .nil, .nil => rfl
 | _, _, _, .cons r t, .cons r' t' => by rw [r.inj r', Vals.inj t t']
section
variable {X: Cx}{pins: List (Addr × Obj)}{σ: St}{H: Hp}{s: Shared}{a: Addr}{xs ys: List V}
theorem SqL.of {K : PySem.W.Frag} (h : H a = some (.lst xs)) : SqL K H a xs := .inl (.inl h)
theorem SqT.of {K : PySem.W.Frag} (h : H a = some (.tup xs)) : SqT K H a xs := .inl (.inl h)
theorem Inv.list (I : Inv X pins σ H s) (h : SqL X.K H a xs) : ∃ its : List Value, Vals xs its ∧ PlainL s.heap a its.toArray ∧ xs.length ≤ sizeLine := by
 rcases h with h | ⟨o, its, n, hk, hc, hd, hs, hz, r⟩
 ·obtain ⟨z, its, n, r, e⟩ := h.ok I.hok
  exact ⟨its, r, ⟨_, n, e, rfl, rfl, rfl⟩, z⟩
 ·refine ⟨its.toList, r, ⟨o, n, I.kIn a o hk, hc, hd, by simpa using hs⟩, ?_⟩
  have e := r.length
  simp only [Array.length_toList] at e
  omega
theorem Inv.tuple (I : Inv X pins σ H s) (h : SqT X.K H a xs) : ∃ its : List Value, Vals xs its ∧ IsTup s.heap a its.toArray ∧ xs.length ≤ sizeLine := by
 rcases h with h | ⟨o, its, n, hk, hc, hs, hz, r⟩
 ·obtain ⟨z, its, r, p⟩ := h.ok I.hok
  exact ⟨its, r, p, z⟩
 ·refine ⟨its.toList, r, ⟨o, I.kIn a o hk, hc, n, by simpa using hs⟩, ?_⟩
  have e := r.length
  simp only [Array.length_toList] at e
  omega
theorem Inv.list_inj (I : Inv X pins σ H s) (h : SqL X.K H a xs) (h' : SqL X.K H a ys) : xs = ys := by
 obtain ⟨its, r, ⟨o, n, e, _, _, d⟩, _⟩ := I.list h
 obtain ⟨its', r', ⟨o', n', e', _, _, d'⟩, _⟩ := I.list h'
 rw [e] at e'; cases e'
 rw [d] at d'
 injection d' with d1 _
 have : its = its' := by simpa using congrArg Array.toList d1
 subst this
 exact r.inj r'
theorem Inv.tuple_inj (I : Inv X pins σ H s) (h : SqT X.K H a xs) (h' : SqT X.K H a ys) : xs = ys := by
 obtain ⟨its, r, ⟨o, e, _, n, d⟩, _⟩ := I.tuple h
 obtain ⟨its', r', ⟨o', e', _, n', d'⟩, _⟩ := I.tuple h'
 rw [e] at e'; cases e'
 rw [d] at d'
 injection d' with d1 _
 have : its = its' := by simpa using congrArg Array.toList d1
 subst this
 exact r.inj r'
end
abbrev Cx.wish (X : Cx) (E : Value → Shared → Prop) : Cx := { X with xe := E }
abbrev Cx.nox (X : Cx) : Cx := X.wish fun _ _ => False
theorem Cx.Ok.wish {X : Cx} (ok : X.Ok) (E : Value → Shared → Prop) : (X.wish E).Ok :=
 ⟨ok.mod, ok.kind, ok.glob, ok.blt, ok.above, ok.inj, ok.has, ok.cab, ok.hd, ok.frames, ok.stk, ok.exf, ok.bs, ok.bsz, ok.noex, ok.exfs, ok.funs, ok.frf⟩
theorem Cx.Ok.unwish {X : Cx} {E : Value → Shared → Prop} (ok : (X.wish E).Ok) : X.Ok :=
 ⟨ok.mod, ok.kind, ok.glob, ok.blt, ok.above, ok.inj, ok.has, ok.cab, ok.hd, ok.frames, ok.stk, ok.exf, ok.bs, ok.bsz, ok.noex, ok.exfs, ok.funs, ok.frf⟩
section
variable {X: Cx}{pins: List (Addr × Obj)}{σ: St}{H: Hp}{s: Shared}{E: Value → Shared → Prop}
theorem Inv.wish (I : Inv X pins σ H s) (E : Value → Shared → Prop) : Inv (X.wish E) pins σ H s := ⟨I.ok.wish E, I.os, I.bare, I.base, I.loc, I.cell, I.free, I.freeC, I.pin, I.hok, I.len⟩
theorem Inv.unwish (I : Inv (X.wish E) pins σ H s) : Inv X pins σ H s := ⟨I.ok.unwish, I.os, I.bare, I.base, I.loc, I.cell, I.free, I.freeC, I.pin, I.hok, I.len⟩
theorem SP.unwish {D : Ends} {f : Flow} {s' : Shared} (h : SP (X.wish E) pins D f s') : SP X pins D f s' := by
 cases f with
 | next => obtain ⟨σ', H', I, q⟩ := h; exact ⟨σ', H', I.unwish, q⟩
 | brk => obtain ⟨σ', H', I, q⟩ := h; exact ⟨σ', H', I.unwish, q⟩
 | cont => obtain ⟨σ', H', I, q⟩ := h; exact ⟨σ', H', I.unwish, q⟩
 | ret u => obtain ⟨v, σ', H', I, r, q⟩ := h; exact ⟨v, σ', H', I.unwish, r, q⟩
theorem PSs.nox {st : List Stmt} {t : TS} (h : PSs X.nox st t) : PSs X st t := .mk fun pins s σ H D I hw =>
 wpAny_mono (h pins s σ H D (I.wish _) hw) (fun _ _ q => q.unwish) fun _ _ z => False.elim z
end
section
variable {X: Cx}{st: Stmt}{rest: List Stmt}{t u: TS}{e: Expr}{te: TE}{pos: Pos}
def tNext : TS := fun D σ H => D.nx σ H
def tSeq (t u : TS) : TS := fun D σ H => t { D with nx := u D } σ H
theorem pss_nil : PSs X [] tNext := .mk fun _ _ σ H _ I h => wpAny_execs_nil ⟨σ, H, I, h⟩
theorem pss_cons (h1 : PS X st t) (h2 : PSs X rest u) : PSs X (st :: rest) (tSeq t u) := by
 refine .mk ?_
 intro pins s σ H D I h
 refine wpAny_execs_cons (thn (h1 pins s σ H { D with nx := u D } I h) fun f s1 q => ?_)
 cases f with
 | next =>
  obtain ⟨σ', H', I', q⟩ := q
  exact h2 pins s1 σ' H' D I' q
 | ret v => exact q
 | brk => exact q
 | cont => exact q
theorem Inv.quiet {pins : List (Addr × Obj)} {σ : St} {H : Hp} {s : Shared} (I : Inv X pins σ H s) : interactive X.env = false := by simp [interactive, I.ok.kind]
def tDrop (te : TE) : TS := fun D σ H => te σ H fun _ H1 => D.nx σ H1
theorem ps_expr (he : PE X e te) (hs : swapsWith e none pos.line X.env = pure false := by rfl) : PS X (.Expr e pos) (tDrop te) := by
 refine .mk ?_
 intro pins s σ H D I h
 exact wpAny_Expr_any (thn (he pins s σ H _ I h) fun v s1 ⟨x, H1, I1, r1, q1⟩ => ⟨σ, H1, I1, q1⟩) I.quiet hs
def tRet (te : TE) : TS := fun D σ H => te σ H D.rt
theorem ps_ret (he : PE X e te) : PS X (.Return (some e) pos) (tRet te) := by
 refine .mk ?_
 intro pins s σ H D I h
 exact wpAny_Return_some (thn (he pins s σ H _ I h) fun v s1 ⟨x, H1, I1, r1, q1⟩ => ⟨x, σ, H1, I1, r1, q1⟩)
def tIfS (c : TT) (t u : TS) : TS := fun D σ H => c σ H fun b H1 => if b = true then t D σ H1 else u D σ H1
theorem ps_if {c : Expr} {a b : List Stmt} {tc : TT} (hc : PT X c tc) (ha : PSs X a t) (hb : PSs X b u) : PS X (.If c a b pos) (tIfS tc t u) := by
 refine .mk ?_
 intro pins s σ H D I h
 refine wpAny_If (thn (hc pins s σ H _ I h) fun d s1 ⟨H1, I1, q1⟩ => ?_)
 cases d with
 | true => exact ha pins s1 σ H1 D I1 q1
 | false => exact hb pins s1 σ H1 D I1 q1
end
abbrev TG := V → St → Hp → (St → Hp → Prop) → Prop
abbrev TGs := List V → St → Hp → (St → Hp → Prop) → Prop
structure PG (X : Cx) (target : Expr) (t : TG) : Prop where
 run : ∀ (pins : List (Addr × Obj)) (s : Shared) (σ : St) (H : Hp) (v : V) (u : Value) (Q : St → Hp → Prop), Inv X pins σ H s → RelV v u → t v σ H Q →
  wpAny (model X.prog X.w) X.A (assign target X.env u) (fun _ s' => ∃ σ' H', Inv X pins σ' H' s' ∧ Q σ' H') X.xe s
instance {X : Cx} {target : Expr} {t : TG} : CoeFun (PG X target t) fun _ => ∀ (pins : List (Addr × Obj)) (s : Shared) (σ : St) (H : Hp) (v : V) (u : Value) (Q : St → Hp → Prop), Inv X pins σ H s → RelV v u → t v σ H Q → wpAny (model X.prog X.w) X.A (assign target X.env u) (fun _ s' => ∃ σ' H', Inv X pins σ' H' s' ∧ Q σ' H') X.xe s := ⟨PG.run⟩
structure PGs (X : Cx) (ts : List Expr) (t : TGs) : Prop where
 run : ∀ (pins : List (Addr × Obj)) (s : Shared) (σ : St) (H : Hp) (vs : List V) (us : List Value) (Q : St → Hp → Prop), Inv X pins σ H s → Vals vs us → t vs σ H Q →
  wpAny (model X.prog X.w) X.A (assignInOrder ((assignEach ts X.env).map (·.2)) us) (fun _ s' => ∃ σ' H', Inv X pins σ' H' s' ∧ Q σ' H') X.xe s
instance {X : Cx} {ts : List Expr} {t : TGs} : CoeFun (PGs X ts t) fun _ => ∀ (pins : List (Addr × Obj)) (s : Shared) (σ : St) (H : Hp) (vs : List V) (us : List Value) (Q : St → Hp → Prop), Inv X pins σ H s → Vals vs us → t vs σ H Q → wpAny (model X.prog X.w) X.A (assignInOrder ((assignEach ts X.env).map (·.2)) us) (fun _ s' => ∃ σ' H', Inv X pins σ' H' s' ∧ Q σ' H') X.xe s := ⟨PGs.run⟩
abbrev TSet := V → V → V → Hp → (Hp → Prop) → Prop
def PSet (X : Cx) (t : TSet) : Prop :=
 ∀ (pins : List (Addr × Obj)) (s : Shared) (σ : St) (H : Hp) (o i v : V) (ov iv u : Value) (Q : Hp → Prop), Inv X pins σ H s → RelV o ov → RelV i iv → RelV v u → t o i v H Q →
  wpAny (model X.prog X.w) X.A (setItem ov iv u) (fun _ s' => ∃ H', Inv X pins σ H' s' ∧ Q H') X.xe s
section
variable {X: Cx}{pos: Pos}
def gName (i : Nat) : TG := fun v σ H Q => Q (σ.set i (some v)) H
theorem pg_name {i : Nat} {x : Str} (hN : X.N.Nodup) (hi : X.N[i]? = some x) (hx : Loc X.env.scope x) (hf : X.fn x = true ∨ X.env.scope.names.lookup x = some .local := by first | exact .inl rfl | exact .inr rfl | assumption) : PG X (.Name x pos) (gName i) := by
 refine .mk ?_
 intro pins s σ H v u Q I r h
 exact wpAny_assign_Name (store_ok I hN hi hx r (fun s' I' => ⟨_, H, I', h⟩) hf)
def gNil : TGs := fun vs σ H Q => vs = [] ∧ Q σ H
def gCons (t : TG) (u : TGs) : TGs := fun vs σ H Q => ∃ v r, vs = v :: r ∧ t v σ H fun σ' H' => u r σ' H' Q
theorem pgs_nil : PGs X [] gNil := by
 refine .mk ?_
 intro pins s σ H vs us Q I r h
 obtain ⟨e, h⟩ := h
 subst e
 cases r
 exact assignInOrder_nil ⟨σ, H, I, h⟩
theorem pgs_cons {e : Expr} {es : List Expr} {t : TG} {u : TGs} (h1 : PG X e t) (h2 : PGs X es u)
  (hs : (assignEach (e :: es) X.env).map (·.2) = assign e X.env :: (assignEach es X.env).map (·.2) := by rfl) : PGs X (e :: es) (gCons t u) := by
 refine .mk ?_
 intro pins s σ H vs us Q I r h
 obtain ⟨v, vr, e1, h⟩ := h
 subst e1
 cases r with
 | cons r rr =>
  rw [hs]
  refine assignInOrder_cons (thn (h1 pins s σ H _ _ _ I r h) fun _ s1 ⟨σ1, H1, I1, q1⟩ => ?_)
  exact h2 pins s1 σ1 H1 _ _ Q I1 rr q1
def gTup (K : PySem.W.Frag) (n : Nat) (t : TGs) : TG := fun v σ H Q => ∃ a xs, v = .ref a ∧ SqT K H a xs ∧ xs.length = n ∧ t xs σ H Q
theorem pg_tup {es : List Expr} {k : Nat} {t : TGs} {n : Nat} (hc : X.calm = true) (h : PGs X es t)
  (hn : (assignEach es X.env).length = n := by rfl) (hst : (assignEach es X.env).findIdx? (·.1) = none := by rfl) : PG X (.Tuple es k pos) (gTup X.K n t) := by
 refine .mk ?_
 intro pins s σ H v u Q I r hw
 obtain ⟨a, xs, e1, hq, hl, hw⟩ := hw
 subst e1
 cases r
 obtain ⟨its, rv, ht, hz⟩ := I.tuple hq
 refine assign_Tuple_tuple (I.ok.hd hc) ht (by simp [hn, ← hl, rv.length]) hst fun h' hx => ?_
 have I1 : Inv X pins σ H { s with heap := h' } := I.kept (t' := s.toks) fun b o e => hx b o (Nat.ne_of_lt (Heap.lt_size e)) e
 exact h pins _ σ H xs _ Q I1 (by simpa using rv) hw
def gSub (to ti : TE) (t : TSet) : TG := fun v σ H Q => to σ H fun o H1 => ti σ H1 fun i H2 => t o i v H2 fun H3 => Q σ H3
theorem pg_sub {o i : Expr} {to ti : TE} {t : TSet} (ho : PE X o to) (hi : PE X i ti) (hs : PSet X t)
  (ha : ∀ v, assign (.Subscript o i pos) X.env v = (do
   let ov ← holding [v] (eval o X.env)
   let iv ← holding [v, ov] (eval i X.env)
   standAt pos
   holding [v, ov, iv] (setItem ov iv v)
   release [v, ov, iv] []) := by intro _; rfl) : PG X (.Subscript o i pos) (gSub to ti t) := by
 refine .mk ?_
 intro pins s σ H v u Q I r h
 rw [ha]
 refine wpAny_bind (wpAny_holding (thn (ho pins s σ H _ I h) fun ov s1 ⟨x, H1, I1, r1, q1⟩ => ?_))
 refine wpAny_bind (wpAny_holding (thn (hi pins s1 σ H1 _ I1 q1) fun iv s2 ⟨y, H2, I2, r2, q2⟩ => ?_))
 refine wpAny_bind (wpAny_standAt (wpAny_bind (wpAny_holding (thn (hs pins s2 σ H2 x y v ov iv u _ I2 r1 r2 r q2) fun _ s3 ⟨H3, I3, q3⟩ => ?_))))
 exact wpAny_release ⟨σ, H3, I3, q3⟩
def tAsg (te : TE) (g : TG) : TS := fun D σ H => te σ H fun x H1 => g x σ H1 D.nx
theorem ps_asg {tg e : Expr} {te : TE} {g : TG} (he : PE X e te) (hg : PG X tg g) (hs : swapsWithSole [tg] e pos.line X.env = pure false := by rfl) (hw : swappedStores [tg] e X.env = pure none := by rfl)
  (h1 : (assignEach [tg] X.env).map (·.2) = [assign tg X.env] := by rfl) : PS X (.Assign [tg] e pos) (tAsg te g) := by
 refine .mk ?_
 intro pins s σ H D I h
 refine wpAny_Assign_stores (thn (he pins s σ H _ I h) fun v s1 ⟨x, H1, I1, r1, q1⟩ => ?_) hs hw
 rw [h1]
 exact thn (hg pins s1 σ H1 x v _ I1 r1 q1) fun _ s2 q => q
theorem ps_set {i : Nat} {x : Str} {e : Expr} {te : TE} {pos' : Pos} (hN : X.N.Nodup) (hi : X.N[i]? = some x) (hx : Loc X.env.scope x) (he : PE X e te) (hs : swapsWith e (some (.Name x pos')) pos.line X.env = pure false := by rfl) (hf : X.fn x = true ∨ X.env.scope.names.lookup x = some .local := by first | exact .inl rfl | exact .inr rfl | assumption) :
  PS X (.Assign [.Name x pos'] e pos) (tAsg te (gName i)) := by
 refine .mk ?_
 intro pins s σ H D I h
 refine wpAny_Assign_Name (thn (he pins s σ H _ I h) fun v s1 ⟨y, H1, I1, r1, q1⟩ => ?_) hs
 exact store_ok I1 hN hi hx r1 (fun s2 I2 => ⟨_, H1, I2, q1⟩) hf
end
section
variable {X: Cx}{pos: Pos}
def tWhile (c : TT) (tb : TS) : TS := fun D σ H => ∃ W : Nat → St → Hp → Prop, (∃ m, W m σ H) ∧ ∀ m σ H, W m σ H →
 c σ H fun b H1 => if b = true then ∃ N : St → Hp → Prop, (∀ σ' H', N σ' H' → ∃ m', m' < m ∧ W m' σ' H') ∧ tb { D with nx := N, ct := N, bk := D.nx } σ H1 else D.nx σ H1
theorem ps_while {c : Expr} {body : List Stmt} {tc : TT} {tb : TS} (hp : PassesOwn (model X.prog X.w) X.A X.env X.xe) (hc : PT X c tc) (hb : PSs X body tb) : PS X (.While c body [] pos) (tWhile tc tb) := by
 refine .mk ?_
 intro pins s σ H D I h
 obtain ⟨W, ⟨m0, w0⟩, turn⟩ := h
 refine wpAny_While (codeAny_whileLoop (fun n s' => ∃ σ' H', Inv X pins σ' H' s' ∧ W n σ' H') ?_ m0 ⟨σ, H, I, w0⟩)
 rintro n s1 ⟨σ1, H1, I1, w1⟩
 refine wpAny_passesOwn hp (thn (hc pins s1 σ1 H1 _ I1 (turn n σ1 H1 w1)) fun b s2 ⟨H2, I2, q2⟩ => ?_)
 cases b with
 | true =>
  obtain ⟨N, hN, q2⟩ := q2
  rw [if_pos rfl]
  refine wpAny_passesOwn hp (thn (hb pins s2 σ1 H2 _ I2 q2) fun f s3 q3 => ?_)
  cases f with
  | next =>
   obtain ⟨σ3, H3, I3, n3⟩ := q3
   obtain ⟨m', hm, w3⟩ := hN σ3 H3 n3
   exact ⟨m', hm, σ3, H3, I3, w3⟩
  | cont =>
   obtain ⟨σ3, H3, I3, n3⟩ := q3
   obtain ⟨m', hm, w3⟩ := hN σ3 H3 n3
   exact ⟨m', hm, σ3, H3, I3, w3⟩
  | brk => exact q3
  | ret v => exact q3
 | false =>
  rw [if_neg Bool.false_ne_true]
  exact wpAny_execs_nil ⟨σ1, H2, I2, q2⟩
end
structure It where
 go : Nat → Hp → Prop
 yld : Nat → Hp → V → Hp → Prop
 stop : Nat → Hp → Prop
def FpOk (X : Cx) (pins : List (Addr × Obj)) (H : Hp) (b : Addr) : Prop :=
 H b = none ∧ b ≠ X.env.locals ∧ b ∉ X.fs ∧ (b ∈ X.ex ∨ X.s₀.heap.objs.size ≤ b) ∧ (∀ x c, X.env.cells.lookup x = some c → c ≠ b) ∧ ∀ p ∈ X.pn ++ pins, p.1 ≠ b
theorem Inv.fpOk {X : Cx} {pins : List (Addr × Obj)} {σ : St} {H H' : Hp} {s : Shared} {b : Addr} (I : Inv X pins σ H s) (hb : s.heap.objs.size ≤ b) (hn : H' b = none) : FpOk X pins H' b := by
 refine ⟨hn, Nat.ne_of_gt (Nat.lt_of_lt_of_le I.lt hb), I.nofs hb, .inr (Nat.le_trans I.sz hb), fun x c e z => ?_, fun p hp z => ?_⟩
 ·obtain ⟨v, q⟩ := I.cell x c e
  exact absurd (Nat.lt_of_lt_of_le q.lt (by rw [z]; exact hb)) (Nat.lt_irrefl _)
 ·exact absurd (Nat.lt_of_lt_of_le (Heap.lt_size (I.pin p hp).1) (by rw [z]; exact hb)) (Nat.lt_irrefl _)
structure Turn (P : Program) (w : World) (K : PySem.W.Frag) (tg : Expr) (J : It) (fp : List Addr) (it : Addr) (tn : Nat → Heap → Prop) : Prop where
 mem : it ∈ fp
 obj : ∀ i h, tn i h → ∀ b ∈ fp, ∃ o, h.get? b = some o ∧ ∀ v, o.data ≠ .cell v
 keep : ∀ i h h', tn i h → (∀ b ∈ fp, ∀ o, h.get? b = some o → h'.get? b = some o) → tn i h'
 item : ∀ (X : Cx), X.prog = P → X.w = w → X.K = K → X.calm = true → ∀ (i : Nat) (pins : List (Addr × Obj)) (s : Shared) (σ : St) (H : Hp) (E : Value → Shared → Prop), Inv X pins σ H s → (∀ b ∈ fp, FpOk X pins H b) → tn i s.heap → J.go i H →
  wpAny (model P w) X.A (pyNext (.ref it)) (fun r s1 => ∃ u, r = some u ∧
   wpAny (model P w) X.A (letOwnedTupleGo tg (.ref it) u) (fun _ s2 => ∃ x H', Inv X pins σ H' s2 ∧ RelV x u ∧ J.yld i H x H' ∧ tn (i + 1) s2.heap ∧ ∀ b ∈ fp, H' b = none) E s1) E s
 done : ∀ (X : Cx), X.prog = P → X.w = w → X.K = K → X.calm = true → ∀ (i : Nat) (pins : List (Addr × Obj)) (s : Shared) (σ : St) (H : Hp) (E : Value → Shared → Prop), Inv X pins σ H s → (∀ b ∈ fp, FpOk X pins H b) → tn i s.heap → J.stop i H →
  wpAny (model P w) X.A (pyNext (.ref it)) (fun r s1 => r = none ∧ Inv X pins σ H s1) E s
 self : ∀ (A : Around) (i : Nat) (s : Shared) (Q : Value → Shared → Prop) (E : Value → Shared → Prop), tn i s.heap → Q (.ref it) s → wpAny (model P w) A (pyIter (.ref it)) Q E s
abbrev TI := St → Hp → (It → Hp → Prop) → Prop
def PIE (X : Cx) (pins : List (Addr × Obj)) (σ : St) (tg : Expr) (R : It → Hp → Prop) (itv : Value) (s2 : Shared) : Prop :=
 ∃ (it : Addr) (fp : List Addr) (tn : Nat → Heap → Prop) (J : It) (H' : Hp), itv = .ref it ∧ Inv X pins σ H' s2 ∧ Turn X.prog X.w X.K tg J fp it tn ∧ tn 0 s2.heap ∧ (∀ b ∈ fp, FpOk X pins H' b) ∧ R J H'
structure PI (X : Cx) (tg iter : Expr) (wi : TI) : Prop where
 run : ∀ (pins : List (Addr × Obj)) (s : Shared) (σ : St) (H : Hp) (R : It → Hp → Prop), Inv X pins σ H s → wi σ H R →
  wpAny (model X.prog X.w) X.A (eval iter X.env) (fun v s1 => wpAny (model X.prog X.w) X.A (pyIter v) (PIE X pins σ tg R) X.xe s1) X.xe s
instance {X : Cx} {tg iter : Expr} {wi : TI} : CoeFun (PI X tg iter wi) fun _ => ∀ (pins : List (Addr × Obj)) (s : Shared) (σ : St) (H : Hp) (R : It → Hp → Prop), Inv X pins σ H s → wi σ H R → wpAny (model X.prog X.w) X.A (eval iter X.env) (fun v s1 => wpAny (model X.prog X.w) X.A (pyIter v) (PIE X pins σ tg R) X.xe s1) X.xe s := ⟨PI.run⟩
theorem go_of {M : Model} {A : Around} {E : Value → Shared → Prop} {s : Shared} {tg : Expr} {it : Addr} {u : Value} {o : Obj} {n : String} {vs : Array Value} {Q : Unit → Shared → Prop} (ho : s.heap.get? it = some o) (hc : o.cls = .type n) (hd : o.data = .fields vs)
    (hn : ["enumerate", "zip", "dict_itemiterator", "dict_reverseitemiterator", "odict_iterator", "itertools.zip_longest", "itertools.pairwise"].contains n = false) (hQ : Q () s) : wpAny M A (letOwnedTupleGo tg (.ref it) u) Q E s := by
  unfold letOwnedTupleGo
  cases tg <;> first
    | exact wpAny_pure hQ
    | (cases u <;> first
        | exact wpAny_pure hQ
        | (refine wpAny_bind (wpAny_load ho ?_)
           rw [hc, hd]
           show wpAny M A (if (["enumerate", "zip", "dict_itemiterator", "dict_reverseitemiterator", "odict_iterator", "itertools.zip_longest", "itertools.pairwise"].contains n && vs[0]? == some (rawInt _)) = true then _ else _) Q E s
           rw [if_neg (by intro h; rw [hn, Bool.false_and] at h; cases h)]
           exact wpAny_pure hQ))
def Itl (K : PySem.W.Frag) (a : Addr) : It :=
 ⟨fun i H => ∃ xs x, SqL K H a xs ∧ xs[i]? = some x, fun i H x H' => H' = H ∧ ∀ xs, SqL K H a xs → xs[i]? = some x, fun i H => ∃ xs, SqL K H a xs ∧ xs.length ≤ i⟩
def Itt (K : PySem.W.Frag) (a : Addr) : It :=
 ⟨fun i H => ∃ xs x, SqT K H a xs ∧ xs[i]? = some x, fun i H x H' => H' = H ∧ ∀ xs, SqT K H a xs → xs[i]? = some x, fun i H => ∃ xs, SqT K H a xs ∧ xs.length ≤ i⟩
def Itr (lo : Int) (n : Nat) : It := ⟨fun i _ => i < n, fun i H x H' => H' = H ∧ x = .int (lo + i), fun i _ => n ≤ i⟩
theorem turn_list {P : Program} {w : World} {K : PySem.W.Frag} {tg : Expr} (a it : Addr) : Turn P w K tg (Itl K a) [it] it (fun i h => h.IsListIter it a i) where
 mem := by simp
 obj := fun i h st b hb => by
  have e : b = it := by simpa using hb
  subst e
  obtain ⟨o, e, c, d⟩ := st
  exact ⟨o, e, fun v z => by rw [d] at z; cases z⟩
 keep := fun i h h' st k => st.at fun o e => k it (by simp) o e
 item := by
  intro X hP hw hK hc i pins s σ H E I hf st hg
  subst hP hw hK
  obtain ⟨xs, x, hq, hx⟩ := hg
  obtain ⟨its, rv, p, hz⟩ := I.list hq
  obtain ⟨u, hu, ru⟩ := rv.get hx
  obtain ⟨f0, f1, f2, f3, f4, f5⟩ := hf it (by simp)
  refine wpAny_pyNext_list_item st p.isList (x := u) (by simpa using hu) fun h' st' sb => ?_
  have I1 : Inv X pins σ H { s with heap := h' } := I.turned (t' := s.toks) (fun b o hb e => (sb.2 b hb).trans e) f0 f1 f3 f4 f5
  obtain ⟨o, e, c, d⟩ := id st'
  exact ⟨u, rfl, go_of (s := { s with heap := h' }) e c d (by decide) ⟨x, H, I1, ru, ⟨rfl, fun ys hy => by rw [I.list_inj hy hq]; exact hx⟩, st', fun b hb => (hf b hb).1⟩⟩
 done := by
  intro X hP hw hK hc i pins s σ H E I hf st hg
  subst hP hw hK
  obtain ⟨xs, hq, hx⟩ := hg
  obtain ⟨its, rv, p, hz⟩ := I.list hq
  obtain ⟨f0, f1, f2, f3, f4, f5⟩ := hf it (by simp)
  have hl := rv.length
  exact wpAny_pyNext_list_end (I.ok.hd hc) st p.isList (by simp; omega) fun h' eb => ⟨rfl, I.turned (t' := s.toks) (fun b o hb e => eb b o hb e) f0 f1 f3 f4 f5⟩
 self := fun _ _ _ _ _ st h => wpAny_pyIter_listiter st h
theorem turn_tuple {P : Program} {w : World} {K : PySem.W.Frag} {tg : Expr} (a it : Addr) : Turn P w K tg (Itt K a) [it] it (fun i h => h.IsTupleIter it a i) where
 mem := by simp
 obj := fun i h st b hb => by
  have e : b = it := by simpa using hb
  subst e
  obtain ⟨o, e, c, d⟩ := st
  exact ⟨o, e, fun v z => by rw [d] at z; cases z⟩
 keep := fun i h h' st k => st.at fun o e => k it (by simp) o e
 item := by
  intro X hP hw hK hc i pins s σ H E I hf st hg
  subst hP hw hK
  obtain ⟨xs, x, hq, hx⟩ := hg
  obtain ⟨its, rv, p, hz⟩ := I.tuple hq
  obtain ⟨u, hu, ru⟩ := rv.get hx
  obtain ⟨f0, f1, f2, f3, f4, f5⟩ := hf it (by simp)
  refine wpAny_pyNext_tuple_item st (show s.heap.IsTuple a its.toArray from p) (x := u) (by simpa using hu) fun h' st' sb => ?_
  have I1 : Inv X pins σ H { s with heap := h' } := I.turned (t' := s.toks) (fun b o hb e => (sb.2 b hb).trans e) f0 f1 f3 f4 f5
  obtain ⟨o, e, c, d⟩ := id st'
  exact ⟨u, rfl, go_of (s := { s with heap := h' }) e c d (by decide) ⟨x, H, I1, ru, ⟨rfl, fun ys hy => by rw [I.tuple_inj hy hq]; exact hx⟩, st', fun b hb => (hf b hb).1⟩⟩
 done := by
  intro X hP hw hK hc i pins s σ H E I hf st hg
  subst hP hw hK
  obtain ⟨xs, hq, hx⟩ := hg
  obtain ⟨its, rv, p, hz⟩ := I.tuple hq
  obtain ⟨f0, f1, f2, f3, f4, f5⟩ := hf it (by simp)
  have hl := rv.length
  exact wpAny_pyNext_tuple_end (I.ok.hd hc) st (show s.heap.IsTuple a its.toArray from p) (by simp; omega) fun h' eb => ⟨rfl, I.turned (t' := s.toks) (fun b o hb e => eb b o hb e) f0 f1 f3 f4 f5⟩
 self := fun _ _ _ _ _ st h => wpAny_pyIter_tupleiter st h
theorem turn_range {P : Program} {w : World} {K : PySem.W.Frag} {tg : Expr} (it : Addr) (lo : Int) (n : Nat) : Turn P w K tg (Itr lo n) [it] it (fun i h => IsRangeIter h it (lo + (i : Nat) * 1) ((n : Int) - (i : Nat)) 1) where
 mem := by simp
 obj := fun i h st b hb => by
  have e : b = it := by simpa using hb
  subst e
  exact ⟨_, st, fun v z => by
   have z' : Data.fields _ = Data.cell v := z
   cases z'⟩
 keep := fun i h h' st k => k it (by simp) _ st
 item := by
  intro X hP hw hK hc i pins s σ H E I hf st hg
  subst hP hw hK
  obtain ⟨f0, f1, f2, f3, f4, f5⟩ := hf it (by simp)
  have W := Walks.range (prog := X.prog) (w := X.w) (I.ok.hd hc) it lo 1 n
  refine W.item i s _ _ hg st fun v h' tk hv st' kk => ?_
  obtain ⟨t, rfl⟩ := hv
  have I1 : Inv X pins σ H { s with heap := h', toks := tk } := I.turned (fun b o hb e => kk b o (by simpa using hb) e) f0 f1 f3 f4 f5
  refine ⟨_, rfl, go_of (s := { s with heap := h', toks := tk }) (n := "range_iterator") st' rfl rfl (by decide) ⟨.int (lo + i), H, I1, ⟨t, ?_⟩, ⟨rfl, rfl⟩, st', fun b hb => (hf b hb).1⟩⟩
  rw [Int.mul_one]
 done := by
  intro X hP hw hK hc i pins s σ H E I hf st hg
  subst hP hw hK
  obtain ⟨f0, f1, f2, f3, f4, f5⟩ := hf it (by simp)
  exact wpAny_pyNext_range_end (I.ok.hd hc) st (by have : n ≤ i := hg; omega) fun h' eb => ⟨rfl, I.turned (t' := s.toks) (fun b o hb e => eb b o hb e) f0 f1 f3 f4 f5⟩
 self := fun _ _ _ _ _ st h => wpAny_pyIter_rangeiter st h
end L2
namespace L2
open PySem PySem.Spec PyProof.Rows
section
variable {X: Cx}{tg: Expr}
def iList (K : PySem.W.Frag) (tl : TE) : TI := fun σ H R => tl σ H fun x H1 => ∃ a, x = .ref a ∧ (∃ xs, SqL K H1 a xs) ∧ R (Itl K a) H1
def iTup (K : PySem.W.Frag) (tl : TE) : TI := fun σ H R => tl σ H fun x H1 => ∃ a, x = .ref a ∧ (∃ xs, SqT K H1 a xs) ∧ R (Itt K a) H1
theorem pi_list {l : Expr} {tl : TE} (hl : PE X l tl) : PI X tg l (iList X.K tl) := by
 refine .mk ?_
 intro pins s σ H R I h
 refine thn (hl pins s σ H _ I h) fun v s1 ⟨x, H1, I1, r1, q1⟩ => ?_
 obtain ⟨a, e, ⟨xs, hq⟩, q⟩ := q1
 subst e
 cases r1
 obtain ⟨its, rv, p, hz⟩ := I1.list hq
 refine wpAny_pyIter_list p.isList ?_
 refine ⟨s1.heap.objs.size, [s1.heap.objs.size], _, _, H1, rfl, I1.kept (t' := s1.toks) fun b o e => Heap.get?_push_of_some _ e, turn_list a _, ⟨_, Heap.get?_push_size _ rfl, rfl, rfl⟩, fun b hb => ?_, q⟩
 have e : b = s1.heap.objs.size := by simpa using hb
 subst e
 exact I1.fpOk (Nat.le_refl _) (I1.hok.fresh (Nat.le_refl _))
theorem pi_tup {l : Expr} {tl : TE} (hl : PE X l tl) : PI X tg l (iTup X.K tl) := by
 refine .mk ?_
 intro pins s σ H R I h
 refine thn (hl pins s σ H _ I h) fun v s1 ⟨x, H1, I1, r1, q1⟩ => ?_
 obtain ⟨a, e, ⟨xs, hq⟩, q⟩ := q1
 subst e
 cases r1
 obtain ⟨its, rv, p, hz⟩ := I1.tuple hq
 refine wpAny_pyIter_tuple (show s1.heap.IsTuple a its.toArray from p) ?_
 refine ⟨s1.heap.objs.size, [s1.heap.objs.size], _, _, H1, rfl, I1.kept (t' := s1.toks) fun b o e => Heap.get?_push_of_some _ e, turn_tuple a _, ⟨_, Heap.get?_push_size _ rfl, rfl, rfl⟩, fun b hb => ?_, q⟩
 have e : b = s1.heap.objs.size := by simpa using hb
 subst e
 exact I1.fpOk (Nat.le_refl _) (I1.hok.fresh (Nat.le_refl _))
theorem range_it {pins : List (Addr × Obj)} {σ : St} {H : Hp} {s : Shared} {R : It → Hp → Prop} {E : Value → Shared → Prop} {lo hi : Int} {t u v : Tok} {tk : Nat} (I : Inv X pins σ H s) (h1 : -(2 ^ 62) ≤ lo) (h2 : lo < 2 ^ 62) (h3 : -(2 ^ 62) ≤ hi) (h4 : hi < 2 ^ 62)
  (q : R (Itr lo (hi - lo).toNat) H) : wpAny (model X.prog X.w) X.A (pyIter (.ref s.heap.objs.size)) (PIE X pins σ tg R) E { s with heap := s.heap.push { cls := .type "range", data := .fields #[.int lo t, .int hi u, .int 1 v] }, toks := tk } := by
 refine wpAny_pyIter_range (IsRange.new ..) (small_one h1 h2 h3 h4) ?_
 have I1 : Inv X pins σ H { s with heap := s.heap.push { cls := .type "range", data := .fields #[.int lo t, .int hi u, .int 1 v] }, toks := tk } := I.kept fun b o e => Heap.get?_push_of_some _ e
 refine ⟨(s.heap.push { cls := .type "range", data := .fields #[.int lo t, .int hi u, .int 1 v] }).objs.size, [(s.heap.push { cls := .type "range", data := .fields #[.int lo t, .int hi u, .int 1 v] }).objs.size], _, _, H, rfl,
  I1.kept (t' := tk) fun b o e => Heap.get?_push_of_some _ e, turn_range _ lo (hi - lo).toNat, ?_, fun b hb => ?_, q⟩
 ·have e1 : lo + ((0 : Nat) : Int) * 1 = lo := by simp
  have e2 : (((hi - lo).toNat : Nat) : Int) - ((0 : Nat) : Int) = Builtin.Range.rangeSize lo hi 1 := by rw [rangeSize_one]; split <;> omega
  show IsRangeIter _ _ (lo + ((0 : Nat) : Int) * 1) ((((hi - lo).toNat : Nat) : Int) - ((0 : Nat) : Int)) 1
  rw [e1, e2]
  exact Heap.get?_push_size _ rfl
 ·have e : b = (s.heap.push { cls := .type "range", data := .fields #[.int lo t, .int hi u, .int 1 v] }).objs.size := by simpa using hb
  subst e
  exact I1.fpOk (Nat.le_refl _) (I1.hok.fresh (Nat.le_refl _))
def iRng1 (ta : TA) : TI := fun σ H R => ta σ H fun vs H1 => ∃ j : Int, vs = [.int j] ∧ -(2 ^ 62) ≤ j ∧ j < 2 ^ 62 ∧ R (Itr 0 j.toNat) H1
theorem pi_range1 {a : Expr} {ta : TA} {p pos : Pos} (hg : Gl X "range") (hm : X.mg "range" = none) (ha : PA X [a] ta) (hs : starEach [a] X.env = [(false, eval a X.env)] := by rfl) : PI X tg (.Call (.Name "range" p) [a] [] pos) (iRng1 ta) := by
 refine .mk ?_
 intro pins s σ H R I h
 refine Call_ (ld_blt I hg hm boot_range (PyProof.Rows.callWith_type1 (thn (ha pos pins s σ H _ I h) fun us s1 ⟨vs, H1, I1, r1, q1⟩ => ?_) hs rfl))
 obtain ⟨j, e, q1, q2, q⟩ := q1
 subst e
 cases r1 with
 | cons r rr =>
  cases rr
  obtain ⟨t, rfl⟩ := r
  exact call_range_1 (range_it I1 (by omega) (by omega) q1 q2 (by simpa using q))
def tFor (wi : TI) (g : TG) (tb : TS) : TS := fun D σ H => wi σ H fun J H1 => ∃ W : Nat → Nat → St → Hp → Prop, (∃ m, W 0 m σ H1) ∧ ∀ i m σ H, W i m σ H →
 (J.stop i H ∧ D.nx σ H) ∨ (J.go i H ∧ ∃ N : St → Hp → Prop, (∀ σ' H', N σ' H' → ∃ m', m' < m ∧ W (i + 1) m' σ' H') ∧ ∀ x H', J.yld i H x H' → g x σ H' fun σ2 H2 => tb { D with nx := N, ct := N, bk := D.nx } σ2 H2)
def pinsAt (fp : List Addr) (h : Heap) : List (Addr × Obj) := fp.filterMap fun b => (h.get? b).map fun o => (b, o)
theorem mem_pinsAt {fp : List Addr} {h : Heap} {b : Addr} {o : Obj} (hb : b ∈ fp) (e : h.get? b = some o) : (b, o) ∈ pinsAt fp h := List.mem_filterMap.mpr ⟨b, hb, by rw [e]; rfl⟩
theorem of_pinsAt {fp : List Addr} {h : Heap} {p : Addr × Obj} (hp : p ∈ pinsAt fp h) : p.1 ∈ fp ∧ h.get? p.1 = some p.2 := by
 obtain ⟨b, hb, e⟩ := List.mem_filterMap.mp hp
 cases q : h.get? b with
 | none => rw [q] at e; cases e
 | some o =>
  rw [q] at e
  have e' : (b, o) = p := Option.some.inj e
  subst e'
  exact ⟨hb, q⟩
theorem Inv.pinned {pins : List (Addr × Obj)} {σ : St} {H : Hp} {s : Shared} {fp : List Addr} (I : Inv X pins σ H s) (hf : ∀ b ∈ fp, FpOk X pins H b) (ho : ∀ b ∈ fp, ∃ o, s.heap.get? b = some o ∧ ∀ v, o.data ≠ .cell v) : Inv X (pins ++ pinsAt fp s.heap) σ H s :=
 I.pins_of fun p hp => (List.mem_append.mp hp).elim (fun z => I.pin p (List.mem_append_right _ z)) fun z => by
  obtain ⟨hb, e⟩ := of_pinsAt z
  obtain ⟨f0, f1, f2, _⟩ := hf p.1 hb
  obtain ⟨o, e', d⟩ := ho p.1 hb
  rw [e] at e'; cases e'
  exact ⟨e, f0, f1, f2, d⟩
theorem Inv.unpinned {pins pl : List (Addr × Obj)} {σ : St} {H : Hp} {s : Shared} (I : Inv X (pins ++ pl) σ H s) : Inv X pins σ H s := I.pins_of fun p hp => I.pin p (List.mem_append_right _ (List.mem_append_left _ hp))
theorem ps_for {iter : Expr} {body : List Stmt} {wi : TI} {g : TG} {tb : TS} {pos : Pos} (hp : PassesOwn (model X.prog X.w) X.A X.env X.xe) (hc : X.calm = true) (hi : PI X tg iter wi) (hg : PG X tg g) (hb : PSs X body tb)
  (hs : ∀ x, foldedSetIterable iter X.env x = pure x := by intro _; rfl) : PS X (.For tg iter body [] pos) (tFor wi g tb) := by
 refine .mk ?_
 intro pins s σ H D I h
 refine wpAny_For (thn (hi pins s σ H _ I h) fun v s1 h1 => thn h1 fun itv s2 h2 => ?_) hs
 obtain ⟨it, fp, tn, J, H2, e, I2, T, st2, f2, W, ⟨m0, w0⟩, turn⟩ := h2
 subst e
 -- what stays true of the iterator's objects through the loop
 have stat : ∀ {H' : Hp}, (∀ b ∈ fp, H' b = none) → ∀ b ∈ fp, FpOk X pins H' b := fun hn b hb => ⟨hn b hb, (f2 b hb).2⟩
 refine codeAny_forLoop_any (fun n s' => ∃ i σ' H', Inv X pins σ' H' s' ∧ tn i s'.heap ∧ (∀ b ∈ fp, H' b = none) ∧ W i n σ' H') ?_ m0 ⟨0, σ, H2, I2, st2, fun b hb => (f2 b hb).1, w0⟩
 rintro n s3 ⟨i, σ3, H3, I3, st3, fr3, w3⟩
 rcases turn i n σ3 H3 w3 with ⟨stop, qn⟩ | ⟨go, N, hN, step⟩
 ·refine wpAny_passesOwn hp (thn (T.done X rfl rfl rfl hc i pins s3 σ3 H3 X.xe I3 (stat fr3) st3 stop) fun r s4 ⟨hr, I4⟩ => ?_)
  subst hr
  exact wpAny_execs_nil ⟨σ3, H3, I4, qn⟩
 ·refine wpAny_passesOwn hp (thn (T.item X rfl rfl rfl hc i pins s3 σ3 H3 X.xe I3 (stat fr3) st3 go) fun r s4 ⟨u, hr, h4⟩ => ?_)
  subst hr
  refine wpAny_passesOwn hp (thn h4 fun _ s5 ⟨x, H5, I5, r5, y5, st5, fr5⟩ => ?_)
  have I5' := I5.pinned (stat fr5) (T.obj _ _ st5)
  refine wpAny_passesOwn hp (thn (hg _ s5 σ3 H5 x u _ I5' r5 (step x H5 y5)) fun _ s6 ⟨σ6, H6, I6, q6⟩ => ?_)
  refine wpAny_passesOwn hp (thn (hb _ s6 σ6 H6 _ I6 q6) fun f s7 q7 => ?_)
  have again : ∀ {σ7 : St} {H7 : Hp}, Inv X (pins ++ pinsAt fp s5.heap) σ7 H7 s7 → N σ7 H7 → ∃ m, m < n ∧ ∃ i σ' H', Inv X pins σ' H' s7 ∧ tn i s7.heap ∧ (∀ b ∈ fp, H' b = none) ∧ W i m σ' H' := fun {σ7 H7} I7 n7 => by
   obtain ⟨m', hm, w7⟩ := hN σ7 H7 n7
   refine ⟨m', hm, i + 1, σ7, H7, I7.unpinned, T.keep _ _ _ st5 fun b hb o e => (I7.pin (b, o) (List.mem_append_right _ (List.mem_append_right _ (mem_pinsAt hb e)))).1, fun b hb => ?_, w7⟩
   obtain ⟨o, e, d⟩ := T.obj _ _ st5 b hb
   exact (I7.pin (b, o) (List.mem_append_right _ (List.mem_append_right _ (mem_pinsAt hb e)))).2.1
  cases f with
  | next => obtain ⟨σ7, H7, I7, n7⟩ := q7; exact again I7 n7
  | cont => obtain ⟨σ7, H7, I7, n7⟩ := q7; exact again I7 n7
  | brk => obtain ⟨σ7, H7, I7, q7⟩ := q7; exact ⟨σ7, H7, I7.unpinned, q7⟩
  | ret v => obtain ⟨x7, σ7, H7, I7, r7, q7⟩ := q7; exact ⟨x7, σ7, H7, I7.unpinned, r7, q7⟩
end
end L2
namespace L2
open PySem PySem.Spec PyProof.Rows
abbrev R2 := V → V → Hp → VK → Prop
def OpR (X : Cx) (f : Value → Value → Sem Value) (r : R2) : Prop :=
 ∀ (pins : List (Addr × Obj)) (s : Shared) (σ : St) (H : Hp) (x y : V) (v u : Value) (Q : VK), Inv X pins σ H s → RelV x v → RelV y u → r x y H Q →
  wpAny (model X.prog X.w) X.A (f v u) (EP X pins σ Q) X.xe s
def UnR (X : Cx) (f : Value → Sem Value) (r : V → Hp → VK → Prop) : Prop :=
 ∀ (pins : List (Addr × Obj)) (s : Shared) (σ : St) (H : Hp) (x : V) (v : Value) (Q : VK), Inv X pins σ H s → RelV x v → r x H Q →
  wpAny (model X.prog X.w) X.A (f v) (EP X pins σ Q) X.xe s
def CallR (X : Cx) (f : Value) (r : List V → Hp → VK → Prop) : Prop :=
 ∀ (pins : List (Addr × Obj)) (s : Shared) (σ : St) (H : Hp) (xs : List V) (us : List Value) (Q : VK), Inv X pins σ H s → Vals xs us → r xs H Q →
  wpAny (model X.prog X.w) X.A (call f us) (EP X pins σ Q) X.xe s
def tOp (r : R2) (ta tb : TE) : TE := fun σ H Q => ta σ H fun x H1 => tb σ H1 fun y H2 => r x y H2 Q
def tUn (r : V → Hp → VK → Prop) (ta : TE) : TE := fun σ H Q => ta σ H fun x H1 => r x H1 Q
def rI (C : Int → Int → Prop) (g : Int → Int → V) : R2 := fun x y H Q => ∃ i j, x = .int i ∧ y = .int j ∧ C i j ∧ Q (g i j) H
def rI0 (g : Int → Int → V) : R2 := fun x y H Q => ∃ i j, x = .int i ∧ y = .int j ∧ Q (g i j) H
def rU (g : Int → V) : V → Hp → VK → Prop := fun x H Q => ∃ i, x = .int i ∧ Q (g i) H
section
variable {X: Cx}{a b: Expr}{ta tb: TE}{pos: Pos}
theorem binT (ha : PE X a ta) (hb : PE X b tb) {pins : List (Addr × Obj)} {s : Shared} {σ : St} {H : Hp} {R : V → V → Hp → Prop} (I : Inv X pins σ H s)
  (h : ta σ H fun x H1 => tb σ H1 fun y H2 => R x y H2) {Q : Value → Shared → Prop} {f : Value → Value → Sem Value}
  (hf : ∀ v u s2 x y H2, Inv X pins σ H2 s2 → RelV x v → RelV y u → R x y H2 → wpAny (model X.prog X.w) X.A (f v u) Q X.xe s2) :
  wpAny (model X.prog X.w) X.A (eval a X.env) (fun v s₁ => wpAny (model X.prog X.w) X.A (eval b X.env) (fun u s₂ => wpAny (model X.prog X.w) X.A (f v u) Q X.xe s₂) X.xe s₁) X.xe s := by
 refine thn (ha pins s σ H _ I h) fun v s1 ⟨x, H1, I1, r1, q1⟩ => ?_
 refine thn (hb pins s1 σ H1 _ I1 q1) fun u s2 ⟨y, H2, I2, r2, q2⟩ => ?_
 exact hf v u s2 x y H2 I2 r1 r2 q2
theorem pe_op {op : Operator} {r : R2} (ho : OpR X (binaryOp op) r) (ha : PE X a ta) (hb : PE X b tb) : PE X (.BinOp a op b pos) (tOp r ta tb) := by
 refine .mk ?_
 intro pins s σ H Q I h
 exact wpAny_BinOp (binT ha hb I h fun v u s2 x y H2 I2 rx ry q => ho pins s2 σ H2 x y v u Q I2 rx ry q)
theorem pe_un {op : UnaryOp} {r : V → Hp → VK → Prop} (ho : UnR X (unaryOp op) r) (ha : PE X a ta) : PE X (.UnaryOp op a pos) (tUn r ta) := by
 refine .mk ?_
 intro pins s σ H Q I h
 exact UnaryOp_ (thn (ha pins s σ H _ I h) fun v s1 ⟨x, H1, I1, r1, q1⟩ => ho pins s1 σ H1 x v Q I1 r1 q1)
theorem opI {f : Value → Value → Sem Value} {C : Int → Int → Prop} {g : Int → Int → Int}
  (rule : ∀ (i j : Int) (t u : Tok) (s : Shared) (Q : Value → Shared → Prop) (E : Value → Shared → Prop), C i j → Q (.int (g i j) s.toks) { s with toks := s.toks + 1 } → wpAny (model X.prog X.w) X.A (f (.int i t) (.int j u)) Q E s) :
  OpR X f (rI C fun i j => .int (g i j)) := by
 intro pins s σ H x y v u Q I rx ry h
 obtain ⟨i, j, rfl, rfl, hc, q⟩ := h
 obtain ⟨t, rfl⟩ := rx
 obtain ⟨t', rfl⟩ := ry
 exact rule i j t t' s _ _ hc ⟨.int (g i j), H, I.tok _, ⟨_, rfl⟩, q⟩
theorem opI0 {f : Value → Value → Sem Value} {g : Int → Int → Int}
  (rule : ∀ (i j : Int) (t u : Tok) (s : Shared) (Q : Value → Shared → Prop) (E : Value → Shared → Prop), Q (.int (g i j) s.toks) { s with toks := s.toks + 1 } → wpAny (model X.prog X.w) X.A (f (.int i t) (.int j u)) Q E s) :
  OpR X f (rI0 fun i j => .int (g i j)) := by
 intro pins s σ H x y v u Q I rx ry h
 obtain ⟨i, j, rfl, rfl, q⟩ := h
 obtain ⟨t, rfl⟩ := rx
 obtain ⟨t', rfl⟩ := ry
 exact rule i j t t' s _ _ ⟨.int (g i j), H, I.tok _, ⟨_, rfl⟩, q⟩
theorem opB0 {f : Value → Value → Sem Value} {g : Int → Int → Bool}
  (rule : ∀ (i j : Int) (t u : Tok) (s : Shared) (Q : Value → Shared → Prop) (E : Value → Shared → Prop), Q (.bool (g i j)) s → wpAny (model X.prog X.w) X.A (f (.int i t) (.int j u)) Q E s) :
  OpR X f (rI0 fun i j => .bl (g i j)) := by
 intro pins s σ H x y v u Q I rx ry h
 obtain ⟨i, j, rfl, rfl, q⟩ := h
 obtain ⟨t, rfl⟩ := rx
 obtain ⟨t', rfl⟩ := ry
 exact rule i j t t' s _ _ ⟨.bl (g i j), H, I, rfl, q⟩
def CPow (i j : Int) : Prop := 0 ≤ j ∧ j ≤ 1000000 ∧ i.natAbs < 2 ^ 64
def CMul (i j : Int) : Prop := (-(2 ^ 64) < i ∧ i < 2 ^ 64) ∨ (-(2 ^ 64) < j ∧ j < 2 ^ 64)
theorem CMul.ok {i j : Int} (h : CMul i j) : IntMulOk i j := by
 rcases h with ⟨h1, h2⟩ | ⟨h1, h2⟩
 ·exact .of_left (intBits_le_64 h1 h2)
 ·exact .of_right (intBits_le_64 h1 h2)
theorem op_add : OpR X (binaryOp .Add) (rI0 fun i j => .int (i + j)) := opI0 fun _ _ _ _ _ _ _ q => add_int q
theorem op_sub : OpR X (binaryOp .Sub) (rI0 fun i j => .int (i - j)) := opI0 fun _ _ _ _ _ _ _ q => sub_int q
theorem op_mul : OpR X (binaryOp .Mult) (rI CMul fun i j => .int (i * j)) := opI fun _ _ _ _ _ _ _ hc q => mul_int q hc.ok
theorem op_mod : OpR X (binaryOp .Mod) (rI (fun _ j => 0 < j) fun i j => .int (i % j)) := opI fun i j _ _ _ _ _ hc q => by
 have h1 : (0 : Int) < j := hc
 exact mod_int' (by omega) (by rw [Int.fmod_eq_emod_of_nonneg i (by omega)]; exact q)
theorem op_pow : OpR X (binaryOp .Pow) (rI CPow fun i j => .int (i ^ j.toNat)) := opI fun _ _ _ _ _ _ _ hc q => pow_int_small hc.1 hc.2.1 hc.2.2 q
theorem iop_add : OpR X (inplaceOp .Add) (rI0 fun i j => .int (i + j)) := opI0 fun _ _ _ _ _ _ _ q => iadd_int q
theorem unI {f : Value → Sem Value} {g : Int → Int}
  (rule : ∀ (i : Int) (t : Tok) (s : Shared) (Q : Value → Shared → Prop) (E : Value → Shared → Prop), Q (.int (g i) s.toks) { s with toks := s.toks + 1 } → wpAny (model X.prog X.w) X.A (f (.int i t)) Q E s) :
  UnR X f (rU fun i => .int (g i)) := by
 intro pins s σ H x v Q I rx h
 obtain ⟨i, rfl, q⟩ := h
 obtain ⟨t, rfl⟩ := rx
 exact rule i t s _ _ ⟨.int (g i), H, I.tok _, ⟨_, rfl⟩, q⟩
theorem un_neg : UnR X (unaryOp .USub) (rU fun i => .int (-i)) := unI fun _ _ _ _ _ q => neg_int q
end
def scal : V → V → Bool
 | .non, .non => true | .non, .int _ => true | .int _, .non => true | .non, .bl _ => true | .bl _, .non => true | .non, .str _ => true | .str _, .non => true
 | .int _, .int _ => true | .bl _, .bl _ => true | .str _, .str _ => true | .byt _, .byt _ => true
 | .int _, .str _ => true | .str _, .int _ => true | .bl _, .str _ => true | .str _, .bl _ => true
 | _, _ => false
def rEq : R2 := fun x y H Q => scal x y = true ∧ Q (.bl (decide (x = y))) H
def rNe : R2 := fun x y H Q => scal x y = true ∧ Q (.bl (!decide (x = y))) H
theorem dec_int {i j : Int} : decide (V.int i = V.int j) = (i == j) := by
 rw [Bool.eq_iff_iff]
 simp
theorem dec_bl {i j : Bool} : decide (V.bl i = V.bl j) = (i == j) := by
 rw [Bool.eq_iff_iff]
 simp
theorem dec_str {i j : Str} : decide (V.str i = V.str j) = (i == j) := by
 rw [Bool.eq_iff_iff]
 simp
theorem dec_byt {i j : Array UInt8} : decide (V.byt i = V.byt j) = (i.toList == j.toList) := by
 rw [Bool.eq_iff_iff]
 cases i
 cases j
 simp
section
variable {X: Cx}{a b c: Expr}{ta tb tc: TE}{pos: Pos}
theorem fin_bl {pins : List (Addr × Obj)} {σ : St} {H : Hp} {s : Shared} {Q : VK} {k k' : Bool} (I : Inv X pins σ H s) (q : Q (.bl k) H) (e : k = k') : EP X pins σ Q (.bool k') s := by
 subst e
 exact ⟨.bl k, H, I, rfl, q⟩
theorem op_eq : OpR X (compareOp .Eq) rEq := by
 intro pins s σ H x y v u Q I rx ry h
 obtain ⟨hs, q⟩ := h
 cases x with
 | non =>
  cases rx
  cases y with
  | non => cases ry; exact PySem.EqNone.eq_none_none (fin_bl I q (by simp))
  | bl j => cases ry; exact PySem.EqNone.eq_none_bool (fin_bl I q (by simp))
  | int j => obtain ⟨t', rfl⟩ := ry; exact PySem.EqNone.eq_none_int (fin_bl I q (by simp))
  | str j => obtain ⟨t', rfl⟩ := ry; exact PySem.EqNone.eq_none_str (fin_bl I q (by simp))
  | _ => exact absurd (show false = true from hs) Bool.false_ne_true
 | bl i =>
  cases rx
  cases y with
  | non => cases ry; exact PySem.EqNone.eq_bool_none (fin_bl I q (by simp))
  | bl j => cases ry; exact eq_bool (fin_bl I q dec_bl)
  | str j => obtain ⟨t', rfl⟩ := ry; exact PySem.EqMixed.eq_bool_str (fin_bl I q (by simp))
  | _ => exact absurd (show false = true from hs) Bool.false_ne_true
 | int i =>
  obtain ⟨t, rfl⟩ := rx
  cases y with
  | non => cases ry; exact PySem.EqNone.eq_int_none (fin_bl I q (by simp))
  | int j => obtain ⟨t', rfl⟩ := ry; exact eq_int (fin_bl I q dec_int)
  | str j => obtain ⟨t', rfl⟩ := ry; exact PySem.EqMixed.eq_int_str (fin_bl I q (by simp))
  | _ => exact absurd (show false = true from hs) Bool.false_ne_true
 | str i =>
  obtain ⟨t, rfl⟩ := rx
  cases y with
  | non => cases ry; exact PySem.EqNone.eq_str_none (fin_bl I q (by simp))
  | bl j => cases ry; exact PySem.EqMixed.eq_str_bool (fin_bl I q (by simp))
  | int j => obtain ⟨t', rfl⟩ := ry; exact PySem.EqMixed.eq_str_int (fin_bl I q (by simp))
  | str j => obtain ⟨t', rfl⟩ := ry; exact eq_str (fin_bl I q dec_str)
  | _ => exact absurd (show false = true from hs) Bool.false_ne_true
 | byt i =>
  obtain ⟨t, rfl⟩ := rx
  cases y with
  | byt j => obtain ⟨t', rfl⟩ := ry; exact PySem.W.eq_bytes (fin_bl I q dec_byt)
  | _ => exact absurd (show false = true from hs) Bool.false_ne_true
 | _ => cases y <;> exact absurd (show false = true from hs) Bool.false_ne_true
theorem op_ne : OpR X (compareOp .NotEq) rNe := by
 intro pins s σ H x y v u Q I rx ry h
 obtain ⟨hs, q⟩ := h
 cases x with
 | non =>
  cases rx
  cases y with
  | non => cases ry; exact PySem.EqNone.ne_none_none (fin_bl I q (by simp))
  | bl j => cases ry; exact PySem.EqNone.ne_none_bool (fin_bl I q (by simp))
  | int j => obtain ⟨t', rfl⟩ := ry; exact PySem.EqNone.ne_none_int (fin_bl I q (by simp))
  | str j => obtain ⟨t', rfl⟩ := ry; exact PySem.EqNone.ne_none_str (fin_bl I q (by simp))
  | _ => exact absurd (show false = true from hs) Bool.false_ne_true
 | bl i =>
  cases rx
  cases y with
  | non => cases ry; exact PySem.EqNone.ne_bool_none (fin_bl I q (by simp))
  | bl j => cases ry; exact ne_bool (fin_bl I q (congrArg not dec_bl))
  | str j => obtain ⟨t', rfl⟩ := ry; exact PySem.EqMixed.ne_bool_str (fin_bl I q (by simp))
  | _ => exact absurd (show false = true from hs) Bool.false_ne_true
 | int i =>
  obtain ⟨t, rfl⟩ := rx
  cases y with
  | non => cases ry; exact PySem.EqNone.ne_int_none (fin_bl I q (by simp))
  | int j => obtain ⟨t', rfl⟩ := ry; exact ne_int (fin_bl I q (congrArg not dec_int))
  | str j => obtain ⟨t', rfl⟩ := ry; exact PySem.EqMixed.ne_int_str (fin_bl I q (by simp))
  | _ => exact absurd (show false = true from hs) Bool.false_ne_true
 | str i =>
  obtain ⟨t, rfl⟩ := rx
  cases y with
  | non => cases ry; exact PySem.EqNone.ne_str_none (fin_bl I q (by simp))
  | bl j => cases ry; exact PySem.EqMixed.ne_str_bool (fin_bl I q (by simp))
  | int j => obtain ⟨t', rfl⟩ := ry; exact PySem.EqMixed.ne_str_int (fin_bl I q (by simp))
  | str j => obtain ⟨t', rfl⟩ := ry; exact ne_str (fin_bl I q (congrArg not dec_str))
  | _ => exact absurd (show false = true from hs) Bool.false_ne_true
 | byt i =>
  obtain ⟨t, rfl⟩ := rx
  cases y with
  | byt j => obtain ⟨t', rfl⟩ := ry; exact PySem.W.ne_bytes (fin_bl I q (congrArg not dec_byt))
  | _ => exact absurd (show false = true from hs) Bool.false_ne_true
 | _ => cases y <;> exact absurd (show false = true from hs) Bool.false_ne_true
theorem op_lt : OpR X (compareOp .Lt) (rI0 fun i j => .bl (decide (i < j))) := opB0 fun _ _ _ _ _ _ _ q => lt_int q
theorem op_le : OpR X (compareOp .LtE) (rI0 fun i j => .bl (decide (i ≤ j))) := opB0 fun _ _ _ _ _ _ _ q => le_int q
theorem op_gt : OpR X (compareOp .Gt) (rI0 fun i j => .bl (decide (j < i))) := opB0 fun _ _ _ _ _ _ _ q => gt_int q
theorem op_in_str : OpR X (compareOp .In) (fun x y H Q => ∃ i j, x = .str i ∧ y = .str j ∧ Q (.bl (!(Builtin.Str.occurrences j i 0 j.length 1).isEmpty)) H) := by
 intro pins s σ H x y v u Q I rx ry h
 obtain ⟨i, j, rfl, rfl, q⟩ := h
 obtain ⟨t, rfl⟩ := rx
 obtain ⟨t', rfl⟩ := ry
 exact in_str (fin_bl I q rfl)
theorem op_isN : OpR X (compareOp .Is) (fun x y H Q => y = .non ∧ Q (.bl (decide (x = .non))) H) := by
 intro pins s σ H x y v u Q I rx ry h
 obtain ⟨rfl, q⟩ := h
 cases ry
 refine is_none_gen (fin_bl I q ?_)
 cases x <;> first
  | (cases rx; rfl)
  | (obtain ⟨t, rfl⟩ := rx; rfl)
theorem op_notN : OpR X (compareOp .IsNot) (fun x y H Q => y = .non ∧ Q (.bl (!decide (x = .non))) H) := by
 intro pins s σ H x y v u Q I rx ry h
 obtain ⟨rfl, q⟩ := h
 cases ry
 refine isnot_none_gen (fin_bl I q ?_)
 cases x <;> first
  | (cases rx; rfl)
  | (obtain ⟨t, rfl⟩ := rx; rfl)
theorem op_notin_str : OpR X (compareOp .NotIn) (fun x y H Q => ∃ i j, x = .str i ∧ y = .str j ∧ Q (.bl (!(!(Builtin.Str.occurrences j i 0 j.length 1).isEmpty))) H) := by
 intro pins s σ H x y v u Q I rx ry h
 obtain ⟨i, j, rfl, rfl, q⟩ := h
 obtain ⟨t, rfl⟩ := rx
 obtain ⟨t', rfl⟩ := ry
 exact notIn_str (fin_bl I q rfl)
theorem nomark (b : Expr) {op : CmpOp} (h : op ≠ .In := by decide) (h2 : op ≠ .NotIn := by decide) : behindInMarks op b = false := by
 have e1 : (op == CmpOp.In) = false := by cases op <;> first | rfl | exact absurd rfl h
 have e2 : (op == CmpOp.NotIn) = false := by cases op <;> first | rfl | exact absurd rfl h2
 cases b <;> simp [behindInMarks, e1, e2]
theorem pe_cmpR {op : CmpOp} {r : R2} (ho : OpR X (compareOp op) r) (ha : PE X a ta) (hb : PE X b tb) (hm : behindInMarks op b = false) : PE X (.Compare a [op] [b] pos) (tOp r ta tb) := by
 refine .mk ?_
 intro pins s σ H Q I h
 exact wpAny_Compare1 (binT ha hb I h fun v u s2 x y H2 I2 rx ry q => ho pins s2 σ H2 x y v u Q I2 rx ry q) hm
def tTest (t : TE) : TT := fun σ H Q => t σ H fun x H' => ∃ k, x = .bl k ∧ Q k H'
theorem pt_cmpR {op : CmpOp} {r : R2} (ho : OpR X (compareOp op) r) (ha : PE X a ta) (hb : PE X b tb) (hm : behindInMarks op b = false) : PT X (.Compare a [op] [b] pos) (tTest (tOp r ta tb)) := by
 refine .mk ?_
 intro pins s σ H Q I h
 refine wpAny_isTrue_Compare1 (thn (ha pins s σ H _ I h) fun v s1 ⟨x, H1, I1, r1, q1⟩ => thn (hb pins s1 σ H1 _ I1 q1) fun u s2 ⟨y, H2, I2, r2, q2⟩ =>
  thn (ho pins s2 σ H2 x y v u _ I2 r1 r2 q2) fun c s3 ⟨z, H3, I3, r3, k, e, q3⟩ => ?_) hm
 subst e
 cases r3
 exact wpAny_truthy_bool ⟨H3, I3, q3⟩
def tChain (r r' : R2) (ta tb tc : TE) : TE := fun σ H Q => ta σ H fun x H1 => tb σ H1 fun y H2 => r x y H2 fun z H3 => ∃ k, z = .bl k ∧
 (if k = true then tc σ H3 fun w' H4 => r' y w' H4 Q else Q (.bl false) H3)
theorem pe_chain {op op' : CmpOp} {r r' : R2} (ho : OpR X (compareOp op) r) (ho' : OpR X (compareOp op') r') (ha : PE X a ta) (hb : PE X b tb) (hc : PE X c tc)
  (hm : lastMarks [op, op'] [b, c] = false := by with_unfolding_all rfl) : PE X (.Compare a [op, op'] [b, c] pos) (tChain r r' ta tb tc) := by
 refine .mk ?_
 intro pins s σ H Q I h
 refine Compare_chain (thn (ha pins s σ H _ I h) fun v s1 ⟨x, H1, I1, r1, q1⟩ => chain_link (thn (hb pins s1 σ H1 _ I1 q1) fun u s2 ⟨y, H2, I2, r2, q2⟩ =>
  thn (ho pins s2 σ H2 x y v u _ I2 r1 r2 q2) fun d s3 ⟨z, H3, I3, r3, k, e, q3⟩ => ?_)) hm
 subst e
 cases r3
 refine wpAny_truthy_bool ?_
 cases k with
 | false => exact ite_ff ⟨.bl false, H3, I3, rfl, q3⟩
 | true => exact ite_tt (chain_last (thn (hc pins s3 σ H3 _ I3 q3) fun w' s4 ⟨z', H4, I4, r4, q4⟩ => ho' pins s4 σ H4 y z' u w' Q I4 r2 r4 q4))
theorem pt_chain {op op' : CmpOp} {r r' : R2} (ho : OpR X (compareOp op) r) (ho' : OpR X (compareOp op') r') (ha : PE X a ta) (hb : PE X b tb) (hc : PE X c tc)
  (hm : lastMarks [op, op'] [b, c] = false := by with_unfolding_all rfl) : PT X (.Compare a [op, op'] [b, c] pos) (tTest (tChain r r' ta tb tc)) := by
 refine .mk ?_
 intro pins s σ H Q I h
 refine isTrue_chain (thn (ha pins s σ H _ I h) fun v s1 ⟨x, H1, I1, r1, q1⟩ => test_link (thn (hb pins s1 σ H1 _ I1 q1) fun u s2 ⟨y, H2, I2, r2, q2⟩ =>
  thn (ho pins s2 σ H2 x y v u _ I2 r1 r2 q2) fun d s3 ⟨z, H3, I3, r3, k, e, q3⟩ => ?_)) hm
 subst e
 cases r3
 refine wpAny_truthy_bool ?_
 cases k with
 | false =>
  obtain ⟨k', e', q'⟩ := q3
  cases e'
  exact ite_ff ⟨H3, I3, q'⟩
 | true =>
  refine ite_tt (test_last (thn (hc pins s3 σ H3 _ I3 q3) fun w' s4 ⟨z', H4, I4, r4, q4⟩ => thn (ho' pins s4 σ H4 y z' u w' _ I4 r2 r4 q4) fun d' s5 ⟨z2, H5, I5, r5, k2, e2, q5⟩ => ?_))
  subst e2
  cases r5
  exact wpAny_truthy_bool ⟨H5, I5, q5⟩
theorem line63 : (sizeLine : Nat) < 2 ^ 63 := by rw [sizeLine_eq]; decide
theorem op_add_str : OpR X (binaryOp .Add) (fun x y H Q => ∃ i j, x = .str i ∧ y = .str j ∧ i.length + j.length ≤ sizeLine ∧ Q (.str (i ++ j)) H) := by
 intro pins s σ H x y v u Q I rx ry h
 obtain ⟨i, j, rfl, rfl, hz, q⟩ := h
 obtain ⟨t, rfl⟩ := rx
 obtain ⟨t', rfl⟩ := ry
 exact add_str (fun t' tk => ⟨.str (i ++ j), H, I.tok _, ⟨_, rfl⟩, q⟩) hz
theorem vals1 {x : V} {us : List Value} (r : Vals [x] us) : ∃ u, us = [u] ∧ RelV x u := by
 cases r with
 | cons r1 r2 => cases r2; exact ⟨_, rfl, r1⟩
theorem vals2 {x y : V} {us : List Value} (r : Vals [x, y] us) : ∃ u w', us = [u, w'] ∧ RelV x u ∧ RelV y w' := by
 cases r with
 | cons r1 r2 =>
  cases r2 with
  | cons r3 r4 => cases r4; exact ⟨_, _, rfl, r1, r3⟩
theorem call_str_int : CallR X (.type "str") (fun xs H Q => ∃ i, xs = [.int i] ∧ i.natAbs.log2 < 1920 ∧ Q (.str (toString i)) H) := by
 intro pins s σ H xs us Q I r h
 obtain ⟨i, rfl, hz, q⟩ := h
 obtain ⟨u, rfl, t, rfl⟩ := vals1 r
 exact PySem.P.str_of_int hz ⟨.str _, H, I.tok _, ⟨_, rfl⟩, q⟩
end
end L2
namespace L2
open PySem PySem.Spec PyProof.Rows
structure ObjM (h : Heap) (x dx C : Addr) (mA : Str → Option Value) : Prop where
 obj : h.get? x = some (PySem.W.instObj C dx)
 ns : h.Ns1 dx mA
 ne : dx ≠ x
theorem lookIn_ns {h : Heap} {dx : Addr} {mA : Str → Option Value} (n : h.Ns1 dx mA) : ∃ od, h.get? dx = some od ∧ ∀ name, PySem.W.lookIn name od = some (mA name) := by
 obtain ⟨o, es, ep, ho, hd, hk, _, hm⟩ := n
 refine ⟨o, ho, fun name => ?_⟩
 have e := hm name
 unfold nsFind findBy at e
 rw [← Array.find?_toList] at e
 unfold PySem.W.lookIn
 rw [hd]
 dsimp only
 split
 ·rename_i y q
  rw [q] at e
  exact congrArg some e
 ·rename_i q
  rw [q] at e
  have a : es.toList.any (·.refKey) = false := by
   rw [List.any_eq_false]
   intro y hy
   obtain ⟨z, t, hkey⟩ := hk y (Array.mem_toList_iff.mp hy)
   simp [DictEntry.refKey, hkey]
  have a' : ¬ es.toList.any (·.refKey) = true := by rw [a]; exact Bool.false_ne_true
  rw [if_neg a']
  exact congrArg some e
theorem ObjM.look {h : Heap} {x dx C : Addr} {mA : Str → Option Value} (I : ObjM h x dx C mA) : ∃ od, PySem.W.InstAt h x (PySem.W.instObj C dx) C (some od) ∧ ∀ name, PySem.W.lookIn name od = some (mA name) :=
 let ⟨od, ho, hl⟩ := lookIn_ns I.ns
 ⟨od, ⟨I.obj, rfl, rfl, ho⟩, hl⟩
section
variable {prog: Program}{w: World}{A: Around}{E: Value → Shared → Prop}{s: Shared}{K: PySem.W.Frag}{x dx C f: Addr}{mA: Str → Option Value}{name: Str}{v: Value}
theorem get_map {expr : Bool} {Q : Value → Shared → Prop} (X : K.In s.heap) (I : ObjM s.heap x dx C mA) (hg : PySem.W.plainGet K C name = true) (hh : PySem.W.hasDictIn K C = true)
  (ha : PySem.W.findIn K (.ref C) name = some none) (hv : mA name = some v) (hv' : PySem.W.handedIn v = true) (h : Q v { s with toks := s.toks + 1 }) :
  wpAny (model prog w) A (getAttr (.ref x) name expr) Q E s := by
 obtain ⟨od, J, hl⟩ := I.look
 exact PySem.W.get_value X J (PySem.W.plainGet_of hg).1 (PySem.W.findObj_own hh ha rfl (by rw [hl, hv])) hv' h
theorem get_meth {pl : Sem Bool} {Q : Value × List Value → Shared → Prop} (X : K.In s.heap) (I : ObjM s.heap x dx C mA) (hg : PySem.W.plainGet K C name = true)
  (hf : PySem.W.findIn K (.ref C) name = some (some (.ref f))) (ht : PySem.W.isFn K (.ref f) = true) (hv : mA name = none) (h : Q (.ref f, [.ref x]) s) :
  wpAny (model prog w) A (getMethod (.ref x) name pl) Q E s := by
 obtain ⟨od, J, hl⟩ := I.look
 exact PySem.W.method_fn X J (PySem.W.plainGet_of hg).1 (PySem.W.plainGet_of hg).2 hf (beq_iff_eq.mp ht) (by show (PySem.W.lookIn name od).map (·.isSome) = some false; rw [hl, hv]; rfl) h
theorem set_map {ns : List Str} {Q : Unit → Shared → Prop} (X : K.In s.heap) (I : ObjM s.heap x dx C mA)
  (hs : PySem.W.findIn K (.ref C) "__setattr__" = some (some (.builtin "object.__setattr__"))) (hp : PySem.W.plainOver K C = true) (ht : PySem.W.takerIn K C name = some none) (hh : PySem.W.hasDictIn K C = true)
  (hw : PySem.Within mA ns) (hsz : ns.length ≤ sizeLine)
  (h : ∀ h', ObjM h' x dx C (fun y => if y = name then some v else mA y) → Heap.SameBut dx s.heap h' → Q () { s with heap := h', toks := s.toks + 2 }) :
  wpAny (model prog w) A (setAttr (.ref x) name v) Q E s := by
 obtain ⟨od, J, hl⟩ := I.look
 refine PySem.W.set_plain X J hs (PySem.W.osa_open (s := { s with toks := s.toks + 1 }) (r := none) X J hp ht fun b => ?_)
 obtain ⟨cd, hc, hd'⟩ := PySem.W.any_some hh
 have hx : s.heap.get? x = some ⟨.ref C, some dx, .plain, #[]⟩ := I.obj
 refine wpAny_bind (wpAny_pure (wpAny_bind (wpAny_bind (wpAny_loadPart hx (wpAny_bind (PySem.W.Looks.here (s := { s with toks := s.toks + 1 }) (PySem.W.looks_clsIn X hc) ?_))))))
 rw [hd']
 refine wpAny_pure (a := some dx) (wpAny_bind (wpAny_pure (wpAny_bind ?_)))
 refine wpAny_nsSet1 (s := { s with toks := s.toks + 1 }) I.ns fun h' hn2 hs2 => ?_
 obtain ⟨oD, esD, epD, hoD, hdD, hcD⟩ := hn2.count (PySem.Within.cons name v hw)
 refine wpAny_bind (wpAny_lookBehind hoD (by rw [hdD]; exact pastItsLine_dict (Nat.le_trans hcD (by rw [List.length_cons]; omega))) ?_)
 exact wpAny_pure (h _ ⟨(hs2.2 _ (Ne.symm I.ne)).trans I.obj, hn2, I.ne⟩ hs2)
theorem make_map {R : Result → Shared → Prop} {vs : List Value} {kw : List (Str × Value)} (X : K.In s.heap) (hm : PySem.W.makesIn K C = true)
  (hi : PySem.W.findIn K (.ref C) "__init__" = some (some (.ref f))) (hf : PySem.W.typeIn K (.ref f) = some (.type "function"))
  (h : codeAny (model prog w) (A.under (.builtin "type.__call__" ⟨.ref C :: vs, kw⟩)) (.call (.ref f) ⟨.ref (s.heap.objs.size + 1) :: vs, kw⟩) (PySem.W.InitBack (s.heap.objs.size + 1) R)
   { s with heap := (s.heap.push PySem.W.emptyDict).push (PySem.W.instObj C s.heap.objs.size) }) :
  codeAny (model prog w) A (.call (.ref C) ⟨vs, kw⟩) R s := by
 obtain ⟨hh, g, d, t, os⟩ := s
 exact PySem.W.make_core (PySem.W.makes_of X hm) (PySem.W.looks_findIn X hi) (fun self => PySem.W.bind_fn X self hf) (.inl rfl) h
end
def putF (f : Str) (v : V) : List (Str × V) → List (Str × V)
 | [] => [(f, v)]
 | (g, x) :: r => if g = f then (g, v) :: r else (g, x) :: putF f v r
theorem lookup_putF (f g : Str) (v : V) : ∀ fs : List (Str × V), (putF f v fs).lookup g = if g = f then some v else fs.lookup g
 | [] => by
  show List.lookup g [(f, v)] = _
  by_cases h : g = f
  ·have hb : (g == f) = true := beq_iff_eq.mpr h
   simp only [List.lookup, hb, if_pos h]
  ·have hb : (g == f) = false := beq_eq_false_iff_ne.mpr h
   simp only [List.lookup, hb, if_neg h]
 | (k, x) :: r => by
  have ih := lookup_putF f g v r
  rw [show putF f v ((k, x) :: r) = (if k = f then (k, v) :: r else (k, x) :: putF f v r) from rfl]
  by_cases hk : k = f
  ·rw [if_pos hk]
   by_cases h : g = k
   ·have hb : (g == k) = true := beq_iff_eq.mpr h
    simp only [List.lookup, hb, if_pos (h.trans hk)]
   ·have hb : (g == k) = false := beq_eq_false_iff_ne.mpr h
    simp only [List.lookup, hb, if_neg (fun e : g = f => h (e.trans hk.symm))]
  ·rw [if_neg hk]
   by_cases h : g = k
   ·have hb : (g == k) = true := beq_iff_eq.mpr h
    simp only [List.lookup, hb, if_neg (fun e : g = f => hk (h.symm.trans e))]
   ·have hb : (g == k) = false := beq_eq_false_iff_ne.mpr h
    simp only [List.lookup, hb]
    exact ih
theorem keys_putF (f : Str) (v : V) : ∀ fs : List (Str × V), f ∈ (putF f v fs).map (·.1) ∧ ∀ g, g ∈ fs.map (·.1) → g ∈ (putF f v fs).map (·.1)
 | [] => ⟨by simp [putF], fun g h => by simp at h⟩
 | (k, x) :: r => by
  obtain ⟨i1, i2⟩ := keys_putF f v r
  rw [show putF f v ((k, x) :: r) = (if k = f then (k, v) :: r else (k, x) :: putF f v r) from rfl]
  by_cases hk : k = f
  ·rw [if_pos hk]
   subst hk
   exact ⟨by simp, fun g h => by simpa using h⟩
  ·rw [if_neg hk]
   refine ⟨?_, fun g h => ?_⟩
   ·rw [List.map_cons]
    exact List.mem_cons_of_mem _ i1
   ·rw [List.map_cons] at h ⊢
    rcases List.mem_cons.mp h with e | e
    ·exact List.mem_cons.mpr (.inl e)
    ·exact List.mem_cons_of_mem _ (i2 g e)
theorem length_putF (f : Str) (v : V) : ∀ fs : List (Str × V), (putF f v fs).length ≤ fs.length + 1
 | [] => by simp [putF]
 | (k, x) :: r => by
  have ih := length_putF f v r
  rw [show putF f v ((k, x) :: r) = (if k = f then (k, v) :: r else (k, x) :: putF f v r) from rfl]
  by_cases hk : k = f
  ·rw [if_pos hk, List.length_cons, List.length_cons]; omega
  ·rw [if_neg hk, List.length_cons, List.length_cons]; omega
theorem RelO.some_of {v : V} {o : Option Value} (r : RelO (some v) o) : ∃ u, o = some u ∧ RelV v u := by
 cases o with
 | none => exact (show False from r).elim
 | some u => exact ⟨u, rfl, r⟩
theorem RelO.none_of {o : Option Value} (r : RelO none o) : o = none := by
 cases o with
 | none => rfl
 | some u => exact (show False from r).elim
theorem handed_of {v : V} {u : Value} (r : RelV v u) : PySem.W.handedIn u = true := by
 cases v with
 | non => cases (show u = Value.none from r); rfl
 | bl b => cases (show u = Value.bool b from r); rfl
 | int i => obtain ⟨t, e⟩ := (show ∃ t, u = Value.int i t from r); cases e; rfl
 | str x => obtain ⟨t, e⟩ := (show ∃ t, u = Value.str x t from r); cases e; rfl
 | byt b => obtain ⟨t, e⟩ := (show ∃ t, u = Value.bytes b t from r); cases e; rfl
 | flt b => obtain ⟨t, e⟩ := (show ∃ t, u = Value.float b t from r); cases e; rfl
 | ref a => cases (show u = Value.ref a from r); rfl
 | ty n => cases (show u = Value.type n from r); rfl
section
variable {P: Program}{w: World}{H: Hp}{h: Heap}{a C dx: Addr}{fs: List (Str × V)}
theorem ins_get (hok : HOk P w H h) (e : H a = some (.ins C dx fs)) : ∃ mA, ObjM h a dx C mA ∧ (∀ f, RelO (fs.lookup f) (mA f)) ∧ PySem.Within mA (fs.map (·.1)) ∧ fs.length ≤ 1000 ∧ H dx = some (.own a) := by
 obtain ⟨d, z, ne, ob, mA, n, r, q⟩ := (show ObjOk P w H h a (.ins C dx fs) from hok a _ e)
 exact ⟨mA, ⟨ob, n, ne⟩, r, q, z, d⟩
end
structure Cls (K : PySem.W.Frag) (C : Addr) : Prop where
 pg : PySem.W.plainGet K C Str.empty = true
 hd : PySem.W.hasDictIn K C = true
 po : PySem.W.plainOver K C = true
 sa : PySem.W.findIn K (.ref C) "__setattr__" = some (some (.builtin "object.__setattr__"))
theorem Cls.get {K : PySem.W.Frag} {C : Addr} (c : Cls K C) (f : Str) : PySem.W.plainGet K C f = true := c.pg
def NoAttr (K : PySem.W.Frag) (C : Addr) (f : Str) : Prop := PySem.W.findIn K (.ref C) f = some none
theorem NoAttr.taker {K : PySem.W.Frag} {C : Addr} {f : Str} (n : NoAttr K C f) : PySem.W.takerIn K C f = some none := by
 unfold PySem.W.takerIn
 rw [show PySem.W.findIn K (.ref C) f = some none from n]
 rfl
structure Meth (K : PySem.W.Frag) (C : Addr) (m : Str) (f : Addr) : Prop where
 at_ : PySem.W.findIn K (.ref C) m = some (some (.ref f))
 fn : PySem.W.isFn K (.ref f) = true
 kp : PySem.W.keepIn K (.ref f) = true
section
variable {X: Cx}{pins: List (Addr × Obj)}{σ: St}{H: Hp}{s: Shared}{a C dx: Addr}{fs: List (Str × V)}{f: Str}{v: V}{A: Around}{E: Value → Shared → Prop}
theorem getattr_ok {b : Bool} {Q : Value → Shared → Prop} (I : Inv X pins σ H s) (e : H a = some (.ins C dx fs)) (c : Cls X.K C) (n : NoAttr X.K C f) (l : fs.lookup f = some v)
  (h : ∀ u s', Inv X pins σ H s' → RelV v u → Q u s') : wpAny (model X.prog X.w) A (getAttr (.ref a) f b) Q E s := by
 obtain ⟨mA, O, r, _, _, _⟩ := ins_get I.hok e
 obtain ⟨u, hu, ru⟩ := RelO.some_of (v := v) (o := mA f) (by rw [← l]; exact r f)
 exact get_map I.kIn O (c.get f) c.hd n hu (handed_of ru) (h u _ (I.tok _) ru)
theorem getmeth_ok {m : Str} {g : Addr} {pl : Sem Bool} {Q : Value × List Value → Shared → Prop} (I : Inv X pins σ H s) (e : H a = some (.ins C dx fs)) (c : Cls X.K C) (k : Meth X.K C m g) (l : fs.lookup m = none)
  (h : Q (.ref g, [.ref a]) s) : wpAny (model X.prog X.w) A (getMethod (.ref a) m pl) Q E s := by
 obtain ⟨mA, O, r, _, _, _⟩ := ins_get I.hok e
 have hn : mA m = none := RelO.none_of (by rw [← l]; exact r m)
 exact get_meth I.kIn O (c.get m) k.at_ k.fn hn h
theorem setattr_ok {y : V} {u : Value} {Q : Unit → Shared → Prop} (I : Inv X pins σ H s) (e : H a = some (.ins C dx fs)) (c : Cls X.K C) (n : NoAttr X.K C f) (hl : fs.length < 1000) (ry : RelV y u)
  (h : ∀ s', Inv X pins σ (upd H a (.ins C dx (putF f y fs))) s' → Q () s') : wpAny (model X.prog X.w) A (setAttr (.ref a) f u) Q E s := by
 obtain ⟨mA, O, r, wi, _, ho⟩ := ins_get I.hok e
 have hz : (fs.map (·.1)).length ≤ sizeLine := by rw [List.length_map, sizeLine_eq]; omega
 refine set_map I.kIn O c.sa c.po n.taker c.hd wi hz fun h' O' sb => h _ ?_
 have hd : ∃ o, h'.get? dx = some o := let ⟨o, _, _, e', _⟩ := O'.ns; ⟨o, e'⟩
 refine I.write (x := a) (e := dx) (by rw [e]; exact True.intro) (.inr ho) (fun b q hb z => (sb.2 b hb).trans z) hd ?_
 refine ⟨by rw [upd_ne O.ne]; exact ho, ?_, O.ne, O'.obj, _, O'.ns, fun g => ?_, fun g hg => ?_⟩
 ·have := length_putF f y fs; omega
 ·show RelO ((putF f y fs).lookup g) (if g = f then some u else mA g)
  rw [lookup_putF]
  by_cases q : g = f
  ·rw [if_pos q, if_pos q]; exact ry
  ·rw [if_neg q, if_neg q]; exact r g
 ·by_cases q : g = f
  ·rw [q]; exact (keys_putF f y fs).1
  ·refine (keys_putF f y fs).2 g (wi g fun z => hg ?_)
   show (if g = f then some u else mA g) = none
   rw [if_neg q]; exact z
theorem Inv.made (I : Inv X pins σ H s) : Inv X pins σ (upd (upd H s.heap.objs.size (.own (s.heap.objs.size + 1))) (s.heap.objs.size + 1) (.ins C s.heap.objs.size []))
  { s with heap := (s.heap.push PySem.W.emptyDict).push (PySem.W.instObj C s.heap.objs.size) } := by
 have e1 : (s.heap.push PySem.W.emptyDict).get? s.heap.objs.size = some PySem.W.emptyDict := Heap.get?_push_size s.heap rfl
 have e2 : ((s.heap.push PySem.W.emptyDict).push (PySem.W.instObj C s.heap.objs.size)).get? (s.heap.objs.size + 1) = some (PySem.W.instObj C s.heap.objs.size) := by
  have := Heap.get?_push_size (s.heap.push PySem.W.emptyDict) (o := PySem.W.instObj C s.heap.objs.size) rfl
  rwa [Heap.size_push] at this
 have e3 : (s.heap.push PySem.W.emptyDict).Ns s.heap.objs.size (fun _ => none) := ⟨PySem.W.emptyDict, #[], _, e1, rfl, (fun e he => absurd he (by simp)), fun _ => rfl⟩
 have I1 := I.laid (a := s.heap.objs.size) (o := .own (s.heap.objs.size + 1)) (h' := s.heap.push PySem.W.emptyDict) (t' := s.toks) (fun b u q => Heap.get?_push_of_some _ q) (Nat.le_refl _) ⟨_, e1⟩
 refine I1.laid (a := s.heap.objs.size + 1) (o := .ins C s.heap.objs.size []) (t' := s.toks) (fun b u q => Heap.get?_push_of_some _ q) (Nat.le_of_eq (Heap.size_push _ _)) ?_
 have ne : s.heap.objs.size ≠ s.heap.objs.size + 1 := Nat.ne_of_lt (Nat.lt_succ_self _)
 refine ⟨by rw [upd_ne ne, upd_same], Nat.zero_le _, ne, e2, fun _ => none, (Heap.Ns1.of_empty e3).at fun o q => Heap.get?_push_of_some _ q, fun _ => True.intro, fun y hy => absurd rfl hy⟩
theorem attr_of {prog : Program} {w : World} {env : Env} {e : Expr} {f : Str} {pos : Pos} {s : Shared} {Q : Value → Shared → Prop} (hb : attributeBase e f env (eval e env) = eval e env)
  (h : wpAny (model prog w) A (eval e env) (fun o s₁ => wpAny (model prog w) A (getAttr o f true) Q E s₁) E s) : wpAny (model prog w) A (eval (.Attribute e f pos) env) Q E s :=
 Attribute_any_ h (by rw [arm_eval_Attribute, hb])
end
def tFld (K : PySem.W.Frag) (ta : TE) (f : Str) : TE := fun σ H Q => ta σ H fun x H1 => ∃ a C dx fs v, x = .ref a ∧ H1 a = some (.ins C dx fs) ∧ Cls K C ∧ NoAttr K C f ∧ fs.lookup f = some v ∧ Q v H1
def sFld (K : PySem.W.Frag) (ta tv : TE) (f : Str) : TS := fun D σ H => tv σ H fun y H1 => ta σ H1 fun x H2 => ∃ a C dx fs, x = .ref a ∧ H2 a = some (.ins C dx fs) ∧ Cls K C ∧ NoAttr K C f ∧ fs.length < 1000 ∧
 D.nx σ (upd H2 a (.ins C dx (putF f y fs)))
def InOp (X : Cx) (op : Operator) (rd : V → V → Hp → VK → Prop) : Prop :=
 ∀ (pins : List (Addr × Obj)) (s : Shared) (σ : St) (H : Hp) (x y : V) (u v : Value) (Q : VK), Inv X pins σ H s → RelV x u → RelV y v → rd x y H Q → wpAny (model X.prog X.w) X.A (inplaceOp op u v) (EP X pins σ Q) X.xe s
def sFldAug (K : PySem.W.Frag) (ta tv : TE) (rd : V → V → Hp → VK → Prop) (f : Str) : TS := fun D σ H => ta σ H fun x H1 => ∃ a C dx fs v, x = .ref a ∧ H1 a = some (.ins C dx fs) ∧ Cls K C ∧ NoAttr K C f ∧ fs.lookup f = some v ∧
 tv σ H1 fun y H2 => rd v y H2 fun z H3 => ∃ dx' fs', H3 a = some (.ins C dx' fs') ∧ fs'.length < 1000 ∧ D.nx σ (upd H3 a (.ins C dx' (putF f z fs')))
section
variable {X: Cx}{o e value: Expr}{f: Str}{pos pos' tpos: Pos}{ta tv: TE}
theorem pe_fld (he : PE X e ta) (hb : attributeBase e f X.env (eval e X.env) = eval e X.env) : PE X (.Attribute e f pos) (tFld X.K ta f) := by
 refine .mk ?_
 intro pins s σ H Q I h
 refine attr_of hb (thn (he pins s σ H _ I h) fun u s1 ⟨x, H1, I1, rx, a, C, dx, fs, v, ex, ea, c, n, l, q⟩ => ?_)
 subst ex
 obtain rfl : u = Value.ref a := rx
 exact getattr_ok I1 ea c n l fun u' s2 I2 ru => ⟨v, H1, I2, ru, q⟩
theorem ps_fld (ha : PE X o ta) (hv : PE X value tv) (hs : swapsWith value (some (.Attribute o f pos')) pos.line X.env = pure false) : PS X (.Assign [.Attribute o f pos'] value pos) (sFld X.K ta tv f) := by
 refine .mk ?_
 intro pins s σ H D I h
 refine plainObj_wpAny_Assign_Attribute (thn (hv pins s σ H _ I h) fun u s1 ⟨y, H1, I1, ry, q⟩ => thn (ha pins s1 σ H1 _ I1 q) fun ov s2 ⟨x, H2, I2, rx, a, C, dx, fs, ex, ea, c, n, l, q2⟩ => ?_) hs
 subst ex
 obtain rfl : ov = Value.ref a := rx
 exact setattr_ok I2 ea c n l ry fun s3 I3 => ⟨σ, _, I3, q2⟩
theorem ps_fldaug {op : Operator} {rd : V → V → Hp → VK → Prop} (ha : PE X o ta) (hv : PE X value tv) (hop : InOp X op rd) : PS X (.AugAssign (.Attribute o f tpos) op value pos) (sFldAug X.K ta tv rd f) := by
 refine .mk ?_
 intro pins s σ H D I h
 refine wpAny_AugAssign_AttributeAny (thn (ha pins s σ H _ I h) fun ov s1 ⟨x, H1, I1, rx, a, C, dx, fs, v, ex, ea, c, n, l, q⟩ => ?_)
 subst ex
 obtain rfl : ov = Value.ref a := rx
 refine getattr_ok I1 ea c n l fun u s2 I2 ru => thn (hv pins s2 σ H1 _ I2 q) fun w3 s3 ⟨y, H2, I3, ry, q3⟩ => thn (hop pins s3 σ H2 v y u w3 _ I3 ru ry q3) fun w4 s4 ⟨z, H3, I4, rz, dx', fs', ea', l', q4⟩ => ?_
 exact setattr_ok I4 ea' c n l' rz fun s5 I5 => ⟨σ, _, I5, q4⟩
end
section
variable {X: Cx}{pins: List (Addr × Obj)}{σ: St}{H: Hp}{s: Shared}{A: Around}{E: Value → Shared → Prop}{Q: Value → Shared → Prop}{c: Value}{b: Bool}
inductive TyOf (K : PySem.W.Frag) (H : Hp) : V → Value → Prop where
 | non : TyOf K H .non (.type "NoneType")
 | bl (x : Bool) : TyOf K H (.bl x) (.type "bool")
 | int (i : Int) : TyOf K H (.int i) (.type "int")
 | str (x : Str) : TyOf K H (.str x) (.type "str")
 | flt (x : UInt64) : TyOf K H (.flt x) (.type "float")
 | lst {a : Addr} {xs : List V} (e : H a = some (.lst xs)) : TyOf K H (.ref a) (.type "list")
 | frz {a : Addr} {o : Obj} {xs : List V} (e : H a = some (.frz o (.lst xs))) : TyOf K H (.ref a) (.type "list")
 | tup {a : Addr} {xs : List V} (e : H a = some (.tup xs)) : TyOf K H (.ref a) (.type "tuple")
 | dK {a : Addr} {kvs : List (Key × V)} (e : H a = some (.dK kvs)) : TyOf K H (.ref a) (.type "dict")
 | dT {a : Addr} {kvs : List (List Key × V)} (e : H a = some (.dT kvs)) : TyOf K H (.ref a) (.type "dict")
 | ins {a C dx : Addr} {fs : List (Str × V)} (e : H a = some (.ins C dx fs)) (cl : Cls K C) (ha : PySem.W.findIn K (.ref C) "__class__" = some (some (.builtin "object.__class__")))
   (hn : PySem.W.specialIn K (.builtin "object.__class__") "__get__" = some (some (.builtin "getset_descriptor.__get__"))) (htk : PySem.W.takesIn K (.builtin "object.__class__") = some true)
   (hm : PySem.W.mroIn K C (.type "object") = some true) : TyOf K H (.ref a) (.ref C)
theorem isinst_ok {x : V} {u t : Value} (I : Inv X pins σ H s) (rx : RelV x u) (ty : TyOf X.K H x t) (e : PySem.W.kitOne X.K t c = some b) (h : ∀ tk, Q (.bool b) { s with toks := tk }) :
  wpAny (model X.prog X.w) A (call (.builtin "isinstance") [u, c]) Q E s := by
 cases ty with
 | non => cases (show u = Value.none from rx); exact PySem.W.kia_one PySem.W.kitx_none I.kIn True.intro e (fun z => nomatch z) h
 | bl y => cases (show u = Value.bool y from rx); exact PySem.W.kia_one PySem.W.kitx_bool I.kIn True.intro e (fun z => nomatch z) h
 | int i => obtain ⟨t, q⟩ := (show ∃ t, u = Value.int i t from rx); cases q; exact PySem.W.kia_one PySem.W.kitx_int I.kIn True.intro e (fun z => nomatch z) h
 | str y => obtain ⟨t, q⟩ := (show ∃ t, u = Value.str y t from rx); cases q; exact PySem.W.kia_one PySem.W.kitx_str I.kIn True.intro e (fun z => nomatch z) h
 | flt y => obtain ⟨t, q⟩ := (show ∃ t, u = Value.float y t from rx); cases q; exact PySem.W.kia_one PySem.W.kitx_float I.kIn True.intro e (fun z => nomatch z) h
 | @lst a xs ea =>
  cases (show u = Value.ref a from rx)
  obtain ⟨_, _, n, _, h1⟩ := (show ObjOk X.prog X.w H s.heap a (.lst xs) from I.hok a _ ea)
  exact PySem.W.kia_one PySem.W.kitx_list I.kIn ⟨_, h1, rfl⟩ e (fun z => nomatch z) h
 | @frz a ob xs ea =>
  cases (show u = Value.ref a from rx)
  obtain ⟨_, _, _, n, _, h1⟩ := (show ObjOk X.prog X.w H s.heap a (.frz ob (.lst xs)) from I.hok a _ ea)
  exact PySem.W.kia_one PySem.W.kitx_list I.kIn ⟨_, h1, rfl⟩ e (fun z => nomatch z) h
 | @tup a xs ea =>
  cases (show u = Value.ref a from rx)
  obtain ⟨_, _, _, p⟩ := (show ObjOk X.prog X.w H s.heap a (.tup xs) from I.hok a _ ea)
  obtain ⟨o, h1, h2, _⟩ := p
  exact PySem.W.kia_one PySem.W.kitx_tuple I.kIn ⟨o, h1, h2⟩ e (fun z => nomatch z) h
 | @dK a kvs ea =>
  cases (show u = Value.ref a from rx)
  obtain ⟨_, _, vs, _, p⟩ := (show ObjOk X.prog X.w H s.heap a (.dK kvs) from I.hok a _ ea)
  obtain ⟨o, es, ep, h1, h2, _⟩ := p
  exact PySem.W.kia_one PySem.W.kitx_dict I.kIn ⟨o, h1, h2.1⟩ e (fun z => nomatch z) h
 | @dT a kvs ea =>
  cases (show u = Value.ref a from rx)
  obtain ⟨_, _, xs, _, o, es, ep, h1, h2, _⟩ := (show ObjOk X.prog X.w H s.heap a (.dT kvs) from I.hok a _ ea)
  exact PySem.W.kia_one PySem.W.kitx_dict I.kIn ⟨o, h1, h2.1⟩ e (fun z => nomatch z) h
 | @ins a C dx fs ea cl ha hn htk hm =>
  cases (show u = Value.ref a from rx)
  obtain ⟨mA, O, _⟩ := ins_get I.hok ea
  obtain ⟨od, J, _⟩ := O.look
  exact PySem.W.kia_one (PySem.W.kitx_own (cl.get _) cl.hd ha hn htk hm) I.kIn J e (fun z => nomatch z) h
end
end L2
namespace L2
open PySem PySem.Spec PyProof.Rows
structure Room (k : Nat) (A : Around) : Prop where
 hd : A.handled = none
 dp : A.depth + 3 * k + 5 < recursionLimit
 un : A.units + 16 * k + 200 < cLine
theorem Room.mono {j k : Nat} {A : Around} (r : Room k A) (h : j ≤ k) : Room j A := ⟨r.hd, by have := r.dp; omega, by have := r.un; omega⟩
theorem Room.deeper {k : Nat} {A : Around} (r : Room (k + 1) A) (env : Env) : Room k (A.deeper env) :=
 ⟨r.hd, by have := r.dp; show A.depth + 1 + 3 * k + 5 < _; omega, by have := r.un; show A.units + 3 + 16 * k + 200 < _; omega⟩
theorem make_depth {A : Around} {C : Addr} {us : List Value} {kw : List (Str × Value)} : (A.under (.builtin "type.__call__" ⟨.ref C :: us, kw⟩)).depth = A.depth + 1 := by
 first | rfl | simp [Around.under, Code.weight, Code.isCreation, Code.isGuard, Code.isCaller, Code.frames, Code.isFrame, guardIds]
theorem make_units {A : Around} {C : Addr} {us : List Value} {kw : List (Str × Value)} : (A.under (.builtin "type.__call__" ⟨.ref C :: us, kw⟩)).units = A.units + 1 := by
 first | rfl | simp [Around.under, Code.cUnits, Code.frames, Code.isFrame]
theorem Room.make {k : Nat} {A : Around} (r : Room (k + 1) A) (C : Addr) (us : List Value) (kw : List (Str × Value)) : Room k (A.under (.builtin "type.__call__" ⟨.ref C :: us, kw⟩)) :=
 ⟨r.hd, by have := r.dp; rw [make_depth]; omega, by have := r.un; rw [make_units]; omega⟩
theorem Room.depth {k : Nat} {A : Around} (r : Room k A) : A.depth < recursionLimit := by have := r.dp; omega
def tNil : TA := fun _ H Q => Q [] H
def tCons (ta : TE) (tr : TA) : TA := fun σ H Q => ta σ H fun x H1 => tr σ H1 fun xs H2 => Q (x :: xs) H2
section
variable {X: Cx}{e: Expr}{es: List Expr}{te: TE}{t: TA}{pos: Pos}
theorem pa_nil : PA X [] tNil := .mk fun _ _ _ _ H Q I h => Calls.spliced_nil ⟨[], H, I, .nil, h⟩
theorem pa_cons (ha : PE X e te) (hr : PA X es t) (hs : starEach (e :: es) X.env = (false, eval e X.env) :: starEach es X.env := by rfl) : PA X (e :: es) (tCons te t) := by
 refine .mk ?_
 intro pos pins s σ H Q I h
 rw [hs]
 show wpAny _ _ (spliced ((false, eval e X.env) :: backTo pos (starEach es X.env))) _ _ s
 refine Calls.spliced_cons (thn (ha pins s σ H _ I h) fun u s1 ⟨x, H1, I1, r1, q1⟩ => ?_)
 exact thn (hr pos pins s1 σ H1 _ I1 q1) fun us s2 ⟨xs, H2, I2, r2, q2⟩ => ⟨x :: xs, H2, I2, .cons r1 r2, q2⟩
def tTup (t : TA) : TE := fun σ H Q => t σ H fun xs H1 => xs.length ≤ sizeLine ∧ ∀ p, H1 p = none → Q (.ref p) (upd H1 p (.tup xs))
def tLst (t : TA) : TE := fun σ H Q => t σ H fun xs H1 => xs.length ≤ sizeLine ∧ ∀ p, H1 p = none → Q (.ref p) (upd H1 p (.lst xs))
theorem pe_tup {x1} (h : PA X es t) : PE X (.Tuple es x1 pos) (tTup t) := by
 refine .mk ?_
 intro pins s σ H Q I hq
 refine wpAny_Tuple_spliced (thn (h pos pins s σ H _ I hq) fun us s1 ⟨xs, H1, I1, r, z, q⟩ => ⟨by rw [← r.length]; exact z, ?_⟩)
 have hf : H1 s1.heap.objs.size = none := I1.hok.fresh (Nat.le_refl _)
 refine ⟨.ref s1.heap.objs.size, upd H1 s1.heap.objs.size (.tup xs), I1.laid (t' := s1.toks) (fun b u e => Heap.get?_push_of_some _ e) (Nat.le_refl _) ?_, rfl, q _ hf⟩
 exact ⟨z, us, r, ⟨_, Heap.get?_push_size _ rfl, rfl, _, rfl⟩⟩
theorem pe_lst (h : PA X es t) : PE X (.List es pos) (tLst t) := by
 refine .mk ?_
 intro pins s σ H Q I hq
 refine wpAny_List_spliced (thn (h pos pins s σ H _ I hq) fun us s1 ⟨xs, H1, I1, r, z, q⟩ => ⟨by rw [← r.length]; exact z, ?_⟩)
 have hf : H1 s1.heap.objs.size = none := I1.hok.fresh (Nat.le_refl _)
 refine ⟨.ref s1.heap.objs.size, upd H1 s1.heap.objs.size (.lst xs), I1.laid (t' := s1.toks) (fun b u e => Heap.get?_push_of_some _ e) (Nat.le_refl _) ?_, rfl, q _ hf⟩
 exact ⟨z, us, 0, r, Heap.get?_push_size _ rfl⟩
end
abbrev Sp := List V → Hp → VK → XK → Prop
abbrev CXT := List Env → Hp → Shared → XK → Value → Shared → Prop
structure Env0 (P : Program) (w : World) (K : PySem.W.Frag) (mg : Str → Option Value) (base : Heap) (A : Around) (outer : List Env) (s : Shared) (H : Hp) : Prop where
 frames : A.frames = some outer
 mod : Mod K mg base
 bs : ∀ b o, base.get? b = some o → s.heap.get? b = some o ∧ H b = none
 bsz : base.objs.size ≤ s.heap.objs.size
 funs : s.heap.FunFrames base outer
 frf : ∀ b ∈ frs outer, H b = none
 hok : HOk P w H s.heap
 bare : AllBare s.gens
def CE (outer : List Env) (P : Program) (w : World) (H : Hp) (s : Shared) (Q : VK) (u : Value) (s' : Shared) : Prop :=
 ∃ v H', s'.os = s.os ∧ AllBare s'.gens ∧ Un (frs outer) [] H H' s.heap s'.heap ∧ HOk P w H' s'.heap ∧ RelV v u ∧ Q v H'
def CR (CX : CXT) (outer : List Env) (P : Program) (w : World) (H : Hp) (s : Shared) (Q : VK) (E : XK) (r : Result) (s' : Shared) : Prop :=
 match r with
 | .ok (.ret u) => CE outer P w H s Q u s'
 | .ok _ => False
 | .error e => CX outer H s E e s'
structure FnOk (P : Program) (w : World) (K : PySem.W.Frag) (mg : Str → Option Value) (base : Heap) (CX : CXT) (k : Nat) (f : Addr) (fd : FuncData) (ps : List Str) (sp : Sp) : Prop where
 len : ∀ vs H Q E, sp vs H Q E → vs.length = ps.length
 run : ∀ (A : Around) (outer : List Env) (s : Shared) (H : Hp) (args : Args) (us : List Value) (vs : List V) (Q : VK) (E : XK), Room k A → Env0 P w K mg base A outer s H → BindsTo s fd args (ps.zip us) → Vals vs us → sp vs H Q E →
  codeAny (model P w) A (.call (.ref f) args) (CR CX outer P w H s Q E) s
theorem FnOk.imp {P : Program} {w : World} {K : PySem.W.Frag} {mg : Str → Option Value} {base : Heap} {CX : CXT} {k : Nat} {f : Addr} {fd : FuncData} {ps : List Str} {sp sp' : Sp} (F : FnOk P w K mg base CX k f fd ps sp)
  (h : ∀ vs H Q E, sp' vs H Q E → sp vs H Q E) : FnOk P w K mg base CX k f fd ps sp' :=
 ⟨fun vs H Q E q => F.len vs H Q E (h _ _ _ _ q), fun A outer s H args us vs Q E hr he hb hv hs => F.run A outer s H args us vs Q E hr he hb hv (h _ _ _ _ hs)⟩
theorem Env0.make {P : Program} {w : World} {K : PySem.W.Frag} {mg : Str → Option Value} {base : Heap} {A : Around} {outer : List Env} {s : Shared} {H : Hp} (e : Env0 P w K mg base A outer s H) (C : Addr) (us : List Value) (kw : List (Str × Value)) :
  Env0 P w K mg base (A.under (.builtin "type.__call__" ⟨.ref C :: us, kw⟩)) outer s H := ⟨by first | exact e.frames | (simpa [Around.under, Code.envs, Code.isFrame, pushEnvs] using e.frames), e.mod, e.bs, e.bsz, e.funs, e.frf, e.hok, e.bare⟩
section
variable {X: Cx}{pins: List (Addr × Obj)}{σ: St}{H: Hp}{s s': Shared}
theorem Inv.env0 (I : Inv X pins σ H s) : Env0 X.prog X.w X.K X.mg X.base X.A X.stack s H :=
 ⟨I.ok.frames, I.ok.mod, I.bs, Nat.le_trans I.ok.bsz I.sz, I.stack, I.stkFree, I.hok, I.bare⟩
theorem Inv.after {Q : VK} {u : Value} (I : Inv X pins σ H s) (h : CE X.stack X.prog X.w H s Q u s') : EP X pins σ Q u s' := by
 obtain ⟨v, H', os, bare, un, hok, r, q⟩ := h
 obtain ⟨hh, g, d, t, os'⟩ := s'
 obtain rfl : os' = s.os := os
 exact ⟨v, H', I.call (h' := hh) (g' := g) (d' := d) (t' := t) (ch := []) un hok bare (fun b z => absurd z (by simp)), r, q⟩
end
def tCall (sp : Sp) (dvs : List V) (E : XK) (t : TA) : TE := fun σ H Q => t σ H fun vs H1 => sp (vs ++ dvs) H1 Q E
def tMeth (C : Addr) (m : Str) (sp : Sp) (dvs : List V) (E : XK) (ta : TE) (t : TA) : TE := fun σ H Q => ta σ H fun x H1 => ∃ a dx fs, x = .ref a ∧ H1 a = some (.ins C dx fs) ∧ fs.lookup m = none ∧
 t σ H1 fun vs H2 => sp (x :: (vs ++ dvs)) H2 Q E
def tMake (C : Addr) (sp : Sp) (dvs : List V) (E : XK) (t : TA) : TE := fun σ H Q => t σ H fun vs H1 => ∀ x dx, H1 x = none → H1 dx = none → dx ≠ x →
 sp (.ref x :: (vs ++ dvs)) (upd (upd H1 dx (.own x)) x (.ins C dx [])) (fun v H2 => v = .non ∧ Q (.ref x) H2) E
def Binds (K : PySem.W.Frag) (fd : FuncData) (ps : List Str) (ds : List Value) : Prop :=
 ∀ (s : Shared) (us : List Value), K.In s.heap → (us ++ ds).length = ps.length → BindsTo s fd ⟨us, []⟩ (ps.zip (us ++ ds))
theorem Binds.all {K : PySem.W.Frag} {fd : FuncData} {ps : List Str} (h : ∀ us : List Value, us.length = ps.length → bindArgs fd ⟨us, []⟩ = pure (ps.zip us)) : Binds K fd ps [] := fun s us _ hl => by
 rw [List.append_nil] at hl ⊢
 exact .of_eq (h us hl)
def Passes (CX : CXT) (X : Cx) (E : XK) : Prop := ∀ (pins : List (Addr × Obj)) (σ : St) (H : Hp) (s : Shared) (e : Value) (s' : Shared), Inv X pins σ H s → CX X.stack H s E e s' → X.xe e s'
section
variable {X: Cx}{CX: CXT}{k: Nat}{f C: Addr}{fd: FuncData}{ps: List Str}{sp: Sp}{dvs: List V}{ds: List Value}{E: XK}{x m: Str}{p pos apos: Pos}{e o: Expr}{es: List Expr}{ta: TE}{t: TA}
theorem run_fn {pins : List (Addr × Obj)} {σ : St} {H : Hp} {s : Shared} {Q : VK} {us : List Value} {vs : List V} (F : FnOk X.prog X.w X.K X.mg X.base CX k f fd ps sp) (hr : Room k X.A) (hb : Binds X.K fd ps ds) (hd : Vals dvs ds) (hx : Passes CX X E)
  (I : Inv X pins σ H s) (r : Vals vs us) (h : sp (vs ++ dvs) H Q E) : wpAny (model X.prog X.w) X.A (call (.ref f) us) (EP X pins σ Q) X.xe s := by
 have r2 : Vals (vs ++ dvs) (us ++ ds) := r.append hd
 have hl : (us ++ ds).length = ps.length := by rw [← r2.length]; exact F.len _ _ _ _ h
 refine wpAny_call (codeAny_mono (F.run X.A X.stack s H ⟨us, []⟩ (us ++ ds) (vs ++ dvs) Q E hr I.env0 (hb s us I.kIn hl) r2 h) fun r s' hq => ?_)
 cases r with
 | error e => exact hx pins σ H s e s' I hq
 | ok fl =>
  cases fl with
  | ret u => exact I.after hq
  | next => exact False.elim hq
  | brk => exact False.elim hq
  | cont => exact False.elim hq
theorem pe_call (F : FnOk X.prog X.w X.K X.mg X.base CX k f fd ps sp) (hr : Room k X.A) (hg : Gl X x) (hm : X.mg x = some (.ref f)) (hk : PySem.W.keepIn X.K (.ref f) = true) (hb : Binds X.K fd ps ds) (hd : Vals dvs ds) (hx : Passes CX X E)
  (ha : PA X (e :: es) t) (hdb : (x == ("__debug__" : Str)) = false := by decide) (he : starEach (e :: es) X.env = (false, eval e X.env) :: starEach es X.env := by rfl) (hpl : (backTo pos (starEach es X.env)).any (·.1) = false := by rfl) :
  PE X (.Call (.Name x p) (e :: es) [] pos) (tCall sp dvs E t) := by
 refine .mk ?_
 intro pins s σ H Q I h
 refine wpAny_Call_Name_kw (ld_glob I hg hm ?_ hdb)
 refine PySem.W.callWith_K (h₀ := X.base) I.ok.mod.kin hk (thn (ha pos pins s σ H _ I h) fun us s1 ⟨vs, H1, I1, r, q⟩ => ⟨I1.kIn, ?_⟩) he hpl
 exact run_fn F hr hb hd hx I1 r q
theorem pe_meth {pl : Sem Bool} (he : PE X o ta) (c : Cls X.K C) (hm : Meth X.K C m f) (F : FnOk X.prog X.w X.K X.mg X.base CX k f fd ps sp) (hr : Room k X.A) (hb : Binds X.K fd ps ds) (hd : Vals dvs ds) (hx : Passes CX X E) (ha : PA X (e :: es) t)
  (hst : starEach (e :: es) X.env = (false, eval e X.env) :: starEach es X.env := by rfl) (hpl : (backTo pos (starEach es X.env)).any (·.1) = false := by rfl)
  (ht : eval (.Call (.Attribute o m apos) (e :: es) [] pos) X.env = (do
   let ov ← eval o X.env
   standAt apos.atName
   let (f, first) ← holding [ov] (getMethod ov m pl)
   callWith pos f first (backTo pos (starEach (e :: es) X.env)) (backToKw pos (keywordEach [] X.env))) := by rfl) :
  PE X (.Call (.Attribute o m apos) (e :: es) [] pos) (tMeth C m sp dvs E ta t) := by
 refine .mk ?_
 intro pins s σ H Q I h
 refine PySem.W.methodCall_KW (pl := pl) (thn (he pins s σ H _ I h) fun u s1 ⟨x, H1, I1, rx, a, dx, fs, ex, ea, l, q⟩ => ?_) ht
 subst ex
 obtain rfl : u = Value.ref a := rx
 refine getmeth_ok I1 ea c hm l ?_
 refine PySem.W.callWith_K (first := [.ref a]) (h₀ := X.base) I.ok.mod.kin hm.kp (thn (ha pos pins s1 σ H1 _ I1 q) fun us s2 ⟨vs, H2, I2, r, q2⟩ => ⟨I2.kIn, ?_⟩) hst hpl
 exact run_fn (us := .ref a :: us) (vs := .ref a :: vs) F hr hb hd hx I2 (.cons rfl r) q2
theorem pe_meth0 {pl : Sem Bool} (he : PE X o ta) (c : Cls X.K C) (hm : Meth X.K C m f) (F : FnOk X.prog X.w X.K X.mg X.base CX k f fd ps sp) (hr : Room k X.A) (hb : Binds X.K fd ps ds) (hd : Vals dvs ds) (hx : Passes CX X E)
  (ht : eval (.Call (.Attribute o m apos) [] [] pos) X.env = (do
   let ov ← eval o X.env
   standAt apos.atName
   let (f, first) ← holding [ov] (getMethod ov m pl)
   callWith pos f first (backTo pos (starEach [] X.env)) (backToKw pos (keywordEach [] X.env))) := by rfl) :
  PE X (.Call (.Attribute o m apos) [] [] pos) (tMeth C m sp dvs E ta tNil) := by
 refine .mk ?_
 intro pins s σ H Q I h
 refine PySem.W.methodCall_KW (pl := pl) (thn (he pins s σ H _ I h) fun u s1 ⟨x, H1, I1, rx, a, dx, fs, ex, ea, l, q⟩ => ?_) ht
 subst ex
 obtain rfl : u = Value.ref a := rx
 refine getmeth_ok I1 ea c hm l ?_
 exact PySem.W.callWith_K0 (first := [.ref a]) I1.kIn hm.kp (run_fn (us := [.ref a]) (vs := [.ref a]) F hr hb hd hx I1 (.cons rfl .nil) q)
structure Mk (K : PySem.W.Frag) (C f : Addr) : Prop where
 makes : PySem.W.makesIn K C = true
 init : PySem.W.findIn K (.ref C) "__init__" = some (some (.ref f))
 fn : PySem.W.isFn K (.ref f) = true
 kp : PySem.W.keepIn K (.ref C) = true
theorem run_make {pins : List (Addr × Obj)} {σ : St} {H : Hp} {s : Shared} {Q : VK} {us : List Value} {vs : List V} (M : Mk X.K C f) (F : FnOk X.prog X.w X.K X.mg X.base CX k f fd ps sp) (hr : Room (k + 1) X.A) (hb : Binds X.K fd ps ds) (hd : Vals dvs ds)
  (hx : Passes CX X E) (I : Inv X pins σ H s) (r : Vals vs us)
  (h : ∀ x dx, H x = none → H dx = none → dx ≠ x → sp (.ref x :: (vs ++ dvs)) (upd (upd H dx (.own x)) x (.ins C dx [])) (fun v H2 => v = .non ∧ Q (.ref x) H2) E) :
  wpAny (model X.prog X.w) X.A (call (.ref C) us) (EP X pins σ Q) X.xe s := by
 have hq := h (s.heap.objs.size + 1) s.heap.objs.size (I.hok.fresh (Nat.le_succ _)) (I.hok.fresh (Nat.le_refl _)) (Nat.ne_of_lt (Nat.lt_succ_self _))
 have I2 := Inv.made (C := C) I
 have r2 : Vals (V.ref (s.heap.objs.size + 1) :: (vs ++ dvs)) (Value.ref (s.heap.objs.size + 1) :: (us ++ ds)) := .cons rfl (r.append hd)
 have hl : (Value.ref (s.heap.objs.size + 1) :: us ++ ds).length = ps.length := by
  have e := r2.length
  rw [F.len _ _ _ _ hq] at e
  exact e.symm
 refine wpAny_call (make_map (f := f) I.kIn M.makes M.init (beq_iff_eq.mp M.fn) (codeAny_mono (F.run _ X.stack _ _ ⟨Value.ref (s.heap.objs.size + 1) :: us, []⟩ (Value.ref (s.heap.objs.size + 1) :: (us ++ ds)) _ _ E (hr.make C us [])
  (I2.env0.make C us []) (hb _ (Value.ref (s.heap.objs.size + 1) :: us) I2.kIn hl) r2 hq) fun r s' hq' => ?_))
 cases r with
 | error e => exact hx pins σ _ _ e s' I2 hq'
 | ok fl =>
  cases fl with
  | ret u =>
   obtain ⟨v, H', I3, rv, ev, q3⟩ := I2.after hq'
   subst ev
   exact ⟨rv, ⟨V.ref (s.heap.objs.size + 1), H', I3, rfl, q3⟩⟩
  | next => exact False.elim hq'
  | brk => exact False.elim hq'
  | cont => exact False.elim hq'
theorem pe_make (M : Mk X.K C f) (F : FnOk X.prog X.w X.K X.mg X.base CX k f fd ps sp) (hr : Room (k + 1) X.A) (hg : Gl X x) (hm : X.mg x = some (.ref C)) (hb : Binds X.K fd ps ds) (hd : Vals dvs ds) (hx : Passes CX X E)
  (ha : PA X (e :: es) t) (hdb : (x == ("__debug__" : Str)) = false := by decide) (he : starEach (e :: es) X.env = (false, eval e X.env) :: starEach es X.env := by rfl) (hpl : (backTo pos (starEach es X.env)).any (·.1) = false := by rfl) :
  PE X (.Call (.Name x p) (e :: es) [] pos) (tMake C sp dvs E t) := by
 refine .mk ?_
 intro pins s σ H Q I h
 refine wpAny_Call_Name_kw (ld_glob I hg hm ?_ hdb)
 refine PySem.W.callWith_K (h₀ := X.base) I.ok.mod.kin M.kp (thn (ha pos pins s σ H _ I h) fun us s1 ⟨vs, H1, I1, r, q⟩ => ⟨I1.kIn, ?_⟩) he hpl
 exact run_make M F hr hb hd hx I1 r q
end
structure PK (X : Cx) (kws : List Keyword) (t : TA) : Prop where
 run : ∀ (pos : Pos) (pins : List (Addr × Obj)) (s : Shared) (σ : St) (H : Hp) (Q : List V → Hp → Prop), Inv X pins σ H s → t σ H Q → wpAny (model X.prog X.w) X.A (evalAll ((backToKw pos (keywordEach kws X.env)).map (·.2))) (AP X pins σ Q) X.xe s
instance {X : Cx} {kws : List Keyword} {t : TA} : CoeFun (PK X kws t) fun _ => ∀ (pos : Pos) (pins : List (Addr × Obj)) (s : Shared) (σ : St) (H : Hp) (Q : List V → Hp → Prop), Inv X pins σ H s → t σ H Q → wpAny (model X.prog X.w) X.A (evalAll ((backToKw pos (keywordEach kws X.env)).map (·.2))) (AP X pins σ Q) X.xe s := ⟨PK.run⟩
structure FnScope (N P : List Str) (sc : Scope) : Prop where
 kind : sc.kind = .function
 co : sc.isCoroutine = false
 gen : sc.isGenerator = false
 nd : N.Nodup
 pre : N.take P.length = P
 par : ∀ x ∈ P, sc.names.lookup x = some .local ∨ sc.names.lookup x = some .cell
 nofree : ∀ y ∈ sc.names, y.2 ≠ .free
theorem bindL_out {kindOf : Str → Option NameKind} {x : Str} : ∀ {binds : List (Str × Value)} {m : Str → Option Value}, (∀ v, (x, v) ∉ binds) → bindL kindOf binds m x = m x
 | [], _, _ => rfl
 | (n, v) :: r, m, h => by
  unfold bindL
  rw [bindL_out fun w hw => h w (List.mem_cons_of_mem _ hw)]
  split
  ·have : x ≠ n := by rintro rfl; exact h v List.mem_cons_self
   simp [this]
  ·rfl
theorem bindC_out {kindOf : Str → Option NameKind} {x : Str} : ∀ {binds : List (Str × Value)} {m : Str → Option Value}, (∀ v, (x, v) ∉ binds) → bindC kindOf binds m x = m x
 | [], _, _ => rfl
 | (n, v) :: r, m, h => by
  unfold bindC
  rw [bindC_out fun w hw => h w (List.mem_cons_of_mem _ hw)]
  split
  ·rfl
  ·have : x ≠ n := by rintro rfl; exact h v List.mem_cons_self
   simp [this]
theorem bindL_get {kindOf : Str → Option NameKind} {x : Str} {v : Value} : ∀ {P : List Str} {vs : List Value} {i : Nat} {m : Str → Option Value}, P.Nodup → P[i]? = some x → vs[i]? = some v → kindOf x = some .local →
  bindL kindOf (P.zip vs) m x = some v
 | [], _, _, _, _, h, _, _ => by simp at h
 | _ :: _, [], _, _, _, _, h, _ => by simp at h
 | p :: P, w :: vs, 0, m, nd, h1, h2, hk => by
  simp at h1 h2; subst h1; subst h2
  show bindL kindOf ((p, w) :: P.zip vs) m p = _
  unfold bindL
  rw [bindL_out fun v hv => (List.nodup_cons.mp nd).1 (List.of_mem_zip hv).1, if_pos hk]
  simp
 | p :: P, w :: vs, i + 1, m, nd, h1, h2, hk => by
  show bindL kindOf ((p, w) :: P.zip vs) m x = _
  unfold bindL
  exact bindL_get (i := i) (List.nodup_cons.mp nd).2 (by simpa using h1) (by simpa using h2) hk
theorem bindC_get {kindOf : Str → Option NameKind} {x : Str} {v : Value} : ∀ {P : List Str} {vs : List Value} {i : Nat} {m : Str → Option Value}, P.Nodup → P[i]? = some x → vs[i]? = some v → kindOf x ≠ some .local →
  bindC kindOf (P.zip vs) m x = some v
 | [], _, _, _, _, h, _, _ => by simp at h
 | _ :: _, [], _, _, _, _, h, _ => by simp at h
 | p :: P, w :: vs, 0, m, nd, h1, h2, hk => by
  simp at h1 h2; subst h1; subst h2
  show bindC kindOf ((p, w) :: P.zip vs) m p = _
  unfold bindC
  rw [bindC_out fun v hv => (List.nodup_cons.mp nd).1 (List.of_mem_zip hv).1, if_neg hk]
  simp
 | p :: P, w :: vs, i + 1, m, nd, h1, h2, hk => by
  show bindC kindOf ((p, w) :: P.zip vs) m x = _
  unfold bindC
  exact bindC_get (i := i) (List.nodup_cons.mp nd).2 (by simpa using h1) (by simpa using h2) hk
def start (N : List Str) (vs : List V) : St := vs.map some ++ List.replicate (N.length - vs.length) none
def cxOf (CX : CXT) (P : Program) (w : World) (K : PySem.W.Frag) (mg : Str → Option Value) (base : Heap) (N : List Str) (qual : Str) (scope : Scope) (f : Addr) (cd : Value) (A : Around) (outer : List Env) (s : Shared) (H : Hp) (E : XK) : Cx where
 prog := P
 w := w
 K := K
 mg := mg
 base := base
 A := A.deeper (envOfC qual scope s.heap.objs.size f cd)
 N := N
 s₀ := s
 H₀ := H
 env := envOfC qual scope s.heap.objs.size f cd
 outer := outer
 stack := envOfC qual scope s.heap.objs.size f cd :: outer
 ex := []
 calm := true
 fn := fun _ => true
 pn := []
 xe := fun e s' => wpAny (model P w) (A.deeper (envOfC qual scope s.heap.objs.size f cd)) (leaving (envOfC qual scope s.heap.objs.size f cd) e) (fun _ s'' => CX outer H s E e s'') (fun e' s'' => CX outer H s E e' s'') s'
theorem cell_has {sc : Scope} {n : Nat} {x : Str} (h : sc.names.lookup x = some .cell) : ∃ c, (cellsFrom n sc.names []).lookup x = some c := by
 have q := PySem.W.cellsFrom_some sc.names n [] (.inl h)
 exact Option.isSome_iff_exists.mp q
theorem inv_start {CX : CXT} {P : Program} {w : World} {K : PySem.W.Frag} {mg : Str → Option Value} {base : Heap} {N ps : List Str} {qual : Str} {scope : Scope} {f : Addr} {cd : Value} {A : Around} {outer : List Env} {s s1 : Shared} {H : Hp} {E : XK} {us : List Value} {vs : List V}
  (S : FnScope N ps scope) (hd : A.handled = none) (e0 : Env0 P w K mg base A outer s H) (hl : vs.length = ps.length) (r : Vals vs us)
  (x : InCallC s s.heap.objs.size (bindL (envOfC qual scope s.heap.objs.size f cd).kindOf (ps.zip us) fun _ => none) (cellsFrom (s.heap.objs.size + 1) scope.names []) (bindC (envOfC qual scope s.heap.objs.size f cd).kindOf (ps.zip us) fun _ => none) s1) :
  Inv (cxOf CX P w K mg base N qual scope f cd A outer s H E) [] (start N vs) H s1 := by
 have hpl : ps.length ≤ N.length := by have := congrArg List.length S.pre; rw [List.length_take] at this; omega
 obtain ⟨h1, tk, rfl, hk⟩ := x.done
 have noA : ∀ b : Addr, b ∉ (cxOf CX P w K mg base N qual scope f cd A outer s H E).ex := fun b z => absurd (show b ∈ ([] : List Addr) from z) (by simp)
 refine ⟨⟨e0.mod, S.kind, rfl, rfl, Nat.le_refl _, fun y z c h1 h2 => ?_, fun y hy => ?_, fun y c _ h => ?_, fun _ => hd, Around.frames_deeper e0.frames, .inr ⟨rfl, rfl⟩, fun b z => absurd z (noA b), e0.bs, e0.bsz, fun b _ _ => noA b, fun b z => absurd z (noA b), e0.funs, e0.frf⟩,
  rfl, e0.bare, Un.kept hk, ⟨_, x.toInCall.ns, fun i y v h1 h2 h3 => ?_⟩, fun y c h => ⟨_, x.cell y c h⟩, e0.hok.fresh (Nat.le_refl _), fun y c h => ?_, fun p hp => absurd (show p ∈ ([] : List (Addr × Obj)) from hp) (by simp), e0.hok.kept hk, ?_⟩
 ·exact name_of_addr x.apart (PySem.mem_of_lookup h1) (PySem.mem_of_lookup h2)
 ·have hy : scope.names.lookup y = some .cell ∨ scope.names.lookup y = some .free := hy
  rcases hy with hy | hy
  ·exact cell_has hy
  ·exact absurd rfl (S.nofree _ (PySem.mem_of_lookup hy))
 ·exact Nat.le_of_lt (x.above y c (PySem.mem_of_lookup h))
 ·have hi : i < vs.length := by
   unfold start at h2
   by_cases hi : i < vs.length
   ·exact hi
   ·rw [List.getElem?_append_right (by simpa using hi)] at h2
    rw [List.getElem?_replicate] at h2
    split at h2 <;> cases h2
  have ha : vs[i]? = some v := by
   unfold start at h2
   rw [List.getElem?_append_left (by simpa using hi), List.getElem?_map] at h2
   cases e : vs[i]? with
   | none => rw [e] at h2; cases h2
   | some a => rw [e] at h2; cases h2; rfl
  obtain ⟨u, hu, rv⟩ := r.get ha
  have hp : ps[i]? = some y := by
   rw [← S.pre, List.getElem?_take_of_lt (by omega)]; exact h1
  have ndP : ps.Nodup := by rw [← S.pre]; exact S.nd.sublist (List.take_sublist _ _)
  refine ⟨u, rv, ?_⟩
  rcases S.par y (List.mem_of_getElem? hp) with k | k
  ·exact .inl ⟨k, bindL_get ndP hp hu k⟩
  ·obtain ⟨c, e⟩ := cell_has (n := s.heap.objs.size + 1) k
   refine .inr ⟨.inl k, c, e, ?_⟩
   have q := x.cell y c e
   rw [bindC_get ndP hp hu (by show scope.names.lookup y ≠ _; rw [k]; decide)] at q
   exact q
 ·exact e0.hok.fresh (Nat.le_of_lt (x.above y c (PySem.mem_of_lookup h)))
 ·unfold start
  show _ = N.length
  rw [List.length_append, List.length_map, List.length_replicate]
  omega
theorem fn_of {CX : CXT} {P : Program} {w : World} {K : PySem.W.Frag} {mg : Str → Option Value} {base : Heap} {k : Nat} {f : Addr} {name qual : Str} {params : Arguments} {body : List Stmt} {scope : Scope} {dV kV doc pm cdv ct oc : Value} {an od : Option Addr}
  {osl : Array (Option Value)} {N ps : List Str} {sp : Sp} (lk : K.lookup f = some ⟨oc, od, .func (PySem.W.fnOf name qual params body scope dV kV doc pm an cdv ct), osl⟩) (hcd : PySem.W.codeIn K cdv qual = true) (S : FnScope N ps scope)
  (len : ∀ vs H Q E, sp vs H Q E → vs.length = ps.length)
  (hbody : ∀ (A : Around) (outer : List Env) (s : Shared) (H : Hp) (vs : List V) (Q : VK) (E : XK), Room k (A.deeper (envOfC qual scope s.heap.objs.size f cdv)) → sp vs H Q E →
   ∃ t, PSs (cxOf CX P w K mg base N qual scope f cdv A outer s H E) body t ∧ t { nx := fun _ H' => Q .non H', rt := Q } (start N vs) H) :
  FnOk P w K mg base CX (k + 1) f (PySem.W.fnOf name qual params body scope dV kV doc pm an cdv ct) ps sp := by
 refine ⟨len, fun A outer s H args us vs Q E hr e0 hb r hsp => ?_⟩
 have hl := len _ _ _ _ hsp
 have KX : K.In s.heap := e0.mod.kin.keeps fun b o e => (e0.bs b o e).1
 have lim : s.heap.NoLimit := e0.mod.nolimit.keeps fun b o e => (e0.bs b o e).1
 have hkind : ∀ y ∈ ps.zip us, scope.names.lookup y.1 = some .local ∨ (scope.names.lookup y.1 = some .cell ∧ ((cellsFrom (s.heap.objs.size + 1) scope.names []).lookup y.1).isSome = true) := fun ⟨n, v⟩ hy => by
  rcases S.par n (List.of_mem_zip hy).1 with q | q
  ·exact .inl q
  ·exact .inr ⟨q, PySem.W.cellsFrom_some _ _ _ (.inl q)⟩
 refine codeAny_call_function hr.depth (KX _ _ lk) rfl S.co S.gen rfl (PySem.W.codeRec_of KX hcd) (hb _ _ _ _ ?_)
 refine wpAny_newFunctionEnv_cells S.kind hkind fun env he s1 x => ?_
 subst he
 refine ⟨lim.keeps x.toInCall.keep, codeAny_func ?_⟩
 obtain ⟨t, ht, hq⟩ := hbody A outer s H vs Q E (hr.deeper _) hsp
 have I : Inv (cxOf CX P w K mg base N qual scope f cdv A outer s H E) [] (start N vs) H s1 := inv_start S hr.hd e0 hl r x
 refine wpAny_mono (ht [] s1 (start N vs) H _ I hq) (fun fl s' hs => ?_) fun e s' hs => hs
 have fin : ∀ {σ' : St} {H' : Hp} {v : V} {u : Value}, Inv (cxOf CX P w K mg base N qual scope f cdv A outer s H E) [] σ' H' s' → RelV v u → Q v H' → CE outer P w H s Q u s' :=
  fun {σ' H' v u} J rv q => ⟨v, H', J.os, J.bare, J.base, J.hok, rv, q⟩
 cases fl with
 | ret u =>
  obtain ⟨v, σ', H', J, rv, q⟩ := hs
  exact fin J rv q
 | next =>
  obtain ⟨σ', H', J, q⟩ := hs
  exact fin (v := V.non) (u := Value.none) J rfl q
 | brk =>
  obtain ⟨_, _, _, q⟩ := hs
  exact False.elim q
 | cont =>
  obtain ⟨_, _, _, q⟩ := hs
  exact False.elim q
end L2
namespace L2
open PySem PySem.Spec PyProof.Rows
section
variable {X: Cx}{x: Str}{p pos: Pos}{e: Expr}{es: List Expr}{t: TA}{id T: String}{r: List V → Hp → VK → Prop}
def tCB (r : List V → Hp → VK → Prop) (t : TA) : TE := fun σ H Q => t σ H fun vs H1 => r vs H1 Q
theorem pe_callB (hc : CallR X (.builtin id) r) (hg : Gl X x) (hm : X.mg x = none) (hv : bootBuiltins x = some (.builtin id)) (ha : PA X (e :: es) t) (hn : x ≠ "__name__" := by decide) (hdb : (x == ("__debug__" : Str)) = false := by decide)
  (he : starEach (e :: es) X.env = (false, eval e X.env) :: starEach es X.env := by rfl) (hpl : (backTo pos (starEach es X.env)).any (·.1) = false := by rfl) : PE X (.Call (.Name x p) (e :: es) [] pos) (tCB r t) := by
 refine .mk ?_
 intro pins s σ H Q I h
 refine wpAny_Call_Name_kw (ld_blt I hg hm hv ?_ hn hdb)
 exact PyProof.Rows.callWith_builtin1 (thn (ha pos pins s σ H _ I h) fun us s1 ⟨vs, H1, I1, r1, q1⟩ => hc pins s1 σ H1 vs us Q I1 r1 q1) he hpl
theorem pe_callTy (hc : CallR X (.type T) r) (hg : Gl X x) (hm : X.mg x = none) (hv : bootBuiltins x = some (.type T)) (ha : PA X (e :: es) t) (hn : x ≠ "__name__" := by decide) (hdb : (x == ("__debug__" : Str)) = false := by decide)
  (he : starEach (e :: es) X.env = (false, eval e X.env) :: starEach es X.env := by rfl) (hpl : (backTo pos (starEach es X.env)).any (·.1) = false := by rfl) : PE X (.Call (.Name x p) (e :: es) [] pos) (tCB r t) := by
 refine .mk ?_
 intro pins s σ H Q I h
 refine wpAny_Call_Name_kw (ld_blt I hg hm hv ?_ hn hdb)
 exact PyProof.Rows.callWith_type1 (thn (ha pos pins s σ H _ I h) fun us s1 ⟨vs, H1, I1, r1, q1⟩ => hc pins s1 σ H1 vs us Q I1 r1 q1) he hpl
end
end L2
namespace HT
open PySem PyProof.Rows
section
open PySem.SeqAt
open PySem.AutoSeq1 (wpAny_loadPart')
open PySem.MeetsSeq PySem.MeetsSeq2 PySem.MeetsSeq3
end
def sIx (n d : Nat) : Option Int → Nat
 | none => d
 | some v => if v < 0 then (v + (n : Int)).toNat else min v.toNat n
theorem sIx_le (n d : Nat) (hd : d ≤ n) (o : Option Int) : sIx n d o ≤ n := by
 cases o with
 | none => exact hd
 | some v =>
  show (if v < 0 then (v + (n : Int)).toNat else min v.toNat n) ≤ n
  by_cases hv : v < 0
  ·rw [if_pos hv]; omega
  ·rw [if_neg hv]; exact Nat.min_le_right _ _
end HT
namespace L2
open PySem PySem.Spec PyProof.Rows
abbrev TO := St → Hp → (Option Int → Hp → Prop) → Prop
structure PO (X : Cx) (e : Option Expr) (t : TO) : Prop where
 run : ∀ (pins : List (Addr × Obj)) (s : Shared) (σ : St) (H : Hp) (Q : Option Int → Hp → Prop), Inv X pins σ H s → t σ H Q →
  wpAny (model X.prog X.w) X.A (evalPart e X.env) (fun u s' => ∃ o H', Inv X pins σ H' s' ∧ IsPart u o ∧ Q o H') X.xe s
instance {X : Cx} {e : Option Expr} {t : TO} : CoeFun (PO X e t) fun _ => ∀ (pins : List (Addr × Obj)) (s : Shared) (σ : St) (H : Hp) (Q : Option Int → Hp → Prop), Inv X pins σ H s → t σ H Q → wpAny (model X.prog X.w) X.A (evalPart e X.env) (fun u s' => ∃ o H', Inv X pins σ H' s' ∧ IsPart u o ∧ Q o H') X.xe s := ⟨PO.run⟩
def tNoPart : TO := fun _ H Q => Q none H
def tPart (t : TE) : TO := fun σ H Q => t σ H fun x H1 => ∃ i, x = .int i ∧ Q (some i) H1
section
variable {X: Cx}{e: Expr}{te: TE}{lo hi: Option Expr}{tl th: TO}{pos p2: Pos}
theorem po_none : PO X none tNoPart := by
 refine .mk ?_
 intro pins s σ H Q I h
 rw [evalPart_none]
 exact wpAny_pure ⟨none, H, I, .none, h⟩
theorem po_some (h : PE X e te) : PO X (some e) (tPart te) := by
 refine .mk ?_
 intro pins s σ H Q I hw
 rw [evalPart_some]
 refine thn (h pins s σ H _ I hw) fun u s1 ⟨x, H1, I1, r1, q1⟩ => ?_
 obtain ⟨i, rfl, q⟩ := q1
 obtain ⟨t, rfl⟩ := r1
 exact ⟨some i, H1, I1, .int i t, q⟩
def SlR (X : Cx) (r : V → Option Int → Option Int → Hp → VK → Prop) : Prop :=
 ∀ (pins : List (Addr × Obj)) (s : Shared) (σ : St) (H : Hp) (x : V) (v vl vu : Value) (lo hi : Option Int) (sl : Addr) (Q : VK), Inv X pins σ H s → RelV x v → s.heap.IsSliceOf sl vl vu .none → IsPart vl lo → IsPart vu hi → r x lo hi H Q →
  ∃ T id, typeLookup (.type T) "__getitem__" = pure (some (.builtin id)) ∧ s.TypeIs v T ∧ wpAny (model X.prog X.w) X.A (getItem v (.ref sl)) (EP X pins σ Q) X.xe s
def tSl (r : V → Option Int → Option Int → Hp → VK → Prop) (te : TE) (tl th : TO) : TE := fun σ H Q => te σ H fun x H1 => tl σ H1 fun l H2 => th σ H2 fun u H3 => r x l u H3 Q
theorem pe_slice {r : V → Option Int → Option Int → Hp → VK → Prop} (hr : SlR X r) (he : PE X e te) (hl : PO X lo tl) (hu : PO X hi th) : PE X (.Subscript e (.Slice lo hi none p2) pos) (tSl r te tl th) := by
 refine .mk ?_
 intro pins s σ H Q I h
 refine Subscript_ (thn (he pins s σ H _ I h) fun v s1 ⟨x, H1, I1, r1, q1⟩ => ?_)
 refine wpAny_Slice (thn (hl pins s1 σ H1 _ I1 q1) fun vl s2 ⟨l, H2, I2, pl, q2⟩ => thn (hu pins s2 σ H2 _ I2 q2) fun vu s3 ⟨u, H3, I3, pu, q3⟩ => ?_)
 rw [evalPart_none]
 refine wpAny_pure ?_
 have I4 : Inv X pins σ H3 { s3 with heap := s3.heap.push { cls := .type "slice", data := .fields #[vl, vu, .none] } } := I3.kept (t' := s3.toks) fun b ob q => Heap.get?_push_of_some _ q
 obtain ⟨T, id, hT, ht, hg⟩ := hr pins { s3 with heap := s3.heap.push { cls := .type "slice", data := .fields #[vl, vu, .none] } } σ H3 x v vl vu l u s3.heap.objs.size Q I4 r1 (Heap.IsSliceOf.new ..) pl pu q3
 show wpAny (model X.prog X.w) X.A (subscriptTail e (.Slice lo hi none p2) v (.ref s3.heap.objs.size)) (EP X pins σ Q) X.xe { s3 with heap := s3.heap.push { cls := .type "slice", data := .fields #[vl, vu, .none] } }
 exact tail_any (ops := [.ref s3.heap.objs.size, v]) ht hT hg (by with_unfolding_all rfl)
end
end L2
namespace L2
open PySem PySem.Spec PyProof.Rows
def ixN (n : Nat) (i : Int) : Option Nat := if 0 ≤ i then (if i < n then some i.toNat else none) else if -(n : Int) ≤ i then some (i + n).toNat else none
def atI {α : Type} (xs : List α) (i : Int) : Option α := (ixN xs.length i).bind fun j => xs[j]?
theorem ixN_seq {n : Nat} {i : Int} {j : Nat} (h : ixN n i = some j) : seqIndex? i n = some j ∧ j < n ∧ -(n : Int) ≤ i ∧ i < n := by
 unfold ixN at h
 by_cases h0 : 0 ≤ i
 ·rw [if_pos h0] at h
  by_cases h1 : i < n
  ·rw [if_pos h1] at h
   have e : i.toNat = j := Option.some.inj h
   exact ⟨by rw [seqIndex_of h0 h1, e], by omega, by omega, h1⟩
  ·rw [if_neg h1] at h; cases h
 ·rw [if_neg h0] at h
  by_cases h1 : -(n : Int) ≤ i
  ·rw [if_pos h1] at h
   have e : (i + n).toNat = j := Option.some.inj h
   exact ⟨by rw [seqIndex_neg (by omega) h1, e], by omega, h1, by omega⟩
  ·rw [if_neg h1] at h; cases h
theorem atI_get {α : Type} {xs : List α} {i : Int} {v : α} (h : atI xs i = some v) : ∃ j, seqIndex? i xs.length = some j ∧ xs[j]? = some v ∧ j < xs.length ∧ -(xs.length : Int) ≤ i ∧ i < xs.length := by
 unfold atI at h
 cases e : ixN xs.length i with
 | none => rw [e] at h; cases h
 | some j =>
  rw [e] at h
  obtain ⟨h1, h2, h3, h4⟩ := ixN_seq e
  exact ⟨j, h1, h, h2, h3, h4⟩
theorem atI_nat {α : Type} {xs : List α} {j : Nat} {v : α} (h : xs[j]? = some v) : atI xs (j : Int) = some v := by
 have hj : j < xs.length := (List.getElem?_eq_some_iff.mp h).1
 have e : ixN xs.length (j : Int) = some j := by
  unfold ixN
  rw [if_pos (by omega), if_pos (by omega)]; simp
 unfold atI; rw [e]; exact h
def PlainIx (b : Expr) : Prop := ∀ o i, subscripted b false o i = operate [o, i] (getItem o i)
def IxR (X : Cx) (r : R2) : Prop :=
 ∀ (value slice : Expr) (pins : List (Addr × Obj)) (s : Shared) (σ : St) (H : Hp) (x y : V) (v u : Value) (Q : VK), Inv X pins σ H s → RelV x v → RelV y u → r x y H Q →
  subscripted slice false v u = operate [v, u] (getItem v u) → wpAny (model X.prog X.w) X.A (subscriptTail value slice v u) (EP X pins σ Q) X.xe s
def MtR (X : Cx) (id : String) (r : V → List V → Hp → VK → Prop) : Prop :=
 ∀ (pins : List (Addr × Obj)) (s : Shared) (σ : St) (H : Hp) (x : V) (xs : List V) (v : Value) (us : List Value) (Q : VK), Inv X pins σ H s → RelV x v → Vals xs us → r x xs H Q →
  wpAny (model X.prog X.w) X.A (call (.builtin id) (v :: us)) (EP X pins σ Q) X.xe s
section
variable {X: Cx}{a b: Expr}{ta tb: TE}{pos: Pos}
theorem IxR.or {r r' : R2} (h : IxR X r) (h' : IxR X r') : IxR X (fun x y H Q => r x y H Q ∨ r' x y H Q) := by
 intro value slice pins s σ H x y v u Q I rx ry q hs
 rcases q with q | q
 ·exact h value slice pins s σ H x y v u Q I rx ry q hs
 ·exact h' value slice pins s σ H x y v u Q I rx ry q hs
theorem pe_ix {r : R2} (hr : IxR X r) (ha : PE X a ta) (hb : PE X b tb) (hs : PlainIx b) : PE X (.Subscript a b pos) (tOp r ta tb) := by
 refine .mk ?_
 intro pins s σ H Q I h
 exact Subscript_ (binT ha hb I h fun v u s2 x y H2 I2 rx ry q => hr a b pins s2 σ H2 x y v u Q I2 rx ry q (hs _ _))
def rIxL (K : PySem.W.Frag) : R2 := fun x y H Q => ∃ p xs i v, x = .ref p ∧ y = .int i ∧ SqL K H p xs ∧ atI xs i = some v ∧ Q v H
def rIxT (K : PySem.W.Frag) : R2 := fun x y H Q => ∃ p xs i v, x = .ref p ∧ y = .int i ∧ SqT K H p xs ∧ atI xs i = some v ∧ Q v H
def rIxS : R2 := fun x y H Q => ∃ z i c, x = .str z ∧ y = .int i ∧ z.length ≤ sizeLine ∧ atI z.cps.toList i = some c ∧ Q (.str ⟨#[c]⟩) H
theorem ix_list : IxR X (rIxL X.K) := by
 intro value slice pins s σ H x y v u Q I rx ry h hs
 obtain ⟨p, xs, i, z, rfl, rfl, hq, he, q⟩ := h
 cases rx
 obtain ⟨t, rfl⟩ := ry
 obtain ⟨its, r, pl, hz⟩ := I.list hq
 obtain ⟨j, h1, h2, h3, h4, h5⟩ := atI_get he
 obtain ⟨w, ew, rw'⟩ := r.get h2
 have hl := r.length
 have hn := line63
 have fin : EP X pins σ Q w s := ⟨z, H, I, rw', q⟩
 by_cases h0 : 0 ≤ i
 ·have hj : i.toNat = j := by
   rw [seqIndex_of h0 h5] at h1
   exact Option.some.inj h1
  exact item_listR pl.isList h0 (by omega) (by rw [hj]; simpa using ew) fin hs
 ·have hj : (i + (its.toArray.size : Int)).toNat = j := by
   rw [seqIndex_neg (by omega) h4] at h1
   rw [List.size_toArray, ← hl]
   exact Option.some.inj h1
  exact subscriptTail_builtinR (x := w) pl.isList.typeIs slot_list_getitem.lookup
   (wpAny_getItem_list_neg (Q := fun r s' => r = w ∧ EP X pins σ Q r s') pl.isList (by omega) (by rw [List.size_toArray] <;> omega) (by omega) (by rw [hj]; simpa using ew) ⟨rfl, fin⟩) hs
theorem ix_tup : IxR X (rIxT X.K) := by
 intro value slice pins s σ H x y v u Q I rx ry h hs
 obtain ⟨p, xs, i, z, rfl, rfl, hq, he, q⟩ := h
 cases rx
 obtain ⟨t, rfl⟩ := ry
 obtain ⟨its, r, pl, hz⟩ := I.tuple hq
 obtain ⟨j, h1, h2, h3, h4, h5⟩ := atI_get he
 obtain ⟨w, ew, rw'⟩ := r.get h2
 have hl := r.length
 have hn := line63
 have fin : EP X pins σ Q w s := ⟨z, H, I, rw', q⟩
 exact subscriptTail_builtinR (x := w) pl.typeIs slot_tuple_getitem.lookup
  (getItem_tuple (j := j) (Q := fun r s' => r = w ∧ EP X pins σ Q r s') pl (by omega) (by omega) (by rw [List.size_toArray, ← hl]; exact h1) (by simpa using ew) ⟨rfl, fin⟩) hs
theorem ix_str : IxR X rIxS := by
 intro value slice pins s σ H x y v u Q I rx ry h hs
 obtain ⟨z, i, c, rfl, rfl, hz, he, q⟩ := h
 obtain ⟨t, rfl⟩ := rx
 obtain ⟨t', rfl⟩ := ry
 obtain ⟨j, h1, h2, h3, h4, h5⟩ := atI_get he
 have hl : z.cps.toList.length = z.length := by simp [Str.length]
 rw [hl] at h1 h4 h5
 have hn := line63
 exact tail_any (typeIs_str s z t) slot_str_getitem.lookup (getItem_str (c := c) (by
  have e1 : decide (i < -(2 ^ 63 : Int)) = false := decide_eq_false (by omega)
  have e2 : decide (i ≥ 2 ^ 63) = false := decide_eq_false (by omega)
  rw [e1, e2, Bool.or_false]) (by rw [h1]; simpa using h2) ⟨.str ⟨#[c]⟩, H, I.tok _, ⟨_, rfl⟩, q⟩) hs
def rIx (K : PySem.W.Frag) : R2 := fun x y H Q => rIxL K x y H Q ∨ rIxT K x y H Q ∨ rIxS x y H Q
theorem ix_seq : IxR X (rIx X.K) := ix_list.or (ix_tup.or ix_str)
theorem mapSeq_set (its : List Value) (n j : Nat) (u : Value) : Obj.mapSeq (·.setIfInBounds j u) { cls := .type "list", data := .seq its.toArray n } = { cls := .type "list", data := .seq (its.set j u).toArray n } := by
 simp [Obj.mapSeq]
theorem Inv.lst {pins : List (Addr × Obj)} {σ : St} {H : Hp} {s : Shared} {p : Addr} {xs : List V} (I : Inv X pins σ H s) (h : H p = some (.lst xs)) :
  ∃ (its : List Value) (n : Nat), Vals xs its ∧ s.heap.get? p = some { cls := .type "list", data := .seq its.toArray n } ∧ xs.length ≤ sizeLine := by
 obtain ⟨z, its, n, r, e⟩ := I.hok p _ h
 exact ⟨its, n, r, e, z⟩
theorem Inv.lstUpd {pins : List (Addr × Obj)} {σ : St} {H : Hp} {s : Shared} {p : Addr} {xs ys : List V} {its its' : List Value} {n n' : Nat} {f : Obj → Obj} (I : Inv X pins σ H s) (h : H p = some (.lst xs))
  (ho : s.heap.get? p = some { cls := .type "list", data := .seq its.toArray n }) (hf : f { cls := .type "list", data := .seq its.toArray n } = { cls := .type "list", data := .seq its'.toArray n' }) (r : Vals ys its') (hz : ys.length ≤ sizeLine) (t : Nat) :
  Inv X pins σ (upd H p (.lst ys)) { s with heap := s.heap.update p f, toks := t } := by
 have e : (s.heap.update p f).get? p = some { cls := .type "list", data := .seq its'.toArray n' } := by
  rw [Heap.get?_update_self f ho (by rw [hf] <;> rfl), hf]
 refine I.write (x := p) (e := p) (by rw [h]; trivial) (.inl rfl) (fun b u hb q => (Heap.get?_update_other _ _ (Ne.symm hb)).trans q) ⟨_, e⟩ ?_
 exact ⟨hz, its', n', r, e⟩
def rSetL : V → V → V → Hp → (Hp → Prop) → Prop := fun o i v H Q => ∃ p xs k j, o = .ref p ∧ i = .int k ∧ H p = some (.lst xs) ∧ ixN xs.length k = some j ∧ Q (upd H p (.lst (xs.set j v)))
theorem set_list : PSet X rSetL := by
 intro pins s σ H o i v ov iv u Q I ro ri rv h
 obtain ⟨p, xs, k, j, rfl, rfl, hp, hj, q⟩ := h
 cases ro
 obtain ⟨t, rfl⟩ := ri
 obtain ⟨its, n, r, ho, hz⟩ := I.lst hp
 obtain ⟨h1, h2, h3, h4⟩ := ixN_seq hj
 have hl := r.length
 have hn := line63
 have I' : Inv X pins σ (upd H p (.lst (xs.set j v))) { s with heap := s.heap.update p (Obj.mapSeq (·.setIfInBounds j u)) } :=
  I.lstUpd hp ho (mapSeq_set its n j u) (r.set rv j) (by rw [List.length_set]; exact hz) s.toks
 by_cases h0 : 0 ≤ k
 ·have hk : k.toNat = j := by
   rw [seqIndex_of h0 h4] at h1
   exact Option.some.inj h1
  exact PySem.W.ki_setAt ho h0 (by omega) (by rw [List.size_toArray, ← hl]; exact h4) (by rw [hk]; exact ⟨_, I', q⟩)
 ·have hk : (k + (its.toArray.size : Int)).toNat = j := by
   rw [seqIndex_neg (by omega) h3] at h1
   rw [List.size_toArray, ← hl]
   exact Option.some.inj h1
  exact PySem.W.ki_setBack ho (by omega) (by rw [List.size_toArray, ← hl]; exact h3) (by omega) (by rw [hk]; exact ⟨_, I', q⟩)
def flatV : V → Bool
 | .non => true
 | .bl _ => true
 | .int _ => true
 | .str _ => true
 | _ => false
def eqV : V → V → Bool
 | .non, .non => true
 | .bl a, .bl b => a == b
 | .bl a, .int b => (if a then 1 else 0) == b
 | .int a, .bl b => a == (if b then 1 else 0)
 | .int a, .int b => a == b
 | .str a, .str b => a == b
 | _, _ => false
theorem eqAt_V {A : Around} {s : Shared} {y x : V} {u v : Value} (ry : RelV y u) (rx : RelV x v) (fy : flatV y = true) (fx : flatV x = true) : SeqAt.EqAt A s u v (eqV y x) := by
 cases y with
 | non =>
  cases ry
  cases x with
  | non => cases rx; exact SeqAt.EqAt.same _
  | bl b => cases rx; exact SeqAt.EqAt.none_bool b
  | int b => obtain ⟨t, rfl⟩ := rx; exact SeqAt.EqAt.none_int b t
  | str b => obtain ⟨t, rfl⟩ := rx; exact SeqAt.EqAt.none_str b t
  | _ => exact absurd (show false = true from fx) Bool.false_ne_true
 | bl a =>
  cases ry
  cases x with
  | non => cases rx; exact SeqAt.EqAt.bool_none a
  | bl b => cases rx; exact SeqAt.EqAt.bool_bool a b
  | int b => obtain ⟨t, rfl⟩ := rx; exact SeqAt.EqAt.bool_int a b t
  | str b => obtain ⟨t, rfl⟩ := rx; exact SeqAt.EqAt.bool_str a b t
  | _ => exact absurd (show false = true from fx) Bool.false_ne_true
 | int a =>
  obtain ⟨t', rfl⟩ := ry
  cases x with
  | non => cases rx; exact SeqAt.EqAt.int_none a t'
  | bl b => cases rx; exact SeqAt.EqAt.int_bool a t' b
  | int b => obtain ⟨t, rfl⟩ := rx; exact SeqAt.EqAt.int_int a t' b t
  | str b => obtain ⟨t, rfl⟩ := rx; exact SeqAt.EqAt.int_str a t' b t
  | _ => exact absurd (show false = true from fx) Bool.false_ne_true
 | str a =>
  obtain ⟨t', rfl⟩ := ry
  cases x with
  | non => cases rx; exact SeqAt.EqAt.str_none a t'
  | bl b => cases rx; exact SeqAt.EqAt.str_bool a t' b
  | int b => obtain ⟨t, rfl⟩ := rx; exact SeqAt.EqAt.str_int a t' b t
  | str b => obtain ⟨t, rfl⟩ := rx; exact SeqAt.EqAt.str_str a t' b t
  | _ => exact absurd (show false = true from fx) Bool.false_ne_true
 | _ => exact absurd (show false = true from fy) Bool.false_ne_true
def eqU (x : V) (u : Value) : Bool := match u with
 | .none => eqV .non x
 | .bool b => eqV (.bl b) x
 | .int i _ => eqV (.int i) x
 | .str z _ => eqV (.str z) x
 | _ => false
theorem eqU_of {x y : V} {u : Value} (r : RelV y u) (f : flatV y = true) : eqU x u = eqV y x := by
 cases y with
 | non => cases r; rfl
 | bl b => cases r; rfl
 | int i => obtain ⟨t, rfl⟩ := r; rfl
 | str z => obtain ⟨t, rfl⟩ := r; rfl
 | _ => exact absurd (show false = true from f) Bool.false_ne_true
theorem any_eqU {x : V} : ∀ {xs : List V} {us : List Value}, Vals xs us → xs.all flatV = true → us.any (eqU x) = xs.any fun y => eqV y x
 | _, _, .nil, _ => rfl
 | y :: xs, u :: us, .cons r t, f => by
  rw [List.all_cons, Bool.and_eq_true] at f
  rw [List.any_cons, List.any_cons, eqU_of r f.1, any_eqU t f.2]
theorem mem_eqAt {A : Around} {s : Shared} {x : V} {v : Value} (rx : RelV x v) (fx : flatV x = true) : ∀ {xs : List V} {us : List Value}, Vals xs us → xs.all flatV = true → ∀ u ∈ us, SeqAt.EqAt A s u v (eqU x u)
 | _, _, .nil, _ => fun u hu => by cases hu
 | y :: xs, u :: us, .cons r t, f => fun u' hu => by
  rw [List.all_cons, Bool.and_eq_true] at f
  rcases List.mem_cons.mp hu with rfl | hu
  ·rw [eqU_of r f.1]; exact eqAt_V r rx f.1 fx
  ·exact mem_eqAt rx fx t f.2 u' hu
def inV (x : V) (xs : List V) : Bool := xs.any fun y => eqV y x
def rIn (K : PySem.W.Frag) (neg : Bool) : R2 := fun x y H Q => ∃ p xs, y = .ref p ∧ (SqL K H p xs ∨ SqT K H p xs) ∧ flatV x = true ∧ xs.all flatV = true ∧ Q (.bl (if neg then !inV x xs else inV x xs)) H
theorem op_in_seq : OpR X (compareOp .In) (rIn X.K false) := by
 intro pins s σ H x y v u Q I rx ry h
 obtain ⟨p, xs, rfl, hq, fx, fs, q⟩ := h
 cases ry
 rcases hq with hq | hq
 ·obtain ⟨its, r, pl, hz⟩ := I.list hq
  refine SeqAt.in_listAt (eqU x) pl.isList (fun w hw => mem_eqAt rx fx r fs w (by simpa using hw)) ⟨.bl _, H, I, rfl, ?_⟩
  rw [show its.toArray.any (eqU x) = its.any (eqU x) by simp, any_eqU r fs]
  exact q
 ·obtain ⟨its, r, pl, hz⟩ := I.tuple hq
  refine SeqAt.in_tupleAt (eqU x) pl (fun w hw => mem_eqAt rx fx r fs w (by simpa using hw)) ⟨.bl _, H, I, rfl, ?_⟩
  rw [show its.toArray.any (eqU x) = its.any (eqU x) by simp, any_eqU r fs]
  exact q
theorem op_notIn_seq : OpR X (compareOp .NotIn) (rIn X.K true) := by
 intro pins s σ H x y v u Q I rx ry h
 obtain ⟨p, xs, rfl, hq, fx, fs, q⟩ := h
 cases ry
 rcases hq with hq | hq
 ·obtain ⟨its, r, pl, hz⟩ := I.list hq
  refine SeqAt.notIn_listAt (eqU x) pl.isList (fun w hw => mem_eqAt rx fx r fs w (by simpa using hw)) ⟨.bl _, H, I, rfl, ?_⟩
  rw [show its.toArray.any (eqU x) = its.any (eqU x) by simp, any_eqU r fs]
  exact q
 ·obtain ⟨its, r, pl, hz⟩ := I.tuple hq
  refine SeqAt.notIn_tupleAt (eqU x) pl (fun w hw => mem_eqAt rx fx r fs w (by simpa using hw)) ⟨.bl _, H, I, rfl, ?_⟩
  rw [show its.toArray.any (eqU x) = its.any (eqU x) by simp, any_eqU r fs]
  exact q
theorem call_len_seq : CallR X (.builtin "len") (fun xs H Q => ∃ p ys, xs = [.ref p] ∧ (SqL X.K H p ys ∨ SqT X.K H p ys) ∧ Q (.int ys.length) H) := by
 intro pins s σ H xs us Q I r h
 obtain ⟨p, ys, rfl, hq, q⟩ := h
 obtain ⟨u, rfl, rx⟩ := vals1 r
 cases rx
 have hn := line63
 rcases hq with hq | hq
 ·obtain ⟨its, r', pl, hz⟩ := I.list hq
  have hlen := r'.length
  exact Calls.call_len_list pl.isList (by simp only [List.size_toArray] <;> omega) ⟨.int ys.length, H, I.tok _, ⟨s.toks + 1, by rw [List.size_toArray, hlen]⟩, q⟩
 ·obtain ⟨its, r', pl, hz⟩ := I.tuple hq
  have hlen := r'.length
  exact len_tuple pl (by simp only [List.size_toArray] <;> omega) ⟨.int ys.length, H, I.tok _, ⟨s.toks + 1, by rw [List.size_toArray, hlen]⟩, q⟩
theorem call_len_str : CallR X (.builtin "len") (fun xs H Q => ∃ z, xs = [.str z] ∧ z.length ≤ sizeLine ∧ Q (.int z.length) H) := by
 intro pins s σ H xs us Q I r h
 obtain ⟨z, rfl, hz, q⟩ := h
 obtain ⟨u, rfl, t, rfl⟩ := vals1 r
 have hn := line63
 exact len_str (by omega) ⟨.int z.length, H, I.tok _, ⟨_, rfl⟩, q⟩
theorem call_tuple_of : CallR X (.type "tuple") (fun xs H Q => ∃ p ys, xs = [.ref p] ∧ ((SqL X.K H p ys ∧ ∀ l, H l = none → Q (.ref l) (upd H l (.tup ys))) ∨ (SqT X.K H p ys ∧ Q (.ref p) H))) := by
 intro pins s σ H xs us Q I r h
 obtain ⟨p, ys, rfl, h⟩ := h
 obtain ⟨u, rfl, rx⟩ := vals1 r
 cases rx
 rcases h with ⟨hq, q⟩ | ⟨hq, q⟩
 ·obtain ⟨its, r', pl, hz⟩ := I.list hq
  have hlen := r'.length
  refine call_tuple_list pl.isList (fun h' kp => ?_) (by simp only [List.size_toArray] <;> omega)
  have I1 : Inv X pins σ H { s with heap := h' } := I.kept (t' := s.toks) kp
  have I2 : Inv X pins σ (upd H h'.objs.size (.tup ys)) { s with heap := h'.push { cls := .type "tuple", data := .seq its.toArray } } :=
   I1.laid (t' := s.toks) (fun b o e => Heap.get?_push_of_some _ e) (Nat.le_refl _) (show ObjOk X.prog X.w _ _ _ (.tup ys) from ⟨hz, its, r', IsTup.new _ _⟩)
  exact ⟨.ref h'.objs.size, _, I2, rfl, q _ (I1.hok.fresh (Nat.le_refl _))⟩
 ·obtain ⟨its, r', pl, hz⟩ := I.tuple hq
  exact call_tuple_same pl ⟨.ref p, H, I, rfl, q⟩
def tyV (K : PySem.W.Frag) (T : String) (x : V) (H : Hp) : Prop := match x with
 | .str _ => T = "str"
 | .int _ => T = "int"
 | .ref p => (T = "list" ∧ ∃ xs, SqL K H p xs) ∨ (T = "tuple" ∧ ∃ o, K.lookup p = some o ∧ o.cls = .type "tuple" ∧ o.dict = none) ∨
   (T = "dict" ∧ ((∃ kvs, H p = some (.dK kvs)) ∨ ∃ kvs, H p = some (.dT kvs))) ∨ (T = "set" ∧ ∃ S n, H p = some (.set S n))
 | _ => False
theorem tyV_is {pins : List (Addr × Obj)} {σ : St} {H : Hp} {s : Shared} {T : String} {x : V} {v : Value} (I : Inv X pins σ H s) (r : RelV x v) (ty : tyV X.K T x H) :
  s.TypeIs v T ∧ ∀ a, v = .ref a → ∃ ob, s.heap.get? a = some ob ∧ ob.dict = none := by
 cases x with
 | str z =>
  obtain ⟨t, rfl⟩ := r
  cases (show T = "str" from ty)
  exact ⟨typeIs_str s z t, fun _ e => nomatch e⟩
 | int i =>
  obtain ⟨t, rfl⟩ := r
  cases (show T = "int" from ty)
  exact ⟨typeIs_int s i t, fun _ e => nomatch e⟩
 | ref p =>
  cases r
  rcases ty with ⟨rfl, xs, hq⟩ | ⟨rfl, o, hk, hc, hd⟩ | ⟨rfl, hk⟩ | ⟨rfl, S, n, hk⟩
  ·obtain ⟨its, _, pl, _⟩ := I.list hq
   refine ⟨pl.isList.typeIs, fun a e => ?_⟩
   cases e
   obtain ⟨o, n, e, c, hd, _⟩ := pl
   exact ⟨o, e, hd⟩
  ·refine ⟨⟨o, I.kIn p o hk, hc⟩, fun a e => ?_⟩
   cases e
   exact ⟨o, I.kIn _ o hk, hd⟩
  ·have z : ∃ o, s.heap.get? p = some o ∧ o.ExactDict := by
    rcases hk with ⟨kvs, hk⟩ | ⟨kvs, hk⟩
    ·obtain ⟨_, _, _, _, o, _, _, e, ex, _⟩ := I.hok p _ hk
     exact ⟨o, e, ex⟩
    ·obtain ⟨_, _, _, _, o, _, _, e, ex, _⟩ := I.hok p _ hk
     exact ⟨o, e, ex⟩
   obtain ⟨o, e, ex⟩ := z
   refine ⟨⟨o, e, ex.1⟩, fun a e2 => ?_⟩
   cases e2
   exact ⟨o, e, ex.2.1⟩
  ·obtain ⟨o, _, _, _, e, ex, _⟩ := I.hok p _ hk
   refine ⟨⟨o, e, ex.1⟩, fun a e2 => ?_⟩
   cases e2
   exact ⟨o, e, ex.2.1⟩
 | _ => exact False.elim ty
def tBM (K : PySem.W.Frag) (T : String) (r : V → List V → Hp → VK → Prop) (to : TE) (t : TA) : TE := fun σ H Q => to σ H fun x H1 => tyV K T x H1 ∧ t σ H1 fun xs H2 => r x xs H2 Q
variable {o e: Expr}{es: List Expr}{to: TE}{t: TA}{name: Str}{apos cpos: Pos}{T id: String}{r: V → List V → Hp → VK → Prop}
theorem pe_bm (pa : PlainAttrs T) (slot : Slot T name id) (hty : typeOf (.builtin id) = pure (.type "method_descriptor")) (hm : MtR X id r) (ho : PE X o to) (ha : PA X (e :: es) t)
  (hbase : attributeBase o name X.env (eval o X.env) = eval o X.env := by rfl)
  (hfew : ((backTo cpos (starEach (e :: es) X.env)).all (fun x => !x.1) && (backToKw cpos (keywordEach [] X.env)).all (fun x => x.1.isSome)
   && decide ((e :: es).length + ([] : List Keyword).length + (if ([] : List Keyword).isEmpty then 0 else 1) < 30)) = true := by rfl)
  (hline : (apos.endLine == cpos.line) = true := by rfl) (hs : starEach (e :: es) X.env = (false, eval e X.env) :: starEach es X.env := by rfl) (hplain : (backTo cpos (starEach es X.env)).any (·.1) = false := by rfl) :
  PE X (.Call (.Attribute o name apos) (e :: es) [] cpos) (tBM X.K T r to t) := by
 refine .mk ?_
 intro pins s σ H Q I h
 refine wpAny_Call_method_late hbase hfew hline rfl (thn (ho pins s σ H _ I h) fun v s1 ⟨x, H1, I1, r1, ty, q1⟩ => ?_)
 obtain ⟨h1, h2⟩ := tyV_is I1 r1 ty
 refine ⟨T, id, pa, slot, hty, h1, h2, ?_⟩
 have hA := ha cpos pins s1 σ H1 _ I1 q1
 rw [hs] at hA ⊢
 refine Calls.callWith_builtin (by show (false || (backTo cpos (starEach es X.env)).any (·.1)) = false; rw [hplain] <;> rfl) (Calls.evalArgs_plain ?_)
 exact thn hA fun us s2 ⟨vs, H2, I2, r2, q2⟩ => hm pins s2 σ H2 x vs v us Q I2 r1 r2 q2
end
end L2
namespace L2
open PySem PySem.Spec PyProof.Rows
def MtM (X : Cx) (id : String) (r : V → List V → Hp → VK → Prop) : Prop :=
 ∀ (pins : List (Addr × Obj)) (s : Shared) (σ : St) (H : Hp) (x : V) (xs : List V) (v : Value) (us : List Value) (Q : VK), Inv X pins σ H s → RelV x v → Vals xs us → r x xs H Q →
  wpAny (model X.prog X.w) X.A (call (.builtin id) (v :: us)) (EP X pins σ Q) X.xe s
theorem Vals.one : ∀ {x : V} {us : List Value}, Vals [x] us → ∃ u, us = [u] ∧ RelV x u
 | _, _, .cons r .nil => ⟨_, rfl, r⟩
section
variable {X: Cx}{pins: List (Addr × Obj)}{σ: St}{H: Hp}{s: Shared}{l: Addr}{xs ys: List V}
theorem Inv.lset {its its' : List Value} {n : Nat} {f : Array Value → Array Value} {t' : Nat} (I : Inv X pins σ H s) (hH : H l = some (.lst xs))
  (e : s.heap.get? l = some { cls := .type "list", data := .seq its.toArray n }) (hf : f its.toArray = its'.toArray) (hv : Vals ys its') (hz : ys.length ≤ sizeLine) :
  Inv X pins σ (upd H l (.lst ys)) { s with heap := s.heap.update l (Obj.mapSeq f), toks := t' } := by
 have q := PySem.IsL.update e f
 rw [hf] at q
 refine I.write (x := l) (e := l) (by rw [hH]; exact trivial) (.inl rfl) (fun b' u hb hu => (Heap.get?_update_other s.heap (Obj.mapSeq f) (Ne.symm hb)).trans hu) ⟨_, q⟩ ?_
 exact ⟨hz, its', _, hv, q⟩
theorem Inv.lnew {its : List Value} {t' : Nat} (I : Inv X pins σ H s) (hv : Vals ys its) (hz : ys.length ≤ sizeLine) :
  Inv X pins σ (upd H s.heap.objs.size (.lst ys)) { s with heap := s.heap.push { cls := .type "list", data := .seq its.toArray }, toks := t' } :=
 I.laid (fun _ _ q => Heap.get?_push_of_some _ q) (Nat.le_refl _) ⟨hz, its, 0, hv, Heap.get?_push_size _ rfl⟩
theorem Inv.fresh (I : Inv X pins σ H s) : H s.heap.objs.size = none := I.hok.fresh (Nat.le_refl _)
theorem Inv.lstM (I : Inv X pins σ H s) (hH : H l = some (.lst xs)) : xs.length ≤ sizeLine ∧ ∃ (its : List Value) (n : Nat), Vals xs its ∧ xs.length = its.length ∧ s.heap.get? l = some { cls := .type "list", data := .seq its.toArray n } := by
 obtain ⟨z, its, n, r, e⟩ := I.hok l _ hH
 exact ⟨z, its, n, r, r.length, e⟩
end
section
variable {X: Cx}
def rAppend : V → List V → Hp → VK → Prop := fun x vs H Q => ∃ l xs y, x = .ref l ∧ vs = [y] ∧ H l = some (.lst xs) ∧ xs.length < sizeLine ∧ Q .non (upd H l (.lst (xs ++ [y])))
theorem mt_append : MtM X "list.append" rAppend := by
 intro pins s σ H x vs v us Q I rx rv h
 obtain ⟨l, xs, y, rfl, rfl, hH, hz, q⟩ := h
 cases rx
 obtain ⟨u, rfl, ru⟩ := rv.one
 obtain ⟨z, its, n, r, hl, e⟩ := I.lstM hH
 refine call_meets F.slot_list_append ⟨_, e, rfl⟩ F.entry_list_append (F.args_list_append_2 _ _) (PySem.list_append l its.toArray n u (by rw [List.size_toArray]; omega)) ⟨e, ?_⟩
 refine ⟨.non, _, I.lset (its' := its ++ [u]) hH e (by simp) (r.append (.cons ru .nil)) ?_, rfl, q⟩
 rw [List.length_append, List.length_singleton]
 omega
theorem len_rep {α : Type} (xs : List α) (k : Nat) : (List.replicate k xs).flatten.length = k * xs.length := by
 induction k with
 | zero => simp
 | succ k ih => rw [List.replicate_succ, List.flatten_cons, List.length_append, ih, Nat.succ_mul, Nat.add_comm]
end
section
set_option maxRecDepth 100000 in
end
end L2
namespace Att
open PySem PySem.W PySem.Calls PyProof.Rows
theorem ints_of_wellAll {P : Params} {h : Heap} : ∀ (ns : List Int) (vs : List Value), WellAll P h vs (ns.map WData.int) → IntsAre vs ns := by
 intro ns
 induction ns with
 | nil =>
  intro vs w
  rw [List.map_nil] at w
  cases w
  exact .nil
 | cons n ns ih =>
  intro vs w
  rw [List.map_cons] at w
  cases w with
  | cons a b =>
   cases a
   exact .cons _ _ (ih _ b)
theorem script_of {l : OpenLaw} {n : Nat} (hn : l.most = some n) {P : Params} {h : Heap} {args : List WData} {vals : List Value}
  (hpre : l.row.toRowW.claim.pre args = true) (hwl : WellAll P h vals args) :
  ∃ a vs ns, vals = [Value.ref a] ∧ args = [WData.list (ns.map WData.int)] ∧ h.get? a = some { cls := .type "list", data := .seq vs.toArray } ∧ IntsAre vs ns ∧ ns.length ≤ n := by
 have hsh : WShape.hasAll [] args [.list .int] = true := (pre_splitW hpre).1
 have hc : l.pre.holds [] { args := args } = true := (pre_splitW hpre).2
 obtain ⟨d, r, rfl, h1, h2⟩ := hasAllW_cons hsh
 obtain rfl := hasAllW_nil h2
 obtain ⟨xs, rfl, h3⟩ := hasW_list h1
 obtain ⟨ns, rfl⟩ := items_int h3
 have hlen : ns.length ≤ n := by
  unfold OpenLaw.pre at hc
  have h4 : (WTm.not (.lt (.lit (.int (n : Int))) (.len (.arg 0)))).holds [] { args := [.list (ns.map .int)] } = true := by
   have h4 := (holds_andW hc).1
   rw [hn] at h4
   exact h4
  have h5 := condW_of h4 (w_not (w_lt w_lit (w_len_list (w_arg rfl))))
  rw [List.length_map] at h5
  refine Nat.le_of_not_lt fun q => ?_
  have q' : (n : Int) < ((ns.length : Nat) : Int) := by omega
  first
   | (rw [decide_eq_true q'] at h5; exact absurd h5 (by decide))
   | (simp at h5; omega)
 cases hwl with
 | cons w1 w2 =>
  cases w2
  cases w1 with
  | list ho hall => exact ⟨_, _, ns, rfl, rfl, ho, ints_of_wellAll ns _ hall, hlen⟩
theorem post_true (l : OpenLaw) (args : List WData) : l.row.toRowW.claim.post args (.bool true) args = true :=
 postW_of (r := l.row.toRowW) (X := (true == true))
  (show WShape.has [] (.bool true) .bool = true by first | rfl | decide | simp [WShape.has, WShape.arms, WShape.armsAll])
  (show (WTm.eq .res (.lit (.bool true))).value [] { args := args, res := some (.bool true), after := args } = some (.bool (true == true)) from w_eq_bool (w_res rfl) w_lit) rfl
theorem attach_call {l : OpenLaw} {n : Nat} {q : Program} {loose : List Str} {XP : (Str → Option Value) → Heap → Prop} {YP : World → Heap → Prop} {d : DefRec}
  (hn : l.most = some n) (hdf : d.params.defaults = [])
  (call : ∀ (w : World) (s₀ s₁ : Shared) (mg mb : Str → Option Value) (fa : Addr) (o : Obj) (pm cd doc : Value) (a : Addr) (vs : List Value) (ns : List Int),
   Ground q loose [] XP w s₀ mg mb s₁.heap → YP w s₁.heap →
   s₁.heap.get? fa = some o → o.data = .func (docDef d.name d.params d.body d.scope pm cd doc) → s₁.heap.CodeRec cd d.name → mg d.name = some (.ref fa) →
   s₁.heap.get? a = some { cls := .type "list", data := .seq vs.toArray } → IntsAre vs ns → ns.length ≤ n → s₁.gens = #[] →
   codeAny (model l.prog w) callerA (.call (.ref fa) ⟨[.ref a], []⟩) (fun r s' => r = .ok (.ret (.bool true)) ∧ OldK s₁.heap s'.heap ∧ s'.os = s₁.os ∧ AllBare s'.gens) s₁) :
  WalkO q loose XP YP l.row.toRowW d [] (fun f vs => PySem.call f vs) := by
 intro w s₀ s₁ mg mb G Y fa o pm cd doc dV kV ho hd hcd hD hmg hg args vals as hpre hlay hrd hwl hlo
 obtain rfl : dV = .none := Dflts.none hD hdf
 obtain rfl : kV = .none := Dflts.noKw hD
 obtain ⟨a, vs, ns, rfl, rfl, hobj, hints, hlen⟩ := script_of hn hpre hwl
 refine enter_call (codeAny_mono (call w s₀ s₁ mg mb fa o pm cd doc a vs ns G Y ho (fd_plain hd) hcd hmg hobj hints hlen hg) fun r s' hq => ?_)
 obtain ⟨rfl, h2, h3, h4⟩ := hq
 exact ⟨.inl ⟨.bool true, .bool true, [], rfl, fun _ => rfl, .bool true, post_true l _, fun _ => ⟨List.Pairwise.nil, fun _ hm => (nomatch hm)⟩⟩, h2, h3, h4⟩
end Att
namespace L2
open PySem PySem.Spec PyProof.Rows
theorem vals_ints : ∀ {vs : List Value} {ns : List Int}, IntsAre vs ns → Vals (ns.map V.int) vs
 | _, _, .nil => .nil
 | _, _, .cons n t h => .cons ⟨t, rfl⟩ (vals_ints h)
def Only (H : Hp) : Prop := ∀ b, H b = none ∨ ∃ o xs, H b = some (.frz o (.lst xs))
theorem law_call {P : Program} {w : World} {K : PySem.W.Frag} {mg mb : Str → Option Value} {CX : CXT} {k : Nat} {fa a : Addr} {fd : FuncData} {x : Str} {sp : Sp} {s₁ : Shared} {vs : List Value} {ns : List Int}
  (KX : K.In s₁.heap) (hns : s₁.heap.Ns mainGlobals mg) (hb : s₁.heap.Ns builtinsNs mb) (hbb : ∀ x : Str, x ≠ "__name__" → mb x = bootBuiltins x) (hlim : s₁.heap.NoLimit) (hg : s₁.gens = #[])
  (ha : s₁.heap.get? a = some { cls := .type "list", data := .seq vs.toArray }) (hi : IntsAre vs ns) (hl : ns.length ≤ sizeLine) (hr : Room k callerA)
  (F : ∀ base : Heap, K.In base → base.Ns mainGlobals mg → FnOk P w K mg base CX k fa fd [x] sp) (hbind : ∀ (s : Shared) (u : Value), BindsTo s fd ⟨[u], []⟩ [(x, u)])
  (hsp : ∀ H : Hp, Only H → SqL K H a (ns.map V.int) → sp [.ref a] H (fun v _ => v = .bl true) fun _ _ _ => False)
  (hCX : ∀ H e s', CX [] H s₁ (fun _ _ _ => False) e s' → False) :
  codeAny (model P w) callerA (.call (.ref fa) ⟨[.ref a], []⟩) (fun r s' => r = .ok (.ret (.bool true)) ∧ OldK s₁.heap s'.heap ∧ s'.os = s₁.os ∧ AllBare s'.gens) s₁ := by
 have rv := vals_ints hi
 have lenV := hi.length
 -- from an abstract heap in which nothing but the script may be tracked
 have core : ∀ H : Hp, Only H → SqL K H a (ns.map V.int) → HOk P w H s₁.heap → (∀ b, H b ≠ none → b = a) → (H a ≠ none → K.lookup a = none) →
   codeAny (model P w) callerA (.call (.ref fa) ⟨[.ref a], []⟩) (fun r s' => r = .ok (.ret (.bool true)) ∧ OldK s₁.heap s'.heap ∧ s'.os = s₁.os ∧ AllBare s'.gens) s₁ := by
  intro H hO hS hok hA hK
  have base_of : ∀ {b : Addr} {o : Obj}, s₁.heap.get? b = some o → H b = none → (hidT s₁.heap H).get? b = some o := fun e n => hidT_get e n
  have noA : ∀ {b : Addr} {o : Obj} {es : Array DictEntry} {ep : Nat}, s₁.heap.get? b = some o → o.data = .dict es ep → H b = none := fun {b o es ep} e d => by
   cases q : H b with
   | none => rfl
   | some u =>
    have e' : b = a := hA b (by rw [q]; simp)
    subst e'
    rw [ha] at e; cases e
    have d' : Data.seq vs.toArray _ = Data.dict es ep := d
    cases d'
  have nsK : ∀ {b : Addr} {m : Str → Option Value}, s₁.heap.Ns b m → (hidT s₁.heap H).Ns b m := fun {b m} ⟨o, es, ep, e, d, r⟩ => ⟨o, es, ep, base_of e (noA e d), d, r⟩
  have hKb : K.In (hidT s₁.heap H) := fun b o e => base_of (KX b o e) (by
   cases q : H b with
   | none => rfl
   | some u =>
    have e' : b = a := hA b (by rw [q]; simp)
    subst e'
    rw [hK (by rw [q]; simp)] at e; cases e)
  have hM : Mod K mg (hidT s₁.heap H) := ⟨hKb, nsK hns, ⟨mb, nsK hb, hbb⟩, let ⟨mc, h1, h2⟩ := hlim; ⟨mc, nsK h1, h2⟩⟩
  have e0 : Env0 P w K mg (hidT s₁.heap H) callerA [] s₁ H := ⟨rfl, hM, fun b o e => of_hidT e, Nat.le_of_eq (hidT_size _ _), trivial, fun b hb => absurd (show b ∈ ([] : List Addr) from hb) (by simp), hok, .of_eq hg⟩
  refine codeAny_mono ((F _ hKb (nsK hns)).run callerA [] s₁ H ⟨[.ref a], []⟩ [.ref a] [.ref a] _ _ hr e0 (hbind s₁ (.ref a)) (.cons rfl .nil) (hsp H hO hS)) fun r s' h => ?_
  cases r with
  | error e => exact (hCX H e s' h).elim
  | ok fl =>
   cases fl with
   | next => exact False.elim h
   | brk => exact False.elim h
   | cont => exact False.elim h
   | ret u =>
    obtain ⟨v, H', os, bare, un, hok', r', q⟩ := h
    have q' : v = .bl true := q
    subst q'
    obtain rfl : u = Value.bool true := r'
    refine ⟨rfl, OldK.of_keep fun b o e => ?_, os, bare⟩
    cases q : H b with
    | none => exact un.keep b o e q (by intro z; exact absurd (show b ∈ ([] : List Addr) from z) (by simp)) (by simp)
    | some u =>
     rcases hO b with z | ⟨ob, xs, z⟩
     ·rw [q] at z; cases z
     ·have z2 := un.frzs b ob _ z
      obtain ⟨e1, _⟩ := hok b _ z
      obtain ⟨e2, _⟩ := hok' b _ z2
      rw [e] at e1; cases e1
      exact e2
 cases hk : K.lookup a with
 | some o =>
  -- the script is one of the module's own objects
  have e := KX a o hk
  rw [ha] at e
  cases e
  refine core (fun _ => none) (fun _ => .inl rfl) (.inr ⟨_, vs.toArray, _, hk, rfl, rfl, rfl, by rw [List.size_toArray, lenV]; exact hl, by simpa using rv⟩) (fun b u z => by have z' : (none : Option HO) = some u := z; cases z') (fun b z => absurd rfl z) fun z => absurd rfl z
 | none =>
  refine core (fun b => if b = a then some (.frz { cls := .type "list", data := .seq vs.toArray } (.lst (ns.map V.int))) else none) (fun b => ?_) (.inl (.inr ⟨{ cls := .type "list", data := .seq vs.toArray }, if_pos rfl⟩)) (fun b u z => ?_) (fun b z => ?_) fun _ => hk
  ·by_cases hb : b = a
   ·exact .inr ⟨_, _, if_pos hb⟩
   ·exact .inl (if_neg hb)
  ·by_cases hb : b = a
   ·have z' := (if_pos hb).symm.trans z
    cases z'
    subst hb
    exact ⟨ha, by rw [List.length_map]; exact hl, vs, _, rv, ha⟩
   ·have z' := (if_neg hb).symm.trans z
    cases z'
  ·by_cases hb : b = a
   ·exact hb
   ·exact absurd (if_neg hb) z
end L2
namespace L2
open PySem PySem.Spec PyProof.Rows
theorem walk_of {l : PySem.W.OpenLaw} {n k : Nat} {q : Program} {loose : List Str} {XP : (Str → Option Value) → Heap → Prop} {YP : World → Heap → Prop} {d : DefRec} {K : Params → PySem.W.Frag} {CX : World → CXT} {sp : World → Sp} {x : Str}
  (hn : l.most = some n) (hn2 : n ≤ sizeLine) (hdf : d.params.defaults = []) (hr : Room k callerA)
  (hY : ∀ (w : World) (h : Heap), YP w h → (K w.params).In h)
  (F : ∀ (w : World) (mg : Str → Option Value) (fa : Addr) (h : Heap), (K w.params).In h → h.Ns mainGlobals mg → mg d.name = some (.ref fa) →
   ∃ fd : FuncData, (∀ (s : Shared) (u : Value), BindsTo s fd ⟨[u], []⟩ [(x, u)]) ∧
    ∀ base : Heap, (K w.params).In base → base.Ns mainGlobals mg → FnOk l.prog w (K w.params) mg base (CX w) k fa fd [x] (sp w))
  (hsp : ∀ (w : World) (H : Hp) (a : Addr) (ns : List Int), ns.length ≤ n → Only H → SqL (K w.params) H a (ns.map V.int) → sp w [.ref a] H (fun v _ => v = .bl true) fun _ _ _ => False)
  (hCX : ∀ (w : World) (H : Hp) (s : Shared) (e : Value) (s' : Shared), CX w [] H s (fun _ _ _ => False) e s' → False) :
  PySem.W.WalkO q loose XP YP l.row.toRowW d [] (fun f vs => PySem.call f vs) := by
 refine Att.attach_call hn hdf fun w s₀ s₁ mg mb fa o pm cd doc a vs ns G Y ho hd hcd hmg hobj hints hlen hg => ?_
 have KX := hY w _ Y
 obtain ⟨fd, hb, hF⟩ := F w mg fa _ KX G.T.g hmg
 exact law_call KX G.T.g G.T.b G.T.builtins G.T.nolimit hg hobj hints (Nat.le_trans hlen hn2) hr hF hb (fun H hO hS => hsp w H a ns hlen hO hS) fun H e s' => hCX w H s₁ e s'
end L2
namespace L2
open PySem PySem.Spec PyProof.Rows
def defArgs (s : Stmt) : Arguments := match s with
 | .FunctionDef _ a _ _ _ _ _ _ _ _ => a
 | _ => { posonlyargs := [], args := [], vararg := none, kwonlyargs := [], kw_defaults := [], kwarg := none, defaults := [] }
def defBody (s : Stmt) : List Stmt := match s with
 | .FunctionDef _ _ b _ _ _ _ _ _ _ => b
 | _ => []
def defScope (s : Stmt) : Scope := match s with
 | .FunctionDef _ _ _ _ _ _ sc _ _ _ => sc
 | _ => { kind := .function, names := [], isGenerator := false, isCoroutine := false }
abbrev CX0 : CXT := fun _ _ _ _ _ _ => False
abbrev E0 : XK := fun _ _ _ => False
theorem pass0 {X : Cx} : Passes CX0 X E0 := fun _ _ _ _ _ _ _ h => h.elim
structure Fun (K : PySem.W.Frag) (x qual : Str) (st : Stmt) (f : Addr) (fd : FuncData) : Prop where
 ex : ∃ (oc : Value) (od : Option Addr) (kV doc pm : Value) (an : Option Addr) (cdv ct : Value) (osl : Array (Option Value)),
  fd = PySem.W.fnOf x qual (defArgs st) (defBody st) (defScope st) .none kV doc pm an cdv ct ∧ K.lookup f = some ⟨oc, od, .func fd, osl⟩ ∧ PySem.W.codeIn K cdv qual = true
 kp : PySem.W.keepIn K (.ref f) = true
section
variable {P: Program}{w: World}{K: PySem.W.Frag}{mg: Str → Option Value}{base: Heap}
theorem Fun.ok {x qual : Str} {st : Stmt} {f : Addr} {fd : FuncData} {N ps : List Str} {k : Nat} {sp : Sp} (F : Fun K x qual st f fd) (S : FnScope N ps (defScope st)) (len : ∀ vs H Q E, sp vs H Q E → vs.length = ps.length)
  (hbody : ∀ (cdv : Value) (A : Around) (outer : List Env) (s : Shared) (H : Hp) (vs : List V) (Q : VK) (E : XK), Room k (A.deeper (envOfC qual (defScope st) s.heap.objs.size f cdv)) → sp vs H Q E →
   ∃ t, PSs (cxOf CX0 P w K mg base N qual (defScope st) f cdv A outer s H E).nox (defBody st) t ∧ t { nx := fun _ H' => Q .non H', rt := Q } (start N vs) H) : FnOk P w K mg base CX0 (k + 1) f fd ps sp := by
 obtain ⟨oc, od, kV, doc, pm, an, cdv, ct, osl, rfl, lk, hcd⟩ := F.ex
 refine fn_of lk hcd S len fun A outer s H vs Q E hr hsp => ?_
 obtain ⟨t, h, q⟩ := hbody cdv A outer s H vs Q E hr hsp
 exact ⟨t, h.nox, q⟩
theorem Fun.binds {x qual : Str} {st : Stmt} {f : Addr} {fd : FuncData} {ps : List Str} (F : Fun K x qual st f fd)
  (h : ∀ (kV doc pm : Value) (an : Option Addr) (cdv ct : Value) (us : List Value), us.length = ps.length → bindArgs (PySem.W.fnOf x qual (defArgs st) (defBody st) (defScope st) .none kV doc pm an cdv ct) ⟨us, []⟩ = pure (ps.zip us)) : Binds K fd ps [] := by
 obtain ⟨oc, od, kV, doc, pm, an, cdv, ct, osl, rfl, lk, hcd⟩ := F.ex
 exact .all (h kV doc pm an cdv ct)
theorem fun_mk {x qual : Str} {st : Stmt} {f : Addr} {oc : Value} {od an : Option Addr} {osl : Array (Option Value)} {kV doc pm cdv ct : Value} (l : K.lookup f = some ⟨oc, od, .func (PySem.W.fnOf x qual (defArgs st) (defBody st) (defScope st) .none kV doc pm an cdv ct), osl⟩)
  (c : PySem.W.codeIn K cdv qual = true) (k : PySem.W.keepIn K (.ref f) = true) : Fun K x qual st f (PySem.W.fnOf x qual (defArgs st) (defBody st) (defScope st) .none kV doc pm an cdv ct) := ⟨⟨oc, od, kV, doc, pm, an, cdv, ct, osl, rfl, l, c⟩, k⟩
end
theorem small1000 {n : Nat} (h : n ≤ 1000) : n < sizeLine := Nat.lt_of_le_of_lt h (by decide)
end L2
set_option Elab.async false
set_option linter.all false
set_option maxRecDepth 100000
namespace L2
open PySem PySem.Spec PyProof.Rows
theorem compLoop_any {prog : Program} {w : World} {A : Around} {R : Result → Shared → Prop} {s : Shared} {elt target iter : Expr} {ifs : List Expr} {scope : Scope} {pos : Pos} {it acc : Value} {env : Env} (I : Nat → Shared → Prop)
  (turn : ∀ n s, I n s → wpAny (model prog w) A (pyNext it) (fun r s₁ => match r with
   | none => R (.ok .next) s₁
   | some v => wpAny (model prog w) A (letOwnedTupleGo target it v) (fun _ s₁' => wpAny (model prog w) A (assign target env v) (fun _ s₂ =>
     wpAny (model prog w) A (forIn ifs true fun c r => if r = true then do let ok ← isTrue c env (eval c env); pure (ForInStep.yield ok) else pure (ForInStep.yield r)) (fun ok s₃ =>
      if ok = true then wpAny (model prog w) A (eval elt env) (fun x s₄ =>
       wpAny (model prog w) A (call (.builtin "list.append") [acc, x]) (fun _ s₅ => ∃ m, m < n ∧ I m s₅) (notedBy (model prog w) A env fun e s' => R (.error e) s') s₄) (notedBy (model prog w) A env fun e s' => R (.error e) s') s₃
      else ∃ m, m < n ∧ I m s₃) (notedBy (model prog w) A env fun e s' => R (.error e) s') s₂) (notedBy (model prog w) A env fun e s' => R (.error e) s') s₁') (notedBy (model prog w) A env fun e s' => R (.error e) s') s₁) (notedBy (model prog w) A env fun e s' => R (.error e) s') s)
  (n : Nat) (h : I n s) :
  codeAny (model prog w) A (.compLoop (.ListComp elt [⟨target, iter, ifs, 0⟩] scope pos) 0 it acc env) R s := by
 refine codeAny_loop rfl I (fun n s hI => ?_) n h
 show wpAny _ A ((compTurn (.ListComp elt [⟨target, iter, ifs, 0⟩] scope pos) 0 it acc env).onRaise (fun x => do noteFrame x env; theTreesLotGoes x)) _ _ s
 refine wpAny_noted ?_
 rw [compTurn_list]
 refine wpAny_bind (wpAny_standAt (wpAny_bind (wpAny_mono (turn n s hI) (fun r s₁ h₁ => ?_) fun _ _ h' => h')))
 cases r with
 | none => exact wpAny_pure h₁
 | some v =>
  refine wpAny_bind (wpAny_mono h₁ (fun _ s₁' h₁' => ?_) fun _ _ h' => h')
  refine wpAny_bind (wpAny_mono h₁' (fun _ s₂ h₂ => wpAny_bind (wpAny_mono h₂ (fun ok s₃ h₃ => ?_) fun _ _ h' => h')) fun _ _ h' => h')
  cases ok with
  | false => exact wpAny_pure ⟨rfl, h₃⟩
  | true =>
   exact wpAny_bind (wpAny_bind (wpAny_mono h₃ (fun x s₄ h₄ => wpAny_bind (wpAny_mono h₄ (fun _ s₅ h₅ => wpAny_pure (wpAny_pure ⟨rfl, h₅⟩)) fun _ _ h' => h')) fun _ _ h' => h'))
structure PTs (X : Cx) (ifs : List Expr) (t : TT) : Prop where
 run : ∀ (pins : List (Addr × Obj)) (s : Shared) (σ : St) (H : Hp) (Q : Bool → Hp → Prop), Inv X pins σ H s → t σ H Q →
  wpAny (model X.prog X.w) X.A (forIn ifs true fun c r => if r = true then do let ok ← isTrue c X.env (eval c X.env); pure (ForInStep.yield ok) else pure (ForInStep.yield r)) (TP X pins σ Q) X.xe s
instance {X : Cx} {ifs : List Expr} {t : TT} : CoeFun (PTs X ifs t) fun _ => ∀ (pins : List (Addr × Obj)) (s : Shared) (σ : St) (H : Hp) (Q : Bool → Hp → Prop), Inv X pins σ H s → t σ H Q → wpAny (model X.prog X.w) X.A (forIn ifs true fun c r => if r = true then do let ok ← isTrue c X.env (eval c X.env); pure (ForInStep.yield ok) else pure (ForInStep.yield r)) (TP X pins σ Q) X.xe s := ⟨PTs.run⟩
def tTrue : TT := fun _ H Q => Q true H
theorem pts_nil {X : Cx} : PTs X [] tTrue := .mk fun _ _ _ H _ I h => wpAny_tests_nil ⟨H, I, h⟩
def compCx (X : Cx) (Nc : List Str) (scope : Scope) (cl : List (Str × Addr)) (C : Addr) (s : Shared) (H : Hp) (fp : List Addr) (E : Value → Shared → Prop) : Cx where
 prog := X.prog
 w := X.w
 K := X.K
 mg := X.mg
 base := X.base
 A := X.A
 N := Nc
 s₀ := s
 H₀ := H
 env := compEnvC scope cl C X.env
 outer := X.stack
 stack := X.stack
 ex := fp
 calm := X.calm
 fn := fun _ => false
 pn := []
 xe := E
def CapOk (X : Cx) (scope : Scope) (cl : List (Str × Addr)) (j : Nat) (x : Str) : Prop :=
 X.N[j]? = some x ∧ Vis X.env.scope x ∧ X.env.kindOf x ≠ some .local ∧ (relabel scope X.env).names.lookup x ≠ some .local ∧ ((relabel scope X.env).names.lookup x = some .cell ∨ (relabel scope X.env).names.lookup x = some .free)
structure CompOk (X : Cx) (scope : Scope) (cl : List (Str × Addr)) (own : List Str) (cap : List (Nat × Str)) : Prop where
 clos : closureFor scope X.env = pure cl
 cell : ∀ y ∈ scope.names, y.2 ≠ .cell
 kind : scope.kind = .function
 names : ∀ y ∈ scope.names, y.2 = .local → scope.names.lookup y.1 = some .local
 sub : ∀ x c, cl.lookup x = some c → X.env.cells.lookup x = some c
 has : ∀ p ∈ (relabel scope X.env).names, p.2 = .cell ∨ p.2 = .free → (cl.lookup p.1).isSome = true
 caps : ∀ p ∈ cap, CapOk X scope cl p.1 p.2
def compSt (own : List Str) (cap : List (Nat × Str)) (σ : St) : St := List.replicate own.length none ++ cap.map fun p => (σ[p.1]?).getD none
theorem lookup_mem {α : Type} : ∀ {l : List (Str × α)} {n : Str} {c : α}, l.lookup n = some c → (n, c) ∈ l := fun h => mem_of_lookup h
section
variable {X: Cx}{pins: List (Addr × Obj)}{σ: St}{H: Hp}{s: Shared}{scope: Scope}{cl: List (Str × Addr)}{own: List Str}{cap: List (Nat × Str)}{fp: List Addr}{E: Value → Shared → Prop}
theorem CompOk.hasX (c : CompOk X scope cl own cap) (x : Str) (h : (relabel scope X.env).names.lookup x = some .cell ∨ (relabel scope X.env).names.lookup x = some .free) : ∃ a, cl.lookup x = some a := by
 have : (cl.lookup x).isSome = true := by
  rcases h with h | h
  ·exact c.has (x, .cell) (lookup_mem h) (.inl rfl)
  ·exact c.has (x, .free) (lookup_mem h) (.inr rfl)
 exact Option.isSome_iff_exists.mp this
theorem comp_ok (c : CompOk X scope cl own cap) (I : Inv X pins σ H s) (hf : ∀ b ∈ fp, FpOk X pins H b) (hlt : ∀ b ∈ fp, b < s.heap.objs.size) {C : Addr} (hC : s.heap.objs.size ≤ C) :
  (compCx X (own ++ cap.map (·.2)) scope cl C s H fp E).Ok where
 mod := I.ok.mod
 kind := c.kind
 glob := I.ok.glob
 blt := I.ok.blt
 above := hC
 inj := fun x y a h1 h2 => I.ok.inj x y a (c.sub x a h1) (c.sub y a h2)
 has := fun x h => c.hasX x h
 cab := fun x a h => absurd h (by intro z; exact Bool.noConfusion z)
 hd := I.ok.hd
 frames := I.ok.frames
 stk := .inl rfl
 exf := fun b hb => ⟨fun z => by
   have := hlt b hb
   rw [z] at this
   exact absurd (Nat.lt_of_lt_of_le this hC) (Nat.lt_irrefl _), fun x a h => (hf b hb).2.2.2.2.1 x a (c.sub x a h)⟩
 bs := I.bs
 bsz := Nat.le_trans I.ok.bsz I.sz
 noex := fun b o e hb => by
  rcases (hf b hb).2.2.2.1 with z | z
  ·exact I.ok.noex b o e z
  ·exact absurd (Nat.lt_of_lt_of_le (Heap.lt_size (I.ok.bs b o e).1) z) (Nat.lt_irrefl _)
 exfs := fun b hb hs => by
  rcases List.mem_cons.mp (I.stkSub b hs) with z | z
  ·exact (hf b hb).2.1 z
  ·exact (hf b hb).2.2.1 z
 funs := I.stack
 frf := I.stkFree
theorem compSt_get {own : List Str} {cap : List (Nat × Str)} {σ : St} {i : Nat} {x : Str} {v : V} (h1 : (own ++ cap.map (·.2))[i]? = some x) (h2 : (compSt own cap σ)[i]? = some (some v)) : ∃ p ∈ cap, p.2 = x ∧ σ[p.1]? = some (some v) := by
 unfold compSt at h2
 by_cases hi : i < own.length
 ·rw [List.getElem?_append_left (by simpa using hi), List.getElem?_replicate] at h2
  split at h2 <;> cases h2
 ·rw [List.getElem?_append_right (by simpa using hi)] at h2 h1
  rw [List.length_replicate, List.getElem?_map] at h2
  rw [List.getElem?_map] at h1
  cases e : cap[i - own.length]? with
  | none => rw [e] at h2; cases h2
  | some p =>
   rw [e] at h1 h2
   refine ⟨p, List.mem_of_getElem? e, Option.some.inj h1, ?_⟩
   have h3 : (σ[p.1]?).getD none = some v := Option.some.inj h2
   cases q : σ[p.1]? with
   | none => rw [q] at h3; cases h3
   | some z => rw [q] at h3; exact congrArg some h3
theorem comp_inv (c : CompOk X scope cl own cap) (I : Inv X pins σ H s) (hf : ∀ b ∈ fp, FpOk X pins H b) (hlt : ∀ b ∈ fp, b < s.heap.objs.size) {h₁ : Heap} {tk : Nat} {m : Str → Option Value}
  (hk : ∀ b o, s.heap.get? b = some o → h₁.get? b = some o) (hD : h₁.get? s.heap.objs.size = some { cls := .type "list", data := .seq ([] : List Value).toArray }) (hn : h₁.Ns (s.heap.objs.size + 1) m) :
  Inv (compCx X (own ++ cap.map (·.2)) scope cl (s.heap.objs.size + 1) s H fp E) [] (compSt own cap σ) (upd H s.heap.objs.size (.lst [])) { s with heap := h₁, toks := tk } := by
 have hfr : H s.heap.objs.size = none := I.fresh
 have hfr1 : H (s.heap.objs.size + 1) = none := I.hok.fresh (Nat.le_succ _)
 have hnew : ObjOk X.prog X.w (upd H s.heap.objs.size (.lst [])) h₁ s.heap.objs.size (.lst []) := ⟨Nat.zero_le _, [], 0, .nil, hD⟩
 refine ⟨comp_ok c I hf hlt (Nat.le_succ _), rfl, I.bare, Un.laid hk (Nat.le_refl _) hfr, ⟨m, hn, fun i x v e1 e2 _ => ?_⟩, fun x a e => ?_, ?_, fun x a e => ?_, fun p hp => absurd (show p ∈ ([] : List (Addr × Obj)) from hp) (by simp), I.hok.laid hk (Nat.le_refl _) hnew, ?_⟩
 ·obtain ⟨p, hp, ex, es⟩ := compSt_get e1 e2
  obtain ⟨q1, q2, q3, q4, q5⟩ := c.caps p hp
  rw [ex] at q1 q2 q3 q4 q5
  obtain ⟨m', hn', hl⟩ := I.loc
  obtain ⟨u, r, l⟩ := hl p.1 x v q1 es q2
  refine ⟨u, r, ?_⟩
  rcases l with l | ⟨k, a, e, z⟩
  ·exact absurd l.1 q3
  ·obtain ⟨a', e'⟩ := c.hasX x q5
   have ea := c.sub x a' e'
   rw [e] at ea
   cases ea
   exact .inr ⟨q5, a, e', z.keeps hk⟩
 ·obtain ⟨v, z⟩ := I.cell x a (c.sub x a e)
  exact ⟨v, z.keeps hk⟩
 ·show upd H s.heap.objs.size (.lst []) (s.heap.objs.size + 1) = none
  rw [upd_ne (Nat.succ_ne_self _)]
  exact hfr1
 ·obtain ⟨v, z⟩ := I.cell x a (c.sub x a e)
  show upd H s.heap.objs.size (.lst []) a = none
  rw [upd_ne (Nat.ne_of_lt z.lt)]
  exact I.freeC x a (c.sub x a e)
 ·show (compSt own cap σ).length = (own ++ cap.map (·.2)).length
  simp [compSt]
theorem comp_after {s2 : Shared} {H' : Hp} {σ' : St} {C : Addr} {Nc : List Str} {pins' : List (Addr × Obj)} (I : Inv X pins σ H s) (hf : ∀ b ∈ fp, FpOk X pins H b) (hC : s.heap.objs.size ≤ C) (J : Inv (compCx X Nc scope cl C s H fp E) pins' σ' H' s2) :
  Inv X pins σ H' s2 ∧ FpOk X pins H' C := by
 have os : s2.os = s.os := J.os
 have un : Un (frs X.stack) fp H H' s.heap s2.heap := J.base
 exact ⟨I.call' os un J.hok J.bare fun b hb => ⟨(hf b hb).2.2.2.1, (hf b hb).2.1, (hf b hb).2.2.2.2.1, (hf b hb).2.2.2.2.2⟩, I.fpOk hC J.free⟩
end
def tComp (wi : TI) (g : TG) (tc : TT) (te : TE) (own : List Str) (cap : List (Nat × Str)) : TE := fun σ H Q => wi σ H fun J H1 => ∀ D, H1 D = none →
 ∃ W : Nat → Nat → St → List V → Hp → Prop, (∃ m, W 0 m (compSt own cap σ) [] (upd H1 D (.lst []))) ∧ ∀ i m σ' ys H', W i m σ' ys H' → H' D = some (.lst ys) ∧
  ((J.stop i H' ∧ Q (.ref D) H') ∨ (J.go i H' ∧ ys.length < sizeLine ∧ ∃ N : St → List V → Hp → Prop, (∀ σ ys H, N σ ys H → ∃ m', m' < m ∧ W (i + 1) m' σ ys H) ∧ ∀ x H2, J.yld i H' x H2 → g x σ' H2 fun σ3 H3 => tc σ3 H3 fun b H4 => if b = true then te σ3 H4 fun y H5 => H5 D = some (.lst ys) ∧ N σ3 (ys ++ [y]) (upd H5 D (.lst (ys ++ [y])))
   else N σ3 ys H4))
section
variable {X: Cx}{scope: Scope}{cl: List (Str × Addr)}{own: List Str}{cap: List (Nat × Str)}{tg iter elt: Expr}{ifs: List Expr}{wi: TI}{g: TG}{tc: TT}{te: TE}{pos: Pos}
theorem comp_block {pins : List (Addr × Obj)} {σ : St} {s2 : Shared} {H2 : Hp} {it : Addr} {fp : List Addr} {tn : Nat → Heap → Prop} {J : It} {Q : VK} {RR : Value → Addr → Result → Shared → Prop} {E' : Value → Shared → Prop}
  (c : CompOk X scope cl own cap) (hc : X.calm = true)
  (hg : ∀ C s H fp, PG (compCx X (own ++ cap.map (·.2)) scope cl C s H fp fun _ _ => False) tg g) (ht : ∀ C s H fp, PTs (compCx X (own ++ cap.map (·.2)) scope cl C s H fp fun _ _ => False) ifs tc)
  (he : ∀ C s H fp, PE (compCx X (own ++ cap.map (·.2)) scope cl C s H fp fun _ _ => False) elt te)
  (I2 : Inv X pins σ H2 s2) (T : Turn X.prog X.w X.K tg J fp it tn) (st2 : tn 0 s2.heap) (f2 : ∀ b ∈ fp, FpOk X pins H2 b)
  (hw : ∀ D, H2 D = none → ∃ W : Nat → Nat → St → List V → Hp → Prop, (∃ m, W 0 m (compSt own cap σ) [] (upd H2 D (.lst []))) ∧ ∀ i m σ' ys H', W i m σ' ys H' → H' D = some (.lst ys) ∧
   ((J.stop i H' ∧ Q (.ref D) H') ∨ (J.go i H' ∧ ys.length < sizeLine ∧ ∃ N : St → List V → Hp → Prop, (∀ σ ys H, N σ ys H → ∃ m', m' < m ∧ W (i + 1) m' σ ys H) ∧ ∀ x H2, J.yld i H' x H2 → g x σ' H2 fun σ3 H3 => tc σ3 H3 fun b H4 => if b = true then te σ3 H4 fun y H5 => H5 D = some (.lst ys) ∧ N σ3 (ys ++ [y]) (upd H5 D (.lst (ys ++ [y])))
    else N σ3 ys H4)))
  (hRR : ∀ D C s' H' m, Inv X pins σ H' s' → FpOk X pins H' C → s'.heap.Ns C m → Q (.ref D) H' → RR (.ref D) C (.ok .next) s') :
  wpAny (model X.prog X.w) X.A (newList []) (fun acc s₃ => wpAny (model X.prog X.w) X.A (newFunctionEnv scope X.env.globals cl [] X.env.qual none .none (some X.env)) (fun cenv s₄ =>
   codeAny (model X.prog X.w) X.A (.compStart (.ListComp elt [⟨tg, iter, ifs, 0⟩] scope pos) 0 (.ref it) acc { cenv with scope := relabel scope X.env }) (RR acc cenv.locals) s₄) E' s₃) E' s2 := by
 refine wpAny_newObj_type (wpAny_newFunctionEnv c.cell (by intro y hy; simp at hy) (fun h₁ hns₁ hsb₁ => ?_) c.kind)
 dsimp only at hns₁ hsb₁ ⊢
 have hsz : (s2.heap.push { cls := .type "list", dict := none, data := .seq ([] : List Value).toArray }).objs.size = s2.heap.objs.size + 1 := Heap.size_push _ _
 have kk : ∀ b o, s2.heap.get? b = some o → h₁.get? b = some o := fun b o e => hsb₁.extBut b o (by rw [hsz]; exact Nat.ne_of_lt (Nat.lt_succ_of_lt (Heap.lt_size e))) (Heap.get?_push_of_some _ (Heap.get?_push_of_some _ e))
 have hD : h₁.get? s2.heap.objs.size = some { cls := .type "list", data := .seq ([] : List Value).toArray } :=
  hsb₁.extBut _ _ (by rw [hsz]; exact Nat.ne_of_lt (Nat.lt_succ_self _)) (Heap.get?_push_of_some _ (Heap.get?_push_size _ rfl))
 rw [hsz] at hns₁ ⊢
 have hlt : ∀ b ∈ fp, b < s2.heap.objs.size := fun b hb => by
  obtain ⟨o, e, _⟩ := T.obj _ _ st2 b hb
  exact Heap.lt_size e
 obtain ⟨W, ⟨m0, w0⟩, turn⟩ := hw s2.heap.objs.size I2.fresh
 have J1 := comp_inv (E := fun _ _ => False) c I2 f2 hlt (tk := s2.toks + ([] : List (Str × Value)).length) kk hD hns₁
 generalize hX' : compCx X (own ++ cap.map (·.2)) scope cl (s2.heap.objs.size + 1) s2 H2 fp (fun _ _ => False) = X' at J1
 have hg' : PG X' tg g := hX' ▸ hg _ _ _ _
 have ht' : PTs X' ifs tc := hX' ▸ ht _ _ _ _
 have he' : PE X' elt te := hX' ▸ he _ _ _ _
 have pX : X'.prog = X.prog := by rw [← hX']; rfl
 have wX : X'.w = X.w := by rw [← hX']; rfl
 have kX : X'.K = X.K := by rw [← hX']; rfl
 have aX : X'.A = X.A := by rw [← hX']; rfl
 have cX : X'.calm = true := by rw [← hX']; exact hc
 have nX : X'.env = compEnvC scope cl (s2.heap.objs.size + 1) X.env := by rw [← hX']; rfl
 have xX : X'.xe = fun _ _ => False := by rw [← hX']; rfl
 have fX : ∀ b ∈ fp, ∀ {H' : Hp}, H' b = none → FpOk X' [] H' b := fun b hb {H'} hn => by
  have o1 := (comp_ok (E := fun _ _ => False) c I2 f2 hlt (C := s2.heap.objs.size + 1) (Nat.le_succ _)).exf b hb
  have o2 := (comp_ok (E := fun _ _ => False) c I2 f2 hlt (C := s2.heap.objs.size + 1) (Nat.le_succ _)).exfs b hb
  rw [← hX']
  exact ⟨hn, o1.1, o2, .inl hb, o1.2, fun p hp => absurd (show p ∈ ([] : List (Addr × Obj)) from hp) (by simp)⟩
 have fin : ∀ {σ' : St} {H' : Hp} {s' : Shared}, Inv X' [] σ' H' s' → Q (.ref s2.heap.objs.size) H' → RR (.ref s2.heap.objs.size) (s2.heap.objs.size + 1) (.ok .next) s' := fun {σ' H' s'} J' q => by
  rw [← hX'] at J'
  obtain ⟨A1, A2⟩ := comp_after I2 f2 (Nat.le_succ _) J'
  obtain ⟨m, hm, _⟩ := J'.loc
  exact hRR _ _ s' H' m A1 A2 hm q
 have loop : codeAny (model X.prog X.w) X.A (.compLoop (.ListComp elt [⟨tg, iter, ifs, 0⟩] scope pos) 0 (.ref it) (.ref s2.heap.objs.size) (compEnvC scope cl (s2.heap.objs.size + 1) X.env)) (RR (.ref s2.heap.objs.size) (s2.heap.objs.size + 1))
   { s2 with heap := h₁, toks := s2.toks + ([] : List (Str × Value)).length } := by
  refine compLoop_any (fun n s' => ∃ i σ' ys H', Inv X' [] σ' H' s' ∧ tn i s'.heap ∧ (∀ b ∈ fp, H' b = none) ∧ W i n σ' ys H') ?_ m0
   ⟨0, _, [], _, J1, T.keep _ _ _ st2 fun b _ o e => kk b o e, fun b hb => by rw [upd_ne (Nat.ne_of_lt (hlt b hb))]; exact (f2 b hb).1, w0⟩
  rintro n s3 ⟨i, σ3, ys, H3, I3, st3, fr3, w3⟩
  obtain ⟨hDl, w4⟩ := turn i n σ3 ys H3 w3
  rw [← nX, ← aX, ← pX, ← wX]
  have nox : ∀ {α : Type} {t : Sem α} {Q1 : α → Shared → Prop} {E1 : Value → Shared → Prop} {s : Shared}, wpAny (model X'.prog X'.w) X'.A t Q1 X'.xe s → wpAny (model X'.prog X'.w) X'.A t Q1 E1 s := fun {α t Q1 E1 s} h => by
   rw [xX] at h
   exact wpAny_mono h (fun _ _ q => q) fun _ _ f => f.elim
  rcases w4 with ⟨stop, qn⟩ | ⟨go, hys, N, hN, step⟩
  ·have d := T.done X' pX wX kX cX i [] s3 σ3 H3 X'.xe I3 (fun b hb => fX b hb (fr3 b hb)) st3 stop
   rw [← pX, ← wX] at d
   refine nox (thn d fun r s4 ⟨hr, I4⟩ => ?_)
   subst hr
   exact fin I4 qn
  ·have d := T.item X' pX wX kX cX i [] s3 σ3 H3 X'.xe I3 (fun b hb => fX b hb (fr3 b hb)) st3 go
   rw [← pX, ← wX] at d
   refine nox (thn d fun r s4 ⟨u, hr, h4⟩ => ?_)
   subst hr
   refine nox (thn h4 fun _ s5 ⟨x, H5, I5, r5, y5, st5, fr5⟩ => ?_)
   have I5' := I5.pinned (fun b hb => fX b hb (fr5 b hb)) (T.obj _ _ st5)
   have again : ∀ {σ7 : St} {H7 : Hp} {s7 : Shared} {ys' : List V}, Inv X' ([] ++ pinsAt fp s5.heap) σ7 H7 s7 → N σ7 ys' H7 →
     ∃ m, m < n ∧ ∃ i σ' ys H', Inv X' [] σ' H' s7 ∧ tn i s7.heap ∧ (∀ b ∈ fp, H' b = none) ∧ W i m σ' ys H' := fun {σ7 H7 s7 ys'} I7 n7 => by
    obtain ⟨m', hm, w7⟩ := hN _ _ _ n7
    refine ⟨m', hm, i + 1, σ7, ys', H7, I7.unpinned, T.keep _ _ _ st5 fun b hb o e => (I7.pin (b, o) (List.mem_append_right _ (List.mem_append_right _ (mem_pinsAt hb e)))).1, fun b hb => ?_, w7⟩
    obtain ⟨o, e, d⟩ := T.obj _ _ st5 b hb
    exact (I7.pin (b, o) (List.mem_append_right _ (List.mem_append_right _ (mem_pinsAt hb e)))).2.1
   refine nox (thn (hg' _ s5 σ3 H5 x u _ I5' r5 (step x H5 y5)) fun _ s6 ⟨σ6, H6, I6, q6⟩ => ?_)
   refine nox (thn (ht' _ s6 σ6 H6 _ I6 q6) fun b s7 ⟨H7, I7, q7⟩ => ?_)
   cases b with
   | false =>
    rw [if_neg Bool.false_ne_true] at q7 ⊢
    exact again I7 q7
   | true =>
    rw [if_pos rfl] at q7 ⊢
    refine nox (thn (he' _ s7 σ6 H7 _ I7 q7) fun u8 s8 ⟨y8, H8, I8, r8, d8, q8⟩ => ?_)
    refine nox (thn (mt_append _ s8 σ6 H8 (.ref s2.heap.objs.size) [y8] (.ref s2.heap.objs.size) [u8] (fun _ H9 => N σ6 (ys ++ [y8]) H9) I8 rfl (.cons r8 .nil) ⟨_, ys, y8, rfl, rfl, d8, hys, q8⟩) fun _ s9 ⟨_, H9, I9, _, q9⟩ => ?_)
    exact again I9 q9
 exact codeAny_compStart_list loop (T.self X.A 0 _ _ _ (T.keep _ _ _ st2 fun b _ o e => kk b o e) loop)
theorem pe_comp (c : CompOk X scope cl own cap) (hc : X.calm = true) (hi : PI X tg iter wi)
  (hg : ∀ C s H fp, PG (compCx X (own ++ cap.map (·.2)) scope cl C s H fp fun _ _ => False) tg g) (ht : ∀ C s H fp, PTs (compCx X (own ++ cap.map (·.2)) scope cl C s H fp fun _ _ => False) ifs tc)
  (he : ∀ C s H fp, PE (compCx X (own ++ cap.map (·.2)) scope cl C s H fp fun _ _ => False) elt te) (hs : ∀ x, foldedSetIterable iter X.env x = pure x := by intro _; rfl) :
  PE X (.ListComp elt [⟨tg, iter, ifs, 0⟩] scope pos) (tComp wi g tc te own cap) := by
 refine .mk ?_
 intro pins s σ H Q I h
 rw [eval_ListComp]
 refine wpAny_comprehension_free (use := none) rfl hs c.clos c.kind c.names (thn (hi pins s σ H _ I h) fun v s1 h1 => thn h1 fun itv s2 h2 => ?_)
 obtain ⟨it, fp, tn, J, H2, e, I2, T, st2, f2, hw⟩ := h2
 subst e
 refine comp_block (Q := Q) (RR := fun acc C => compPost (model X.prog X.w) X.A X.xe none (EP X pins σ Q) acc C) c hc hg ht he I2 T st2 f2 hw ?_
 intro D C s' H' m I' hC hm q
 refine ⟨m, hm, fun h' hs' => ⟨.ref D, H', ?_, rfl, q⟩⟩
 exact I'.turned (t' := s'.toks) (fun b o hb e => (hs'.2 b hb).trans e) hC.1 hC.2.1 hC.2.2.2.1 hC.2.2.2.2.1 hC.2.2.2.2.2
def tCompS (i : Nat) (t : TE) : TS := fun D σ H => t σ H fun x H1 => D.nx (σ.set i (some x)) H1
theorem ps_comp {i : Nat} {y : Str} {py spos : Pos} (c : CompOk X scope cl own cap) (hc : X.calm = true) (hi : PI X tg iter wi)
  (hg : ∀ C s H fp, PG (compCx X (own ++ cap.map (·.2)) scope cl C s H fp fun _ _ => False) tg g) (ht : ∀ C s H fp, PTs (compCx X (own ++ cap.map (·.2)) scope cl C s H fp fun _ _ => False) ifs tc)
  (he : ∀ C s H fp, PE (compCx X (own ++ cap.map (·.2)) scope cl C s H fp fun _ _ => False) elt te)
  (hN : X.N.Nodup) (hy : X.N[i]? = some y) (hl : X.env.scope.names.lookup y = some .local)
  (hsw : swapsWith (.ListComp elt [⟨tg, iter, ifs, 0⟩] scope pos) (some (.Name y py)) spos.line X.env = pure true := by rfl) (hs : ∀ x, foldedSetIterable iter X.env x = pure x := by intro _; rfl) :
  PS X (.Assign [.Name y py] (.ListComp elt [⟨tg, iter, ifs, 0⟩] scope pos) spos) (tCompS i (tComp wi g tc te own cap)) := by
 refine .mk ?_
 intro pins s σ H D I h
 rw [exec_Assign_Name_used _ _ _ _ hsw]
 refine wpAny_bind (wpAny_standAt (wpAny_bind ?_))
 show wpAny _ X.A (do let _ ← comprehension (.ListComp elt [⟨tg, iter, ifs, 0⟩] scope pos) scope X.env _ (newList []) false (eval iter X.env) (some (assign (.Name y py) X.env))) _ _ s
 refine wpAny_bind (wpAny_mono (wpAny_comprehension_free (use := some (assign (.Name y py) X.env)) (Q := fun _ s' => SP X pins D .next s') rfl hs c.clos c.kind c.names (thn (hi pins s σ H _ I h) fun v s1 h1 => thn h1 fun itv s2 h2 => ?_)) (fun _ s' hq => wpAny_pure (wpAny_pure hq)) fun _ _ e => e)
 obtain ⟨it, fp, tn, J, H2, e, I2, T, st2, f2, hw⟩ := h2
 subst e
 refine comp_block (Q := fun x H1 => D.nx (σ.set i (some x)) H1) (RR := fun acc C => compPost (model X.prog X.w) X.A X.xe (some (assign (.Name y py) X.env)) (fun _ s' => SP X pins D .next s') acc C) c hc hg ht he I2 T st2 f2 hw ?_
 intro D' C s' H' m I' hC hm q
 show wpAny _ X.A (assign (.Name y py) X.env (.ref D')) _ _ _
 refine wpAny_assign_Name (store_ok2 (v := .ref D') I' hN hy (.inl hl) rfl (fun s'' I'' ch => ?_) (.inr hl))
 obtain ⟨a, sb, ha⟩ := ch
 have hCa : C ≠ a := by
  rcases ha with ha | ha
  ·rw [ha]; exact hC.2.1
  ·exact fun z => hC.2.2.2.2.1 _ _ ha z.symm
 refine ⟨m, hm.sameBut sb hCa, fun h' hs' => ⟨_, H', ?_, q⟩⟩
 exact I''.turned (t' := s''.toks) (fun b o hb e => (hs'.2 b hb).trans e) hC.1 hC.2.1 hC.2.2.2.1 hC.2.2.2.2.1 hC.2.2.2.2.2
end
end L2
set_option Elab.async false
set_option linter.all false
set_option maxRecDepth 100000
namespace L2
open PySem PySem.Spec PyProof.Rows
def topOf : List Int → Int
 | [] => 0
 | [x] => x
 | x :: y :: r => max x (topOf (y :: r))
def cutN {α : Type} (xs : List α) (lo hi : Option Int) : List α := (xs.drop (HT.sIx xs.length 0 lo)).take (HT.sIx xs.length xs.length hi - HT.sIx xs.length 0 lo)
theorem cutN_length {α : Type} (xs : List α) (lo hi : Option Int) : (cutN xs lo hi).length ≤ xs.length := by
 unfold cutN
 rw [List.length_take, List.length_drop]
 omega
theorem clip1 (v : Int) (n d : Nat) : max (0 : Int) (min (if v < 0 then v + (n : Int) else v) (n : Int)) = ((HT.sIx n d (some v) : Nat) : Int) := by
 show _ = (((if v < 0 then (v + (n : Int)).toNat else min v.toNat n) : Nat) : Int)
 by_cases hv : v < 0
 ·rw [if_pos hv, if_pos hv]; omega
 ·rw [if_neg hv, if_neg hv]; omega
theorem idx_clip (lo hi : Option Int) (n : Nat) : Builtin.Str.strSliceIndices lo hi 1 n = Builtin.Str.strSliceIndices (some ((HT.sIx n 0 lo : Nat) : Int)) (some ((HT.sIx n n hi : Nat) : Int)) 1 n := by
 have a1 := HT.sIx_le n 0 (Nat.zero_le _) lo
 have a2 := HT.sIx_le n n (Nat.le_refl _) hi
 have n1 : ¬ (((HT.sIx n 0 lo : Nat) : Int) < 0) := by omega
 have n2 : ¬ (((HT.sIx n n hi : Nat) : Int) < 0) := by omega
 have e1 : max (0 : Int) (min ((HT.sIx n 0 lo : Nat) : Int) (n : Int)) = ((HT.sIx n 0 lo : Nat) : Int) := by omega
 have e2 : max (0 : Int) (min ((HT.sIx n n hi : Nat) : Int) (n : Int)) = ((HT.sIx n n hi : Nat) : Int) := by omega
 have p1 : ((1 : Int) > 0) = True := by simp
 simp only [Builtin.Str.strSliceIndices, n1, n2, if_false, e1, e2, p1, if_true]
 cases lo with
 | none =>
  cases hi with
  | none => rfl
  | some v => simp only [clip1 v n n]; rfl
 | some u =>
  cases hi with
  | none => simp only [clip1 u n 0]; rfl
  | some v => simp only [clip1 u n 0, clip1 v n n]
theorem idx_none {a b n : Nat} (h : b ≤ a) : Builtin.Str.strSliceIndices (some (a : Int)) (some (b : Int)) 1 n = [] := by
 have n1 : ¬ ((a : Int) < 0) := by omega
 have n2 : ¬ ((b : Int) < 0) := by omega
 have p1 : ((1 : Int) > 0) = True := by simp
 have p2 : ¬ (max (0 : Int) (min (a : Int) (n : Int)) < max (0 : Int) (min (b : Int) (n : Int))) := by omega
 simp only [Builtin.Str.strSliceIndices, PySem.sliceRange, n1, n2, if_false, p1, if_true, p2]
 rfl
theorem strIdx_cut (x : Str) (lo hi : Option Int) : (StrLaws.sliceText x lo hi).cps.toList = cutN x.cps.toList lo hi := by
 have hn : x.cps.toList.length = x.length := by simp [Str.length]
 unfold cutN
 rw [hn]
 have a2 := HT.sIx_le x.length x.length (Nat.le_refl _) hi
 by_cases h : HT.sIx x.length 0 lo ≤ HT.sIx x.length x.length hi
 ·have q := StrLaws.sliceText_nat x h a2
  have e : StrLaws.sliceText x lo hi = StrLaws.sliceText x (some ((HT.sIx x.length 0 lo : Nat) : Int)) (some ((HT.sIx x.length x.length hi : Nat) : Int)) := by
   unfold StrLaws.sliceText
   rw [idx_clip lo hi x.length]
  rw [e, q]
 ·have z : HT.sIx x.length x.length hi - HT.sIx x.length 0 lo = 0 := by omega
  rw [z, List.take_zero]
  unfold StrLaws.sliceText
  rw [idx_clip lo hi x.length, idx_none (by omega)]
  split
  ·rename_i c
   have c' : (0 : Nat) = x.length := by simpa using c
   exact List.eq_nil_of_length_eq_zero (by rw [hn]; exact c'.symm)
  ·rfl
def rSlS : V → Option Int → Option Int → Hp → VK → Prop := fun x lo hi H Q => ∃ z : Str, x = .str z ∧ z.length ≤ sizeLine ∧ ∀ y : Str, y.cps.toList = cutN z.cps.toList lo hi → Q (.str y) H
theorem sl_str {X : Cx} : SlR X rSlS := by
 intro pins s σ H x v vl vu lo hi sl Q I rx hs pl pu h
 obtain ⟨z, rfl, hz, q⟩ := h
 obtain ⟨t, rfl⟩ := rx
 refine ⟨"str", _, F.slot_str_getitem.lookup, typeIs_str _ z t, ?_⟩
 have fin : ∀ (l u : Option (Int × Tok)), l.map (·.1) = lo → u.map (·.1) = hi → s.heap.IsSlice sl l u none → wpAny (model X.prog X.w) X.A (getItem (.str z t) (.ref sl)) (EP X pins σ Q) X.xe s := fun l u el eu hq => by
  refine wpAny_getItem_str_slice hq rfl ?_
  have hc := strIdx_cut z lo hi
  unfold StrLaws.sliceText at hc
  unfold sliceMade slicePicked
  rw [el, eu]
  show (if ((1 : Int) == 1 && (Builtin.Str.strSliceIndices lo hi 1 z.length).length == z.length) = true then Made.val (.str z t) else .str ⟨((Builtin.Str.strSliceIndices lo hi 1 z.length).filterMap (z.cps[·]?)).toArray⟩).post (EP X pins σ Q) s
  split
  ·rename_i c
   rw [if_pos c] at hc
   exact ⟨.str z, H, I, ⟨t, rfl⟩, q z hc⟩
  ·rename_i c
   rw [if_neg c] at hc
   have hl : (Str.mk ((Builtin.Str.strSliceIndices lo hi 1 z.length).filterMap (z.cps[·]?)).toArray).length ≤ z.length := by
    have e := cutN_length z.cps.toList lo hi
    rw [← hc] at e
    simpa [Str.length] using e
   exact ⟨Nat.le_trans hl hz, .str ⟨((Builtin.Str.strSliceIndices lo hi 1 z.length).filterMap (z.cps[·]?)).toArray⟩, H, I.tok _, ⟨_, rfl⟩, q _ hc⟩
 cases pl with
 | none =>
  cases pu with
  | none => exact fin none none rfl rfl hs
  | int j t' => exact fin none (some (j, t')) rfl rfl hs
 | int i t'' =>
  cases pu with
  | none => exact fin (some (i, t'')) none rfl rfl hs
  | int j t' => exact fin (some (i, t'')) (some (j, t')) rfl rfl hs
section
variable {X: Cx}{x: Expr}{te: TE}{p p2 pos: Pos}{T: Str}{Ty: String}
def tInst (K : PySem.W.Frag) (Ty : String) (te : TE) : TE := fun σ H Q => te σ H fun v H1 => ∃ v', [v, V.ty Ty] = [v', V.ty Ty] ∧ ∃ t b, TyOf K H1 v' t ∧ PySem.W.kitOne K t (.type Ty) = some b ∧ Q (.bl b) H1
theorem pe_inst (hg : Gl X "isinstance") (hm : X.mg "isinstance" = none) (hgT : Gl X T) (hmT : X.mg T = none) (hvT : bootBuiltins T = some (.type Ty)) (he : PE X x te) (hn : T ≠ "__name__" := by decide) (hdT : (T == ("__debug__" : Str)) = false := by decide)
  (hs : starEach [x, .Name T p2] X.env = (false, eval x X.env) :: starEach [.Name T p2] X.env := by rfl) (hs2 : starEach [.Name T p2] X.env = [(false, eval (.Name T p2) X.env)] := by rfl)
  (hpl : (backTo pos (starEach [.Name T p2] X.env)).any (·.1) = false := by rfl) :
  PE X (.Call (.Name "isinstance" p) [x, .Name T p2] [] pos) (tInst X.K Ty te) := by
 have c : CallR X (.builtin "isinstance") (fun xs H Q => ∃ v, xs = [v, .ty Ty] ∧ ∃ t b, TyOf X.K H v t ∧ PySem.W.kitOne X.K t (.type Ty) = some b ∧ Q (.bl b) H) := by
  intro pins s σ H xs us Q I r h
  obtain ⟨v, rfl, t, b, ty, e, q⟩ := h
  obtain ⟨u, w', rfl, ru, rw'⟩ := vals2 r
  cases (show w' = Value.type Ty from rw')
  exact isinst_ok I ru ty e fun tk => ⟨.bl b, H, I.tok tk, rfl, q⟩
 have pa : PA X [x, .Name T p2] (tCons te (tCons (tC (.ty Ty)) tNil)) := pa_cons he (pa_cons (pe_bltn hgT hmT hvT rfl hn hdT) pa_nil hs2) hs
 exact pe_callB (p := p) (pos := pos) c hg hm PyProof.Rows.boot_isinstance pa (by decide) (by decide) hs hpl
end
end L2
set_option Elab.async false
set_option linter.all false
set_option maxRecDepth 100000
namespace L2
open PySem PySem.Spec PyProof.Rows
def Callee (P : Program) (w : World) (K : PySem.W.Frag) (mg : Str → Option Value) (base : Heap) (x : Str) (k : Nat) (ps : List Str) (sp : Sp) : Prop :=
 ∃ f fd, FnOk P w K mg base CX0 k f fd ps sp ∧ mg x = some (.ref f) ∧ PySem.W.keepIn K (.ref f) = true ∧ Binds K fd ps []
section
variable {X: Cx}{x: Str}{k j: Nat}{ps: List Str}{sp: Sp}{p pos: Pos}{e: Expr}{es: List Expr}{t: TA}
theorem pe_callC (c : Callee X.prog X.w X.K X.mg X.base x k ps sp) (hr : Room j X.A) (hk : k ≤ j) (hg : Gl X x) (ha : PA X (e :: es) t) (hdb : (x == ("__debug__" : Str)) = false := by decide)
  (he : starEach (e :: es) X.env = (false, eval e X.env) :: starEach es X.env := by rfl) (hpl : (backTo pos (starEach es X.env)).any (·.1) = false := by rfl) : PE X (.Call (.Name x p) (e :: es) [] pos) (tCall sp [] E0 t) := by
 obtain ⟨f, fd, F, m, kp, b⟩ := c
 exact pe_call F (hr.mono hk) hg m kp b .nil pass0 ha hdb he hpl
end
section
variable {X: Cx}{scope: Scope}{own: List Str}
theorem mem_relabel {env : Env} {p : Str × NameKind} (h : p ∈ (relabel scope env).names) : ∃ q ∈ scope.names, q.1 = p.1 ∧ (p.2 = q.2 ∨ (q.2 = .free ∧ p.2 = .cell)) := by
 obtain ⟨q, hq, e⟩ := List.mem_map.mp (show p ∈ scope.names.map _ from h)
 refine ⟨q, hq, ?_⟩
 obtain ⟨n, k⟩ := q
 dsimp only at e
 split at e
 ·rename_i c
  subst e
  refine ⟨rfl, .inr ⟨?_, rfl⟩⟩
  simp only [Bool.and_eq_true, beq_iff_eq] at c
  exact c.1.1
 ·subst e
  exact ⟨rfl, .inl rfl⟩
theorem compOk0 (hk : scope.kind = .function) (hn : ∀ y ∈ scope.names, y.2 ≠ .free ∧ y.2 ≠ .cell) (hl : ∀ y ∈ scope.names, y.2 = .local → scope.names.lookup y.1 = some .local) : CompOk X scope [] own [] where
 clos := closureFor_none fun y hy => (hn y hy).1
 cell := fun y hy => (hn y hy).2
 kind := hk
 names := hl
 sub := fun x c h => nomatch h
 has := fun p hp h => by
  obtain ⟨q, hq, e1, e2⟩ := mem_relabel hp
  have n := hn q hq
  rcases e2 with e2 | ⟨e2, _⟩
  ·rw [e2] at h
   rcases h with h | h
   ·exact absurd h n.2
   ·exact absurd h n.1
  ·exact absurd e2 n.1
 caps := fun p hp => nomatch hp
def AllCl (cells : List (Str × Addr)) : List (Str × Addr) → Prop
 | [] => True
 | p :: r => cells.lookup p.1 = some p.2 ∧ AllCl cells r
theorem AllCl.mem {cells : List (Str × Addr)} : ∀ {cl : List (Str × Addr)}, AllCl cells cl → ∀ p ∈ cl, cells.lookup p.1 = some p.2
 | [], _, p, h => nomatch h
 | q :: r, h, p, hp => by
  rcases List.mem_cons.mp hp with rfl | hp
  ·exact h.1
  ·exact AllCl.mem h.2 p hp
def AllCap (X : Cx) (scope : Scope) : List (Nat × Str) → Prop
 | [] => True
 | p :: r => (X.N[p.1]? = some p.2 ∧ X.env.kindOf p.2 = some .cell ∧ (relabel scope X.env).names.lookup p.2 = some .cell) ∧ AllCap X scope r
theorem AllCap.mem : ∀ {cap : List (Nat × Str)}, AllCap X scope cap → ∀ p ∈ cap, X.N[p.1]? = some p.2 ∧ X.env.kindOf p.2 = some .cell ∧ (relabel scope X.env).names.lookup p.2 = some .cell
 | [], _, p, h => nomatch h
 | q :: r, h, p, hp => by
  rcases List.mem_cons.mp hp with rfl | hp
  ·exact h.1
  ·exact AllCap.mem h.2 p hp
theorem compOkC {cl : List (Str × Addr)} {cap : List (Nat × Str)} (hk : scope.kind = .function) (hn : ∀ y ∈ scope.names, y.2 ≠ .cell) (hl : ∀ y ∈ scope.names, y.2 = .local → scope.names.lookup y.1 = some .local)
  (hc : closureFor scope X.env = pure cl) (ha : AllCl X.env.cells cl) (hh : ((relabel scope X.env).names.all fun p => !(p.2 == .cell || p.2 == .free) || (cl.lookup p.1).isSome) = true) (hcap : AllCap X scope cap) : CompOk X scope cl own cap where
 clos := hc
 cell := hn
 kind := hk
 names := hl
 sub := fun x c h => ha.mem _ (mem_of_lookup h)
 has := fun p hp h => by
  have q := List.all_eq_true.mp hh p hp
  rcases h with h | h <;> · rw [h] at q; simpa using q
 caps := fun p hp => by
  obtain ⟨h1, h2, h3⟩ := hcap.mem p hp
  exact ⟨h1, .inr (.inl h2), by rw [h2]; decide, by rw [h3]; decide, .inl h3⟩
end
theorem bt_bool : bootBuiltins "bool" = some (.type "bool") := by decide +kernel
theorem bt_int : bootBuiltins "int" = some (.type "int") := by decide +kernel
theorem bt_str : bootBuiltins "str" = some (.type "str") := by decide +kernel
theorem bt_tuple : bootBuiltins "tuple" = some (.type "tuple") := by decide +kernel
end L2
set_option Elab.async false
set_option linter.all false
set_option maxRecDepth 100000
namespace Tg
open PySem L2
inductive Kd where
 | num (w : Int)
 | text
 | row (k : Kd)
 | rec_ (fs : List (Str × Kd))
 | pick (fs : List (Str × Kd))
mutual
def Kd.size : Kd → Int
 | .num w => w
 | .text => 1
 | .row _ => 1
 | .rec_ fs => (sizesF fs).sum
 | .pick fs => 1 + topOf (sizesF fs)
def sizesF : List (Str × Kd) → List Int
 | [] => []
 | (_, k) :: r => k.size :: sizesF r
end
mutual
def Kd.depth : Kd → Nat
 | .num _ => 1
 | .text => 1
 | .row k => k.depth + 1
 | .rec_ fs => depthF fs + 1
 | .pick fs => depthF fs + 1
def depthF : List (Str × Kd) → Nat
 | [] => 0
 | (_, k) :: r => max k.depth (depthF r)
end
end Tg
set_option Elab.async false
set_option linter.all false
set_option maxRecDepth 100000
namespace Tg
open PySem L2
theorem len_codes (z : Str) : z.cps.toList.length = z.length := by simp [Str.length]
abbrev abc : Str := "abcdefghijklmnopqrstuvwxyz"
theorem inV_strs {x : Str} : ∀ {ss : List Str}, inV (.str x) (ss.map V.str) = decide (x ∈ ss)
 | [] => by simp [inV]
 | y :: r => by
  have ih := inV_strs (x := x) (ss := r)
  unfold inV at ih ⊢
  rw [List.map_cons, List.any_cons, ih]
  show (y == x || decide (x ∈ r)) = decide (x ∈ y :: r)
  rw [Bool.eq_iff_iff]
  simp only [Bool.or_eq_true, beq_iff_eq, decide_eq_true_eq, List.mem_cons]
  constructor
  ·rintro (h | h)
   ·exact .inl h.symm
   ·exact .inr h
  ·rintro (h | h)
   ·exact .inl h.symm
   ·exact .inr h
end Tg
set_option Elab.async false
set_option linter.all false
set_option maxRecDepth 100000
set_option maxHeartbeats 1000000
namespace L2
open PySem PySem.Spec PyProof.Rows PySem.W
theorem exc_obj {K : Frag} {h : Heap} {C : Addr} {bmB : List Value} {newId : String} (X : K.In h) (q : excIn K C bmB newId = true) :
  ∃ bm N nm q bs hdct sn sub ab col dd k0 k1 k2 k3 k5 mN, h.get? C = some (excClassObj nm q C N bs bm hdct sn sub ab col dd k0 k1 k2 k3 k5 newId) ∧ h.Ns N mN ∧ mN "__init__" = none ∧ OwnTail h bmB bm := by
 unfold excIn at q
 split at q
 ·rename_i dd cd sl ho
  split at q
  ·rename_i C' bm k0 k1 k2 k3 n k5 hm hs
   simp only [Bool.and_eq_true, beq_iff_eq, Bool.not_eq_true'] at q
   obtain ⟨⟨⟨⟨⟨rfl, rfl⟩, hdel⟩, ht⟩, hok⟩, hni⟩ := q
   obtain ⟨nm, bs, mro, ns, qn, hd, sn, sub, ab, col, del⟩ := cd
   dsimp only at hm hdel hok hni
   subst hm hdel
   have hsl : sl = #[k0, k1, k2, k3, some (.builtin n), k5] := by
    obtain ⟨l⟩ := sl
    simp only at hs
    rw [hs]
   subst hsl
   exact ⟨bm, ns, nm, qn, bs, hd, sn, sub, ab, col, dd, k0, k1, k2, k3, k5, _, X _ _ ho, .of_isNs (isNs_of_in X hok), nsMap_none_of_in X hok hni, tail_of_in X ht⟩
  ·cases q
 ·cases q
structure UnB (fs : List Addr) (H H' : Hp) (h B h' : Heap) : Prop where
 keep : ∀ b o, h.get? b = some o → H b = none → b ∉ fs → B.get? b = some o
 slot : ∀ b o, h.get? b = some o → H b = none → b ∈ fs → ∃ sl, h'.get? b = some { o with slots := sl }
 free : ∀ b o, h.get? b = some o → H b = none → H' b = none
 there : ∀ b o, h.get? b = some o → b ∉ fs → ∃ o', B.get? b = some o'
 tups : ∀ b xs, H b = some (.tup xs) → H' b = some (.tup xs)
 frzs : ∀ b o u, H b = some (.frz o u) → H' b = some (.frz o u)
 tbls : ∀ b ps, H b = some (.tbl ps) → ∃ more, H' b = some (.tbl (ps ++ more))
theorem UnB.un {fs : List Addr} {H H' : Hp} {h B h' : Heap} (u : UnB fs H H' h B h') (st : B.StaysIn h') (hf : ∀ b ∈ fs, H b = none) : Un fs [] H H' h h' :=
 ⟨fun b o e n hb _ => st b o (u.keep b o e n hb), fun b o e n hb _ => u.slot b o e n hb, fun b o e n _ => u.free b o e n, fun b o e _ => by
  by_cases hb : b ∈ fs
  ·obtain ⟨sl, q⟩ := u.slot b o e (hf b hb) hb
   exact ⟨_, q⟩
  ·obtain ⟨o', q⟩ := u.there b o e hb
   exact ⟨o', st b o' q⟩, u.tups, u.frzs, u.tbls⟩
def CXe (P : Program) (w : World) : CXT := fun outer H s E e s' => ∃ (x : Addr) (C a0 : Value) (H' : Hp) (B : Heap), e = .ref x ∧ s'.os = s.os ∧ AllBare s'.gens ∧
 Heap.FlyingW B outer x C a0 s'.heap ∧ HOk P w H' B ∧ UnB (frs outer) H H' s.heap B s'.heap ∧ E C none H'
def Raises (X : Cx) (E : XK) : Prop := ∀ (pins : List (Addr × Obj)) (σ : St) (H : Hp) (s : Shared) (h' : Heap) (x : Addr) (C : Value) (vs : List Value), Inv X pins σ H s → Heap.MadeExcOf s.heap h' x C vs → E C none H → X.xe (.ref x) { s with heap := h' }
section
variable {X: Cx}{x: Str}{C: Addr}{bmB: List Value}{B newId initId: String}{np cpos pos: Pos}{e₀: Expr}{rest: List Expr}{t: TA}{E: XK}
def tRaise (E : XK) (C : Addr) (t : TA) : TS := fun _ σ H => t σ H fun vs H1 => vs.length ≤ sizeLine ∧ E (.ref C) none H1
theorem ps_raise (hc : X.calm = true) (hg : Gl X x) (hm : X.mg x = some (.ref C)) (hx : excIn X.K C bmB newId = true) (FB : ExcBaseFacts B newId initId bmB) (ha : PA X (e₀ :: rest) t) (hE : Raises X E)
  (hd : (x == ("__debug__" : Str)) = false := by decide) (he : starEach (e₀ :: rest) X.env = (false, eval e₀ X.env) :: starEach rest X.env := by rfl) (hpl : (backTo cpos (starEach rest X.env)).any (·.1) = false := by rfl) :
  PS X (.Raise (some (.Call (.Name x np) (e₀ :: rest) [] cpos)) none pos) (tRaise E C t) := by
 refine .mk ?_
 intro pins s σ H D I h
 obtain ⟨bm, N, nm, q, bs, hdct, sn, sub, ab, col, dd, k0, k1, k2, k3, k5, mN, hC, hN, hni, T⟩ := exc_obj I.mod.kin hx
 refine wpAny_Raise_call_subT (C := C) (nm := nm) (q := q) (N := N) (bs := bs) (bm := bm) (hdct := hdct) (sn := sn) (sub := sub) (ab := ab) (col := col) (dd := dd) (k0 := k0) (k1 := k1) (k2 := k2) (k3 := k3) (k5 := k5)
  FB (mN := mN) (T.hasType FB.hasBase) (I.ok.hd hc) (by rw [he]; show (false || (backTo cpos (starEach rest X.env)).any (·.1)) = false; rw [hpl]; rfl) hni (ld_glob I hg hm ⟨rfl, ?_⟩ hd)
 have hA := ha cpos pins s σ H _ I h
 rw [he] at hA ⊢
 refine Calls.evalArgs_plain (thn hA fun us s2 ⟨vs, H1, I1, r1, hz, q1⟩ => ?_)
 refine ⟨rfl, by rw [← r1.length]; exact hz, I1.bk _ _ hC, hN.keeps I1.bk, T.keeps I1.bk, fun h' e hM => hE pins σ H1 s2 h' e _ _ I1 hM q1⟩
end
section
variable {P: Program}{w: World}{K: PySem.W.Frag}{mg: Str → Option Value}{base: Heap}{N: List Str}{qual: Str}{scope: Scope}{f: Addr}{cd: Value}{A: Around}{outer: List Env}{s: Shared}{H: Hp}{E: XK}
abbrev cxE (P : Program) (w : World) (K : PySem.W.Frag) (mg : Str → Option Value) (base : Heap) (N : List Str) (qual : Str) (scope : Scope) (f : Addr) (cd : Value) (A : Around) (outer : List Env) (s : Shared) (H : Hp) (E : XK) : Cx :=
 cxOf (CXe P w) P w K mg base N qual scope f cd A outer s H E
theorem entry_notin {pins : List (Addr × Obj)} {σ : St} {H1 : Hp} {s1 : Shared} (I : Inv (cxE P w K mg base N qual scope f cd A outer s H E) pins σ H1 s1) {b : Addr} {o : Obj} (e : s.heap.get? b = some o) (hb : b ∉ frs outer) :
  b ∉ frs (envOfC qual scope s.heap.objs.size f cd :: outer) := fun hm => by
 rcases List.mem_cons.mp (I.stkSub b hm) with z | z
 ·exact absurd (Heap.lt_size e) (by rw [z]; exact Nat.lt_irrefl _)
 ·exact hb z
theorem frame_data {pins : List (Addr × Obj)} {σ : St} {H1 : Hp} {s1 : Shared} (I : Inv (cxE P w K mg base N qual scope f cd A outer s H E) pins σ H1 s1) {b : Addr} {o : Obj} (e : s.heap.get? b = some o) (hb : b ∈ frs outer) : ∀ vs, o.data ≠ .fields vs := by
 obtain ⟨_, o', ho', hd'⟩ := I.ok.funs.mem hb
 have e' : s.heap.get? b = some o' := ho'
 rw [e] at e'
 cases e'
 exact hd'
theorem raise_def : Raises (cxE P w K mg base N qual scope f cd A outer s H E) E := by
 intro pins σ H1 s1 h' x C vs I M hE
 show wpAny (model P w) (A.deeper (envOfC qual scope s.heap.objs.size f cd)) (leaving (envOfC qual scope s.heap.objs.size f cd) (.ref x)) (fun _ s'' => CXe P w outer H s E (.ref x) s'') (fun e' s'' => CXe P w outer H s E e' s'') { s1 with heap := h' }
 have hin : ∀ env' ∈ envOfC qual scope s.heap.objs.size f cd :: outer, ∀ a, env'.frame = some a → a ∈ frs (envOfC qual scope s.heap.objs.size f cd :: outer) := fun env' he a ha => List.mem_filterMap.mpr ⟨env', he, ha⟩
 refine wpAny_leaves_madeW (base := hideAll s1.heap (frs (envOfC qual scope s.heap.objs.size f cd :: outer))) (h := s1.heap) I.ok.frames rfl (fun b o q => of_hideAll _ q) (funFrames_hide I.stack hin) M fun h2 t x1 x2 x3 x4 => ?_
 have nf : ∀ b u, H1 b = some u → b ∉ frs (envOfC qual scope s.heap.objs.size f cd :: outer) := fun b u q hm => by
  have z := I.stkFree b hm
  rw [q] at z; cases z
 refine ⟨x, C, .ref t, H1, _, rfl, I.os, I.bare, x1, fun a o q => ?_, ⟨fun b o q n hb => ?_, fun b o q n hb => ?_, fun b o q n => ?_, fun b o q hb => ?_, I.base.tups, I.base.frzs, I.base.tbls⟩, hE⟩
 ·refine (I.hok a o q).stay (fun b u hb z => hideAll_get _ z ?_) (fun _ z => z) fun _ _ z => z
  rcases hb with rfl | hb
  ·exact nf _ _ q
  ·exact nf _ _ hb
 ·exact hideAll_get _ (I.base.keep b o q n hb (by exact List.not_mem_nil)) (entry_notin I q hb)
 ·obtain ⟨sl, z⟩ := I.base.slot b o q n hb (by exact List.not_mem_nil)
  obtain ⟨sl2, z2⟩ := x4 b _ (M.keeps _ _ z) (have fd := frame_data I q hb; fun vs => fd vs)
  exact ⟨sl2, z2⟩
 ·exact I.base.free b o q n (by exact List.not_mem_nil)
 ·obtain ⟨o', z⟩ := I.base.there b o q (by exact List.not_mem_nil)
  exact ⟨o', hideAll_get _ z (entry_notin I q hb)⟩
theorem pass_def : Passes (CXe P w) (cxE P w K mg base N qual scope f cd A outer s H E) E := by
 intro pins σ H1 s1 e s2 I h
 obtain ⟨x, C, a0, H', B, rfl, os, bare, fl, hok, u, hE⟩ := h
 show wpAny (model P w) (A.deeper (envOfC qual scope s.heap.objs.size f cd)) (leaving (envOfC qual scope s.heap.objs.size f cd) (.ref x)) (fun _ s'' => CXe P w outer H s E (.ref x) s'') (fun e' s'' => CXe P w outer H s E e' s'') s2
 refine wpAny_leaves_onW I.ok.frames rfl fl fun h2 f2 up => ?_
 refine ⟨x, C, a0, H', B, rfl, os.trans I.os, bare, f2, hok, ⟨fun b o q n hb => ?_, fun b o q n hb => ?_, fun b o q n => ?_, fun b o q hb => ?_, fun b xs q => u.tups b xs (I.base.tups b xs q), fun b o v q => u.frzs b o v (I.base.frzs b o v q), fun b ps q => ?_⟩, hE⟩
 ·exact u.keep b o (I.base.keep b o q n hb (by exact List.not_mem_nil)) (I.base.free b o q n (by exact List.not_mem_nil)) (entry_notin I q hb)
 ·obtain ⟨sl, z⟩ := I.base.slot b o q n hb (by exact List.not_mem_nil)
  have hm : b ∈ frs (envOfC qual scope s.heap.objs.size f cd :: outer) := by
   obtain ⟨env', he, ha⟩ := List.mem_filterMap.mp hb
   exact List.mem_filterMap.mpr ⟨env', List.mem_cons_of_mem _ he, ha⟩
  obtain ⟨sl2, z2⟩ := u.slot b _ z (I.base.free b o q n (by exact List.not_mem_nil)) hm
  obtain ⟨sl3, z3⟩ := up b _ z2 (have fd := frame_data I q hb; fun vs => fd vs)
  exact ⟨sl3, z3⟩
 ·obtain ⟨o', z⟩ := I.base.there b o q (by exact List.not_mem_nil)
  exact u.free b o' z (I.base.free b o q n (by exact List.not_mem_nil))
 ·obtain ⟨o', z⟩ := I.base.there b o q (by exact List.not_mem_nil)
  exact u.there b o' z (entry_notin I q hb)
 ·obtain ⟨m1, z1⟩ := I.base.tbls b ps q
  obtain ⟨m2, z2⟩ := u.tbls b _ z1
  exact ⟨m1 ++ m2, by rw [z2, Array.append_assoc]⟩
theorem own_def : PassesOwn (model P w) (cxE P w K mg base N qual scope f cd A outer s H E).A (cxE P w K mg base N qual scope f cd A outer s H E).env (cxE P w K mg base N qual scope f cd A outer s H E).xe := PassesOwn.leaving
end
theorem Fun.okX {P : Program} {w : World} {K : PySem.W.Frag} {mg : Str → Option Value} {base : Heap} {x qual : Str} {st : Stmt} {f : Addr} {fd : FuncData} {N ps : List Str} {k : Nat} {sp : Sp} (F : Fun K x qual st f fd) (S : FnScope N ps (defScope st)) (len : ∀ vs H Q E, sp vs H Q E → vs.length = ps.length)
  (hbody : ∀ (cdv : Value) (A : Around) (outer : List Env) (s : Shared) (H : Hp) (vs : List V) (Q : VK) (E : XK), Room k (A.deeper (envOfC qual (defScope st) s.heap.objs.size f cdv)) → sp vs H Q E →
   ∃ t, PSs (cxE P w K mg base N qual (defScope st) f cdv A outer s H E) (defBody st) t ∧ t { nx := fun _ H' => Q .non H', rt := Q } (start N vs) H) : FnOk P w K mg base (CXe P w) (k + 1) f fd ps sp := by
 obtain ⟨oc, od, kV, doc, pm, an, cdv, ct, osl, rfl, lk, hcd⟩ := F.ex
 exact fn_of lk hcd S len fun A outer s H vs Q E hr hsp => hbody cdv A outer s H vs Q E hr hsp
def CalleeX (P : Program) (w : World) (K : PySem.W.Frag) (mg : Str → Option Value) (base : Heap) (x : Str) (k : Nat) (ps : List Str) (sp : Sp) : Prop :=
 ∃ f fd, FnOk P w K mg base (CXe P w) k f fd ps sp ∧ mg x = some (.ref f) ∧ PySem.W.keepIn K (.ref f) = true ∧ Binds K fd ps []
end L2
set_option Elab.async false
set_option linter.all false
set_option maxRecDepth 100000
set_option maxHeartbeats 1000000
namespace L2
open PySem PySem.Spec PyProof.Rows PySem.W
theorem ObjOk.got {P : Program} {w : World} {H : Hp} {h : Heap} {a : Addr} {o : HO} (x : ObjOk P w H h a o) : ∃ u, h.get? a = some u := by
 cases o with
 | lst xs => obtain ⟨_, _, _, _, e⟩ := x; exact ⟨_, e⟩
 | tup xs => obtain ⟨_, _, _, o, e, _⟩ := x; exact ⟨_, e⟩
 | dK kvs => obtain ⟨_, _, _, _, o, _, _, e, _⟩ := x; exact ⟨_, e⟩
 | dT kvs => obtain ⟨_, _, _, _, o, _, _, e, _⟩ := x; exact ⟨_, e⟩
 | set S n => obtain ⟨o, _, _, _, e, _⟩ := x; exact ⟨_, e⟩
 | ins C dx fs => obtain ⟨_, _, _, e, _⟩ := x; exact ⟨_, e⟩
 | own y => exact x
 | xd fs => obtain ⟨_, ⟨_, _, _, e, _⟩, _⟩ := x; exact ⟨_, e⟩
 | rng lo hi => obtain ⟨_, _, _, e⟩ := x; exact ⟨_, e⟩
 | frz ob u => obtain ⟨e, _⟩ := x; exact ⟨_, e⟩
 | tbl ps => exact ⟨_, (show h.get? a = some _ from x)⟩
 | met f y => exact ⟨_, (show h.get? a = some _ from x)⟩
 | ext φ => obtain ⟨_, e, _⟩ := x; exact e
section
variable {X: Cx}{pins: List (Addr × Obj)}{σ: St}{H: Hp}{s: Shared}
abbrev Cx.tr (X : Cx) (E' : Value → Shared → Prop) (pn : List (Addr × Obj)) : Cx := { X with xe := E', pn := pn }
abbrev Cx.su (X : Cx) (x : Addr) : Cx := { X with A := X.A.mark (some (.ref x)), calm := false, xe := fun _ _ => False }
theorem Cx.Ok.tr (ok : X.Ok) (E' : Value → Shared → Prop) (pn : List (Addr × Obj)) : (X.tr E' pn).Ok :=
 ⟨ok.mod, ok.kind, ok.glob, ok.blt, ok.above, ok.inj, ok.has, ok.cab, ok.hd, ok.frames, ok.stk, ok.exf, ok.bs, ok.bsz, ok.noex, ok.exfs, ok.funs, ok.frf⟩
theorem Cx.Ok.su (ok : X.Ok) (x : Addr) : (X.su x).Ok :=
 ⟨ok.mod, ok.kind, ok.glob, ok.blt, ok.above, ok.inj, ok.has, ok.cab, (fun z => absurd (show false = true from z) (by decide)), ok.frames, ok.stk, ok.exf, ok.bs, ok.bsz, ok.noex, ok.exfs, ok.funs, ok.frf⟩
theorem Inv.tr (I : Inv X pins σ H s) (E' : Value → Shared → Prop) : Inv (X.tr E' (X.pn ++ pins)) [] σ H s :=
 ⟨I.ok.tr E' _, I.os, I.bare, I.base, I.loc, I.cell, I.free, I.freeC, fun p hp => I.pin p (by simpa using hp), I.hok, I.len⟩
theorem Inv.untr {E' : Value → Shared → Prop} {pins' : List (Addr × Obj)} (ok : X.Ok) (I : Inv (X.tr E' (X.pn ++ pins)) pins' σ H s) : Inv X pins σ H s :=
 ⟨ok, I.os, I.bare, I.base, I.loc, I.cell, I.free, I.freeC, fun p hp => I.pin p (List.mem_append_left _ hp), I.hok, I.len⟩
theorem Inv.su (I : Inv X pins σ H s) (x : Addr) : Inv (X.su x) pins σ H s := ⟨I.ok.su x, I.os, I.bare, I.base, I.loc, I.cell, I.free, I.freeC, I.pin, I.hok, I.len⟩
theorem Inv.unsu {x : Addr} (ok : X.Ok) (I : Inv (X.su x) pins σ H s) : Inv X pins σ H s := ⟨ok, I.os, I.bare, I.base, I.loc, I.cell, I.free, I.freeC, I.pin, I.hok, I.len⟩
end
section
variable {X: Cx}
def eTry (X : Cx) (pins : List (Addr × Obj)) (D : Ends) (hs : List ExceptHandler) : Value → Shared → Prop := fun e s₁ =>
 wpAny (model X.prog X.w) X.A (noteFrame e X.env) (fun _ s₂ => wpAny (model X.prog X.w) X.A (setFlight e none) (fun _ s₃ => wpAny (model X.prog X.w) X.A (handleBy e X.env hs) (SP X pins D) X.xe s₃) X.xe s₂) X.xe s₁
end
end L2
set_option Elab.async false
set_option linter.all false
set_option maxRecDepth 100000
set_option maxHeartbeats 1000000
namespace L2
open PySem PySem.Spec PyProof.Rows PySem.W
section
variable {X: Cx}{x: Str}{k j: Nat}{ps: List Str}{sp: Sp}{p pos: Pos}{e: Expr}{es: List Expr}{t: TA}{W: St → XK}
def tCallW (sp : Sp) (W : St → XK) (t : TA) : TE := fun σ H Q => t σ H fun vs H1 => sp vs H1 Q (W σ)
def PassesW (X : Cx) (W : St → XK) : Prop := ∀ (pins : List (Addr × Obj)) (σ : St) (H : Hp) (s : Shared) (e : Value) (s' : Shared), Inv X pins σ H s → CXe X.prog X.w X.stack H s (W σ) e s' → X.xe e s'
theorem pe_callW (c : CalleeX X.prog X.w X.K X.mg X.base x k ps sp) (hr : Room j X.A) (hk : k ≤ j) (hg : Gl X x) (hx : PassesW X W) (ha : PA X (e :: es) t) (hdb : (x == ("__debug__" : Str)) = false := by decide)
  (he : starEach (e :: es) X.env = (false, eval e X.env) :: starEach es X.env := by rfl) (hpl : (backTo pos (starEach es X.env)).any (·.1) = false := by rfl) : PE X (.Call (.Name x p) (e :: es) [] pos) (tCallW sp W t) := by
 refine .mk ?_
 obtain ⟨f, fd, F, m, kp, b⟩ := c
 intro pins s σ H Q I h
 refine wpAny_Call_Name_kw (ld_glob I hg m ?_ hdb)
 refine PySem.W.callWith_K (h₀ := X.base) I.ok.mod.kin kp (thn (ha pos pins s σ H _ I h) fun us s1 ⟨vs, H1, I1, r, q⟩ => ⟨I1.kIn, ?_⟩) he hpl
 have hl : us.length = ps.length := by rw [← r.length]; exact F.len _ _ _ _ q
 have hb := b s1 us I1.kIn (by rw [List.append_nil]; exact hl)
 rw [List.append_nil] at hb
 refine wpAny_call (codeAny_mono (F.run X.A X.stack s1 H1 ⟨us, []⟩ us vs Q (W σ) (hr.mono hk) I1.env0 hb r q) fun r' s' hq => ?_)
 cases r' with
 | error e => exact hx pins σ H1 s1 e s' I1 hq
 | ok fl =>
  cases fl with
  | ret u => exact I1.after hq
  | next => exact False.elim hq
  | brk => exact False.elim hq
  | cont => exact False.elim hq
end
section
variable {X: Cx}{body suite: List Stmt}{b₀: Stmt}{y: Str}{np hpos pos: Pos}{Cy: Addr}{tb: (St → XK) → TS}{ts: TS}
def wTry0 (K : PySem.W.Frag) (Cy : Addr) (ts : TS) (D : Ends) : St → XK := fun σ C _ H' => exmOne K C (.ref Cy) = some true ∧ ts D σ H'
def tTry0 (K : PySem.W.Frag) (Cy : Addr) (tb : (St → XK) → TS) (ts : TS) : TS := fun D σ H => tb (wTry0 K Cy ts D) D σ H
theorem catch_0 {pins : List (Addr × Obj)} {D : Ends} (ok : X.Ok) (hst : X.stack = X.env :: X.outer) (hfr : X.env.frame = some X.env.locals) (hy : Gl X y) (hmy : X.mg y = some (.ref Cy))
  (hs : ∀ x, PSs (X.su x) (b₀ :: suite) ts) (hd : (y == ("__debug__" : Str)) = false) {σ1 : St} {H1 : Hp} {s1 : Shared} {e : Value} {s2 : Shared} (J1 : Inv X pins σ1 H1 s1) (hcx : CXe X.prog X.w X.stack H1 s1 (wTry0 X.K Cy ts D σ1) e s2) :
  eTry X pins D [.ExceptHandler (some (.Name y np)) none (b₀ :: suite) hpos] e s2 := by
 obtain ⟨x, C, a0, H', B, rfl, os, bare, fl, hok, u, hm, hw⟩ := hcx
 have hfrm : X.A.frames = some (X.env :: X.outer) := by rw [← hst]; exact ok.frames
 have fl' : Heap.FlyingW B (X.env :: X.outer) x C a0 s2.heap := by rw [← hst]; exact fl
 have data : ∀ b ∈ frs X.stack, ∀ o, s1.heap.get? b = some o → ∀ vs, o.data ≠ .fields vs := fun b hb o q => by
  obtain ⟨_, o', ho', hd'⟩ := J1.stack.mem hb
  rw [q] at ho'; cases ho'; exact hd'
 have mkI : ∀ h5 : Heap, B.StaysIn h5 → s2.heap.UpToSlots h5 → Inv X pins σ1 H' { s2 with heap := h5 } := fun h5 st up => by
  have u5 : UnB (frs X.stack) H1 H' s1.heap B h5 := ⟨u.keep, fun b o q n' hb => by
   obtain ⟨sl, z⟩ := u.slot b o q n' hb
   obtain ⟨sl2, z2⟩ := up b _ z (have dd := data b hb o q; fun vs => dd vs)
   exact ⟨sl2, z2⟩, u.free, u.there, u.tups, u.frzs, u.tbls⟩
  exact J1.call' (s' := { s2 with heap := h5 }) (ch := []) os (u5.un st J1.stkFree) (hok.kept st) bare (fun b hb => nomatch hb)
 have hxB : B.get? x = none := fl'.2.1
 have Hx : H' x = none := by
  cases q : H' x with
  | none => rfl
  | some o =>
   obtain ⟨z, hz⟩ := (hok x o q).got
   rw [hxB] at hz; cases hz
 refine wpAny_looks_onW hfrm hfr fl' fun h4 held4 up4 => ?_
 refine wpAny_landsW held4 fun h5 fl5 up5 => ?_
 have I5 := mkI h5 fl5.1 (up4.trans up5)
 obtain ⟨ob, hob, hoc⟩ := fl5.there
 have LT : Looks (model X.prog X.w) h5 (typeOf (.ref x)) C := by rw [← hoc]; exact (Looks.ld hob).andThen .now
 refine wpAny_handleBy_cons (codeAny_handlers_test (ld_glob (X := X.su x) (I5.su x) hy hmy ?_ hd)) (by intro q; cases q)
 refine (exm_one I5.kIn LT hm).here ?_
 refine codeAny_handlers_suite ?_
 refine lands_againW fl5 fun h6 fl6 up6 => ?_
 have I6 := mkI h6 fl6.1 ((up4.trans up5).trans up6)
 refine wpAny_mono ((hs x).run pins { s2 with heap := h6 } _ _ _ (I6.su x) hw) (fun f s8 q => ?_) (fun _ _ z => z.elim)
 cases f with
 | next => obtain ⟨σ2, H2, I8, q⟩ := q; exact ⟨_, _, Inv.unsu ok I8, q⟩
 | brk => obtain ⟨σ2, H2, I8, q⟩ := q; exact ⟨_, _, Inv.unsu ok I8, q⟩
 | cont => obtain ⟨σ2, H2, I8, q⟩ := q; exact ⟨_, _, Inv.unsu ok I8, q⟩
 | ret v => obtain ⟨v', σ2, H2, I8, r, q⟩ := q; exact ⟨v', _, _, Inv.unsu ok I8, r, q⟩
theorem ps_try0 (hst : X.stack = X.env :: X.outer) (hfr : X.env.frame = some X.env.locals) (hy : Gl X y) (hmy : X.mg y = some (.ref Cy))
  (hb : ∀ (E' : Value → Shared → Prop) (pn : List (Addr × Obj)) (W : St → XK), (∀ pins σ H s e s', Inv (X.tr E' pn) pins σ H s → CXe X.prog X.w X.stack H s (W σ) e s' → E' e s') → PSs (X.tr E' pn) body (tb W))
  (hs : ∀ x, PSs (X.su x) (b₀ :: suite) ts) (hd : (y == ("__debug__" : Str)) = false := by decide) :
  PS X (.Try body [.ExceptHandler (some (.Name y np)) none (b₀ :: suite) hpos] [] [] pos) (tTry0 X.K Cy tb ts) := by
 refine .mk ?_
 intro pins s σ H D I h
 have ok := I.ok
 refine wpAny_Try_except ?_
 have fin := (hb (eTry X pins D [.ExceptHandler (some (.Name y np)) none (b₀ :: suite) hpos]) (X.pn ++ pins) (wTry0 X.K Cy ts D) (fun pins' σ1 H1 s1 e s2 J hcx => catch_0 ok hst hfr hy hmy hs hd (Inv.untr ok J) hcx)).run [] s σ H D (I.tr _) h
 refine wpAny_mono fin (fun f s1 q => ?_) fun e s1 q => q
 cases f with
 | next =>
  obtain ⟨σ', H', I', q⟩ := q
  exact wpAny_execs_nil ⟨σ', H', Inv.untr ok I', q⟩
 | brk => obtain ⟨σ', H', I', q⟩ := q; exact ⟨σ', H', Inv.untr ok I', q⟩
 | cont => obtain ⟨σ', H', I', q⟩ := q; exact ⟨σ', H', Inv.untr ok I', q⟩
 | ret v => obtain ⟨v', σ', H', I', r, q⟩ := q; exact ⟨v', σ', H', Inv.untr ok I', r, q⟩
end
end L2
set_option Elab.async false
set_option linter.all false
set_option maxRecDepth 100000
namespace L2
open PySem PySem.Spec PyProof.Rows
section
variable {X: Cx}
def CDivG (i j : Int) : Prop := 0 < j ∧ j < 2 ^ 200
theorem CDivG.noPy {i j : Int} (h : CDivG i j) : Builtin.divisionGoesByPylong i j = false := by
 refine PyProof.noPylong_of_log2 ?_
 have h1 : j.natAbs < 2 ^ 200 := by have := h.1; have := h.2; omega
 have h2 : j.natAbs ≠ 0 := by have := h.1; omega
 have := (Nat.log2_lt h2).mpr h1
 omega
theorem op_fdivG : OpR X (binaryOp .FloorDiv) (rI CDivG fun i j => .int (i / j)) := opI fun i j _ _ _ _ _ hc q => by
 have h1 : (0 : Int) < j := hc.1
 exact floordiv_int (by omega) (by rw [Int.fdiv_eq_ediv_of_nonneg i (by omega)]; exact q) (.inl hc.noPy)
theorem bools_of {bs : List Bool} : ∀ {us : List Value}, Vals (bs.map V.bl) us → us = bs.map Value.bool := by
 induction bs with
 | nil => intro us r; rw [List.map_nil] at r; cases r; rfl
 | cons n ns ih =>
  intro us r
  rw [List.map_cons] at r
  cases r with
  | cons r1 r2 =>
   rw [ih r2]
   cases r1
   rfl
theorem range_all {bs : List Bool} : (List.range bs.length).all (fun i => bs.getD i true) = bs.all id := by
 rw [Bool.eq_iff_iff, List.all_eq_true, List.all_eq_true]
 constructor
 ·intro h b hb
  obtain ⟨i, hi, rfl⟩ := List.getElem_of_mem hb
  have := h i (List.mem_range.mpr hi)
  simpa [List.getD, List.getElem?_eq_getElem hi] using this
 ·intro h i hi
  have hi' := List.mem_range.mp hi
  have := h bs[i] (List.getElem_mem hi')
  simpa [List.getD, List.getElem?_eq_getElem hi'] using this
theorem kept_it {s : Shared} {o₀ : Obj} {h' : Heap} (hk : ∀ b o, b ∉ [s.heap.objs.size] → (s.heap.push o₀).get? b = some o → h'.get? b = some o) : ∀ b o, s.heap.get? b = some o → h'.get? b = some o := fun b o e => by
 refine hk b o (fun hm => ?_) (Heap.get?_push_of_some _ e)
 exact absurd ((List.mem_singleton.mp hm) ▸ Heap.lt_size e) (Nat.lt_irrefl _)
theorem call_allL (hc : X.calm = true) : CallR X (.builtin "all") (fun xs H Q => ∃ (p : Addr) (bs : List Bool), xs = [.ref p] ∧ SqL X.K H p (bs.map V.bl) ∧ Q (.bl (bs.all id)) H) := by
 intro pins s σ H xs us Q I r h
 obtain ⟨p, bs, rfl, hq, q⟩ := h
 obtain ⟨u, rfl, ru⟩ := vals1 r
 cases ru
 obtain ⟨its, rv, pl, hz⟩ := I.list hq
 have eb := bools_of rv
 have hl : s.heap.IsList p its.toArray := pl.isList
 have hlt : p < s.heap.objs.size := by obtain ⟨_, e, _⟩ := hl; exact Heap.lt_size e
 refine call_all_walk (wpAny_pyIter_list hl ?_)
 refine ⟨s.heap.objs.size, _, _, _, _, _, fun i => bs.getD i true, rfl, Walks.list (prog := X.prog) (w := X.w) (A := X.A.in1) (I.ok.hd hc) s.heap.objs.size p (Nat.ne_of_lt hlt) its.toArray, ⟨⟨_, Heap.get?_push_size _ rfl, rfl, rfl⟩, hl.push _⟩, ?_, ?_⟩
 ·intro i v s' Q' E' hP hQ
  have e : v = .bool (bs.getD i true) := by
   rw [eb] at hP
   simp only [List.getElem?_toArray, List.getElem?_map, Option.map_eq_some_iff] at hP
   obtain ⟨b, hb, rfl⟩ := hP
   simp [List.getD, hb]
  rw [e]
  exact wpAny_truthy_bool hQ
 ·intro h' tk hk
  refine ⟨.bl (bs.all id), H, I.kept (kept_it hk), ?_, q⟩
  have e2 : its.toArray.size = bs.length := by rw [eb]; simp
  rw [e2, range_all]
  rfl
end
end L2
set_option Elab.async false
set_option linter.all false
set_option maxRecDepth 100000
namespace Tg
end Tg
set_option Elab.async false
set_option linter.all false
set_option maxRecDepth 100000
namespace L2
open PySem PySem.Spec PyProof.Rows
section
variable {X: Cx}
def repS (x : Str) (n : Nat) : Str := ⟨(List.replicate n x.cps).foldl (· ++ ·) #[]⟩
theorem fold_app (x : Array Nat) : ∀ (n : Nat) (acc : Array Nat), ((List.replicate n x).foldl (· ++ ·) acc).toList = acc.toList ++ (List.replicate n x.toList).flatten
 | 0, acc => by simp
 | n + 1, acc => by
  rw [List.replicate_succ, List.foldl_cons, fold_app x n, List.replicate_succ, List.flatten_cons, Array.toList_append, List.append_assoc]
theorem repS_list (x : Str) (n : Nat) : (repS x n).cps.toList = (List.replicate n x.cps.toList).flatten := by
 show ((List.replicate n x.cps).foldl (· ++ ·) #[]).toList = _
 rw [fold_app]
 rfl
theorem repS_len (x : Str) (n : Nat) : (repS x n).length = n * x.length := by
 show (repS x n).cps.size = _
 rw [← Array.length_toList, repS_list, len_rep, Array.length_toList]
 rfl
theorem rep_none {x : Str} {n : Nat} (h : n = 0 ∨ x.length = 0) : repS x n = Str.empty := by
 have e : (repS x n).cps.toList = [] := by
  apply List.eq_nil_of_length_eq_zero
  rw [Array.length_toList]
  show (repS x n).length = 0
  rw [repS_len]
  rcases h with h | h <;> simp [h]
 show (⟨(repS x n).cps⟩ : Str) = ⟨#[]⟩
 congr 1
 exact Array.toList_inj.mp (by rw [e])
theorem rep_one (x : Str) : repS x 1 = x := by
 show (⟨(repS x 1).cps⟩ : Str) = ⟨x.cps⟩
 congr 1
 apply Array.toList_inj.mp
 rw [repS_list]
 simp
theorem op_mulS : OpR X (binaryOp .Mult) (fun x y H Q => ∃ z k, x = .str z ∧ y = .int k ∧ -(2 ^ 62) < k ∧ k ≤ 1000 ∧ z.length ≤ 1000 ∧ Q (.str (repS z k.toNat)) H) := by
 intro pins s σ H x y v u Q I rx ry h
 obtain ⟨z, k, rfl, rfl, k1, k2, z1, q⟩ := h
 obtain ⟨t, rfl⟩ := rx
 obtain ⟨t', rfl⟩ := ry
 have hr : (decide (k < -(2 ^ 63 : Int)) || decide (k ≥ 2 ^ 63)) = false := by
  rw [decide_eq_false (by omega), decide_eq_false (by omega)]; rfl
 have hm : z.length * k.toNat ≤ 1000 * 1000 := Nat.mul_le_mul z1 (by omega)
 have hs : (1000 * 1000 : Nat) ≤ sizeLine := by decide
 refine PySem.P.mul_str hr (fun h1 _ => ?_) (fun h1 _ => ?_) ?_
 ·have e : (2 ^ 63 - 1 : Int) / k ≥ 9223372036854775 := by
   rw [ge_iff_le, Int.le_ediv_iff_mul_le (by omega)]
   omega
  omega
 ·show decide (z.length * k.toNat > sizeLine) = false
  exact decide_eq_false (by omega)
 ·by_cases c : k < 1
  ·rw [if_pos c]
   refine ⟨by decide, .str Str.empty, H, I.tok _, ⟨_, rfl⟩, ?_⟩
   rw [rep_none (.inl (by omega))] at q
   exact q
  ·rw [if_neg c]
   by_cases c2 : (k == 1 || z.length == 0) = true
   ·rw [if_pos c2]
    refine ⟨.str z, H, I, ⟨t, rfl⟩, ?_⟩
    rw [Bool.or_eq_true, beq_iff_eq, beq_iff_eq] at c2
    rcases c2 with rfl | c2
    ·rw [show (1 : Int).toNat = 1 from rfl, rep_one] at q
     exact q
    ·rw [rep_none (.inr c2)] at q
     have ez : z = Str.empty := by
      show (⟨z.cps⟩ : Str) = ⟨#[]⟩
      congr 1
      exact Array.eq_empty_of_size_eq_zero c2
     rw [ez]
     exact q
   ·rw [if_neg c2]
    refine ⟨?_, .str (repS z k.toNat), H, I.tok _, ⟨_, rfl⟩, q⟩
    show (repS z k.toNat).length ≤ sizeLine
    rw [repS_len, Nat.mul_comm]
    omega
theorem strVals_of {ss : List Str} : ∀ {us : List Value}, Vals (ss.map V.str) us → ∃ l : List (Str × Tok), us = strValues l ∧ l.map (·.1) = ss := by
 induction ss with
 | nil => intro us r; rw [List.map_nil] at r; cases r; exact ⟨[], rfl, rfl⟩
 | cons x r ih =>
  intro us rv
  rw [List.map_cons] at rv
  cases rv with
  | cons r1 r2 =>
   obtain ⟨t, rfl⟩ := r1
   obtain ⟨l, rfl, e⟩ := ih r2
   exact ⟨(x, t) :: l, rfl, by rw [List.map_cons, e]⟩
end
end L2
set_option Elab.async false
set_option linter.all false
set_option maxRecDepth 100000
namespace L2
open PySem PySem.Spec PyProof.Rows
section
variable {X: Cx}{pins: List (Addr × Obj)}{σ: St}{H: Hp}{s: Shared}{h': Heap}
theorem Inv.turnedNew {t' : Nat} {ch : List Addr} {a : Addr} {o : HO} (I : Inv X pins σ H s) (k : ∀ b u, b ∉ ch → s.heap.get? b = some u → h'.get? b = some u) (hf : ∀ b ∈ ch, FpOk X pins H b) (ha : s.heap.objs.size ≤ a)
  (new : ObjOk X.prog X.w (upd H a o) h' a o) : Inv X pins σ (upd H a o) { s with heap := h', toks := t' } := by
 have hn : H a = none := I.hok.fresh ha
 have nch : ∀ b u, H b = some u → b ∉ ch := fun b u e z => by rw [(hf b z).1] at e; cases e
 refine I.step (g' := s.gens) (d' := s.drawn) (ch := ch) (fun b hb => ?_) (fun b o _ _ hc e _ => k b o hc e) (fun b o _ _ hc e _ => ⟨o.slots, k b o hc e⟩) (fun b o _ e n => ?_)
  (fun b o hc e => ⟨o, k b o hc e⟩) (fun b xs e => by rw [upd_ne (ne_of_none e hn)]; exact e) (fun b u v e => by rw [upd_ne (ne_of_none e hn)]; exact e) (fun b ps e => ⟨#[], by rw [upd_ne (ne_of_none e hn), e]; simp⟩) (fun m hm => ?_) (fun b u e => ?_) I.bare
 ·obtain ⟨f0, f1, f2, f3, f4, f5⟩ := hf b hb
  exact ⟨f3, f1, f4, f5⟩
 ·rw [upd_ne (Nat.ne_of_lt (Nat.lt_of_lt_of_le (Heap.lt_size e) ha))]
  exact n
 ·obtain ⟨o, es, ep, ho, r⟩ := hm
  exact ⟨o, es, ep, k _ o (fun z => (hf _ z).2.1 rfl) ho, r⟩
 ·by_cases hb : b = a
  ·subst hb; rw [upd_same] at e; cases e; exact new
  ·rw [upd_ne hb] at e
   refine (I.hok b u e).stay (fun c v hc q => k c v ?_ q) (fun c q => by rw [upd_ne (ne_of_none q hn)]; exact q) fun c xs q => by rw [upd_ne (ne_of_none q hn)]; exact q
   rcases hc with z | z
   ·rw [z]; exact nch b u e
   ·exact nch c _ z
theorem Inv.turnedAll {t' : Nat} {ch : List Addr} (I : Inv X pins σ H s) (k : ∀ b u, b ∉ ch → s.heap.get? b = some u → h'.get? b = some u) (hf : ∀ b ∈ ch, FpOk X pins H b) : Inv X pins σ H { s with heap := h', toks := t' } := by
 have nch : ∀ b u, H b = some u → b ∉ ch := fun b u e z => by rw [(hf b z).1] at e; cases e
 refine I.step (g' := s.gens) (d' := s.drawn) (ch := ch) (fun b hb => ?_) (fun b o _ _ hc e _ => k b o hc e) (fun b o _ _ hc e _ => ⟨o.slots, k b o hc e⟩) (fun b o _ e n => n)
  (fun b o hc e => ⟨o, k b o hc e⟩) (fun b xs e => e) (fun b u v e => e) (fun b ps e => ⟨#[], by rw [e]; simp⟩) (fun m hm => ?_) (fun b u e => ?_) I.bare
 ·obtain ⟨f0, f1, f2, f3, f4, f5⟩ := hf b hb
  exact ⟨f3, f1, f4, f5⟩
 ·obtain ⟨o, es, ep, ho, r⟩ := hm
  exact ⟨o, es, ep, k _ o (fun z => (hf _ z).2.1 rfl) ho, r⟩
 ·refine (I.hok b u e).stay (fun c v hc q => k c v ?_ q) (fun _ q => q) fun _ _ q => q
  rcases hc with z | z
  ·rw [z]; exact nch b u e
  ·exact nch c _ z
end
def signV (c : Nat) : V := .str ⟨#[c]⟩
def Its (x : Str) : It := ⟨fun i _ => i < x.cps.size, fun i H v H' => H' = H ∧ ∃ c, x.cps[i]? = some c ∧ v = signV c, fun i _ => x.cps.size ≤ i⟩
theorem turn_str {P : Program} {w : World} {K : PySem.W.Frag} {tg : Expr} (it : Addr) (x : Str) (t : Tok) (ty : String) (hty : ty = "str_ascii_iterator" ∨ ty = "str_iterator") : Turn P w K tg (Its x) [it] it (fun i h => h.IsStrIter it ty x t i) where
 mem := by simp
 obj := fun i h st b hb => by
  have e : b = it := by simpa using hb
  subst e
  obtain ⟨o, e, c, d⟩ := st
  exact ⟨o, e, fun v z => by rw [d] at z; cases z⟩
 keep := fun i h h' st k => by
  obtain ⟨o, e, r⟩ := st
  exact ⟨o, k it (by simp) o e, r⟩
 item := by
  intro X hP hw hK hc i pins s σ H E I hf st hg
  subst hP hw hK
  obtain ⟨f0, f1, f2, f3, f4, f5⟩ := hf it (by simp)
  have key : ∀ v h' tk, SignAt x i v → h'.IsStrIter it ty x t (i + 1) → (∀ b o, b ∉ [it] → s.heap.get? b = some o → h'.get? b = some o) → ∃ u, some v = some u ∧
    wpAny (model X.prog X.w) X.A (letOwnedTupleGo tg (.ref it) u) (fun _ s2 => ∃ y H', Inv X pins σ H' s2 ∧ RelV y u ∧ (Its x).yld i H y H' ∧ s2.heap.IsStrIter it ty x t (i + 1) ∧ ∀ b ∈ [it], H' b = none) E { s with heap := h', toks := tk } := by
   intro v h' tk hv st' kk
   obtain ⟨c, u, hc', rfl⟩ := hv
   have I1 : Inv X pins σ H { s with heap := h', toks := tk } := I.turned (fun b o hb e => kk b o (by simpa using hb) e) f0 f1 f3 f4 f5
   obtain ⟨o, e, ec, ed⟩ := id st'
   exact ⟨_, rfl, go_of (s := { s with heap := h', toks := tk }) e ec ed (by rcases hty with rfl | rfl <;> decide) ⟨signV c, H, I1, ⟨u, rfl⟩, ⟨rfl, c, hc', rfl⟩, st', fun b hb => (hf b hb).1⟩⟩
  rcases hty with rfl | rfl
  ·exact (Walks.strAscii (prog := X.prog) (w := X.w) (I.ok.hd hc) it x t).item i s _ _ hg st key
  ·exact (Walks.strWide (prog := X.prog) (w := X.w) (I.ok.hd hc) it x t).item i s _ _ hg st key
 done := by
  intro X hP hw hK hc i pins s σ H E I hf st hg
  subst hP hw hK
  obtain ⟨f0, f1, f2, f3, f4, f5⟩ := hf it (by simp)
  have hx : x.cps[i]? = none := Array.getElem?_eq_none hg
  rcases hty with rfl | rfl
  ·exact wpAny_pyNext_ascii_end (I.ok.hd hc) st hx fun h' eb => ⟨rfl, I.turned (t' := s.toks) (fun b o hb e => eb b o hb e) f0 f1 f3 f4 f5⟩
  ·exact wpAny_pyNext_wide_end (I.ok.hd hc) st hx fun h' eb => ⟨rfl, I.turned (t' := s.toks) (fun b o hb e => eb b o hb e) f0 f1 f3 f4 f5⟩
 self := fun _ _ _ _ _ st h => by
  rcases hty with rfl | rfl
  ·exact wpAny_pyIter_striter_ascii st h
  ·exact wpAny_pyIter_striter_wide st h
section
variable {X: Cx}{tg: Expr}
def iStr (tl : TE) : TI := fun σ H R => tl σ H fun x H1 => ∃ z, x = .str z ∧ R (Its z) H1
theorem pi_str {l : Expr} {tl : TE} (hl : PE X l tl) : PI X tg l (iStr tl) := by
 refine .mk ?_
 intro pins s σ H R I h
 refine thn (hl pins s σ H _ I h) fun v s1 ⟨x, H1, I1, r1, q1⟩ => ?_
 obtain ⟨z, e, q⟩ := q1
 subst e
 obtain ⟨t, rfl⟩ := r1
 have fin : ∀ ty : String, (ty = "str_ascii_iterator" ∨ ty = "str_iterator") → PIE X pins σ tg R (.ref s1.heap.objs.size) { s1 with heap := s1.heap.push { cls := .type ty, data := .fields #[.str z t, .int 0 0] } } := by
  intro ty hty
  refine ⟨s1.heap.objs.size, [s1.heap.objs.size], _, _, H1, rfl, I1.kept (t' := s1.toks) fun b o e => Heap.get?_push_of_some _ e, turn_str s1.heap.objs.size z t ty hty, ⟨_, Heap.get?_push_size _ rfl, rfl, rfl⟩, fun b hb => ?_, q⟩
  have e : b = s1.heap.objs.size := by simpa using hb
  subst e
  exact I1.fpOk (Nat.le_refl _) (I1.hok.fresh (Nat.le_refl _))
 cases ha : z.cps.all (· < 128)
 ·exact wpAny_pyIter_wide ha (fin _ (.inr rfl))
 ·exact wpAny_pyIter_ascii ha (fin _ (.inl rfl))
end
end L2
set_option Elab.async false
set_option linter.all false
set_option maxRecDepth 100000
namespace L2
open PySem PySem.Spec PyProof.Rows
section
variable {prog: Program}{w: World}{A: Around}{E: Value → Shared → Prop}{s: Shared}
theorem nextT_item {j u : Addr} {i : Nat} {vs : Array Value} {v : Value} {Q : Value → Shared → Prop} (hj : s.heap.IsTupleIter j u i) (hu : s.heap.IsTuple u vs) (hv : vs[i]? = some v)
  (q : ∀ h', h'.IsTupleIter j u (i + 1) → Heap.SameBut j s.heap h' → Q v { s with heap := h' }) : wpAny (model prog w) A (Builtin.SmallTypes.nextOf (.ref j)) Q E s := by
 obtain ⟨ob, b1, b2, b3⟩ := id hj
 obtain ⟨ou, c1, _, nu, c3⟩ := hu
 unfold Builtin.SmallTypes.nextOf
 refine wpAny_bind (wpAny_callSpecial?_slot (name := Str.ofString "__next__") hj.typeIs F.slot_tuple_iterator_next (wpAny_call_entry F.slot_tuple_iterator_next hj.typeIs F.entry_tuple_iterator_next ?_ (F.args_tuple_iterator_next_1 _)))
 show wpAny _ _ (field (.ref j) 0 >>= _) _ _ s
 refine wpAny_bind (wpAny_field b1 b3 (x := .ref u) rfl ?_)
 show wpAny _ _ (if (Value.ref u == Value.none) = true then _ else _) _ _ s
 rw [if_neg (show ¬ ((Value.ref u == Value.none) = true) from Bool.false_ne_true)]
 show wpAny _ _ (field (.ref j) 1 >>= _) _ _ s
 refine wpAny_bind (wpAny_field b1 b3 (x := .int i 0) rfl ?_)
 show wpAny _ _ (seqItems? (.ref u) >>= _) _ _ s
 refine wpAny_bind (wpAny_seqItems c1 c3 ?_)
 simp only [Int.toNat_natCast, hv]
 refine wpAny_bind (wpAny_setField b1 b3 (by simp) (wpAny_pure ⟨v, rfl, wpAny_pure (q _ ?_ (Heap.SameBut.update ..))⟩))
 exact ⟨_, Heap.get?_update_self _ b1 (Obj.isFreed_of_fields (Obj.data_mapFields b3 _)), (Obj.cls_mapFields ..).trans b2, by rw [Obj.data_mapFields b3]; simp [rawInt]⟩
theorem nextT_end {j u : Addr} {i : Nat} {vs : Array Value} {Q : Value → Shared → Prop} (hh : A.handled = none) (hj : s.heap.IsTupleIter j u i) (hu : s.heap.IsTuple u vs) (hv : vs[i]? = none)
  (q : ∀ h' e, Heap.ExtBut j s.heap h' → (∃ o, h'.get? e = some o ∧ o.cls = .type "StopIteration") → E (.ref e) { s with heap := h' }) : wpAny (model prog w) A (Builtin.SmallTypes.nextOf (.ref j)) Q E s := by
 obtain ⟨ob, b1, b2, b3⟩ := id hj
 obtain ⟨ou, c1, _, nu, c3⟩ := hu
 unfold Builtin.SmallTypes.nextOf
 refine wpAny_bind (wpAny_callSpecial?_slot (name := Str.ofString "__next__") hj.typeIs F.slot_tuple_iterator_next (wpAny_call_entry F.slot_tuple_iterator_next hj.typeIs F.entry_tuple_iterator_next ?_ (F.args_tuple_iterator_next_1 _)))
 show wpAny _ _ (field (.ref j) 0 >>= _) _ _ s
 refine wpAny_bind (wpAny_field b1 b3 (x := .ref u) rfl ?_)
 show wpAny _ _ (if (Value.ref u == Value.none) = true then _ else _) _ _ s
 rw [if_neg (show ¬ ((Value.ref u == Value.none) = true) from Bool.false_ne_true)]
 show wpAny _ _ (field (.ref j) 1 >>= _) _ _ s
 refine wpAny_bind (wpAny_field b1 b3 (x := .int i 0) rfl ?_)
 show wpAny _ _ (seqItems? (.ref u) >>= _) _ _ s
 refine wpAny_bind (wpAny_seqItems c1 c3 ?_)
 simp only [Int.toNat_natCast, hv]
 refine wpAny_bind (wpAny_rule (wpAny_bind (wpAny_setField b1 b3 (by simp) ?_)))
 show wpAny _ _ (newExc (.type "StopIteration") [] >>= _) _ _ _
 refine wpAny_bind ?_
 simp only [newExc, newTuple]
 refine wpAny_bind (wpAny_newObj_type ?_ (by show 0 ≤ sizeLine; exact Nat.zero_le _))
 refine wpAny_bind (m := firstArgMember _ _) (wpAny_of_eq (a := Value.none) (by first | rfl | (simp only [firstArgMember] <;> rfl)) ?_)
 refine wpAny_newObj_type ?_ (by size_fits)
 simp only [raiseNew]
 refine wpAny_bind (wpAny_handled ?_)
 first | rw [show A.in1.handled = none from hh] | rw [hh]
 refine wpAny_bind (wpAny_pure (wpAny_throw ?_))
 exact q _ _ (((Heap.SameBut.update ..).extBut.push _).push _) ⟨_, Heap.get?_push_size _ rfl, rfl⟩
structure Apart (z p r j1 j2 u1 u2 : Addr) : Prop where
 pz : p ≠ z
 rz : r ≠ z
 j1z : j1 ≠ z
 j2z : j2 ≠ z
 pr : p ≠ r
 pj1 : p ≠ j1
 pj2 : p ≠ j2
 rj1 : r ≠ j1
 rj2 : r ≠ j2
 j12 : j1 ≠ j2
 u1z : u1 ≠ z
 u1r : u1 ≠ r
 u1j1 : u1 ≠ j1
 u1j2 : u1 ≠ j2
 u2z : u2 ≠ z
 u2r : u2 ≠ r
 u2j1 : u2 ≠ j1
 u2j2 : u2 ≠ j2
theorem itAt {h h' : Heap} {a t : Addr} {i : Nat} (x : h.IsTupleIter a t i) (e : ∀ o, h.get? a = some o → h'.get? a = some o) : h'.IsTupleIter a t i := let ⟨o, ho, r⟩ := x; ⟨o, e o ho, r⟩
theorem zipT_item {z p r j1 j2 u1 u2 : Addr} {i : Nat} {vs ws : Array Value} {x y a b : Value} {Q : Value → Shared → Prop} (D : Apart z p r j1 j2 u1 u2)
  (hz : IsZip s.heap z p r .none) (hp : IsPair s.heap p (.ref j1) (.ref j2)) (hr : IsPair s.heap r a b)
  (h1 : s.heap.IsTupleIter j1 u1 i) (h2 : s.heap.IsTupleIter j2 u2 i) (l1 : s.heap.IsTuple u1 vs) (l2 : s.heap.IsTuple u2 ws) (hx : vs[i]? = some x) (hy : ws[i]? = some y)
  (q : ∀ h', IsZip h' z p r (rawInt s.heap.objs.size) → IsPair h' r x y → h'.IsTupleIter j1 u1 (i + 1) → h'.IsTupleIter j2 u2 (i + 1) → IsPair h' s.heap.objs.size x y → h'.objs.size = s.heap.objs.size + 1 →
   (∀ c o, c ≠ z → c ≠ r → c ≠ j1 → c ≠ j2 → s.heap.get? c = some o → h'.get? c = some o) → Q (.ref s.heap.objs.size) { s with heap := h' }) :
  wpAny (model prog w) A (Builtin.«zip.__next__» ⟨[.ref z], []⟩) (fun fin s' => ∃ v, fin = .done (.ret v) ∧ Q v s') E s := by
 show wpAny _ _ (field (.ref z) 2 >>= _) _ _ _
 refine wpAny_bind (wpAny_field hz rfl (x := .bool false) rfl ?_)
 show wpAny _ _ (field (.ref z) 3 >>= _) _ _ _
 refine wpAny_bind (wpAny_field hz rfl (x := .ref p) rfl ?_)
 refine wpAny_bind (wpAny_seqItems hp rfl ?_)
 show wpAny _ _ (Builtin.SmallTypes.ownedTupleIsFree (.ref z) >>= _) _ _ _
 refine wpAny_bind ?_
 unfold Builtin.SmallTypes.ownedTupleIsFree
 refine wpAny_bind (wpAny_field hz rfl (x := .none) rfl (wpAny_pure ?_))
 simp only [if_true]
 refine wpAny_bind (wpAny_rule ?_)
 refine wpAny_bind (wpAny_field hz rfl (x := .ref r) rfl ?_)
 refine wpAny_bind (wpAny_setField_rec hz (by simp) fun g1 z1 e1 => ?_)
 replace z1 : IsZip g1 z p r .ellipsis := z1
 refine wpAny_bind ?_
 simp only [List.zipIdx_cons, List.zipIdx_nil, List.forIn_cons, List.forIn_nil]
 refine wpAny_bind (wpAny_bind (wpAny_onRaise ?_))
 show wpAny _ _ (Builtin.SmallTypes.nextOf (.ref j1) >>= _) _ _ _
 refine wpAny_bind (nextT_item (h1.extBut e1.extBut D.j1z) (l1.extBut e1.extBut D.u1z) hx fun g2 a2 e2 => wpAny_pure ?_)
 have r2 : IsPair g2 r a b := e2.extBut _ _ D.rj1 (e1.extBut _ _ D.rz hr)
 refine wpAny_bind (wpAny_seqItems r2 rfl ?_)
 refine wpAny_bind (wpAny_updateSeq_pair r2 fun g3 r3 e3 => ?_)
 replace r3 : IsPair g3 r x b := r3
 refine wpAny_bind (wpAny_letGo (wpAny_pure ?_))
 refine wpAny_bind (wpAny_bind (wpAny_onRaise ?_))
 show wpAny _ _ (Builtin.SmallTypes.nextOf (.ref j2) >>= _) _ _ _
 refine wpAny_bind (nextT_item (((h2.extBut e1.extBut D.j2z).extBut e2.extBut D.j12.symm).extBut e3.extBut D.rj2.symm) (((l2.extBut e1.extBut D.u2z).extBut e2.extBut D.u2j1).extBut e3.extBut D.u2r) hy fun g4 a4 e4 => wpAny_pure ?_)
 have r4 : IsPair g4 r x b := e4.extBut _ _ D.rj2 r3
 refine wpAny_bind (wpAny_seqItems r4 rfl ?_)
 refine wpAny_bind (wpAny_updateSeq_pair r4 fun g5 r5 e5 => ?_)
 replace r5 : IsPair g5 r x y := r5
 refine wpAny_bind (wpAny_letGo (wpAny_pure (wpAny_pure ?_)))
 refine wpAny_bind (wpAny_seqItems r5 rfl ?_)
 refine wpAny_bind (wpAny_newTuple ?_)
 have sz : g5.objs.size = s.heap.objs.size := by rw [e5.1, e4.1, e3.1, e2.1, e1.1]
 have z5 : IsZip g5 z p r .ellipsis := e5.extBut _ _ D.rz.symm (e4.extBut _ _ D.j2z.symm (e3.extBut _ _ D.rz.symm (e2.extBut _ _ D.j1z.symm z1)))
 have k5 : ∀ c o, c ≠ z → c ≠ r → c ≠ j1 → c ≠ j2 → s.heap.get? c = some o → g5.get? c = some o := fun c o n1 n2 n3 n4 e =>
  e5.extBut _ _ n2 (e4.extBut _ _ n4 (e3.extBut _ _ n2 (e2.extBut _ _ n3 (e1.extBut _ _ n1 e))))
 have b1 : g5.IsTupleIter j1 u1 (i + 1) := ((a2.extBut e3.extBut D.rj1.symm).extBut e4.extBut D.j12).extBut e5.extBut D.rj1.symm
 have b2 : g5.IsTupleIter j2 u2 (i + 1) := a4.extBut e5.extBut D.rj2.symm
 have zl : z < g5.objs.size := Heap.lt_size z5
 show wpAny _ _ (Builtin.SmallTypes.ownedTupleHandOut (.ref z) (.ref g5.objs.size) >>= _) _ _ _
 refine wpAny_bind ?_
 unfold Builtin.SmallTypes.ownedTupleHandOut
 have z6 : IsZip (g5.push { cls := .type "tuple", data := .seq #[x, y] }) z p r .ellipsis := Heap.get?_push_of_some _ z5
 refine wpAny_bind (wpAny_setField_rec z6 (by simp) fun g7 z7 e7 => ?_)
 replace z7 : IsZip g7 z p r (rawInt g5.objs.size) := z7
 refine wpAny_setField_rec z7 (by simp) fun g8 z8 e8 => ?_
 replace z8 : IsZip g8 z p r (rawInt g5.objs.size) := z8
 have up : ∀ c o, c ≠ z → g5.get? c = some o → g8.get? c = some o := fun c o n1 e => e8.extBut _ _ n1 (e7.extBut _ _ n1 (Heap.get?_push_of_some _ e))
 have t8 : IsPair g8 g5.objs.size x y := e8.extBut _ _ (Nat.ne_of_gt zl) (e7.extBut _ _ (Nat.ne_of_gt zl) (Heap.get?_push_size _ rfl))
 have s8 : g8.objs.size = g5.objs.size + 1 := by rw [e8.1, e7.1, Heap.size_push]
 rw [sz] at z8 t8 s8
 refine wpAny_pure ⟨_, rfl, ?_⟩
 show Q (.ref g5.objs.size) _
 rw [sz]
 exact q g8 z8 (up _ _ D.rz r5) (itAt b1 fun o e => up _ o D.j1z e) (itAt b2 fun o e => up _ o D.j2z e) t8 s8 fun c o n1 n2 n3 n4 e => up c o n1 (k5 c o n1 n2 n3 n4 e)
theorem zipT_end {z p r j1 j2 u1 u2 : Addr} {i : Nat} {vs ws : Array Value} {a b : Value} {Q : Fin → Shared → Prop} (hh : A.handled = none) (D : Apart z p r j1 j2 u1 u2)
  (hz : IsZip s.heap z p r .none) (hp : IsPair s.heap p (.ref j1) (.ref j2)) (hr : IsPair s.heap r a b)
  (h1 : s.heap.IsTupleIter j1 u1 i) (h2 : s.heap.IsTupleIter j2 u2 i) (l1 : s.heap.IsTuple u1 vs) (l2 : s.heap.IsTuple u2 ws) (hend : vs[i]? = none ∨ ws[i]? = none)
  (q : ∀ h' e, (∀ c o, c ≠ z → c ≠ r → c ≠ j1 → c ≠ j2 → s.heap.get? c = some o → h'.get? c = some o) → (∃ o, h'.get? e = some o ∧ o.cls = .type "StopIteration") → E (.ref e) { s with heap := h' }) :
  wpAny (model prog w) A (Builtin.«zip.__next__» ⟨[.ref z], []⟩) Q E s := by
 show wpAny _ _ (field (.ref z) 2 >>= _) _ _ _
 refine wpAny_bind (wpAny_field hz rfl (x := .bool false) rfl ?_)
 show wpAny _ _ (field (.ref z) 3 >>= _) _ _ _
 refine wpAny_bind (wpAny_field hz rfl (x := .ref p) rfl ?_)
 refine wpAny_bind (wpAny_seqItems hp rfl ?_)
 show wpAny _ _ (Builtin.SmallTypes.ownedTupleIsFree (.ref z) >>= _) _ _ _
 refine wpAny_bind ?_
 unfold Builtin.SmallTypes.ownedTupleIsFree
 refine wpAny_bind (wpAny_field hz rfl (x := .none) rfl (wpAny_pure ?_))
 simp only [if_true]
 refine wpAny_bind (wpAny_rule ?_)
 refine wpAny_bind (wpAny_field hz rfl (x := .ref r) rfl ?_)
 refine wpAny_bind (wpAny_setField_rec hz (by simp) fun g1 z1 e1 => ?_)
 replace z1 : IsZip g1 z p r .ellipsis := z1
 refine wpAny_bind ?_
 simp only [List.zipIdx_cons, List.zipIdx_nil, List.forIn_cons, List.forIn_nil]
 refine wpAny_bind (wpAny_bind (wpAny_onRaise ?_))
 show wpAny _ _ (Builtin.SmallTypes.nextOf (.ref j1) >>= _) _ _ _
 cases hx : vs[i]? with
 | none =>
  refine wpAny_bind (nextT_end hh (h1.extBut e1.extBut D.j1z) (l1.extBut e1.extBut D.u1z) hx fun g2 e e2 he => ?_)
  obtain ⟨oe, he1, he2⟩ := he
  have z2 : IsZip g2 z p r .ellipsis := e2 _ _ D.j1z.symm z1
  have nez : e ≠ z := fun x => by subst x; rw [z2] at he1; cases he1; simp at he2
  refine wpAny_setField_rec z2 (by simp) fun g3 _ e3 => q g3 e (fun c o n1 _ n3 _ x => e3.extBut _ _ n1 (e2 _ _ n3 (e1.extBut _ _ n1 x))) ⟨oe, e3.extBut _ _ nez he1, he2⟩
 | some x =>
  have hy : ws[i]? = none := by rcases hend with h | h; rw [hx] at h; cases h; exact h
  refine wpAny_bind (nextT_item (h1.extBut e1.extBut D.j1z) (l1.extBut e1.extBut D.u1z) hx fun g2 a2 e2 => wpAny_pure ?_)
  have r2 : IsPair g2 r a b := e2.extBut _ _ D.rj1 (e1.extBut _ _ D.rz hr)
  refine wpAny_bind (wpAny_seqItems r2 rfl ?_)
  refine wpAny_bind (wpAny_updateSeq_pair r2 fun g3 r3 e3 => ?_)
  refine wpAny_bind (wpAny_letGo (wpAny_pure ?_))
  refine wpAny_bind (wpAny_bind (wpAny_onRaise ?_))
  show wpAny _ _ (Builtin.SmallTypes.nextOf (.ref j2) >>= _) _ _ _
  refine wpAny_bind (nextT_end hh (((h2.extBut e1.extBut D.j2z).extBut e2.extBut D.j12.symm).extBut e3.extBut D.rj2.symm) (((l2.extBut e1.extBut D.u2z).extBut e2.extBut D.u2j1).extBut e3.extBut D.u2r) hy fun g4 e e4 he => ?_)
  obtain ⟨oe, he1, he2⟩ := he
  have z4 : IsZip g4 z p r .ellipsis := e4 _ _ D.j2z.symm (e3.extBut _ _ D.rz.symm (e2.extBut _ _ D.j1z.symm z1))
  have nez : e ≠ z := fun x => by subst x; rw [z4] at he1; cases he1; simp at he2
  refine wpAny_setField_rec z4 (by simp) fun g5 _ e5 => q g5 e (fun c o n1 n2 n3 n4 x => e5.extBut _ _ n1 (e4 _ _ n4 (e3.extBut _ _ n2 (e2.extBut _ _ n3 (e1.extBut _ _ n1 x))))) ⟨oe, e5.extBut _ _ nez he1, he2⟩
end
def Itz (K : PySem.W.Frag) (a b : Addr) : It :=
  ⟨fun i H => ∃ xs ys x y, SqT K H a xs ∧ SqT K H b ys ∧ xs[i]? = some x ∧ ys[i]? = some y,
   fun i H v H' => ∃ p x y, H p = none ∧ v = .ref p ∧ H' = upd H p (.tup [x, y]) ∧ (∀ xs, SqT K H a xs → xs[i]? = some x) ∧ (∀ ys, SqT K H b ys → ys[i]? = some y),
   fun i H => ∃ xs ys, SqT K H a xs ∧ SqT K H b ys ∧ (xs.length ≤ i ∨ ys.length ≤ i)⟩
theorem turn_zip {P : Program} {w : World} {K : PySem.W.Frag} {elts : List Expr} {kk : Nat} {pos : Pos} (a b z p r j1 j2 : Addr) (D : Apart z p r j1 j2 a b) :
  Turn P w K (.Tuple elts kk pos) (Itz K a b) [z, p, r, j1, j2] z (fun i h => IsZip h z p r .none ∧ IsPair h p (.ref j1) (.ref j2) ∧ (∃ u v, IsPair h r u v) ∧ h.IsTupleIter j1 a i ∧ h.IsTupleIter j2 b i) where
 mem := by simp
 obj := fun i h st c hc => by
  obtain ⟨hz, hp, ⟨u, v, hr⟩, ⟨o1, e1, _, d1⟩, ⟨o2, e2, _, d2⟩⟩ := st
  simp only [List.mem_cons, List.not_mem_nil, or_false] at hc
  rcases hc with rfl | rfl | rfl | rfl | rfl
  ·exact ⟨_, hz, fun v z => by have z' : Data.fields _ = Data.cell v := z; cases z'⟩
  ·exact ⟨_, hp, fun v z => by have z' : Data.seq _ _ = Data.cell v := z; cases z'⟩
  ·exact ⟨_, hr, fun v z => by have z' : Data.seq _ _ = Data.cell v := z; cases z'⟩
  ·exact ⟨o1, e1, fun v z => by rw [d1] at z; cases z⟩
  ·exact ⟨o2, e2, fun v z => by rw [d2] at z; cases z⟩
 keep := fun i h h' st k => by
  obtain ⟨hz, hp, ⟨u, v, hr⟩, h1, h2⟩ := st
  exact ⟨k z (by simp) _ hz, k p (by simp) _ hp, ⟨u, v, k r (by simp) _ hr⟩, itAt h1 fun o e => k j1 (by simp) o e, itAt h2 fun o e => k j2 (by simp) o e⟩
 item := by
  intro X hP hw hK hc i pins s σ H E I hf st hg
  subst hP hw hK
  obtain ⟨hz, hp, ⟨u, v, hr⟩, h1, h2⟩ := st
  obtain ⟨xs, ys, x, y, hxs, hys, hx, hy⟩ := hg
  obtain ⟨its, rv, pl, _⟩ := I.tuple hxs
  obtain ⟨its2, rv2, pl2, _⟩ := I.tuple hys
  obtain ⟨vx, ex, rx⟩ := rv.get hx
  obtain ⟨vy, ey, ry⟩ := rv2.get hy
  have hT : s.TypeIs (.ref z) "zip" := ⟨_, hz, rfl⟩
  have n0 : H s.heap.objs.size = none := I.hok.fresh (Nat.le_refl _)
  unfold pyNext
  refine wpAny_bind (wpAny_attempt (wpAny_callSpecial?_slot (name := Str.ofString "__next__") hT F.slot_zip_next (wpAny_call_entry F.slot_zip_next hT F.entry_zip_next
   (zipT_item D hz hp hr h1 h2 pl pl2 (by simpa using ex) (by simpa using ey) fun g a1 a2 a3 a4 a5 a6 a7 => wpAny_pure ?_) (F.args_zip_next_1 _))))
  refine ⟨_, rfl, ?_⟩
  refine wpAny_letOwnedTupleGo_zip a1 fun g2 b1 b2 => ?_
  have zl : z < s.heap.objs.size := Heap.lt_size hz
  have lt : ∀ c ∈ [z, p, r, j1, j2], c < s.heap.objs.size := fun c hc => by
   simp only [List.mem_cons, List.not_mem_nil, or_false] at hc
   obtain ⟨_, q1, _⟩ := h1
   obtain ⟨_, q2, _⟩ := h2
   rcases hc with rfl | rfl | rfl | rfl | rfl
   ·exact zl
   ·exact Heap.lt_size hp
   ·exact Heap.lt_size hr
   ·exact Heap.lt_size q1
   ·exact Heap.lt_size q2
  refine ⟨.ref s.heap.objs.size, upd H s.heap.objs.size (.tup [x, y]), ?_, rfl, ⟨_, x, y, n0, rfl, rfl, fun zs hzs => by rw [I.tuple_inj hzs hxs]; exact hx, fun zs hzs => by rw [I.tuple_inj hzs hys]; exact hy⟩, ⟨b1, ?_, ⟨vx, vy, ?_⟩, ?_, ?_⟩, fun c hc => ?_⟩
  ·refine I.turnedNew (t' := s.toks) (ch := [z, r, j1, j2]) (fun c o hc e => ?_) (fun c hc => hf c ?_) (Nat.le_refl _) ⟨by show 2 ≤ sizeLine; decide, [vx, vy], .cons rx (.cons ry .nil), ?_⟩
   ·simp only [List.mem_cons, List.not_mem_nil, or_false, not_or] at hc
    exact b2.extBut _ _ hc.1 (a7 c o hc.1 hc.2.1 hc.2.2.1 hc.2.2.2 e)
   ·simp only [List.mem_cons, List.not_mem_nil, or_false] at hc ⊢
    rcases hc with rfl | rfl | rfl | rfl <;> simp
   ·exact ⟨_, b2.extBut _ _ (Nat.ne_of_gt zl) a5, rfl, 0, rfl⟩
  ·exact b2.extBut _ _ D.pz (a7 _ _ D.pz D.pr D.pj1 D.pj2 hp)
  ·exact b2.extBut _ _ D.rz a2
  ·exact a3.extBut b2.extBut D.j1z
  ·exact a4.extBut b2.extBut D.j2z
  ·rw [upd_ne (Nat.ne_of_lt (lt c hc))]
   exact (hf c hc).1
 done := by
  intro X hP hw hK hc i pins s σ H E I hf st hg
  subst hP hw hK
  obtain ⟨hz, hp, ⟨u, v, hr⟩, h1, h2⟩ := st
  obtain ⟨xs, ys, hxs, hys, he⟩ := hg
  obtain ⟨its, rv, pl, _⟩ := I.tuple hxs
  obtain ⟨its2, rv2, pl2, _⟩ := I.tuple hys
  have l1 := rv.length
  have l2 := rv2.length
  have hend : its.toArray[i]? = none ∨ its2.toArray[i]? = none := he.imp (fun e => by simp; omega) (fun e => by simp; omega)
  have hT : s.TypeIs (.ref z) "zip" := ⟨_, hz, rfl⟩
  unfold pyNext
  refine wpAny_bind (wpAny_attempt (wpAny_callSpecial?_slot (name := Str.ofString "__next__") hT F.slot_zip_next (wpAny_call_entry F.slot_zip_next hT F.entry_zip_next
   (zipT_end (I.ok.hd hc) D hz hp hr h1 h2 pl pl2 hend fun g e kk he => ?_) (F.args_zip_next_1 _))))
  obtain ⟨o, ho, hcl⟩ := he
  refine wpAny_bind (wpAny_isInstance (T := "StopIteration") (b := true) ⟨o, ho, hcl⟩ isSubtype_stop ?_)
  refine wpAny_pure ⟨rfl, I.turnedAll (t' := s.toks) (ch := [z, r, j1, j2]) (fun c o hc e => ?_) (fun c hc => hf c ?_)⟩
  ·simp only [List.mem_cons, List.not_mem_nil, or_false, not_or] at hc
   exact kk c o hc.1 hc.2.1 hc.2.2.1 hc.2.2.2 e
  ·simp only [List.mem_cons, List.not_mem_nil, or_false] at hc ⊢
   rcases hc with rfl | rfl | rfl | rfl <;> simp
 self := fun _ _ _ _ _ st h => wpAny_pyIter_zip st.1 h
abbrev zH1 (h : Heap) (a : Addr) : Heap := h.push { cls := .type "tuple_iterator", data := .fields #[.ref a, .int 0 0] }
abbrev zH2 (h : Heap) (a b : Addr) : Heap := (zH1 h a).push { cls := .type "tuple_iterator", data := .fields #[.ref b, .int 0 0] }
abbrev zH3 (h : Heap) (a b : Addr) : Heap := (zH2 h a b).push { cls := .type "tuple", data := .seq #[.ref h.objs.size, .ref (zH1 h a).objs.size] }
abbrev zH4 (h : Heap) (a b : Addr) : Heap := (zH3 h a b).push { cls := .type "tuple", data := .seq #[.none, .none] }
abbrev zH5 (h : Heap) (a b : Addr) : Heap := (zH4 h a b).push { cls := .type "zip", data := .fields #[.none, .bool false, .bool false, .ref (zH2 h a b).objs.size, .ref (zH3 h a b).objs.size] }
theorem zipT_new (a b : Addr) (vs ws : Array Value) :
  Meets (Builtin.«zip.__new__» ⟨[.type "zip", .ref a, .ref b], []⟩) (fun _ R s => s.heap.IsTuple a vs ∧ s.heap.IsTuple b ws ∧ R (.ok (.ret (.ref (zH4 s.heap a b).objs.size))) { s with heap := zH5 s.heap a b }) :=
 .of_wp fun prog w A R s h => by
  obtain ⟨hp, g, d, tk, os⟩ := s; obtain ⟨la, lb, h⟩ := h
  have hsub := sub_zip
  have L1 : Heap.IsTuple (Shared.heap ⟨hp, g, d, tk, os⟩) a vs := la
  have L2 : Heap.IsTuple (Shared.heap ⟨hp.push { cls := .type "tuple_iterator", data := .fields #[.ref a, .int 0 0] }, g, d, tk, os⟩) b ws := Heap.IsTuple.push lb _
  wp_walk using wpAny_pyIter_tuple L1, wpAny_pyIter_tuple L2
  exact ⟨_, rfl, h⟩
theorem call_zipT {prog : Program} {w : World} {A : Around} {E : Value → Shared → Prop} {s : Shared} {a b : Addr} {vs ws : Array Value} {Q : Value → Shared → Prop} (la : s.heap.IsTuple a vs) (lb : s.heap.IsTuple b ws)
  (q : ∀ h', IsZip h' (s.heap.objs.size + 4) (s.heap.objs.size + 2) (s.heap.objs.size + 3) .none → IsPair h' (s.heap.objs.size + 2) (.ref s.heap.objs.size) (.ref (s.heap.objs.size + 1)) →
   IsPair h' (s.heap.objs.size + 3) .none .none → h'.IsTupleIter s.heap.objs.size a 0 → h'.IsTupleIter (s.heap.objs.size + 1) b 0 → (∀ c o, s.heap.get? c = some o → h'.get? c = some o) → Q (.ref (s.heap.objs.size + 4)) { s with heap := h' }) :
  wpAny (model prog w) A (call (.type "zip") [.ref a, .ref b]) Q E s := by
 refine callType_new F.called_zip (by decide) (F.typeCall_zip_2 _ _) (F.newCall_zip_2 _ _) (fun obj => F.args_object_init_3 obj _ _) F.entry_zip_new (zipT_new a b vs ws) ⟨la, lb, ?_⟩
 have z1 : (zH1 s.heap a).objs.size = s.heap.objs.size + 1 := Heap.size_push ..
 have z2 : (zH2 s.heap a b).objs.size = s.heap.objs.size + 2 := by rw [Heap.size_push, z1]
 have z3 : (zH3 s.heap a b).objs.size = s.heap.objs.size + 3 := by rw [Heap.size_push, z2]
 have z4 : (zH4 s.heap a b).objs.size = s.heap.objs.size + 4 := by rw [Heap.size_push, z3]
 have g5 : (zH5 s.heap a b).get? (zH4 s.heap a b).objs.size = some _ := Heap.get?_push_size _ rfl
 have g4 : (zH5 s.heap a b).get? (zH3 s.heap a b).objs.size = some _ := Heap.get?_push_of_some _ (Heap.get?_push_size _ rfl)
 have g3 : (zH5 s.heap a b).get? (zH2 s.heap a b).objs.size = some _ := Heap.get?_push_of_some _ (Heap.get?_push_of_some _ (Heap.get?_push_size _ rfl))
 have g2 : (zH5 s.heap a b).get? (zH1 s.heap a).objs.size = some _ := Heap.get?_push_of_some _ (Heap.get?_push_of_some _ (Heap.get?_push_of_some _ (Heap.get?_push_size _ rfl)))
 have g1 : (zH5 s.heap a b).get? s.heap.objs.size = some _ := Heap.get?_push_of_some _ (Heap.get?_push_of_some _ (Heap.get?_push_of_some _ (Heap.get?_push_of_some _ (Heap.get?_push_size _ rfl))))
 show _ ∧ _
 rw [z2, z3, z4] at g5
 rw [z1, z2] at g3
 rw [z3] at g4
 rw [z1] at g2
 rw [z4]
 exact ⟨⟨_, g5, rfl⟩, q _ g5 g3 g4 ⟨_, g1, rfl, rfl⟩ ⟨_, g2, rfl, rfl⟩ fun c o x => Heap.get?_push_of_some _ (Heap.get?_push_of_some _ (Heap.get?_push_of_some _ (Heap.get?_push_of_some _ (Heap.get?_push_of_some _ x))))⟩
theorem apart_new {n a b : Addr} (ha : a < n) (hb : b < n) : Apart (n + 4) (n + 2) (n + 3) n (n + 1) a b := by
 have ne : ∀ i j : Nat, i ≠ j → (Nat.add n i : Addr) ≠ Nat.add n j := fun i j h e => h (Nat.add_left_cancel e)
 have lo : ∀ (c : Addr) (i : Nat), c < n → c ≠ Nat.add n i := fun c i h => Nat.ne_of_lt (Nat.lt_of_lt_of_le h (Nat.le_add_right n i))
 exact ⟨ne 2 4 (by decide), ne 3 4 (by decide), ne 0 4 (by decide), ne 1 4 (by decide), ne 2 3 (by decide), ne 2 0 (by decide), ne 2 1 (by decide), ne 3 0 (by decide), ne 3 1 (by decide), ne 0 1 (by decide),
  lo a 4 ha, lo a 3 ha, lo a 0 ha, lo a 1 ha, lo b 4 hb, lo b 3 hb, lo b 0 hb, lo b 1 hb⟩
section
variable {X: Cx}{elts: List Expr}{kk: Nat}{tpos: Pos}
def iZip (K : PySem.W.Frag) (ta : TA) : TI := fun σ H R => ta σ H fun vs H1 => ∃ a b xs ys, vs = [.ref a, .ref b] ∧ SqT K H1 a xs ∧ SqT K H1 b ys ∧ R (Itz K a b) H1
theorem pi_zip {a b : Expr} {ta : TA} {p pos : Pos} (hg : Gl X "zip") (hm : X.mg "zip" = none) (ha : PA X [a, b] ta) (hs : starEach [a, b] X.env = [(false, eval a X.env), (false, eval b X.env)] := by rfl) (hs2 : starEach [b] X.env = [(false, eval b X.env)] := by rfl) :
  PI X (.Tuple elts kk tpos) (.Call (.Name "zip" p) [a, b] [] pos) (iZip X.K ta) := by
 refine .mk ?_
 intro pins s σ H R I h
 refine Call_ (ld_blt I hg hm boot_zip (PyProof.Rows.callWith_type1 (thn (ha pos pins s σ H _ I h) fun us s1 ⟨vs, H1, I1, r1, q1⟩ => ?_) (by rw [hs, hs2]) (by rw [hs2]; rfl)))
 obtain ⟨u1, u2, xs, ys, e, hx, hy, q⟩ := q1
 subst e
 cases r1 with
 | cons r rr =>
  cases rr with
  | cons r' rr =>
   cases rr
   cases r
   cases r'
   obtain ⟨its, rv, pl, _⟩ := I1.tuple hx
   obtain ⟨its2, rv2, pl2, _⟩ := I1.tuple hy
   obtain ⟨o1, e1, _⟩ := id pl
   obtain ⟨o2, e2, _⟩ := id pl2
   refine call_zipT pl pl2 fun h' hz hp hr j1 j2 k => ?_
   refine wpAny_pyIter_zip hz ?_
   refine ⟨s1.heap.objs.size + 4, [s1.heap.objs.size + 4, s1.heap.objs.size + 2, s1.heap.objs.size + 3, s1.heap.objs.size, s1.heap.objs.size + 1], _, _, H1, rfl, I1.kept (t' := s1.toks) k, turn_zip u1 u2 _ _ _ _ _ (apart_new (Heap.lt_size e1) (Heap.lt_size e2)), ⟨hz, hp, ⟨_, _, hr⟩, j1, j2⟩, fun c hc => ?_, q⟩
   have hc' : s1.heap.objs.size ≤ c := by
    simp only [List.mem_cons, List.not_mem_nil, or_false] at hc
    rcases hc with rfl | rfl | rfl | rfl | rfl <;> first | exact Nat.le_refl _ | exact Nat.le_add_right _ _
   exact I1.fpOk hc' (I1.hok.fresh hc')
end
end L2
set_option Elab.async false
set_option linter.all false
set_option maxRecDepth 100000
namespace L2
open PySem PySem.Spec PyProof.Rows PySem.W PySem.Calls PySem.Builtin PySem.Builtin.ObjectAttr PySem.Builtin.Getset_descriptor
end L2
set_option Elab.async false
set_option linter.all false
set_option maxRecDepth 100000
namespace L2
open PySem PySem.Spec PyProof.Rows
theorem compTurn_set (elt target iter : Expr) (ifs : List Expr) (scope : Scope) (pos : Pos) (it acc : Value) (env : Env) :
  compTurn (.SetComp elt [⟨target, iter, ifs, 0⟩] scope pos) 0 it acc env = (do
   standAt iter.pos
   match ← pyNext it with
   | none => pure (.done .next)
   | some v =>
    letOwnedTupleGo target it v
    assign target env v
    let mut ok := true
    for c in ifs do
     if ok then ok ← isTrue c env (eval c env)
    if ok then
     (do let v ← eval elt env; standAt elt.pos; let _ ← call (.builtin "set.add") [acc, v])
    again (.compLoop (.SetComp elt [⟨target, iter, ifs, 0⟩] scope pos) 0 it acc env)) := by rfl
theorem codeAny_compStart_set {prog : Program} {w : World} {A : Around} {R : Result → Shared → Prop} {s : Shared} {elt target iter ifs rest scope pos it acc env}
  (h0 : codeAny (model prog w) A (.compLoop (.SetComp elt (⟨target, iter, ifs, 0⟩ :: rest) scope pos) 0 it acc env) R s)
  (h : wpAny (model prog w) A (pyIter it) (fun it' s' => codeAny (model prog w) A (.compLoop (.SetComp elt (⟨target, iter, ifs, 0⟩ :: rest) scope pos) 0 it' acc env) R s')
   (notedBy (model prog w) A env fun x s' => R (.error x) s') s) :
  codeAny (model prog w) A (.compStart (.SetComp elt (⟨target, iter, ifs, 0⟩ :: rest) scope pos) 0 it acc env) R s := by
 refine codeAny_of_tree ?_
 show wpAny _ _ ((compStart (.SetComp elt (⟨target, iter, ifs, 0⟩ :: rest) scope pos) 0 it acc env).onRaise (fun x => do noteFrame x env; standAt theWindowsPlace)) _ _ s
 refine wpAny_notedAt ?_
 unfold compStart
 show wpAny _ _ (ask >>= _) _ _ s
 refine wpAny_bind (wpAny_askSetting (wpAny_ite ?_))
 split
 ·first
   | exact wpAny_bind (wpAny_pure (wpAny_pure (And.intro rfl h0)))
   | exact wpAny_pure (And.intro rfl h0)
 ·first
   | exact wpAny_bind (wpAny_rule (wpAny_bind (wpAny_standAt (wpAny_bind (wpAny_mono h (fun it' s' h' => wpAny_pure (And.intro rfl h')) fun _ _ x => x)))))
   | (refine wpAny_bind (wpAny_rule ?_); show wpAny _ _ (standAt iter.pos >>= _) _ _ s; exact wpAny_bind (wpAny_standAt (wpAny_bind (wpAny_mono h (fun it' s' h' => wpAny_pure (And.intro rfl h')) fun _ _ x => x))))
theorem compLoop_set {prog : Program} {w : World} {A : Around} {R : Result → Shared → Prop} {s : Shared} {elt target iter : Expr} {scope : Scope} {pos : Pos} {it acc : Value} {env : Env} (I : Nat → Shared → Prop)
  (turn : ∀ n s, I n s → wpAny (model prog w) A (pyNext it) (fun r s₁ => match r with
   | none => R (.ok .next) s₁
   | some v => wpAny (model prog w) A (letOwnedTupleGo target it v) (fun _ s₁' => wpAny (model prog w) A (assign target env v) (fun _ s₂ =>
      wpAny (model prog w) A (eval elt env) (fun x s₄ =>
       wpAny (model prog w) A (call (.builtin "set.add") [acc, x]) (fun _ s₅ => ∃ m, m < n ∧ I m s₅) (notedBy (model prog w) A env fun e s' => R (.error e) s') s₄) (notedBy (model prog w) A env fun e s' => R (.error e) s') s₂) (notedBy (model prog w) A env fun e s' => R (.error e) s') s₁') (notedBy (model prog w) A env fun e s' => R (.error e) s') s₁) (notedBy (model prog w) A env fun e s' => R (.error e) s') s)
  (n : Nat) (h : I n s) :
  codeAny (model prog w) A (.compLoop (.SetComp elt [⟨target, iter, [], 0⟩] scope pos) 0 it acc env) R s := by
 refine codeAny_loop rfl I (fun n s hI => ?_) n h
 show wpAny _ A ((compTurn (.SetComp elt [⟨target, iter, [], 0⟩] scope pos) 0 it acc env).onRaise (fun x => do noteFrame x env; theTreesLotGoes x)) _ _ s
 refine wpAny_noted ?_
 rw [compTurn_set]
 refine wpAny_bind (wpAny_standAt (wpAny_bind (wpAny_mono (turn n s hI) (fun r s₁ h₁ => ?_) fun _ _ h' => h')))
 cases r with
 | none => exact wpAny_pure h₁
 | some v =>
  refine wpAny_bind (wpAny_mono h₁ (fun _ s₁' h₁' => ?_) fun _ _ h' => h')
  refine wpAny_bind (wpAny_mono h₁' (fun _ s₂ h₂ => wpAny_bind (wpAny_tests_nil ?_)) fun _ _ h' => h')
  refine wpAny_bind (wpAny_bind (wpAny_mono h₂ (fun x s₄ h₄ => wpAny_bind (wpAny_standAt (wpAny_bind (wpAny_mono h₄ (fun _ s₅ h₅ => wpAny_pure (wpAny_pure ⟨rfl, h₅⟩)) fun _ _ h' => h')))) fun _ _ h' => h'))
def setAt (P : Program) (w : World) (a : Addr) (S : Str → Bool) (n : Nat) : Heap → Prop := fun h => h.SetOf (strKind P w) a S n
theorem setAt_ok {P : Program} {w : World} {H : Hp} {h : Heap} {a : Addr} {S : Str → Bool} {n : Nat} (q : h.SetOf (strKind P w) a S n) : ObjOk P w H h a (.ext (setAt P w a S n)) := by
 refine ⟨q, ?_, fun h1 h2 q1 k => ?_⟩
 ·obtain ⟨o, _, _, _, e, _⟩ := q
  exact ⟨o, e⟩
 ·obtain ⟨o, es, ep, t, e, r⟩ := q1
  exact ⟨o, es, ep, t, k o e, r⟩
section
variable {X: Cx}{pins: List (Addr × Obj)}{σ: St}{H: Hp}{s: Shared}{scope: Scope}{cl: List (Str × Addr)}{own: List Str}{cap: List (Nat × Str)}{fp: List Addr}{E: Value → Shared → Prop}
theorem comp_invX {o : HO} (c : CompOk X scope cl own cap) (I : Inv X pins σ H s) (hf : ∀ b ∈ fp, FpOk X pins H b) (hlt : ∀ b ∈ fp, b < s.heap.objs.size) {h₁ : Heap} {tk : Nat} {m : Str → Option Value}
  (hk : ∀ b o, s.heap.get? b = some o → h₁.get? b = some o) (hnew : ObjOk X.prog X.w (upd H s.heap.objs.size o) h₁ s.heap.objs.size o) (hn : h₁.Ns (s.heap.objs.size + 1) m) :
  Inv (compCx X (own ++ cap.map (·.2)) scope cl (s.heap.objs.size + 1) s H fp E) [] (compSt own cap σ) (upd H s.heap.objs.size o) { s with heap := h₁, toks := tk } := by
 have hfr : H s.heap.objs.size = none := I.fresh
 have hfr1 : H (s.heap.objs.size + 1) = none := I.hok.fresh (Nat.le_succ _)
 refine ⟨comp_ok c I hf hlt (Nat.le_succ _), rfl, I.bare, Un.laid hk (Nat.le_refl _) hfr, ⟨m, hn, fun i x v e1 e2 _ => ?_⟩, fun x a e => ?_, ?_, fun x a e => ?_, fun p hp => absurd (show p ∈ ([] : List (Addr × Obj)) from hp) (by simp), I.hok.laid hk (Nat.le_refl _) hnew, ?_⟩
 ·obtain ⟨p, hp, ex, es⟩ := compSt_get e1 e2
  obtain ⟨q1, q2, q3, q4, q5⟩ := c.caps p hp
  rw [ex] at q1 q2 q3 q4 q5
  obtain ⟨m', hn', hl⟩ := I.loc
  obtain ⟨u, r, l⟩ := hl p.1 x v q1 es q2
  refine ⟨u, r, ?_⟩
  rcases l with l | ⟨k, a, e, z⟩
  ·exact absurd l.1 q3
  ·obtain ⟨a', e'⟩ := c.hasX x q5
   have ea := c.sub x a' e'
   rw [e] at ea
   cases ea
   exact .inr ⟨q5, a, e', z.keeps hk⟩
 ·obtain ⟨v, z⟩ := I.cell x a (c.sub x a e)
  exact ⟨v, z.keeps hk⟩
 ·show upd H s.heap.objs.size o (s.heap.objs.size + 1) = none
  rw [upd_ne (Nat.succ_ne_self _)]
  exact hfr1
 ·obtain ⟨v, z⟩ := I.cell x a (c.sub x a e)
  show upd H s.heap.objs.size o a = none
  rw [upd_ne (Nat.ne_of_lt z.lt)]
  exact I.freeC x a (c.sub x a e)
 ·show (compSt own cap σ).length = (own ++ cap.map (·.2)).length
  simp [compSt]
end
def more (S : Str → Bool) (n : Nat) (k : Str) : Nat := if S k then n else n + 1
def tSetC (P : Program) (w : World) (wi : TI) (g : TG) (te : TE) (own : List Str) (cap : List (Nat × Str)) : TE := fun σ H Q => wi σ H fun J H1 => ∀ D, H1 D = none →
 ∃ W : Nat → Nat → St → (Str → Bool) → Nat → Hp → Prop, (∃ m, W 0 m (compSt own cap σ) (fun _ => false) 0 (upd H1 D (.ext (setAt P w D (fun _ => false) 0)))) ∧ ∀ i m σ' S n H', W i m σ' S n H' → H' D = some (.ext (setAt P w D S n)) ∧
  ((J.stop i H' ∧ Q (.ref D) H') ∨ (J.go i H' ∧ n < 1000 ∧ ∃ N : St → (Str → Bool) → Nat → Hp → Prop, (∀ σ S n H, N σ S n H → ∃ m', m' < m ∧ W (i + 1) m' σ S n H) ∧ ∀ x H2, J.yld i H' x H2 → g x σ' H2 fun σ3 H3 => te σ3 H3 fun y H5 => ∃ k, y = .str k ∧ H5 D = some (.ext (setAt P w D S n)) ∧
   N σ3 (fun k' => S k' || decide (k' = k)) (more S n k) (upd H5 D (.ext (setAt P w D (fun k' => S k' || decide (k' = k)) (more S n k))))))
section
variable {X: Cx}{scope: Scope}{cl: List (Str × Addr)}{own: List Str}{cap: List (Nat × Str)}{tg iter elt: Expr}{wi: TI}{g: TG}{te: TE}{pos: Pos}
theorem pe_setc (c : CompOk X scope cl own cap) (hc : X.calm = true) (hi : PI X tg iter wi)
  (hg : ∀ C s H fp, PG (compCx X (own ++ cap.map (·.2)) scope cl C s H fp fun _ _ => False) tg g)
  (he : ∀ C s H fp, PE (compCx X (own ++ cap.map (·.2)) scope cl C s H fp fun _ _ => False) elt te) (hs : ∀ x, foldedSetIterable iter X.env x = pure x := by intro _; rfl) :
  PE X (.SetComp elt [⟨tg, iter, [], 0⟩] scope pos) (tSetC X.prog X.w wi g te own cap) := by
 refine .mk ?_
 intro pins s σ H Q I h
 show wpAny _ X.A (comprehension (.SetComp elt [⟨tg, iter, [], 0⟩] scope pos) scope X.env _ (newSet (.type "set")) false (eval iter X.env)) _ _ s
 refine wpAny_comprehension_free (use := none) rfl hs c.clos c.kind c.names (thn (hi pins s σ H _ I h) fun v s1 h1 => thn h1 fun itv s2 h2 => ?_)
 obtain ⟨it, fp, tn, J, H2, e, I2, T, st2, f2, hw⟩ := h2
 subst e
 refine wpAny_newSet_of (knd := strKind X.prog X.w) fun led hS => wpAny_newFunctionEnv c.cell (by intro y hy; simp at hy) (fun h₁ hns₁ hsb₁ => ?_) c.kind
 dsimp only at hns₁ hsb₁ ⊢
 generalize hO : ({ cls := .type "set", dict := none, data := .set #[] 0 (.fresh 0 0 led) } : Obj) = O at hS hns₁ hsb₁ ⊢
 have hsz : (s2.heap.push O).objs.size = s2.heap.objs.size + 1 := Heap.size_push _ _
 have kk : ∀ b o, s2.heap.get? b = some o → h₁.get? b = some o := fun b o e => hsb₁.extBut b o (by rw [hsz]; exact Nat.ne_of_lt (Nat.lt_succ_of_lt (Heap.lt_size e))) (Heap.get?_push_of_some _ (Heap.get?_push_of_some _ e))
 have hS1 : h₁.SetOf (strKind X.prog X.w) s2.heap.objs.size (fun _ => false) 0 := by
  obtain ⟨o, es, ep, t, e, r⟩ := hS
  exact ⟨o, es, ep, t, hsb₁.extBut _ _ (by rw [hsz]; exact Nat.ne_of_lt (Nat.lt_succ_self _)) (Heap.get?_push_of_some _ e), r⟩
 rw [hsz] at hns₁ ⊢
 have hlt : ∀ b ∈ fp, b < s2.heap.objs.size := fun b hb => by
  obtain ⟨o, e, _⟩ := T.obj _ _ st2 b hb
  exact Heap.lt_size e
 obtain ⟨W, ⟨m0, w0⟩, turn⟩ := hw s2.heap.objs.size I2.fresh
 have J1 := comp_invX (E := fun _ _ => False) c I2 f2 hlt (tk := s2.toks + ([] : List (Str × Value)).length) kk (setAt_ok hS1) hns₁
 generalize hX' : compCx X (own ++ cap.map (·.2)) scope cl (s2.heap.objs.size + 1) s2 H2 fp (fun _ _ => False) = X' at J1
 have hg' : PG X' tg g := hX' ▸ hg _ _ _ _
 have he' : PE X' elt te := hX' ▸ he _ _ _ _
 have pX : X'.prog = X.prog := by rw [← hX']; rfl
 have wX : X'.w = X.w := by rw [← hX']; rfl
 have kX : X'.K = X.K := by rw [← hX']; rfl
 have aX : X'.A = X.A := by rw [← hX']; rfl
 have cX : X'.calm = true := by rw [← hX']; exact hc
 have nX : X'.env = compEnvC scope cl (s2.heap.objs.size + 1) X.env := by rw [← hX']; rfl
 have xX : X'.xe = fun _ _ => False := by rw [← hX']; rfl
 have fX : ∀ b ∈ fp, ∀ {H' : Hp}, H' b = none → FpOk X' [] H' b := fun b hb {H'} hn => by
  have o1 := (comp_ok (E := fun _ _ => False) c I2 f2 hlt (C := s2.heap.objs.size + 1) (Nat.le_succ _)).exf b hb
  have o2 := (comp_ok (E := fun _ _ => False) c I2 f2 hlt (C := s2.heap.objs.size + 1) (Nat.le_succ _)).exfs b hb
  rw [← hX']
  exact ⟨hn, o1.1, o2, .inl hb, o1.2, fun p hp => absurd (show p ∈ ([] : List (Addr × Obj)) from hp) (by simp)⟩
 have hRR : ∀ D C s' H' m, Inv X pins σ H' s' → FpOk X pins H' C → s'.heap.Ns C m → Q (.ref D) H' → compPost (model X.prog X.w) X.A X.xe none (EP X pins σ Q) (.ref D) C (.ok .next) s' := by
  intro D C s' H' m I' hC hm q
  refine ⟨m, hm, fun h' hs' => ⟨.ref D, H', ?_, rfl, q⟩⟩
  exact I'.turned (t' := s'.toks) (fun b o hb e => (hs'.2 b hb).trans e) hC.1 hC.2.1 hC.2.2.2.1 hC.2.2.2.2.1 hC.2.2.2.2.2
 have fin : ∀ {σ' : St} {H' : Hp} {s' : Shared}, Inv X' [] σ' H' s' → Q (.ref s2.heap.objs.size) H' → compPost (model X.prog X.w) X.A X.xe none (EP X pins σ Q) (.ref s2.heap.objs.size) (s2.heap.objs.size + 1) (.ok .next) s' := fun {σ' H' s'} J' q => by
  rw [← hX'] at J'
  obtain ⟨A1, A2⟩ := comp_after I2 f2 (Nat.le_succ _) J'
  obtain ⟨m, hm, _⟩ := J'.loc
  exact hRR _ _ s' H' m A1 A2 hm q
 have loop : codeAny (model X.prog X.w) X.A (.compLoop (.SetComp elt [⟨tg, iter, [], 0⟩] scope pos) 0 (.ref it) (.ref s2.heap.objs.size) (compEnvC scope cl (s2.heap.objs.size + 1) X.env)) (compPost (model X.prog X.w) X.A X.xe none (EP X pins σ Q) (.ref s2.heap.objs.size) (s2.heap.objs.size + 1))
   { s2 with heap := h₁, toks := s2.toks + ([] : List (Str × Value)).length } := by
  refine compLoop_set (fun n s' => ∃ i σ' S z H', Inv X' [] σ' H' s' ∧ tn i s'.heap ∧ (∀ b ∈ fp, H' b = none) ∧ W i n σ' S z H') ?_ m0
   ⟨0, _, _, 0, _, J1, T.keep _ _ _ st2 fun b _ o e => kk b o e, fun b hb => by rw [upd_ne (Nat.ne_of_lt (hlt b hb))]; exact (f2 b hb).1, w0⟩
  rintro n s3 ⟨i, σ3, S, z, H3, I3, st3, fr3, w3⟩
  obtain ⟨hDl, w4⟩ := turn i n σ3 S z H3 w3
  rw [← nX, ← aX, ← pX, ← wX]
  have nox : ∀ {α : Type} {t : Sem α} {Q1 : α → Shared → Prop} {E1 : Value → Shared → Prop} {s : Shared}, wpAny (model X'.prog X'.w) X'.A t Q1 X'.xe s → wpAny (model X'.prog X'.w) X'.A t Q1 E1 s := fun {α t Q1 E1 s} h => by
   rw [xX] at h
   exact wpAny_mono h (fun _ _ q => q) fun _ _ f => f.elim
  rcases w4 with ⟨stop, qn⟩ | ⟨go, hz, N, hN, step⟩
  ·have d := T.done X' pX wX kX cX i [] s3 σ3 H3 X'.xe I3 (fun b hb => fX b hb (fr3 b hb)) st3 stop
   rw [← pX, ← wX] at d
   refine nox (thn d fun r s4 ⟨hr, I4⟩ => ?_)
   subst hr
   have f4 := fin I4 qn
   rw [← pX, ← wX, ← aX] at f4
   exact f4
  ·have d := T.item X' pX wX kX cX i [] s3 σ3 H3 X'.xe I3 (fun b hb => fX b hb (fr3 b hb)) st3 go
   rw [← pX, ← wX] at d
   refine nox (thn d fun r s4 ⟨u, hr, h4⟩ => ?_)
   subst hr
   refine nox (thn h4 fun _ s5 ⟨x, H5, I5, r5, y5, st5, fr5⟩ => ?_)
   have I5' := I5.pinned (fun b hb => fX b hb (fr5 b hb)) (T.obj _ _ st5)
   have again : ∀ {σ7 : St} {H7 : Hp} {s7 : Shared} {S' : Str → Bool} {z' : Nat}, Inv X' ([] ++ pinsAt fp s5.heap) σ7 H7 s7 → N σ7 S' z' H7 →
     ∃ m, m < n ∧ ∃ i σ' S z H', Inv X' [] σ' H' s7 ∧ tn i s7.heap ∧ (∀ b ∈ fp, H' b = none) ∧ W i m σ' S z H' := fun {σ7 H7 s7 S' z'} I7 n7 => by
    obtain ⟨m', hm, w7⟩ := hN _ _ _ _ n7
    refine ⟨m', hm, i + 1, σ7, S', z', H7, I7.unpinned, T.keep _ _ _ st5 fun b hb o e => (I7.pin (b, o) (List.mem_append_right _ (List.mem_append_right _ (mem_pinsAt hb e)))).1, fun b hb => ?_, w7⟩
    obtain ⟨o, e, d⟩ := T.obj _ _ st5 b hb
    exact (I7.pin (b, o) (List.mem_append_right _ (List.mem_append_right _ (mem_pinsAt hb e)))).2.1
   refine nox (thn (hg' _ s5 σ3 H5 x u _ I5' r5 (step x H5 y5)) fun _ s6 ⟨σ6, H6, I6, q6⟩ => ?_)
   refine nox (thn (he' _ s6 σ6 H6 _ I6 q6) fun u8 s8 ⟨y8, H8, I8, r8, k8, e8, d8, q8⟩ => ?_)
   subst e8
   obtain ⟨t8, rfl⟩ := r8
   have ok8 := (I8.hok _ _ d8).1
   have ok9 : s8.heap.SetOf (strKind X'.prog X'.w) s2.heap.objs.size S z := by rw [pX, wX]; exact ok8
   refine nox (call_set_add (k := k8) (knd := strKind X'.prog X'.w) (by show Value.isStrOf k8 (.str k8 t8) = true; simp [Value.isStrOf]) rfl ok9 (Nat.lt_of_le_of_lt (Nat.succ_le_of_lt hz) (by decide)) fun h' hsb hS' => ?_)
   refine again (I8.write (x := s2.heap.objs.size) (e := s2.heap.objs.size) (o := .ext (setAt X.prog X.w s2.heap.objs.size (fun k' => S k' || decide (k' = k8)) (more S z k8))) (by rw [d8]; exact trivial) (.inl rfl) (fun b' u hb hu => (hsb.2 b' hb).trans hu) ?_ ?_) q8
   ·obtain ⟨o, _, _, _, e, _⟩ := hS'
    exact ⟨o, e⟩
   ·rw [← pX, ← wX]
    exact setAt_ok hS'
 exact codeAny_compStart_set loop (T.self X.A 0 _ _ _ (T.keep _ _ _ st2 fun b _ o e => kk b o e) loop)
theorem call_lenS : CallR X (.builtin "len") (fun xs H Q => ∃ (p : Addr) (S : Str → Bool) (n : Nat), xs = [.ref p] ∧ H p = some (.ext (setAt X.prog X.w p S n)) ∧ Q (.int n) H) := by
 intro pins s σ H vs us Q I rv h
 obtain ⟨p, S, n, rfl, hp, q⟩ := h
 obtain ⟨u, rfl, ru⟩ := rv.one
 cases ru
 obtain ⟨o, es, ep, t, e, ex, d, hel, hm, hb, hf, hn⟩ := (I.hok p _ hp).1
 have hb' : es.size < 4096 := hb
 exact call_len_set e ex d hf (by omega) ⟨.int n, H, I.tok _, ⟨s.toks + 1, by rw [hn]⟩, q⟩
end
end L2
set_option Elab.async false
set_option linter.all false
set_option maxRecDepth 100000
namespace L2
open PySem PySem.Spec PyProof.Rows
end L2
set_option Elab.async false
set_option linter.all false
set_option maxRecDepth 100000
namespace L2
open PySem PySem.Spec PyProof.Rows
end L2
set_option Elab.async false
set_option linter.all false
set_option maxRecDepth 100000
namespace L2
open PySem PySem.Spec PyProof.Rows
end L2
set_option Elab.async false
set_option linter.all false
set_option maxRecDepth 100000
namespace L2
open PySem PySem.Spec PyProof.Rows
end L2
set_option Elab.async false
set_option linter.all false
set_option maxRecDepth 100000
namespace L2
open PySem PySem.Spec PyProof.Rows
end L2
set_option Elab.async false
set_option linter.all false
set_option maxRecDepth 100000
namespace L2
open PySem PySem.Spec PyProof.Rows
end L2
namespace L2
open PySem PySem.Spec PyProof.Rows
end L2
set_option Elab.async false
set_option linter.all false
set_option maxRecDepth 100000
namespace L2
open PySem PySem.Spec PyProof.Rows
def LamT (H : Hp) (P : Addr) (q : Str) (pos : Pos) : Prop := H P = some (.tbl #[]) ∨ ∃ (c' : Addr) (oc : Obj) (vs : Array Value) (t : Tok) (u : HO),
 H P = some (.tbl #[rawInt pos.line, rawInt pos.col, .ref c']) ∧ H c' = some (.frz oc u) ∧ oc.data = .fields vs ∧ vs[1]? = some (.str q t)
end L2
set_option Elab.async false
set_option linter.all false
set_option maxRecDepth 100000
namespace L2
open PySem PySem.Spec PyProof.Rows
end L2
set_option Elab.async false
set_option linter.all false
set_option maxRecDepth 100000
namespace L3
open PySem PySem.Spec L2
open PyProof.Rows hiding St
inductive T where
 | non | bl (b : Bool) | int (i : Int) | str (z : Str) | tup (ts : List T) | ref (a : Addr) | ty (n : String)
 /-- a list that nobody changes (the script) -/
 | scr (K : PySem.W.Frag) (a : Addr) (ts : List T)
def SqC (K : PySem.W.Frag) (H : Hp) (a : Addr) (vs : List V) : Prop := (∃ o, H a = some (.frz o (.lst vs))) ∨
 ∃ (o : Obj) (its : Array Value) (n : Nat), K.lookup a = some o ∧ o.cls = .type "list" ∧ o.dict = none ∧ o.data = .seq its n ∧ its.size ≤ sizeLine ∧ Vals vs its.toList
inductive O where
 | lst (ts : List T)
 | ins (C dx : Addr) (fs : List (Str × T))
 | own (x : Addr)
 | dK (kvs : List (Key × T))
 | ext (φ : Heap → Prop)
 /-- the table of a def that makes a lambda -/
 | lam (q : Str) (pos : Pos)
abbrev Gp := Addr → Option O
def up (Γ : Gp) (a : Addr) (o : O) : Gp := fun b => if b = a then some o else Γ b
theorem up_same {Γ : Gp} {a : Addr} {o : O} : up Γ a o a = some o := by unfold up; rw [if_pos rfl]
theorem up_ne {Γ : Gp} {a b : Addr} {o : O} (h : b ≠ a) : up Γ a o b = Γ b := by unfold up; rw [if_neg h]
theorem up_up {Γ : Gp} {a : Addr} {o u : O} : up (up Γ a o) a u = up Γ a u := by
 funext b; unfold up; split <;> rfl
theorem gnn {Γ : Gp} {a b : Addr} {o : O} (h : Γ a = some o) (h' : Γ b = none) : a ≠ b := by
 intro e; subst e; rw [h] at h'; cases h'
mutual
def R (H : Hp) : V → T → Prop
 | v, .non => v = .non
 | v, .bl b => v = .bl b
 | v, .int i => v = .int i
 | v, .str z => v = .str z
 | v, .ref a => v = .ref a
 | v, .ty n => v = .ty n
 | v, .tup ts => ∃ a vs, v = .ref a ∧ H a = some (.tup vs) ∧ Rs H vs ts
 | v, .scr K a ts => v = .ref a ∧ ∃ vs, SqC K H a vs ∧ Rs H vs ts
def Rs (H : Hp) : List V → List T → Prop
 | vs, [] => vs = []
 | vs, t :: r => ∃ v ws, vs = v :: ws ∧ R H v t ∧ Rs H ws r
end
def Tq (H H' : Hp) : Prop := (∀ a vs, H a = some (.tup vs) → H' a = some (.tup vs)) ∧ ∀ a o u, H a = some (.frz o u) → H' a = some (.frz o u)
section
variable {H H': Hp}
theorem Tq.refl : Tq H H := ⟨fun _ _ h => h, fun _ _ _ h => h⟩
theorem Tq.trans {H1 : Hp} (a : Tq H H1) (b : Tq H1 H') : Tq H H' := ⟨fun x vs h => b.1 x vs (a.1 x vs h), fun x o u h => b.2 x o u (a.2 x o u h)⟩
theorem SqC.mono (t : Tq H H') {K : PySem.W.Frag} {a : Addr} {vs : List V} (h : SqC K H a vs) : SqC K H' a vs := by
 rcases h with ⟨o, h⟩ | h
 ·exact .inl ⟨o, t.2 _ _ _ h⟩
 ·exact .inr h
mutual
theorem R.mono (t : Tq H H') : ∀ {x : T} {v : V}, R H v x → R H' v x
 | .non, v, h => by unfold R at h ⊢; exact h
 | .bl _, v, h => by unfold R at h ⊢; exact h
 | .int _, v, h => by unfold R at h ⊢; exact h
 | .str _, v, h => by unfold R at h ⊢; exact h
 | .ref _, v, h => by unfold R at h ⊢; exact h
 | .ty _, v, h => by unfold R at h ⊢; exact h
 | .tup ts, v, h => by
  unfold R at h ⊢
  obtain ⟨a, vs, e, s, q⟩ := h
  exact ⟨a, vs, e, t.1 a vs s, Rs.mono t q⟩
 | .scr K a ts, v, h => by
  unfold R at h ⊢
  obtain ⟨e, vs, s, q⟩ := h
  exact ⟨e, vs, s.mono t, Rs.mono t q⟩
theorem Rs.mono (t : Tq H H') : ∀ {xs : List T} {vs : List V}, Rs H vs xs → Rs H' vs xs
 | [], vs, h => by unfold Rs at h ⊢; exact h
 | x :: r, vs, h => by
  unfold Rs at h ⊢
  obtain ⟨v, ws, e, p, q⟩ := h
  exact ⟨v, ws, e, R.mono t p, Rs.mono t q⟩
end
theorem Rs.length : ∀ {xs : List T} {vs : List V}, Rs H vs xs → vs.length = xs.length
 | [], vs, h => by unfold Rs at h; subst h; rfl
 | x :: r, vs, h => by
  unfold Rs at h
  obtain ⟨v, ws, e, _, q⟩ := h
  rw [e, List.length_cons, List.length_cons, Rs.length q]
theorem Rs.get : ∀ {xs : List T} {vs : List V} {i : Nat} {x : T}, Rs H vs xs → xs[i]? = some x → ∃ v, vs[i]? = some v ∧ R H v x
 | [], vs, i, x, h, e => by simp at e
 | y :: r, vs, i, x, h, e => by
  unfold Rs at h
  obtain ⟨v, ws, e1, p, q⟩ := h
  subst e1
  cases i with
  | zero => cases e; exact ⟨v, rfl, p⟩
  | succ i => exact Rs.get (i := i) q e
theorem Rs.getV {xs : List T} {vs : List V} {i : Nat} {v : V} (h : Rs H vs xs) (e : vs[i]? = some v) : ∃ x, xs[i]? = some x ∧ R H v x := by
 have hl := h.length
 obtain ⟨hi, _⟩ := List.getElem?_eq_some_iff.mp e
 have hi' : i < xs.length := by omega
 obtain ⟨v', e', r⟩ := h.get (i := i) (x := xs[i]) (by simp [hi'])
 rw [e] at e'; cases e'
 exact ⟨xs[i], by simp [hi'], r⟩
theorem Rs.app : ∀ {xs ys : List T} {vs ws : List V}, Rs H vs xs → Rs H ws ys → Rs H (vs ++ ws) (xs ++ ys)
 | [], ys, vs, ws, h, h' => by unfold Rs at h; subst h; exact h'
 | x :: r, ys, vs, ws, h, h' => by
  unfold Rs at h
  obtain ⟨v, us, e, p, q⟩ := h
  subst e
  show Rs H (v :: (us ++ ws)) (x :: (r ++ ys))
  unfold Rs
  exact ⟨v, _, rfl, p, Rs.app q h'⟩
theorem rs_nil : Rs H [] [] := by unfold Rs; rfl
theorem rs_cons {v : V} {x : T} {vs : List V} {xs : List T} (a : R H v x) (b : Rs H vs xs) : Rs H (v :: vs) (x :: xs) := by
 unfold Rs; exact ⟨v, vs, rfl, a, b⟩
theorem rs_inv {vs : List V} {x : T} {xs : List T} (h : Rs H vs (x :: xs)) : ∃ v ws, vs = v :: ws ∧ R H v x ∧ Rs H ws xs := by unfold Rs at h; exact h
theorem rs_inv0 {vs : List V} (h : Rs H vs []) : vs = [] := by unfold Rs at h; exact h
theorem Rs.set : ∀ {xs : List T} {vs : List V} {v : V} {x : T} (n : Nat), Rs H vs xs → R H v x → Rs H (vs.set n v) (xs.set n x)
 | [], vs, v, x, n, h, p => by rw [rs_inv0 h]; exact rs_nil
 | y :: r, vs, v, x, 0, h, p => by
  obtain ⟨u, ws, e, _, q⟩ := rs_inv h
  subst e
  exact rs_cons p q
 | y :: r, vs, v, x, n + 1, h, p => by
  obtain ⟨u, ws, e, p', q⟩ := rs_inv h
  subst e
  exact rs_cons p' (Rs.set n q p)
end
def Fs (H : Hp) : List (Str × V) → List (Str × T) → Prop := Paired fun (p : Str × V) (q : Str × T) => p.1 = q.1 ∧ R H p.2 q.2
def Ks (H : Hp) : List (Key × V) → List (Key × T) → Prop := Paired fun (p : Key × V) (q : Key × T) => p.1 = q.1 ∧ R H p.2 q.2
theorem paired_imp {α β : Type} {P Q : α → β → Prop} (h : ∀ a b, P a b → Q a b) : ∀ {xs : List α} {ys : List β}, Paired P xs ys → Paired Q xs ys
 | _, _, .nil => .nil
 | _, _, .cons a b => .cons (h _ _ a) (paired_imp h b)
theorem Fs.mono {H H' : Hp} (t : Tq H H') {a : List (Str × V)} {b : List (Str × T)} (h : Fs H a b) : Fs H' a b := paired_imp (fun _ _ q => ⟨q.1, q.2.mono t⟩) h
theorem Ks.mono {H H' : Hp} (t : Tq H H') {a : List (Key × V)} {b : List (Key × T)} (h : Ks H a b) : Ks H' a b := paired_imp (fun _ _ q => ⟨q.1, q.2.mono t⟩) h
def Ho (H : Hp) (a : Addr) : O → Prop
 | .lst ts => ∃ vs, H a = some (.lst vs) ∧ Rs H vs ts
 | .ins C dx fs => ∃ gs, H a = some (.ins C dx gs) ∧ Fs H gs fs
 | .own x => H a = some (.own x)
 | .dK kvs => ∃ us, H a = some (.dK us) ∧ Ks H us kvs
 | .ext φ => H a = some (.ext φ)
 | .lam q pos => LamT H a q pos
def HR (H : Hp) (Γ : Gp) : Prop := ∀ a o, Γ a = some o → Ho H a o
structure Stp (H : Hp) (Γ : Gp) (H' : Hp) (Γ' : Gp) : Prop where
 tq : Tq H H'
 dom : ∀ a, H a ≠ none → H' a ≠ none
 new : ∀ a, H a ≠ none → Γ a = none → Γ' a = none
 frm : ∀ a o, H a = some o → Γ a = none → H' a = some o
section
variable {H H' H1: Hp}{Γ Γ' Γ1: Gp}
theorem Stp.refl : Stp H Γ H Γ := ⟨.refl, fun _ h => h, fun _ _ h => h, fun _ _ h _ => h⟩
theorem Stp.trans (a : Stp H Γ H1 Γ1) (b : Stp H1 Γ1 H' Γ') : Stp H Γ H' Γ' :=
 ⟨a.tq.trans b.tq, fun x h => b.dom x (a.dom x h), fun x h g => b.new x (a.dom x h) (a.new x h g), fun x o h g => b.frm x o (a.frm x o h g) (a.new x (by rw [h]; exact fun z => (nomatch z)) g)⟩
theorem Ho.mono {a : Addr} {o : O} (t : Tq H H') (e : ∀ u, H a = some u → H' a = some u) (h : Ho H a o) : Ho H' a o := by
 cases o with
 | lst ts => obtain ⟨vs, h, r⟩ := h; exact ⟨vs, e _ h, r.mono t⟩
 | ins C dx fs => obtain ⟨vs, h, r⟩ := h; exact ⟨vs, e _ h, r.mono t⟩
 | own x => exact e _ h
 | dK kvs => obtain ⟨vs, h, r⟩ := h; exact ⟨vs, e _ h, r.mono t⟩
 | ext φ => exact e _ h
 | lam q pos =>
  rcases h with h | ⟨c', oc, vs, t', u, h1, h2, h3⟩
  ·exact .inl (e _ h)
  ·exact .inr ⟨c', oc, vs, t', u, e _ h1, t.2 _ _ _ h2, h3⟩
theorem Ho.some {a : Addr} {o : O} (h : Ho H a o) : ∃ u, H a = some u ∧ (∀ vs : List V, u ≠ .tup vs) ∧ ∀ b w, u ≠ .frz b w := by
 cases o with
 | lst ts => obtain ⟨vs, h, r⟩ := h; exact ⟨_, h, ⟨fun _ z => (nomatch z), fun _ _ z => (nomatch z)⟩⟩
 | ins C dx fs => obtain ⟨vs, h, r⟩ := h; exact ⟨_, h, ⟨fun _ z => (nomatch z), fun _ _ z => (nomatch z)⟩⟩
 | own x => exact ⟨_, h, ⟨fun _ z => (nomatch z), fun _ _ z => (nomatch z)⟩⟩
 | dK kvs => obtain ⟨vs, h, r⟩ := h; exact ⟨_, h, ⟨fun _ z => (nomatch z), fun _ _ z => (nomatch z)⟩⟩
 | ext φ => exact ⟨_, h, ⟨fun _ z => (nomatch z), fun _ _ z => (nomatch z)⟩⟩
 | lam q pos =>
  rcases h with h | ⟨c', oc, vs, t', u, h, _⟩
  ·exact ⟨_, h, ⟨fun _ z => (nomatch z), fun _ _ z => (nomatch z)⟩⟩
  ·exact ⟨_, h, ⟨fun _ z => (nomatch z), fun _ _ z => (nomatch z)⟩⟩
theorem HR.free (h : HR H Γ) {a : Addr} (n : H a = none) : Γ a = none := by
 cases e : Γ a with
 | none => rfl
 | some o =>
  obtain ⟨u, hu, _⟩ := (h a o e).some
  rw [n] at hu; cases hu
theorem tq_kp (k : ∀ b o, H b = some o → H' b = some o) : Tq H H' := ⟨fun a vs h => k _ _ h, fun a o u h => k _ _ h⟩
theorem Stp.keep (k : ∀ b o, H b = some o → H' b = some o) : Stp H Γ H' Γ :=
 ⟨tq_kp k, fun a h z => by
  cases e : H a with
  | none => exact h e
  | some o => exact (by rw [k a o e] at z; cases z), fun _ _ h => h, fun a o h _ => k a o h⟩
theorem HR.keep (h : HR H Γ) (k : ∀ b o, H b = some o → H' b = some o) : HR H' Γ := fun a o e => (h a o e).mono (tq_kp k) (k a)
theorem keep_new {p : Addr} {o : HO} (h : H p = none) : ∀ b u, H b = some u → upd H p o b = some u := fun b u q => by rw [upd_ne (ne_of_none q h)]; exact q
theorem Stp.make {p : Addr} {o : HO} {o3 : O} (h : H p = none) : Stp H Γ (upd H p o) (up Γ p o3) := by
 refine ⟨tq_kp (keep_new h), fun a q z => ?_, fun a q g => ?_, fun a u q _ => keep_new h a u q⟩
 ·by_cases e : a = p
  ·subst e; exact q h
  ·rw [upd_ne e] at z; exact q z
 ·have e : a ≠ p := fun e => q (by rw [e]; exact h)
  rw [up_ne e]; exact g
theorem HR.make (hr : HR H Γ) {p : Addr} {o : HO} {o3 : O} (h : H p = none) (k : Ho (upd H p o) p o3) : HR (upd H p o) (up Γ p o3) := fun a u e => by
 by_cases z : a = p
 ·subst z; rw [up_same] at e; cases e; exact k
 ·rw [up_ne z] at e
  exact (hr a u e).mono (tq_kp (keep_new h)) fun _ q => by rw [upd_ne z]; exact q
theorem tq_set {a : Addr} {o u : HO} (h : H a = some u) (n : (∀ vs : List V, u ≠ .tup vs) ∧ ∀ b w, u ≠ .frz b w) : Tq H (upd H a o) := ⟨fun x vs q => by
 have : x ≠ a := fun e => by subst e; rw [h] at q; exact n.1 vs (Option.some.inj q)
 rw [upd_ne this]; exact q, fun x b w q => by
 have : x ≠ a := fun e => by subst e; rw [h] at q; exact n.2 b w (Option.some.inj q)
 rw [upd_ne this]; exact q⟩
theorem Stp.set {a : Addr} {o : HO} {o2 o3 : O} (hr : HR H Γ) (g : Γ a = some o2) : Stp H Γ (upd H a o) (up Γ a o3) := by
 obtain ⟨u, hu, n⟩ := (hr a o2 g).some
 refine ⟨tq_set hu n, fun x q z => ?_, fun x q g' => ?_, fun x w q g' => ?_⟩
 ·by_cases e : x = a
  ·subst e; rw [upd_same] at z; cases z
  ·rw [upd_ne e] at z; exact q z
 ·have e : x ≠ a := fun e => by subst e; rw [g] at g'; cases g'
  rw [up_ne e]; exact g'
 ·have e : x ≠ a := fun e => by subst e; rw [g] at g'; cases g'
  rw [upd_ne e]; exact q
theorem HR.set {a : Addr} {o : HO} {o2 o3 : O} (hr : HR H Γ) (g : Γ a = some o2) (k : Ho (upd H a o) a o3) : HR (upd H a o) (up Γ a o3) := fun x u e => by
 obtain ⟨w, hw, n⟩ := (hr a o2 g).some
 by_cases z : x = a
 ·subst z; rw [up_same] at e; cases e; exact k
 ·rw [up_ne z] at e
  exact (hr x u e).mono (tq_set hw n) fun _ q => by rw [upd_ne z]; exact q
theorem HR.hide {a : Addr} {o u : HO} (hr : HR H Γ) (g : Γ a = none) (h : H a = some u) (n : (∀ vs : List V, u ≠ .tup vs) ∧ ∀ b w, u ≠ .frz b w) : HR (upd H a o) Γ := fun x w e => by
 have z : x ≠ a := fun z => by subst z; rw [g] at e; cases e
 exact (hr x w e).mono (tq_set h n) fun _ q => by rw [upd_ne z]; exact q
end
abbrev S3 := List (Option T)
abbrev X3 := S3 → Value → Gp → Prop
abbrev K3 := T → Gp → Prop
abbrev E3 := X3 → S3 → Gp → K3 → Prop
abbrev T3 := X3 → S3 → Gp → (Bool → Gp → Prop) → Prop
abbrev A3 := X3 → S3 → Gp → (List T → Gp → Prop) → Prop
structure D3 where
 nx : S3 → Gp → Prop
 rt : K3
 bk : S3 → Gp → Prop := fun _ _ => False
 ct : S3 → Gp → Prop := fun _ _ => False
abbrev C3 := X3 → D3 → S3 → Gp → Prop
def RO1 (H : Hp) : Option V → Option T → Prop
 | _, none => True
 | some v, some x => R H v x
 | none, some _ => False
def RS (H : Hp) : St → S3 → Prop
 | [], [] => True
 | v :: r, x :: q => RO1 H v x ∧ RS H r q
 | _, _ => False
section
variable {H H': Hp}{Γ Γ': Gp}
theorem RO1.mono (t : Tq H H') {v : Option V} {x : Option T} (h : RO1 H v x) : RO1 H' v x := by
 cases x with
 | none => exact trivial
 | some x => cases v with
  | none => exact h.elim
  | some v => exact R.mono t h
theorem RS.mono (t : Tq H H') : ∀ {σ : St} {τ : S3}, RS H σ τ → RS H' σ τ
 | [], [], _ => trivial
 | _ :: _, _ :: _, h => ⟨h.1.mono t, RS.mono t h.2⟩
 | [], _ :: _, h => h.elim
 | _ :: _, [], h => h.elim
theorem RS.get : ∀ {σ : St} {τ : S3} {i : Nat} {x : T}, RS H σ τ → τ[i]? = some (some x) → ∃ v, σ[i]? = some (some v) ∧ R H v x
 | [], [], i, x, _, e => by simp at e
 | v :: r, y :: q, i, x, h, e => by
  cases i with
  | zero =>
   cases e
   cases v with
   | none => exact h.1.elim
   | some v => exact ⟨v, rfl, h.1⟩
  | succ i => exact RS.get (i := i) h.2 e
 | [], _ :: _, _, _, h, _ => h.elim
 | _ :: _, [], _, _, h, _ => h.elim
theorem RS.set {v : V} {x : T} (r : R H v x) : ∀ {σ : St} {τ : S3} (i : Nat), RS H σ τ → RS H (σ.set i (some v)) (τ.set i (some x))
 | [], [], _, _ => trivial
 | _ :: _, _ :: _, 0, h => ⟨r, h.2⟩
 | _ :: _, _ :: _, i + 1, h => ⟨h.1, RS.set r i h.2⟩
 | [], _ :: _, _, h => h.elim
 | _ :: _, [], _, h => h.elim
def XR (H : Hp) (Γ : Gp) (Y : X3) (E : St → XK) : Prop := ∀ σ τ C H' Γ', Stp H Γ H' Γ' → HR H' Γ' → RS H' σ τ → Y τ C Γ' → E σ C none H'
theorem XR.mono {Y : X3} {E : St → XK} (x : XR H Γ Y E) (s : Stp H Γ H' Γ') : XR H' Γ' Y E := fun σ τ C H2 Γ2 s2 h2 r y => x σ τ C H2 Γ2 (s.trans s2) h2 r y
def VR (H : Hp) (Γ : Gp) (Z : K3) (Q : VK) : Prop := ∀ v x H' Γ', Stp H Γ H' Γ' → HR H' Γ' → R H' v x → Z x Γ' → Q v H'
theorem VR.mono {Z : K3} {Q : VK} (x : VR H Γ Z Q) (s : Stp H Γ H' Γ') : VR H' Γ' Z Q := fun v x' H2 Γ2 s2 h2 r y => x v x' H2 Γ2 (s.trans s2) h2 r y
def NR (H : Hp) (Γ : Gp) (Z : S3 → Gp → Prop) (Q : St → Hp → Prop) : Prop := ∀ σ τ H' Γ', Stp H Γ H' Γ' → HR H' Γ' → RS H' σ τ → Z τ Γ' → Q σ H'
theorem NR.mono {Z : S3 → Gp → Prop} {Q : St → Hp → Prop} (x : NR H Γ Z Q) (s : Stp H Γ H' Γ') : NR H' Γ' Z Q := fun v x' H2 Γ2 s2 h2 r y => x v x' H2 Γ2 (s.trans s2) h2 r y
structure DR (H : Hp) (Γ : Gp) (Z : D3) (Q : Ends) : Prop where
 nx : NR H Γ Z.nx Q.nx
 rt : VR H Γ Z.rt Q.rt
 bk : NR H Γ Z.bk Q.bk
 ct : NR H Γ Z.ct Q.ct
theorem DR.mono {Z : D3} {Q : Ends} (x : DR H Γ Z Q) (s : Stp H Γ H' Γ') : DR H' Γ' Z Q := ⟨x.nx.mono s, x.rt.mono s, x.bk.mono s, x.ct.mono s⟩
end
section
variable (E: St → XK)
def liE (t : E3) : TE := fun σ H Q => ∃ τ Γ Y Z, RS H σ τ ∧ HR H Γ ∧ t Y τ Γ Z ∧ VR H Γ Z Q ∧ XR H Γ Y E
def liT (t : T3) : TT := fun σ H Q => ∃ τ Γ Y Z, RS H σ τ ∧ HR H Γ ∧ t Y τ Γ Z ∧ (∀ b H' Γ', Stp H Γ H' Γ' → HR H' Γ' → Z b Γ' → Q b H') ∧ XR H Γ Y E
def liA (t : A3) : TA := fun σ H Q => ∃ τ Γ Y Z, RS H σ τ ∧ HR H Γ ∧ t Y τ Γ Z ∧ (∀ vs xs H' Γ', Stp H Γ H' Γ' → HR H' Γ' → Rs H' vs xs → Z xs Γ' → Q vs H') ∧ XR H Γ Y E
def liS (t : C3) : TS := fun D σ H => ∃ τ Γ Y Z, RS H σ τ ∧ HR H Γ ∧ t Y Z τ Γ ∧ DR H Γ Z D ∧ XR H Γ Y E
end
end L3
set_option Elab.async false
set_option linter.all false
set_option maxRecDepth 100000
namespace L3
open PySem PySem.Spec L2
open PyProof.Rows hiding St
section
variable {X: Cx}{E: St → XK}
theorem weakE {e : Expr} {t t' : TE} (h : PE X e t) (w : ∀ σ H Q, t' σ H Q → t σ H Q) : PE X e t' := ⟨fun pins s σ H Q I q => h.run pins s σ H Q I (w _ _ _ q)⟩
theorem weakT {e : Expr} {t t' : TT} (h : PT X e t) (w : ∀ σ H Q, t' σ H Q → t σ H Q) : PT X e t' := ⟨fun pins s σ H Q I q => h.run pins s σ H Q I (w _ _ _ q)⟩
theorem weakW {e : Expr} {t t' : TT} (h : PW X e t) (w : ∀ σ H Q, t' σ H Q → t σ H Q) : PW X e t' := ⟨fun wh pins s σ H Q I q => h.run wh pins s σ H Q I (w _ _ _ q)⟩
theorem weakA {e : List Expr} {t t' : TA} (h : PA X e t) (w : ∀ σ H Q, t' σ H Q → t σ H Q) : PA X e t' := ⟨fun pos pins s σ H Q I q => h.run pos pins s σ H Q I (w _ _ _ q)⟩
theorem weakS {e : Stmt} {t t' : TS} (h : PS X e t) (w : ∀ D σ H, t' D σ H → t D σ H) : PS X e t' := ⟨fun pins s σ H D I q => h.run pins s σ H D I (w _ _ _ q)⟩
theorem weakSs {e : List Stmt} {t t' : TS} (h : PSs X e t) (w : ∀ D σ H, t' D σ H → t D σ H) : PSs X e t' := ⟨fun pins s σ H D I q => h.run pins s σ H D I (w _ _ _ q)⟩
theorem weakG {e : Expr} {t t' : TG} (h : PG X e t) (w : ∀ v σ H Q, t' v σ H Q → t v σ H Q) : PG X e t' := ⟨fun pins s σ H v u Q I r q => h.run pins s σ H v u Q I r (w _ _ _ _ q)⟩
theorem weakGs {e : List Expr} {t t' : TGs} (h : PGs X e t) (w : ∀ v σ H Q, t' v σ H Q → t v σ H Q) : PGs X e t' := ⟨fun pins s σ H v u Q I r q => h.run pins s σ H v u Q I r (w _ _ _ _ q)⟩
theorem weakI {tg e : Expr} {t t' : TI} (h : PI X tg e t) (w : ∀ σ H Q, t' σ H Q → t σ H Q) : PI X tg e t' := ⟨fun pins s σ H Q I q => h.run pins s σ H Q I (w _ _ _ q)⟩
theorem weakTs {e : List Expr} {t t' : TT} (h : PTs X e t) (w : ∀ σ H Q, t' σ H Q → t σ H Q) : PTs X e t' := ⟨fun pins s σ H Q I q => h.run pins s σ H Q I (w _ _ _ q)⟩
theorem weakE3 {e : Expr} {t0 : TE} {t : E3} (h : PE X e t0) (w : ∀ σ H Q τ Γ Y Z, RS H σ τ → HR H Γ → t Y τ Γ Z → VR H Γ Z Q → XR H Γ Y E → t0 σ H Q) : PE X e (liE E t) :=
 weakE h (by rintro σ H Q ⟨τ, Γ, Y, Z, rs, hr, q, vr, xr⟩; exact w σ H Q τ Γ Y Z rs hr q vr xr)
theorem weakT3 {e : Expr} {t0 : TT} {t : T3} (h : PT X e t0) (w : ∀ σ H Q τ Γ Y Z, RS H σ τ → HR H Γ → t Y τ Γ Z → (∀ b H' Γ', Stp H Γ H' Γ' → HR H' Γ' → Z b Γ' → Q b H') → XR H Γ Y E → t0 σ H Q) : PT X e (liT E t) :=
 weakT h (by rintro σ H Q ⟨τ, Γ, Y, Z, rs, hr, q, vr, xr⟩; exact w σ H Q τ Γ Y Z rs hr q vr xr)
theorem weakW3 {e : Expr} {t0 : TT} {t : T3} (h : PW X e t0) (w : ∀ σ H Q τ Γ Y Z, RS H σ τ → HR H Γ → t Y τ Γ Z → (∀ b H' Γ', Stp H Γ H' Γ' → HR H' Γ' → Z b Γ' → Q b H') → XR H Γ Y E → t0 σ H Q) : PW X e (liT E t) :=
 weakW h (by rintro σ H Q ⟨τ, Γ, Y, Z, rs, hr, q, vr, xr⟩; exact w σ H Q τ Γ Y Z rs hr q vr xr)
theorem weakA3 {e : List Expr} {t0 : TA} {t : A3} (h : PA X e t0) (w : ∀ σ H Q τ Γ Y Z, RS H σ τ → HR H Γ → t Y τ Γ Z → (∀ vs xs H' Γ', Stp H Γ H' Γ' → HR H' Γ' → Rs H' vs xs → Z xs Γ' → Q vs H') → XR H Γ Y E → t0 σ H Q) : PA X e (liA E t) :=
 weakA h (by rintro σ H Q ⟨τ, Γ, Y, Z, rs, hr, q, vr, xr⟩; exact w σ H Q τ Γ Y Z rs hr q vr xr)
theorem weakTs3 {e : List Expr} {t0 : TT} {t : T3} (h : PTs X e t0) (w : ∀ σ H Q τ Γ Y Z, RS H σ τ → HR H Γ → t Y τ Γ Z → (∀ b H' Γ', Stp H Γ H' Γ' → HR H' Γ' → Z b Γ' → Q b H') → XR H Γ Y E → t0 σ H Q) : PTs X e (liT E t) :=
 weakTs h (by rintro σ H Q ⟨τ, Γ, Y, Z, rs, hr, q, vr, xr⟩; exact w σ H Q τ Γ Y Z rs hr q vr xr)
theorem weakS3 {e : Stmt} {t0 : TS} {t : C3} (h : PS X e t0) (w : ∀ D σ H τ Γ Y Z, RS H σ τ → HR H Γ → t Y Z τ Γ → DR H Γ Z D → XR H Γ Y E → t0 D σ H) : PS X e (liS E t) :=
 weakS h (by rintro D σ H ⟨τ, Γ, Y, Z, rs, hr, q, dr, xr⟩; exact w D σ H τ Γ Y Z rs hr q dr xr)
theorem weakSs3 {e : List Stmt} {t0 : TS} {t : C3} (h : PSs X e t0) (w : ∀ D σ H τ Γ Y Z, RS H σ τ → HR H Γ → t Y Z τ Γ → DR H Γ Z D → XR H Γ Y E → t0 D σ H) : PSs X e (liS E t) :=
 weakSs h (by rintro D σ H ⟨τ, Γ, Y, Z, rs, hr, q, dr, xr⟩; exact w D σ H τ Γ Y Z rs hr q dr xr)
section
variable {H: Hp}
theorem r_non : R H .non .non := by unfold R; rfl
theorem r_bl {b : Bool} : R H (.bl b) (.bl b) := by unfold R; rfl
theorem r_int {i : Int} : R H (.int i) (.int i) := by unfold R; rfl
theorem r_str {z : Str} : R H (.str z) (.str z) := by unfold R; rfl
theorem r_ref {a : Addr} : R H (.ref a) (.ref a) := by unfold R; rfl
theorem r_tup {a : Addr} {vs : List V} {ts : List T} (h : H a = some (.tup vs)) (r : Rs H vs ts) : R H (.ref a) (.tup ts) := by unfold R; exact ⟨a, vs, rfl, h, r⟩
theorem i_non {v : V} (h : R H v .non) : v = .non := by unfold R at h; exact h
theorem i_bl {v : V} {b : Bool} (h : R H v (.bl b)) : v = .bl b := by unfold R at h; exact h
theorem i_int {v : V} {b : Int} (h : R H v (.int b)) : v = .int b := by unfold R at h; exact h
theorem i_str {v : V} {b : Str} (h : R H v (.str b)) : v = .str b := by unfold R at h; exact h
theorem i_ref {v : V} {b : Addr} (h : R H v (.ref b)) : v = .ref b := by unfold R at h; exact h
theorem i_ty {v : V} {b : String} (h : R H v (.ty b)) : v = .ty b := by unfold R at h; exact h
theorem i_scr {K : PySem.W.Frag} {v : V} {a : Addr} {ts : List T} (h : R H v (.scr K a ts)) : v = .ref a ∧ ∃ vs, SqC K H a vs ∧ Rs H vs ts := by unfold R at h; exact h
theorem r_scr {K : PySem.W.Frag} {a : Addr} {vs : List V} {ts : List T} (h : SqC K H a vs) (q : Rs H vs ts) : R H (.ref a) (.scr K a ts) := by unfold R; exact ⟨rfl, vs, h, q⟩
theorem SqC.sq {K : PySem.W.Frag} {a : Addr} {vs : List V} (h : SqC K H a vs) : SqL K H a vs := by
 rcases h with ⟨o, h⟩ | h
 ·exact .inl (.inr ⟨o, h⟩)
 ·exact .inr h
theorem i_tup {v : V} {ts : List T} (h : R H v (.tup ts)) : ∃ a vs, v = .ref a ∧ H a = some (.tup vs) ∧ Rs H vs ts := by unfold R at h; exact h
end
def eVar (i : Nat) : E3 := fun _ τ Γ Z => ∃ x, τ[i]? = some (some x) ∧ Z x Γ
def eC (x : T) : E3 := fun _ _ Γ Z => Z x Γ
theorem qv (i : Nat) {x : Str} {pos : Pos} (hN : X.N[i]? = some x := by rfl) (hv : Vis X.env.scope x := by first | exact Or.inl rfl | exact Or.inr (Or.inl rfl) | exact Or.inr (Or.inr rfl)) (hd : (x == ("__debug__" : Str)) = false := by decide)
  (hcd : (x == ("__classdict__" : Str)) = false := by decide) : PE X (.Name x pos) (liE E (eVar i)) :=
 weakE3 (pe_var hN hv hd hcd) fun σ H Q τ Γ Y Z rs hr q0 vr xr => by
  obtain ⟨x, e, z⟩ := q0
  obtain ⟨v, hv, r⟩ := rs.get e
  exact ⟨v, hv, vr v x H Γ .refl hr r z⟩
theorem q_c {e : Expr} {v : V} {x : T} (h : PE X e (tC v)) (r : ∀ H, R H v x) : PE X e (liE E (eC x)) :=
 weakE3 h fun σ H Q τ Γ Y Z rs hr z vr xr => vr v x H Γ .refl hr (r H) z
theorem qe_int {i j pos} : PE X (.Constant (.int i) j pos) (liE E (eC (.int i))) := q_c pe_int fun _ => r_int
theorem qe_bl {b j pos} : PE X (.Constant (.bool b) j pos) (liE E (eC (.bl b))) := q_c pe_bl fun _ => r_bl
theorem qe_non {j pos} : PE X (.Constant .none j pos) (liE E (eC .non)) := q_c pe_non fun _ => r_non
theorem qe_str {x j pos} : PE X (.Constant (.str x) j pos) (liE E (eC (.str x))) := q_c pe_str fun _ => r_str
def GlobIs (u : Value) (x : T) : Prop := ∃ v, RelV v u ∧ ∀ H, R H v x
theorem qe_glob {x : Str} {t : T} {u : Value} {pos : Pos} (hg : Gl X x) (hm : X.mg x = some u) (r : GlobIs u t) (hd : (x == ("__debug__" : Str)) = false := by decide) : PE X (.Name x pos) (liE E (eC t)) := by
 obtain ⟨v, r, h⟩ := r
 exact q_c (pe_glob hg hm r hd) h
theorem gl_int {i : Int} {u : Value} (h : RelV (.int i) u) : GlobIs u (.int i) := ⟨_, h, fun _ => r_int⟩
theorem gl_str {i : Str} {u : Value} (h : RelV (.str i) u) : GlobIs u (.str i) := ⟨_, h, fun _ => r_str⟩
theorem gl_ref {i : Addr} : GlobIs (.ref i) (.ref i) := ⟨.ref i, rfl, fun _ => r_ref⟩
abbrev R3 := T → T → Gp → K3 → Prop
def OpQ (X : Cx) (f : Value → Value → Sem Value) (r3 : R3) : Prop := ∃ r : R2, OpR X f r ∧ ∀ x y a b H Γ Q Z, R H x a → R H y b → HR H Γ → r3 a b Γ Z → VR H Γ Z Q → r x y H Q
def eOp (r3 : R3) (ta tb : E3) : E3 := fun Y τ Γ Z => ta Y τ Γ fun x Γ1 => tb Y τ Γ1 fun y Γ2 => r3 x y Γ2 Z
theorem op_sim {r : R2} {r3 : R3} {ta tb : E3} (h : ∀ x y a b H Γ Q Z, R H x a → R H y b → HR H Γ → r3 a b Γ Z → VR H Γ Z Q → r x y H Q) (σ : St) (H : Hp) (Q : VK) (q : liE E (eOp r3 ta tb) σ H Q) : tOp r (liE E ta) (liE E tb) σ H Q := by
 obtain ⟨τ, Γ, Y, Z, rs, hr, t, vr, xr⟩ := q
 refine ⟨τ, Γ, Y, _, rs, hr, t, fun v x H1 Γ1 s1 h1 r1 z1 => ?_, xr⟩
 refine ⟨τ, Γ1, Y, _, rs.mono s1.tq, h1, z1, fun u y H2 Γ2 s2 h2 r2 z2 => ?_, xr.mono s1⟩
 exact h v u x y H2 Γ2 Q Z (r1.mono s2.tq) r2 h2 z2 (vr.mono (s1.trans s2))
section
variable {a b c: Expr}{ta tb tc: E3}{pos: Pos}{op op': CmpOp}{r3 r3': R3}
theorem qe_op {op : Operator} (ho : OpQ X (binaryOp op) r3) (ha : PE X a (liE E ta)) (hb : PE X b (liE E tb)) : PE X (.BinOp a op b pos) (liE E (eOp r3 ta tb)) := by
 obtain ⟨r, ho, h⟩ := ho
 exact weakE (pe_op ho ha hb) (op_sim h)
theorem qe_cmpR (ho : OpQ X (compareOp op) r3) (ha : PE X a (liE E ta)) (hb : PE X b (liE E tb)) (hm : behindInMarks op b = false) : PE X (.Compare a [op] [b] pos) (liE E (eOp r3 ta tb)) := by
 obtain ⟨r, ho, h⟩ := ho
 exact weakE (pe_cmpR ho ha hb hm) (op_sim h)
def eT (t : E3) : T3 := fun Y τ Γ Z => t Y τ Γ fun x Γ1 => ∃ k, x = .bl k ∧ Z k Γ1
theorem test_sim {t2 : TE} {t : E3} (h : ∀ σ H Q, liE E t σ H Q → t2 σ H Q) (σ : St) (H : Hp) (Q : Bool → Hp → Prop) (q : liT E (eT t) σ H Q) : tTest t2 σ H Q := by
 obtain ⟨τ, Γ, Y, Z, rs, hr, t, vr, xr⟩ := q
 refine h σ H _ ⟨τ, Γ, Y, _, rs, hr, t, fun v x H1 Γ1 s1 h1 r1 z1 => ?_, xr⟩
 obtain ⟨k, rfl, z⟩ := z1
 exact ⟨k, i_bl r1, vr k H1 Γ1 s1 h1 z⟩
theorem qt_cmpR (ho : OpQ X (compareOp op) r3) (ha : PE X a (liE E ta)) (hb : PE X b (liE E tb)) (hm : behindInMarks op b = false) : PT X (.Compare a [op] [b] pos) (liT E (eT (eOp r3 ta tb))) := by
 obtain ⟨r, ho, h⟩ := ho
 exact weakT (pt_cmpR ho ha hb hm) (test_sim (op_sim h))
def eChain (r r' : R3) (ta tb tc : E3) : E3 := fun Y τ Γ Z => ta Y τ Γ fun x Γ1 => tb Y τ Γ1 fun y Γ2 => r x y Γ2 fun z Γ3 => ∃ k, z = .bl k ∧ (if k = true then tc Y τ Γ3 fun w' Γ4 => r' y w' Γ4 Z else Z (.bl false) Γ3)
theorem chain_sim {r r' : R2} (h : ∀ x y a b H Γ Q Z, R H x a → R H y b → HR H Γ → r3 a b Γ Z → VR H Γ Z Q → r x y H Q) (h' : ∀ x y a b H Γ Q Z, R H x a → R H y b → HR H Γ → r3' a b Γ Z → VR H Γ Z Q → r' x y H Q)
  (σ : St) (H : Hp) (Q : VK) (q : liE E (eChain r3 r3' ta tb tc) σ H Q) : tChain r r' (liE E ta) (liE E tb) (liE E tc) σ H Q := by
 obtain ⟨τ, Γ, Y, Z, rs, hr, t, vr, xr⟩ := q
 refine ⟨τ, Γ, Y, _, rs, hr, t, fun v x H1 Γ1 s1 h1 r1 z1 => ?_, xr⟩
 refine ⟨τ, Γ1, Y, _, rs.mono s1.tq, h1, z1, fun u y H2 Γ2 s2 h2 r2 z2 => ?_, xr.mono s1⟩
 refine h v u x y H2 Γ2 _ _ (r1.mono s2.tq) r2 h2 z2 fun d z H3 Γ3 s3 h3 r3 z3 => ?_
 obtain ⟨k, rfl, z3⟩ := z3
 refine ⟨k, i_bl r3, ?_⟩
 cases k with
 | false => exact vr _ _ H3 Γ3 ((s1.trans s2).trans s3) h3 r_bl z3
 | true =>
  refine ⟨τ, Γ3, Y, _, rs.mono ((s1.trans s2).trans s3).tq, h3, z3, fun w' y' H4 Γ4 s4 h4 r4 z4 => ?_, xr.mono ((s1.trans s2).trans s3)⟩
  exact h' u w' y y' H4 Γ4 Q Z (r2.mono (s3.trans s4).tq) r4 h4 z4 (vr.mono (((s1.trans s2).trans s3).trans s4))
theorem qe_chain (ho : OpQ X (compareOp op) r3) (ho' : OpQ X (compareOp op') r3') (ha : PE X a (liE E ta)) (hb : PE X b (liE E tb)) (hc : PE X c (liE E tc)) (hm : lastMarks [op, op'] [b, c] = false := by with_unfolding_all rfl) :
  PE X (.Compare a [op, op'] [b, c] pos) (liE E (eChain r3 r3' ta tb tc)) := by
 obtain ⟨r, ho, h⟩ := ho
 obtain ⟨r', ho', h'⟩ := ho'
 exact weakE (pe_chain ho ho' ha hb hc hm) (chain_sim h h')
theorem qt_chain (ho : OpQ X (compareOp op) r3) (ho' : OpQ X (compareOp op') r3') (ha : PE X a (liE E ta)) (hb : PE X b (liE E tb)) (hc : PE X c (liE E tc)) (hm : lastMarks [op, op'] [b, c] = false := by with_unfolding_all rfl) :
  PT X (.Compare a [op, op'] [b, c] pos) (liT E (eT (eChain r3 r3' ta tb tc))) := by
 obtain ⟨r, ho, h⟩ := ho
 obtain ⟨r', ho', h'⟩ := ho'
 exact weakT (pt_chain ho ho' ha hb hc hm) (test_sim (chain_sim h h'))
def eAnd (ta tb : E3) : E3 := fun Y τ Γ Z => ta Y τ Γ fun x Γ1 => ∃ c, x = .bl c ∧ if c = true then tb Y τ Γ1 Z else Z (.bl false) Γ1
def eOr (ta tb : E3) : E3 := fun Y τ Γ Z => ta Y τ Γ fun x Γ1 => ∃ c, x = .bl c ∧ if c = true then Z (.bl true) Γ1 else tb Y τ Γ1 Z
def eNot (ta : E3) : E3 := fun Y τ Γ Z => ta Y τ Γ fun x Γ1 => ∃ c, x = .bl c ∧ Z (.bl (!c)) Γ1
theorem qe_one {op} (h : PE X a (liE E ta)) : PE X (.BoolOp op [a] pos) (liE E ta) := pe_one h
theorem qe_and {rest : List Expr} (ha : PE X a (liE E ta)) (hb : PE X (.BoolOp .And (b :: rest) pos) (liE E tb)) : PE X (.BoolOp .And (a :: b :: rest) pos) (liE E (eAnd ta tb)) :=
 weakE3 (pe_and ha hb) fun σ H Q τ Γ Y Z rs hr t vr xr => by
  refine ⟨τ, Γ, Y, _, rs, hr, t, fun v x H1 Γ1 s1 h1 r1 z1 => ?_, xr⟩
  obtain ⟨k, rfl, z1⟩ := z1
  refine ⟨k, i_bl r1, ?_⟩
  cases k with
  | false => exact vr _ _ H1 Γ1 s1 h1 r_bl z1
  | true => exact ⟨τ, Γ1, Y, Z, rs.mono s1.tq, h1, z1, vr.mono s1, xr.mono s1⟩
theorem qe_or {rest : List Expr} (ha : PE X a (liE E ta)) (hb : PE X (.BoolOp .Or (b :: rest) pos) (liE E tb)) : PE X (.BoolOp .Or (a :: b :: rest) pos) (liE E (eOr ta tb)) :=
 weakE3 (pe_or ha hb) fun σ H Q τ Γ Y Z rs hr t vr xr => by
  refine ⟨τ, Γ, Y, _, rs, hr, t, fun v x H1 Γ1 s1 h1 r1 z1 => ?_, xr⟩
  obtain ⟨k, rfl, z1⟩ := z1
  refine ⟨k, i_bl r1, ?_⟩
  cases k with
  | true => exact vr _ _ H1 Γ1 s1 h1 r_bl z1
  | false => exact ⟨τ, Γ1, Y, Z, rs.mono s1.tq, h1, z1, vr.mono s1, xr.mono s1⟩
theorem qe_not (ha : PE X a (liE E ta)) : PE X (.UnaryOp .Not a pos) (liE E (eNot ta)) :=
 weakE3 (pe_not ha) fun σ H Q τ Γ Y Z rs hr t vr xr => by
  refine ⟨τ, Γ, Y, _, rs, hr, t, fun v x H1 Γ1 s1 h1 r1 z1 => ?_, xr⟩
  obtain ⟨k, rfl, z1⟩ := z1
  exact ⟨k, i_bl r1, vr _ _ H1 Γ1 s1 h1 r_bl z1⟩
variable {tA tB: T3}
def bAnd (t u : T3) : T3 := fun Y τ Γ Z => t Y τ Γ fun c Γ1 => if c = true then u Y τ Γ1 Z else Z false Γ1
def bOr (t u : T3) : T3 := fun Y τ Γ Z => t Y τ Γ fun c Γ1 => if c = true then Z true Γ1 else u Y τ Γ1 Z
def bNot (t : T3) : T3 := fun Y τ Γ Z => t Y τ Γ fun c Γ1 => Z (!c) Γ1
theorem qw_and1 (ha : PT X a (liT E tA)) : PW X (.BoolOp .And [a] pos) (liT E tA) := pw_and1 ha
theorem qw_or1 (ha : PT X a (liT E tA)) : PW X (.BoolOp .Or [a] pos) (liT E tA) := pw_or1 ha
theorem qw_and {rest : List Expr} (ha : PT X a (liT E tA)) (hb : PW X (.BoolOp .And (b :: rest) pos) (liT E tB)) : PW X (.BoolOp .And (a :: b :: rest) pos) (liT E (bAnd tA tB)) :=
 weakW3 (pw_and ha hb) fun σ H Q τ Γ Y Z rs hr t vr xr => by
  refine ⟨τ, Γ, Y, _, rs, hr, t, fun k H1 Γ1 s1 h1 z1 => ?_, xr⟩
  cases k with
  | false => exact vr _ H1 Γ1 s1 h1 z1
  | true => exact ⟨τ, Γ1, Y, Z, rs.mono s1.tq, h1, z1, fun b H2 Γ2 s2 h2 z2 => vr b H2 Γ2 (s1.trans s2) h2 z2, xr.mono s1⟩
theorem qw_or {rest : List Expr} (ha : PT X a (liT E tA)) (hb : PW X (.BoolOp .Or (b :: rest) pos) (liT E tB)) : PW X (.BoolOp .Or (a :: b :: rest) pos) (liT E (bOr tA tB)) :=
 weakW3 (pw_or ha hb) fun σ H Q τ Γ Y Z rs hr t vr xr => by
  refine ⟨τ, Γ, Y, _, rs, hr, t, fun k H1 Γ1 s1 h1 z1 => ?_, xr⟩
  cases k with
  | true => exact vr _ H1 Γ1 s1 h1 z1
  | false => exact ⟨τ, Γ1, Y, Z, rs.mono s1.tq, h1, z1, fun b H2 Γ2 s2 h2 z2 => vr b H2 Γ2 (s1.trans s2) h2 z2, xr.mono s1⟩
theorem qt_not (ha : PT X a (liT E tA)) : PT X (.UnaryOp .Not a pos) (liT E (bNot tA)) :=
 weakT3 (pt_not ha) fun σ H Q τ Γ Y Z rs hr t vr xr => ⟨τ, Γ, Y, _, rs, hr, t, fun k H1 Γ1 s1 h1 z1 => vr _ H1 Γ1 s1 h1 z1, xr⟩
theorem qt_val {e : Expr} {t : E3} (h : PE X e (liE E t)) (he : ∀ whole, isTrue e X.env whole = (do let v ← whole; standAt e.pos; holding [v] (truthy v)) := by intro _; rfl) : PT X e (liT E (eT t)) :=
 weakT (pt_val h he) (test_sim (t2 := liE E t) fun _ _ _ q => q)
def eIf (c : T3) (ta tb : E3) : E3 := fun Y τ Γ Z => c Y τ Γ fun k Γ1 => if k = true then ta Y τ Γ1 Z else tb Y τ Γ1 Z
theorem qe_ifExp {c : Expr} (hc : PT X c (liT E tA)) (ha : PE X a (liE E ta)) (hb : PE X b (liE E tb)) : PE X (.IfExp c a b pos) (liE E (eIf tA ta tb)) :=
 weakE3 (pe_ifExp hc ha hb) fun σ H Q τ Γ Y Z rs hr t vr xr => by
  refine ⟨τ, Γ, Y, _, rs, hr, t, fun k H1 Γ1 s1 h1 z1 => ?_, xr⟩
  cases k with
  | true => exact ⟨τ, Γ1, Y, Z, rs.mono s1.tq, h1, z1, vr.mono s1, xr.mono s1⟩
  | false => exact ⟨τ, Γ1, Y, Z, rs.mono s1.tq, h1, z1, vr.mono s1, xr.mono s1⟩
end
section
variable {e: Expr}{es: List Expr}{te: E3}{t: A3}{pos: Pos}
def aNil : A3 := fun _ _ Γ Z => Z [] Γ
def aCons (ta : E3) (tr : A3) : A3 := fun Y τ Γ Z => ta Y τ Γ fun x Γ1 => tr Y τ Γ1 fun xs Γ2 => Z (x :: xs) Γ2
theorem qa_nil : PA X [] (liA E aNil) := weakA3 pa_nil fun σ H Q τ Γ Y Z rs hr t vr xr => vr [] [] H Γ .refl hr rs_nil t
theorem qa_cons (ha : PE X e (liE E te)) (hr : PA X es (liA E t)) (hs : starEach (e :: es) X.env = (false, eval e X.env) :: starEach es X.env := by rfl) : PA X (e :: es) (liA E (aCons te t)) :=
 weakA3 (pa_cons ha hr hs) fun σ H Q τ Γ Y Z rs hr t vr xr => by
  refine ⟨τ, Γ, Y, _, rs, hr, t, fun v x H1 Γ1 s1 h1 r1 z1 => ?_, xr⟩
  exact ⟨τ, Γ1, Y, _, rs.mono s1.tq, h1, z1, fun vs xs H2 Γ2 s2 h2 r2 z2 => vr (v :: vs) (x :: xs) H2 Γ2 (s1.trans s2) h2 (rs_cons (r1.mono s2.tq) r2) z2, xr.mono s1⟩
def eTup (t : A3) : E3 := fun Y τ Γ Z => t Y τ Γ fun xs Γ1 => xs.length ≤ sizeLine ∧ Z (.tup xs) Γ1
def eLst (t : A3) : E3 := fun Y τ Γ Z => t Y τ Γ fun xs Γ1 => xs.length ≤ sizeLine ∧ ∀ p, Γ1 p = none → Z (.ref p) (up Γ1 p (.lst xs))
theorem qe_tup {x1} (h : PA X es (liA E t)) : PE X (.Tuple es x1 pos) (liE E (eTup t)) :=
 weakE3 (pe_tup h) fun σ H Q τ Γ Y Z rs hr t vr xr => by
  refine ⟨τ, Γ, Y, _, rs, hr, t, fun vs xs H1 Γ1 s1 h1 r1 z1 => ?_, xr⟩
  refine ⟨by rw [r1.length]; exact z1.1, fun p hp => ?_⟩
  have k := keep_new (o := .tup vs) hp
  exact vr _ _ _ Γ1 (s1.trans (.keep k)) (h1.keep k) (r_tup upd_same (r1.mono (tq_kp k))) z1.2
theorem qe_lst (h : PA X es (liA E t)) : PE X (.List es pos) (liE E (eLst t)) :=
 weakE3 (pe_lst h) fun σ H Q τ Γ Y Z rs hr t vr xr => by
  refine ⟨τ, Γ, Y, _, rs, hr, t, fun vs xs H1 Γ1 s1 h1 r1 z1 => ?_, xr⟩
  refine ⟨by rw [r1.length]; exact z1.1, fun p hp => ?_⟩
  have k := keep_new (o := .lst vs) hp
  exact vr _ _ _ _ (s1.trans (.make hp)) (h1.make (o3 := .lst xs) hp ⟨vs, upd_same, r1.mono (tq_kp k)⟩) r_ref (z1.2 p (h1.free hp))
end
abbrev Sp3 := List T → Gp → K3 → (Value → Gp → Prop) → Prop
def liSp (sp : Sp3) : Sp := fun vs H Q E => ∃ ts Γ Z Y, Rs H vs ts ∧ HR H Γ ∧ sp ts Γ Z Y ∧ VR H Γ Z Q ∧ ∀ C H' Γ', Stp H Γ H' Γ' → HR H' Γ' → Y C Γ' → E C none H'
abbrev Cl3 (P : Program) (w : World) (K : PySem.W.Frag) (mg : Str → Option Value) (base : Heap) (x : Str) (k : Nat) (ps : List Str) (sp : Sp3) : Prop := Callee P w K mg base x k ps (liSp sp)
abbrev Clx (P : Program) (w : World) (K : PySem.W.Frag) (mg : Str → Option Value) (base : Heap) (x : Str) (k : Nat) (ps : List Str) (sp : Sp3) : Prop := CalleeX P w K mg base x k ps (liSp sp)
def eCall (sp : Sp3) (t : A3) : E3 := fun Y τ Γ Z => t Y τ Γ fun xs Γ1 => sp xs Γ1 Z fun _ _ => False
def eCallX (sp : Sp3) (t : A3) : E3 := fun Y τ Γ Z => t Y τ Γ fun xs Γ1 => sp xs Γ1 Z (Y τ)
section
variable {x: Str}{k j: Nat}{ps: List Str}{sp: Sp3}{p pos: Pos}{e: Expr}{es: List Expr}{t: A3}
theorem qe_call (c : Cl3 X.prog X.w X.K X.mg X.base x k ps sp) (hr : Room j X.A) (hk : k ≤ j) (hg : Gl X x) (ha : PA X (e :: es) (liA E t)) (hdb : (x == ("__debug__" : Str)) = false := by decide)
  (he : starEach (e :: es) X.env = (false, eval e X.env) :: starEach es X.env := by rfl) (hpl : (backTo pos (starEach es X.env)).any (·.1) = false := by rfl) : PE X (.Call (.Name x p) (e :: es) [] pos) (liE E (eCall sp t)) :=
 weakE3 (pe_callC c hr hk hg ha hdb he hpl) fun σ H Q τ Γ Y Z rs hr t vr xr => by
  refine ⟨τ, Γ, Y, _, rs, hr, t, fun vs xs H1 Γ1 s1 h1 r1 z1 => ?_, xr⟩
  show liSp sp (vs ++ []) H1 Q E0
  rw [List.append_nil]
  exact ⟨xs, Γ1, Z, _, r1, h1, z1, vr.mono s1, fun _ _ _ _ _ z => z.elim⟩
theorem qe_callX (c : Clx X.prog X.w X.K X.mg X.base x k ps sp) (hr : Room j X.A) (hk : k ≤ j) (hg : Gl X x) (hx : PassesW X E) (ha : PA X (e :: es) (liA E t)) (hdb : (x == ("__debug__" : Str)) = false := by decide)
  (he : starEach (e :: es) X.env = (false, eval e X.env) :: starEach es X.env := by rfl) (hpl : (backTo pos (starEach es X.env)).any (·.1) = false := by rfl) : PE X (.Call (.Name x p) (e :: es) [] pos) (liE E (eCallX sp t)) :=
 weakE3 (pe_callW c hr hk hg hx ha hdb he hpl) fun σ H Q τ Γ Y Z rs hr t vr xr => by
  refine ⟨τ, Γ, Y, _, rs, hr, t, fun vs xs H1 Γ1 s1 h1 r1 z1 => ?_, xr⟩
  exact ⟨xs, Γ1, Z, Y τ, r1, h1, z1, vr.mono s1, fun C H' Γ' s' h' y => xr σ τ C H' Γ' (s1.trans s') h' (rs.mono (s1.trans s').tq) y⟩
end
end
end L3
set_option Elab.async false
set_option linter.all false
set_option maxRecDepth 100000
namespace L3
open PySem PySem.Spec L2
open PyProof.Rows hiding St
section
variable {X: Cx}{E: St → XK}{st: Stmt}{sts: List Stmt}{e: Expr}{te: E3}{pos: Pos}{t u: C3}
def cNext : C3 := fun _ D τ Γ => D.nx τ Γ
def cSeq (t u : C3) : C3 := fun Y D τ Γ => t Y { D with nx := u Y D } τ Γ
def cDrop (te : E3) : C3 := fun Y D τ Γ => te Y τ Γ fun _ Γ1 => D.nx τ Γ1
def cRet (te : E3) : C3 := fun Y D τ Γ => te Y τ Γ D.rt
def cIf (c : T3) (t u : C3) : C3 := fun Y D τ Γ => c Y τ Γ fun b Γ1 => if b = true then t Y D τ Γ1 else u Y D τ Γ1
theorem qss_nil : PSs X [] (liS E cNext) := weakSs3 pss_nil fun D σ H τ Γ Y Z rs hr t dr xr => dr.nx σ τ H Γ .refl hr rs t
theorem qss_cons (h1 : PS X st (liS E t)) (h2 : PSs X sts (liS E u)) : PSs X (st :: sts) (liS E (cSeq t u)) :=
 weakSs3 (pss_cons h1 h2) fun D σ H τ Γ Y Z rs hr t dr xr =>
  ⟨τ, Γ, Y, _, rs, hr, t, ⟨fun σ' τ' H' Γ' s h r z => ⟨τ', Γ', Y, Z, r, h, z, dr.mono s, xr.mono s⟩, dr.rt, dr.bk, dr.ct⟩, xr⟩
theorem qs_expr (he : PE X e (liE E te)) (hs : swapsWith e none pos.line X.env = pure false := by rfl) : PS X (.Expr e pos) (liS E (cDrop te)) :=
 weakS3 (ps_expr he hs) fun D σ H τ Γ Y Z rs hr t dr xr => ⟨τ, Γ, Y, _, rs, hr, t, fun v x H' Γ' s h r z => dr.nx σ τ H' Γ' s h (rs.mono s.tq) z, xr⟩
theorem qs_ret (he : PE X e (liE E te)) : PS X (.Return (some e) pos) (liS E (cRet te)) :=
 weakS3 (ps_ret he) fun D σ H τ Γ Y Z rs hr t dr xr => ⟨τ, Γ, Y, _, rs, hr, t, dr.rt, xr⟩
theorem qs_if {c : Expr} {a b : List Stmt} {tc : T3} (hc : PT X c (liT E tc)) (ha : PSs X a (liS E t)) (hb : PSs X b (liS E u)) : PS X (.If c a b pos) (liS E (cIf tc t u)) :=
 weakS3 (ps_if hc ha hb) fun D σ H τ Γ Y Z rs hr t dr xr => by
  refine ⟨τ, Γ, Y, _, rs, hr, t, fun k H1 Γ1 s1 h1 z1 => ?_, xr⟩
  cases k with
  | true => exact ⟨τ, Γ1, Y, Z, rs.mono s1.tq, h1, z1, dr.mono s1, xr.mono s1⟩
  | false => exact ⟨τ, Γ1, Y, Z, rs.mono s1.tq, h1, z1, dr.mono s1, xr.mono s1⟩
def cCut (t : C3) : C3 := fun Y D τ Γ => ∃ P : S3 → Gp → Prop, t Y { D with nx := P } τ Γ ∧ ∀ τ Γ, P τ Γ → D.nx τ Γ
theorem qs_cut (h : PS X st (liS E t)) : PS X st (liS E (cCut t)) :=
 weakS3 h fun D σ H τ Γ Y Z rs hr q0 dr xr => by obtain ⟨P, t, k⟩ := q0; exact ⟨τ, Γ, Y, _, rs, hr, t, ⟨fun σ' τ' H' Γ' s h r z => dr.nx σ' τ' H' Γ' s h r (k _ _ z), dr.rt, dr.bk, dr.ct⟩, xr⟩
abbrev G3 := X3 → T → S3 → Gp → (S3 → Gp → Prop) → Prop
abbrev Gs3 := X3 → List T → S3 → Gp → (S3 → Gp → Prop) → Prop
def liG (E : St → XK) (g : G3) : TG := fun v σ H Q => ∃ x τ Γ Y Z, R H v x ∧ RS H σ τ ∧ HR H Γ ∧ g Y x τ Γ Z ∧ NR H Γ Z Q ∧ XR H Γ Y E
def liGs (E : St → XK) (g : Gs3) : TGs := fun v σ H Q => ∃ x τ Γ Y Z, Rs H v x ∧ RS H σ τ ∧ HR H Γ ∧ g Y x τ Γ Z ∧ NR H Γ Z Q ∧ XR H Γ Y E
theorem weakG3 {e : Expr} {t0 : TG} {t : G3} (h : PG X e t0) (w : ∀ v σ H Q x τ Γ Y Z, R H v x → RS H σ τ → HR H Γ → t Y x τ Γ Z → NR H Γ Z Q → XR H Γ Y E → t0 v σ H Q) : PG X e (liG E t) :=
 weakG h (by rintro v σ H Q ⟨x, τ, Γ, Y, Z, r, rs, hr, q, nr, xr⟩; exact w v σ H Q x τ Γ Y Z r rs hr q nr xr)
theorem weakGs3 {e : List Expr} {t0 : TGs} {t : Gs3} (h : PGs X e t0) (w : ∀ v σ H Q x τ Γ Y Z, Rs H v x → RS H σ τ → HR H Γ → t Y x τ Γ Z → NR H Γ Z Q → XR H Γ Y E → t0 v σ H Q) : PGs X e (liGs E t) :=
 weakGs h (by rintro v σ H Q ⟨x, τ, Γ, Y, Z, r, rs, hr, q, nr, xr⟩; exact w v σ H Q x τ Γ Y Z r rs hr q nr xr)
def hName (i : Nat) : G3 := fun _ x τ Γ Z => Z (τ.set i (some x)) Γ
def hNil : Gs3 := fun _ xs τ Γ Z => xs = [] ∧ Z τ Γ
def hCons (g : G3) (gs : Gs3) : Gs3 := fun Y xs τ Γ Z => ∃ x r, xs = x :: r ∧ g Y x τ Γ fun τ1 Γ1 => gs Y r τ1 Γ1 Z
def hTup (n : Nat) (gs : Gs3) : G3 := fun Y x τ Γ Z => ∃ ts, x = .tup ts ∧ ts.length = n ∧ gs Y ts τ Γ Z
theorem qg_name {i : Nat} {x : Str} (hN : X.N.Nodup) (hi : X.N[i]? = some x) (hx : Loc X.env.scope x) (hf : X.fn x = true ∨ X.env.scope.names.lookup x = some .local := by first | exact .inl rfl | exact .inr rfl | assumption) : PG X (.Name x pos) (liG E (hName i)) :=
 weakG3 (pg_name hN hi hx hf) fun v σ H Q x τ Γ Y Z r rs hr t nr xr => nr _ _ H Γ .refl hr (rs.set r i) t
theorem qgs_nil : PGs X [] (liGs E hNil) := weakGs3 pgs_nil fun v σ H Q x τ Γ Y Z r rs hr q0 nr xr => by
 obtain ⟨e, t⟩ := q0
 subst e
 exact ⟨rs_inv0 r, nr _ _ H Γ .refl hr rs t⟩
theorem qgs_cons {es : List Expr} {g : G3} {gs : Gs3} (h1 : PG X e (liG E g)) (h2 : PGs X es (liGs E gs)) (hs : (assignEach (e :: es) X.env).map (·.2) = assign e X.env :: (assignEach es X.env).map (·.2) := by rfl) : PGs X (e :: es) (liGs E (hCons g gs)) :=
 weakGs3 (pgs_cons h1 h2 hs) fun v σ H Q x τ Γ Y Z r rs hr q0 nr xr => by
  obtain ⟨y, ys, e, t⟩ := q0
  subst e
  obtain ⟨w, ws, rfl, r1, r2⟩ := rs_inv r
  refine ⟨w, ws, rfl, y, τ, Γ, Y, _, r1, rs, hr, t, fun σ' τ' H' Γ' s h r z => ?_, xr⟩
  exact ⟨ys, τ', Γ', Y, Z, r2.mono s.tq, r, h, z, nr.mono s, xr.mono s⟩
theorem qg_tup {es : List Expr} {k : Nat} {gs : Gs3} {n : Nat} (hc : X.calm = true) (h : PGs X es (liGs E gs))
  (hn : (assignEach es X.env).length = n := by rfl) (hst : (assignEach es X.env).findIdx? (·.1) = none := by rfl) : PG X (.Tuple es k pos) (liG E (hTup n gs)) :=
 weakG3 (pg_tup hc h hn hst) fun v σ H Q x τ Γ Y Z r rs hr q0 nr xr => by
  obtain ⟨ts, e, l, t⟩ := q0
  subst e
  obtain ⟨a, vs, rfl, ha, r⟩ := i_tup r
  exact ⟨a, vs, rfl, SqT.of ha, by rw [r.length]; exact l, ts, τ, Γ, Y, Z, r, rs, hr, t, nr, xr⟩
def hSub (to ti : E3) : G3 := fun Y v τ Γ Z => to Y τ Γ fun o Γ1 => ti Y τ Γ1 fun i Γ2 => ∃ a ts k j, o = .ref a ∧ i = .int k ∧ Γ2 a = some (.lst ts) ∧ ixN ts.length k = some j ∧ Z τ (up Γ2 a (.lst (ts.set j v)))
theorem qg_sub {o i : Expr} {to ti : E3} (ho : PE X o (liE E to)) (hi : PE X i (liE E ti))
  (ha : ∀ v, assign (.Subscript o i pos) X.env v = (do
   let ov ← holding [v] (eval o X.env)
   let iv ← holding [v, ov] (eval i X.env)
   standAt pos
   holding [v, ov, iv] (setItem ov iv v)
   release [v, ov, iv] []) := by intro _; rfl) : PG X (.Subscript o i pos) (liG E (hSub to ti)) :=
 weakG3 (pg_sub ho hi set_list ha) fun v σ H Q x τ Γ Y Z r rs hr t nr xr => by
  refine ⟨τ, Γ, Y, _, rs, hr, t, fun ov o H1 Γ1 s1 h1 r1 z1 => ?_, xr⟩
  refine ⟨τ, Γ1, Y, _, rs.mono s1.tq, h1, z1, fun iv i H2 Γ2 s2 h2 r2 z2 => ?_, xr.mono s1⟩
  obtain ⟨a, ts, k, j, rfl, rfl, ga, hj, z⟩ := z2
  obtain ⟨vs, hv, rv⟩ := h2 a _ ga
  refine ⟨a, vs, k, j, i_ref r1, i_int r2, hv, by rw [rv.length]; exact hj, ?_⟩
  have s3 : Stp H2 Γ2 (upd H2 a (.lst (vs.set j v))) (up Γ2 a (.lst (ts.set j x))) := .set h2 ga
  exact nr σ τ _ _ ((s1.trans s2).trans s3) (h2.set ga ⟨_, upd_same, Rs.set j (rv.mono s3.tq) (r.mono ((s1.trans s2).trans s3).tq)⟩) (rs.mono ((s1.trans s2).trans s3).tq) z
def cAsg (te : E3) (g : G3) : C3 := fun Y D τ Γ => te Y τ Γ fun x Γ1 => g Y x τ Γ1 D.nx
theorem asg_sim {te : E3} {g : G3} (D : Ends) (σ : St) (H : Hp) (q : liS E (cAsg te g) D σ H) : tAsg (liE E te) (liG E g) D σ H := by
 obtain ⟨τ, Γ, Y, Z, rs, hr, t, dr, xr⟩ := q
 exact ⟨τ, Γ, Y, _, rs, hr, t, fun v x H1 Γ1 s1 h1 r1 z1 => ⟨x, τ, Γ1, Y, _, r1, rs.mono s1.tq, h1, z1, dr.nx.mono s1, xr.mono s1⟩, xr⟩
theorem qs_asg {tg e : Expr} {te : E3} {g : G3} (he : PE X e (liE E te)) (hg : PG X tg (liG E g)) (hs : swapsWithSole [tg] e pos.line X.env = pure false := by rfl) (hw : swappedStores [tg] e X.env = pure none := by rfl)
  (h1 : (assignEach [tg] X.env).map (·.2) = [assign tg X.env] := by rfl) : PS X (.Assign [tg] e pos) (liS E (cAsg te g)) := weakS (ps_asg he hg hs hw h1) asg_sim
def cSet (i : Nat) (te : E3) : C3 := fun Y D τ Γ => te Y τ Γ fun x Γ1 => D.nx (τ.set i (some x)) Γ1
theorem qs_set {i : Nat} {x : Str} {e : Expr} {te : E3} {pos' : Pos} (hN : X.N.Nodup) (hi : X.N[i]? = some x) (hx : Loc X.env.scope x) (he : PE X e (liE E te)) (hs : swapsWith e (some (.Name x pos')) pos.line X.env = pure false := by rfl) (hf : X.fn x = true ∨ X.env.scope.names.lookup x = some .local := by first | exact .inl rfl | exact .inr rfl | assumption) :
  PS X (.Assign [.Name x pos'] e pos) (liS E (cSet i te)) := weakS3 (ps_set hN hi hx he hs hf) fun D σ H τ Γ Y Z rs hr t dr xr =>
   ⟨τ, Γ, Y, _, rs, hr, t, fun v x H1 Γ1 s1 h1 r1 z1 => dr.nx _ _ H1 Γ1 s1 h1 ((rs.mono s1.tq).set r1 i) z1, xr⟩
structure Walks (J : It) (ts : List T) (gd : Gp → Prop) (H0 : Hp) : Prop where
 go : ∀ i H Γ, Tq H0 H → HR H Γ → gd Γ → i < ts.length → J.go i H
 yld : ∀ i H Γ x H', Tq H0 H → HR H Γ → gd Γ → i < ts.length → J.yld i H x H' → Stp H Γ H' Γ ∧ HR H' Γ ∧ ∃ t, ts[i]? = some t ∧ R H' x t
 stop : ∀ H Γ, Tq H0 H → HR H Γ → gd Γ → J.stop ts.length H
abbrev I3 := X3 → S3 → Gp → (List T → (Gp → Prop) → Gp → Prop) → Prop
def liI (E : St → XK) (wi : I3) : TI := fun σ H Q => ∃ τ Γ Y Z, RS H σ τ ∧ HR H Γ ∧ wi Y τ Γ Z ∧ (∀ J ts gd H' Γ', Stp H Γ H' Γ' → HR H' Γ' → Walks J ts gd H' → Z ts gd Γ' → Q J H') ∧ XR H Γ Y E
theorem weakI3 {tg e : Expr} {t0 : TI} {t : I3} (h : PI X tg e t0) (w : ∀ σ H Q τ Γ Y Z, RS H σ τ → HR H Γ → t Y τ Γ Z → (∀ J ts gd H' Γ', Stp H Γ H' Γ' → HR H' Γ' → Walks J ts gd H' → Z ts gd Γ' → Q J H') → XR H Γ Y E → t0 σ H Q) : PI X tg e (liI E t) :=
 weakI h (by rintro σ H Q ⟨τ, Γ, Y, Z, rs, hr, q, vr, xr⟩; exact w σ H Q τ Γ Y Z rs hr q vr xr)
def wFor (gd : Gp → Prop) (g : G3) (tb : C3) (Y : X3) (D : D3) (ts : List T) (τ : S3) (Γ : Gp) : Prop := ∃ P : List T → S3 → Gp → Prop, P ts τ Γ ∧ (∀ τ Γ, P [] τ Γ → gd Γ ∧ D.nx τ Γ) ∧
 ∀ x r τ Γ, P (x :: r) τ Γ → gd Γ ∧ g Y x τ Γ fun τ2 Γ2 => tb Y { D with nx := P r, ct := P r, bk := D.nx } τ2 Γ2
def cFor (wi : I3) (g : G3) (tb : C3) : C3 := fun Y D τ Γ => wi Y τ Γ fun ts gd Γ1 => wFor gd g tb Y D ts τ Γ1
theorem drop_cons {α : Type} {xs : List α} {i : Nat} (h : i < xs.length) : xs.drop i = xs[i] :: xs.drop (i + 1) := List.drop_eq_getElem_cons h
theorem qs_for {iter : Expr} {body : List Stmt} {wi : I3} {g : G3} {tb : C3} {tg : Expr} (hp : PassesOwn (model X.prog X.w) X.A X.env X.xe) (hc : X.calm = true) (hi : PI X tg iter (liI E wi)) (hg : PG X tg (liG E g)) (hb : PSs X body (liS E tb))
  (hs : ∀ x, foldedSetIterable iter X.env x = pure x := by intro _; rfl) : PS X (.For tg iter body [] pos) (liS E (cFor wi g tb)) :=
 weakS3 (ps_for hp hc hi hg hb hs) fun D σ H τ Γ Y Z rs hr t dr xr => by
  refine ⟨τ, Γ, Y, _, rs, hr, t, fun J ts gd H1 Γ1 s1 h1 wk ⟨P, z1, p0, pc⟩ => ?_, xr⟩
  refine ⟨fun i m σ' H' => ∃ τ' Γ', i ≤ ts.length ∧ m = ts.length - i ∧ RS H' σ' τ' ∧ HR H' Γ' ∧ Stp H1 Γ1 H' Γ' ∧ P (ts.drop i) τ' Γ', ⟨ts.length, τ, Γ1, Nat.zero_le _, rfl, rs.mono s1.tq, h1, .refl, z1⟩, ?_⟩
  rintro i m σ2 H2 ⟨τ2, Γ2, hi, rfl, rs2, h2, s2, w2⟩
  by_cases hlt : i < ts.length
  ·rw [drop_cons hlt] at w2
   obtain ⟨g2, w2⟩ := pc _ _ _ _ w2
   refine .inr ⟨wk.go i H2 Γ2 s2.tq h2 g2 hlt, fun σ' H' => ∃ τ' Γ', RS H' σ' τ' ∧ HR H' Γ' ∧ Stp H1 Γ1 H' Γ' ∧ P (ts.drop (i + 1)) τ' Γ', fun σ' H' ⟨τ', Γ', a, b, c, d⟩ => ⟨ts.length - (i + 1), by omega, τ', Γ', hlt, rfl, a, b, c, d⟩, fun x H3 yl => ?_⟩
   obtain ⟨s3, h3, x3, e3, r3⟩ := wk.yld i H2 Γ2 x H3 s2.tq h2 g2 hlt yl
   rw [List.getElem?_eq_getElem hlt] at e3
   cases e3
   refine ⟨_, τ2, Γ2, Y, _, r3, rs2.mono s3.tq, h3, w2, fun σ4 τ4 H4 Γ4 s4 h4 r4 z4 => ?_, xr.mono ((s1.trans s2).trans s3)⟩
   have s5 := (s2.trans s3).trans s4
   refine ⟨τ4, Γ4, Y, _, r4, h4, z4, ⟨fun σ' τ' H' Γ' s h r z => ⟨τ', Γ', r, h, s5.trans s, z⟩, dr.rt.mono (s1.trans s5), dr.nx.mono (s1.trans s5), fun σ' τ' H' Γ' s h r z => ⟨τ', Γ', r, h, s5.trans s, z⟩⟩, xr.mono (s1.trans s5)⟩
  ·have e : i = ts.length := by omega
   subst e
   rw [List.drop_length] at w2
   have w2 := p0 _ _ w2
   exact .inl ⟨wk.stop H2 Γ2 s2.tq h2 w2.1, dr.nx σ2 τ2 H2 Γ2 (s1.trans s2) h2 rs2 w2.2⟩
def cWhile (c : T3) (tb : C3) : C3 := fun Y D τ Γ => ∃ W : Nat → S3 → Gp → Prop, (∃ m, W m τ Γ) ∧ ∀ m τ Γ, W m τ Γ →
 c Y τ Γ fun b Γ1 => if b = true then ∃ N : S3 → Gp → Prop, (∀ τ' Γ', N τ' Γ' → ∃ m', m' < m ∧ W m' τ' Γ') ∧ tb Y { D with nx := N, ct := N, bk := D.nx } τ Γ1 else D.nx τ Γ1
theorem qs_while {c : Expr} {body : List Stmt} {tc : T3} {tb : C3} (hp : PassesOwn (model X.prog X.w) X.A X.env X.xe) (hc : PT X c (liT E tc)) (hb : PSs X body (liS E tb)) : PS X (.While c body [] pos) (liS E (cWhile tc tb)) :=
 weakS3 (ps_while hp hc hb) fun D σ H τ Γ Y Z rs hr q0 dr xr => by
  obtain ⟨W, ⟨m0, w0⟩, turn⟩ := q0
  refine ⟨fun m σ' H' => ∃ τ' Γ', RS H' σ' τ' ∧ HR H' Γ' ∧ Stp H Γ H' Γ' ∧ W m τ' Γ', ⟨m0, τ, Γ, rs, hr, .refl, w0⟩, ?_⟩
  rintro m σ1 H1 ⟨τ1, Γ1, rs1, h1, s1, w1⟩
  refine ⟨τ1, Γ1, Y, _, rs1, h1, turn m τ1 Γ1 w1, fun k H2 Γ2 s2 h2 z2 => ?_, xr.mono s1⟩
  cases k with
  | false => exact dr.nx σ1 τ1 H2 Γ2 (s1.trans s2) h2 (rs1.mono s2.tq) z2
  | true =>
   obtain ⟨N, hN, z2⟩ := z2
   refine ⟨fun σ' H' => ∃ τ' Γ', RS H' σ' τ' ∧ HR H' Γ' ∧ Stp H Γ H' Γ' ∧ N τ' Γ', fun σ' H' ⟨τ', Γ', a, b, c, d⟩ => ?_, ?_⟩
   ·obtain ⟨m', hm, w'⟩ := hN τ' Γ' d
    exact ⟨m', hm, τ', Γ', a, b, c, w'⟩
   ·have s3 := s1.trans s2
    exact ⟨τ1, Γ2, Y, _, rs1.mono s2.tq, h2, z2, ⟨fun σ' τ' H' Γ' s h r z => ⟨τ', Γ', r, h, s3.trans s, z⟩, dr.rt.mono s3, dr.nx.mono s3, fun σ' τ' H' Γ' s h r z => ⟨τ', Γ', r, h, s3.trans s, z⟩⟩, xr.mono s3⟩
def cSt (own : List Str) (cap : List (Nat × Str)) (τ : S3) : S3 := List.replicate own.length none ++ cap.map fun p => (τ[p.1]?).getD none
theorem rs_app {H : Hp} : ∀ {a : St} {b : S3} {c : St} {d : S3}, RS H a b → RS H c d → RS H (a ++ c) (b ++ d)
 | [], [], _, _, _, h => h
 | _ :: _, _ :: _, _, _, h, q => ⟨h.1, rs_app h.2 q⟩
 | [], _ :: _, _, _, h, _ => h.elim
 | _ :: _, [], _, _, h, _ => h.elim
theorem rs_rep {H : Hp} : ∀ n : Nat, RS H (List.replicate n none) (List.replicate n none)
 | 0 => trivial
 | n + 1 => ⟨trivial, rs_rep n⟩
theorem rs_comp {H : Hp} {σ : St} {τ : S3} (own : List Str) (h : RS H σ τ) : ∀ cap : List (Nat × Str), RS H (compSt own cap σ) (cSt own cap τ) := fun cap => by
 refine rs_app (rs_rep _) ?_
 induction cap with
 | nil => exact trivial
 | cons p r ih =>
  refine ⟨?_, ih⟩
  show RO1 H ((σ[p.1]?).getD none) ((τ[p.1]?).getD none)
  cases e : τ[p.1]? with
  | none => exact trivial
  | some o =>
   cases o with
   | none => exact trivial
   | some x =>
    obtain ⟨v, ev, rv⟩ := h.get e
    rw [ev]
    exact rv
abbrev Y0 : X3 := fun _ _ _ => False
def wComp (gd : Gp → Prop) (g : G3) (tc : T3) (te : E3) (C : List T → Gp → Prop) (ts : List T) (τ : S3) (ys : List T) (Γ : Gp) : Prop := ∃ P : List T → S3 → List T → Gp → Prop, P ts τ ys Γ ∧ (∀ τ ys Γ, P [] τ ys Γ → gd Γ ∧ C ys Γ) ∧
 ∀ x r τ ys Γ, P (x :: r) τ ys Γ → gd Γ ∧ g Y0 x τ Γ fun τ3 Γ3 => tc Y0 τ3 Γ3 fun b Γ4 => if b = true then te Y0 τ3 Γ4 fun y Γ5 => P r τ3 (ys ++ [y]) Γ5 else P r τ3 ys Γ4
def eComp (wi : I3) (g : G3) (tc : T3) (te : E3) (own : List Str) (cap : List (Nat × Str)) : E3 := fun Y τ Γ Z => wi Y τ Γ fun ts gd Γ1 => ts.length ≤ sizeLine ∧
 wComp gd g tc te (fun ys Γ2 => ∀ D, Γ2 D = none → Z (.ref D) (up Γ2 D (.lst ys))) ts (cSt own cap τ) [] Γ1
abbrev EN : St → XK := fun _ => E0
theorem xr0 {H : Hp} {Γ : Gp} : XR H Γ Y0 EN := fun _ _ _ _ _ _ _ _ z => z.elim
theorem comp_sim {wi : I3} {g : G3} {tc : T3} {te : E3} {own : List Str} {cap : List (Nat × Str)} (σ : St) (H : Hp) (Q : VK) (q : liE E (eComp wi g tc te own cap) σ H Q) : tComp (liI E wi) (liG EN g) (liT EN tc) (liE EN te) own cap σ H Q := by
 obtain ⟨τ, Γ, Y, Z, rs, hr, t, vr, xr⟩ := q
 refine ⟨τ, Γ, Y, _, rs, hr, t, fun J ts gd H1 Γ1 s1 h1 wk ⟨hz, P, z1, p0, pc⟩ => ?_, xr⟩
 intro D hD
 have nl : ∀ vs : List V, (∀ us : List V, HO.lst vs ≠ .tup us) ∧ ∀ b w, HO.lst vs ≠ .frz b w := fun _ => ⟨fun _ z => (nomatch z), fun _ _ z => (nomatch z)⟩
 refine ⟨fun i m σ' vs H' => ∃ τ' ys Γ', i ≤ ts.length ∧ m = ts.length - i ∧ vs.length ≤ i ∧ RS H' σ' τ' ∧ HR H' Γ' ∧ H' D = some (.lst vs) ∧ Γ' D = none ∧ Rs H' vs ys ∧ Stp H1 Γ1 H' Γ' ∧ P (ts.drop i) τ' ys Γ',
  ⟨ts.length, cSt own cap τ, [], Γ1, Nat.zero_le _, rfl, Nat.le_refl _, (rs_comp own (rs.mono s1.tq) cap).mono (tq_kp (keep_new hD)), h1.keep (keep_new hD), upd_same, h1.free hD, rs_nil, .keep (keep_new hD), z1⟩, ?_⟩
 rintro i m σ2 vs H2 ⟨τ2, ys, Γ2, hi, rfl, hv, rs2, h2, d2, gD, ry, s2, w2⟩
 refine ⟨d2, ?_⟩
 by_cases hlt : i < ts.length
 ·rw [drop_cons hlt] at w2
  obtain ⟨g2, w2⟩ := pc _ _ _ _ _ w2
  refine .inr ⟨wk.go i H2 Γ2 s2.tq h2 g2 hlt, by omega, fun σ' ws H' => ∃ τ' ys Γ', ws.length ≤ i + 1 ∧ RS H' σ' τ' ∧ HR H' Γ' ∧ H' D = some (.lst ws) ∧ Γ' D = none ∧ Rs H' ws ys ∧ Stp H1 Γ1 H' Γ' ∧ P (ts.drop (i + 1)) τ' ys Γ',
   fun σ' ws H' ⟨τ', ys, Γ', a, b, c, d, e, f, k, l⟩ => ⟨ts.length - (i + 1), by omega, τ', ys, Γ', hlt, rfl, a, b, c, d, e, f, k, l⟩, fun x H3 yl => ?_⟩
  obtain ⟨s3, h3, x3, e3, r3⟩ := wk.yld i H2 Γ2 x H3 s2.tq h2 g2 hlt yl
  rw [List.getElem?_eq_getElem hlt] at e3
  cases e3
  refine ⟨_, τ2, Γ2, Y0, _, r3, rs2.mono s3.tq, h3, w2, fun σ4 τ4 H4 Γ4 s4 h4 r4 z4 => ?_, xr0⟩
  refine ⟨τ4, Γ4, Y0, _, r4, h4, z4, fun k H5 Γ5 s5 h5 z5 => ?_, xr0⟩
  have s35 := (s3.trans s4).trans s5
  have d5 : H5 D = some (.lst vs) := s35.frm D _ d2 gD
  have g5 : Γ5 D = none := s35.new D (by rw [d2]; exact fun z => nomatch z) gD
  cases k with
  | false => exact ⟨τ4, ys, Γ5, Nat.le_succ_of_le hv, r4.mono s5.tq, h5, d5, g5, ry.mono s35.tq, s2.trans s35, z5⟩
  | true =>
   refine ⟨τ4, Γ5, Y0, _, r4.mono s5.tq, h5, z5, fun y y' H6 Γ6 s6 h6 r6 z6 => ?_, xr0⟩
   have s36 := s35.trans s6
   have d6 : H6 D = some (.lst vs) := s36.frm D _ d2 gD
   have g6 : Γ6 D = none := s36.new D (by rw [d2]; exact fun z => nomatch z) gD
   have tq : Tq H6 (upd H6 D (.lst (vs ++ [y]))) := tq_set d6 (nl vs)
   refine ⟨d6, τ4, ys ++ [y'], Γ6, by rw [List.length_append]; exact Nat.succ_le_succ hv, (r4.mono (s5.trans s6).tq).mono tq, h6.hide g6 d6 (nl vs), upd_same, g6, Rs.app ((ry.mono s36.tq).mono tq) (rs_cons (r6.mono tq) rs_nil), ?_, z6⟩
   have s7 := s2.trans s36
   refine ⟨s7.tq.trans tq, fun a h z => ?_, s7.new, fun a o h g => ?_⟩
   ·by_cases e : a = D
    ·subst e; exact h hD
    ·rw [upd_ne e] at z; exact s7.dom a h z
   ·have e : a ≠ D := fun e => by subst e; rw [hD] at h; cases h
    rw [upd_ne e]; exact s7.frm a o h g
 ·have e : i = ts.length := by omega
  subst e
  rw [List.drop_length] at w2
  have w2 := p0 _ _ _ w2
  refine .inl ⟨wk.stop H2 Γ2 s2.tq h2 w2.1, ?_⟩
  have s12 := s1.trans s2
  refine vr (.ref D) (.ref D) H2 (up Γ2 D (.lst ys)) ⟨s12.tq, s12.dom, fun a h g => ?_, s12.frm⟩ (fun a o g => ?_) r_ref (w2.2 D gD)
  ·have e : a ≠ D := fun e => by subst e; exact s1.dom _ h hD
   rw [up_ne e]; exact s12.new a h g
  ·by_cases e : a = D
   ·subst e; rw [up_same] at g; cases g; exact ⟨vs, d2, ry⟩
   ·rw [up_ne e] at g; exact h2 a o g
section
variable {scope: Scope}{cl: List (Str × Addr)}{own: List Str}{cap: List (Nat × Str)}{tg iter elt: Expr}{ifs: List Expr}{wi: I3}{g: G3}{tc: T3}{te: E3}
theorem qe_comp (c : CompOk X scope cl own cap) (hc : X.calm = true) (hi : PI X tg iter (liI E wi))
  (hg : ∀ C s H fp, PG (compCx X (own ++ cap.map (·.2)) scope cl C s H fp fun _ _ => False) tg (liG EN g)) (ht : ∀ C s H fp, PTs (compCx X (own ++ cap.map (·.2)) scope cl C s H fp fun _ _ => False) ifs (liT EN tc))
  (he : ∀ C s H fp, PE (compCx X (own ++ cap.map (·.2)) scope cl C s H fp fun _ _ => False) elt (liE EN te)) (hs : ∀ x, foldedSetIterable iter X.env x = pure x := by intro _; rfl) :
  PE X (.ListComp elt [⟨tg, iter, ifs, 0⟩] scope pos) (liE E (eComp wi g tc te own cap)) := weakE (pe_comp c hc hi hg ht he hs) comp_sim
theorem qs_comp {i : Nat} {y : Str} {py spos : Pos} (c : CompOk X scope cl own cap) (hc : X.calm = true) (hi : PI X tg iter (liI E wi))
  (hg : ∀ C s H fp, PG (compCx X (own ++ cap.map (·.2)) scope cl C s H fp fun _ _ => False) tg (liG EN g)) (ht : ∀ C s H fp, PTs (compCx X (own ++ cap.map (·.2)) scope cl C s H fp fun _ _ => False) ifs (liT EN tc))
  (he : ∀ C s H fp, PE (compCx X (own ++ cap.map (·.2)) scope cl C s H fp fun _ _ => False) elt (liE EN te))
  (hN : X.N.Nodup) (hy : X.N[i]? = some y) (hl : X.env.scope.names.lookup y = some .local)
  (hsw : swapsWith (.ListComp elt [⟨tg, iter, ifs, 0⟩] scope pos) (some (.Name y py)) spos.line X.env = pure true := by rfl) (hs : ∀ x, foldedSetIterable iter X.env x = pure x := by intro _; rfl) :
  PS X (.Assign [.Name y py] (.ListComp elt [⟨tg, iter, ifs, 0⟩] scope pos) spos) (liS E (cSet i (eComp wi g tc te own cap))) :=
 weakS3 (ps_comp c hc hi hg ht he hN hy hl hsw hs) fun D σ H τ Γ Y Z rs hr t dr xr =>
  comp_sim σ H _ ⟨τ, Γ, Y, _, rs, hr, t, fun v x H1 Γ1 s1 h1 r1 z1 => dr.nx _ _ H1 Γ1 s1 h1 ((rs.mono s1.tq).set r1 i) z1, xr⟩
def bTrue : T3 := fun _ _ Γ Z => Z true Γ
theorem qts_nil : PTs X [] (liT E bTrue) := weakTs3 pts_nil fun σ H Q τ Γ Y Z rs hr t vr xr => vr true H Γ .refl hr t
end
end
def start3 : List Str → List T → S3
 | [], _ => []
 | _ :: N, [] => none :: start3 N []
 | _ :: N, t :: ts => some t :: start3 N ts
theorem rs_start0 {H : Hp} : ∀ N : List Str, RS H (List.replicate N.length none) (start3 N [])
 | [] => trivial
 | _ :: N => ⟨trivial, rs_start0 N⟩
theorem rs_start {H : Hp} : ∀ (N : List Str) {vs : List V} {ts : List T}, Rs H vs ts → ts.length ≤ N.length → RS H (L2.start N vs) (start3 N ts)
 | N, vs, [], h, _ => by
  rw [rs_inv0 h]
  exact rs_start0 N
 | [], vs, t :: ts, h, l => absurd l (by simp)
 | n :: N, vs, t :: ts, h, l => by
  obtain ⟨v, ws, rfl, a, b⟩ := rs_inv h
  have := rs_start N b (by simpa using l)
  refine ⟨a, ?_⟩
  unfold L2.start at this
  rw [List.length_cons, List.length_cons, Nat.add_sub_add_right]
  exact this
theorem sc_len {N ps : List Str} {sc : Scope} (S : FnScope N ps sc) : ps.length ≤ N.length := by
 have := congrArg List.length S.pre
 rw [List.length_take] at this
 omega
section
variable {X: Cx}{x: Str}{C: Addr}{bmB: List Value}{B newId initId: String}{np cpos pos: Pos}{e₀: Expr}{rest: List Expr}{t: A3}{E: XK}
def cRaise (C : Addr) (t : A3) : C3 := fun Y D τ Γ => t Y τ Γ fun xs Γ1 => xs.length ≤ sizeLine ∧ Y τ (.ref C) Γ1
theorem qs_raise (hc : X.calm = true) (hg : Gl X x) (hm : X.mg x = some (.ref C)) (hx : PySem.W.excIn X.K C bmB newId = true) (FB : ExcBaseFacts B newId initId bmB) (ha : PA X (e₀ :: rest) (liA (fun _ => E) t)) (hE : Raises X E)
  (hd : (x == ("__debug__" : Str)) = false := by decide) (he : starEach (e₀ :: rest) X.env = (false, eval e₀ X.env) :: starEach rest X.env := by rfl) (hpl : (backTo cpos (starEach rest X.env)).any (·.1) = false := by rfl) :
  PS X (.Raise (some (.Call (.Name x np) (e₀ :: rest) [] cpos)) none pos) (liS (fun _ => E) (cRaise C t)) :=
 weakS3 (ps_raise hc hg hm hx FB ha hE hd he hpl) fun D σ H τ Γ Y Z rs hr t dr xr =>
  ⟨τ, Γ, Y, _, rs, hr, t, fun vs xs H1 Γ1 s1 h1 r1 z1 => ⟨by rw [r1.length]; exact z1.1, xr σ τ _ H1 Γ1 s1 h1 (rs.mono s1.tq) z1.2⟩, xr⟩
end
section
variable {X: Cx}{E: St → XK}{body suite: List Stmt}{b₀: Stmt}{y: Str}{np hpos pos: Pos}{Cy: Addr}{tb ts: C3}
def cTry0 (K : PySem.W.Frag) (Cy : Addr) (tb ts : C3) : C3 := fun _ D τ Γ => tb (fun τ' C Γ' => PySem.W.exmOne K C (.ref Cy) = some true ∧ ts Y0 D τ' Γ') D τ Γ
theorem qs_try0 (hst : X.stack = X.env :: X.outer) (hfr : X.env.frame = some X.env.locals) (hy : Gl X y) (hmy : X.mg y = some (.ref Cy))
  (hb : ∀ (E' : Value → Shared → Prop) (pn : List (Addr × Obj)) (W : St → XK), (∀ pins σ H s e s', Inv (X.tr E' pn) pins σ H s → CXe X.prog X.w X.stack H s (W σ) e s' → E' e s') → PSs (X.tr E' pn) body (liS W tb))
  (hs : ∀ x, PSs (X.su x) (b₀ :: suite) (liS EN ts)) (hd : (y == ("__debug__" : Str)) = false := by decide) :
  PS X (.Try body [.ExceptHandler (some (.Name y np)) none (b₀ :: suite) hpos] [] [] pos) (liS E (cTry0 X.K Cy tb ts)) :=
 weakS3 (ps_try0 hst hfr hy hmy hb hs hd) fun D σ H τ Γ Y Z rs hr t dr xr =>
  ⟨τ, Γ, _, Z, rs, hr, t, dr, fun σ1 τ1 C H1 Γ1 s1 h1 r1 y1 => ⟨y1.1, _, _, Y0, _, r1, h1, y1.2, dr.mono s1, xr0⟩⟩
end
end L3
set_option Elab.async false
set_option linter.all false
set_option maxRecDepth 100000
namespace L3
open PySem PySem.Spec L2
open PyProof.Rows hiding St
def sc : T → Option V
 | .non => some .non | .bl b => some (.bl b) | .int i => some (.int i) | .str z => some (.str z) | _ => none
theorem sc_r {H : Hp} {v u : V} {x : T} (r : R H v x) (h : sc x = some u) : v = u := by
 cases x with
 | non => cases h; exact i_non r
 | bl b => cases h; exact i_bl r
 | int i => cases h; exact i_int r
 | str z => cases h; exact i_str r
 | tup ts => cases h
 | ref a => cases h
 | ty n => cases h
 | scr K a ts => cases h
def scs : List T → Option (List V)
 | [] => some []
 | x :: r => match sc x, scs r with | some v, some vs => some (v :: vs) | _, _ => none
theorem scs_r {H : Hp} : ∀ {ts : List T} {vs us : List V}, Rs H vs ts → scs ts = some us → vs = us
 | [], vs, us, r, h => by cases h; exact rs_inv0 r
 | x :: q, vs, us, r, h => by
  obtain ⟨v, ws, rfl, a, b⟩ := rs_inv r
  unfold scs at h
  split at h
  ·rename_i v' vs' e1 e2
   cases h
   rw [sc_r a e1, scs_r b e2]
  ·cases h
def it3 (Γ : Gp) : T → Option (List T)
 | .tup ts => some ts
 | .ref a => match Γ a with | some (.lst ts) => some ts | _ => none
 | _ => none
theorem it3_l {Γ : Gp} {a : Addr} {ts : List T} (h : Γ a = some (.lst ts)) : it3 Γ (.ref a) = some ts := by
 show (match Γ a with | some (.lst ts) => some ts | _ => none) = _
 rw [h]
theorem it3_a {K : PySem.W.Frag} {H : Hp} {Γ : Gp} {a : Addr} {ts : List T} (hr : HR H Γ) (h : it3 Γ (.ref a) = some ts) : ∃ vs, SqL K H a vs ∧ Rs H vs ts := by
 have h : (match Γ a with | some (.lst ts) => some ts | _ => none) = some ts := h
 split at h
 ·rename_i ts' g; cases h; obtain ⟨vs, ha, q⟩ := hr a _ g; exact ⟨vs, SqL.of ha, q⟩
 ·cases h
theorem it3_r {K : PySem.W.Frag} {H : Hp} {Γ : Gp} {v : V} {x : T} {ts : List T} (r : R H v x) (hr : HR H Γ) (h : it3 Γ x = some ts) : ∃ p vs, v = .ref p ∧ (SqL K H p vs ∨ SqT K H p vs) ∧ Rs H vs ts := by
 cases x with
 | tup us => cases h; obtain ⟨a, vs, e, ha, q⟩ := i_tup r; exact ⟨a, vs, e, .inr (SqT.of ha), q⟩
 | ref a => obtain ⟨vs, s, q⟩ := it3_a (K := K) hr h; exact ⟨a, vs, i_ref r, .inl s, q⟩
 | _ => cases h
section
variable {X: Cx}{E: St → XK}
def r3I (C : Int → Int → Prop) (g : Int → Int → T) : R3 := fun x y Γ Z => ∃ i j, x = .int i ∧ y = .int j ∧ C i j ∧ Z (g i j) Γ
def r3J (g : Int → Int → T) : R3 := fun x y Γ Z => ∃ i j, x = .int i ∧ y = .int j ∧ Z (g i j) Γ
theorem oq_I {f : Value → Value → Sem Value} {C : Int → Int → Prop} {g : Int → Int → V} {g3 : Int → Int → T} (h : OpR X f (rI C g)) (e : ∀ i j H, R H (g i j) (g3 i j)) : OpQ X f (r3I C g3) :=
 ⟨_, h, fun x y a b H Γ Q Z ra rb hr q0 vr => by obtain ⟨i, j, ea, eb, c, z⟩ := q0; subst ea eb; exact ⟨i, j, i_int ra, i_int rb, c, vr _ _ H Γ .refl hr (e i j H) z⟩⟩
theorem oq_J {f : Value → Value → Sem Value} {g : Int → Int → V} {g3 : Int → Int → T} (h : OpR X f (rI0 g)) (e : ∀ i j H, R H (g i j) (g3 i j)) : OpQ X f (r3J g3) :=
 ⟨_, h, fun x y a b H Γ Q Z ra rb hr q0 vr => by obtain ⟨i, j, ea, eb, z⟩ := q0; subst ea eb; exact ⟨i, j, i_int ra, i_int rb, vr _ _ H Γ .refl hr (e i j H) z⟩⟩
theorem oq_add : OpQ X (binaryOp .Add) (r3J fun i j => .int (i + j)) := oq_J op_add fun _ _ _ => r_int
theorem oq_sub : OpQ X (binaryOp .Sub) (r3J fun i j => .int (i - j)) := oq_J op_sub fun _ _ _ => r_int
theorem oq_mul : OpQ X (binaryOp .Mult) (r3I CMul fun i j => .int (i * j)) := oq_I op_mul fun _ _ _ => r_int
theorem oq_fdiv : OpQ X (binaryOp .FloorDiv) (r3I CDivG fun i j => .int (i / j)) := oq_I op_fdivG fun _ _ _ => r_int
theorem oq_mod : OpQ X (binaryOp .Mod) (r3I (fun _ j => 0 < j) fun i j => .int (i % j)) := oq_I op_mod fun _ _ _ => r_int
theorem oq_pow : OpQ X (binaryOp .Pow) (r3I CPow fun i j => .int (i ^ j.toNat)) := oq_I op_pow fun _ _ _ => r_int
theorem oq_lt : OpQ X (compareOp .Lt) (r3J fun i j => .bl (decide (i < j))) := oq_J op_lt fun _ _ _ => r_bl
theorem oq_le : OpQ X (compareOp .LtE) (r3J fun i j => .bl (decide (i ≤ j))) := oq_J op_le fun _ _ _ => r_bl
theorem oq_gt : OpQ X (compareOp .Gt) (r3J fun i j => .bl (decide (j < i))) := oq_J op_gt fun _ _ _ => r_bl
theorem oq_iadd : OpQ X (inplaceOp .Add) (r3J fun i j => .int (i + j)) := oq_J iop_add fun _ _ _ => r_int
theorem oq_adds : OpQ X (binaryOp .Add) (fun x y Γ Z => ∃ i j, x = .str i ∧ y = .str j ∧ i.length + j.length ≤ sizeLine ∧ Z (.str (i ++ j)) Γ) :=
 ⟨_, op_add_str, fun x y a b H Γ Q Z ra rb hr q0 vr => by obtain ⟨i, j, ea, eb, c, z⟩ := q0; subst ea eb; exact ⟨i, j, i_str ra, i_str rb, c, vr _ _ H Γ .refl hr r_str z⟩⟩
theorem oq_ins : OpQ X (compareOp .In) (fun x y Γ Z => ∃ i j, x = .str i ∧ y = .str j ∧ Z (.bl (!(Builtin.Str.occurrences j i 0 j.length 1).isEmpty)) Γ) :=
 ⟨_, op_in_str, fun x y a b H Γ Q Z ra rb hr q0 vr => by obtain ⟨i, j, ea, eb, z⟩ := q0; subst ea eb; exact ⟨i, j, i_str ra, i_str rb, vr _ _ H Γ .refl hr r_bl z⟩⟩
theorem oq_nins : OpQ X (compareOp .NotIn) (fun x y Γ Z => ∃ i j, x = .str i ∧ y = .str j ∧ Z (.bl (!(!(Builtin.Str.occurrences j i 0 j.length 1).isEmpty))) Γ) :=
 ⟨_, op_notin_str, fun x y a b H Γ Q Z ra rb hr q0 vr => by obtain ⟨i, j, ea, eb, z⟩ := q0; subst ea eb; exact ⟨i, j, i_str ra, i_str rb, vr _ _ H Γ .refl hr r_bl z⟩⟩
theorem oq_muls : OpQ X (binaryOp .Mult) (fun x y Γ Z => ∃ z k, x = .str z ∧ y = .int k ∧ -(2 ^ 62) < k ∧ k ≤ 1000 ∧ z.length ≤ 1000 ∧ Z (.str (repS z k.toNat)) Γ) :=
 ⟨_, op_mulS, fun x y a b H Γ Q Z ra rb hr q0 vr => by obtain ⟨i, j, ea, eb, c1, c2, c3, z⟩ := q0; subst ea eb; exact ⟨i, j, i_str ra, i_int rb, c1, c2, c3, vr _ _ H Γ .refl hr r_str z⟩⟩
def r3Eq : R3 := fun x y Γ Z => ∃ u v, sc x = some u ∧ sc y = some v ∧ scal u v = true ∧ Z (.bl (decide (u = v))) Γ
def r3Ne : R3 := fun x y Γ Z => ∃ u v, sc x = some u ∧ sc y = some v ∧ scal u v = true ∧ Z (.bl (!decide (u = v))) Γ
theorem oq_eq : OpQ X (compareOp .Eq) r3Eq :=
 ⟨_, op_eq, fun x y a b H Γ Q Z ra rb hr q0 vr => by obtain ⟨u, v, ea, eb, c, z⟩ := q0; rw [sc_r ra ea, sc_r rb eb]; exact ⟨c, vr _ _ H Γ .refl hr r_bl z⟩⟩
theorem oq_ne : OpQ X (compareOp .NotEq) r3Ne :=
 ⟨_, op_ne, fun x y a b H Γ Q Z ra rb hr q0 vr => by obtain ⟨u, v, ea, eb, c, z⟩ := q0; rw [sc_r ra ea, sc_r rb eb]; exact ⟨c, vr _ _ H Γ .refl hr r_bl z⟩⟩
def isNon : T → Bool | .non => true | _ => false
theorem isNon_r {H : Hp} {v : V} {x : T} (r : R H v x) : decide (v = .non) = isNon x := by
 cases x with
 | non => rw [i_non r]; rfl
 | bl b => rw [i_bl r]; rfl
 | int i => rw [i_int r]; rfl
 | str z => rw [i_str r]; rfl
 | tup ts => obtain ⟨a, vs, e, _⟩ := i_tup r; rw [e]; rfl
 | ref a => rw [i_ref r]; rfl
 | ty n => rw [i_ty r]; rfl
 | scr K a ts => rw [(i_scr r).1]; rfl
theorem oq_isN : OpQ X (compareOp .Is) (fun x y Γ Z => y = .non ∧ Z (.bl (isNon x)) Γ) :=
 ⟨_, op_isN, fun x y a b H Γ Q Z ra rb hr q0 vr => by obtain ⟨eb, z⟩ := q0; subst eb; exact ⟨i_non rb, by rw [isNon_r ra]; exact vr _ _ H Γ .refl hr r_bl z⟩⟩
theorem oq_notN : OpQ X (compareOp .IsNot) (fun x y Γ Z => y = .non ∧ Z (.bl (!isNon x)) Γ) :=
 ⟨_, op_notN, fun x y a b H Γ Q Z ra rb hr q0 vr => by obtain ⟨eb, z⟩ := q0; subst eb; exact ⟨i_non rb, by rw [isNon_r ra]; exact vr _ _ H Γ .refl hr r_bl z⟩⟩
def r3In (neg : Bool) : R3 := fun x y Γ Z => ∃ u ts us, sc x = some u ∧ it3 Γ y = some ts ∧ scs ts = some us ∧ flatV u = true ∧ us.all flatV = true ∧ Z (.bl (if neg then !inV u us else inV u us)) Γ
theorem in_sim {neg : Bool} (x y : V) (a b : T) (H : Hp) (Γ : Gp) (Q : VK) (Z : K3) (ra : R H x a) (rb : R H y b) (hr : HR H Γ) (h : r3In neg a b Γ Z) (vr : VR H Γ Z Q) : rIn X.K neg x y H Q := by
 obtain ⟨u, ts, us, ea, eb, es, f1, f2, z⟩ := h
 obtain ⟨p, vs, rfl, sq, q⟩ := it3_r (K := X.K) rb hr eb
 rw [sc_r ra ea]
 cases scs_r q es
 exact ⟨p, _, rfl, sq, f1, f2, vr _ _ H Γ .refl hr r_bl z⟩
theorem oq_in : OpQ X (compareOp .In) (r3In false) := ⟨_, op_in_seq, in_sim⟩
theorem oq_nin : OpQ X (compareOp .NotIn) (r3In true) := ⟨_, op_notIn_seq, in_sim⟩
theorem at_r {H : Hp} {vs : List V} {ts : List T} {i : Int} {t : T} (q : Rs H vs ts) (h : atI ts i = some t) : ∃ v, atI vs i = some v ∧ R H v t := by
 unfold atI at h ⊢
 rw [q.length]
 cases e : ixN ts.length i with
 | none => rw [e] at h; cases h
 | some j =>
  rw [e] at h
  have h' : ts[j]? = some t := h
  obtain ⟨v, hv, r⟩ := q.get h'
  exact ⟨v, hv, r⟩
def r3Ix : R3 := fun x y Γ Z => ∃ ts i t, it3 Γ x = some ts ∧ y = .int i ∧ atI ts i = some t ∧ Z t Γ
def r3IxS : R3 := fun x y Γ Z => ∃ z i c, x = .str z ∧ y = .int i ∧ z.length ≤ sizeLine ∧ atI z.cps.toList i = some c ∧ Z (.str ⟨#[c]⟩) Γ
variable {a b e: Expr}{ta tb te: E3}{pos p2: Pos}
theorem qe_ix (ha : PE X a (liE E ta)) (hb : PE X b (liE E tb)) (hs : PlainIx b) : PE X (.Subscript a b pos) (liE E (eOp r3Ix ta tb)) :=
 weakE (pe_ix ix_seq ha hb hs) (op_sim fun x y a b H Γ Q Z ra rb hr q0 vr => by
  obtain ⟨ts, i, t, ea, eb, h, z⟩ := q0
  subst eb
  obtain ⟨p, vs, rfl, sq, q⟩ := it3_r (K := X.K) ra hr ea
  obtain ⟨v, hv, r⟩ := at_r q h
  rcases sq with sq | sq
  ·exact .inl ⟨p, vs, i, v, rfl, i_int rb, sq, hv, vr _ _ H Γ .refl hr r z⟩
  ·exact .inr (.inl ⟨p, vs, i, v, rfl, i_int rb, sq, hv, vr _ _ H Γ .refl hr r z⟩))
theorem qe_ixS (ha : PE X a (liE E ta)) (hb : PE X b (liE E tb)) (hs : PlainIx b) : PE X (.Subscript a b pos) (liE E (eOp r3IxS ta tb)) :=
 weakE (pe_ix ix_str ha hb hs) (op_sim fun x y a b H Γ Q Z ra rb hr q0 vr => by
  obtain ⟨w, i, c, ea, eb, l, h, z⟩ := q0
  subst ea eb
  exact ⟨w, i, c, i_str ra, i_int rb, l, h, vr _ _ H Γ .refl hr r_str z⟩)
abbrev O3 := X3 → S3 → Gp → (Option Int → Gp → Prop) → Prop
def liO (E : St → XK) (t : O3) : TO := fun σ H Q => ∃ τ Γ Y Z, RS H σ τ ∧ HR H Γ ∧ t Y τ Γ Z ∧ (∀ i H' Γ', Stp H Γ H' Γ' → HR H' Γ' → Z i Γ' → Q i H') ∧ XR H Γ Y E
theorem weakO {e : Option Expr} {t t' : TO} (h : PO X e t) (w : ∀ σ H Q, t' σ H Q → t σ H Q) : PO X e t' := ⟨fun pins s σ H Q I q => h.run pins s σ H Q I (w _ _ _ q)⟩
theorem weakO3 {e : Option Expr} {t0 : TO} {t : O3} (h : PO X e t0) (w : ∀ σ H Q τ Γ Y Z, RS H σ τ → HR H Γ → t Y τ Γ Z → (∀ i H' Γ', Stp H Γ H' Γ' → HR H' Γ' → Z i Γ' → Q i H') → XR H Γ Y E → t0 σ H Q) : PO X e (liO E t) :=
 weakO h (by rintro σ H Q ⟨τ, Γ, Y, Z, rs, hr, q, vr, xr⟩; exact w σ H Q τ Γ Y Z rs hr q vr xr)
def oNone : O3 := fun _ _ Γ Z => Z none Γ
def oSome (t : E3) : O3 := fun Y τ Γ Z => t Y τ Γ fun x Γ1 => ∃ i, x = .int i ∧ Z (some i) Γ1
theorem qo_none : PO X none (liO E oNone) := weakO3 po_none fun σ H Q τ Γ Y Z rs hr t vr xr => vr none H Γ .refl hr t
theorem qo_some (h : PE X e (liE E te)) : PO X (some e) (liO E (oSome te)) := weakO3 (po_some h) fun σ H Q τ Γ Y Z rs hr t vr xr =>
 ⟨τ, Γ, Y, _, rs, hr, t, fun v x H1 Γ1 s1 h1 r1 q0 => by obtain ⟨i, ex, z⟩ := q0; subst ex; exact ⟨i, i_int r1, vr _ H1 Γ1 s1 h1 z⟩, xr⟩
abbrev L3r := T → Option Int → Option Int → Gp → K3 → Prop
def SlQ (X : Cx) (r3 : L3r) : Prop := ∃ r, SlR X r ∧ ∀ x a lo hi H Γ Q Z, R H x a → HR H Γ → r3 a lo hi Γ Z → VR H Γ Z Q → r x lo hi H Q
def eSl (r : L3r) (te : E3) (tl th : O3) : E3 := fun Y τ Γ Z => te Y τ Γ fun x Γ1 => tl Y τ Γ1 fun l Γ2 => th Y τ Γ2 fun u Γ3 => r x l u Γ3 Z
theorem qe_slice {r3 : L3r} {lo hi : Option Expr} {tl th : O3} (hs : SlQ X r3) (he : PE X e (liE E te)) (hl : PO X lo (liO E tl)) (hu : PO X hi (liO E th)) : PE X (.Subscript e (.Slice lo hi none p2) pos) (liE E (eSl r3 te tl th)) := by
 obtain ⟨r, hr0, sim⟩ := hs
 refine weakE3 (pe_slice hr0 he hl hu) fun σ H Q τ Γ Y Z rs hr t vr xr => ?_
 refine ⟨τ, Γ, Y, _, rs, hr, t, fun v x H1 Γ1 s1 h1 r1 z1 => ?_, xr⟩
 refine ⟨τ, Γ1, Y, _, rs.mono s1.tq, h1, z1, fun l H2 Γ2 s2 h2 z2 => ?_, xr.mono s1⟩
 refine ⟨τ, Γ2, Y, _, rs.mono (s1.trans s2).tq, h2, z2, fun u H3 Γ3 s3 h3 z3 => ?_, xr.mono (s1.trans s2)⟩
 exact sim v x l u H3 Γ3 Q Z (r1.mono (s2.trans s3).tq) h3 z3 (vr.mono ((s1.trans s2).trans s3))
theorem sq_str : SlQ X (fun x lo hi Γ Z => ∃ z : Str, x = .str z ∧ z.length ≤ sizeLine ∧ ∀ y : Str, y.cps.toList = cutN z.cps.toList lo hi → Z (.str y) Γ) :=
 ⟨_, sl_str, fun x a lo hi H Γ Q Z ra hr q0 vr => by
  obtain ⟨w, ea, l, z⟩ := q0
  subst ea
  exact ⟨w, i_str ra, l, fun y hy => vr _ _ H Γ .refl hr r_str (z y hy)⟩⟩
def r3U (g : Int → T) : T → Gp → K3 → Prop := fun x Γ Z => ∃ i, x = .int i ∧ Z (g i) Γ
def eUn (r : T → Gp → K3 → Prop) (ta : E3) : E3 := fun Y τ Γ Z => ta Y τ Γ fun x Γ1 => r x Γ1 Z
theorem qe_neg (ha : PE X a (liE E ta)) : PE X (.UnaryOp .USub a pos) (liE E (eUn (r3U fun i => .int (-i)) ta)) :=
 weakE3 (pe_un un_neg ha) fun σ H Q τ Γ Y Z rs hr t vr xr =>
  ⟨τ, Γ, Y, _, rs, hr, t, fun v x H1 Γ1 s1 h1 r1 q0 => by obtain ⟨i, ex, z⟩ := q0; subst ex; exact ⟨i, i_int r1, vr _ _ H1 Γ1 s1 h1 r_int z⟩, xr⟩
abbrev F3 := List T → Gp → K3 → Prop
def CallQ (X : Cx) (f : Value) (r3 : F3) : Prop := ∃ r, CallR X f r ∧ ∀ vs ts H Γ Q Z, Rs H vs ts → HR H Γ → r3 ts Γ Z → VR H Γ Z Q → r vs H Q
def eCB (r : F3) (t : A3) : E3 := fun Y τ Γ Z => t Y τ Γ fun ts Γ1 => r ts Γ1 Z
theorem cb_sim {r : List V → Hp → VK → Prop} {r3 : F3} {t : A3} (h : ∀ vs ts H Γ Q Z, Rs H vs ts → HR H Γ → r3 ts Γ Z → VR H Γ Z Q → r vs H Q) (σ : St) (H : Hp) (Q : VK) (q : liE E (eCB r3 t) σ H Q) : tCB r (liA E t) σ H Q := by
 obtain ⟨τ, Γ, Y, Z, rs, hr, t, vr, xr⟩ := q
 exact ⟨τ, Γ, Y, _, rs, hr, t, fun vs xs H1 Γ1 s1 h1 r1 z1 => h vs xs H1 Γ1 Q Z r1 h1 z1 (vr.mono s1), xr⟩
section
variable {x: Str}{p pos: Pos}{e: Expr}{es: List Expr}{t: A3}{id Tn: String}{r3: F3}
theorem qe_callB (hc : CallQ X (.builtin id) r3) (hg : Gl X x) (hm : X.mg x = none) (hv : bootBuiltins x = some (.builtin id)) (ha : PA X (e :: es) (liA E t)) (hn : x ≠ "__name__" := by decide) (hdb : (x == ("__debug__" : Str)) = false := by decide)
  (he : starEach (e :: es) X.env = (false, eval e X.env) :: starEach es X.env := by rfl) (hpl : (backTo pos (starEach es X.env)).any (·.1) = false := by rfl) : PE X (.Call (.Name x p) (e :: es) [] pos) (liE E (eCB r3 t)) := by
 obtain ⟨r, hr, h⟩ := hc
 exact weakE (pe_callB hr hg hm hv ha hn hdb he hpl) (cb_sim h)
theorem qe_callTy (hc : CallQ X (.type Tn) r3) (hg : Gl X x) (hm : X.mg x = none) (hv : bootBuiltins x = some (.type Tn)) (ha : PA X (e :: es) (liA E t)) (hn : x ≠ "__name__" := by decide) (hdb : (x == ("__debug__" : Str)) = false := by decide)
  (he : starEach (e :: es) X.env = (false, eval e X.env) :: starEach es X.env := by rfl) (hpl : (backTo pos (starEach es X.env)).any (·.1) = false := by rfl) : PE X (.Call (.Name x p) (e :: es) [] pos) (liE E (eCB r3 t)) := by
 obtain ⟨r, hr, h⟩ := hc
 exact weakE (pe_callTy hr hg hm hv ha hn hdb he hpl) (cb_sim h)
end
theorem rs1 {H : Hp} {vs : List V} {x : T} (h : Rs H vs [x]) : ∃ v, vs = [v] ∧ R H v x := by
 obtain ⟨v, ws, rfl, a, b⟩ := rs_inv h
 exact ⟨v, by rw [rs_inv0 b], a⟩
theorem rs2 {H : Hp} {vs : List V} {x y : T} (h : Rs H vs [x, y]) : ∃ v w, vs = [v, w] ∧ R H v x ∧ R H w y := by
 obtain ⟨v, ws, rfl, a, b⟩ := rs_inv h
 obtain ⟨w, rfl, c⟩ := rs1 b
 exact ⟨v, w, rfl, a, c⟩
theorem cq_len : CallQ X (.builtin "len") (fun xs Γ Z => ∃ x ts, xs = [x] ∧ it3 Γ x = some ts ∧ Z (.int ts.length) Γ) :=
 ⟨_, call_len_seq, fun vs xs H Γ Q Z r hr q0 vr => by
  obtain ⟨x, ts, e, h, z⟩ := q0
  subst e
  obtain ⟨v, rfl, rv⟩ := rs1 r
  obtain ⟨p, us, rfl, sq, q⟩ := it3_r (K := X.K) rv hr h
  exact ⟨p, us, rfl, sq, by rw [q.length]; exact vr _ _ H Γ .refl hr r_int z⟩⟩
theorem cq_lens : CallQ X (.builtin "len") (fun xs Γ Z => ∃ z : Str, xs = [.str z] ∧ z.length ≤ sizeLine ∧ Z (.int z.length) Γ) :=
 ⟨_, call_len_str, fun vs xs H Γ Q Z r hr q0 vr => by
  obtain ⟨w, e, l, z⟩ := q0
  subst e
  obtain ⟨v, rfl, rv⟩ := rs1 r
  exact ⟨w, by rw [i_str rv], l, vr _ _ H Γ .refl hr r_int z⟩⟩
theorem cq_tuple : CallQ X (.type "tuple") (fun xs Γ Z => ∃ x ts, xs = [x] ∧ it3 Γ x = some ts ∧ Z (.tup ts) Γ) :=
 ⟨_, call_tuple_of, fun vs xs H Γ Q Z r hr q0 vr => by
  obtain ⟨x, ts, e, h, z⟩ := q0
  subst e
  obtain ⟨v, rfl, rv⟩ := rs1 r
  cases x with
  | tup us =>
   cases h
   obtain ⟨a, ws, rfl, ha, q⟩ := i_tup rv
   exact ⟨a, ws, rfl, .inr ⟨SqT.of ha, vr _ _ H Γ .refl hr (r_tup ha q) z⟩⟩
  | ref a =>
   obtain ⟨us, sq, q⟩ := it3_a (K := X.K) hr h
   refine ⟨a, us, by rw [i_ref rv], .inl ⟨sq, fun l hl => ?_⟩⟩
   have k := keep_new (o := .tup us) hl
   exact vr _ _ _ Γ (.keep k) (hr.keep k) (r_tup upd_same (q.mono (tq_kp k))) z
  | _ => cases h⟩
theorem cq_str : CallQ X (.type "str") (fun xs Γ Z => ∃ i : Int, xs = [.int i] ∧ i.natAbs.log2 < 1920 ∧ Z (.str (toString i)) Γ) :=
 ⟨_, call_str_int, fun vs xs H Γ Q Z r hr q0 vr => by
  obtain ⟨i, e, l, z⟩ := q0
  subst e
  obtain ⟨v, rfl, a⟩ := rs1 r
  exact ⟨i, by rw [i_int a], l, vr _ _ H Γ .refl hr r_str z⟩⟩
theorem rs_bls {H : Hp} : ∀ {ns : List Bool} {vs : List V}, Rs H vs (ns.map T.bl) → vs = ns.map V.bl
 | [], vs, h => rs_inv0 h
 | n :: r, vs, h => by
  obtain ⟨v, ws, rfl, a, b⟩ := rs_inv h
  rw [i_bl a, rs_bls b]; rfl
theorem rs_strs {H : Hp} : ∀ {ns : List Str} {vs : List V}, Rs H vs (ns.map T.str) → vs = ns.map V.str
 | [], vs, h => rs_inv0 h
 | n :: r, vs, h => by
  obtain ⟨v, ws, rfl, a, b⟩ := rs_inv h
  rw [i_str a, rs_strs b]; rfl
theorem cq_all (hc : X.calm = true) : CallQ X (.builtin "all") (fun xs Γ Z => ∃ (p : Addr) (bs : List Bool), xs = [.ref p] ∧ it3 Γ (.ref p) = some (bs.map T.bl) ∧ Z (.bl (bs.all id)) Γ) :=
 ⟨_, call_allL hc, fun vs xs H Γ Q Z r hr q0 vr => by
  obtain ⟨p, ns, e, g, z⟩ := q0
  subst e
  obtain ⟨v, rfl, a⟩ := rs1 r
  obtain ⟨us, sq, q⟩ := it3_a (K := X.K) hr g
  rw [rs_bls q] at sq
  exact ⟨p, ns, by rw [i_ref a], sq, vr _ _ H Γ .refl hr r_bl z⟩⟩
def tyOf (Γ : Gp) : T → Option String
 | .non => some "NoneType" | .bl _ => some "bool" | .int _ => some "int" | .str _ => some "str" | .tup _ => some "tuple"
 | .ref a => match Γ a with | some (.lst _) => some "list" | some (.dK _) => some "dict" | _ => none
 | .ty _ => none
 | .scr _ _ _ => none
theorem tyOf_r {K : PySem.W.Frag} {H : Hp} {Γ : Gp} {v : V} {x : T} {n : String} (r : R H v x) (hr : HR H Γ) (h : tyOf Γ x = some n) : TyOf K H v (.type n) := by
 cases x with
 | non => cases h; rw [i_non r]; exact .non
 | bl b => cases h; rw [i_bl r]; exact .bl b
 | int i => cases h; rw [i_int r]; exact .int i
 | str z => cases h; rw [i_str r]; exact .str z
 | tup ts => cases h; obtain ⟨a, vs, e, ha, _⟩ := i_tup r; rw [e]; exact .tup ha
 | ty n => cases h
 | scr K a ts => cases h
 | ref a =>
  rw [i_ref r]
  have h : (match Γ a with | some (.lst _) => some "list" | some (.dK _) => some "dict" | _ => none) = some n := h
  split at h
  ·rename_i g; cases h; obtain ⟨vs, hv, _⟩ := hr a _ g; exact .lst hv
  ·rename_i g; cases h; obtain ⟨vs, hv, _⟩ := hr a _ g; exact .dK hv
  ·cases h
def eInst (K : PySem.W.Frag) (Ty : String) (te : E3) : E3 := fun Y τ Γ Z => te Y τ Γ fun x Γ1 => ∃ n b, tyOf Γ1 x = some n ∧ PySem.W.kitOne K (.type n) (.type Ty) = some b ∧ Z (.bl b) Γ1
theorem qe_inst {x : Expr} {te : E3} {p p2 pos : Pos} {Tn : Str} {Ty : String} (hg : Gl X "isinstance") (hm : X.mg "isinstance" = none) (hgT : Gl X Tn) (hmT : X.mg Tn = none) (hvT : bootBuiltins Tn = some (.type Ty)) (he : PE X x (liE E te)) (hn : Tn ≠ "__name__" := by decide) (hdT : (Tn == ("__debug__" : Str)) = false := by decide)
  (hs : starEach [x, .Name Tn p2] X.env = (false, eval x X.env) :: starEach [.Name Tn p2] X.env := by rfl) (hs2 : starEach [.Name Tn p2] X.env = [(false, eval (.Name Tn p2) X.env)] := by rfl)
  (hpl : (backTo pos (starEach [.Name Tn p2] X.env)).any (·.1) = false := by rfl) : PE X (.Call (.Name "isinstance" p) [x, .Name Tn p2] [] pos) (liE E (eInst X.K Ty te)) :=
 weakE3 (pe_inst hg hm hgT hmT hvT he hn hdT hs hs2 hpl) fun σ H Q τ Γ Y Z rs hr t vr xr =>
  ⟨τ, Γ, Y, _, rs, hr, t, fun v x H1 Γ1 s1 h1 r1 ⟨n, b, ty, k, z⟩ => ⟨v, rfl, .type n, b, tyOf_r r1 h1 ty, k, vr _ _ H1 Γ1 s1 h1 r_bl z⟩, xr⟩
theorem cq_lenC : CallQ X (.builtin "len") (fun xs Γ Z => ∃ a ts, xs = [.scr X.K a ts] ∧ Z (.int ts.length) Γ) :=
 ⟨_, call_len_seq, fun vs xs H Γ Q Z r hr q0 vr => by
  obtain ⟨a, ts, e, z⟩ := q0
  subst e
  obtain ⟨v, rfl, rv⟩ := rs1 r
  obtain ⟨rfl, us, sq, q⟩ := i_scr rv
  exact ⟨a, us, rfl, .inl sq.sq, by rw [q.length]; exact vr _ _ H Γ .refl hr r_int z⟩⟩
end
end L3
set_option Elab.async false
set_option linter.all false
set_option maxRecDepth 100000
namespace L3
open PySem PySem.Spec L2
open PyProof.Rows hiding St
section
variable {X: Cx}{E: St → XK}{tg l: Expr}{tl: E3}{pos p: Pos}
abbrev gT : Gp → Prop := fun _ => True
def iTp (tl : E3) : I3 := fun Y τ Γ Z => tl Y τ Γ fun x Γ1 => ∃ ts, x = .tup ts ∧ Z ts gT Γ1
theorem walk_tup {K : PySem.W.Frag} {H : Hp} {a : Addr} {vs : List V} {ts : List T} (ha : H a = some (.tup vs)) (q : Rs H vs ts) : Walks (Itt K a) ts gT H where
 go := fun i H' Γ t hr _ hi => ⟨vs, vs[i]'(by rw [q.length]; exact hi), SqT.of (t.1 a vs ha), by simp⟩
 yld := fun i H' Γ x H2 t hr _ hi q0 => by
  obtain ⟨e, y⟩ := q0
  subst e
  obtain ⟨t', e', r⟩ := (q.mono t).getV (y vs (SqT.of (t.1 a vs ha)))
  exact ⟨.refl, hr, t', e', r⟩
 stop := fun H' Γ t hr _ => ⟨vs, SqT.of (t.1 a vs ha), by rw [q.length]; exact Nat.le_refl _⟩
theorem qi_tup (hl : PE X l (liE E tl)) : PI X tg l (liI E (iTp tl)) :=
 weakI3 (pi_tup hl) fun σ H Q τ Γ Y Z rs hr t vr xr => ⟨τ, Γ, Y, _, rs, hr, t, fun v x H1 Γ1 s1 h1 r1 ⟨ts, ex, z⟩ => by
  subst ex
  obtain ⟨a, vs, rfl, ha, q⟩ := i_tup r1
  exact ⟨a, rfl, ⟨vs, SqT.of ha⟩, vr _ ts gT H1 Γ1 s1 h1 (walk_tup ha q) z⟩, xr⟩
def iLs (tl : E3) : I3 := fun Y τ Γ Z => tl Y τ Γ fun x Γ1 => ∃ a ts, x = .ref a ∧ it3 Γ1 (.ref a) = some ts ∧ Z ts (fun Γ' => it3 Γ' (.ref a) = some ts) Γ1
theorem walk_list {K : PySem.W.Frag} {H : Hp} {a : Addr} {ts : List T} : Walks (Itl K a) ts (fun Γ' => it3 Γ' (.ref a) = some ts) H where
 go := fun i H' Γ t hr g hi => by
  obtain ⟨vs, sq, q⟩ := it3_a (K := K) hr g
  exact ⟨vs, vs[i]'(by rw [q.length]; exact hi), sq, by simp⟩
 yld := fun i H' Γ x H2 t hr g hi q0 => by
  obtain ⟨e, y⟩ := q0
  subst e
  obtain ⟨vs, sq, q⟩ := it3_a (K := K) hr g
  obtain ⟨t', e', r⟩ := q.getV (y vs sq)
  exact ⟨.refl, hr, t', e', r⟩
 stop := fun H' Γ t hr g => by
  obtain ⟨vs, sq, q⟩ := it3_a (K := K) hr g
  exact ⟨vs, sq, by rw [q.length]; exact Nat.le_refl _⟩
theorem qi_list (hl : PE X l (liE E tl)) : PI X tg l (liI E (iLs tl)) :=
 weakI3 (pi_list hl) fun σ H Q τ Γ Y Z rs hr t vr xr => ⟨τ, Γ, Y, _, rs, hr, t, fun v x H1 Γ1 s1 h1 r1 ⟨a, ts, ex, g, z⟩ => by
  subst ex
  obtain ⟨vs, sq, q⟩ := it3_a (K := X.K) h1 g
  exact ⟨a, i_ref r1, ⟨vs, sq⟩, vr _ ts _ H1 Γ1 s1 h1 walk_list z⟩, xr⟩
def rngT (lo : Int) : Nat → List T
 | 0 => []
 | n + 1 => .int lo :: rngT (lo + 1) n
theorem rngT_len : ∀ (n : Nat) (lo : Int), (rngT lo n).length = n
 | 0, _ => rfl
 | n + 1, lo => by rw [rngT, List.length_cons, rngT_len n]
theorem rngT_get : ∀ (n : Nat) (lo : Int) (i : Nat), i < n → (rngT lo n)[i]? = some (.int (lo + i))
 | 0, _, i, h => absurd h (Nat.not_lt_zero _)
 | n + 1, lo, 0, _ => by rw [rngT]; simp
 | n + 1, lo, i + 1, h => by
  rw [rngT, List.getElem?_cons_succ, rngT_get n (lo + 1) i (by omega)]
  congr 2
  omega
theorem walk_range {H : Hp} (lo : Int) (n : Nat) : Walks (Itr lo n) (rngT lo n) gT H where
 go := fun i H' Γ t hr _ hi => by rw [rngT_len] at hi; exact hi
 yld := fun i H' Γ x H2 t hr _ hi q0 => by
  obtain ⟨e, y⟩ := q0
  subst e y
  rw [rngT_len] at hi
  exact ⟨.refl, hr, _, rngT_get n lo i hi, r_int⟩
 stop := fun H' Γ t hr _ => by rw [rngT_len]; exact Nat.le_refl _
def iRg1 (ta : A3) : I3 := fun Y τ Γ Z => ta Y τ Γ fun xs Γ1 => ∃ j : Int, xs = [.int j] ∧ -(2 ^ 62) ≤ j ∧ j < 2 ^ 62 ∧ Z (rngT 0 j.toNat) gT Γ1
theorem qi_range1 {a : Expr} {ta : A3} (hg : Gl X "range") (hm : X.mg "range" = none) (ha : PA X [a] (liA E ta)) (hs : starEach [a] X.env = [(false, eval a X.env)] := by rfl) : PI X tg (.Call (.Name "range" p) [a] [] pos) (liI E (iRg1 ta)) :=
 weakI3 (pi_range1 hg hm ha hs) fun σ H Q τ Γ Y Z rs hr t vr xr => ⟨τ, Γ, Y, _, rs, hr, t, fun vs xs H1 Γ1 s1 h1 r1 ⟨j, ex, b1, b2, z⟩ => by
  subst ex
  obtain ⟨v, rfl, a⟩ := rs1 r1
  exact ⟨j, by rw [i_int a], b1, b2, vr _ _ gT H1 Γ1 s1 h1 (walk_range 0 _) z⟩, xr⟩
def zipT : List T → List T → List T
 | x :: r, y :: q => .tup [x, y] :: zipT r q
 | _, _ => []
theorem zipT_len : ∀ {xs ys : List T}, (zipT xs ys).length = min xs.length ys.length
 | [], _ => by simp [zipT]
 | _ :: _, [] => by simp [zipT]
 | x :: r, y :: q => by rw [zipT, List.length_cons, zipT_len, List.length_cons, List.length_cons]; omega
theorem zipT_get : ∀ {xs ys : List T} {i : Nat} {x y : T}, xs[i]? = some x → ys[i]? = some y → (zipT xs ys)[i]? = some (.tup [x, y])
 | [], _, _, _, _, h, _ => by simp at h
 | _ :: _, [], _, _, _, _, h => by simp at h
 | a :: r, b :: q, 0, x, y, h, h' => by cases h; cases h'; rfl
 | a :: r, b :: q, i + 1, x, y, h, h' => by rw [zipT, List.getElem?_cons_succ]; exact zipT_get (by simpa using h) (by simpa using h')
def iZp (ta : A3) : I3 := fun Y τ Γ Z => ta Y τ Γ fun xs Γ1 => ∃ ts us, xs = [.tup ts, .tup us] ∧ Z (zipT ts us) gT Γ1
theorem walk_zip {K : PySem.W.Frag} {H : Hp} {a b : Addr} {vs ws : List V} {ts us : List T} (ha : H a = some (.tup vs)) (q : Rs H vs ts) (hb : H b = some (.tup ws)) (q' : Rs H ws us) : Walks (Itz K a b) (zipT ts us) gT H where
 go := fun i H' Γ t hr _ hi => by
  rw [zipT_len] at hi
  exact ⟨vs, ws, vs[i]'(by rw [q.length]; omega), ws[i]'(by rw [q'.length]; omega), SqT.of (t.1 a vs ha), SqT.of (t.1 b ws hb), by simp, by simp⟩
 yld := fun i H' Γ v H2 t hr _ hi q0 => by
  obtain ⟨p, x, y, hp, e1, e2, y1, y2⟩ := q0
  subst e1 e2
  obtain ⟨t1, f1, r1⟩ := (q.mono t).getV (y1 vs (SqT.of (t.1 a vs ha)))
  obtain ⟨t2, f2, r2⟩ := (q'.mono t).getV (y2 ws (SqT.of (t.1 b ws hb)))
  have k := keep_new (o := .tup [x, y]) hp
  exact ⟨.keep k, hr.keep k, _, zipT_get f1 f2, r_tup upd_same (rs_cons (r1.mono (tq_kp k)) (rs_cons (r2.mono (tq_kp k)) rs_nil))⟩
 stop := fun H' Γ t hr _ => ⟨vs, ws, SqT.of (t.1 a vs ha), SqT.of (t.1 b ws hb), by rw [zipT_len, q.length, q'.length]; omega⟩
theorem qi_zip {a b : Expr} {ta : A3} {elts : List Expr} {kk : Nat} {tpos : Pos} (hg : Gl X "zip") (hm : X.mg "zip" = none) (ha : PA X [a, b] (liA E ta)) (hs : starEach [a, b] X.env = [(false, eval a X.env), (false, eval b X.env)] := by rfl) (hs2 : starEach [b] X.env = [(false, eval b X.env)] := by rfl) :
  PI X (.Tuple elts kk tpos) (.Call (.Name "zip" p) [a, b] [] pos) (liI E (iZp ta)) :=
 weakI3 (pi_zip hg hm ha hs hs2) fun σ H Q τ Γ Y Z rs hr t vr xr => ⟨τ, Γ, Y, _, rs, hr, t, fun vs xs H1 Γ1 s1 h1 r1 ⟨ts, us, ex, z⟩ => by
  subst ex
  obtain ⟨v, w, rfl, a, b⟩ := rs2 r1
  obtain ⟨pa, va, rfl, ha, qa⟩ := i_tup a
  obtain ⟨pb, vb, rfl, hb, qb⟩ := i_tup b
  exact ⟨pa, pb, va, vb, rfl, SqT.of ha, SqT.of hb, vr _ _ gT H1 Γ1 s1 h1 (walk_zip ha qa hb qb) z⟩, xr⟩
def signsT (z : Str) : List T := z.cps.toList.map fun c => .str ⟨#[c]⟩
def iSt (tl : E3) : I3 := fun Y τ Γ Z => tl Y τ Γ fun x Γ1 => ∃ z, x = .str z ∧ Z (signsT z) gT Γ1
theorem walk_str {H : Hp} (z : Str) : Walks (Its z) (signsT z) gT H where
 go := fun i H' Γ t hr _ hi => by
  unfold signsT at hi
  rw [List.length_map, Array.length_toList] at hi
  exact hi
 yld := fun i H' Γ x H2 t hr _ hi q0 => by
  obtain ⟨e, c, hc, ex⟩ := q0
  subst e ex
  refine ⟨.refl, hr, .str ⟨#[c]⟩, ?_, r_str⟩
  unfold signsT
  rw [List.getElem?_map, Array.getElem?_toList, hc]
  rfl
 stop := fun H' Γ t hr _ => by
  show z.cps.size ≤ (signsT z).length
  unfold signsT
  rw [List.length_map, Array.length_toList]
  exact Nat.le_refl _
theorem qi_str (hl : PE X l (liE E tl)) : PI X tg l (liI E (iSt tl)) :=
 weakI3 (pi_str hl) fun σ H Q τ Γ Y Z rs hr t vr xr => ⟨τ, Γ, Y, _, rs, hr, t, fun v x H1 Γ1 s1 h1 r1 ⟨z, ex, zz⟩ => by
  subst ex
  exact ⟨z, i_str r1, vr _ _ gT H1 Γ1 s1 h1 (walk_str z) zz⟩, xr⟩
abbrev M3r := T → List T → Gp → K3 → Prop
def MQ (X : Cx) (id : String) (r3 : M3r) : Prop := ∃ r, MtR X id r ∧ ∀ v x vs ts H Γ Q Z, R H v x → Rs H vs ts → HR H Γ → r3 x ts Γ Z → VR H Γ Z Q → r v vs H Q
def eBM (Tn : String) (r3 : M3r) (to : E3) (t : A3) : E3 := fun Y τ Γ Z => to Y τ Γ fun x Γ1 => tyOf Γ1 x = some Tn ∧ t Y τ Γ1 fun xs Γ2 => r3 x xs Γ2 Z
theorem tyV_of {K : PySem.W.Frag} {H : Hp} {Γ : Gp} {v : V} {x : T} {n : String} (r : R H v x) (hr : HR H Γ) (h : tyOf Γ x = some n) (hn : n = "list" ∨ n = "str" ∨ n = "dict") : tyV K n v H := by
 have ty := tyOf_r (K := K) r hr h
 cases x with
 | non => cases h; rcases hn with h | h | h <;> exact absurd h (by decide)
 | bl b => cases h; rcases hn with h | h | h <;> exact absurd h (by decide)
 | int i => cases h; rcases hn with h | h | h <;> exact absurd h (by decide)
 | str z => cases h; rw [i_str r]; rfl
 | tup ts => cases h; rcases hn with h | h | h <;> exact absurd h (by decide)
 | ty n => cases h
 | scr K a ts => cases h
 | ref a =>
  rw [i_ref r]
  have h : (match Γ a with | some (.lst _) => some "list" | some (.dK _) => some "dict" | _ => none) = some n := h
  split at h
  ·rename_i g; cases h; obtain ⟨vs, hv, _⟩ := hr a _ g; exact .inl ⟨rfl, vs, SqL.of hv⟩
  ·rename_i g; cases h; obtain ⟨vs, hv, _⟩ := hr a _ g; exact .inr (.inr (.inl ⟨rfl, .inl ⟨vs, hv⟩⟩))
  ·cases h
section
variable {o e: Expr}{es: List Expr}{to: E3}{t: A3}{name: Str}{apos cpos: Pos}{Tn id: String}{r3: M3r}
theorem qe_bm (pa : PlainAttrs Tn) (slot : Slot Tn name id) (hty : typeOf (.builtin id) = pure (.type "method_descriptor")) (hm : MQ X id r3) (ho : PE X o (liE E to)) (ha : PA X (e :: es) (liA E t)) (hn : Tn = "list" ∨ Tn = "str" ∨ Tn = "dict" := by decide)
  (hbase : attributeBase o name X.env (eval o X.env) = eval o X.env := by rfl)
  (hfew : ((backTo cpos (starEach (e :: es) X.env)).all (fun x => !x.1) && (backToKw cpos (keywordEach [] X.env)).all (fun x => x.1.isSome)
   && decide ((e :: es).length + ([] : List Keyword).length + (if ([] : List Keyword).isEmpty then 0 else 1) < 30)) = true := by rfl)
  (hline : (apos.endLine == cpos.line) = true := by rfl) (hs : starEach (e :: es) X.env = (false, eval e X.env) :: starEach es X.env := by rfl) (hplain : (backTo cpos (starEach es X.env)).any (·.1) = false := by rfl) :
  PE X (.Call (.Attribute o name apos) (e :: es) [] cpos) (liE E (eBM Tn r3 to t)) := by
 obtain ⟨r, hm, sim⟩ := hm
 exact weakE3 (pe_bm pa slot hty hm ho ha hbase hfew hline hs hplain) fun σ H Q τ Γ Y Z rs hr t vr xr => ⟨τ, Γ, Y, _, rs, hr, t, fun v x H1 Γ1 s1 h1 r1 ⟨ty, z⟩ =>
  ⟨tyV_of r1 h1 ty hn, τ, Γ1, Y, _, rs.mono s1.tq, h1, z, fun vs xs H2 Γ2 s2 h2 r2 z2 => sim v x vs xs H2 Γ2 Q Z (r1.mono s2.tq) r2 h2 z2 (vr.mono (s1.trans s2)), xr.mono s1⟩, xr⟩
end
theorem mq_append : MQ X "list.append" (fun x ts Γ Z => ∃ a us y, x = .ref a ∧ ts = [y] ∧ Γ a = some (.lst us) ∧ us.length < sizeLine ∧ Z .non (up Γ a (.lst (us ++ [y])))) :=
 ⟨_, mt_append, fun v x vs ts H Γ Q Z r rs hr q0 vr => by
  obtain ⟨a, us, y, ex, et, g, l, z⟩ := q0
  subst ex et
  obtain ⟨w, rfl, rw'⟩ := rs1 rs
  obtain ⟨ws, hw, q⟩ := hr a _ g
  refine ⟨a, ws, w, i_ref r, rfl, hw, by rw [q.length]; exact l, ?_⟩
  have s : Stp H Γ (upd H a (.lst (ws ++ [w]))) (up Γ a (.lst (us ++ [y]))) := .set hr g
  exact vr _ _ _ _ s (hr.set g ⟨_, upd_same, Rs.app (q.mono s.tq) (rs_cons (rw'.mono s.tq) rs_nil)⟩) r_non z⟩
end
end L3
set_option Elab.async false
set_option linter.all false
set_option maxRecDepth 100000
namespace L3
open PySem PySem.Spec L2
open PyProof.Rows hiding St
def Le (Γ Γ' : Gp) : Prop := ∀ a o, Γ a = some o → Γ' a = some o
theorem Le.refl {Γ : Gp} : Le Γ Γ := fun _ _ h => h
theorem Le.trans {Γ Γ1 Γ' : Gp} (a : Le Γ Γ1) (b : Le Γ1 Γ') : Le Γ Γ' := fun x o h => b x o (a x o h)
theorem Le.new {Γ : Gp} {p : Addr} {o : O} (h : Γ p = none) : Le Γ (up Γ p o) := fun b u q => by rw [up_ne (gnn q h)]; exact q
theorem HR.le {H : Hp} {Γ Γ' : Gp} (h : HR H Γ') (l : Le Γ Γ') : HR H Γ := fun a o e => h a o (l a o e)
def Kq (l : List Addr) (Γ Γ' : Gp) : Prop := ∀ b o, b ∉ l → Γ b = some o → Γ' b = some o
theorem Kq.refl {l : List Addr} {Γ : Gp} : Kq l Γ Γ := fun _ _ _ h => h
theorem Kq.trans {l : List Addr} {Γ Γ1 Γ' : Gp} (a : Kq l Γ Γ1) (b : Kq l Γ1 Γ') : Kq l Γ Γ' := fun c o n h => b c o n (a c o n h)
theorem Kq.set {l : List Addr} {Γ : Gp} {p : Addr} (h : p ∈ l) (o : O) : Kq l Γ (up Γ p o) := fun b u n q => by
 have e : b ≠ p := fun z => n (by rw [z]; exact h)
 rw [up_ne e]; exact q
theorem Le.kq {l : List Addr} {Γ Γ' : Gp} (k : Le Γ Γ') : Kq l Γ Γ' := fun a o _ h => k a o h
def dropK (Z : K3) : K3 := fun x Γ' => ∃ Γ2, Le Γ2 Γ' ∧ Z x Γ2
theorem drop0 {Z : K3} {x : T} {Γ Γ' : Gp} (k : Le Γ Γ') (z : Z x Γ) : dropK Z x Γ' := ⟨Γ, k, z⟩
theorem dropL1 {Z : K3} {x : T} {Γ Γ' : Gp} {a : Addr} {o : O} (k : Kq [a] Γ Γ') (h : Γ' a = some o) (z : Z x (up Γ a o)) : dropK Z x Γ' := ⟨up Γ a o, fun b u q => by
 by_cases e : b = a
 ·subst e; rw [up_same] at q; cases q; exact h
 ·rw [up_ne e] at q; exact k b u (by simpa using e) q, z⟩
theorem Stp.cut {H H' : Hp} {Γ Γ' Γ2 : Gp} (s : Stp H Γ H' Γ') (l : Le Γ2 Γ') : Stp H Γ H' Γ2 := ⟨s.tq, s.dom, fun a h g => by
 cases e : Γ2 a with
 | none => rfl
 | some o => exact (by have := l a o e; rw [s.new a h g] at this; cases this), s.frm⟩
section
variable {P: Program}{w: World}{K: PySem.W.Frag}{mg: Str → Option Value}{base: Heap}
theorem okd {x qual : Str} {st : Stmt} {f : Addr} {fd : FuncData} {N ps : List Str} {k : Nat} {sp : Sp3} (F : Fun K x qual st f fd) (S : FnScope N ps (defScope st)) (len : ∀ ts Γ Z Y, sp ts Γ Z Y → ts.length = ps.length)
  (hbody : ∀ (cdv : Value) (A : Around) (outer : List Env) (s : Shared) (H : Hp) (E : XK) (ts : List T) (Γ : Gp) (Z : K3) (Y : Value → Gp → Prop), Room k (A.deeper (envOfC qual (defScope st) s.heap.objs.size f cdv)) → sp ts Γ Z Y →
   ∃ t, PSs (cxOf CX0 P w K mg base N qual (defScope st) f cdv A outer s H E).nox (defBody st) (liS EN t) ∧ t Y0 { nx := fun _ Γ' => dropK Z .non Γ', rt := dropK Z } (start3 N ts) Γ) : FnOk P w K mg base CX0 (k + 1) f fd ps (liSp sp) := by
 refine F.ok S (fun vs H Q E q0 => by obtain ⟨ts, Γ, Z, Y, r, _, h, _⟩ := q0; rw [r.length]; exact len _ _ _ _ h) fun cdv A outer s H vs Q E hr ⟨ts, Γ, Z, Y, r, h, hsp, vr, xr⟩ => ?_
 obtain ⟨t, ht, hq⟩ := hbody cdv A outer s H E ts Γ Z Y hr hsp
 exact ⟨_, ht, start3 N ts, Γ, Y0, _, rs_start N r (by rw [len _ _ _ _ hsp]; exact sc_len S), h, hq, ⟨fun σ τ H' Γ' s' h' _ ⟨Γ2, l, z⟩ => vr .non .non H' Γ2 (s'.cut l) (h'.le l) r_non z, fun v x H' Γ' s' h' rv ⟨Γ2, l, z⟩ => vr v x H' Γ2 (s'.cut l) (h'.le l) rv z, fun _ _ _ _ _ _ _ z => z.elim, fun _ _ _ _ _ _ _ z => z.elim⟩, xr0⟩
theorem okdX {x qual : Str} {st : Stmt} {f : Addr} {fd : FuncData} {N ps : List Str} {k : Nat} {sp : Sp3} (F : Fun K x qual st f fd) (S : FnScope N ps (defScope st)) (len : ∀ ts Γ Z Y, sp ts Γ Z Y → ts.length = ps.length)
  (hbody : ∀ (cdv : Value) (A : Around) (outer : List Env) (s : Shared) (H : Hp) (E : XK) (ts : List T) (Γ : Gp) (Z : K3) (Y : Value → Gp → Prop), Room k (A.deeper (envOfC qual (defScope st) s.heap.objs.size f cdv)) → sp ts Γ Z Y →
   ∃ t, PSs (cxE P w K mg base N qual (defScope st) f cdv A outer s H E) (defBody st) (liS (fun _ => E) t) ∧ t (fun _ C Γ' => ∃ Γ2, Le Γ2 Γ' ∧ Y C Γ2) { nx := fun _ Γ' => dropK Z .non Γ', rt := dropK Z } (start3 N ts) Γ) : FnOk P w K mg base (CXe P w) (k + 1) f fd ps (liSp sp) := by
 refine F.okX S (fun vs H Q E q0 => by obtain ⟨ts, Γ, Z, Y, r, _, h, _⟩ := q0; rw [r.length]; exact len _ _ _ _ h) fun cdv A outer s H vs Q E hr ⟨ts, Γ, Z, Y, r, h, hsp, vr, xr⟩ => ?_
 obtain ⟨t, ht, hq⟩ := hbody cdv A outer s H E ts Γ Z Y hr hsp
 exact ⟨_, ht, start3 N ts, Γ, _, _, rs_start N r (by rw [len _ _ _ _ hsp]; exact sc_len S), h, hq, ⟨fun σ τ H' Γ' s' h' _ ⟨Γ2, l, z⟩ => vr .non .non H' Γ2 (s'.cut l) (h'.le l) r_non z, fun v x H' Γ' s' h' rv ⟨Γ2, l, z⟩ => vr v x H' Γ2 (s'.cut l) (h'.le l) rv z, fun _ _ _ _ _ _ _ z => z.elim, fun _ _ _ _ _ _ _ z => z.elim⟩, fun σ τ C H' Γ' s' h' _ ⟨Γ2, l, y⟩ => xr C H' Γ2 (s'.cut l) (h'.le l) y⟩
theorem noC {f : Addr} {fd : FuncData} {ps : List Str} {sp : Sp3} {k : Nat} {CX : CXT} (no : ∀ ts Γ Z Y, ¬ sp ts Γ Z Y) : FnOk P w K mg base CX k f fd ps (liSp sp) :=
 ⟨fun vs H Q E ⟨ts, Γ, Z, Y, _, _, h, _⟩ => absurd h (no _ _ _ _), fun A outer s H args us vs Q E _ _ _ _ ⟨ts, Γ, Z, Y, _, _, h, _⟩ => absurd h (no _ _ _ _)⟩
end
theorem at0 {α : Type} {t : α} {ts : List α} : atI (t :: ts) 0 = some t := by show atI (t :: ts) ((0 : Nat) : Int) = some t; exact atI_nat rfl
theorem at1 {α : Type} {t u : α} {ts : List α} : atI (t :: u :: ts) 1 = some u := by show atI (t :: u :: ts) ((1 : Nat) : Int) = some u; exact atI_nat rfl
section
variable {Y: X3}{τ: S3}{Γ: Gp}{Z: K3}{D: D3}{B: Bool → Gp → Prop}{N: S3 → Gp → Prop}
theorem t_var {i : Nat} {x : T} (h : τ[i]? = some (some x)) (z : Z x Γ) : eVar i Y τ Γ Z := ⟨x, h, z⟩
theorem t_c {x : T} (z : Z x Γ) : eC x Y τ Γ Z := z
theorem t_op {r : R3} {a b : E3} (h : a Y τ Γ fun x Γ1 => b Y τ Γ1 fun y Γ2 => r x y Γ2 Z) : eOp r a b Y τ Γ Z := h
theorem t_T {t : E3} (h : t Y τ Γ fun x Γ1 => ∃ k, x = .bl k ∧ B k Γ1) : eT t Y τ Γ B := h
theorem t_bl {b : Bool} {Q : Bool → Prop} (h : Q b) : ∃ k, T.bl b = .bl k ∧ Q k := ⟨b, rfl, h⟩
theorem t_seq {t u : C3} (h : t Y { D with nx := u Y D } τ Γ) : cSeq t u Y D τ Γ := h
theorem t_if {c : T3} {t u : C3} (h : c Y τ Γ fun b Γ1 => if b = true then t Y D τ Γ1 else u Y D τ Γ1) : cIf c t u Y D τ Γ := h
theorem t_set {i : Nat} {te : E3} (h : te Y τ Γ fun x Γ1 => D.nx (τ.set i (some x)) Γ1) : cSet i te Y D τ Γ := h
theorem t_ret {te : E3} (h : te Y τ Γ D.rt) : cRet te Y D τ Γ := h
theorem t_drop {te : E3} (h : te Y τ Γ fun _ Γ1 => D.nx τ Γ1) : cDrop te Y D τ Γ := h
theorem t_next (h : D.nx τ Γ) : cNext Y D τ Γ := h
theorem t_and {a b : E3} (h : a Y τ Γ fun x Γ1 => ∃ c, x = .bl c ∧ if c = true then b Y τ Γ1 Z else Z (.bl false) Γ1) : eAnd a b Y τ Γ Z := h
theorem t_or {a b : E3} (h : a Y τ Γ fun x Γ1 => ∃ c, x = .bl c ∧ if c = true then Z (.bl true) Γ1 else b Y τ Γ1 Z) : eOr a b Y τ Γ Z := h
theorem t_not {a : E3} (h : a Y τ Γ fun x Γ1 => ∃ c, x = .bl c ∧ Z (.bl (!c)) Γ1) : eNot a Y τ Γ Z := h
theorem t_band {a b : T3} (h : a Y τ Γ fun c Γ1 => if c = true then b Y τ Γ1 B else B false Γ1) : bAnd a b Y τ Γ B := h
theorem t_bor {a b : T3} (h : a Y τ Γ fun c Γ1 => if c = true then B true Γ1 else b Y τ Γ1 B) : bOr a b Y τ Γ B := h
theorem t_bnot {a : T3} (h : a Y τ Γ fun c Γ1 => B (!c) Γ1) : bNot a Y τ Γ B := h
theorem t_eif {c : T3} {a b : E3} (h : c Y τ Γ fun k Γ1 => if k = true then a Y τ Γ1 Z else b Y τ Γ1 Z) : eIf c a b Y τ Γ Z := h
theorem t_nil {A : List T → Gp → Prop} (h : A [] Γ) : aNil Y τ Γ A := h
theorem t_cons {A : List T → Gp → Prop} {te : E3} {t : A3} (h : te Y τ Γ fun x Γ1 => t Y τ Γ1 fun xs Γ2 => A (x :: xs) Γ2) : aCons te t Y τ Γ A := h
theorem t_tup {t : A3} (h : t Y τ Γ fun xs Γ1 => xs.length ≤ sizeLine ∧ Z (.tup xs) Γ1) : eTup t Y τ Γ Z := h
theorem t_lst {t : A3} (h : t Y τ Γ fun xs Γ1 => xs.length ≤ sizeLine ∧ ∀ p, Γ1 p = none → Z (.ref p) (up Γ1 p (.lst xs))) : eLst t Y τ Γ Z := h
theorem t_len {n : Nat} {A : Prop} (h : Nat.ble n 1000 = true) (a : A) : n ≤ sizeLine ∧ A := ⟨Nat.le_trans (Nat.le_of_ble_eq_true h) (by decide), a⟩
theorem t_call {sp : Sp3} {t : A3} (h : t Y τ Γ fun xs Γ1 => sp xs Γ1 Z fun _ _ => False) : eCall sp t Y τ Γ Z := h
theorem t_callX {sp : Sp3} {t : A3} (h : t Y τ Γ fun xs Γ1 => sp xs Γ1 Z (Y τ)) : eCallX sp t Y τ Γ Z := h
theorem t_cb {r : F3} {t : A3} (h : t Y τ Γ fun ts Γ1 => r ts Γ1 Z) : eCB r t Y τ Γ Z := h
theorem t_J {g : Int → Int → T} {i j : Int} (h : Z (g i j) Γ) : r3J g (.int i) (.int j) Γ Z := ⟨i, j, rfl, rfl, h⟩
theorem t_I {C : Int → Int → Prop} {g : Int → Int → T} {i j : Int} (c : C i j) (h : Z (g i j) Γ) : r3I C g (.int i) (.int j) Γ Z := ⟨i, j, rfl, rfl, c, h⟩
theorem t_eqS {a b : Str} (h : Z (.bl (decide (V.str a = V.str b))) Γ) : r3Eq (.str a) (.str b) Γ Z := ⟨_, _, rfl, rfl, rfl, h⟩
theorem t_eqI {a b : Int} (h : Z (.bl (decide (V.int a = V.int b))) Γ) : r3Eq (.int a) (.int b) Γ Z := ⟨_, _, rfl, rfl, rfl, h⟩
theorem t_neI {a b : Int} (h : Z (.bl (!decide (V.int a = V.int b))) Γ) : r3Ne (.int a) (.int b) Γ Z := ⟨_, _, rfl, rfl, rfl, h⟩
theorem t_ix0 {t : T} {ts : List T} (z : Z t Γ) : r3Ix (.tup (t :: ts)) (.int 0) Γ Z := ⟨_, 0, t, rfl, rfl, at0, z⟩
theorem t_ix1 {t u : T} {ts : List T} (z : Z u Γ) : r3Ix (.tup (t :: u :: ts)) (.int 1) Γ Z := ⟨_, 1, u, rfl, rfl, at1, z⟩
theorem t_bm {Tn : String} {r : M3r} {to : E3} {t : A3} (h : to Y τ Γ fun x Γ1 => tyOf Γ1 x = some Tn ∧ t Y τ Γ1 fun xs Γ2 => r x xs Γ2 Z) : eBM Tn r to t Y τ Γ Z := h
theorem t_inst {K : PySem.W.Frag} {Ty : String} {te : E3} (h : te Y τ Γ fun x Γ1 => ∃ n b, tyOf Γ1 x = some n ∧ PySem.W.kitOne K (.type n) (.type Ty) = some b ∧ Z (.bl b) Γ1) : eInst K Ty te Y τ Γ Z := h
theorem t_asg {te : E3} {g : G3} (h : te Y τ Γ fun x Γ1 => g Y x τ Γ1 D.nx) : cAsg te g Y D τ Γ := h
theorem t_hn {i : Nat} {x : T} (h : N (τ.set i (some x)) Γ) : hName i Y x τ Γ N := h
theorem t_ht {n : Nat} {gs : Gs3} {ts : List T} (l : Nat.beq ts.length n = true) (h : gs Y ts τ Γ N) : hTup n gs Y (.tup ts) τ Γ N := ⟨ts, rfl, Nat.eq_of_beq_eq_true l, h⟩
theorem t_hc {g : G3} {gs : Gs3} {x : T} {r : List T} (h : g Y x τ Γ fun τ1 Γ1 => gs Y r τ1 Γ1 N) : hCons g gs Y (x :: r) τ Γ N := ⟨x, r, rfl, h⟩
theorem t_h0 (h : N τ Γ) : hNil Y [] τ Γ N := ⟨rfl, h⟩
theorem t_hs {to ti : E3} {v : T} (h : to Y τ Γ fun o Γ1 => ti Y τ Γ1 fun i Γ2 => ∃ a ts k j, o = .ref a ∧ i = .int k ∧ Γ2 a = some (.lst ts) ∧ ixN ts.length k = some j ∧ N τ (up Γ2 a (.lst (ts.set j v)))) : hSub to ti Y v τ Γ N := h
theorem t_un {r : T → Gp → K3 → Prop} {a : E3} (h : a Y τ Γ fun x Γ1 => r x Γ1 Z) : eUn r a Y τ Γ Z := h
theorem t_neg {g : Int → T} {i : Int} (h : Z (g i) Γ) : r3U g (.int i) Γ Z := ⟨i, rfl, h⟩
theorem t_sl {r : L3r} {te : E3} {tl th : O3} (h : te Y τ Γ fun x Γ1 => tl Y τ Γ1 fun l Γ2 => th Y τ Γ2 fun u Γ3 => r x l u Γ3 Z) : eSl r te tl th Y τ Γ Z := h
theorem t_on {Q : Option Int → Gp → Prop} (h : Q none Γ) : oNone Y τ Γ Q := h
theorem t_os {Q : Option Int → Gp → Prop} {t : E3} (h : t Y τ Γ fun x Γ1 => ∃ i, x = .int i ∧ Q (some i) Γ1) : oSome t Y τ Γ Q := h
theorem t_oi {i : Int} {Q : Int → Prop} (h : Q i) : ∃ k, T.int i = .int k ∧ Q k := ⟨i, rfl, h⟩
theorem t_for {wi : I3} {g : G3} {tb : C3} (h : wi Y τ Γ fun ts gd Γ1 => wFor gd g tb Y D ts τ Γ1) : cFor wi g tb Y D τ Γ := h
theorem t_itp {tl : E3} {I : List T → (Gp → Prop) → Gp → Prop} (h : tl Y τ Γ fun x Γ1 => ∃ ts, x = .tup ts ∧ I ts gT Γ1) : iTp tl Y τ Γ I := h
theorem t_tp {ts : List T} {Q : List T → Prop} (h : Q ts) : ∃ us, T.tup ts = .tup us ∧ Q us := ⟨ts, rfl, h⟩
theorem t_comp {wi : I3} {g : G3} {tc : T3} {te : E3} {own : List Str} {cap : List (Nat × Str)} (h : wi Y τ Γ fun ts gd Γ1 => ts.length ≤ sizeLine ∧ wComp gd g tc te (fun ys Γ2 => ∀ D, Γ2 D = none → Z (.ref D) (up Γ2 D (.lst ys))) ts (cSt own cap τ) [] Γ1) : eComp wi g tc te own cap Y τ Γ Z := h
theorem t_bt (h : B true Γ) : bTrue Y τ Γ B := h
theorem t_raise {C : Addr} {t : A3} (h : t Y τ Γ fun xs Γ1 => xs.length ≤ sizeLine ∧ Y τ (.ref C) Γ1) : cRaise C t Y D τ Γ := h
theorem t_rg1 {ta : A3} {I : List T → (Gp → Prop) → Gp → Prop} (h : ta Y τ Γ fun xs Γ1 => ∃ j : Int, xs = [.int j] ∧ -(2 ^ 62) ≤ j ∧ j < 2 ^ 62 ∧ I (rngT 0 j.toNat) gT Γ1) : iRg1 ta Y τ Γ I := h
theorem t_zp {ta : A3} {I : List T → (Gp → Prop) → Gp → Prop} (h : ta Y τ Γ fun xs Γ1 => ∃ ts us, xs = [.tup ts, .tup us] ∧ I (zipT ts us) gT Γ1) : iZp ta Y τ Γ I := h
theorem t_ils {tl : E3} {I : List T → (Gp → Prop) → Gp → Prop} (h : tl Y τ Γ fun x Γ1 => ∃ a ts, x = .ref a ∧ it3 Γ1 (.ref a) = some ts ∧ I ts (fun Γ' => it3 Γ' (.ref a) = some ts) Γ1) : iLs tl Y τ Γ I := h
theorem t_ist {tl : E3} {I : List T → (Gp → Prop) → Gp → Prop} (h : tl Y τ Γ fun x Γ1 => ∃ z, x = .str z ∧ I (signsT z) gT Γ1) : iSt tl Y τ Γ I := h
theorem t_str {z : Str} {Q : Str → Prop} (h : Q z) : ∃ k, T.str z = .str k ∧ Q k := ⟨z, rfl, h⟩
theorem c_ifT {b : Bool} {A C : Prop} (h : b = true) (a : A) : if b = true then A else C := by rw [if_pos h]; exact a
theorem c_ifF {b : Bool} {A C : Prop} (h : b = false) (a : C) : if b = true then A else C := by rw [if_neg (by rw [h]; exact Bool.false_ne_true)]; exact a
theorem c_if {b : Bool} {A C : Prop} (h1 : b = true → A) (h2 : b = false → C) : if b = true then A else C := by
 cases b with
 | true => rw [if_pos rfl]; exact h1 rfl
 | false => rw [if_neg Bool.false_ne_true]; exact h2 rfl
theorem nocut {t : C3} (h : t Y D τ Γ) : cCut t Y D τ Γ := ⟨D.nx, h, fun _ _ z => z⟩
end
end L3
set_option Elab.async false
set_option linter.all false
set_option maxRecDepth 100000
namespace L3
open PySem PySem.Spec L2
open PyProof.Rows hiding St
end L3
namespace L3
open PySem PySem.Spec L2
section
variable {Γ: Gp}
theorem t_2t {us ws : List T} {Q : List T → List T → Prop} (h : Q us ws) : ∃ ts vs, [T.tup us, T.tup ws] = [T.tup ts, T.tup vs] ∧ Q ts vs := ⟨us, ws, rfl, h⟩
theorem t_gT {A : Prop} (h : A) : gT Γ ∧ A := ⟨trivial, h⟩
theorem d_str {a b : Str} (h : decide (V.str a = V.str b) = true) : a = b := V.str.inj (of_decide_eq_true h)
theorem d_strN {a b : Str} (h : decide (V.str a = V.str b) = false) : a ≠ b := fun e => of_decide_eq_false h (by rw [e])
theorem d_int {a b : Int} (h : decide (V.int a = V.int b) = true) : a = b := V.int.inj (of_decide_eq_true h)
theorem t_lenT {us : List T} {Q : T → List T → Prop} (h : Q (.tup us) us) : ∃ x ts, [T.tup us] = [x] ∧ it3 Γ x = some ts ∧ Q x ts := ⟨.tup us, us, rfl, rfl, h⟩
end
end L3
namespace L3
open PySem PySem.Spec L2
section
variable {Y: X3}{τ: S3}{Γ: Gp}{Z: K3}
theorem t_chain {r r' : R3} {a b c : E3} (h : a Y τ Γ fun x Γ1 => b Y τ Γ1 fun y Γ2 => r x y Γ2 fun z Γ3 => ∃ k, z = .bl k ∧ (if k = true then c Y τ Γ3 fun w' Γ4 => r' y w' Γ4 Z else Z (.bl false) Γ3)) : eChain r r' a b c Y τ Γ Z := h
theorem t_inT {neg : Bool} {x : T} {u : V} {ts : List T} {us : List V} (h1 : sc x = some u) (h2 : scs ts = some us) (h3 : (flatV u && us.all flatV) = true) (z : Z (.bl (if neg then !inV u us else inV u us)) Γ) : r3In neg x (.tup ts) Γ Z := by
 rw [Bool.and_eq_true] at h3
 exact ⟨u, ts, us, h1, rfl, h2, h3.1, h3.2, z⟩
theorem t_ixR {p : Addr} {ts : List T} {i : Int} {t : T} (g : Γ p = some (.lst ts)) (h : atI ts i = some t) (z : Z t Γ) : r3Ix (.ref p) (.int i) Γ Z := ⟨ts, i, t, it3_l g, rfl, h, z⟩
theorem t_tyL {p : Addr} {ts : List T} {A : Prop} (g : Γ p = some (.lst ts)) (h : A) : tyOf Γ (.ref p) = some "list" ∧ A := ⟨by show (match Γ p with | some (.lst _) => some "list" | some (.dK _) => some "dict" | _ => none) = _; rw [g], h⟩
theorem t_tyS {z : Str} {A : Prop} (h : A) : tyOf Γ (.str z) = some "str" ∧ A := ⟨rfl, h⟩
end
end L3
namespace L3
open PySem PySem.Spec L2
section
variable {τ: S3}{Γ: Gp}{N: S3 → Gp → Prop}
theorem t_hsub {p : Addr} {ts : List T} {k : Int} {j : Nat} {v : T} (g : Γ p = some (.lst ts)) (h : ixN ts.length k = some j) (z : N τ (up Γ p (.lst (ts.set j v)))) : ∃ a us k' j', T.ref p = .ref a ∧ T.int k = .int k' ∧ Γ a = some (.lst us) ∧ ixN us.length k' = some j' ∧ N τ (up Γ a (.lst (us.set j' v))) := ⟨p, ts, k, j, rfl, rfl, g, h, z⟩
end
end L3
namespace L3
open PySem PySem.Spec L2
end L3
namespace L3
open PySem PySem.Spec L2
theorem zip_self : ∀ ts : List T, zipT ts ts = ts.map fun y => .tup [y, y]
 | [] => rfl
 | t :: r => by rw [zipT, zip_self r]; rfl
theorem us1 {α : Type} {P : List α → Prop} (h : ∀ a0, P [a0]) : ∀ us : List α, us.length = 1 → P us
 | [a0], _ => h _
theorem us2 {α : Type} {P : List α → Prop} (h : ∀ a0 a1, P [a0, a1]) : ∀ us : List α, us.length = 2 → P us
 | [a0, a1], _ => h _ _
theorem us3 {α : Type} {P : List α → Prop} (h : ∀ a0 a1 a2, P [a0, a1, a2]) : ∀ us : List α, us.length = 3 → P us
 | [a0, a1, a2], _ => h _ _ _
end L3
set_option Elab.async false
set_option linter.all false
set_option maxRecDepth 100000
namespace L3
open PySem PySem.Spec L2
open PyProof.Rows hiding St
end L3
set_option Elab.async false
set_option linter.all false
set_option maxRecDepth 100000
namespace L3
open PySem PySem.Spec L2
open PyProof.Rows hiding St
end L3
set_option Elab.async false
set_option linter.all false
set_option maxRecDepth 100000
namespace Sr
open PySem PyProof.Rows
end Sr
set_option Elab.async false
set_option linter.all false
set_option maxRecDepth 100000
namespace Sr
open PySem PyProof.Rows
end Sr
set_option Elab.async false
set_option linter.all false
set_option maxRecDepth 100000
namespace Sr
open PySem PyProof.Rows
end Sr
set_option Elab.async false
set_option linter.all false
set_option maxRecDepth 100000
namespace L2
open PySem PySem.Spec PyProof.Rows
end L2
namespace L3
open PySem PySem.Spec L2
end L3
set_option Elab.async false
set_option linter.all false
set_option maxRecDepth 100000
namespace L2
open PySem PySem.Spec PyProof.Rows
end L2
namespace L3
open PySem PySem.Spec L2
end L3
set_option Elab.async false
set_option linter.all false
set_option maxRecDepth 100000
namespace L2
open PySem PySem.Spec PyProof.Rows
end L2
namespace L3
open PySem PySem.Spec L2
open PyProof.Rows hiding St
end L3
set_option Elab.async false
set_option linter.all false
set_option maxRecDepth 100000
namespace L2
open PySem PySem.Spec PyProof.Rows
section
variable {X: Cx}
theorem call_intB : CallR X (.type "int") (fun xs H Q => ∃ b : Bool, xs = [.bl b] ∧ Q (.int (if b = true then 1 else 0)) H) := by
 intro pins s σ H xs us Q I r h
 obtain ⟨b, rfl, q⟩ := h
 obtain ⟨u, rfl, rx⟩ := vals1 r
 cases rx
 refine call_int_1 (meets_int_new_bool b) ?_
 exact ⟨typeIs_int _ _ _, .int _, H, I.tok _, ⟨_, rfl⟩, q⟩
def KTup (K : PySem.W.Frag) (a : Addr) (xs : List V) : Prop := ∃ (o : Obj) (its : Array Value) (n : Nat), K.lookup a = some o ∧ o.cls = .type "tuple" ∧ o.data = .seq its n ∧ its.size ≤ sizeLine ∧ Vals xs its.toList
theorem KTup.sq {K : PySem.W.Frag} {H : Hp} {a : Addr} {xs : List V} (h : KTup K a xs) : SqT K H a xs := .inr h
end
end L2
namespace L3
open PySem PySem.Spec L2
section
variable {X: Cx}
theorem cq_intB : CallQ X (.type "int") (fun xs Γ Z => ∃ b : Bool, xs = [.bl b] ∧ Z (.int (if b = true then 1 else 0)) Γ) :=
 ⟨_, call_intB, fun vs xs H Γ Q Z r hr q0 vr => by
  obtain ⟨b, e, z⟩ := q0
  subst e
  obtain ⟨v, rfl, a⟩ := rs1 r
  exact ⟨b, by rw [i_bl a], vr _ _ H Γ .refl hr r_int z⟩⟩
theorem oq_inK {a : Addr} {xs : List V} (hk : KTup X.K a xs) (hf : xs.all flatV = true) : OpQ X (compareOp .In) (fun x y Γ Z => ∃ u, sc x = some u ∧ flatV u = true ∧ y = .ref a ∧ Z (.bl (inV u xs)) Γ) :=
 ⟨_, op_in_seq, fun x y v b H Γ Q Z ra rb hr q0 vr => by
  obtain ⟨u, e1, f1, ey, z⟩ := q0
  subst ey
  rw [sc_r ra e1]
  exact ⟨a, xs, i_ref rb, .inr hk.sq, f1, hf, vr _ _ H Γ .refl hr r_bl z⟩⟩
end
end L3
set_option Elab.async false
set_option linter.all false
set_option maxRecDepth 100000
namespace Sr
open PySem PyProof.Rows
end Sr
set_option Elab.async false
set_option linter.all false
set_option maxRecDepth 100000
namespace L2
open PySem PySem.Spec PyProof.Rows
def CalleeM (P : Program) (w : World) (K : PySem.W.Frag) (mg : Str → Option Value) (base : Heap) (C : Addr) (m : Str) (k : Nat) (ps : List Str) (sp : Sp) : Prop :=
 ∃ f fd, FnOk P w K mg base CX0 k f fd ps sp ∧ Cls K C ∧ Meth K C m f ∧ Binds K fd ps []
def CalleeMX (P : Program) (w : World) (K : PySem.W.Frag) (mg : Str → Option Value) (base : Heap) (C : Addr) (m : Str) (k : Nat) (ps : List Str) (sp : Sp) : Prop :=
 ∃ f fd, FnOk P w K mg base (CXe P w) k f fd ps sp ∧ Cls K C ∧ Meth K C m f ∧ Binds K fd ps []
def CalleeI (P : Program) (w : World) (K : PySem.W.Frag) (mg : Str → Option Value) (base : Heap) (C : Addr) (k : Nat) (ps : List Str) (sp : Sp) : Prop :=
 ∃ f fd, FnOk P w K mg base CX0 k f fd ps sp ∧ Mk K C f ∧ Binds K fd ps []
end L2
namespace L3
open PySem PySem.Spec L2
def putT (f : Str) (v : T) : List (Str × T) → List (Str × T)
 | [] => [(f, v)]
 | (g, x) :: r => if g = f then (g, v) :: r else (g, x) :: putT f v r
section
variable {H: Hp}
theorem Fs.len : ∀ {gs : List (Str × V)} {fs : List (Str × T)}, Fs H gs fs → gs.length = fs.length
 | _, _, .nil => rfl
 | _, _, .cons a b => by rw [List.length_cons, List.length_cons, Fs.len b]
theorem Fs.get : ∀ {gs : List (Str × V)} {fs : List (Str × T)} {f : Str} {t : T}, Fs H gs fs → fs.lookup f = some t → ∃ v, gs.lookup f = some v ∧ R H v t
 | _, _, f, t, .nil, h => by cases h
 | (g, v) :: gs, (g', x) :: fs, f, t, .cons a b, h => by
  obtain ⟨e, r⟩ := a
  have e : g = g' := e
  subst e
  rw [List.lookup_cons] at h ⊢
  split at h
  ·cases h; exact ⟨v, rfl, r⟩
  ·exact Fs.get b h
theorem Fs.non : ∀ {gs : List (Str × V)} {fs : List (Str × T)} {f : Str}, Fs H gs fs → fs.lookup f = none → gs.lookup f = none
 | _, _, f, .nil, h => rfl
 | (g, v) :: gs, (g', x) :: fs, f, .cons a b, h => by
  obtain ⟨e, r⟩ := a
  have e : g = g' := e
  subst e
  rw [List.lookup_cons] at h ⊢
  split at h
  ·cases h
  ·exact Fs.non b h
theorem Fs.put {v : V} {t : T} (r : R H v t) (f : Str) : ∀ {gs : List (Str × V)} {fs : List (Str × T)}, Fs H gs fs → Fs H (putF f v gs) (putT f t fs)
 | _, _, .nil => .cons ⟨rfl, r⟩ .nil
 | (g, w) :: gs, (g', x) :: fs, .cons a b => by
  obtain ⟨e, q⟩ := a
  have e : g = g' := e
  subst e
  unfold putF putT
  split
  ·exact .cons ⟨rfl, r⟩ b
  ·exact .cons ⟨rfl, q⟩ (Fs.put r f b)
end
section
variable {X: Cx}{E: St → XK}{C: Addr}
def eFld (C : Addr) (to : E3) (f : Str) : E3 := fun Y τ Γ Z => to Y τ Γ fun x Γ1 => ∃ a dx fs v, x = .ref a ∧ Γ1 a = some (.ins C dx fs) ∧ fs.lookup f = some v ∧ Z v Γ1
theorem qe_fld {e : Expr} {f : Str} {to : E3} {pos : Pos} (c : Cls X.K C) (n : NoAttr X.K C f) (he : PE X e (liE E to)) (hb : attributeBase e f X.env (eval e X.env) = eval e X.env := by rfl) : PE X (.Attribute e f pos) (liE E (eFld C to f)) :=
 weakE3 (pe_fld he hb) fun σ H Q τ Γ Y Z rs hr t vr xr => by
  refine ⟨τ, Γ, Y, _, rs, hr, t, fun v x H1 Γ1 s1 h1 r1 z1 => ?_, xr⟩
  obtain ⟨a, dx, fs, u, rfl, g, l, z⟩ := z1
  obtain ⟨gs, hg, q⟩ := h1 a _ g
  obtain ⟨v', l', r'⟩ := q.get l
  exact ⟨a, C, dx, gs, v', i_ref r1, hg, c, n, l', vr v' u H1 Γ1 s1 h1 r' z⟩
def cFld (C : Addr) (to tv : E3) (f : Str) : C3 := fun Y D τ Γ => tv Y τ Γ fun y Γ1 => to Y τ Γ1 fun x Γ2 => ∃ a dx fs, x = .ref a ∧ Γ2 a = some (.ins C dx fs) ∧ fs.length < 1000 ∧ D.nx τ (up Γ2 a (.ins C dx (putT f y fs)))
theorem ho_ins {H : Hp} {a C dx : Addr} {u : HO} {gs : List (Str × V)} {fs : List (Str × T)} (h : H a = some u) (n : (∀ vs : List V, u ≠ .tup vs) ∧ ∀ b w, u ≠ .frz b w) (q : Fs H gs fs) : Ho (upd H a (.ins C dx gs)) a (.ins C dx fs) := ⟨gs, upd_same, q.mono (tq_set h n)⟩
theorem qs_fld {o value : Expr} {f : Str} {to tv : E3} {pos pos' : Pos} (c : Cls X.K C) (n : NoAttr X.K C f) (ha : PE X o (liE E to)) (hv : PE X value (liE E tv)) (hs : swapsWith value (some (.Attribute o f pos')) pos.line X.env = pure false := by rfl) : PS X (.Assign [.Attribute o f pos'] value pos) (liS E (cFld C to tv f)) :=
 weakS3 (ps_fld ha hv hs) fun D σ H τ Γ Y Z rs hr t dr xr => by
  refine ⟨τ, Γ, Y, _, rs, hr, t, fun y y3 H1 Γ1 s1 h1 r1 z1 => ?_, xr⟩
  refine ⟨τ, Γ1, Y, _, rs.mono s1.tq, h1, z1, fun v x H2 Γ2 s2 h2 r2 z2 => ?_, xr.mono s1⟩
  obtain ⟨a, dx, fs, rfl, g, l, z⟩ := z2
  obtain ⟨gs, hg, q⟩ := h2 a _ g
  refine ⟨a, C, dx, gs, i_ref r2, hg, c, n, by rw [q.len]; exact l, ?_⟩
  have hh := (h2 a _ g).some
  obtain ⟨u, hu, nn⟩ := hh
  have st : Stp H2 Γ2 (upd H2 a (.ins C dx (putF f y gs))) (up Γ2 a (.ins C dx (putT f y3 fs))) := Stp.set h2 g
  exact dr.nx _ _ _ _ ((s1.trans s2).trans st) (h2.set g (ho_ins hu nn (Fs.put (r1.mono s2.tq) f q))) (rs.mono ((s1.trans s2).trans st).tq) z
def cFldA (C : Addr) (to tv : E3) (r3 : R3) (f : Str) : C3 := fun Y D τ Γ => to Y τ Γ fun x Γ1 => ∃ a dx fs v, x = .ref a ∧ Γ1 a = some (.ins C dx fs) ∧ fs.lookup f = some v ∧ tv Y τ Γ1 fun y Γ2 => r3 v y Γ2 fun z Γ3 => ∃ dx' fs', Γ3 a = some (.ins C dx' fs') ∧ fs'.length < 1000 ∧ D.nx τ (up Γ3 a (.ins C dx' (putT f z fs')))
theorem qs_fldaug {o value : Expr} {f : Str} {to tv : E3} {r3 : R3} {op : Operator} {pos tpos : Pos} (c : Cls X.K C) (n : NoAttr X.K C f) (ha : PE X o (liE E to)) (hv : PE X value (liE E tv)) (ho : OpQ X (inplaceOp op) r3) : PS X (.AugAssign (.Attribute o f tpos) op value pos) (liS E (cFldA C to tv r3 f)) := by
 obtain ⟨r, ho, h⟩ := ho
 refine weakS3 (ps_fldaug (rd := r) ha hv (fun pins s σ H x y u v Q I rx ry q => ho pins s σ H x y u v Q I rx ry q)) fun D σ H τ Γ Y Z rs hr t dr xr => ?_
 refine ⟨τ, Γ, Y, _, rs, hr, t, fun v x H1 Γ1 s1 h1 r1 z1 => ?_, xr⟩
 obtain ⟨a, dx, fs, v3, rfl, g, l, z⟩ := z1
 obtain ⟨gs, hg, q⟩ := h1 a _ g
 obtain ⟨v', l', r'⟩ := q.get l
 refine ⟨a, C, dx, gs, v', i_ref r1, hg, c, n, l', ?_⟩
 refine ⟨τ, Γ1, Y, _, rs.mono s1.tq, h1, z, fun y y3 H2 Γ2 s2 h2 r2 z2 => ?_, xr.mono s1⟩
 refine h v' y v3 y3 H2 Γ2 _ _ (r'.mono s2.tq) r2 h2 z2 fun z' z3 H3 Γ3 s3 h3 r3' z3' => ?_
 obtain ⟨dx', fs', g3, l3, z⟩ := z3'
 obtain ⟨gs', hg', q'⟩ := h3 a _ g3
 refine ⟨dx', gs', hg', by rw [q'.len]; exact l3, ?_⟩
 obtain ⟨u, hu, nn⟩ := (h3 a _ g3).some
 have st : Stp H3 Γ3 (upd H3 a (.ins C dx' (putF f z' gs'))) (up Γ3 a (.ins C dx' (putT f z3 fs'))) := Stp.set h3 g3
 have s13 := (s1.trans s2).trans s3
 exact dr.nx _ _ _ _ (s13.trans st) (h3.set g3 (ho_ins hu nn (Fs.put r3' f q'))) (rs.mono (s13.trans st).tq) z
abbrev ClM (P : Program) (w : World) (K : PySem.W.Frag) (mg : Str → Option Value) (base : Heap) (C : Addr) (m : Str) (k : Nat) (ps : List Str) (sp : Sp3) : Prop := CalleeM P w K mg base C m k ps (liSp sp)
abbrev ClMx (P : Program) (w : World) (K : PySem.W.Frag) (mg : Str → Option Value) (base : Heap) (C : Addr) (m : Str) (k : Nat) (ps : List Str) (sp : Sp3) : Prop := CalleeMX P w K mg base C m k ps (liSp sp)
abbrev ClI (P : Program) (w : World) (K : PySem.W.Frag) (mg : Str → Option Value) (base : Heap) (C : Addr) (k : Nat) (ps : List Str) (sp : Sp3) : Prop := CalleeI P w K mg base C k ps (liSp sp)
def eMeth (C : Addr) (m : Str) (sp : Sp3) (to : E3) (t : A3) : E3 := fun Y τ Γ Z => to Y τ Γ fun x Γ1 => ∃ a dx fs, x = .ref a ∧ Γ1 a = some (.ins C dx fs) ∧ fs.lookup m = none ∧ t Y τ Γ1 fun xs Γ2 => sp (.ref a :: xs) Γ2 Z fun _ _ => False
variable {m: Str}{k j: Nat}{ps: List Str}{sp: Sp3}{o e: Expr}{es: List Expr}{to: E3}{t: A3}{apos pos p: Pos}{pl: Sem Bool}
theorem qe_meth (c : ClM X.prog X.w X.K X.mg X.base C m k ps sp) (hr : Room j X.A) (hk : k ≤ j) (he : PE X o (liE E to)) (ha : PA X (e :: es) (liA E t))
  (hst : starEach (e :: es) X.env = (false, eval e X.env) :: starEach es X.env := by rfl) (hpl : (backTo pos (starEach es X.env)).any (·.1) = false := by rfl)
  (ht : eval (.Call (.Attribute o m apos) (e :: es) [] pos) X.env = (do
   let ov ← eval o X.env
   standAt apos.atName
   let (f, first) ← holding [ov] (getMethod ov m pl)
   callWith pos f first (backTo pos (starEach (e :: es) X.env)) (backToKw pos (keywordEach [] X.env))) := by rfl) : PE X (.Call (.Attribute o m apos) (e :: es) [] pos) (liE E (eMeth C m sp to t)) := by
 obtain ⟨f, fd, F, c, hm, hb⟩ := c
 refine weakE3 (pe_meth (pl := pl) (E := E0) he c hm F (hr.mono hk) hb .nil (fun _ _ _ _ _ _ _ z => z.elim) ha hst hpl ht) fun σ H Q τ Γ Y Z rs hr t vr xr => ?_
 refine ⟨τ, Γ, Y, _, rs, hr, t, fun v x H1 Γ1 s1 h1 r1 z1 => ?_, xr⟩
 obtain ⟨a, dx, fs, rfl, g, l, z⟩ := z1
 obtain ⟨gs, hg, q⟩ := h1 a _ g
 refine ⟨a, dx, gs, i_ref r1, hg, q.non l, ?_⟩
 refine ⟨τ, Γ1, Y, _, rs.mono s1.tq, h1, z, fun vs xs H2 Γ2 s2 h2 r2 z2 => ?_, xr.mono s1⟩
 show liSp sp (v :: (vs ++ [])) H2 Q E0
 rw [List.append_nil, i_ref r1]
 exact ⟨.ref a :: xs, Γ2, Z, _, rs_cons r_ref r2, h2, z2, vr.mono (s1.trans s2), fun _ _ _ _ _ z => z.elim⟩
theorem qe_meth0 (c : ClM X.prog X.w X.K X.mg X.base C m k ps sp) (hr : Room j X.A) (hk : k ≤ j) (he : PE X o (liE E to))
  (ht : eval (.Call (.Attribute o m apos) [] [] pos) X.env = (do
   let ov ← eval o X.env
   standAt apos.atName
   let (f, first) ← holding [ov] (getMethod ov m pl)
   callWith pos f first (backTo pos (starEach [] X.env)) (backToKw pos (keywordEach [] X.env))) := by rfl) : PE X (.Call (.Attribute o m apos) [] [] pos) (liE E (eMeth C m sp to aNil)) := by
 obtain ⟨f, fd, F, c, hm, hb⟩ := c
 refine weakE3 (pe_meth0 (pl := pl) (E := E0) he c hm F (hr.mono hk) hb .nil (fun _ _ _ _ _ _ _ z => z.elim) ht) fun σ H Q τ Γ Y Z rs hr t vr xr => ?_
 refine ⟨τ, Γ, Y, _, rs, hr, t, fun v x H1 Γ1 s1 h1 r1 z1 => ?_, xr⟩
 obtain ⟨a, dx, fs, rfl, g, l, z⟩ := z1
 obtain ⟨gs, hg, q⟩ := h1 a _ g
 refine ⟨a, dx, gs, i_ref r1, hg, q.non l, ?_⟩
 show liSp sp (v :: ([] ++ [])) H1 Q E0
 rw [i_ref r1]
 exact ⟨[.ref a], Γ1, Z, _, rs_cons r_ref rs_nil, h1, z, vr.mono s1, fun _ _ _ _ _ z => z.elim⟩
def eMake (C : Addr) (sp : Sp3) (t : A3) : E3 := fun Y τ Γ Z => t Y τ Γ fun xs Γ1 => ∀ x dx, Γ1 x = none → Γ1 dx = none → dx ≠ x → sp (.ref x :: xs) (up Γ1 x (.ins C dx [])) (fun v Γ2 => v = .non ∧ Z (.ref x) Γ2) fun _ _ => False
theorem qe_make {x : Str} (c : ClI X.prog X.w X.K X.mg X.base C k ps sp) (hr : Room j X.A) (hk : k + 1 ≤ j) (hg : Gl X x) (hm : X.mg x = some (.ref C)) (ha : PA X (e :: es) (liA E t)) (hdb : (x == ("__debug__" : Str)) = false := by decide)
  (he : starEach (e :: es) X.env = (false, eval e X.env) :: starEach es X.env := by rfl) (hpl : (backTo pos (starEach es X.env)).any (·.1) = false := by rfl) : PE X (.Call (.Name x p) (e :: es) [] pos) (liE E (eMake C sp t)) := by
 obtain ⟨f, fd, F, M, hb⟩ := c
 refine weakE3 (pe_make (E := E0) M F (hr.mono hk) hg hm hb .nil (fun _ _ _ _ _ _ _ z => z.elim) ha hdb he hpl) fun σ H Q τ Γ Y Z rs hr t vr xr => ?_
 refine ⟨τ, Γ, Y, _, rs, hr, t, fun vs xs H1 Γ1 s1 h1 r1 z1 => ?_, xr⟩
 intro x dx hx hdx ne
 rw [List.append_nil]
 have k1 := keep_new (o := .own x) hdx
 have hx2 : (upd H1 dx (.own x)) x = none := by rw [upd_ne (Ne.symm ne)]; exact hx
 have st1 : Stp H1 Γ1 (upd H1 dx (.own x)) Γ1 := .keep k1
 have h1' : HR (upd H1 dx (.own x)) Γ1 := h1.keep k1
 have st2 : Stp (upd H1 dx (.own x)) Γ1 (upd (upd H1 dx (.own x)) x (.ins C dx [])) (up Γ1 x (.ins C dx [])) := .make hx2
 have h2 := h1'.make (o := .ins C dx []) (o3 := .ins C dx []) hx2 ⟨[], upd_same, .nil⟩
 refine ⟨.ref x :: xs, _, _, _, rs_cons r_ref (r1.mono (st1.trans st2).tq), h2, z1 x dx (h1.free hx) (h1.free hdx) ne, fun v u H3 Γ3 s3 h3 r3 z3 => ?_, fun _ _ _ _ _ z => z.elim⟩
 obtain ⟨rfl, z⟩ := z3
 exact ⟨i_non r3, vr _ _ H3 Γ3 (s1.trans ((st1.trans st2).trans s3)) h3 r_ref z⟩
end
end L3
set_option Elab.async false
set_option linter.all false
set_option maxRecDepth 100000
namespace L2
open PySem PySem.Spec PyProof.Rows
section
variable {X: Cx}
theorem op_catC : OpR X (binaryOp .Add) (fun x y H Q => ∃ l b xs zs, x = .ref l ∧ y = .ref b ∧ SqL X.K H l xs ∧ SqL X.K H b zs ∧ xs.length + zs.length ≤ sizeLine ∧ ∀ p, H p = none → Q (.ref p) (upd H p (.lst (xs ++ zs)))) := by
 intro pins s σ H x y v u Q I rx ry h
 obtain ⟨l, b, xs, zs, rfl, rfl, hH, hB, hz, q⟩ := h
 cases rx
 cases ry
 obtain ⟨its, r, pl, z⟩ := I.list hH
 obtain ⟨its2, r2, pl2, z2⟩ := I.list hB
 have l1 := r.length
 have l2 := r2.length
 obtain ⟨⟨cls, dd, data, sl⟩, ho, hc, n, hd⟩ := pl.isList
 obtain ⟨⟨cls2, dd2, data2, sl2⟩, ho2, hc2, n2, hd2⟩ := pl2.isList
 simp only at hc hd hc2 hd2
 subst hc hd hc2 hd2
 have e : its.toArray ++ its2.toArray = (its ++ its2).toArray := by simp
 refine concat_meets ⟨_, ho, rfl⟩ ⟨_, ho2, rfl⟩ noFill_list_add seq_list_add PySem.F.slot_list_add PySem.F.entry_list_add (PySem.F.args_list_add_2 _ _) (list_addW l b its.toArray its2.toArray n n2 dd dd2 sl sl2 (by simp only [List.size_toArray]; omega)) ⟨ho, ho2, ?_⟩
 rw [e]
 exact ⟨.ref _, _, I.lnew (t' := s.toks) (r.append r2) (by rw [List.length_append]; omega), rfl, q _ I.fresh⟩
theorem call_intS : CallR X (.type "int") (fun xs H Q => ∃ (z : Str) (n : Int), xs = [.str z] ∧ z.length ≤ 640 ∧ PySem.intText? z = some n ∧ Q (.int n) H) := by
 intro pins s σ H xs us Q I r h
 obtain ⟨z, n, rfl, hl, hn, q⟩ := h
 obtain ⟨u, rfl, rx⟩ := vals1 r
 obtain ⟨t, rfl⟩ := rx
 exact PySem.W.KIN.call_text hn hl ⟨.int n, H, I.tok _, ⟨_, rfl⟩, q⟩
theorem mt_starts : MtR X "str.startswith" (fun x vs H Q => ∃ (z y : Str) (i : Int), x = .str z ∧ vs = [.str y, .int i] ∧ Q (.bl (fromIndex z.length i + y.length ≤ z.length && Builtin.Str.subAt z y (fromIndex z.length i))) H) := by
 intro pins s σ H x vs v us Q I rx rv h
 obtain ⟨z, y, i, rfl, rfl, q⟩ := h
 obtain ⟨t, rfl⟩ := rx
 cases rv with
 | cons r1 r2 =>
  cases r2 with
  | cons r3 r4 =>
   cases r4
   obtain ⟨t1, rfl⟩ := r1
   obtain ⟨t2, rfl⟩ := r3
   exact call_givesAt F.slot_str_startswith (typeIs_str s z t) F.entry_str_startswith (F.args_str_startswith_3 _ _ _) (P := fun _ => True) (Gives.at (gives_str_startswith_from z y i t t1 t2)) trivial ⟨.bl _, H, I, rfl, q⟩
def S (l : List Nat) : Str := ⟨l.toArray⟩
def joinL (sep : List Nat) : List (List Nat) → List Nat
 | [] => []
 | x :: r => x ++ (r.map fun y => sep ++ y).flatten
theorem fold_join (sep : List Nat) : ∀ (ls : List (List Nat)) (x : List Nat), (ls.map S).foldl (fun acc (p : Str) => acc ++ (S sep).cps ++ p.cps) x.toArray = (x ++ (ls.map fun y => sep ++ y).flatten).toArray
 | [], x => by simp
 | y :: r, x => by
  rw [List.map_cons, List.foldl_cons]
  have : x.toArray ++ (S sep).cps ++ (S y).cps = (x ++ (sep ++ y)).toArray := by simp [S]
  rw [this, fold_join sep r]
  simp
theorem glued_S (sep : List Nat) (ls : List (List Nat)) : Builtin.Str.glued (S sep) (ls.map S) = S (joinL sep ls) := by
 cases ls with
 | nil => rfl
 | cons x r =>
  show (⟨(r.map S).foldl (fun acc (p : Str) => acc ++ (S sep).cps ++ p.cps) (S x).cps⟩ : Str) = _
  rw [show (S x).cps = x.toArray from rfl, fold_join]
  rfl
theorem foldSum (sep : Nat) : ∀ (ls : List (List Nat)) (n : Nat), (ls.map S).foldl (fun a (p : Str) => a + p.length + sep) n = n + (ls.map fun l => l.length + sep).sum
 | [], n => by simp
 | y :: r, n => by
  rw [List.map_cons, List.foldl_cons, foldSum sep r, List.map_cons, List.sum_cons]
  have : (S y).length = y.length := by simp [S, Str.length]
  rw [this]; omega
theorem S_len (l : List Nat) : (S l).length = l.length := by simp [S, Str.length]
theorem joinL_len (sep : List Nat) : ∀ (ls : List (List Nat)), (joinL sep ls).length ≤ (ls.map fun l => l.length + sep.length).sum
 | [] => by simp [joinL]
 | x :: r => by
  unfold joinL
  rw [List.length_append, List.length_flatten, List.map_map, List.map_cons, List.sum_cons]
  have : (r.map (List.length ∘ fun y => sep ++ y)) = r.map fun l => l.length + sep.length := by
   refine List.map_congr_left fun y _ => ?_
   simp [Nat.add_comm]
  rw [this]; omega
theorem mt_joinS : MtR X "str.join" (fun x vs H Q => ∃ (p : Addr) (sep : List Nat) (ls : List (List Nat)), x = .str (S sep) ∧ vs = [.ref p] ∧ SqL X.K H p (ls.map fun l => V.str (S l)) ∧ (ls.map fun l => l.length + sep.length).sum ≤ sizeLine ∧ Q (.str (S (joinL sep ls))) H) := by
 intro pins s σ H x vs v us Q I rx rv h
 obtain ⟨p, sep, ls, rfl, rfl, hq, hs, q⟩ := h
 obtain ⟨t, rfl⟩ := rx
 obtain ⟨u, rfl, ru⟩ := rv.one
 cases ru
 have em : (ls.map fun l => V.str (S l)) = (ls.map S).map V.str := by rw [List.map_map]; rfl
 rw [em] at hq
 obtain ⟨its, r, pl, hz⟩ := I.list hq
 obtain ⟨l, rfl, el⟩ := strVals_of r
 have hl : Builtin.Str.tooLong ((l.map (·.1)).toArray.foldl (· + ·.length + (S sep).length) 0) = false := by
  unfold Builtin.Str.tooLong
  rw [List.foldl_toArray, el, S_len, foldSum]
  exact decide_eq_false (by omega)
 refine call_meets F.slot_str_join (typeIs_str s _ t) F.entry_str_join (F.args_str_join_2 _ _) (meets_str_join_list (S sep) t p l hl) ⟨pl.isList, ?_⟩
 have hg := glued_S sep ls
 rw [← el] at hg
 have hlen : (S (joinL sep ls)).length ≤ sizeLine := by rw [S_len]; exact Nat.le_trans (joinL_len sep ls) hs
 match l, hg with
 | [], hg => exact ⟨by rw [hg]; exact hlen, .str (Builtin.Str.glued (S sep) (([] : List (Str × Tok)).map (·.1))), H, I.tok _, ⟨_, rfl⟩, by rw [hg]; exact q⟩
 | [y], hg => exact ⟨.str y.1, H, I, ⟨y.2, rfl⟩, by rw [← hg] at q; exact q⟩
 | y :: z :: r, hg =>
  refine ⟨?_, .str (Builtin.Str.glued (S sep) ((y :: z :: r).map (·.1))), H, I.tok _, ⟨_, rfl⟩, by rw [hg]; exact q⟩
  rw [hg]; exact hlen
def OnceS (ss : List Str) (S : Str → Bool) (n : Nat) : Prop := (∀ k, S k = true ↔ k ∈ ss) ∧ ((ss.Nodup ∧ n = ss.length) ∨ (¬ ss.Nodup ∧ n < ss.length))
theorem OnceS.nil : OnceS [] (fun _ => false) 0 := ⟨fun k => by simp, .inl ⟨List.nodup_nil, rfl⟩⟩
theorem OnceS.le {ss : List Str} {S : Str → Bool} {n : Nat} (h : OnceS ss S n) : n ≤ ss.length := by
 rcases h.2 with ⟨_, h⟩ | ⟨_, h⟩ <;> omega
theorem OnceS.snoc {ss : List Str} {S : Str → Bool} {n : Nat} {k : Str} (h : OnceS ss S n) : OnceS (ss ++ [k]) (fun k' => S k' || decide (k' = k)) (more S n k) := by
 obtain ⟨h1, h2⟩ := h
 refine ⟨fun k' => by rw [Bool.or_eq_true, decide_eq_true_eq, h1 k', List.mem_append, List.mem_singleton], ?_⟩
 have e : (ss ++ [k]).Nodup ↔ ss.Nodup ∧ k ∉ ss := by
  rw [List.nodup_append]
  constructor
  ·rintro ⟨a, _, b⟩
   exact ⟨a, fun m => b k m k (by simp) rfl⟩
  ·rintro ⟨a, b⟩
   refine ⟨a, by simp, fun x hx y hy e => b ?_⟩
   rw [List.mem_singleton] at hy
   rw [← hy, ← e]; exact hx
 rw [e, List.length_append]
 show (_ ∧ (if S k = true then n else n + 1) = _) ∨ (_ ∧ (if S k = true then n else n + 1) < _)
 by_cases c : S k = true
 ·rw [if_pos c]
  have m := (h1 k).mp c
  rcases h2 with ⟨a, b⟩ | ⟨a, b⟩
  ·exact .inr ⟨fun z => z.2 m, by rw [b]; exact Nat.lt_succ_self _⟩
  ·exact .inr ⟨fun z => z.2 m, Nat.lt_succ_of_lt b⟩
 ·rw [if_neg c]
  have m : k ∉ ss := fun z => c ((h1 k).mpr z)
  rcases h2 with ⟨a, b⟩ | ⟨a, b⟩
  ·exact .inl ⟨⟨a, m⟩, by rw [b]; rfl⟩
  ·exact .inr ⟨fun z => a z.1, Nat.succ_lt_succ b⟩
end
end L2
namespace L3
open PySem PySem.Spec L2
section
variable {X: Cx}{E: St → XK}
theorem oq_catC : OpQ X (binaryOp .Add) (fun x y Γ Z => ∃ a b ts us, x = .ref a ∧ y = .scr X.K b us ∧ Γ a = some (.lst ts) ∧ ts.length + us.length ≤ sizeLine ∧ ∀ p, Γ p = none → Z (.ref p) (up Γ p (.lst (ts ++ us)))) :=
 ⟨_, op_catC, fun x y a b H Γ Q Z ra rb hr q0 vr => by
  obtain ⟨p, p', ts, us, ea, eb, g1, l, z⟩ := q0
  subst ea eb
  obtain ⟨vs, hv, q⟩ := hr p _ g1
  obtain ⟨rfl, vs', sq, q'⟩ := i_scr rb
  refine ⟨p, p', vs, vs', i_ref ra, rfl, SqL.of hv, sq.sq, by rw [q.length, q'.length]; exact l, fun c hc => ?_⟩
  have k := keep_new (o := .lst (vs ++ vs')) hc
  exact vr _ _ _ _ (.make hc) (hr.make (o3 := .lst (ts ++ us)) hc ⟨_, upd_same, Rs.app (q.mono (tq_kp k)) (q'.mono (tq_kp k))⟩) r_ref (z c (hr.free hc))⟩
theorem cq_intS : CallQ X (.type "int") (fun xs Γ Z => ∃ (z : Str) (n : Int), xs = [.str z] ∧ z.length ≤ 640 ∧ PySem.intText? z = some n ∧ Z (.int n) Γ) :=
 ⟨_, call_intS, fun vs xs H Γ Q Z r hr q0 vr => by
  obtain ⟨z, n, e, h1, h2, q⟩ := q0
  subst e
  obtain ⟨v, rfl, a⟩ := rs1 r
  exact ⟨z, n, by rw [i_str a], h1, h2, vr _ _ H Γ .refl hr r_int q⟩⟩
theorem mq_starts : MQ X "str.startswith" (fun x ts Γ Z => ∃ (z y : Str) (i : Int), x = .str z ∧ ts = [.str y, .int i] ∧ Z (.bl (fromIndex z.length i + y.length ≤ z.length && Builtin.Str.subAt z y (fromIndex z.length i))) Γ) :=
 ⟨_, mt_starts, fun v x vs ts H Γ Q Z rv rs hr q0 vr => by
  obtain ⟨z, y, i, e1, e2, q⟩ := q0
  subst e1 e2
  obtain ⟨a, b, rfl, ra, rb⟩ := rs2 rs
  exact ⟨z, y, i, i_str rv, by rw [i_str ra, i_int rb], vr _ _ H Γ .refl hr r_bl q⟩⟩
theorem mq_joinS : MQ X "str.join" (fun x ts Γ Z => ∃ (p : Addr) (sep : List Nat) (ls : List (List Nat)), x = .str (S sep) ∧ ts = [.ref p] ∧ it3 Γ (.ref p) = some (ls.map fun l => T.str (S l)) ∧ (ls.map fun l => l.length + sep.length).sum ≤ sizeLine ∧ Z (.str (S (joinL sep ls))) Γ) :=
 ⟨_, mt_joinS, fun v x vs ts H Γ Q Z rv rs hr q0 vr => by
  obtain ⟨p, sep, ls, e1, e2, g, l, q⟩ := q0
  subst e1 e2
  obtain ⟨a, rfl, ra⟩ := rs1 rs
  obtain ⟨us, hs, q'⟩ := it3_a (K := X.K) hr g
  have em : (ls.map fun l => T.str (S l)) = (ls.map S).map T.str := by rw [List.map_map]; rfl
  rw [em] at q'
  have := rs_strs q'
  subst this
  refine ⟨p, sep, ls, i_str rv, by rw [i_ref ra], ?_, l, vr _ _ H Γ .refl hr r_str q⟩
  rw [List.map_map] at hs
  exact hs⟩
def wSetc (gd : Gp → Prop) (g : G3) (te : E3) (C : List Str → Gp → Prop) (ts : List T) (τ : S3) (Γ : Gp) : Prop := ∃ P : List T → S3 → List Str → Gp → Prop, P ts τ [] Γ ∧ (∀ τ ys Γ, P [] τ ys Γ → gd Γ ∧ C ys Γ) ∧
 ∀ x r τ ys Γ, P (x :: r) τ ys Γ → gd Γ ∧ g Y0 x τ Γ fun τ3 Γ3 => te Y0 τ3 Γ3 fun y Γ5 => ∃ k, y = .str k ∧ P r τ3 (ys ++ [k]) Γ5
def eSetc (P : Program) (w : World) (wi : I3) (g : G3) (te : E3) (own : List Str) (cap : List (Nat × Str)) : E3 := fun Y τ Γ Z => wi Y τ Γ fun ts gd Γ1 => ts.length ≤ 999 ∧
 wSetc gd g te (fun ys Γ2 => ∀ D S n, OnceS ys S n → Γ2 D = none → Z (.ref D) (up Γ2 D (.ext (setAt P w D S n)))) ts (cSt own cap τ) Γ1
theorem setc_sim {P : Program} {w : World} {wi : I3} {g : G3} {te : E3} {own : List Str} {cap : List (Nat × Str)} (σ : St) (H : Hp) (Q : VK) (q : liE E (eSetc P w wi g te own cap) σ H Q) : tSetC P w (liI E wi) (liG EN g) (liE EN te) own cap σ H Q := by
 obtain ⟨τ, Γ, Y, Z, rs, hr, t, vr, xr⟩ := q
 refine ⟨τ, Γ, Y, _, rs, hr, t, fun J ts gd H1 Γ1 s1 h1 wk ⟨hz, Pv, z1, p0, pc⟩ => ?_, xr⟩
 intro D hD
 have nl : ∀ φ : Heap → Prop, (∀ us : List V, HO.ext φ ≠ .tup us) ∧ ∀ b w, HO.ext φ ≠ .frz b w := fun _ => ⟨fun _ z => (nomatch z), fun _ _ z => (nomatch z)⟩
 refine ⟨fun i m σ' S n H' => ∃ τ' ys Γ', i ≤ ts.length ∧ m = ts.length - i ∧ ys.length ≤ i ∧ OnceS ys S n ∧ RS H' σ' τ' ∧ HR H' Γ' ∧ H' D = some (.ext (setAt P w D S n)) ∧ Γ' D = none ∧ Stp H1 Γ1 H' Γ' ∧ Pv (ts.drop i) τ' ys Γ',
  ⟨ts.length, cSt own cap τ, [], Γ1, Nat.zero_le _, rfl, Nat.le_refl _, OnceS.nil, (rs_comp own (rs.mono s1.tq) cap).mono (tq_kp (keep_new hD)), h1.keep (keep_new hD), upd_same, h1.free hD, .keep (keep_new hD), z1⟩, ?_⟩
 rintro i m σ2 S n H2 ⟨τ2, ys, Γ2, hi, rfl, hv, on, rs2, h2, d2, gD, s2, w2⟩
 refine ⟨d2, ?_⟩
 by_cases hlt : i < ts.length
 ·rw [drop_cons hlt] at w2
  obtain ⟨g2, w2⟩ := pc _ _ _ _ _ w2
  have nn := on.le
  refine .inr ⟨wk.go i H2 Γ2 s2.tq h2 g2 hlt, by omega, fun σ' S' n' H' => ∃ τ' ys Γ', ys.length ≤ i + 1 ∧ OnceS ys S' n' ∧ RS H' σ' τ' ∧ HR H' Γ' ∧ H' D = some (.ext (setAt P w D S' n')) ∧ Γ' D = none ∧ Stp H1 Γ1 H' Γ' ∧ Pv (ts.drop (i + 1)) τ' ys Γ',
   fun σ' S' n' H' ⟨τ', ys, Γ', a, b, c, d, e, f, k, l⟩ => ⟨ts.length - (i + 1), by omega, τ', ys, Γ', hlt, rfl, a, b, c, d, e, f, k, l⟩, fun x H3 yl => ?_⟩
  obtain ⟨s3, h3, x3, e3, r3⟩ := wk.yld i H2 Γ2 x H3 s2.tq h2 g2 hlt yl
  rw [List.getElem?_eq_getElem hlt] at e3
  cases e3
  refine ⟨_, τ2, Γ2, Y0, _, r3, rs2.mono s3.tq, h3, w2, fun σ4 τ4 H4 Γ4 s4 h4 r4 z4 => ?_, xr0⟩
  refine ⟨τ4, Γ4, Y0, _, r4, h4, z4, fun y y' H6 Γ6 s6 h6 r6 z6 => ?_, xr0⟩
  obtain ⟨k, rfl, z6⟩ := z6
  have s36 := (s3.trans s4).trans s6
  have d6 : H6 D = some (.ext (setAt P w D S n)) := s36.frm D _ d2 gD
  have g6 : Γ6 D = none := s36.new D (by rw [d2]; exact fun z => nomatch z) gD
  have tq : Tq H6 (upd H6 D (.ext (setAt P w D (fun k' => S k' || decide (k' = k)) (more S n k)))) := tq_set d6 (nl _)
  refine ⟨k, i_str r6, d6, τ4, ys ++ [k], Γ6, by rw [List.length_append]; exact Nat.succ_le_succ hv, on.snoc, (r4.mono s6.tq).mono tq, h6.hide g6 d6 (nl _), upd_same, g6, ?_, z6⟩
  have s7 := s2.trans s36
  refine ⟨s7.tq.trans tq, fun a h z => ?_, s7.new, fun a o h g => ?_⟩
  ·by_cases e : a = D
   ·subst e; exact h hD
   ·rw [upd_ne e] at z; exact s7.dom a h z
  ·have e : a ≠ D := fun e => by subst e; rw [hD] at h; cases h
   rw [upd_ne e]; exact s7.frm a o h g
 ·have e : i = ts.length := by omega
  subst e
  rw [List.drop_length] at w2
  have w2 := p0 _ _ _ w2
  refine .inl ⟨wk.stop H2 Γ2 s2.tq h2 w2.1, ?_⟩
  have s12 := s1.trans s2
  refine vr (.ref D) (.ref D) H2 (up Γ2 D (.ext (setAt P w D S n))) ⟨s12.tq, s12.dom, fun a h g => ?_, s12.frm⟩ (fun a o g => ?_) r_ref (w2.2 D S n on gD)
  ·have e : a ≠ D := fun e => by subst e; exact s1.dom _ h hD
   rw [up_ne e]; exact s12.new a h g
  ·by_cases e : a = D
   ·subst e; rw [up_same] at g; cases g; exact d2
   ·rw [up_ne e] at g; exact h2 a o g
theorem qe_setc {scope : Scope} {cl : List (Str × Addr)} {own : List Str} {cap : List (Nat × Str)} {tg iter elt : Expr} {wi : I3} {g : G3} {te : E3} {pos : Pos} (c : CompOk X scope cl own cap) (hc : X.calm = true) (hi : PI X tg iter (liI E wi))
  (hg : ∀ C s H fp, PG (compCx X (own ++ cap.map (·.2)) scope cl C s H fp fun _ _ => False) tg (liG EN g))
  (he : ∀ C s H fp, PE (compCx X (own ++ cap.map (·.2)) scope cl C s H fp fun _ _ => False) elt (liE EN te)) (hs : ∀ x, foldedSetIterable iter X.env x = pure x := by intro _; rfl) :
  PE X (.SetComp elt [⟨tg, iter, [], 0⟩] scope pos) (liE E (eSetc X.prog X.w wi g te own cap)) := weakE (pe_setc c hc hi hg he hs) setc_sim
theorem cq_lenS : CallQ X (.builtin "len") (fun xs Γ Z => ∃ (p : Addr) (S : Str → Bool) (n : Nat), xs = [.ref p] ∧ Γ p = some (.ext (setAt X.prog X.w p S n)) ∧ Z (.int n) Γ) :=
 ⟨_, call_lenS, fun vs xs H Γ Q Z r hr q0 vr => by
  obtain ⟨p, S, n, e, g, z⟩ := q0
  subst e
  obtain ⟨v, rfl, a⟩ := rs1 r
  exact ⟨p, S, n, by rw [i_ref a], hr p _ g, vr _ _ H Γ .refl hr r_int z⟩⟩
end
end L3
set_option Elab.async false
set_option linter.all false
set_option maxRecDepth 100000
namespace L2
open PySem PySem.Spec PyProof.Rows
end L2
namespace L3
open PySem PySem.Spec L2
section
variable {Y: X3}{D: D3}{τ: S3}{Γ: Gp}{Z: K3}{C a dx: Addr}{fs: List (Str × T)}{f m: Str}
theorem t_fld {to : E3} (h : to Y τ Γ fun x Γ1 => ∃ a dx fs v, x = .ref a ∧ Γ1 a = some (.ins C dx fs) ∧ fs.lookup f = some v ∧ Z v Γ1) : eFld C to f Y τ Γ Z := h
theorem t_fldR {Q : T → Prop} {v : T} (g : Γ a = some (.ins C dx fs)) (l : fs.lookup f = some v) (z : Q v) : ∃ a' dx' fs' v', T.ref a = .ref a' ∧ Γ a' = some (.ins C dx' fs') ∧ fs'.lookup f = some v' ∧ Q v' := ⟨a, dx, fs, v, rfl, g, l, z⟩
theorem t_sfld {to tv : E3} (h : tv Y τ Γ fun y Γ1 => to Y τ Γ1 fun x Γ2 => ∃ a dx fs, x = .ref a ∧ Γ2 a = some (.ins C dx fs) ∧ fs.length < 1000 ∧ D.nx τ (up Γ2 a (.ins C dx (putT f y fs)))) : cFld C to tv f Y D τ Γ := h
theorem t_sfldR {Q : Gp → Prop} {y : T} (g : Γ a = some (.ins C dx fs)) (l : Nat.ble fs.length 900 = true) (z : Q (up Γ a (.ins C dx (putT f y fs)))) : ∃ a' dx' fs', T.ref a = .ref a' ∧ Γ a' = some (.ins C dx' fs') ∧ fs'.length < 1000 ∧ Q (up Γ a' (.ins C dx' (putT f y fs'))) := ⟨a, dx, fs, rfl, g, by have := Nat.le_of_ble_eq_true l; omega, z⟩
theorem t_sfa {to tv : E3} {r3 : R3} (h : to Y τ Γ fun x Γ1 => ∃ a dx fs v, x = .ref a ∧ Γ1 a = some (.ins C dx fs) ∧ fs.lookup f = some v ∧ tv Y τ Γ1 fun y Γ2 => r3 v y Γ2 fun z Γ3 => ∃ dx' fs', Γ3 a = some (.ins C dx' fs') ∧ fs'.length < 1000 ∧ D.nx τ (up Γ3 a (.ins C dx' (putT f z fs')))) : cFldA C to tv r3 f Y D τ Γ := h
theorem t_sfaR {Q : Addr → T → Prop} {v : T} (g : Γ a = some (.ins C dx fs)) (l : fs.lookup f = some v) (z : Q a v) : ∃ a' dx' fs' v', T.ref a = .ref a' ∧ Γ a' = some (.ins C dx' fs') ∧ fs'.lookup f = some v' ∧ Q a' v' := ⟨a, dx, fs, v, rfl, g, l, z⟩
theorem t_sfaE {Q : Gp → Prop} {z : T} (g : Γ a = some (.ins C dx fs)) (l : Nat.ble fs.length 900 = true) (q : Q (up Γ a (.ins C dx (putT f z fs)))) : ∃ dx' fs', Γ a = some (.ins C dx' fs') ∧ fs'.length < 1000 ∧ Q (up Γ a (.ins C dx' (putT f z fs'))) := ⟨dx, fs, g, by have := Nat.le_of_ble_eq_true l; omega, q⟩
theorem t_meth {sp : Sp3} {to : E3} {t : A3} (h : to Y τ Γ fun x Γ1 => ∃ a dx fs, x = .ref a ∧ Γ1 a = some (.ins C dx fs) ∧ fs.lookup m = none ∧ t Y τ Γ1 fun xs Γ2 => sp (.ref a :: xs) Γ2 Z fun _ _ => False) : eMeth C m sp to t Y τ Γ Z := h
theorem t_methR {Q : Addr → Prop} (g : Γ a = some (.ins C dx fs)) (l : fs.lookup m = none) (z : Q a) : ∃ a' dx' fs', T.ref a = .ref a' ∧ Γ a' = some (.ins C dx' fs') ∧ fs'.lookup m = none ∧ Q a' := ⟨a, dx, fs, rfl, g, l, z⟩
theorem t_make {sp : Sp3} {t : A3} (h : t Y τ Γ fun xs Γ1 => ∀ x dx, Γ1 x = none → Γ1 dx = none → dx ≠ x → sp (.ref x :: xs) (up Γ1 x (.ins C dx [])) (fun v Γ2 => v = .non ∧ Z (.ref x) Γ2) fun _ _ => False) : eMake C sp t Y τ Γ Z := h
theorem t_adds {i j : Str} {Q : Str → Str → Prop} (l : i.length + j.length ≤ sizeLine) (h : Q i j) : ∃ i' j', T.str i = .str i' ∧ T.str j = .str j' ∧ i'.length + j'.length ≤ sizeLine ∧ Q i' j' := ⟨i, j, rfl, rfl, l, h⟩
end
end L3
set_option Elab.async false
set_option linter.all false
set_option maxRecDepth 100000
namespace L2
open PySem PySem.Spec PyProof.Rows
end L2
namespace L3
open PySem PySem.Spec L2
end L3
set_option Elab.async false
set_option linter.all false
set_option maxRecDepth 100000
namespace L3
open PySem PySem.Spec L2
end L3
set_option Elab.async false
set_option linter.all false
set_option maxRecDepth 100000
namespace L2
open PySem PySem.Spec PyProof.Rows
end L2
set_option Elab.async false
set_option linter.all false
set_option maxRecDepth 100000
namespace L2
open PySem PySem.Spec PyProof.Rows
end L2
set_option Elab.async false
set_option linter.all false
set_option maxRecDepth 100000
namespace L2
open PySem PySem.Spec PyProof.Rows
abbrev TM := St → Hp → (St → Hp → Prop) → Prop
end L2
set_option Elab.async false
set_option linter.all false
set_option maxRecDepth 100000
namespace L3
open PySem PySem.Spec L2
open PyProof.Rows hiding St
abbrev M3 := S3 → List T → Gp → (S3 → List T → Gp → Prop) → Prop
end L3
set_option Elab.async false
set_option linter.all false
set_option maxRecDepth 100000
namespace Sr
open PySem PyProof.Rows
end Sr
set_option Elab.async false
set_option linter.all false
set_option maxRecDepth 100000
namespace Sr
open PySem PyProof.Rows
end Sr
namespace L2
open PySem PySem.Spec PyProof.Rows
end L2
namespace L3
open PySem PySem.Spec L2
end L3
set_option Elab.async false
set_option linter.all false
set_option maxRecDepth 100000
namespace L2
open PySem PySem.Spec PyProof.Rows
end L2
namespace L3
open PySem PySem.Spec L2
open PyProof.Rows hiding St
end L3
set_option Elab.async false
set_option linter.all false
set_option maxRecDepth 100000
namespace L2
open PySem PySem.Spec PyProof.Rows
end L2
namespace L2
open PySem PySem.Spec PyProof.Rows
end L2
namespace L2
open PySem PySem.Spec PyProof.Rows
end L2
namespace L2
open PySem PySem.Spec PyProof.Rows
end L2
namespace L2
open PySem PySem.Spec PyProof.Rows
end L2
namespace L2
open PySem PySem.Spec PyProof.Rows
end L2
namespace L2
open PySem PySem.Spec PyProof.Rows
end L2
namespace L2
open PySem PySem.Spec PyProof.Rows
end L2
namespace L2
open PySem PySem.Spec PyProof.Rows
end L2
namespace L2
open PySem PySem.Spec PyProof.Rows
end L2
namespace L2
open PySem PySem.Spec PyProof.Rows
section
variable {κ: Type}[DecidableEq κ]
end
structure M1 (X : Cx) (o : Expr) (m : Str) (apos : Pos) (e : Expr) (cpos : Pos) : Prop where
 base : attributeBase o m X.env (eval o X.env) = eval o X.env
 few : ((backTo cpos (starEach [e] X.env)).all (fun x => !x.1) && (backToKw cpos (keywordEach [] X.env)).all (fun x => x.1.isSome)
  && decide (([e] : List Expr).length + ([] : List Keyword).length + (if ([] : List Keyword).isEmpty then 0 else 1) < 30)) = true
 line : (apos.endLine == cpos.line) = true
 trees : backTo cpos (starEach [e] X.env) = [(false, eval e X.env)]
structure M2 (X : Cx) (o : Expr) (m : Str) (apos : Pos) (e f : Expr) (cpos : Pos) : Prop where
 base : attributeBase o m X.env (eval o X.env) = eval o X.env
 few : ((backTo cpos (starEach [e, f] X.env)).all (fun x => !x.1) && (backToKw cpos (keywordEach [] X.env)).all (fun x => x.1.isSome)
  && decide (([e, f] : List Expr).length + ([] : List Keyword).length + (if ([] : List Keyword).isEmpty then 0 else 1) < 30)) = true
 line : (apos.endLine == cpos.line) = true
 trees : backTo cpos (starEach [e, f] X.env) = [(false, eval e X.env), (false, eval f X.env)]
end L2
namespace Att
open PySem PySem.W PySem.Calls PyProof.Rows
end Att
namespace L2
open PySem PySem.Spec PyProof.Rows
end L2
namespace L2
open PySem PySem.Spec PyProof.Rows
end L2
namespace L2
open PySem PySem.Spec PyProof.Rows
section
variable {κ: Type}[DecidableEq κ]
end
end L2
set_option Elab.async false
set_option linter.all false
set_option maxRecDepth 100000
namespace L2
open PySem PySem.Spec PyProof.Rows
section
variable {X: Cx}{C: Addr}{m: Str}{k j: Nat}{ps: List Str}{sp: Sp}{o e: Expr}{es: List Expr}{ta: TE}{t: TA}{apos pos: Pos}{W: St → XK}
def tMethW (C : Addr) (m : Str) (sp : Sp) (W : St → XK) (ta : TE) (t : TA) : TE := fun σ H Q => ta σ H fun x H1 => ∃ a dx fs, x = .ref a ∧ H1 a = some (.ins C dx fs) ∧ fs.lookup m = none ∧ t σ H1 fun vs H2 => sp (.ref a :: vs) H2 Q (W σ)
theorem pe_methW {pl : Sem Bool} (c : CalleeMX X.prog X.w X.K X.mg X.base C m k ps sp) (hr : Room j X.A) (hk : k ≤ j) (hx : PassesW X W) (he : PE X o ta) (ha : PA X (e :: es) t)
  (hst : starEach (e :: es) X.env = (false, eval e X.env) :: starEach es X.env := by rfl) (hpl : (backTo pos (starEach es X.env)).any (·.1) = false := by rfl)
  (ht : eval (.Call (.Attribute o m apos) (e :: es) [] pos) X.env = (do
   let ov ← eval o X.env
   standAt apos.atName
   let (f, first) ← holding [ov] (getMethod ov m pl)
   callWith pos f first (backTo pos (starEach (e :: es) X.env)) (backToKw pos (keywordEach [] X.env))) := by rfl) :
  PE X (.Call (.Attribute o m apos) (e :: es) [] pos) (tMethW C m sp W ta t) := by
 refine .mk ?_
 obtain ⟨f, fd, F, c, hm, b⟩ := c
 intro pins s σ H Q I h
 refine PySem.W.methodCall_KW (pl := pl) (thn (he pins s σ H _ I h) fun u s1 ⟨x, H1, I1, rx, a, dx, fs, ex, ea, l, q⟩ => ?_) ht
 subst ex
 obtain rfl : u = Value.ref a := rx
 refine getmeth_ok I1 ea c hm l ?_
 refine PySem.W.callWith_K (first := [.ref a]) (h₀ := X.base) I.ok.mod.kin hm.kp (thn (ha pos pins s1 σ H1 _ I1 q) fun us s2 ⟨vs, H2, I2, r, q2⟩ => ⟨I2.kIn, ?_⟩) hst hpl
 have r2 : Vals (V.ref a :: vs) (Value.ref a :: us) := .cons rfl r
 have hl : (Value.ref a :: us).length = ps.length := by rw [← r2.length]; exact F.len _ _ _ _ q2
 have hb := b s2 (Value.ref a :: us) I2.kIn (by rw [List.append_nil]; exact hl)
 rw [List.append_nil] at hb
 refine wpAny_call (codeAny_mono (F.run X.A X.stack s2 H2 ⟨Value.ref a :: us, []⟩ (Value.ref a :: us) (V.ref a :: vs) Q (W σ) (hr.mono hk) I2.env0 hb r2 q2) fun r' s' hq => ?_)
 cases r' with
 | error e => exact hx pins σ H2 s2 e s' I2 hq
 | ok fl =>
  cases fl with
  | ret u => exact I2.after hq
  | next => exact False.elim hq
  | brk => exact False.elim hq
  | cont => exact False.elim hq
end
end L2
namespace L3
open PySem PySem.Spec L2
open PyProof.Rows hiding St
def kT : Key → T
 | .inl i => .int i
 | .inr z => .str z
section
variable {X: Cx}{E: St → XK}{C: Addr}
def eMethX (C : Addr) (m : Str) (sp : Sp3) (to : E3) (t : A3) : E3 := fun Y τ Γ Z => to Y τ Γ fun x Γ1 => ∃ a dx fs, x = .ref a ∧ Γ1 a = some (.ins C dx fs) ∧ fs.lookup m = none ∧ t Y τ Γ1 fun xs Γ2 => sp (.ref a :: xs) Γ2 Z (Y τ)
theorem qe_methX {m : Str} {k j : Nat} {ps : List Str} {sp : Sp3} {o e : Expr} {es : List Expr} {to : E3} {t : A3} {apos pos : Pos} {pl : Sem Bool} (c : ClMx X.prog X.w X.K X.mg X.base C m k ps sp) (hr : Room j X.A) (hk : k ≤ j) (hx : PassesW X E) (he : PE X o (liE E to)) (ha : PA X (e :: es) (liA E t))
  (hst : starEach (e :: es) X.env = (false, eval e X.env) :: starEach es X.env := by rfl) (hpl : (backTo pos (starEach es X.env)).any (·.1) = false := by rfl)
  (ht : eval (.Call (.Attribute o m apos) (e :: es) [] pos) X.env = (do
   let ov ← eval o X.env
   standAt apos.atName
   let (f, first) ← holding [ov] (getMethod ov m pl)
   callWith pos f first (backTo pos (starEach (e :: es) X.env)) (backToKw pos (keywordEach [] X.env))) := by rfl) : PE X (.Call (.Attribute o m apos) (e :: es) [] pos) (liE E (eMethX C m sp to t)) := by
 refine weakE3 (pe_methW (pl := pl) c hr hk hx he ha hst hpl ht) fun σ H Q τ Γ Y Z rs hr t vr xr => ?_
 refine ⟨τ, Γ, Y, _, rs, hr, t, fun v x H1 Γ1 s1 h1 r1 z1 => ?_, xr⟩
 obtain ⟨a, dx, fs, rfl, g, l, z⟩ := z1
 obtain ⟨gs, hg, q⟩ := h1 a _ g
 refine ⟨a, dx, gs, i_ref r1, hg, q.non l, ?_⟩
 refine ⟨τ, Γ1, Y, _, rs.mono s1.tq, h1, z, fun vs xs H2 Γ2 s2 h2 r2 z2 => ?_, xr.mono s1⟩
 have s12 := s1.trans s2
 exact ⟨.ref a :: xs, Γ2, Z, Y τ, rs_cons r_ref r2, h2, z2, vr.mono s12, fun C H' Γ' s' h' y => xr σ τ C H' Γ' (s12.trans s') h' (rs.mono (s12.trans s').tq) y⟩
end
end L3
set_option Elab.async false
set_option linter.all false
set_option maxRecDepth 100000
namespace Sr
open PySem PyProof.Rows
section
variable {Kk: Type}[DecidableEq Kk]
end
end Sr
namespace L2
open PySem PyProof.Rows
end L2
namespace L3
open PySem PySem.Spec L2
end L3
set_option Elab.async false
set_option linter.all false
set_option maxRecDepth 100000
namespace L2
open PySem PySem.Spec PyProof.Rows PySem.W
end L2
namespace L3
open PySem PySem.Spec L2
end L3
set_option Elab.async false
set_option linter.all false
set_option maxRecDepth 100000
namespace Sr
open PySem PyProof.Rows
end Sr
set_option Elab.async false
set_option linter.all false
set_option maxRecDepth 100000
namespace Sr
open PySem PyProof.Rows
end Sr
namespace L2
open PySem PyProof.Rows
end L2
namespace L3
open PySem PySem.Spec L2
end L3
set_option Elab.async false
set_option linter.all false
set_option maxRecDepth 100000
namespace Sr
open PySem PyProof.Rows
section
variable {K: Type}[DecidableEq K]
end
end Sr
set_option Elab.async false
set_option linter.all false
set_option maxRecDepth 100000
namespace Sr
open PySem PyProof.Rows
section
variable {K: Type}[DecidableEq K]
end
end Sr
set_option Elab.async false
set_option linter.all false
set_option maxRecDepth 100000
namespace Sr
end Sr
namespace L2
open PySem PyProof.Rows
end L2
namespace L3
open PySem PySem.Spec L2
end L3
set_option Elab.async false
set_option linter.all false
set_option maxRecDepth 100000
namespace L2
open PySem PySem.Spec PyProof.Rows
end L2
namespace L3
open PySem PySem.Spec L2
open PyProof.Rows hiding St
end L3
set_option Elab.async false
set_option linter.all false
set_option maxRecDepth 100000
namespace L2
open PySem PySem.Spec PyProof.Rows PySem.W
end L2
namespace L3
open PySem PySem.Spec L2
end L3
set_option Elab.async false
set_option linter.all false
set_option maxRecDepth 100000
namespace Sr
open PySem PyProof.Rows
section
variable {Kk: Type}[DecidableEq Kk]
end
end Sr
namespace L2
open PySem PyProof.Rows
end L2
namespace L3
open PySem PySem.Spec L2
end L3
set_option Elab.async false
set_option linter.all false
set_option maxRecDepth 100000
namespace Sr
open PySem PyProof.Rows
end Sr
set_option Elab.async false
set_option linter.all false
set_option maxRecDepth 100000
namespace Sr
open PySem PyProof.Rows
end Sr
set_option Elab.async false
set_option linter.all false
set_option maxRecDepth 100000
namespace Sr
open PySem PyProof.Rows
abbrev rv (out : Array Keyed) : List Keyed := out.toList.reverse
end Sr
set_option Elab.async false
set_option linter.all false
set_option maxRecDepth 100000
namespace Sr
open PySem PyProof.Rows
end Sr
set_option Elab.async false
set_option linter.all false
set_option maxRecDepth 100000
namespace Sr
open PySem PyProof.Rows
end Sr
set_option Elab.async false
set_option linter.all false
set_option maxRecDepth 100000
namespace Sr
open PySem PyProof.Rows
end Sr
set_option Elab.async false
set_option linter.all false
set_option maxRecDepth 100000
namespace Sr
open PySem PyProof.Rows
end Sr
namespace L2
open PySem PyProof.Rows
end L2
namespace L3
open PySem PySem.Spec L2
end L3
set_option Elab.async false
set_option linter.all false
set_option maxRecDepth 100000
namespace Sr
open PySem PyProof.Rows
section
variable {Kk: Type}[DecidableEq Kk]
end
end Sr
namespace L2
open PySem PyProof.Rows
end L2
namespace L3
open PySem PySem.Spec L2
end L3
set_option Elab.async false
set_option linter.all false
set_option maxRecDepth 100000
namespace L2
open PySem PySem.Spec PyProof.Rows
end L2
namespace L3
open PySem PySem.Spec L2
end L3
set_option Elab.async false
set_option linter.all false
set_option maxRecDepth 100000
namespace L3
open PySem PySem.Spec L2
end L3
set_option Elab.async false
set_option linter.all false
set_option maxRecDepth 100000
namespace L3
open PySem PySem.Spec L2
end L3
set_option Elab.async false
set_option linter.all false
namespace L3
open PySem PySem.Spec L2
section
variable {P: Program}{w: World}{K: PySem.W.Frag}{mg: Str → Option Value}{base h: Heap}{x q: Str}{st: Stmt}{f: Addr}{fd: FuncData}{ps: List Str}{n: Nat}{sp: Sp}
structure Dg (K : PySem.W.Frag) (x : Str) (st : Stmt) (f : Addr) (fd : FuncData) : Prop where
 a : PySem.W.nsIn K mainGlobals x = some (some (.ref f))
 F : Fun K x x st f fd
theorem dg {oc : Value} {od an : Option Addr} {osl : Array (Option Value)} {kV doc pm cdv ct : Value} (a : PySem.W.nsIn K mainGlobals x = some (some (.ref f))) (l : K.lookup f = some ⟨oc, od, .func (PySem.W.fnOf x x (defArgs st) (defBody st) (defScope st) .none kV doc pm an cdv ct), osl⟩) (c : PySem.W.codeIn K cdv x = true) (k : PySem.W.keepIn K (.ref f) = true) : Dg K x st f (PySem.W.fnOf x x (defArgs st) (defBody st) (defScope st) .none kV doc pm an cdv ct) := ⟨a, fun_mk l c k⟩
structure Df (K : PySem.W.Frag) (mg : Str → Option Value) (x : Str) (st : Stmt) (ps : List Str) (f : Addr) (fd : FuncData) : Prop where
 F : Fun K x x st f fd
 m : mg x = some (.ref f)
 k : PySem.W.keepIn K (.ref f) = true
 b : Binds K fd ps []
theorem Dg.df (d : Dg K x st f fd) (X : K.In h) (G : h.Ns mainGlobals mg) (hb : ∀ (kV doc pm : Value) (an : Option Addr) (cdv ct : Value) (us : List Value), us.length = ps.length → bindArgs (PySem.W.fnOf x x (defArgs st) (defBody st) (defScope st) .none kV doc pm an cdv ct) ⟨us, []⟩ = pure (ps.zip us)) : Df K mg x st ps f fd := ⟨d.F, PySem.W.mg_of X G d.a, d.F.kp, d.F.binds hb⟩
theorem Df.cl (d : Df K mg x st ps f fd) (o : FnOk P w K mg base CX0 n f fd ps sp) : Callee P w K mg base x n ps sp := ⟨f, fd, o, d.m, d.k, d.b⟩
theorem Df.cx (d : Df K mg x st ps f fd) (o : FnOk P w K mg base (CXe P w) n f fd ps sp) : CalleeX P w K mg base x n ps sp := ⟨f, fd, o, d.m, d.k, d.b⟩
def Zs (K : PySem.W.Frag) : List Str → Prop
 | [] => True
 | x :: l => PySem.W.nsIn K mainGlobals x = some none ∧ Zs K l
def Zm (mg : Str → Option Value) : List Str → Prop
 | [] => True
 | x :: l => mg x = none ∧ Zm mg l
theorem Zs.m (X : K.In h) (G : h.Ns mainGlobals mg) : ∀ {l : List Str}, Zs K l → Zm mg l
 | [], _ => trivial
 | _ :: _, ⟨a, b⟩ => ⟨PySem.W.mg_none_of X G a, Zs.m X G b⟩
theorem zc {x : Str} {l : List Str} (a : PySem.W.nsIn K mainGlobals x = some none) (b : Zs K l) : Zs K (x :: l) := ⟨a, b⟩
structure Dm (K : PySem.W.Frag) (c : Addr) (m q : Str) (st : Stmt) (f : Addr) (fd : FuncData) : Prop where
 t : Meth K c m f
 F : Fun K m q st f fd
theorem dm {c : Addr} {m : Str} {oc : Value} {od an : Option Addr} {osl : Array (Option Value)} {kV doc pm cdv ct : Value} (a : PySem.W.findIn K (.ref c) m = some (some (.ref f))) (l : K.lookup f = some ⟨oc, od, .func (PySem.W.fnOf m q (defArgs st) (defBody st) (defScope st) .none kV doc pm an cdv ct), osl⟩) (cd : PySem.W.codeIn K cdv q = true) (k : PySem.W.keepIn K (.ref f) = true) (i : PySem.W.isFn K (.ref f) = true) : Dm K c m q st f (PySem.W.fnOf m q (defArgs st) (defBody st) (defScope st) .none kV doc pm an cdv ct) := ⟨⟨a, i, k⟩, fun_mk l cd k⟩
end
end L3
set_option Elab.async false
set_option linter.all false
namespace L3
open PySem PySem.Spec L2
section
variable {X: Cx}
theorem oq_catD : OpQ X (binaryOp .Add) (fun x y Γ Z => ∃ a b ts us, x = .scr X.K a ts ∧ y = .ref b ∧ Γ b = some (.lst us) ∧ ts.length + us.length ≤ sizeLine ∧ ∀ p, Γ p = none → Z (.ref p) (up Γ p (.lst (ts ++ us)))) :=
 ⟨_, op_catC, fun x y v w H Γ Q Z ra rb hr q0 vr => by
  obtain ⟨a, b, ts, us, ea, eb, g, l, z⟩ := q0
  subst ea eb
  obtain ⟨rfl, vs, sq, q⟩ := i_scr ra
  obtain ⟨vs', hv', q'⟩ := hr b _ g
  refine ⟨a, b, vs, vs', rfl, i_ref rb, sq.sq, SqL.of hv', by rw [q.length, q'.length]; exact l, fun c hc => ?_⟩
  have k := keep_new (o := .lst (vs ++ vs')) hc
  exact vr _ _ _ _ (.make hc) (hr.make (o3 := .lst (ts ++ us)) hc ⟨_, upd_same, Rs.app (q.mono (tq_kp k)) (q'.mono (tq_kp k))⟩) r_ref (z c (hr.free hc))⟩
end
end L3
set_option Elab.async false
set_option linter.all false
namespace L2
open PySem PySem.Spec
section
variable {X: Cx}{C: Addr}{m: Str}{k j: Nat}{ps: List Str}{sp: Sp}{o: Expr}{ta: TE}{apos pos: Pos}{W: St → XK}
theorem pe_methW0 {pl : Sem Bool} (c : CalleeMX X.prog X.w X.K X.mg X.base C m k ps sp) (hr : Room j X.A) (hk : k ≤ j) (hx : PassesW X W) (he : PE X o ta)
  (ht : eval (.Call (.Attribute o m apos) [] [] pos) X.env = (do
   let ov ← eval o X.env
   standAt apos.atName
   let (f, first) ← holding [ov] (getMethod ov m pl)
   callWith pos f first (backTo pos (starEach [] X.env)) (backToKw pos (keywordEach [] X.env))) := by rfl) :
  PE X (.Call (.Attribute o m apos) [] [] pos) (tMethW C m sp W ta tNil) := by
 refine .mk ?_
 obtain ⟨f, fd, F, c, hm, b⟩ := c
 intro pins s σ H Q I h
 refine PySem.W.methodCall_KW (pl := pl) (thn (he pins s σ H _ I h) fun u s1 ⟨x, H1, I1, rx, a, dx, fs, ex, ea, l, q⟩ => ?_) ht
 subst ex
 obtain rfl : u = Value.ref a := rx
 refine getmeth_ok I1 ea c hm l ?_
 refine PySem.W.callWith_K0 (first := [.ref a]) I1.kIn hm.kp ?_
 have r2 : Vals [V.ref a] [Value.ref a] := .cons rfl .nil
 have hl : [Value.ref a].length = ps.length := by rw [← r2.length]; exact F.len _ _ _ _ q
 have hb := b s1 [Value.ref a] I1.kIn (by rw [List.append_nil]; exact hl)
 rw [List.append_nil] at hb
 refine wpAny_call (codeAny_mono (F.run X.A X.stack s1 H1 ⟨[Value.ref a], []⟩ [Value.ref a] [V.ref a] Q (W σ) (hr.mono hk) I1.env0 hb r2 q) fun r' s' hq => ?_)
 cases r' with
 | error e => exact hx pins σ H1 s1 e s' I1 hq
 | ok fl =>
  cases fl with
  | ret u => exact I1.after hq
  | next => exact False.elim hq
  | brk => exact False.elim hq
  | cont => exact False.elim hq
end
section
variable {X: Cx}
theorem op_mulT : OpR X (binaryOp .Mult) (fun x y H Q => ∃ z k, x = .str z ∧ y = .int k ∧ -(2 ^ 62) < k ∧ k ≤ 5000 ∧ z.length ≤ 1000 ∧ Q (.str (repS z k.toNat)) H) := by
 intro pins s σ H x y v u Q I rx ry h
 obtain ⟨z, k, rfl, rfl, k1, k2, z1, q⟩ := h
 obtain ⟨t, rfl⟩ := rx
 obtain ⟨t', rfl⟩ := ry
 have hr : (decide (k < -(2 ^ 63 : Int)) || decide (k ≥ 2 ^ 63)) = false := by
  rw [decide_eq_false (by omega), decide_eq_false (by omega)]; rfl
 have hm : z.length * k.toNat ≤ 1000 * 5000 := Nat.mul_le_mul z1 (by omega)
 have hs : (1000 * 5000 : Nat) ≤ sizeLine := by decide
 refine PySem.P.mul_str hr (fun h1 _ => ?_) (fun h1 _ => ?_) ?_
 ·have e : (2 ^ 63 - 1 : Int) / k ≥ 1844674407370955 := by
   rw [ge_iff_le, Int.le_ediv_iff_mul_le (by omega)]
   omega
  omega
 ·show decide (z.length * k.toNat > sizeLine) = false
  exact decide_eq_false (by omega)
 ·by_cases c : k < 1
  ·rw [if_pos c]
   refine ⟨by decide, .str Str.empty, H, I.tok _, ⟨_, rfl⟩, ?_⟩
   rw [rep_none (.inl (by omega))] at q
   exact q
  ·rw [if_neg c]
   by_cases c2 : (k == 1 || z.length == 0) = true
   ·rw [if_pos c2]
    refine ⟨.str z, H, I, ⟨t, rfl⟩, ?_⟩
    rw [Bool.or_eq_true, beq_iff_eq, beq_iff_eq] at c2
    rcases c2 with rfl | c2
    ·rw [show (1 : Int).toNat = 1 from rfl, rep_one] at q
     exact q
    ·rw [rep_none (.inr c2)] at q
     have ez : z = Str.empty := by
      show (⟨z.cps⟩ : Str) = ⟨#[]⟩
      congr 1
      exact Array.eq_empty_of_size_eq_zero c2
     rw [ez]
     exact q
   ·rw [if_neg c2]
    refine ⟨?_, .str (repS z k.toNat), H, I.tok _, ⟨_, rfl⟩, q⟩
    show (repS z k.toNat).length ≤ sizeLine
    rw [repS_len, Nat.mul_comm]
    omega
end
end L2
namespace L3
open PySem PySem.Spec L2
section
variable {X: Cx}{C: Addr}{m: Str}{k j: Nat}{ps: List Str}{sp: Sp3}{o: Expr}{to: E3}{apos pos: Pos}{E: St → XK}
theorem qe_methX0 {pl : Sem Bool} (c : ClMx X.prog X.w X.K X.mg X.base C m k ps sp) (hr : Room j X.A) (hk : k ≤ j) (hx : PassesW X E) (he : PE X o (liE E to))
  (ht : eval (.Call (.Attribute o m apos) [] [] pos) X.env = (do
   let ov ← eval o X.env
   standAt apos.atName
   let (f, first) ← holding [ov] (getMethod ov m pl)
   callWith pos f first (backTo pos (starEach [] X.env)) (backToKw pos (keywordEach [] X.env))) := by rfl) : PE X (.Call (.Attribute o m apos) [] [] pos) (liE E (eMethX C m sp to aNil)) := by
 refine weakE3 (pe_methW0 (pl := pl) c hr hk hx he ht) fun σ H Q τ Γ Y Z rs hr t vr xr => ?_
 refine ⟨τ, Γ, Y, _, rs, hr, t, fun v x H1 Γ1 s1 h1 r1 z1 => ?_, xr⟩
 obtain ⟨a, dx, fs, rfl, g, l, z⟩ := z1
 obtain ⟨gs, hg, q⟩ := h1 a _ g
 refine ⟨a, dx, gs, i_ref r1, hg, q.non l, ?_⟩
 exact ⟨[.ref a], Γ1, Z, Y τ, rs_cons r_ref rs_nil, h1, z, vr.mono s1, fun C H' Γ' s' h' y => xr σ τ C H' Γ' (s1.trans s') h' (rs.mono (s1.trans s').tq) y⟩
theorem oq_mulT : OpQ X (binaryOp .Mult) (fun x y Γ Z => ∃ z k, x = .str z ∧ y = .int k ∧ -(2 ^ 62) < k ∧ k ≤ 5000 ∧ z.length ≤ 1000 ∧ Z (.str (repS z k.toNat)) Γ) :=
 ⟨_, op_mulT, fun x y a b H Γ Q Z ra rb hr q0 vr => by obtain ⟨i, j, ea, eb, c1, c2, c3, z⟩ := q0; subst ea eb; exact ⟨i, j, i_str ra, i_int rb, c1, c2, c3, vr _ _ H Γ .refl hr r_str z⟩⟩
end
end L3
set_option Elab.async false
set_option linter.all false
set_option maxRecDepth 100000
set_option maxHeartbeats 1000000
namespace L2
open PySem PySem.Spec PyProof.Rows PySem.W
end L2
set_option Elab.async false
set_option linter.all false
set_option maxRecDepth 100000
set_option maxHeartbeats 1000000
namespace L3
open PySem PySem.Spec L2
end L3
set_option Elab.async false
set_option linter.all false
set_option maxRecDepth 100000
namespace L2
open PySem PySem.Spec PyProof.Rows PySem.W PySem.Builtin
end L2
set_option Elab.async false
set_option linter.all false
set_option maxRecDepth 100000
namespace L2
open PySem PySem.Spec PyProof.Rows PySem.W
end L2
set_option Elab.async false
set_option linter.all false
set_option maxRecDepth 100000
set_option maxHeartbeats 1000000
namespace L2
open PySem PySem.Spec PyProof.Rows PySem.W
end L2
namespace L3
open PySem PySem.Spec L2
end L3
set_option Elab.async false
set_option linter.all false
set_option maxRecDepth 100000
namespace L2
open PySem PySem.Spec PyProof.Rows
end L2
namespace L3
open PySem PySem.Spec L2
end L3
set_option Elab.async false
set_option linter.all false
set_option maxRecDepth 100000
namespace L2
open PySem PySem.Spec PyProof.Rows
end L2
set_option Elab.async false
set_option linter.all false
set_option maxRecDepth 100000
namespace L2
open PySem PySem.Spec PyProof.Rows
end L2
namespace L3
open PySem PySem.Spec L2
end L3
set_option Elab.async false
set_option linter.all false
set_option maxRecDepth 100000
namespace L3
open PySem PySem.Spec L2
open PyProof.Rows hiding St
end L3
set_option Elab.async false
set_option linter.all false
set_option maxRecDepth 100000
namespace Sr
open PySem PyProof.Rows
end Sr
set_option Elab.async false
set_option linter.all false
set_option maxRecDepth 100000
namespace Sr
open PySem PyProof.Rows
end Sr
namespace L2
open PySem PyProof.Rows
end L2
namespace L3
open PySem PySem.Spec L2
end L3
set_option Elab.async false
set_option linter.all false
set_option maxRecDepth 100000
namespace L3
open PySem PySem.Spec L2
open PyProof.Rows hiding St
end L3
set_option Elab.async false
set_option linter.all false
set_option maxRecDepth 100000
namespace L3
open PySem PySem.Spec L2
open PyProof.Rows hiding St
end L3
set_option Elab.async false
set_option linter.all false
namespace L3
open PySem L2
end L3
set_option Elab.async false
set_option linter.all false
set_option maxRecDepth 100000
namespace Tg
open PySem L2 L3
mutual
def Kd.tr : Kd → T
 | .num w => .tup [.str "num", .int w]
 | .text => .tup [.str "text"]
 | .row k => .tup [.str "row", k.tr]
 | .rec_ fs => .tup [.str "rec", .tup (trF fs)]
 | .pick fs => .tup [.str "pick", .tup (trF fs)]
def trF : List (Str × Kd) → List T
 | [] => []
 | (n, k) :: r => .tup [.str n, k.tr] :: trF r
end
theorem trF_map : ∀ fs : List (Str × Kd), trF fs = fs.map fun p => .tup [.str p.1, p.2.tr]
 | [] => rfl
 | (n, k) :: r => by rw [trF, trF_map r]; rfl
theorem trF_len (fs : List (Str × Kd)) : (trF fs).length = fs.length := by rw [trF_map, List.length_map]
theorem trF_app : ∀ (fs gs : List (Str × Kd)), trF (fs ++ gs) = trF fs ++ trF gs := fun fs gs => by rw [trF_map, trF_map, trF_map, List.map_append]
end Tg
namespace Tg
open PySem L2 L3
end Tg
namespace Tg
open PySem L2 L3
end Tg
set_option Elab.async false
set_option linter.all false
set_option maxRecDepth 100000
namespace Tg
open PySem L2 L3
end Tg
set_option Elab.async false
set_option linter.all false
set_option maxRecDepth 100000
namespace Tg
open PySem L2 L3
def vx : T → V
 | .int i => .int i
 | .str z => .str z
 | _ => .non
end Tg
set_option Elab.async false
set_option linter.all false
set_option maxRecDepth 100000
namespace Tg
open PySem L2 L3
def isTp : T → Bool
 | .tup _ => true
 | _ => false
mutual
def dT : T → Nat
 | .tup us => 1 + (us.filter isTp).length + dL us
 | _ => 0
def dL : List T → Nat
 | [] => 0
 | t :: r => max (dT t) (dL r)
end
end Tg
set_option Elab.async false
set_option linter.all false
set_option maxRecDepth 100000
namespace Tg
open PySem L2 L3
end Tg
set_option Elab.async false
set_option linter.all false
set_option maxRecDepth 100000
namespace Tg
open PySem L2 L3
end Tg
set_option Elab.async false
set_option linter.all false
set_option maxRecDepth 100000
namespace Tg
open PySem L2 L3
end Tg
set_option Elab.async false
set_option linter.all false
set_option maxRecDepth 100000
namespace Tg
open PySem L2 L3
end Tg
set_option Elab.async false
set_option linter.all false
set_option maxRecDepth 100000
namespace Sto
abbrev Gap := Int × Int
abbrev Blk := Int × Int × Int
end Sto
set_option Elab.async false
set_option linter.all false
set_option maxRecDepth 100000
set_option maxHeartbeats 4000000
namespace L3
open PySem PySem.Spec L2
open PyProof.Rows hiding St
section
variable {X: Cx}{E: St → XK}{pos: Pos}
theorem qix {a b : Expr} {ta tb : E3} (ha : PE X a (liE E ta)) (hb : PE X b (liE E tb)) (hs : PlainIx b := by exact fun _ _ => rfl) : PE X (.Subscript a b pos) (liE E (eOp r3Ix ta tb)) := qe_ix ha hb hs
theorem qixs {a b : Expr} {ta tb : E3} (ha : PE X a (liE E ta)) (hb : PE X b (liE E tb)) (hs : PlainIx b := by exact fun _ _ => rfl) : PE X (.Subscript a b pos) (liE E (eOp r3IxS ta tb)) := qe_ixS ha hb hs
theorem qec {a b : Expr} {ta tb : E3} {op : CmpOp} {r3 : R3} (ho : OpQ X (compareOp op) r3) (ha : PE X a (liE E ta)) (hb : PE X b (liE E tb)) (hm : behindInMarks op b = false := by exact nomark _) : PE X (.Compare a [op] [b] pos) (liE E (eOp r3 ta tb)) := qe_cmpR ho ha hb hm
theorem qtc {a b : Expr} {ta tb : E3} {op : CmpOp} {r3 : R3} (ho : OpQ X (compareOp op) r3) (ha : PE X a (liE E ta)) (hb : PE X b (liE E tb)) (hm : behindInMarks op b = false := by exact nomark _) : PT X (.Compare a [op] [b] pos) (liT E (eT (eOp r3 ta tb))) := qt_cmpR ho ha hb hm
theorem qst {i : Nat} {x : Str} {e : Expr} {te : E3} {pos2 : Pos} (hN : X.N.Nodup) (he : PE X e (liE E te)) (hi : X.N[i]? = some x := by rfl) (hx : Loc X.env.scope x := by first | exact .inl rfl | exact .inr rfl) (hs : swapsWith e (some (.Name x pos2)) pos.line X.env = pure false := by rfl) (hf : X.fn x = true ∨ X.env.scope.names.lookup x = some .local := by first | exact .inl rfl | exact .inr rfl | assumption) : PS X (.Assign [.Name x pos2] e pos) (liS E (cSet i te)) := qs_set hN hi hx he hs hf
theorem qgn {i : Nat} {x : Str} (hN : X.N.Nodup) (hi : X.N[i]? = some x := by rfl) (hx : Loc X.env.scope x := by first | exact .inl rfl | exact .inr rfl) (hf : X.fn x = true ∨ X.env.scope.names.lookup x = some .local := by first | exact .inl rfl | exact .inr rfl | assumption) : PG X (.Name x pos) (liG E (hName i)) := qg_name hN hi hx hf
theorem qgo {x : Str} (hN : X.N = [x] := by rfl) (hx : Loc X.env.scope x := by first | exact .inl rfl | exact .inr rfl) (hf : X.fn x = true ∨ X.env.scope.names.lookup x = some .local := by first | exact .inl rfl | exact .inr rfl | assumption) : PG X (.Name x pos) (liG E (hName 0)) := qg_name (by rw [hN]; simp) (by rw [hN]; rfl) hx hf
theorem qcl {x : Str} {k j : Nat} {ps : List Str} {sp : Sp3} {p : Pos} {e : Expr} {es : List Expr} {t : A3} (c : Cl3 X.prog X.w X.K X.mg X.base x k ps sp) (hr : Room j X.A) (ha : PA X (e :: es) (liA E t)) (hk : k ≤ j := by omega) (hg : Gl X x := by rfl) (hdb : (x == ("__debug__" : Str)) = false := by decide) (he : starEach (e :: es) X.env = (false, eval e X.env) :: starEach es X.env := by rfl) (hpl : (backTo pos (starEach es X.env)).any (·.1) = false := by rfl) : PE X (.Call (.Name x p) (e :: es) [] pos) (liE E (eCall sp t)) := qe_call c hr hk hg ha hdb he hpl
theorem qcx {x : Str} {k j : Nat} {ps : List Str} {sp : Sp3} {p : Pos} {e : Expr} {es : List Expr} {t : A3} (c : Clx X.prog X.w X.K X.mg X.base x k ps sp) (hr : Room j X.A) (hx : PassesW X E) (ha : PA X (e :: es) (liA E t)) (hk : k ≤ j := by omega) (hg : Gl X x := by rfl) (hdb : (x == ("__debug__" : Str)) = false := by decide) (he : starEach (e :: es) X.env = (false, eval e X.env) :: starEach es X.env := by rfl) (hpl : (backTo pos (starEach es X.env)).any (·.1) = false := by rfl) : PE X (.Call (.Name x p) (e :: es) [] pos) (liE E (eCallX sp t)) := qe_callX c hr hk hg hx ha hdb he hpl
theorem cok {scope : Scope} {own : List Str} (hk : scope.kind = .function := by rfl) (hn : ∀ y ∈ scope.names, y.2 ≠ .free ∧ y.2 ≠ .cell := by decide +kernel) (hl : ∀ y ∈ scope.names, y.2 = .local → scope.names.lookup y.1 = some .local := by decide +kernel) : CompOk X scope [] own [] := compOk0 hk hn hl
end
end L3
namespace Tg
open PySem L2 L3
def top (i : Nat) : Stmt := PySem.Challenge.pw_tonguegate_k64_deep_and_wide_texts.main.body.getD i (.Pass ⟨0, 0, 0, 0⟩)
def mem (i j : Nat) : Stmt := match top i with
 | .ClassDef _ _ _ b _ _ _ _ _ _ _ => b.getD j (.Pass ⟨0, 0, 0, 0⟩)
 | _ => .Pass ⟨0, 0, 0, 0⟩
local macro_rules | `(tactic| and_intros) => `(tactic| repeat (first
 | with_reducible refine t_seq ?_ | with_reducible refine t_if ?_ | with_reducible refine t_op ?_ | with_reducible refine t_T ?_ | with_reducible refine t_c ?_
 | ((with_reducible apply t_var); exact rfl) | with_reducible refine t_set ?_ | with_reducible refine t_ret ?_ | with_reducible refine t_retN ?_ | with_reducible refine t_drop ?_ | with_reducible refine t_next ?_ | with_reducible refine t_cnt ?_
 | with_reducible refine t_ix0 ?_ | with_reducible refine t_ix1 ?_ | with_reducible refine t_J ?_ | with_reducible refine t_eqS ?_ | with_reducible refine t_eqI ?_ | with_reducible refine t_neS ?_ | with_reducible refine t_neI ?_ | with_reducible refine t_bl ?_
 | with_reducible refine t_band ?_ | with_reducible refine t_bor ?_ | with_reducible refine t_bnot ?_ | with_reducible refine t_and ?_ | with_reducible refine t_or ?_ | with_reducible refine t_not ?_ | with_reducible refine t_eif ?_
 | with_reducible refine t_cons ?_ | with_reducible refine t_nil ?_ | with_reducible refine t_tup ?_ | with_reducible refine t_lst ?_ | with_reducible refine t_call ?_ | with_reducible refine t_callX ?_ | with_reducible refine t_cb ?_
 | with_reducible refine t_bm ?_ | with_reducible refine t_bm0 ?_ | with_reducible refine t_inst ?_ | with_reducible refine t_tru ?_ | with_reducible refine t_asg ?_ | with_reducible refine t_hn ?_ | ((with_reducible refine t_ht ?_ ?_); exact rfl) | with_reducible refine t_hc ?_ | with_reducible refine t_h0 ?_ | with_reducible refine t_hs ?_
 | with_reducible refine t_un ?_ | with_reducible refine t_neg ?_ | with_reducible refine t_sl ?_ | with_reducible refine t_on ?_ | with_reducible refine t_os ?_ | with_reducible refine t_oi ?_ | with_reducible refine t_rev ?_ | with_reducible refine t_for ?_ | with_reducible refine t_itp ?_ | with_reducible refine t_tp ?_ | with_reducible refine t_comp ?_ | with_reducible refine t_bt ?_ | with_reducible refine t_raise ?_ | with_reducible refine t_rg1 ?_ | with_reducible refine t_zp ?_ | with_reducible refine t_en ?_ | with_reducible refine t_ils ?_ | with_reducible refine t_ist ?_ | with_reducible refine t_str ?_
 | with_reducible refine t_2i ?_ | ((with_reducible apply t_ixR); (first | assumption | exact up_same); (first | exact at0 | exact at1)) | ((with_reducible apply t_hsub); (first | assumption | exact up_same); exact rfl)
 | with_reducible refine And.intro (rfl : T.non = T.non) ?_ | with_reducible refine t_try ?_ | with_reducible refine t_lz ?_ | with_reducible refine t_e0 ?_ | with_reducible refine t_chain ?_ | ((with_reducible apply t_inT); exact rfl; exact rfl; exact rfl) | with_reducible refine t_tyS ?_ | with_reducible refine t_1t ?_ | with_reducible refine t_2t ?_ | with_reducible refine t_eqSI ?_ | with_reducible refine t_eqIS ?_ | with_reducible refine t_neSI ?_ | with_reducible refine t_neIS ?_ | with_reducible refine t_gT ?_ | with_reducible refine t_lenT ?_
 | with_reducible refine t_fld ?_ | ((with_reducible apply t_fldR); (first | assumption | exact up_same); exact rfl) | with_reducible refine t_sfld ?_ | ((with_reducible apply t_sfldR); (first | assumption | exact up_same); exact rfl) | with_reducible refine t_sfa ?_ | ((with_reducible apply t_sfaR); (first | assumption | exact up_same); exact rfl) | ((with_reducible apply t_sfaE); (first | assumption | exact up_same); exact rfl)
 | with_reducible refine t_meth ?_ | ((with_reducible apply t_methR); (first | assumption | exact up_same); exact rfl) | with_reducible refine t_make ?_ | with_reducible refine t_fs ?_ | with_reducible refine t_jc ?_ | with_reducible refine t_fm ?_
 | ((with_reducible refine t_len ?_ ?_); exact rfl)
 | ((with_reducible refine t_I ?_ ?_); (first | exact ⟨by decide, by decide, by decide⟩ | exact ⟨by decide, by decide⟩ | exact Or.inl ⟨by decide, by decide⟩ | exact Or.inr ⟨by decide, by decide⟩ | ((show (0 : Int) < _); decide)))
 | ((with_reducible refine c_ifT ?_ ?_); (first | exact rfl | decide +kernel)) | ((with_reducible refine c_ifF ?_ ?_); (first | exact rfl | decide +kernel))))
theorem rngT_cons {lo : Int} {n : Nat} {x : T} {r : List T} (h : x :: r = rngT lo n) : ∃ m, n = m + 1 ∧ x = .int lo ∧ r = rngT (lo + 1) m := by
 cases n with
 | zero => cases h
 | succ m => cases h; exact ⟨m, rfl, rfl, rfl⟩
theorem rngT_nil {lo : Int} {n : Nat} (h : [] = rngT lo n) : n = 0 := by
 cases n with
 | zero => rfl
 | succ m => cases h
theorem al_g {Γ G : Gp} {p : Addr} {o : O} (e : up Γ p o = G) : G p = some o := (congrFun e p).symm.trans up_same
theorem al_l {Γ G : Gp} {p : Addr} {o : O} (e : up Γ p o = G) (hp : Γ p = none) : Le Γ G := e ▸ .new hp
def dwRest (c : Int) : Nat → Int
 | 0 => c - 10 ^ 18
 | k + 1 => if 0 < dwRest c k then dwRest c k / 1000003 else dwRest c k
def dwA (c : Int) (k : Nat) : Int := (c % 1000000007 + 1) * (2 * k + 3) % 2147483647
def dwB (c : Int) (k : Nat) : Int := (dwA c k ^ 5 + ((k : Int) + 1) ^ 3) % 2147483629
def dwC (c : Int) (k : Nat) : Int := (dwB c k + c % 999983) ^ 3 % 2147483587 / 16
def dw (c : Int) (k : Nat) : Int := if 0 < dwRest c k then dwRest c k % 1000003 else dwC c k
theorem dwA_b (c : Int) (k : Nat) : 0 ≤ dwA c k ∧ dwA c k < 2147483647 := ⟨Int.emod_nonneg _ (by decide), Int.emod_lt_of_pos _ (by decide)⟩
theorem dwB_b (c : Int) (k : Nat) : 0 ≤ dwB c k ∧ dwB c k < 2147483629 := ⟨Int.emod_nonneg _ (by decide), Int.emod_lt_of_pos _ (by decide)⟩
theorem dw_pos (c : Int) (k : Nat) : 0 ≤ dw c k := by
 unfold dw
 split
 ·exact Int.emod_nonneg _ (by decide)
 ·unfold dwC
  exact Int.ediv_nonneg (Int.emod_nonneg _ (by decide)) (by decide)
def dws (c : Int) (n : Nat) : List Int := (List.range n).map (dw c)
theorem dws_len (c : Int) (n : Nat) : (dws c n).length = n := by unfold dws; rw [List.length_map, List.length_range]
theorem dws_get {c : Int} {n k : Nat} (h : k < n) : (dws c n)[k]? = some (dw c k) := by unfold dws; simp [h]
theorem dws_succ (c : Int) (n : Nat) : dws c (n + 1) = dws c n ++ [dw c n] := by unfold dws; rw [List.range_succ, List.map_append]; rfl
section
variable {P: Program}{w: World}{K: PySem.W.Frag}{mg: Str → Option Value}{base: Heap}{f: Addr}{fd: FuncData}
abbrev s_law_draws : Stmt := top 33
theorem sc_law_draws : FnScope ["cell", "count", "row", "rest", "base", "more", "k", "stir"] ["cell", "count"] (defScope s_law_draws) := ⟨rfl, rfl, rfl, by decide +kernel, rfl, by decide +kernel, by decide +kernel⟩
def spDws : Sp3 := fun ts Γ Z _ => ∃ (c : Int) (n : Nat), ts = [.int c, .int n] ∧ n ≤ 1000 ∧ ∀ p, Γ p = none → Z (.ref p) (up Γ p (.lst ((dws c n).map T.int)))
theorem ok_draws (F : Fun K "_law_draws" "_law_draws" s_law_draws f fd) (z_range : mg "range" = none) : FnOk P w K mg base CX0 1 f fd ["cell", "count"] (liSp spDws) := by
 refine okd F sc_law_draws (fun ts Γ Z Y h => ?_) (fun cdv A outer s H E ts Γ Z Y hr h => ?_)
 ·obtain ⟨c, n, rfl, _⟩ := h
  rfl
 obtain ⟨c, n, rfl, n1, q⟩ := h
 refine ⟨_, (qss_cons (qst (i := 2) sc_law_draws.nd (qe_lst qa_nil))
  (qss_cons (qst (i := 3) sc_law_draws.nd (qe_op oq_sub (qv 0) (qe_op oq_pow qe_int qe_int)))
  (qss_cons (qst (i := 4) sc_law_draws.nd (qe_op oq_add (qe_op oq_mod (qv 0) qe_int) qe_int))
  (qss_cons (qst (i := 5) sc_law_draws.nd (qe_op oq_mod (qv 0) qe_int))
  (qss_cons (qs_for PassesOwn.never rfl (qi_range1 rfl z_range (qa_cons (qv 1) qa_nil)) (qgn (i := 6) sc_law_draws.nd) (qss_cons (qst (i := 7) sc_law_draws.nd (qe_op oq_mod (qe_op oq_mul (qv 4) (qe_op oq_add (qe_op oq_mul qe_int (qv 6)) qe_int)) qe_int))
  (qss_cons (qst (i := 7) sc_law_draws.nd (qe_op oq_mod (qe_op oq_add (qe_op oq_pow (qv 7) qe_int) (qe_op oq_pow (qe_op oq_add (qv 6) qe_int) qe_int)) qe_int))
  (qss_cons (qst (i := 7) sc_law_draws.nd (qe_op oq_fdiv (qe_op oq_mod (qe_op oq_pow (qe_op oq_add (qv 7) (qv 5)) qe_int) qe_int) qe_int))
  (qss_cons (qs_cut (qs_if (qtc oq_gt (qv 3) qe_int) (qss_cons (qst (i := 7) sc_law_draws.nd (qe_op oq_mod (qv 3) qe_int))
  (qss_cons (qst (i := 3) sc_law_draws.nd (qe_op oq_fdiv (qv 3) qe_int))
  qss_nil)) qss_nil))
  (qss_cons (qs_expr (qe_bm PySem.F.plainAttrs_list PySem.F.slot_list_append PySem.F.type_list_append mq_append (qv 2) (qa_cons (qv 7) qa_nil)))
  qss_nil))))))
  (qss_cons (qs_ret (qv 2))
  qss_nil)))))), ?_⟩
 simp only [start3]
 and_intros
 intro p hp
 and_intros
 refine ⟨n, rfl, by omega, by omega, ?_⟩
 refine ⟨fun rest τ Γ' => ∃ (i m : Nat) (o6 o7 : Option T), rest = rngT i m ∧ i + m = n ∧ τ = [some (.int c), some (.int n), some (.ref p), some (.int (dwRest c i)), some (.int (c % 1000000007 + 1)), some (.int (c % 999983)), o6, o7] ∧ Γ' = up Γ p (.lst ((dws c i).map T.int)), ⟨0, n, none, none, rfl, by omega, rfl, rfl⟩, ?_, ?_⟩
 ·rintro τ Γ' ⟨i, m, o6, o7, er, im, rfl, rfl⟩
  have hm : m = 0 := by
   cases m with
   | zero => rfl
   | succ m => cases er
  subst hm
  refine ⟨trivial, ?_⟩
  and_intros
  have : i = n := im
  subst this
  exact drop0 .refl (q p hp)
 ·rintro x r τ Γ' ⟨i, m, o6, o7, er, im, rfl, rfl⟩
  obtain ⟨m', rfl, rfl, rfl⟩ := rngT_cons er
  have ab := dwA_b c i
  have bb := dwB_b c i
  have mb : 0 ≤ c % 999983 ∧ c % 999983 < 999983 := ⟨Int.emod_nonneg _ (by decide), Int.emod_lt_of_pos _ (by decide)⟩
  and_intros
  refine t_I (.inr ⟨by omega, by omega⟩) ?_
  and_intros
  refine t_I ⟨by decide, by decide, ?_⟩ ?_
  ·show (dwA c i).natAbs < 2 ^ 64
   omega
  and_intros
  refine t_I ⟨by decide, by decide, by omega⟩ ?_
  and_intros
  refine t_I ⟨by decide, by decide, ?_⟩ ?_
  ·show (dwB c i + c % 999983).natAbs < 2 ^ 64
   omega
  and_intros
  refine ⟨fun τ Γ' => τ = [some (.int c), some (.int n), some (.ref p), some (.int (dwRest c (i + 1))), some (.int (c % 1000000007 + 1)), some (.int (c % 999983)), some (.int i), some (.int (dw c i))] ∧ Γ' = up Γ p (.lst ((dws c i).map T.int)), ?_, ?_⟩
  ·and_intros
   refine c_if (fun cc => ?_) (fun cc => ?_)
   ·have cc := of_decide_eq_true cc
    and_intros
    have e1 : dwRest c (i + 1) = dwRest c i / 1000003 := by rw [dwRest, if_pos cc]
    have e2 : dw c i = dwRest c i % 1000003 := by rw [dw, if_pos cc]
    rw [e1, e2]
    exact ⟨rfl, rfl⟩
   ·have cc := of_decide_eq_false cc
    and_intros
    have e1 : dwRest c (i + 1) = dwRest c i := by rw [dwRest, if_neg cc]
    have e2 : dw c i = dwC c i := by rw [dw, if_neg cc]
    rw [e1, e2]
    exact ⟨rfl, rfl⟩
  rintro τ Γ' ⟨rfl, rfl⟩
  and_intros
  refine t_tyL up_same ?_
  and_intros
  refine ⟨p, (dws c i).map T.int, _, rfl, rfl, up_same, small1000 (by rw [List.length_map, dws_len]; omega), ?_⟩
  and_intros
  refine ⟨i + 1, m', _, _, rfl, by omega, rfl, ?_⟩
  rw [up_up, dws_succ, List.map_append]
  rfl
end
inductive Pt (Γ : Gp) : T → Prop
 | non : Pt Γ .non
 | bl (b : Bool) : Pt Γ (.bl b)
 | int (i : Int) : Pt Γ (.int i)
 | str {z : Str} (l : z.length ≤ 100000) : Pt Γ (.str z)
 | tup {ts : List T} (l : ts.length ≤ 100000) (h : ∀ t ∈ ts, Pt Γ t) : Pt Γ (.tup ts)
 | lst {a : Addr} {ts : List T} (g : Γ a = some (.lst ts)) : Pt Γ (.ref a)
 | dct {a : Addr} {kvs : List (Key × T)} (g : Γ a = some (.dK kvs)) : Pt Γ (.ref a)
theorem Pt.items {Γ : Gp} {ts : List T} (h : Pt Γ (.tup ts)) : ts.length ≤ 100000 ∧ ∀ t ∈ ts, Pt Γ t := by
 cases h with
 | tup l h => exact ⟨l, h⟩
theorem Pt.txt {Γ : Gp} {z : Str} (h : Pt Γ (.str z)) : z.length ≤ 100000 := by
 cases h with
 | str l => exact l
def isTup : T → Bool | .tup _ => true | _ => false
def isStr : T → Bool | .str _ => true | _ => false
def isInt : T → Bool | .int _ => true | .bl _ => true | _ => false
def isBl : T → Bool | .bl _ => true | _ => false
def whB : T → Bool | .int _ => true | _ => false
theorem isTup_t {t : T} (h : isTup t = true) : ∃ ts, t = .tup ts := by
 cases t with
 | tup ts => exact ⟨ts, rfl⟩
 | _ => cases h
theorem isStr_t {t : T} (h : isStr t = true) : ∃ z, t = .str z := by
 cases t with
 | str z => exact ⟨z, rfl⟩
 | _ => cases h
theorem whB_t {t : T} (h : whB t = true) : ∃ i, t = .int i := by
 cases t with
 | int i => exact ⟨i, rfl⟩
 | _ => cases h
section
variable {K: PySem.W.Frag}{Γ: Gp}{t: T}
theorem ty_lst {a : Addr} {ts : List T} (g : Γ a = some (.lst ts)) : tyOf Γ (.ref a) = some "list" := by
 show (match Γ a with | some (.lst _) => some "list" | some (.dK _) => some "dict" | _ => none) = _
 rw [g]
theorem ty_dct {a : Addr} {ts : List (Key × T)} (g : Γ a = some (.dK ts)) : tyOf Γ (.ref a) = some "dict" := by
 show (match Γ a with | some (.lst _) => some "list" | some (.dK _) => some "dict" | _ => none) = _
 rw [g]
theorem in_tup (h : Pt Γ t) : ∃ n, tyOf Γ t = some n ∧ PySem.W.kitOne K (.type n) (.type "tuple") = some (isTup t) := by
 cases h with
 | lst g => exact ⟨_, ty_lst g, rfl⟩
 | dct g => exact ⟨_, ty_dct g, rfl⟩
 | _ => exact ⟨_, rfl, rfl⟩
theorem in_str (h : Pt Γ t) : ∃ n, tyOf Γ t = some n ∧ PySem.W.kitOne K (.type n) (.type "str") = some (isStr t) := by
 cases h with
 | lst g => exact ⟨_, ty_lst g, rfl⟩
 | dct g => exact ⟨_, ty_dct g, rfl⟩
 | _ => exact ⟨_, rfl, rfl⟩
theorem in_int (h : Pt Γ t) : ∃ n, tyOf Γ t = some n ∧ PySem.W.kitOne K (.type n) (.type "int") = some (isInt t) := by
 cases h with
 | lst g => exact ⟨_, ty_lst g, rfl⟩
 | dct g => exact ⟨_, ty_dct g, rfl⟩
 | _ => exact ⟨_, rfl, rfl⟩
theorem in_bl (h : Pt Γ t) : ∃ n, tyOf Γ t = some n ∧ PySem.W.kitOne K (.type n) (.type "bool") = some (isBl t) := by
 cases h with
 | lst g => exact ⟨_, ty_lst g, rfl⟩
 | dct g => exact ⟨_, ty_dct g, rfl⟩
 | _ => exact ⟨_, rfl, rfl⟩
theorem t_in {Ty : String} {B : T → Bool} {Q : Bool → Prop} (h : ∃ n, tyOf Γ t = some n ∧ PySem.W.kitOne K (.type n) (.type Ty) = some (B t)) (q : Q (B t)) : ∃ n b, tyOf Γ t = some n ∧ PySem.W.kitOne K (.type n) (.type Ty) = some b ∧ Q b := by
 obtain ⟨n, a, b⟩ := h
 exact ⟨n, _, a, b, q⟩
end
def goodc (c : Nat) : Bool := !(Builtin.Str.occurrences abc ⟨#[c]⟩ 0 abc.length 1).isEmpty
theorem goodc_yes : ∀ c : Nat, c < 128 → goodc c = (decide (97 ≤ c) && decide (c ≤ 122)) := by decide +kernel
def nmB : T → Bool
 | .str z => decide (1 ≤ z.length) && decide (z.length ≤ 8) && z.cps.toList.all goodc
 | _ => false
theorem nmB_eq (z : Str) : nmB (.str z) = (decide (1 ≤ z.length) && decide (z.length ≤ 8) && z.cps.toList.all goodc) := rfl
theorem nmB_str {t : T} (h : nmB t = true) : ∃ z, t = .str z := by
 cases t with
 | str z => exact ⟨z, rfl⟩
 | _ => cases h
def fdB (f : T → Bool) : T → Bool
 | .tup [a, b] => nmB a && f b
 | _ => false
def nmOf : T → Str
 | .tup (.str z :: _) => z
 | _ => ""
def fdsB (f : T → Bool) : T → Bool
 | .tup ts => decide (1 ≤ ts.length) && decide (ts.length ≤ 6) && ts.all (fdB f) && decide (ts.map nmOf).Nodup
 | _ => false
def nrB : T → Bool
 | .int i => decide (1 ≤ i) && decide (i ≤ 4)
 | _ => false
def kwB : Nat → T → Bool
 | d + 1, .tup [.str h] => decide (h = "text")
 | d + 1, .tup [.str h, x] => if h = "num" then nrB x else if h = "row" then kwB d x else (decide (h = "rec") || decide (h = "pick")) && fdsB (kwB d) x
 | _, _ => false
theorem fdB_t {f : T → Bool} {t : T} (h : fdB f t = true) : ∃ z b, t = .tup [.str z, b] ∧ nmB (.str z) = true ∧ f b = true := by
 unfold fdB at h
 split at h
 ·rename_i a b
  rw [Bool.and_eq_true] at h
  obtain ⟨z, rfl⟩ := nmB_str h.1
  exact ⟨z, b, rfl, h.1, h.2⟩
 ·cases h
section
variable {P: Program}{w: World}{K: PySem.W.Frag}{mg: Str → Option Value}{base: Heap}{f: Addr}{fd: FuncData}{v1 v2: Value}
abbrev s_is_whole : Stmt := top 9
theorem sc_is_whole : FnScope ["thing"] ["thing"] (defScope s_is_whole) := ⟨rfl, rfl, rfl, by decide +kernel, rfl, by decide +kernel, by decide +kernel⟩
def spWh : Sp3 := fun ts Γ Z _ => ∃ t : T, ts = [t] ∧ Pt Γ t ∧ Z (.bl (whB t)) Γ
theorem ok_is_whole (F : Fun K "is_whole" "is_whole" s_is_whole f fd) (z_isinstance : mg "isinstance" = none) (z_int : mg "int" = none) (z_bool : mg "bool" = none) : FnOk P w K mg base CX0 1 f fd ["thing"] (liSp spWh) := by
 refine okd F sc_is_whole (fun ts Γ Z Y h => ?_) (fun cdv A outer s H E ts Γ Z Y hr h => ?_)
 ·obtain ⟨t, rfl, _⟩ := h
  rfl
 obtain ⟨t, rfl, pt, q⟩ := h
 refine ⟨_, (qss_cons (qs_ret (qe_and (qe_inst rfl z_isinstance rfl z_int bt_int (qv 0)) (qe_one (qe_not (qe_inst rfl z_isinstance rfl z_bool bt_bool (qv 0))))))
  qss_nil), ?_⟩
 simp only [start3]
 and_intros
 refine t_in (in_int pt) ?_
 and_intros
 refine c_if (fun c => ?_) (fun c => ?_)
 ·and_intros
  refine t_in (in_bl pt) ?_
  and_intros
  refine drop0 .refl ?_
  cases t with
  | int i => exact q
  | bl b => exact q
  | _ => cases c
 ·refine drop0 .refl ?_
  cases t with
  | int i => cases c
  | bl b => cases c
  | _ => exact q
abbrev s_is_name : Stmt := top 10
theorem sc_is_name : FnScope ["thing"] ["thing"] (defScope s_is_name) := ⟨rfl, rfl, rfl, by decide +kernel, rfl, by decide +kernel, by decide +kernel⟩
def spNmB : Sp3 := fun ts Γ Z _ => ∃ t : T, ts = [t] ∧ Pt Γ t ∧ Z (.bl (nmB t)) Γ
theorem ok_is_name (F : Fun K "is_name" "is_name" s_is_name f fd) (m_LONGEST_NAME : mg "LONGEST_NAME" = some v1) (g_LONGEST_NAME : GlobIs v1 (.int 8)) (m_LETTERS : mg "LETTERS" = some v2) (g_LETTERS : GlobIs v2 (.str abc)) (z_isinstance : mg "isinstance" = none) (z_str : mg "str" = none) (z_len : mg "len" = none) (z_all : mg "all" = none) : FnOk P w K mg base CX0 1 f fd ["thing"] (liSp spNmB) := by
 refine okd F sc_is_name (fun ts Γ Z Y h => ?_) (fun cdv A outer s H E ts Γ Z Y hr h => ?_)
 ·obtain ⟨t, rfl, _⟩ := h
  rfl
 obtain ⟨t, rfl, pt, q⟩ := h
 refine ⟨_, (qss_cons (qs_if (PW.pt (qw_or (qt_not (qt_val (qe_inst rfl z_isinstance rfl z_str bt_str (qv 0)))) (qw_or1 (qt_not (qt_chain oq_le oq_le qe_int (qe_callB cq_lens rfl z_len PySem.boot_len (qa_cons (qv 0) qa_nil)) (qe_glob rfl m_LONGEST_NAME g_LONGEST_NAME)))))) (qss_cons (qs_ret qe_bl)
  qss_nil) qss_nil)
  (qss_cons (qs_ret (qe_callB (cq_all rfl) rfl z_all PyProof.Rows.boot_all (qa_cons (qe_comp (own := ["sign"]) (cap := []) cok rfl (qi_str (qv 0)) (fun _ _ _ _ => qgo) (fun _ _ _ _ => qts_nil) (fun _ _ _ _ => (qe_cmpR oq_ins (qv 0) (qe_glob rfl m_LETTERS g_LETTERS) (by with_unfolding_all rfl)))) qa_nil)))
  qss_nil)), ?_⟩
 simp only [start3]
 and_intros
 refine t_in (in_str pt) ?_
 and_intros
 refine c_if (fun c => ?_) (fun c => ?_)
 ·and_intros
  refine drop0 .refl ?_
  cases t with
  | str z => cases c
  | _ => exact q
 obtain ⟨z, rfl⟩ := isStr_t (t := t) (by cases h : isStr t with | true => rfl | false => rw [h] at c; cases c)
 have zl := pt.txt
 and_intros
 refine ⟨z, rfl, Nat.le_trans zl (by decide), ?_⟩
 and_intros
 have no : nmB (.str z) = false → dropK Z (.bl false) Γ := fun h => by rw [h] at q; exact drop0 .refl q
 refine c_if (fun c1 => ?_) (fun c1 => ?_)
 rotate_left
 ·have c1 := of_decide_eq_false c1
  and_intros
  refine no ?_
  rw [nmB_eq, decide_eq_false (show ¬ 1 ≤ z.length by omega)]
  rfl
 have c1 := of_decide_eq_true c1
 and_intros
 refine c_if (fun c2 => ?_) (fun c2 => ?_)
 ·have c2 : ¬ (z.length : Int) ≤ 8 := by simpa using c2
  and_intros
  refine no ?_
  rw [nmB_eq, decide_eq_false (show ¬ z.length ≤ 8 by omega), Bool.and_false]
  rfl
 have c2 : (z.length : Int) ≤ 8 := by simpa using c2
 and_intros
 refine ⟨Nat.le_of_lt (small1000 (by unfold signsT; rw [List.length_map, len_codes]; omega)), ?_⟩
 refine ⟨fun rest τ ys Γ' => ∃ (cs ds : List Nat) (o : Option T), rest = cs.map (fun c => T.str ⟨#[c]⟩) ∧ z.cps.toList = ds ++ cs ∧ τ = [o] ∧ ys = (ds.map goodc).map T.bl ∧ Γ' = Γ, ⟨z.cps.toList, [], none, rfl, rfl, rfl, rfl, rfl⟩, ?_, ?_⟩
 ·rintro τ ys Γ' ⟨cs, ds, o, er, ez, rfl, rfl, rfl⟩
  have hz : cs = [] := by
   cases cs with
   | nil => rfl
   | cons _ _ => cases er
  subst hz
  rw [List.append_nil] at ez
  subst ez
  refine ⟨trivial, ?_⟩
  intro p1 hp1; generalize e1 : up _ p1 (O.lst _) = Γ1; have g1 := al_g e1; have l1 := al_l e1 hp1
  and_intros
  refine ⟨p1, _, rfl, it3_l g1, ?_⟩
  have : (z.cps.toList.map goodc).all id = nmB (.str z) := by
   rw [nmB_eq, decide_eq_true (show 1 ≤ z.length by omega), decide_eq_true (show z.length ≤ 8 by omega), List.all_map]
   rfl
  rw [this]
  exact drop0 l1 q
 ·rintro x r τ ys Γ' ⟨cs, ds, o, er, ez, rfl, rfl, rfl⟩
  cases cs with
  | nil => cases er
  | cons c cs =>
   cases er
   refine ⟨trivial, ?_⟩
   and_intros
   refine ⟨_, _, rfl, rfl, ?_⟩
   exact ⟨cs, ds ++ [c], _, rfl, by rw [ez]; simp, rfl, by rw [List.map_append, List.map_append]; rfl, rfl⟩
abbrev s_is_field : Stmt := top 14
theorem sc_is_field : FnScope ["thing", "depth"] ["thing", "depth"] (defScope s_is_field) := ⟨rfl, rfl, rfl, by decide +kernel, rfl, by decide +kernel, by decide +kernel⟩
def spFd (n : Nat) : Sp3 := fun ts Γ Z _ => ∃ (t : T) (d : Nat), ts = [t, .int d] ∧ d < n ∧ Pt Γ t ∧ Z (.bl (fdB (kwB d) t)) Γ
def spKw (n : Nat) : Sp3 := fun ts Γ Z _ => ∃ (t : T) (d : Nat), ts = [t, .int d] ∧ d < n ∧ Pt Γ t ∧ Z (.bl (kwB d t)) Γ
theorem fdB_no {f : T → Bool} {ts : List T} (h : ts.length ≠ 2) : fdB f (.tup ts) = false := by
 unfold fdB
 split
 ·rename_i e; cases e; exact absurd rfl h
 ·rfl
theorem ok_is_field {n lv : Nat} (F : Fun K "is_field" "is_field" s_is_field f fd) (c_is_name : Cl3 P w K mg base "is_name" 1 ["thing"] spNmB) (c_is_kind_within : Cl3 P w K mg base "is_kind_within" (lv + 1) ["thing", "depth"] (spKw n)) (z_isinstance : mg "isinstance" = none) (z_tuple : mg "tuple" = none) (z_len : mg "len" = none) : FnOk P w K mg base CX0 (lv + 2) f fd ["thing", "depth"] (liSp (spFd n)) := by
 refine okd F sc_is_field (fun ts Γ Z Y h => ?_) (fun cdv A outer s H E ts Γ Z Y hr h => ?_)
 ·obtain ⟨t, d, rfl, _⟩ := h
  rfl
 obtain ⟨t, d, rfl, dn, pt, q⟩ := h
 refine ⟨_, (qss_cons (qs_if (PW.pt (qw_or (qt_not (qt_val (qe_inst rfl z_isinstance rfl z_tuple bt_tuple (qv 0)))) (qw_or1 (qtc oq_ne (qe_callB cq_len rfl z_len PySem.boot_len (qa_cons (qv 0) qa_nil)) qe_int)))) (qss_cons (qs_ret qe_bl)
  qss_nil) qss_nil)
  (qss_cons (qs_ret (qe_and (qcl c_is_name hr (qa_cons (qix (qv 0) qe_int) qa_nil)) (qe_one (qcl c_is_kind_within hr (qa_cons (qix (qv 0) qe_int) (qa_cons (qv 1) qa_nil))))))
  qss_nil)), ?_⟩
 simp only [start3]
 and_intros
 refine t_in (in_tup pt) ?_
 and_intros
 refine c_if (fun c => ?_) (fun c => ?_)
 ·and_intros
  refine drop0 .refl ?_
  cases t with
  | tup ts => cases c
  | _ => exact q
 obtain ⟨ts, rfl⟩ := isTup_t (t := t) (by cases h : isTup t with | true => rfl | false => rw [h] at c; cases c)
 obtain ⟨tl, tm⟩ := pt.items
 and_intros
 refine c_if (fun c1 => ?_) (fun c1 => ?_)
 ·have c1 : ts.length ≠ 2 := fun e => by rw [e] at c1; revert c1; decide
  and_intros
  rw [fdB_no c1] at q
  exact drop0 .refl q
 have c1 : ts.length = 2 := by
  have : decide (V.int (ts.length : Int) = V.int 2) = true := by simpa using c1
  have := d_int this
  omega
 match ts, c1 with
 | [a, b], _ =>
  and_intros
  refine ⟨a, rfl, tm a (by simp), ?_⟩
  and_intros
  have q : Z (.bl (nmB a && kwB d b)) Γ := q
  refine c_if (fun c2 => ?_) (fun c2 => ?_)
  ·rw [c2, Bool.true_and] at q
   and_intros
   exact ⟨b, d, rfl, dn, tm b (by simp), drop0 .refl q⟩
  ·rw [c2, Bool.false_and] at q
   exact drop0 .refl q
abbrev s_are_fields : Stmt := top 13
theorem sc_are_fields : FnScope ["thing", "depth"] ["thing", "depth"] (defScope s_are_fields) := ⟨rfl, rfl, rfl, by decide +kernel, rfl, by decide +kernel, by decide +kernel⟩
def spFs (n : Nat) : Sp3 := fun ts Γ Z _ => ∃ (t : T) (d : Nat), ts = [t, .int d] ∧ d < n ∧ Pt Γ t ∧ Z (.bl (fdsB (kwB d) t)) Γ
theorem fdsB_eq (f : T → Bool) (ts : List T) : fdsB f (.tup ts) = (decide (1 ≤ ts.length) && decide (ts.length ≤ 6) && ts.all (fdB f) && decide (ts.map nmOf).Nodup) := rfl
theorem ok_are_fields {n lv : Nat} (F : Fun K "are_fields" "are_fields" s_are_fields f fd) (m_MOST_FIELDS : mg "MOST_FIELDS" = some v1) (g_MOST_FIELDS : GlobIs v1 (.int 6)) (c_is_field : Cl3 P w K mg base "is_field" (lv + 2) ["thing", "depth"] (spFd n)) (z_isinstance : mg "isinstance" = none) (z_tuple : mg "tuple" = none) (z_len : mg "len" = none) (z_all : mg "all" = none) : FnOk P w K mg base CX0 (lv + 3) f fd ["thing", "depth"] (liSp (spFs n)) := by
 refine okd F sc_are_fields (fun ts Γ Z Y h => ?_) (fun cdv A outer s H E ts Γ Z Y hr h => ?_)
 ·obtain ⟨t, d, rfl, _⟩ := h
  rfl
 obtain ⟨t, d, rfl, dn, pt, q⟩ := h
 refine ⟨_, (qss_cons (qs_if (PW.pt (qw_or (qt_not (qt_val (qe_inst rfl z_isinstance rfl z_tuple bt_tuple (qv 0)))) (qw_or1 (qt_not (qt_chain oq_le oq_le qe_int (qe_callB cq_len rfl z_len PySem.boot_len (qa_cons (qv 0) qa_nil)) (qe_glob rfl m_MOST_FIELDS g_MOST_FIELDS)))))) (qss_cons (qs_ret qe_bl)
  qss_nil) qss_nil)
  (qss_cons (qs_if (qt_not (qt_val (qe_callB (cq_all rfl) rfl z_all PyProof.Rows.boot_all (qa_cons (qe_comp (own := ["field"]) (cap := [(1, "depth")]) (compOkC rfl (by decide +kernel) (by decide +kernel) rfl (⟨rfl, trivial⟩) rfl (⟨⟨rfl, rfl, rfl⟩, trivial⟩)) rfl (qi_tup (qv 0)) (fun _ _ _ _ => (qg_name (i := 0) (show List.Nodup (["field", "depth"] : List Str) from by decide +kernel) rfl (Or.inl rfl) (Or.inr rfl))) (fun _ _ _ _ => qts_nil) (fun _ _ _ _ => (qcl c_is_field hr (qa_cons (qv 0) (qa_cons (qv 1) qa_nil))))) qa_nil)))) (qss_cons (qs_ret qe_bl)
  qss_nil) qss_nil)
  (qss_cons (qs_ret (qec oq_eq (qe_callB cq_lenS rfl z_len PySem.boot_len (qa_cons (qe_setc (own := ["name", "inner"]) (cap := []) cok rfl (qi_tup (qv 0)) (fun _ _ _ _ => (qg_tup (n := 2) rfl (qgs_cons (qg_name (i := 0) (show List.Nodup (["name", "inner"] : List Str) from by decide +kernel) rfl (Or.inl rfl) (Or.inr rfl)) (qgs_cons (qg_name (i := 1) (show List.Nodup (["name", "inner"] : List Str) from by decide +kernel) rfl (Or.inl rfl) (Or.inr rfl)) qgs_nil)))) (fun _ _ _ _ => (qv 0))) qa_nil)) (qe_callB cq_len rfl z_len PySem.boot_len (qa_cons (qv 0) qa_nil))))
  qss_nil))), ?_⟩
 simp only [start3]
 and_intros
 refine t_in (in_tup pt) ?_
 and_intros
 refine c_if (fun c => ?_) (fun c => ?_)
 ·and_intros
  refine drop0 .refl ?_
  cases t with
  | tup ts => cases c
  | _ => exact q
 obtain ⟨ts, rfl⟩ := isTup_t (t := t) (by cases h : isTup t with | true => rfl | false => rw [h] at c; cases c)
 obtain ⟨tl, tm⟩ := pt.items
 have no : fdsB (kwB d) (.tup ts) = false → dropK Z (.bl false) Γ := fun h => by rw [h] at q; exact drop0 .refl q
 and_intros
 refine c_if (fun c1 => ?_) (fun c1 => ?_)
 rotate_left
 ·have c1 := of_decide_eq_false c1
  and_intros
  refine no ?_
  rw [fdsB_eq, decide_eq_false (show ¬ 1 ≤ ts.length by omega)]
  rfl
 have c1 := of_decide_eq_true c1
 and_intros
 refine c_if (fun c2 => ?_) (fun c2 => ?_)
 ·have c2 : ¬ (ts.length : Int) ≤ 6 := by simpa using c2
  and_intros
  refine no ?_
  rw [fdsB_eq, decide_eq_false (show ¬ ts.length ≤ 6 by omega), Bool.and_false]
  rfl
 have c2 : (ts.length : Int) ≤ 6 := by simpa using c2
 rw [fdsB_eq, decide_eq_true (show 1 ≤ ts.length by omega), decide_eq_true (show ts.length ≤ 6 by omega), Bool.true_and, Bool.true_and] at q
 clear no
 and_intros
 refine ⟨Nat.le_of_lt (small1000 (by omega)), ?_⟩
 refine ⟨fun rest τ ys Γ' => ∃ (ds : List T) (o : Option T), ts = ds ++ rest ∧ τ = [o, some (.int d)] ∧ ys = (ds.map (fdB (kwB d))).map T.bl ∧ Γ' = Γ, ⟨[], none, rfl, rfl, rfl, rfl⟩, ?_, ?_⟩
 rotate_left
 ·rintro x r τ ys Γ' ⟨ds, o, ez, rfl, rfl, rfl⟩
  refine ⟨trivial, ?_⟩
  and_intros
  refine ⟨x, d, rfl, dn, tm x (by rw [ez]; simp), ?_⟩
  exact ⟨ds ++ [x], _, by rw [ez]; simp, rfl, by rw [List.map_append, List.map_append]; rfl, rfl⟩
 rintro τ ys Γ' ⟨ds, o, ez, rfl, rfl, rfl⟩
 rw [List.append_nil] at ez
 subst ez
 refine ⟨trivial, ?_⟩
 intro p1 hp1; generalize e1 : up _ p1 (O.lst _) = Γ1; have g1 := al_g e1; have l1 := al_l e1 hp1
 and_intros
 refine ⟨p1, _, rfl, it3_l g1, ?_⟩
 rw [show (ts.map (fdB (kwB d))).all id = ts.all (fdB (kwB d)) by rw [List.all_map]; rfl]
 and_intros
 refine c_if (fun c3 => ?_) (fun c3 => ?_)
 ·have c3 : ts.all (fdB (kwB d)) = false := by simpa using c3
  and_intros
  rw [c3, Bool.false_and] at q
  exact drop0 l1 q
 have c3 : ts.all (fdB (kwB d)) = true := by simpa using c3
 rw [c3, Bool.true_and] at q
 have all := List.all_eq_true.mp c3
 and_intros
 unfold eSetc
 and_intros
 refine ⟨by omega, ?_⟩
 refine ⟨fun rest τ ys Γ' => ∃ (ds : List T) (o0 o1 : Option T), ts = ds ++ rest ∧ τ = [o0, o1] ∧ ys = ds.map nmOf ∧ Γ' = Γ1, ⟨[], none, none, rfl, rfl, rfl, rfl⟩, ?_, ?_⟩
 rotate_left
 ·rintro x r τ ys Γ' ⟨ds, o0, o1, ez, rfl, rfl, rfl⟩
  obtain ⟨z, b, rfl, _, _⟩ := fdB_t (all x (by rw [ez]; simp))
  refine ⟨trivial, ?_⟩
  and_intros
  exact ⟨ds ++ [.tup [.str z, b]], _, _, by rw [ez]; simp, rfl, by rw [List.map_append]; rfl, rfl⟩
 rintro τ ys Γ' ⟨ds, o0, o1, ez, rfl, rfl, rfl⟩
 rw [List.append_nil] at ez
 subst ez
 refine ⟨trivial, fun D S n on hD => ?_⟩
 and_intros
 refine ⟨D, S, n, rfl, up_same, ?_⟩
 and_intros
 have : decide (V.int (n : Int) = V.int (ts.length : Nat)) = decide (ts.map nmOf).Nodup := by
  have e : (V.int (n : Int) = V.int (ts.length : Nat)) ↔ (ts.map nmOf).Nodup := by
   rcases on.2 with ⟨a, b⟩ | ⟨a, b⟩
   ·rw [List.length_map] at b
    exact ⟨fun _ => a, fun _ => by rw [b]⟩
   ·rw [List.length_map] at b
    exact ⟨fun h => by have := V.int.inj h; omega, fun h => absurd h a⟩
  exact decide_eq_decide.mpr e
 rw [this]
 exact drop0 (l1.trans (.new hD)) q
abbrev s_is_kind_within : Stmt := top 12
theorem sc_is_kind_within : FnScope ["thing", "depth", "head", "inner"] ["thing", "depth"] (defScope s_is_kind_within) := ⟨rfl, rfl, rfl, by decide +kernel, rfl, by decide +kernel, by decide +kernel⟩
theorem inV_12 (n : Nat) : inV (.int (n : Int)) [.int 1, .int 2] = (decide (n = 1) || decide (n = 2)) := by
 rw [Bool.eq_iff_iff]
 simp [inV, eqV]
 omega
theorem inV_rp (z : Str) : inV (.str z) [.str "rec", .str "pick"] = (decide (z = "rec") || decide (z = "pick")) := by
 rw [show [V.str "rec", V.str "pick"] = (["rec", "pick"] : List Str).map V.str from rfl, inV_strs, Bool.eq_iff_iff]
 simp
theorem kwB_len {d : Nat} {ts : List T} (h : ts.length ≠ 1) (h' : ts.length ≠ 2) : kwB d (.tup ts) = false := by
 unfold kwB
 split
 ·rename_i e; cases e; exact absurd rfl h
 ·rename_i e; cases e; exact absurd rfl h'
 ·rfl
theorem kwB_hd {d : Nat} {t : T} {ts : List T} (h : isStr t = false) : kwB d (.tup (t :: ts)) = false := by
 unfold kwB
 split
 ·rename_i e; cases e; cases h
 ·rename_i e; cases e; cases h
 ·rfl
theorem kwB_no {d : Nat} {t : T} (h : isTup t = false) : kwB d t = false := by
 unfold kwB
 split
 ·cases h
 ·cases h
 ·rfl
theorem kwB_1 (d : Nat) (h : Str) : kwB (d + 1) (.tup [.str h]) = decide (h = "text") := by rw [kwB]
theorem kwB_2 (d : Nat) (h : Str) (x : T) : kwB (d + 1) (.tup [.str h, x]) = if h = "num" then nrB x else if h = "row" then kwB d x else (decide (h = "rec") || decide (h = "pick")) && fdsB (kwB d) x := by rw [kwB]
theorem ok_is_kw {n lv : Nat} (F : Fun K "is_kind_within" "is_kind_within" s_is_kind_within f fd) (m_WIDEST_NUM : mg "WIDEST_NUM" = some v1) (g_WIDEST_NUM : GlobIs v1 (.int 4)) (c_is_whole : Cl3 P w K mg base "is_whole" 1 ["thing"] spWh) (c_is_kind_within : Cl3 P w K mg base "is_kind_within" (lv + 1) ["thing", "depth"] (spKw n)) (c_are_fields : Cl3 P w K mg base "are_fields" (lv + 3) ["thing", "depth"] (spFs n)) (z_isinstance : mg "isinstance" = none) (z_tuple : mg "tuple" = none) (z_str : mg "str" = none) (z_len : mg "len" = none) : FnOk P w K mg base CX0 (lv + 4) f fd ["thing", "depth"] (liSp (spKw (n + 1))) := by
 refine okd F sc_is_kind_within (fun ts Γ Z Y h => ?_) (fun cdv A outer s H E ts Γ Z Y hr h => ?_)
 ·obtain ⟨t, d, rfl, _⟩ := h
  rfl
 obtain ⟨t, d, rfl, dn, pt, q⟩ := h
 refine ⟨_, (qss_cons (qs_if (PW.pt (qw_or (qtc oq_lt (qv 1) qe_int) (qw_or (qt_not (qt_val (qe_inst rfl z_isinstance rfl z_tuple bt_tuple (qv 0)))) (qw_or1 (qt_cmpR oq_nin (qe_callB cq_len rfl z_len PySem.boot_len (qa_cons (qv 0) qa_nil)) (qe_tup (qa_cons qe_int (qa_cons qe_int qa_nil))) (by with_unfolding_all rfl)))))) (qss_cons (qs_ret qe_bl)
  qss_nil) qss_nil)
  (qss_cons (qst (i := 2) sc_is_kind_within.nd (qix (qv 0) qe_int))
  (qss_cons (qs_if (qt_not (qt_val (qe_inst rfl z_isinstance rfl z_str bt_str (qv 2)))) (qss_cons (qs_ret qe_bl)
  qss_nil) qss_nil)
  (qss_cons (qs_if (qtc oq_eq (qe_callB cq_len rfl z_len PySem.boot_len (qa_cons (qv 0) qa_nil)) qe_int) (qss_cons (qs_ret (qec oq_eq (qv 2) qe_str))
  qss_nil) qss_nil)
  (qss_cons (qst (i := 3) sc_is_kind_within.nd (qix (qv 0) qe_int))
  (qss_cons (qs_if (qtc oq_eq (qv 2) qe_str) (qss_cons (qs_ret (qe_and (qcl c_is_whole hr (qa_cons (qv 3) qa_nil)) (qe_one (qe_chain oq_le oq_le qe_int (qv 3) (qe_glob rfl m_WIDEST_NUM g_WIDEST_NUM)))))
  qss_nil) qss_nil)
  (qss_cons (qs_if (qtc oq_eq (qv 2) qe_str) (qss_cons (qs_ret (qcl c_is_kind_within hr (qa_cons (qv 3) (qa_cons (qe_op oq_sub (qv 1) qe_int) qa_nil))))
  qss_nil) qss_nil)
  (qss_cons (qs_ret (qe_and (qe_cmpR oq_in (qv 2) (qe_tup (qa_cons qe_str (qa_cons qe_str qa_nil))) (by with_unfolding_all rfl)) (qe_one (qcl c_are_fields hr (qa_cons (qv 3) (qa_cons (qe_op oq_sub (qv 1) qe_int) qa_nil))))))
  qss_nil)))))))), ?_⟩
 simp only [start3]
 have no : kwB d t = false → dropK Z (.bl false) Γ := fun h => by rw [h] at q; exact drop0 .refl q
 and_intros
 refine c_if (fun c => ?_) (fun c => ?_)
 ·have c := of_decide_eq_true c
  have : d = 0 := by omega
  subst this
  and_intros
  exact no (by unfold kwB; rfl)
 have c := of_decide_eq_false c
 obtain ⟨d, rfl⟩ : ∃ e, d = e + 1 := ⟨d - 1, by omega⟩
 and_intros
 refine t_in (in_tup pt) ?_
 and_intros
 refine c_if (fun c => ?_) (fun c => ?_)
 ·and_intros
  exact no (kwB_no (by simpa using c))
 obtain ⟨ts, rfl⟩ := isTup_t (t := t) (by simpa using c)
 obtain ⟨tl, tm⟩ := pt.items
 and_intros
 show if (!inV (.int (ts.length : Int)) [.int 1, .int 2]) = true then _ else _
 rw [inV_12]
 refine c_if (fun c1 => ?_) (fun c1 => ?_)
 ·and_intros
  have c1 : ts.length ≠ 1 ∧ ts.length ≠ 2 := by simpa using c1
  exact no (kwB_len c1.1 c1.2)
 have c1 : ts.length = 1 ∨ ts.length = 2 := by
  have : ¬ ts.length = 1 → ts.length = 2 := by simpa using c1
  omega
 obtain ⟨h, ys, rfl⟩ : ∃ h ys, ts = h :: ys := by
  cases ts with
  | nil => exact absurd c1 (by simp)
  | cons h ys => exact ⟨h, ys, rfl⟩
 and_intros
 refine t_in (in_str (tm h (by simp))) ?_
 and_intros
 refine c_if (fun c2 => ?_) (fun c2 => ?_)
 ·and_intros
  exact no (kwB_hd (by simpa using c2))
 obtain ⟨z, rfl⟩ := isStr_t (t := h) (by simpa using c2)
 clear no
 and_intros
 match ys, c1 with
 | [], _ =>
  and_intros
  rw [kwB_1] at q
  have e : decide (V.str z = V.str "text") = decide (z = "text") := decide_eq_decide.mpr ⟨V.str.inj, fun e => by rw [e]⟩
  rw [e]
  exact drop0 .refl q
 | [x], _ =>
  have px := tm x (by simp)
  rw [kwB_2] at q
  and_intros
  refine c_if (fun c3 => ?_) (fun c3 => ?_)
  ·rw [if_pos (d_str c3)] at q
   and_intros
   refine ⟨x, rfl, px, ?_⟩
   and_intros
   refine c_if (fun c4 => ?_) (fun c4 => ?_)
   ·obtain ⟨i, rfl⟩ := whB_t c4
    and_intros
    have q : Z (.bl (decide (1 ≤ i) && decide (i ≤ 4))) Γ := q
    refine c_if (fun c5 => ?_) (fun c5 => ?_)
    ·rw [c5, Bool.true_and] at q
     and_intros
     exact drop0 .refl q
    ·rw [c5, Bool.false_and] at q
     exact drop0 .refl q
   ·have : nrB x = false := by
     cases x with
     | int i => cases c4
     | _ => rfl
    rw [this] at q
    exact drop0 .refl q
  rw [if_neg (d_strN c3)] at q
  and_intros
  refine c_if (fun c4 => ?_) (fun c4 => ?_)
  ·rw [if_pos (d_str c4)] at q
   and_intros
   exact ⟨x, d, by rw [show ((d + 1 : Nat) : Int) - 1 = (d : Int) by omega], by omega, px, drop0 .refl q⟩
  rw [if_neg (d_strN c4)] at q
  and_intros
  show if inV (.str z) [.str "rec", .str "pick"] = true then _ else _
  rw [inV_rp]
  refine c_if (fun c5 => ?_) (fun c5 => ?_)
  ·rw [c5, Bool.true_and] at q
   and_intros
   exact ⟨x, d, by rw [show ((d + 1 : Nat) : Int) - 1 = (d : Int) by omega], by omega, px, drop0 .refl q⟩
  ·rw [c5, Bool.false_and] at q
   exact drop0 .refl q
abbrev s_is_kind : Stmt := top 11
theorem sc_is_kind : FnScope ["thing"] ["thing"] (defScope s_is_kind) := ⟨rfl, rfl, rfl, by decide +kernel, rfl, by decide +kernel, by decide +kernel⟩
def spIk : Sp3 := fun ts Γ Z _ => ∃ t : T, ts = [t] ∧ Pt Γ t ∧ Z (.bl (kwB 5 t)) Γ
theorem ok_is_kind (F : Fun K "is_kind" "is_kind" s_is_kind f fd) (m_DEEPEST_KIND : mg "DEEPEST_KIND" = some v1) (g_DEEPEST_KIND : GlobIs v1 (.int 5)) (c_is_kind_within : Cl3 P w K mg base "is_kind_within" 19 ["thing", "depth"] (spKw 6)) : FnOk P w K mg base CX0 20 f fd ["thing"] (liSp spIk) := by
 refine okd F sc_is_kind (fun ts Γ Z Y h => ?_) (fun cdv A outer s H E ts Γ Z Y hr h => ?_)
 ·obtain ⟨t, rfl, _⟩ := h
  rfl
 obtain ⟨t, rfl, pt, q⟩ := h
 refine ⟨_, (qss_cons (qs_ret (qcl c_is_kind_within hr (qa_cons (qv 0) (qa_cons (qe_glob rfl m_DEEPEST_KIND g_DEEPEST_KIND) qa_nil))))
  qss_nil), ?_⟩
 simp only [start3]
 and_intros
 exact ⟨t, 5, rfl, by decide, pt, drop0 .refl q⟩
end
abbrev waysL : List Str := ["copy", "give", "lend", "lease"]
def sdB : T → Bool
 | .int i => decide (i = 0) || decide (i = 1)
 | _ => false
def wyB : T → Bool
 | .str z => decide (z ∈ waysL)
 | _ => false
def plB : T → Bool
 | .tup [a, b, c] => nmB a && (wyB b && kwB 5 c)
 | _ => false
def plsB : T → Bool
 | .tup ts => ts.all plB && decide (ts.map nmOf).Nodup
 | _ => false
def reB : T → Bool
 | .non => true
 | t => kwB 5 t
def paB : T → Bool
 | .tup [a, b, c, d] => nmB a && (sdB b && (plsB c && reB d))
 | _ => false
theorem plB_no {ts : List T} (h : ts.length ≠ 3) : plB (.tup ts) = false := by
 unfold plB
 split
 ·rename_i e; cases e; exact absurd rfl h
 ·rfl
theorem paB_no {ts : List T} (h : ts.length ≠ 4) : paB (.tup ts) = false := by
 unfold paB
 split
 ·rename_i e; cases e; exact absurd rfl h
 ·rfl
theorem plB_t {t : T} (h : plB t = true) : ∃ z b c, t = .tup [.str z, b, c] := by
 unfold plB at h
 split at h
 ·rename_i a b c
  rw [Bool.and_eq_true] at h
  obtain ⟨z, rfl⟩ := nmB_str h.1
  exact ⟨z, b, c, rfl⟩
 ·cases h
theorem plsB_eq (ts : List T) : plsB (.tup ts) = (ts.all plB && decide (ts.map nmOf).Nodup) := rfl
theorem inV_01 (i : Int) : inV (.int i) [.int 0, .int 1] = sdB (.int i) := by
 show _ = (decide (i = 0) || decide (i = 1))
 rw [Bool.eq_iff_iff]
 simp [inV, eqV]
 omega
section
variable {P: Program}{w: World}{K: PySem.W.Frag}{mg: Str → Option Value}{base: Heap}{f aS aW: Addr}{fd: FuncData}
abbrev s_is_side : Stmt := top 19
theorem sc_is_side : FnScope ["thing"] ["thing"] (defScope s_is_side) := ⟨rfl, rfl, rfl, by decide +kernel, rfl, by decide +kernel, by decide +kernel⟩
def spSd : Sp3 := fun ts Γ Z _ => ∃ t : T, ts = [t] ∧ Pt Γ t ∧ Z (.bl (sdB t)) Γ
theorem ok_is_side (F : Fun K "is_side" "is_side" s_is_side f fd) (c_is_whole : Cl3 P w K mg base "is_whole" 1 ["thing"] spWh) (m_SIDES : mg "SIDES" = some (.ref aS)) (k_SIDES : KTup K aS [.int 0, .int 1]) : FnOk P w K mg base CX0 2 f fd ["thing"] (liSp spSd) := by
 have g_SIDES : GlobIs (.ref aS) (.ref aS) := gl_ref
 refine okd F sc_is_side (fun ts Γ Z Y h => ?_) (fun cdv A outer s H E ts Γ Z Y hr h => ?_)
 ·obtain ⟨t, rfl, _⟩ := h
  rfl
 obtain ⟨t, rfl, pt, q⟩ := h
 refine ⟨_, (qss_cons (qs_ret (qe_and (qcl c_is_whole hr (qa_cons (qv 0) qa_nil)) (qe_one (qe_cmpR (oq_inK k_SIDES rfl) (qv 0) (qe_glob rfl m_SIDES g_SIDES) (by with_unfolding_all rfl)))))
  qss_nil), ?_⟩
 simp only [start3]
 and_intros
 refine ⟨t, rfl, pt, ?_⟩
 and_intros
 refine c_if (fun c => ?_) (fun c => ?_)
 ·obtain ⟨i, rfl⟩ := whB_t c
  and_intros
  refine ⟨_, rfl, rfl, rfl, ?_⟩
  rw [inV_01]
  exact drop0 .refl q
 ·have : sdB t = false := by
   cases t with
   | int i => cases c
   | _ => rfl
  rw [this] at q
  exact drop0 .refl q
abbrev s_is_place : Stmt := top 21
theorem sc_is_place : FnScope ["thing", "name", "way", "kind"] ["thing"] (defScope s_is_place) := ⟨rfl, rfl, rfl, by decide +kernel, rfl, by decide +kernel, by decide +kernel⟩
def spPc : Sp3 := fun ts Γ Z _ => ∃ t : T, ts = [t] ∧ Pt Γ t ∧ Z (.bl (plB t)) Γ
theorem ok_is_place (F : Fun K "is_place" "is_place" s_is_place f fd) (c_is_name : Cl3 P w K mg base "is_name" 1 ["thing"] spNmB) (c_is_kind : Cl3 P w K mg base "is_kind" 20 ["thing"] spIk) (m_WAYS : mg "WAYS" = some (.ref aW)) (k_WAYS : KTup K aW (waysL.map V.str)) (z_isinstance : mg "isinstance" = none) (z_tuple : mg "tuple" = none) (z_str : mg "str" = none) (z_len : mg "len" = none) : FnOk P w K mg base CX0 21 f fd ["thing"] (liSp spPc) := by
 have g_WAYS : GlobIs (.ref aW) (.ref aW) := gl_ref
 refine okd F sc_is_place (fun ts Γ Z Y h => ?_) (fun cdv A outer s H E ts Γ Z Y hr h => ?_)
 ·obtain ⟨t, rfl, _⟩ := h
  rfl
 obtain ⟨t, rfl, pt, q⟩ := h
 refine ⟨_, (qss_cons (qs_if (PW.pt (qw_or (qt_not (qt_val (qe_inst rfl z_isinstance rfl z_tuple bt_tuple (qv 0)))) (qw_or1 (qtc oq_ne (qe_callB cq_len rfl z_len PySem.boot_len (qa_cons (qv 0) qa_nil)) qe_int)))) (qss_cons (qs_ret qe_bl)
  qss_nil) qss_nil)
  (qss_cons (qs_asg (qv 0) (qg_tup (n := 3) rfl (qgs_cons (qgn (i := 1) sc_is_place.nd) (qgs_cons (qgn (i := 2) sc_is_place.nd) (qgs_cons (qgn (i := 3) sc_is_place.nd) qgs_nil)))))
  (qss_cons (qs_ret (qe_and (qcl c_is_name hr (qa_cons (qv 1) qa_nil)) (qe_and (qe_inst rfl z_isinstance rfl z_str bt_str (qv 2)) (qe_and (qe_cmpR (oq_inK k_WAYS rfl) (qv 2) (qe_glob rfl m_WAYS g_WAYS) (by with_unfolding_all rfl)) (qe_one (qcl c_is_kind hr (qa_cons (qv 3) qa_nil)))))))
  qss_nil))), ?_⟩
 simp only [start3]
 and_intros
 refine t_in (in_tup pt) ?_
 and_intros
 refine c_if (fun c => ?_) (fun c => ?_)
 ·and_intros
  refine drop0 .refl ?_
  cases t with
  | tup ts => cases c
  | _ => exact q
 obtain ⟨ts, rfl⟩ := isTup_t (t := t) (by simpa using c)
 obtain ⟨tl, tm⟩ := pt.items
 and_intros
 refine c_if (fun c1 => ?_) (fun c1 => ?_)
 ·have c1 : ts.length ≠ 3 := fun e => by rw [e] at c1; revert c1; decide
  and_intros
  rw [plB_no c1] at q
  exact drop0 .refl q
 have c1 : ts.length = 3 := by
  have : decide (V.int (ts.length : Int) = V.int 3) = true := by simpa using c1
  have := d_int this
  omega
 match ts, c1 with
 | [a, b, c], _ =>
  have q : Z (.bl (nmB a && (wyB b && kwB 5 c))) Γ := q
  and_intros
  refine ⟨a, rfl, tm a (by simp), ?_⟩
  and_intros
  refine c_if (fun c2 => ?_) (fun c2 => ?_)
  rotate_left
  ·rw [c2, Bool.false_and] at q
   exact drop0 .refl q
  rw [c2, Bool.true_and] at q
  and_intros
  refine t_in (in_str (tm b (by simp))) ?_
  and_intros
  refine c_if (fun c3 => ?_) (fun c3 => ?_)
  rotate_left
  ·have : wyB b = false := by
    cases b with
    | str z => cases c3
    | _ => rfl
   rw [this, Bool.false_and] at q
   exact drop0 .refl q
  obtain ⟨z, rfl⟩ := isStr_t c3
  and_intros
  refine ⟨.str z, rfl, rfl, rfl, ?_⟩
  rw [inV_strs]
  have q : Z (.bl (decide (z ∈ waysL) && kwB 5 c)) Γ := q
  and_intros
  refine c_if (fun c4 => ?_) (fun c4 => ?_)
  rotate_left
  ·rw [c4, Bool.false_and] at q
   exact drop0 .refl q
  rw [c4, Bool.true_and] at q
  and_intros
  exact ⟨c, rfl, tm c (by simp), drop0 .refl q⟩
abbrev s_are_places : Stmt := top 20
theorem sc_are_places : FnScope ["thing"] ["thing"] (defScope s_are_places) := ⟨rfl, rfl, rfl, by decide +kernel, rfl, by decide +kernel, by decide +kernel⟩
def spPls : Sp3 := fun ts Γ Z _ => ∃ t : T, ts = [t] ∧ Pt Γ t ∧ (∀ us, t = .tup us → us.length ≤ 999) ∧ Z (.bl (plsB t)) Γ
theorem ok_are_places (F : Fun K "are_places" "are_places" s_are_places f fd) (c_is_place : Cl3 P w K mg base "is_place" 21 ["thing"] spPc) (z_isinstance : mg "isinstance" = none) (z_tuple : mg "tuple" = none) (z_len : mg "len" = none) (z_all : mg "all" = none) : FnOk P w K mg base CX0 22 f fd ["thing"] (liSp spPls) := by
 refine okd F sc_are_places (fun ts Γ Z Y h => ?_) (fun cdv A outer s H E ts Γ Z Y hr h => ?_)
 ·obtain ⟨t, rfl, _⟩ := h
  rfl
 obtain ⟨t, rfl, pt, hl, q⟩ := h
 refine ⟨_, (qss_cons (qs_if (PW.pt (qw_or (qt_not (qt_val (qe_inst rfl z_isinstance rfl z_tuple bt_tuple (qv 0)))) (qw_or1 (qt_not (qt_val (qe_callB (cq_all rfl) rfl z_all PyProof.Rows.boot_all (qa_cons (qe_comp (own := ["place"]) (cap := []) cok rfl (qi_tup (qv 0)) (fun _ _ _ _ => qgo) (fun _ _ _ _ => qts_nil) (fun _ _ _ _ => (qcl c_is_place hr (qa_cons (qv 0) qa_nil)))) qa_nil))))))) (qss_cons (qs_ret qe_bl)
  qss_nil) qss_nil)
  (qss_cons (qs_ret (qec oq_eq (qe_callB cq_lenS rfl z_len PySem.boot_len (qa_cons (qe_setc (own := ["name", "way", "kind"]) (cap := []) cok rfl (qi_tup (qv 0)) (fun _ _ _ _ => (qg_tup (n := 3) rfl (qgs_cons (qg_name (i := 0) (show List.Nodup (["name", "way", "kind"] : List Str) from by decide +kernel) rfl (Or.inl rfl) (Or.inr rfl)) (qgs_cons (qg_name (i := 1) (show List.Nodup (["name", "way", "kind"] : List Str) from by decide +kernel) rfl (Or.inl rfl) (Or.inr rfl)) (qgs_cons (qg_name (i := 2) (show List.Nodup (["name", "way", "kind"] : List Str) from by decide +kernel) rfl (Or.inl rfl) (Or.inr rfl)) qgs_nil))))) (fun _ _ _ _ => (qv 0))) qa_nil)) (qe_callB cq_len rfl z_len PySem.boot_len (qa_cons (qv 0) qa_nil))))
  qss_nil)), ?_⟩
 simp only [start3]
 and_intros
 refine t_in (in_tup pt) ?_
 and_intros
 refine c_if (fun c => ?_) (fun c => ?_)
 ·and_intros
  refine drop0 .refl ?_
  cases t with
  | tup ts => cases c
  | _ => exact q
 obtain ⟨ts, rfl⟩ := isTup_t (t := t) (by simpa using c)
 obtain ⟨_, tm⟩ := pt.items
 have tl := hl ts rfl
 rw [plsB_eq] at q
 and_intros
 refine ⟨Nat.le_of_lt (small1000 (by omega)), ?_⟩
 refine ⟨fun rest τ ys Γ' => ∃ (ds : List T) (o : Option T), ts = ds ++ rest ∧ τ = [o] ∧ ys = (ds.map plB).map T.bl ∧ Γ' = Γ, ⟨[], none, rfl, rfl, rfl, rfl⟩, ?_, ?_⟩
 rotate_left
 ·rintro x r τ ys Γ' ⟨ds, o, ez, rfl, rfl, rfl⟩
  refine ⟨trivial, ?_⟩
  and_intros
  refine ⟨x, rfl, tm x (by rw [ez]; simp), ?_⟩
  exact ⟨ds ++ [x], _, by rw [ez]; simp, rfl, by rw [List.map_append, List.map_append]; rfl, rfl⟩
 rintro τ ys Γ' ⟨ds, o, ez, rfl, rfl, rfl⟩
 rw [List.append_nil] at ez
 subst ez
 refine ⟨trivial, ?_⟩
 intro p1 hp1; generalize e1 : up _ p1 (O.lst _) = Γ1; have g1 := al_g e1; have l1 := al_l e1 hp1
 and_intros
 refine ⟨p1, _, rfl, it3_l g1, ?_⟩
 rw [show (ts.map plB).all id = ts.all plB by rw [List.all_map]; rfl]
 and_intros
 refine c_if (fun c3 => ?_) (fun c3 => ?_)
 ·have c3 : ts.all plB = false := by simpa using c3
  and_intros
  rw [c3, Bool.false_and] at q
  exact drop0 l1 q
 have c3 : ts.all plB = true := by simpa using c3
 rw [c3, Bool.true_and] at q
 have all := List.all_eq_true.mp c3
 and_intros
 unfold eSetc
 and_intros
 refine ⟨by omega, ?_⟩
 refine ⟨fun rest τ ys Γ' => ∃ (ds : List T) (o0 o1 o2 : Option T), ts = ds ++ rest ∧ τ = [o0, o1, o2] ∧ ys = ds.map nmOf ∧ Γ' = Γ1, ⟨[], none, none, none, rfl, rfl, rfl, rfl⟩, ?_, ?_⟩
 rotate_left
 ·rintro x r τ ys Γ' ⟨ds, o0, o1, o2, ez, rfl, rfl, rfl⟩
  obtain ⟨z, b, c, rfl⟩ := plB_t (all x (by rw [ez]; simp))
  refine ⟨trivial, ?_⟩
  and_intros
  exact ⟨ds ++ [.tup [.str z, b, c]], _, _, _, by rw [ez]; simp, rfl, by rw [List.map_append]; rfl, rfl⟩
 rintro τ ys Γ' ⟨ds, o0, o1, o2, ez, rfl, rfl, rfl⟩
 rw [List.append_nil] at ez
 subst ez
 refine ⟨trivial, fun D S n on hD => ?_⟩
 and_intros
 refine ⟨D, S, n, rfl, up_same, ?_⟩
 and_intros
 have : decide (V.int (n : Int) = V.int (ts.length : Nat)) = decide (ts.map nmOf).Nodup := by
  have e : (V.int (n : Int) = V.int (ts.length : Nat)) ↔ (ts.map nmOf).Nodup := by
   rcases on.2 with ⟨a, b⟩ | ⟨a, b⟩
   ·rw [List.length_map] at b
    exact ⟨fun _ => a, fun _ => by rw [b]⟩
   ·rw [List.length_map] at b
    exact ⟨fun h => by have := V.int.inj h; omega, fun h => absurd h a⟩
  exact decide_eq_decide.mpr e
 rw [this]
 exact drop0 (l1.trans (.new hD)) q
abbrev s_is_paper : Stmt := top 18
theorem sc_is_paper : FnScope ["thing", "name", "side", "places", "result"] ["thing"] (defScope s_is_paper) := ⟨rfl, rfl, rfl, by decide +kernel, rfl, by decide +kernel, by decide +kernel⟩
def spIp : Sp3 := fun ts Γ Z _ => ∃ t : T, ts = [t] ∧ Pt Γ t ∧ (∀ x y us d, t = .tup [x, y, .tup us, d] → us.length ≤ 999) ∧ Z (.bl (paB t)) Γ
theorem ok_is_paper (F : Fun K "is_paper" "is_paper" s_is_paper f fd) (c_is_name : Cl3 P w K mg base "is_name" 1 ["thing"] spNmB) (c_is_side : Cl3 P w K mg base "is_side" 2 ["thing"] spSd) (c_are_places : Cl3 P w K mg base "are_places" 22 ["thing"] spPls) (c_is_kind : Cl3 P w K mg base "is_kind" 20 ["thing"] spIk) (z_isinstance : mg "isinstance" = none) (z_tuple : mg "tuple" = none) (z_len : mg "len" = none) : FnOk P w K mg base CX0 23 f fd ["thing"] (liSp spIp) := by
 refine okd F sc_is_paper (fun ts Γ Z Y h => ?_) (fun cdv A outer s H E ts Γ Z Y hr h => ?_)
 ·obtain ⟨t, rfl, _⟩ := h
  rfl
 obtain ⟨t, rfl, pt, hl, q⟩ := h
 refine ⟨_, (qss_cons (qs_if (PW.pt (qw_or (qt_not (qt_val (qe_inst rfl z_isinstance rfl z_tuple bt_tuple (qv 0)))) (qw_or1 (qtc oq_ne (qe_callB cq_len rfl z_len PySem.boot_len (qa_cons (qv 0) qa_nil)) qe_int)))) (qss_cons (qs_ret qe_bl)
  qss_nil) qss_nil)
  (qss_cons (qs_asg (qv 0) (qg_tup (n := 4) rfl (qgs_cons (qgn (i := 1) sc_is_paper.nd) (qgs_cons (qgn (i := 2) sc_is_paper.nd) (qgs_cons (qgn (i := 3) sc_is_paper.nd) (qgs_cons (qgn (i := 4) sc_is_paper.nd) qgs_nil))))))
  (qss_cons (qs_if (PW.pt (qw_or (qt_not (qt_val (qcl c_is_name hr (qa_cons (qv 1) qa_nil)))) (qw_or (qt_not (qt_val (qcl c_is_side hr (qa_cons (qv 2) qa_nil)))) (qw_or1 (qt_not (qt_val (qcl c_are_places hr (qa_cons (qv 3) qa_nil)))))))) (qss_cons (qs_ret qe_bl)
  qss_nil) qss_nil)
  (qss_cons (qs_ret (qe_or (qec oq_isN (qv 4) qe_non) (qe_one (qcl c_is_kind hr (qa_cons (qv 4) qa_nil)))))
  qss_nil)))), ?_⟩
 simp only [start3]
 and_intros
 refine t_in (in_tup pt) ?_
 and_intros
 refine c_if (fun c => ?_) (fun c => ?_)
 ·and_intros
  refine drop0 .refl ?_
  cases t with
  | tup ts => cases c
  | _ => exact q
 obtain ⟨ts, rfl⟩ := isTup_t (t := t) (by simpa using c)
 obtain ⟨tl, tm⟩ := pt.items
 and_intros
 refine c_if (fun c1 => ?_) (fun c1 => ?_)
 ·have c1 : ts.length ≠ 4 := fun e => by rw [e] at c1; revert c1; decide
  and_intros
  rw [paB_no c1] at q
  exact drop0 .refl q
 have c1 : ts.length = 4 := by
  have : decide (V.int (ts.length : Int) = V.int 4) = true := by simpa using c1
  have := d_int this
  omega
 match ts, c1 with
 | [a, b, c, d], _ =>
  have q : Z (.bl (nmB a && (sdB b && (plsB c && reB d)))) Γ := q
  and_intros
  refine ⟨a, rfl, tm a (by simp), ?_⟩
  and_intros
  refine c_if (fun c2 => ?_) (fun c2 => ?_)
  ·and_intros
   rw [show nmB a = false by simpa using c2, Bool.false_and] at q
   exact drop0 .refl q
  rw [show nmB a = true by simpa using c2, Bool.true_and] at q
  and_intros
  refine ⟨b, rfl, tm b (by simp), ?_⟩
  and_intros
  refine c_if (fun c3 => ?_) (fun c3 => ?_)
  ·and_intros
   rw [show sdB b = false by simpa using c3, Bool.false_and] at q
   exact drop0 .refl q
  rw [show sdB b = true by simpa using c3, Bool.true_and] at q
  and_intros
  refine ⟨c, rfl, tm c (by simp), fun us e => hl a b us d (by rw [e]), ?_⟩
  and_intros
  refine c_if (fun c4 => ?_) (fun c4 => ?_)
  ·and_intros
   rw [show plsB c = false by simpa using c4, Bool.false_and] at q
   exact drop0 .refl q
  rw [show plsB c = true by simpa using c4, Bool.true_and] at q
  and_intros
  refine c_if (fun c5 => ?_) (fun c5 => ?_)
  ·have : d = .non := by
    cases d with
    | non => rfl
    | _ => cases c5
   rw [this] at q
   exact drop0 .refl q
  ·have : reB d = kwB 5 d := by
    cases d with
    | non => cases c5
    | _ => rfl
   rw [this] at q
   and_intros
   exact ⟨d, rfl, tm d (by simp), drop0 .refl q⟩
end
theorem S_app (a b : List Nat) : S a ++ S b = S (a ++ b) := by
 have : (S a ++ S b).cps = (S (a ++ b)).cps := by rw [Str.cps_append]; simp [S]
 cases h : S a ++ S b with
 | mk c => rw [h] at this; cases h2 : S (a ++ b) with | mk d => rw [h2] at this; rw [show c = d from this]
theorem S_codes (z : Str) : S z.cps.toList = z := by cases z; simp [S]
theorem S_of {z : Str} {l : List Nat} (h : z.cps.toList = l) : z = S l := by rw [← h, S_codes]
theorem codes_S (l : List Nat) : (S l).cps.toList = l := by simp [S]
theorem e_text : ("text" : Str) = S [116, 101, 120, 116] := by decide +kernel
theorem e_sp : (" " : Str) = S [32] := by decide +kernel
theorem e_op : ("(" : Str) = S [40] := by decide +kernel
theorem e_cl : (")" : Str) = S [41] := by decide +kernel
theorem e_sop : (" (" : Str) = S [32, 40] := by decide +kernel
theorem e_com : (", " : Str) = S [44, 32] := by decide +kernel
theorem e_rec : ("rec" : Str) = S [114, 101, 99] := by decide +kernel
theorem e_pick : ("pick" : Str) = S [112, 105, 99, 107] := by decide +kernel
theorem sIx_pos {n d : Nat} {i : Int} (h : 0 ≤ i) : HT.sIx n d (some i) = min i.toNat n := by
 show (if i < 0 then _ else min i.toNat _) = _
 rw [if_neg (by omega)]
theorem cut_mid {α : Type} {xs : List α} {i j : Int} (h : 0 ≤ i) (h' : 0 ≤ j) : cutN xs (some i) (some j) = (xs.drop i.toNat).take (j.toNat - i.toNat) := by
 unfold cutN
 rw [sIx_pos h, sIx_pos h']
 by_cases c : i.toNat ≤ xs.length
 ·rw [Nat.min_eq_left c]
  by_cases c2 : j.toNat ≤ xs.length
  ·rw [Nat.min_eq_left c2]
  ·rw [Nat.min_eq_right (by omega), List.take_of_length_le (by rw [List.length_drop]; omega), List.take_of_length_le (by rw [List.length_drop]; omega)]
 ·rw [Nat.min_eq_right (show xs.length ≤ i.toNat by omega), List.drop_length, List.drop_of_length_le (by omega), List.take_nil, List.take_nil]
def wr (C dx : Addr) (p r : List Nat) : O := .ins C dx [("text", .str (S (p ++ r))), ("at", .int (p.length : Nat))]
theorem put_at {t u v : T} : putT "at" v [("text", t), ("at", u)] = ([("text", t), ("at", v)] : List (Str × T)) := by
 unfold putT
 rw [if_neg (by decide +kernel)]
 unfold putT
 rw [if_pos rfl]
theorem put_2 {t v : T} : putT "at" v (putT "text" t []) = ([("text", t), ("at", v)] : List (Str × T)) := by
 show putT "at" v [("text", t)] = ([("text", t), ("at", v)] : List (Str × T))
 unfold putT
 rw [if_neg (by decide +kernel)]
 rfl
theorem wr_set {C dx : Addr} {p q r : List Nat} {n : Int} (h : n = ((p ++ q).length : Nat)) : O.ins C dx (putT "at" (.int n) [("text", .str (S (p ++ (q ++ r)))), ("at", .int (p.length : Nat))]) = wr C dx (p ++ q) r := by
 rw [put_at, h]
 unfold wr
 rw [List.append_assoc]
def Stop (r : List Nat) : Prop := r = [] ∨ ∃ c r', r = c :: r' ∧ goodc c = false
theorem from_at (p r : List Nat) : fromIndex (S (p ++ r)).length (p.length : Nat) = p.length := by
 unfold fromIndex
 rw [if_neg (by omega)]
 omega
theorem sub_at (p q r : List Nat) : Builtin.Str.subAt (S (p ++ r)) (S q) p.length = decide (r.take q.length = q) := by
 unfold Builtin.Str.subAt
 rw [S_len, Bool.eq_iff_iff, beq_iff_eq, decide_eq_true_eq, ← Array.toList_inj]
 have : ((S (p ++ r)).cps.extract p.length (p.length + q.length)).toList = r.take q.length := by
  rw [Array.toList_extract]
  show List.take _ (List.drop _ (S (p ++ r)).cps.toList) = _
  rw [codes_S, List.drop_left, Nat.add_sub_cancel_left]
 rw [this, codes_S]
theorem starts_at (p q r : List Nat) : (decide (fromIndex (S (p ++ r)).length (p.length : Nat) + (S q).length ≤ (S (p ++ r)).length) && Builtin.Str.subAt (S (p ++ r)) (S q) (fromIndex (S (p ++ r)).length (p.length : Nat))) = decide (r.take q.length = q) := by
 rw [from_at, sub_at, S_len, S_len, Bool.eq_iff_iff, Bool.and_eq_true, decide_eq_true_eq, decide_eq_true_eq]
 refine ⟨fun h => h.2, fun h => ⟨?_, h⟩⟩
 have : q.length ≤ r.length := by
  have := congrArg List.length h
  rw [List.length_take] at this
  omega
 rw [List.length_append]
 omega
theorem ix_at {p r : List Nat} {c : Nat} : atI (S (p ++ (c :: r))).cps.toList (p.length : Nat) = some c := by
 rw [codes_S]
 exact atI_nat (by simp)
section
variable {P: Program}{w: World}{K: PySem.W.Frag}{mg: Str → Option Value}{base: Heap}{f C cNoText: Addr}{fd: FuncData}{v2: Value}
abbrev s_Writing_init : Stmt := mem 26 0
theorem sc_Writing_init : FnScope ["self", "text"] ["self", "text"] (defScope s_Writing_init) := ⟨rfl, rfl, rfl, by decide +kernel, rfl, by decide +kernel, by decide +kernel⟩
def spWi0 (C : Addr) : Sp3 := fun ts Γ Z _ => ∃ (x dx : Addr) (l : List Nat), ts = [.ref x, .str (S l)] ∧ Γ x = some (.ins C dx []) ∧ Z .non (up Γ x (wr C dx [] l))
theorem ok_W_init (F : Fun K "__init__" "Writing.__init__" s_Writing_init f fd) (cls_Writing : Cls K C) (n_Writing_text : NoAttr K C "text") (n_Writing_at : NoAttr K C "at") : FnOk P w K mg base CX0 1 f fd ["self", "text"] (liSp (spWi0 C)) := by
 refine okd F sc_Writing_init (fun ts Γ Z Y h => ?_) (fun cdv A outer s H E ts Γ Z Y hr h => ?_)
 ·obtain ⟨x, dx, l, rfl, _⟩ := h
  rfl
 obtain ⟨x, dx, l, rfl, g, q⟩ := h
 refine ⟨_, (qss_cons (qs_fld cls_Writing n_Writing_text (qv 0) (qv 1))
  (qss_cons (qs_fld cls_Writing n_Writing_at (qv 0) qe_int)
  qss_nil)), ?_⟩
 simp only [start3]
 and_intros
 rw [up_up, put_2]
 exact drop0 .refl q
abbrev s_Writing_is_over : Stmt := mem 26 1
theorem sc_Writing_is_over : FnScope ["self"] ["self"] (defScope s_Writing_is_over) := ⟨rfl, rfl, rfl, by decide +kernel, rfl, by decide +kernel, by decide +kernel⟩
def spOv (C : Addr) : Sp3 := fun ts Γ Z _ => ∃ (a dx : Addr) (p r : List Nat), ts = [.ref a] ∧ Γ a = some (wr C dx p r) ∧ (p ++ r).length ≤ sizeLine ∧ Z (.bl (decide (r = []))) Γ
theorem ok_W_is_over (F : Fun K "is_over" "Writing.is_over" s_Writing_is_over f fd) (cls_Writing : Cls K C) (n_Writing_text : NoAttr K C "text") (n_Writing_at : NoAttr K C "at") (z_len : mg "len" = none) : FnOk P w K mg base CX0 1 f fd ["self"] (liSp (spOv C)) := by
 refine okd F sc_Writing_is_over (fun ts Γ Z Y h => ?_) (fun cdv A outer s H E ts Γ Z Y hr h => ?_)
 ·obtain ⟨a, dx, p, r, rfl, _⟩ := h
  rfl
 obtain ⟨a, dx, p, r, rfl, g, l, q⟩ := h
 refine ⟨_, (qss_cons (qs_ret (qec oq_eq (qe_fld cls_Writing n_Writing_at (qv 0)) (qe_callB cq_lens rfl z_len PySem.boot_len (qa_cons (qe_fld cls_Writing n_Writing_text (qv 0)) qa_nil))))
  qss_nil), ?_⟩
 simp only [start3]
 unfold wr at g
 and_intros
 refine ⟨_, rfl, by rw [S_len]; exact l, ?_⟩
 rw [S_len]
 and_intros
 have : decide (V.int (p.length : Nat) = V.int ((p ++ r).length : Nat)) = decide (r = []) := by
  refine decide_eq_decide.mpr ⟨fun h => ?_, fun h => by rw [h, List.append_nil]⟩
  have := V.int.inj h
  rw [List.length_append] at this
  exact List.eq_nil_of_length_eq_zero (by omega)
 rw [this]
 exact drop0 .refl q
abbrev s_Writing_sees : Stmt := mem 26 2
theorem sc_Writing_sees : FnScope ["self", "piece", "seen"] ["self", "piece"] (defScope s_Writing_sees) := ⟨rfl, rfl, rfl, by decide +kernel, rfl, by decide +kernel, by decide +kernel⟩
def spSe (C : Addr) : Sp3 := fun ts Γ Z _ => ∃ (a dx : Addr) (p q r : List Nat), ts = [.ref a, .str (S q)] ∧ Γ a = some (wr C dx p r) ∧ (p ++ r).length ≤ sizeLine ∧ (∀ r', r = q ++ r' → Z (.bl true) (up Γ a (wr C dx (p ++ q) r'))) ∧ (r.take q.length ≠ q → Z (.bl false) Γ)
theorem ok_W_sees (F : Fun K "sees" "Writing.sees" s_Writing_sees f fd) (cls_Writing : Cls K C) (n_Writing_text : NoAttr K C "text") (n_Writing_at : NoAttr K C "at") (z_len : mg "len" = none) : FnOk P w K mg base CX0 1 f fd ["self", "piece"] (liSp (spSe C)) := by
 refine okd F sc_Writing_sees (fun ts Γ Z Y h => ?_) (fun cdv A outer s H E ts Γ Z Y hr h => ?_)
 ·obtain ⟨a, dx, p, q, r, rfl, _⟩ := h
  rfl
 obtain ⟨a, dx, p, q, r, rfl, g, l, q1, q2⟩ := h
 refine ⟨_, (qss_cons (qst (i := 2) sc_Writing_sees.nd (qe_bm PySem.F.plainAttrs_str PySem.F.slot_str_startswith PySem.F.type_str_startswith mq_starts (qe_fld cls_Writing n_Writing_text (qv 0)) (qa_cons (qv 1) (qa_cons (qe_fld cls_Writing n_Writing_at (qv 0)) qa_nil))))
  (qss_cons (qs_cut (qs_if (qt_val (qv 2)) (qss_cons (qs_fldaug cls_Writing n_Writing_at (qv 0) (qe_callB cq_lens rfl z_len PySem.boot_len (qa_cons (qv 1) qa_nil)) oq_iadd)
  qss_nil) qss_nil))
  (qss_cons (qs_ret (qv 2))
  qss_nil))), ?_⟩
 simp only [start3]
 have g' := g
 unfold wr at g
 and_intros
 refine ⟨_, _, _, rfl, rfl, ?_⟩
 rw [starts_at]
 and_intros
 by_cases c : r.take q.length = q
 ·rw [decide_eq_true c]
  obtain ⟨r', rfl⟩ : ∃ r', r = q ++ r' := ⟨r.drop q.length, by conv => lhs; rw [← List.take_append_drop q.length r, c]⟩
  refine nocut ?_
  and_intros
  refine ⟨_, rfl, by rw [S_len]; rw [List.length_append, List.length_append] at l; omega, ?_⟩
  rw [S_len]
  and_intros
  rw [wr_set (by rw [List.length_append]; omega)]
  exact drop0 .refl (q1 r' rfl)
 ·rw [decide_eq_false c]
  refine nocut ?_
  and_intros
  exact drop0 .refl (q2 c)
abbrev s_Writing_skip : Stmt := mem 26 3
theorem sc_Writing_skip : FnScope ["self", "piece"] ["self", "piece"] (defScope s_Writing_skip) := ⟨rfl, rfl, rfl, by decide +kernel, rfl, by decide +kernel, by decide +kernel⟩
def spSp (C N : Addr) : Sp3 := fun ts Γ Z Y => ∃ (a dx : Addr) (p q r : List Nat), ts = [.ref a, .str (S q)] ∧ Γ a = some (wr C dx p r) ∧ (p ++ r).length ≤ sizeLine ∧ (∀ r', r = q ++ r' → Z .non (up Γ a (wr C dx (p ++ q) r'))) ∧ (r.take q.length ≠ q → Y (.ref N) Γ)
theorem ok_W_skip (F : Fun K "skip" "Writing.skip" s_Writing_skip f fd) (c_Writing_sees : ClM P w K mg base C "sees" 1 ["self", "piece"] (spSe C)) (m_NoText : mg "NoText" = some (.ref cNoText)) (x_NoText : PySem.W.excIn K cNoText [.type "ValueError", .type "Exception", .type "BaseException", .type "object"] "ValueError.__new__" = true) : FnOk P w K mg base (CXe P w) 2 f fd ["self", "piece"] (liSp (spSp C cNoText)) := by
 refine okdX F sc_Writing_skip (fun ts Γ Z Y h => ?_) (fun cdv A outer s H E ts Γ Z Y hr h => ?_)
 ·obtain ⟨a, dx, p, q, r, rfl, _⟩ := h
  rfl
 obtain ⟨a, dx, p, q, r, rfl, g, l, q1, q2⟩ := h
 refine ⟨_, (qss_cons (qs_if (qt_not (qt_val (qe_meth c_Writing_sees hr (by omega) (qv 0) (qa_cons (qv 1) qa_nil)))) (qss_cons (qs_raise rfl rfl m_NoText x_NoText PySem.F.excBase_ValueError (qa_cons qe_str qa_nil) raise_def)
  qss_nil) qss_nil)
  qss_nil), ?_⟩
 simp only [start3]
 have g' := g
 unfold wr at g
 and_intros
 refine ⟨a, dx, p, q, r, rfl, g', l, fun r' e => ?_, fun e => ?_⟩
 ·and_intros
  exact drop0 .refl (q1 r' e)
 ·and_intros
  exact ⟨_, .refl, q2 e⟩
abbrev s_Writing_word : Stmt := mem 26 4
theorem sc_Writing_word : FnScope ["self", "begin"] ["self"] (defScope s_Writing_word) := ⟨rfl, rfl, rfl, by decide +kernel, rfl, by decide +kernel, by decide +kernel⟩
theorem up_id {Γ : Gp} {a : Addr} {o : O} (h : Γ a = some o) : up Γ a o = Γ := by
 funext b
 by_cases e : b = a
 ·subst e; rw [up_same, h]
 ·rw [up_ne e]
def spWo0 (C : Addr) : Sp3 := fun ts Γ Z _ => ∃ (a dx : Addr) (p ls r : List Nat), ts = [.ref a] ∧ Γ a = some (wr C dx p (ls ++ r)) ∧ (p ++ (ls ++ r)).length ≤ sizeLine ∧ (∀ c ∈ ls, goodc c = true) ∧ Stop r ∧ Z (.str (S ls)) (up Γ a (wr C dx (p ++ ls) r))
theorem ok_W_word (F : Fun K "word" "Writing.word" s_Writing_word f fd) (cls_Writing : Cls K C) (n_Writing_text : NoAttr K C "text") (n_Writing_at : NoAttr K C "at") (m_LETTERS : mg "LETTERS" = some v2) (g_LETTERS : GlobIs v2 (.str abc)) (z_len : mg "len" = none) : FnOk P w K mg base CX0 1 f fd ["self"] (liSp (spWo0 C)) := by
 refine okd F sc_Writing_word (fun ts Γ Z Y h => ?_) (fun cdv A outer s H E ts Γ Z Y hr h => ?_)
 ·obtain ⟨a, dx, p, ls, r, rfl, _⟩ := h
  rfl
 obtain ⟨a, dx, p, ls, r, rfl, g, l, lt, st, q⟩ := h
 refine ⟨_, (qss_cons (qst (i := 1) sc_Writing_word.nd (qe_fld cls_Writing n_Writing_at (qv 0)))
  (qss_cons (qs_while PassesOwn.never (PW.pt (qw_and (qtc oq_lt (qe_fld cls_Writing n_Writing_at (qv 0)) (qe_callB cq_lens rfl z_len PySem.boot_len (qa_cons (qe_fld cls_Writing n_Writing_text (qv 0)) qa_nil))) (qw_and1 (qt_cmpR oq_ins (qixs (qe_fld cls_Writing n_Writing_text (qv 0)) (qe_fld cls_Writing n_Writing_at (qv 0))) (qe_glob rfl m_LETTERS g_LETTERS) (by with_unfolding_all rfl))))) (qss_cons (qs_fldaug cls_Writing n_Writing_at (qv 0) qe_int oq_iadd)
  qss_nil))
  (qss_cons (qs_ret (qe_slice sq_str (qe_fld cls_Writing n_Writing_text (qv 0)) (qo_some (qv 1)) (qo_some (qe_fld cls_Writing n_Writing_at (qv 0)))))
  qss_nil))), ?_⟩
 simp only [start3]
 have g' := g
 unfold wr at g
 and_intros
 refine ⟨fun m τ Γ' => ∃ l1 l2, ls = l1 ++ l2 ∧ m = l2.length ∧ τ = [some (.ref a), some (.int (p.length : Nat))] ∧ Γ' = up Γ a (wr C dx (p ++ l1) (l2 ++ r)), ⟨ls.length, [], ls, rfl, rfl, rfl, by rw [List.append_nil, up_id g']⟩, ?_⟩
 rintro m τ Γ' ⟨l1, l2, rfl, rfl, rfl, rfl⟩
 have g1 : (up Γ a (wr C dx (p ++ l1) (l2 ++ r))) a = some (.ins C dx [("text", .str (S (p ++ l1 ++ (l2 ++ r)))), ("at", .int ((p ++ l1).length : Nat))]) := up_same
 have tl : (S (p ++ l1 ++ (l2 ++ r))).length ≤ sizeLine := by rw [S_len]; simpa only [List.append_assoc] using l
 and_intros
 refine ⟨_, rfl, tl, ?_⟩
 rw [S_len]
 and_intros
 cases l2 with
 | nil =>
  have fin : ∀ y : Str, y.cps.toList = cutN (S (p ++ l1 ++ ([] ++ r))).cps.toList (some ((p.length : Nat) : Int)) (some (((p ++ l1).length : Nat) : Int)) → dropK Z (.str y) (up Γ a (wr C dx (p ++ l1) ([] ++ r))) := fun y hy => by
   have : y = S l1 := S_of (by
    rw [hy, codes_S, cut_mid (by omega) (by omega), Int.toNat_natCast, Int.toNat_natCast, List.append_assoc, List.drop_left, List.length_append, Nat.add_sub_cancel_left, List.take_left])
   rw [this, List.nil_append]
   rw [List.append_nil] at q
   exact drop0 .refl q
  rcases st with rfl | ⟨c, r', rfl, hc⟩
  ·refine c_ifF (decide_eq_false (by simp)) ?_
   and_intros
   exact ⟨tl, fin⟩
  ·refine c_ifT (decide_eq_true (by simp only [List.nil_append, List.length_append, List.length_cons]; omega)) ?_
   and_intros
   refine ⟨_, _, c, rfl, rfl, tl, ix_at, ?_⟩
   refine ⟨_, _, rfl, rfl, ?_⟩
   show ∃ k, T.bl (goodc c) = .bl k ∧ _
   rw [hc]
   and_intros
   exact ⟨tl, fin⟩
 | cons c l2 =>
  have hc : goodc c = true := lt c (by simp)
  refine c_ifT (decide_eq_true (by simp only [List.length_append, List.length_cons]; omega)) ?_
  and_intros
  refine ⟨_, _, c, rfl, rfl, tl, ix_at, ?_⟩
  refine ⟨_, _, rfl, rfl, ?_⟩
  show ∃ k, T.bl (goodc c) = .bl k ∧ _
  rw [hc]
  and_intros
  refine ⟨fun τ Γ' => τ = [some (.ref a), some (.int (p.length : Nat))] ∧ Γ' = up Γ a (wr C dx (p ++ (l1 ++ [c])) (l2 ++ r)), ?_, ?_⟩
  ·rintro τ Γ' ⟨rfl, rfl⟩
   exact ⟨l2.length, by simp, l1 ++ [c], l2, by simp, rfl, rfl, rfl⟩
  and_intros
  refine ⟨rfl, ?_⟩
  rw [up_up]
  congr 1
  have := wr_set (C := C) (dx := dx) (p := p ++ l1) (q := [c]) (r := l2 ++ r) (n := ((p ++ l1).length : Nat) + 1) (by simp only [List.length_append, List.length_cons, List.length_nil]; omega)
  rw [List.append_assoc p l1 [c]] at this
  exact this
abbrev s_Writing_figure : Stmt := mem 26 5
theorem sc_Writing_figure : FnScope ["self"] ["self"] (defScope s_Writing_figure) := ⟨rfl, rfl, rfl, by decide +kernel, rfl, by decide +kernel, by decide +kernel⟩
abbrev figs : Str := "0123456789"
theorem fig_in : ∀ d : Nat, d < 10 → (!(Builtin.Str.occurrences figs ⟨#[48 + d]⟩ 0 figs.length 1).isEmpty) = true := by decide +kernel
theorem fig_int : ∀ d : Nat, d < 10 → PySem.intText? ⟨#[48 + d]⟩ = some (d : Int) := by decide +kernel
theorem fig_no : ∀ c : Nat, c < 128 → ¬ (48 ≤ c ∧ c ≤ 57) → (!(Builtin.Str.occurrences figs ⟨#[c]⟩ 0 figs.length 1).isEmpty) = false := by decide +kernel
def spFg (C N : Addr) : Sp3 := fun ts Γ Z Y => ∃ (a dx : Addr) (p r : List Nat), ts = [.ref a] ∧ Γ a = some (wr C dx p r) ∧ (p ++ r).length ≤ sizeLine ∧ (∀ c ∈ r, c < 128) ∧ (∀ d r', r = (48 + d) :: r' → d < 10 → Z (.int (d : Nat)) (up Γ a (wr C dx (p ++ [48 + d]) r'))) ∧ ((∀ d r', r = (48 + d) :: r' → ¬ d < 10) → Y (.ref N) Γ)
theorem ok_W_figure (F : Fun K "figure" "Writing.figure" s_Writing_figure f fd) (c_Writing_is_over : ClM P w K mg base C "is_over" 1 ["self"] (spOv C)) (cls_Writing : Cls K C) (n_Writing_text : NoAttr K C "text") (n_Writing_at : NoAttr K C "at") (m_FIGURES : mg "FIGURES" = some v2) (g_FIGURES : GlobIs v2 (.str figs)) (m_NoText : mg "NoText" = some (.ref cNoText)) (x_NoText : PySem.W.excIn K cNoText [.type "ValueError", .type "Exception", .type "BaseException", .type "object"] "ValueError.__new__" = true) (z_int : mg "int" = none) : FnOk P w K mg base (CXe P w) 2 f fd ["self"] (liSp (spFg C cNoText)) := by
 refine okdX F sc_Writing_figure (fun ts Γ Z Y h => ?_) (fun cdv A outer s H E ts Γ Z Y hr h => ?_)
 ·obtain ⟨a, dx, p, r, rfl, _⟩ := h
  rfl
 obtain ⟨a, dx, p, r, rfl, g, l, asc, q, qE⟩ := h
 refine ⟨_, (qss_cons (qs_if (PW.pt (qw_or (qt_val (qe_meth0 c_Writing_is_over hr (by omega) (qv 0))) (qw_or1 (qt_cmpR oq_nins (qixs (qe_fld cls_Writing n_Writing_text (qv 0)) (qe_fld cls_Writing n_Writing_at (qv 0))) (qe_glob rfl m_FIGURES g_FIGURES) (by with_unfolding_all rfl))))) (qss_cons (qs_raise rfl rfl m_NoText x_NoText PySem.F.excBase_ValueError (qa_cons qe_str qa_nil) raise_def)
  qss_nil) qss_nil)
  (qss_cons (qs_fldaug cls_Writing n_Writing_at (qv 0) qe_int oq_iadd)
  (qss_cons (qs_ret (qe_callTy cq_intS rfl z_int bt_int (qa_cons (qixs (qe_fld cls_Writing n_Writing_text (qv 0)) (qe_op oq_sub (qe_fld cls_Writing n_Writing_at (qv 0)) qe_int)) qa_nil)))
  qss_nil))), ?_⟩
 simp only [start3]
 have g' := g
 unfold wr at g
 have tl : (S (p ++ r)).length ≤ sizeLine := by rw [S_len]; exact l
 and_intros
 refine ⟨a, dx, p, r, rfl, g', l, ?_⟩
 cases r with
 | nil =>
  rw [decide_eq_true rfl]
  and_intros
  exact ⟨_, .refl, qE fun d r' e => by cases e⟩
 | cons c r =>
  rw [decide_eq_false (by simp)]
  and_intros
  refine ⟨_, _, c, rfl, rfl, tl, ix_at, ?_⟩
  refine ⟨_, _, rfl, rfl, ?_⟩
  by_cases hc : 48 ≤ c ∧ c ≤ 57
  ·obtain ⟨d, rfl⟩ : ∃ d, c = 48 + d := ⟨c - 48, by omega⟩
   have d10 : d < 10 := by omega
   rw [fig_in d d10]
   and_intros
   have e := wr_set (C := C) (dx := dx) (p := p) (q := [48 + d]) (r := r) (n := (p.length : Nat) + 1) (by simp only [List.length_append, List.length_cons, List.length_nil]; omega)
   have g1 : (up Γ a (O.ins C dx (putT "at" (.int ((p.length : Nat) + 1)) [("text", .str (S (p ++ ((48 + d) :: r)))), ("at", .int (p.length : Nat))]))) a = some (.ins C dx [("text", .str (S (p ++ [48 + d] ++ r))), ("at", .int ((p ++ [48 + d]).length : Nat))]) := by
    rw [up_same]
    exact congrArg some e
   and_intros
   refine ⟨_, _, 48 + d, rfl, rfl, by rw [S_len]; simpa using l, ?_, ?_⟩
   ·rw [codes_S, show ((p.length : Nat) : Int) + 1 - 1 = ((p.length : Nat) : Int) by omega]
    exact atI_nat (by simp)
   refine ⟨_, d, rfl, by show 1 ≤ 640; decide, fig_int d d10, ?_⟩
   refine drop0 .refl ?_
   have e2 : O.ins C dx (putT "at" (.int ((p.length : Nat) + 1)) [("text", .str (S (p ++ ((48 + d) :: r)))), ("at", .int (p.length : Nat))]) = wr C dx (p ++ [48 + d]) r := e
   rw [e2]
   exact q d r rfl d10
  ·rw [fig_no c (asc c (by simp)) hc]
   and_intros
   exact ⟨_, .refl, qE fun d r' e => by cases e; omega⟩
end
abbrev PR := List Nat → Option (T × List Nat)
def pre (q r : List Nat) : Option (List Nat) := if r.take q.length = q then some (r.drop q.length) else none
theorem pre_yes {q r r' : List Nat} (h : r = q ++ r') : pre q r = some r' := by
 subst h; unfold pre; rw [List.take_left, if_pos rfl, List.drop_left]
theorem pre_no {q r : List Nat} (h : r.take q.length ≠ q) : pre q r = none := if_neg h
theorem pre_eq {q r r' : List Nat} (h : pre q r = some r') : r = q ++ r' := by
 unfold pre at h
 split at h
 ·rename_i c
  cases h
  conv => lhs; rw [← List.take_append_drop q.length r, c]
 ·cases h
def figP : PR
 | c :: r => if 48 ≤ c ∧ c ≤ 57 then some (.int ((c - 48 : Nat) : Int), r) else none
 | [] => none
theorem figP_cons (c : Nat) (r : List Nat) : figP (c :: r) = if 48 ≤ c ∧ c ≤ 57 then some (.int ((c - 48 : Nat) : Int), r) else none := rfl
theorem figP_yes {d : Nat} {r : List Nat} (h : d < 10) : figP ((48 + d) :: r) = some (.int (d : Nat), r) := by
 rw [figP_cons, if_pos ⟨by omega, by omega⟩, show 48 + d - 48 = d by omega]
theorem figP_no {r : List Nat} (h : ∀ d r', r = (48 + d) :: r' → ¬ d < 10) : figP r = none := by
 cases r with
 | nil => rfl
 | cons c r =>
  rw [figP_cons]
  refine if_neg fun k => h (c - 48) r (by rw [show 48 + (c - 48) = c by omega]) (by omega)
def pFd (f : PR) : PR := fun r => (pre [32] (r.dropWhile goodc)).bind fun r1 => (f r1).bind fun x => some (.tup [.str (S (r.takeWhile goodc)), x.1], x.2)
def pLs (f : PR) : Nat → List Nat → Option (List T × List Nat)
 | 0, _ => none
 | n + 1, r => match pre [41] r with
  | some r' => some ([], r')
  | none => (pre [44, 32] r).bind fun r1 => (f r1).bind fun x => (pLs f n x.2).bind fun y => some (x.1 :: y.1, y.2)
abbrev cText : List Nat := [116, 101, 120, 116]
abbrev cNum : List Nat := [110, 117, 109]
abbrev cRow : List Nat := [114, 111, 119]
abbrev cRec : List Nat := [114, 101, 99]
abbrev cPick : List Nat := [112, 105, 99, 107]
def pKh (f : PR) (h r1 : List Nat) : Option (T × List Nat) :=
 if h = cText then some (.tup [.str (S cText)], r1)
 else if h = cNum then (pre [32] r1).bind fun r2 => (figP r2).bind fun x => some (.tup [.str (S cNum), x.1], x.2)
 else if h = cRow then (pre [32] r1).bind fun r2 => (f r2).bind fun x => some (.tup [.str (S cRow), x.1], x.2)
 else if h = cRec ∨ h = cPick then (pre [32] r1).bind fun r2 => (pre [40] r2).bind fun r3 => (pFd f r3).bind fun x => (pLs (pFd f) (x.2.length + 1) x.2).bind fun y => some (.tup [.str (S h), .tup (x.1 :: y.1)], y.2)
 else none
def pKi : Nat → PR
 | 0 => fun _ => none
 | d + 1 => fun r => pKh (pKi d) (r.takeWhile goodc) (r.dropWhile goodc)
theorem drop_stop (r : List Nat) : Stop (r.dropWhile goodc) := by
 induction r with
 | nil => exact .inl rfl
 | cons c r ih =>
  rw [List.dropWhile_cons]
  split
  ·exact ih
  ·rename_i h; exact .inr ⟨c, r, rfl, by simpa using h⟩
theorem take_good (r : List Nat) : ∀ c ∈ r.takeWhile goodc, goodc c = true := by
 induction r with
 | nil => simp
 | cons c r ih =>
  rw [List.takeWhile_cons]
  split
  ·rename_i h
   intro x hx
   rcases List.mem_cons.mp hx with rfl | hx
   ·exact h
   ·exact ih x hx
  ·simp
theorem td (r : List Nat) : r.takeWhile goodc ++ r.dropWhile goodc = r := List.takeWhile_append_dropWhile
theorem S_inj {a b : List Nat} (h : S a = S b) : a = b := by
 have := congrArg (fun z : Str => z.cps.toList) h
 simpa only [codes_S] using this
theorem dS {h l : List Nat} {z : Str} (e : z = S l) (n : h ≠ l) : decide (V.str (S h) = V.str z) = false := decide_eq_false fun k => n (S_inj ((V.str.inj k).trans e))
theorem inV_4 (z : Str) : inV (.str z) [.str "num", .str "row", .str "rec", .str "pick"] = decide (z ∈ (["num", "row", "rec", "pick"] : List Str)) := by
 rw [show [V.str "num", V.str "row", V.str "rec", V.str "pick"] = (["num", "row", "rec", "pick"] : List Str).map V.str from rfl, inV_strs]
theorem e_num0 : ("num" : Str) = S cNum := by decide +kernel
theorem e_row0 : ("row" : Str) = S cRow := by decide +kernel
section
variable {f C: Addr}
def Wr (Γ : Gp) (C dx a : Addr) (p r : List Nat) : Prop := Γ a = some (wr C dx p r) ∧ (p ++ r).length ≤ 100000 ∧ ∀ c ∈ r, c < 128
theorem Wr.l {Γ : Gp} {C dx a : Addr} {p r : List Nat} (h : Wr Γ C dx a p r) : (p ++ r).length ≤ sizeLine := Nat.le_trans h.2.1 (by decide)
theorem Wr.to {Γ Γ' : Gp} {C dx a : Addr} {p r p' r' : List Nat} (h : Wr Γ C dx a p r) (g : Γ' a = some (wr C dx p' r')) (e : p' ++ r' = p ++ r) (s : ∃ q, r = q ++ r') : Wr Γ' C dx a p' r' := by
 obtain ⟨q, e2⟩ := s
 exact ⟨g, by rw [e]; exact h.2.1, fun c hc => h.2.2 c (by rw [e2]; exact List.mem_append_right _ hc)⟩
def spRd (C N : Addr) (f : PR) (a : Addr) (Γ : Gp) (Z : K3) (Y : Value → Gp → Prop) : Prop := ∃ (dx : Addr) (p r : List Nat), Wr Γ C dx a p r ∧ (∀ t p' r', f r = some (t, r') → p' ++ r' = p ++ r → Z t (up Γ a (wr C dx p' r'))) ∧ (f r = none → ∀ Γ', Kq [a] Γ Γ' → Y (.ref N) Γ')
def spKi (C N : Addr) (n : Nat) : Sp3 := fun ts Γ Z Y => ∃ (a : Addr) (d : Nat), ts = [.ref a, .int (d : Nat)] ∧ d < n ∧ spRd C N (pKi d) a Γ Z Y
def spFi (C N : Addr) (n : Nat) : Sp3 := fun ts Γ Z Y => ∃ (a : Addr) (d : Nat), ts = [.ref a, .int (d : Nat)] ∧ d < n ∧ spRd C N (pFd (pKi d)) a Γ Z Y
def Ends' (f : PR) : Prop := ∀ r t r', f r = some (t, r') → ∃ q, r = q ++ r'
theorem pFd_ends {f : PR} (h : Ends' f) : Ends' (pFd f) := fun r t r' e => by
 unfold pFd at e
 cases e1 : pre [32] (r.dropWhile goodc) with
 | none => rw [e1] at e; cases e
 | some r1 =>
  rw [e1] at e
  cases e2 : f r1 with
  | none => rw [Option.bind_some, e2] at e; cases e
  | some x =>
   rw [Option.bind_some, e2] at e
   cases e
   obtain ⟨q, hq⟩ := h r1 x.1 x.2 e2
   exact ⟨r.takeWhile goodc ++ [32] ++ q, by rw [List.append_assoc, List.append_assoc, ← hq, ← pre_eq e1, td]⟩
theorem pLs_ends {f : PR} (h : Ends' f) : ∀ (n : Nat) (r : List Nat) (t : List T) (r' : List Nat), pLs f n r = some (t, r') → ∃ q, r = q ++ r'
 | 0, r, t, r', e => by cases e
 | n + 1, r, t, r', e => by
  rw [pLs] at e
  cases e0 : pre [41] r with
  | some r1 => rw [e0] at e; cases e; exact ⟨_, pre_eq e0⟩
  | none =>
   rw [e0] at e
   cases e1 : pre [44, 32] r with
   | none => rw [e1] at e; cases e
   | some r1 =>
    simp only [e1, Option.bind_some] at e
    cases e2 : f r1 with
    | none => rw [e2] at e; cases e
    | some x =>
     rw [e2, Option.bind_some] at e
     cases e3 : pLs f n x.2 with
     | none => rw [e3] at e; cases e
     | some y =>
      rw [e3] at e
      cases e
      obtain ⟨q, hq⟩ := h r1 x.1 x.2 e2
      obtain ⟨q2, hq2⟩ := pLs_ends h n x.2 y.1 y.2 e3
      exact ⟨[44, 32] ++ q ++ q2, by rw [List.append_assoc, List.append_assoc, ← hq2, ← hq, ← pre_eq e1]⟩
theorem figP_ends : Ends' figP := fun r t r' e => by
 cases r with
 | nil => cases e
 | cons c r =>
  rw [figP_cons] at e
  split at e
  ·cases e; exact ⟨[c], rfl⟩
  ·cases e
theorem pKi_ends : ∀ d : Nat, Ends' (pKi d)
  | 0 => fun r t r' e => by cases e
  | d + 1 => fun r t r' e => by
    have ih := pKi_ends d
    suffices hh : ∃ q, r.dropWhile goodc = q ++ r' by
      obtain ⟨q, hq⟩ := hh
      exact ⟨r.takeWhile goodc ++ q, by rw [List.append_assoc, ← hq, td]⟩
    have e : pKh (pKi d) (r.takeWhile goodc) (r.dropWhile goodc) = some (t, r') := e
    generalize r.takeWhile goodc = h at e
    generalize r.dropWhile goodc = r1 at e
    unfold pKh at e
    split at e
    · cases e; exact ⟨[], rfl⟩
    all_goals
      cases e1 : pre [32] r1 with
      | none => simp [e1] at e
      | some r2 =>
        rw [pre_eq e1]
        simp only [e1, Option.bind_some] at e
        first
          | (split at e
             · cases e2 : figP r2 with
               | none => rw [e2] at e; cases e
               | some x =>
                 rw [e2] at e; cases e
                 obtain ⟨q, hq⟩ := figP_ends _ _ _ e2
                 exact ⟨[32] ++ q, by rw [List.append_assoc, ← hq]⟩
             split at e
             · cases e2 : pKi d r2 with
               | none => rw [e2] at e; cases e
               | some x =>
                 rw [e2] at e; cases e
                 obtain ⟨q, hq⟩ := ih _ _ _ e2
                 exact ⟨[32] ++ q, by rw [List.append_assoc, ← hq]⟩
             split at e
             · cases e3 : pre [40] r2 with
               | none => rw [e3] at e; cases e
               | some r3 =>
                 simp only [e3, Option.bind_some] at e
                 cases e4 : pFd (pKi d) r3 with
                 | none => rw [e4] at e; cases e
                 | some x =>
                   rw [e4, Option.bind_some] at e
                   cases e5 : pLs (pFd (pKi d)) (x.2.length + 1) x.2 with
                   | none => rw [e5] at e; cases e
                   | some y =>
                     rw [e5] at e; cases e
                     obtain ⟨q, hq⟩ := pFd_ends ih _ _ _ e4
                     obtain ⟨q2, hq2⟩ := pLs_ends (pFd_ends ih) _ _ _ _ e5
                     exact ⟨[32] ++ [40] ++ q ++ q2, by rw [List.append_assoc, List.append_assoc, List.append_assoc, ← hq2, ← hq, ← pre_eq e3]⟩
             · cases e)
end
section
variable {P: Program}{w: World}{K: PySem.W.Frag}{mg: Str → Option Value}{base: Heap}{f C cNoText: Addr}{fd: FuncData}
theorem kq_up {Γ : Gp} {a : Addr} {o : O} : Kq [a] Γ (up Γ a o) := .set (by simp) _
abbrev s_field_in : Stmt := top 28
theorem sc_field_in : FnScope ["writing", "depth", "name"] ["writing", "depth"] (defScope s_field_in) := ⟨rfl, rfl, rfl, by decide +kernel, rfl, by decide +kernel, by decide +kernel⟩
theorem ok_field_in {n lv : Nat} (F : Fun K "field_in" "field_in" s_field_in f fd) (c_Writing_word : ClM P w K mg base C "word" 1 ["self"] (spWo0 C)) (c_Writing_skip : ClMx P w K mg base C "skip" 2 ["self", "piece"] (spSp C cNoText)) (c_kind_in : Clx P w K mg base "kind_in" (lv + 2) ["writing", "depth"] (spKi C cNoText n)) : FnOk P w K mg base (CXe P w) (lv + 3) f fd ["writing", "depth"] (liSp (spFi C cNoText n)) := by
 refine okdX F sc_field_in (fun ts Γ Z Y h => ?_) (fun cdv A outer s H E ts Γ Z Y hr h => ?_)
 ·obtain ⟨a, d, rfl, _⟩ := h
  rfl
 obtain ⟨a, d, rfl, dn, dx, p, r, wr0, q, qE⟩ := h
 refine ⟨_, (qss_cons (qst (i := 2) sc_field_in.nd (qe_meth0 c_Writing_word hr (by omega) (qv 0)))
  (qss_cons (qs_expr (qe_methX c_Writing_skip hr (by omega) pass_def (qv 0) (qa_cons qe_str qa_nil)))
  (qss_cons (qs_ret (qe_tup (qa_cons (qv 2) (qa_cons (qcx c_kind_in hr pass_def (qa_cons (qv 0) (qa_cons (qv 1) qa_nil))) qa_nil))))
  qss_nil))), ?_⟩
 simp only [start3]
 unfold eMethX
 have g := wr0.1
 have l := wr0.l
 have asc := wr0.2.2
 have g' := g
 unfold wr at g
 and_intros
 refine ⟨a, dx, p, r.takeWhile goodc, r.dropWhile goodc, rfl, by rw [td]; exact g', by rw [td]; exact l, take_good r, drop_stop r, ?_⟩
 have et := td r
 have eF : pFd (pKi d) r = (pre [32] (r.dropWhile goodc)).bind fun r1 => (pKi d r1).bind fun x => some (.tup [.str (S (r.takeWhile goodc)), x.1], x.2) := rfl
 generalize r.takeWhile goodc = h at et eF ⊢
 generalize r.dropWhile goodc = r1 at et eF ⊢
 have w1 : Wr (up Γ a (wr C dx (p ++ h) r1)) C dx a (p ++ h) r1 := wr0.to up_same (by rw [List.append_assoc, et]) ⟨h, et.symm⟩
 have g1 : (up Γ a (wr C dx (p ++ h) r1)) a = some (.ins C dx [("text", .str (S (p ++ h ++ r1))), ("at", .int ((p ++ h).length : Nat))]) := up_same
 and_intros
 refine ⟨a, dx, p ++ h, [32], r1, by rw [e_sp], w1.1, w1.l, fun r2 e2 => ?_, fun e2 => ⟨_, .refl, qE (by rw [eF, pre_no e2]; rfl) _ kq_up⟩⟩
 rw [up_up]
 rw [pre_yes e2, Option.bind_some] at eF
 have w2 : Wr (up Γ a (wr C dx (p ++ h ++ [32]) r2)) C dx a (p ++ h ++ [32]) r2 := w1.to up_same (by rw [e2, List.append_assoc (p ++ h)]) ⟨[32], e2⟩
 and_intros
 refine ⟨a, d, rfl, dn, dx, _, r2, w2, fun t p' r' ek ep => ?_, fun ek Γ' kq => ⟨_, .refl, qE (by rw [eF, ek]; rfl) _ (kq_up.trans kq)⟩⟩
 rw [up_up]
 and_intros
 refine drop0 .refl (q _ p' r' (by rw [eF, ek]; rfl) ?_)
 rw [ep, ← et, e2]
 simp
abbrev s_kind_in : Stmt := top 27
theorem sc_kind_in : FnScope ["writing", "depth", "head", "fields"] ["writing", "depth"] (defScope s_kind_in) := ⟨rfl, rfl, rfl, by decide +kernel, rfl, by decide +kernel, by decide +kernel⟩
theorem mem4 {h : List Nat} : S h ∈ (["num", "row", "rec", "pick"] : List Str) ↔ h = cNum ∨ h = cRow ∨ h = cRec ∨ h = cPick := by
 rw [e_num0, e_row0, e_rec, e_pick]
 simp only [List.mem_cons, List.not_mem_nil, or_false]
 exact ⟨fun k => by rcases k with k | k | k | k <;> simp [S_inj k], fun k => by rcases k with k | k | k | k <;> simp [k]⟩
theorem pKh_pre {f : PR} {h r : List Nat} (hT : h ≠ cText) (e : pre [32] r = none) : pKh f h r = none := by
 unfold pKh
 rw [if_neg hT, e]
 simp only [Option.bind_none, ite_self]
theorem ok_kind_in {n lv : Nat} (F : Fun K "kind_in" "kind_in" s_kind_in f fd) (c_Writing_word : ClM P w K mg base C "word" 1 ["self"] (spWo0 C)) (c_Writing_skip : ClMx P w K mg base C "skip" 2 ["self", "piece"] (spSp C cNoText)) (c_Writing_sees : ClM P w K mg base C "sees" 1 ["self", "piece"] (spSe C)) (c_Writing_figure : ClMx P w K mg base C "figure" 2 ["self"] (spFg C cNoText)) (c_kind_in : Clx P w K mg base "kind_in" (lv + 2) ["writing", "depth"] (spKi C cNoText n)) (c_field_in : Clx P w K mg base "field_in" (lv + 3) ["writing", "depth"] (spFi C cNoText n)) (m_NoText : mg "NoText" = some (.ref cNoText)) (x_NoText : PySem.W.excIn K cNoText [.type "ValueError", .type "Exception", .type "BaseException", .type "object"] "ValueError.__new__" = true) (z_tuple : mg "tuple" = none) : FnOk P w K mg base (CXe P w) (lv + 4) f fd ["writing", "depth"] (liSp (spKi C cNoText (n + 1))) := by
 refine okdX F sc_kind_in (fun ts Γ Z Y h => ?_) (fun cdv A outer s H E ts Γ Z Y hr h => ?_)
 ·obtain ⟨a, d, rfl, _⟩ := h
  rfl
 obtain ⟨a, d, rfl, dn, dx, p, r, wr0, q, qE⟩ := h
 refine ⟨_, (qss_cons (qs_if (qtc oq_lt (qv 1) qe_int) (qss_cons (qs_raise rfl rfl m_NoText x_NoText PySem.F.excBase_ValueError (qa_cons qe_str qa_nil) raise_def)
  qss_nil) qss_nil)
  (qss_cons (qst (i := 2) sc_kind_in.nd (qe_meth0 c_Writing_word hr (by omega) (qv 0)))
  (qss_cons (qs_if (qtc oq_eq (qv 2) qe_str) (qss_cons (qs_ret (qe_tup (qa_cons qe_str qa_nil)))
  qss_nil) qss_nil)
  (qss_cons (qs_if (qt_cmpR oq_nin (qv 2) (qe_tup (qa_cons qe_str (qa_cons qe_str (qa_cons qe_str (qa_cons qe_str qa_nil))))) (by with_unfolding_all rfl)) (qss_cons (qs_raise rfl rfl m_NoText x_NoText PySem.F.excBase_ValueError (qa_cons qe_str qa_nil) raise_def)
  qss_nil) qss_nil)
  (qss_cons (qs_expr (qe_methX c_Writing_skip hr (by omega) pass_def (qv 0) (qa_cons qe_str qa_nil)))
  (qss_cons (qs_if (qtc oq_eq (qv 2) qe_str) (qss_cons (qs_ret (qe_tup (qa_cons qe_str (qa_cons (qe_methX0 c_Writing_figure hr (by omega) pass_def (qv 0)) qa_nil))))
  qss_nil) qss_nil)
  (qss_cons (qs_if (qtc oq_eq (qv 2) qe_str) (qss_cons (qs_ret (qe_tup (qa_cons qe_str (qa_cons (qcx c_kind_in hr pass_def (qa_cons (qv 0) (qa_cons (qe_op oq_sub (qv 1) qe_int) qa_nil))) qa_nil))))
  qss_nil) qss_nil)
  (qss_cons (qs_expr (qe_methX c_Writing_skip hr (by omega) pass_def (qv 0) (qa_cons qe_str qa_nil)))
  (qss_cons (qst (i := 3) sc_kind_in.nd (qe_lst (qa_cons (qcx c_field_in hr pass_def (qa_cons (qv 0) (qa_cons (qe_op oq_sub (qv 1) qe_int) qa_nil))) qa_nil)))
  (qss_cons (qs_while own_def (qt_not (qt_val (qe_meth c_Writing_sees hr (by omega) (qv 0) (qa_cons qe_str qa_nil)))) (qss_cons (qs_expr (qe_methX c_Writing_skip hr (by omega) pass_def (qv 0) (qa_cons qe_str qa_nil)))
  (qss_cons (qs_expr (qe_bm PySem.F.plainAttrs_list PySem.F.slot_list_append PySem.F.type_list_append mq_append (qv 3) (qa_cons (qcx c_field_in hr pass_def (qa_cons (qv 0) (qa_cons (qe_op oq_sub (qv 1) qe_int) qa_nil))) qa_nil)))
  qss_nil)))
  (qss_cons (qs_ret (qe_tup (qa_cons (qv 2) (qa_cons (qe_callTy cq_tuple rfl z_tuple bt_tuple (qa_cons (qv 3) qa_nil)) qa_nil))))
  qss_nil))))))))))), ?_⟩
 simp only [start3]
 unfold eMethX
 have g := wr0.1
 have l := wr0.l
 have g' := g
 unfold wr at g
 and_intros
 cases d with
 | zero =>
  refine c_ifT (by decide) ?_
  and_intros
  exact ⟨_, .refl, qE rfl _ .refl⟩
 | succ d =>
 refine c_ifF (decide_eq_false (by omega)) ?_
 and_intros
 refine ⟨a, dx, p, r.takeWhile goodc, r.dropWhile goodc, rfl, by rw [td]; exact g', by rw [td]; exact l, take_good r, drop_stop r, ?_⟩
 have et := td r
 have eF : pKi (d + 1) r = pKh (pKi d) (r.takeWhile goodc) (r.dropWhile goodc) := rfl
 generalize r.takeWhile goodc = h at et eF ⊢
 generalize r.dropWhile goodc = r1 at et eF ⊢
 have w1 : Wr (up Γ a (wr C dx (p ++ h) r1)) C dx a (p ++ h) r1 := wr0.to up_same (by rw [List.append_assoc, et]) ⟨h, et.symm⟩
 have ep1 : p ++ h ++ r1 = p ++ r := by rw [List.append_assoc, et]
 have kq1 : Kq [a] Γ (up Γ a (wr C dx (p ++ h) r1)) := kq_up
 have upz : ∀ o, up (up Γ a (wr C dx (p ++ h) r1)) a o = up Γ a o := fun o => up_up
 generalize up Γ a (wr C dx (p ++ h) r1) = Γ1 at w1 kq1 upz ⊢
 have g1 := w1.1
 unfold wr at g1
 generalize p ++ h = p1 at w1 ep1 g1
 and_intros
 by_cases hT : h = cText
 ·subst hT
  refine c_ifT (by decide +kernel) ?_
  and_intros
  rw [pKh, if_pos rfl] at eF
  refine drop0 .refl ?_
  have := q _ p1 r1 eF ep1
  rw [← upz, up_id w1.1] at this
  rw [e_text]
  exact this
 refine c_ifF (dS e_text hT) ?_
 and_intros
 show if (!inV (.str (S h)) [.str "num", .str "row", .str "rec", .str "pick"]) = true then _ else _
 rw [inV_4]
 by_cases h4 : h = cNum ∨ h = cRow ∨ h = cRec ∨ h = cPick
 rotate_left
 ·refine c_ifT (by rw [decide_eq_false (fun k => h4 (mem4.mp k))]; rfl) ?_
  and_intros
  refine ⟨_, .refl, qE ?_ _ kq1⟩
  rw [eF]
  unfold pKh
  rw [if_neg hT, if_neg fun e => h4 (.inl e), if_neg fun e => h4 (.inr (.inl e)), if_neg fun e => h4 (.inr (.inr e))]
 refine c_ifF (by rw [decide_eq_true (mem4.mpr h4)]; rfl) ?_
 and_intros
 refine ⟨a, dx, p1, [32], r1, by rw [e_sp], w1.1, w1.l, fun r2 e2 => ?_, fun e2 => ⟨_, .refl, qE (by rw [eF]; exact pKh_pre hT (pre_no e2)) _ kq1⟩⟩
 have w2 : Wr (up Γ1 a (wr C dx (p1 ++ [32]) r2)) C dx a (p1 ++ [32]) r2 := w1.to up_same (by rw [e2, List.append_assoc]) ⟨[32], e2⟩
 have ep2 : p1 ++ [32] ++ r2 = p ++ r := by rw [← ep1, e2, List.append_assoc]
 have kq2 : Kq [a] Γ (up Γ1 a (wr C dx (p1 ++ [32]) r2)) := kq1.trans kq_up
 have upz2 : ∀ o, up (up Γ1 a (wr C dx (p1 ++ [32]) r2)) a o = up Γ a o := fun o => by rw [up_up, upz]
 have pr := pre_yes e2
 generalize up Γ1 a (wr C dx (p1 ++ [32]) r2) = Γ2 at w2 kq2 upz2 ⊢
 generalize p1 ++ [32] = p2 at w2 ep2
 have g2 := w2.1
 unfold wr at g2
 and_intros
 by_cases hN : h = cNum
 ·subst hN
  refine c_ifT (by decide +kernel) ?_
  and_intros
  rw [pKh, if_neg hT, if_pos rfl, pr, Option.bind_some] at eF
  refine ⟨a, dx, p2, r2, rfl, w2.1, w2.l, w2.2.2, fun d' r' e d10 => ?_, fun no => ⟨_, .refl, qE (by rw [eF, figP_no no]; rfl) _ kq2⟩⟩
  rw [upz2]
  and_intros
  refine drop0 .refl ?_
  rw [e_num0]
  exact q _ _ r' (by rw [eF, e, figP_yes d10]; rfl) (by rw [← ep2, e]; simp)
 refine c_ifF (dS e_num0 hN) ?_
 and_intros
 by_cases hR : h = cRow
 ·subst hR
  refine c_ifT (by decide +kernel) ?_
  and_intros
  rw [pKh, if_neg hT, if_neg hN, if_pos rfl, pr, Option.bind_some] at eF
  refine ⟨a, d, by rw [show ((d + 1 : Nat) : Int) - 1 = (d : Int) by omega], by omega, dx, p2, r2, w2, fun t p' r' ek ep => ?_, fun ek Γ' kq => ⟨_, .refl, qE (by rw [eF, ek]; rfl) _ (kq2.trans kq)⟩⟩
  rw [upz2]
  and_intros
  refine drop0 .refl ?_
  rw [e_row0]
  exact q _ p' r' (by rw [eF, ek]; rfl) (by rw [ep, ep2])
 refine c_ifF (dS e_row0 hR) ?_
 have hRP : h = cRec ∨ h = cPick := by
  rcases h4 with e | e | e
  ·exact absurd e hN
  ·exact absurd e hR
  ·exact e
 rw [pKh, if_neg hT, if_neg hN, if_neg hR, if_pos hRP, pr, Option.bind_some] at eF
 and_intros
 refine ⟨a, dx, p2, [40], r2, by rw [e_op], w2.1, w2.l, fun r3 e3 => ?_, fun e3 => ⟨_, .refl, qE (by rw [eF, pre_no e3]; rfl) _ kq2⟩⟩
 rw [pre_yes e3, Option.bind_some] at eF
 have w3 : Wr (up Γ2 a (wr C dx (p2 ++ [40]) r3)) C dx a (p2 ++ [40]) r3 := w2.to up_same (by rw [e3, List.append_assoc]) ⟨[40], e3⟩
 have ep3 : p2 ++ [40] ++ r3 = p ++ r := by rw [← ep2, e3, List.append_assoc]
 rw [upz2] at w3 ⊢
 generalize p2 ++ [40] = p3 at w3 ep3
 and_intros
 refine ⟨a, d, by rw [show ((d + 1 : Nat) : Int) - 1 = (d : Int) by omega], by omega, dx, _, r3, w3, fun t1 p4 r4 ek ep => ?_, fun ek Γ' kq => ⟨_, .refl, qE (by rw [eF, ek]; rfl) _ (kq_up.trans kq)⟩⟩
 rw [ek, Option.bind_some] at eF
 have ep4 : p4 ++ r4 = p ++ r := ep.trans ep3
 obtain ⟨q4, hq4⟩ := pFd_ends (pKi_ends d) _ _ _ ek
 have w4 := w3.to (Γ' := up Γ a (wr C dx p4 r4)) (p' := p4) (r' := r4) up_same ep ⟨q4, hq4⟩
 rw [up_up]
 and_intros
 intro pf hpf; generalize ef : up _ pf (O.lst _) = Γf; have gf := al_g ef; have lf := al_l ef hpf
 have nf : a ≠ pf := gnn up_same hpf
 have bf : Γ pf = none := by rw [up_ne nf.symm] at hpf; exact hpf
 have wf : Wr Γf C dx a p4 r4 := ⟨lf _ _ w4.1, w4.2⟩
 have kqf : Kq [a] Γ Γf := kq_up.trans lf.kq
 clear lf ef w4 w3 w2 w1 g1 g2 upz upz2 kq1 kq2
 and_intros
 refine ⟨fun m τ Γ' => ∃ (ts : List T) (p' r' : List Nat), τ = [some (.ref a), some (.int ((d + 1 : Nat) : Int)), some (.str (S h)), some (.ref pf)] ∧ Γ' pf = some (.lst ts) ∧ Wr Γ' C dx a p' r' ∧ p' ++ r' = p ++ r ∧ Kq [a] Γ Γ' ∧ r'.length < m ∧ ts.length + r'.length ≤ 100001 ∧ pKi (d + 1) r = (pLs (pFd (pKi d)) m r').bind fun y => some (.tup [.str (S h), .tup (ts ++ y.1)], y.2), ⟨r4.length + 1, [t1], p4, r4, rfl, gf, wf, ep4, kqf, by omega, by have := wf.2.1; rw [List.length_append] at this; show 1 + _ ≤ _; omega, eF⟩, ?_⟩
 clear eF gf wf kqf ep4 hq4
 rintro m τ Γ' ⟨ts, p', r', rfl, gf, w5, ep5, kq5, lm, lt, eF⟩
 have g5 := w5.1
 unfold wr at g5
 obtain ⟨m, rfl⟩ : ∃ j, m = j + 1 := ⟨m - 1, by omega⟩
 rw [pLs] at eF
 and_intros
 refine ⟨a, dx, p', [41], r', by rw [e_cl], w5.1, w5.l, fun r6 e6 => ?_, fun e6 => ?_⟩
 ·rw [pre_yes e6] at eF
  simp only [Option.bind_some, List.append_nil] at eF
  and_intros
  refine ⟨.ref pf, _, rfl, it3_l (by rw [up_ne nf.symm]; exact gf), ?_⟩
  and_intros
  exact dropL1 (a := a) (o := wr C dx (p' ++ [41]) r6) (kq5.trans kq_up) up_same (q _ _ _ eF (by rw [← ep5, e6]; simp))
 rw [pre_no e6] at eF
 dsimp only at eF
 and_intros
 refine ⟨fun τ Γ' => ∃ (ts : List T) (p' r' : List Nat), τ = [some (.ref a), some (.int ((d + 1 : Nat) : Int)), some (.str (S h)), some (.ref pf)] ∧ Γ' pf = some (.lst ts) ∧ Wr Γ' C dx a p' r' ∧ p' ++ r' = p ++ r ∧ Kq [a] Γ Γ' ∧ r'.length < m ∧ ts.length + r'.length ≤ 100001 ∧ pKi (d + 1) r = (pLs (pFd (pKi d)) m r').bind fun y => some (.tup [.str (S h), .tup (ts ++ y.1)], y.2), ?_, ?_⟩
 ·rintro τ Γ2 ⟨ts, p', r', h1⟩
  exact ⟨m, by omega, ts, p', r', h1⟩
 and_intros
 refine ⟨a, dx, p', [44, 32], r', by rw [e_com], w5.1, w5.l, fun r6 e7 => ?_, fun e7 => ⟨_, .refl, qE (by rw [eF, pre_no e7]; rfl) _ kq5⟩⟩
 rw [pre_yes e7, Option.bind_some] at eF
 have w6 : Wr (up Γ' a (wr C dx (p' ++ [44, 32]) r6)) C dx a (p' ++ [44, 32]) r6 := w5.to up_same (by rw [e7, List.append_assoc]) ⟨[44, 32], e7⟩
 have ep6 : p' ++ [44, 32] ++ r6 = p ++ r := by rw [← ep5, e7, List.append_assoc]
 have lr : r6.length + 2 = r'.length := by rw [e7]; simp
 generalize p' ++ [44, 32] = p6 at w6 ep6
 and_intros
 refine t_tyL (by rw [up_ne nf.symm]; exact gf) ?_
 and_intros
 refine ⟨a, d, by rw [show ((d + 1 : Nat) : Int) - 1 = (d : Int) by omega], by omega, dx, _, r6, w6, fun t7 p7 r7 ek ep => ?_, fun ek Γ7 kq => ⟨_, .refl, qE (by rw [eF, ek]; rfl) _ ((kq5.trans kq_up).trans kq)⟩⟩
 rw [ek, Option.bind_some] at eF
 obtain ⟨q7, hq7⟩ := pFd_ends (pKi_ends d) _ _ _ ek
 have lr7 : r7.length ≤ r6.length := by rw [hq7, List.length_append]; omega
 rw [up_up]
 have gf7 : (up Γ' a (wr C dx p7 r7)) pf = some (.lst ts) := by rw [up_ne nf.symm]; exact gf
 refine ⟨pf, _, _, rfl, rfl, gf7, by rw [sizeLine_eq]; omega, ?_⟩
 and_intros
 refine ⟨ts ++ [t7], p7, r7, rfl, up_same, ?_, ep.trans ep6, ?_, by omega, by rw [List.length_append]; show _ + 1 + _ ≤ _; omega, ?_⟩
 ·exact w6.to (by rw [up_ne nf]; exact up_same) ep ⟨q7, hq7⟩
 ·intro b o nb hb
  have e : b ≠ pf := gnn hb bf
  have e2 : b ≠ a := by simpa using nb
  rw [up_ne e, up_ne e2]
  exact kq5 b o nb hb
 ·rw [eF]
  cases pLs (pFd (pKi d)) m r7 with
  | none => rfl
  | some y => simp
theorem kind_all (F : Fun K "kind_in" "kind_in" s_kind_in f fd) (m : mg "kind_in" = some (.ref f)) (kp : PySem.W.keepIn K (.ref f) = true) (b : Binds K fd ["writing", "depth"] []) {f2 : Addr} {fd2 : FuncData} (F_field_in : Fun K "field_in" "field_in" s_field_in f2 fd2) (m_field_in : mg "field_in" = some (.ref f2)) (kp_field_in : PySem.W.keepIn K (.ref f2) = true) (b_field_in : Binds K fd2 ["writing", "depth"] [])
  (c_Writing_word : ClM P w K mg base C "word" 1 ["self"] (spWo0 C)) (c_Writing_skip : ClMx P w K mg base C "skip" 2 ["self", "piece"] (spSp C cNoText)) (c_Writing_sees : ClM P w K mg base C "sees" 1 ["self", "piece"] (spSe C)) (c_Writing_figure : ClMx P w K mg base C "figure" 2 ["self"] (spFg C cNoText)) (m_NoText : mg "NoText" = some (.ref cNoText)) (x_NoText : PySem.W.excIn K cNoText [.type "ValueError", .type "Exception", .type "BaseException", .type "object"] "ValueError.__new__" = true) (z_tuple : mg "tuple" = none) :
  ∀ n : Nat, Clx P w K mg base "kind_in" (n + n + 2) ["writing", "depth"] (spKi C cNoText n)
 | 0 => ⟨f, fd, noC fun ts Γ Z Y h => by obtain ⟨_, d, _, h, _⟩ := h; omega, m, kp, b⟩
 | n + 1 => by
  have ih := kind_all F m kp b F_field_in m_field_in kp_field_in b_field_in c_Writing_word c_Writing_skip c_Writing_sees c_Writing_figure m_NoText x_NoText z_tuple n
  have D1 : Clx P w K mg base "field_in" (n + n + 3) ["writing", "depth"] (spFi C cNoText n) := ⟨f2, fd2, ok_field_in F_field_in c_Writing_word c_Writing_skip ih, m_field_in, kp_field_in, b_field_in⟩
  exact ⟨f, fd, by rw [show n + 1 + (n + 1) + 2 = n + n + 4 by omega]; exact ok_kind_in F c_Writing_word c_Writing_skip c_Writing_sees c_Writing_figure ih D1 m_NoText x_NoText z_tuple, m, kp, b⟩
end
abbrev cDoor : List Nat := [100, 111, 111, 114, 32]
abbrev cNone : List Nat := [110, 111, 110, 101]
theorem e_door : ("door " : Str) = S cDoor := by decide +kernel
theorem e_none : ("none" : Str) = S cNone := by decide +kernel
def pPl : PR := fun r => (pre [32] (r.dropWhile goodc)).bind fun r1 => (pre [32] (r1.dropWhile goodc)).bind fun r2 => (pKi 5 r2).bind fun x => some (.tup [.str (S (r.takeWhile goodc)), .str (S (r1.takeWhile goodc)), x.1], x.2)
def pPs : PR := fun r => match pre [41] r with
 | some r' => some (.tup [], r')
 | none => (pPl r).bind fun x => (pLs pPl (x.2.length + 1) x.2).bind fun y => some (.tup (x.1 :: y.1), y.2)
def pRe (nm : List Nat) (x y : T) : PR := fun r => match pre cNone r with
 | some r' => some (.tup [.str (S nm), x, y, .non], r')
 | none => (pKi 5 r).bind fun z => some (.tup [.str (S nm), x, y, z.1], z.2)
def pPa : PR := fun r => (pre cDoor r).bind fun r1 => (pre [32] (r1.dropWhile goodc)).bind fun r2 => (figP r2).bind fun x => (pre [32, 40] x.2).bind fun r4 => (pPs r4).bind fun y => (pre [32] y.2).bind fun r6 => pRe (r1.takeWhile goodc) x.1 y.1 r6
theorem pPl_ends : Ends' pPl := fun r t r' e => by
 unfold pPl at e
 cases e1 : pre [32] (r.dropWhile goodc) with
 | none => rw [e1] at e; cases e
 | some r1 =>
  rw [e1, Option.bind_some] at e
  cases e2 : pre [32] (r1.dropWhile goodc) with
  | none => rw [e2] at e; cases e
  | some r2 =>
   rw [e2, Option.bind_some] at e
   cases e3 : pKi 5 r2 with
   | none => rw [e3] at e; cases e
   | some x =>
    rw [e3] at e
    cases e
    obtain ⟨q, hq⟩ := pKi_ends 5 _ _ _ e3
    exact ⟨r.takeWhile goodc ++ ([32] ++ (r1.takeWhile goodc ++ ([32] ++ q))), by simp only [List.append_assoc]; rw [← hq, ← pre_eq e2, td, ← pre_eq e1, td]⟩
theorem pPs_ends : Ends' pPs := fun r t r' e => by
 unfold pPs at e
 cases e1 : pre [41] r with
 | some r1 => rw [e1] at e; cases e; exact ⟨_, pre_eq e1⟩
 | none =>
  rw [e1] at e
  dsimp only at e
  cases e2 : pPl r with
  | none => rw [e2] at e; cases e
  | some x =>
   rw [e2, Option.bind_some] at e
   cases e3 : pLs pPl (x.2.length + 1) x.2 with
   | none => rw [e3] at e; cases e
   | some y =>
    rw [e3] at e
    cases e
    obtain ⟨q, hq⟩ := pPl_ends _ _ _ e2
    obtain ⟨q2, hq2⟩ := pLs_ends pPl_ends _ _ _ _ e3
    exact ⟨q ++ q2, by rw [List.append_assoc, ← hq2, ← hq]⟩
section
variable {P: Program}{w: World}{K: PySem.W.Frag}{mg: Str → Option Value}{base: Heap}{f C cNoText: Addr}{fd: FuncData}{v1: Value}
def spP1 (C N : Addr) (g : PR) : Sp3 := fun ts Γ Z Y => ∃ a : Addr, ts = [.ref a] ∧ spRd C N g a Γ Z Y
abbrev s_place_in : Stmt := top 31
theorem sc_place_in : FnScope ["writing", "name", "way"] ["writing"] (defScope s_place_in) := ⟨rfl, rfl, rfl, by decide +kernel, rfl, by decide +kernel, by decide +kernel⟩
theorem ok_place_in (F : Fun K "place_in" "place_in" s_place_in f fd) (c_Writing_word : ClM P w K mg base C "word" 1 ["self"] (spWo0 C)) (c_Writing_skip : ClMx P w K mg base C "skip" 2 ["self", "piece"] (spSp C cNoText)) (c_kind_in : Clx P w K mg base "kind_in" 14 ["writing", "depth"] (spKi C cNoText 6)) (m_DEEPEST_KIND : mg "DEEPEST_KIND" = some v1) (g_DEEPEST_KIND : GlobIs v1 (.int 5)) : FnOk P w K mg base (CXe P w) 15 f fd ["writing"] (liSp (spP1 C cNoText pPl)) := by
 refine okdX F sc_place_in (fun ts Γ Z Y h => ?_) (fun cdv A outer s H E ts Γ Z Y hr h => ?_)
 ·obtain ⟨a, rfl, _⟩ := h
  rfl
 obtain ⟨a, rfl, dx, p, r, wr0, q, qE⟩ := h
 refine ⟨_, (qss_cons (qst (i := 1) sc_place_in.nd (qe_meth0 c_Writing_word hr (by omega) (qv 0)))
  (qss_cons (qs_expr (qe_methX c_Writing_skip hr (by omega) pass_def (qv 0) (qa_cons qe_str qa_nil)))
  (qss_cons (qst (i := 2) sc_place_in.nd (qe_meth0 c_Writing_word hr (by omega) (qv 0)))
  (qss_cons (qs_expr (qe_methX c_Writing_skip hr (by omega) pass_def (qv 0) (qa_cons qe_str qa_nil)))
  (qss_cons (qs_ret (qe_tup (qa_cons (qv 1) (qa_cons (qv 2) (qa_cons (qcx c_kind_in hr pass_def (qa_cons (qv 0) (qa_cons (qe_glob rfl m_DEEPEST_KIND g_DEEPEST_KIND) qa_nil))) qa_nil)))))
  qss_nil))))), ?_⟩
 simp only [start3]
 unfold eMethX
 have g := wr0.1
 have g' := g
 unfold wr at g
 and_intros
 refine ⟨a, dx, p, r.takeWhile goodc, r.dropWhile goodc, rfl, by rw [td]; exact g', by rw [td]; exact wr0.l, take_good r, drop_stop r, ?_⟩
 have et := td r
 have eF : pPl r = (pre [32] (r.dropWhile goodc)).bind fun r1 => (pre [32] (r1.dropWhile goodc)).bind fun r2 => (pKi 5 r2).bind fun x => some (.tup [.str (S (r.takeWhile goodc)), .str (S (r1.takeWhile goodc)), x.1], x.2) := rfl
 generalize r.takeWhile goodc = h at et eF ⊢
 generalize r.dropWhile goodc = r1 at et eF ⊢
 have w1 : Wr (up Γ a (wr C dx (p ++ h) r1)) C dx a (p ++ h) r1 := wr0.to up_same (by rw [List.append_assoc, et]) ⟨h, et.symm⟩
 have g1 : (up Γ a (wr C dx (p ++ h) r1)) a = some (.ins C dx [("text", .str (S (p ++ h ++ r1))), ("at", .int ((p ++ h).length : Nat))]) := up_same
 and_intros
 refine ⟨a, dx, p ++ h, [32], r1, by rw [e_sp], w1.1, w1.l, fun r2 e2 => ?_, fun e2 => ⟨_, .refl, qE (by rw [eF, pre_no e2]; rfl) _ kq_up⟩⟩
 rw [up_up]
 rw [pre_yes e2, Option.bind_some] at eF
 have w2 : Wr (up Γ a (wr C dx (p ++ h ++ [32]) r2)) C dx a (p ++ h ++ [32]) r2 := w1.to up_same (by rw [e2, List.append_assoc (p ++ h)]) ⟨[32], e2⟩
 have ep2 : p ++ h ++ [32] ++ r2 = p ++ r := by rw [← et, e2]; simp
 generalize p ++ h ++ [32] = p2 at w2 ep2 ⊢
 have g2 := w2.1
 unfold wr at g2
 and_intros
 refine ⟨a, dx, p2, r2.takeWhile goodc, r2.dropWhile goodc, rfl, by rw [td]; exact w2.1, by rw [td]; exact w2.l, take_good r2, drop_stop r2, ?_⟩
 have et3 := td r2
 generalize r2.takeWhile goodc = h3 at et3 eF ⊢
 generalize r2.dropWhile goodc = r3 at et3 eF ⊢
 rw [up_up]
 have w3 : Wr (up Γ a (wr C dx (p2 ++ h3) r3)) C dx a (p2 ++ h3) r3 := w2.to up_same (by rw [List.append_assoc, et3]) ⟨h3, et3.symm⟩
 have g3 := w3.1
 unfold wr at g3
 and_intros
 refine ⟨a, dx, p2 ++ h3, [32], r3, by rw [e_sp], w3.1, w3.l, fun r4 e4 => ?_, fun e4 => ⟨_, .refl, qE (by rw [eF, pre_no e4]; rfl) _ kq_up⟩⟩
 rw [up_up]
 rw [pre_yes e4, Option.bind_some] at eF
 have w4 : Wr (up Γ a (wr C dx (p2 ++ h3 ++ [32]) r4)) C dx a (p2 ++ h3 ++ [32]) r4 := w3.to up_same (by rw [e4, List.append_assoc (p2 ++ h3)]) ⟨[32], e4⟩
 have ep4 : p2 ++ h3 ++ [32] ++ r4 = p ++ r := by rw [← ep2, ← et3, e4]; simp
 and_intros
 refine ⟨a, 5, rfl, by omega, dx, _, r4, w4, fun t p' r' ek ep => ?_, fun ek Γ' kq => ⟨_, .refl, qE (by rw [eF, ek]; rfl) _ (kq_up.trans kq)⟩⟩
 rw [up_up]
 and_intros
 exact drop0 .refl (q _ p' r' (by rw [eF, ek]; rfl) (ep.trans ep4))
abbrev s_places_in : Stmt := top 30
theorem sc_places_in : FnScope ["writing", "places"] ["writing"] (defScope s_places_in) := ⟨rfl, rfl, rfl, by decide +kernel, rfl, by decide +kernel, by decide +kernel⟩
theorem ok_places_in (F : Fun K "places_in" "places_in" s_places_in f fd) (c_Writing_skip : ClMx P w K mg base C "skip" 2 ["self", "piece"] (spSp C cNoText)) (c_Writing_sees : ClM P w K mg base C "sees" 1 ["self", "piece"] (spSe C)) (c_place_in : Clx P w K mg base "place_in" 15 ["writing"] (spP1 C cNoText pPl)) (z_tuple : mg "tuple" = none) : FnOk P w K mg base (CXe P w) 16 f fd ["writing"] (liSp (spP1 C cNoText pPs)) := by
 refine okdX F sc_places_in (fun ts Γ Z Y h => ?_) (fun cdv A outer s H E ts Γ Z Y hr h => ?_)
 ·obtain ⟨a, rfl, _⟩ := h
  rfl
 obtain ⟨a, rfl, dx, p, r, wr0, q, qE⟩ := h
 refine ⟨_, (qss_cons (qs_if (qt_val (qe_meth c_Writing_sees hr (by omega) (qv 0) (qa_cons qe_str qa_nil))) (qss_cons (qs_ret (qe_tup qa_nil))
  qss_nil) qss_nil)
  (qss_cons (qst (i := 1) sc_places_in.nd (qe_lst (qa_cons (qcx c_place_in hr pass_def (qa_cons (qv 0) qa_nil)) qa_nil)))
  (qss_cons (qs_while own_def (qt_not (qt_val (qe_meth c_Writing_sees hr (by omega) (qv 0) (qa_cons qe_str qa_nil)))) (qss_cons (qs_expr (qe_methX c_Writing_skip hr (by omega) pass_def (qv 0) (qa_cons qe_str qa_nil)))
  (qss_cons (qs_expr (qe_bm PySem.F.plainAttrs_list PySem.F.slot_list_append PySem.F.type_list_append mq_append (qv 1) (qa_cons (qcx c_place_in hr pass_def (qa_cons (qv 0) qa_nil)) qa_nil)))
  qss_nil)))
  (qss_cons (qs_ret (qe_callTy cq_tuple rfl z_tuple bt_tuple (qa_cons (qv 1) qa_nil)))
  qss_nil)))), ?_⟩
 simp only [start3]
 unfold eMethX
 have g := wr0.1
 unfold wr at g
 and_intros
 refine ⟨a, dx, p, [41], r, by rw [e_cl], wr0.1, wr0.l, fun r1 e1 => ?_, fun e1 => ?_⟩
 ·and_intros
  exact drop0 .refl (q _ _ r1 (by unfold pPs; rw [pre_yes e1]) (by rw [e1]; simp))
 have eF : pPs r = (pPl r).bind fun x => (pLs pPl (x.2.length + 1) x.2).bind fun y => some (.tup (x.1 :: y.1), y.2) := by unfold pPs; rw [pre_no e1]
 and_intros
 refine ⟨a, rfl, dx, p, r, wr0, fun t1 p4 r4 ek ep4 => ?_, fun ek Γ' kq => ⟨_, .refl, qE (by rw [eF, ek]; rfl) _ kq⟩⟩
 rw [ek, Option.bind_some] at eF
 obtain ⟨q4, hq4⟩ := pPl_ends _ _ _ ek
 have w4 := wr0.to (Γ' := up Γ a (wr C dx p4 r4)) (p' := p4) (r' := r4) up_same ep4 ⟨q4, hq4⟩
 and_intros
 intro pf hpf; generalize ef : up _ pf (O.lst _) = Γf; have gf := al_g ef; have lf := al_l ef hpf
 have nf : a ≠ pf := gnn up_same hpf
 have bf : Γ pf = none := by rw [up_ne nf.symm] at hpf; exact hpf
 have wf : Wr Γf C dx a p4 r4 := ⟨lf _ _ w4.1, w4.2⟩
 have kqf : Kq [a] Γ Γf := kq_up.trans lf.kq
 clear lf ef w4
 and_intros
 refine ⟨fun m τ Γ' => ∃ (ts : List T) (p' r' : List Nat), τ = [some (.ref a), some (.ref pf)] ∧ Γ' pf = some (.lst ts) ∧ Wr Γ' C dx a p' r' ∧ p' ++ r' = p ++ r ∧ Kq [a] Γ Γ' ∧ r'.length < m ∧ ts.length + r'.length ≤ 100001 ∧ pPs r = (pLs pPl m r').bind fun y => some (.tup (ts ++ y.1), y.2), ⟨r4.length + 1, [t1], p4, r4, rfl, gf, wf, ep4, kqf, by omega, by have := wf.2.1; rw [List.length_append] at this; show 1 + _ ≤ _; omega, eF⟩, ?_⟩
 clear eF gf wf kqf ep4 hq4
 rintro m τ Γ' ⟨ts, p', r', rfl, gf, w5, ep5, kq5, lm, lt, eF⟩
 have g5 := w5.1
 unfold wr at g5
 obtain ⟨m, rfl⟩ : ∃ j, m = j + 1 := ⟨m - 1, by omega⟩
 rw [pLs] at eF
 and_intros
 refine ⟨a, dx, p', [41], r', by rw [e_cl], w5.1, w5.l, fun r6 e6 => ?_, fun e6 => ?_⟩
 ·rw [pre_yes e6] at eF
  simp only [Option.bind_some, List.append_nil] at eF
  and_intros
  refine ⟨.ref pf, _, rfl, it3_l (by rw [up_ne nf.symm]; exact gf), ?_⟩
  and_intros
  exact dropL1 (a := a) (o := wr C dx (p' ++ [41]) r6) (kq5.trans kq_up) up_same (q _ _ _ eF (by rw [← ep5, e6]; simp))
 rw [pre_no e6] at eF
 dsimp only at eF
 and_intros
 refine ⟨fun τ Γ' => ∃ (ts : List T) (p' r' : List Nat), τ = [some (.ref a), some (.ref pf)] ∧ Γ' pf = some (.lst ts) ∧ Wr Γ' C dx a p' r' ∧ p' ++ r' = p ++ r ∧ Kq [a] Γ Γ' ∧ r'.length < m ∧ ts.length + r'.length ≤ 100001 ∧ pPs r = (pLs pPl m r').bind fun y => some (.tup (ts ++ y.1), y.2), ?_, ?_⟩
 ·rintro τ Γ2 ⟨ts, p', r', h1⟩
  exact ⟨m, by omega, ts, p', r', h1⟩
 and_intros
 refine ⟨a, dx, p', [44, 32], r', by rw [e_com], w5.1, w5.l, fun r6 e7 => ?_, fun e7 => ⟨_, .refl, qE (by rw [eF, pre_no e7]; rfl) _ kq5⟩⟩
 rw [pre_yes e7, Option.bind_some] at eF
 have w6 : Wr (up Γ' a (wr C dx (p' ++ [44, 32]) r6)) C dx a (p' ++ [44, 32]) r6 := w5.to up_same (by rw [e7, List.append_assoc]) ⟨[44, 32], e7⟩
 have ep6 : p' ++ [44, 32] ++ r6 = p ++ r := by rw [← ep5, e7, List.append_assoc]
 have lr : r6.length + 2 = r'.length := by rw [e7]; simp
 generalize p' ++ [44, 32] = p6 at w6 ep6
 and_intros
 refine t_tyL (by rw [up_ne nf.symm]; exact gf) ?_
 and_intros
 refine ⟨a, rfl, dx, _, r6, w6, fun t7 p7 r7 ek ep => ?_, fun ek Γ7 kq => ⟨_, .refl, qE (by rw [eF, ek]; rfl) _ ((kq5.trans kq_up).trans kq)⟩⟩
 rw [ek, Option.bind_some] at eF
 obtain ⟨q7, hq7⟩ := pPl_ends _ _ _ ek
 have lr7 : r7.length ≤ r6.length := by rw [hq7, List.length_append]; omega
 rw [up_up]
 have gf7 : (up Γ' a (wr C dx p7 r7)) pf = some (.lst ts) := by rw [up_ne nf.symm]; exact gf
 refine ⟨pf, _, _, rfl, rfl, gf7, by rw [sizeLine_eq]; omega, ?_⟩
 and_intros
 refine ⟨ts ++ [t7], p7, r7, rfl, up_same, ?_, ep.trans ep6, ?_, by omega, by rw [List.length_append]; show _ + 1 + _ ≤ _; omega, ?_⟩
 ·exact w6.to (by rw [up_ne nf]; exact up_same) ep ⟨q7, hq7⟩
 ·intro b o nb hb
  have e : b ≠ pf := gnn hb bf
  have e2 : b ≠ a := by simpa using nb
  rw [up_ne e, up_ne e2]
  exact kq5 b o nb hb
 ·rw [eF]
  cases pLs pPl m r7 with
  | none => rfl
  | some y => simp
abbrev s_paper_in : Stmt := top 29
theorem sc_paper_in : FnScope ["writing", "name", "side", "places", "result"] ["writing"] (defScope s_paper_in) := ⟨rfl, rfl, rfl, by decide +kernel, rfl, by decide +kernel, by decide +kernel⟩
theorem ok_paper_in (F : Fun K "paper_in" "paper_in" s_paper_in f fd) (c_Writing_word : ClM P w K mg base C "word" 1 ["self"] (spWo0 C)) (c_Writing_skip : ClMx P w K mg base C "skip" 2 ["self", "piece"] (spSp C cNoText)) (c_Writing_sees : ClM P w K mg base C "sees" 1 ["self", "piece"] (spSe C)) (c_Writing_figure : ClMx P w K mg base C "figure" 2 ["self"] (spFg C cNoText)) (c_places_in : Clx P w K mg base "places_in" 16 ["writing"] (spP1 C cNoText pPs)) (c_kind_in : Clx P w K mg base "kind_in" 14 ["writing", "depth"] (spKi C cNoText 6)) (m_DEEPEST_KIND : mg "DEEPEST_KIND" = some v1) (g_DEEPEST_KIND : GlobIs v1 (.int 5)) : FnOk P w K mg base (CXe P w) 17 f fd ["writing"] (liSp (spP1 C cNoText pPa)) := by
 refine okdX F sc_paper_in (fun ts Γ Z Y h => ?_) (fun cdv A outer s H E ts Γ Z Y hr h => ?_)
 ·obtain ⟨a, rfl, _⟩ := h
  rfl
 obtain ⟨a, rfl, dx, p, r, wr0, q, qE⟩ := h
 refine ⟨_, (qss_cons (qs_expr (qe_methX c_Writing_skip hr (by omega) pass_def (qv 0) (qa_cons qe_str qa_nil)))
  (qss_cons (qst (i := 1) sc_paper_in.nd (qe_meth0 c_Writing_word hr (by omega) (qv 0)))
  (qss_cons (qs_expr (qe_methX c_Writing_skip hr (by omega) pass_def (qv 0) (qa_cons qe_str qa_nil)))
  (qss_cons (qst (i := 2) sc_paper_in.nd (qe_methX0 c_Writing_figure hr (by omega) pass_def (qv 0)))
  (qss_cons (qs_expr (qe_methX c_Writing_skip hr (by omega) pass_def (qv 0) (qa_cons qe_str qa_nil)))
  (qss_cons (qst (i := 3) sc_paper_in.nd (qcx c_places_in hr pass_def (qa_cons (qv 0) qa_nil)))
  (qss_cons (qs_expr (qe_methX c_Writing_skip hr (by omega) pass_def (qv 0) (qa_cons qe_str qa_nil)))
  (qss_cons (qst (i := 4) sc_paper_in.nd (qe_ifExp (qt_val (qe_meth c_Writing_sees hr (by omega) (qv 0) (qa_cons qe_str qa_nil))) qe_non (qcx c_kind_in hr pass_def (qa_cons (qv 0) (qa_cons (qe_glob rfl m_DEEPEST_KIND g_DEEPEST_KIND) qa_nil)))))
  (qss_cons (qs_ret (qe_tup (qa_cons (qv 1) (qa_cons (qv 2) (qa_cons (qv 3) (qa_cons (qv 4) qa_nil))))))
  qss_nil))))))))), ?_⟩
 simp only [start3]
 unfold eMethX
 have g := wr0.1
 unfold wr at g
 and_intros
 refine ⟨a, dx, p, cDoor, r, by rw [e_door], wr0.1, wr0.l, fun r1 e1 => ?_, fun e1 => ⟨_, .refl, qE (by unfold pPa; rw [pre_no e1]; rfl) _ .refl⟩⟩
 have w1 : Wr (up Γ a (wr C dx (p ++ cDoor) r1)) C dx a (p ++ cDoor) r1 := wr0.to up_same (by rw [e1, List.append_assoc]) ⟨cDoor, e1⟩
 have ep1 : p ++ cDoor ++ r1 = p ++ r := by rw [e1, List.append_assoc]
 have eF : pPa r = (pre [32] (r1.dropWhile goodc)).bind fun r2 => (figP r2).bind fun x => (pre [32, 40] x.2).bind fun r4 => (pPs r4).bind fun y => (pre [32] y.2).bind fun r6 => pRe (r1.takeWhile goodc) x.1 y.1 r6 := by unfold pPa; rw [pre_yes e1]; rfl
 generalize p ++ cDoor = p1 at w1 ep1 ⊢
 have g1 := w1.1
 unfold wr at g1
 and_intros
 refine ⟨a, dx, p1, r1.takeWhile goodc, r1.dropWhile goodc, rfl, by rw [td]; exact w1.1, by rw [td]; exact w1.l, take_good r1, drop_stop r1, ?_⟩
 have et := td r1
 generalize r1.takeWhile goodc = nm at et eF ⊢
 generalize r1.dropWhile goodc = r2 at et eF ⊢
 rw [up_up]
 have w2 : Wr (up Γ a (wr C dx (p1 ++ nm) r2)) C dx a (p1 ++ nm) r2 := w1.to up_same (by rw [List.append_assoc, et]) ⟨nm, et.symm⟩
 have ep2 : p1 ++ nm ++ r2 = p ++ r := by rw [← ep1, ← et, List.append_assoc]
 generalize p1 ++ nm = p2 at w2 ep2 ⊢
 have g2 := w2.1
 unfold wr at g2
 and_intros
 refine ⟨a, dx, p2, [32], r2, by rw [e_sp], w2.1, w2.l, fun r3 e3 => ?_, fun e3 => ⟨_, .refl, qE (by rw [eF, pre_no e3]; rfl) _ kq_up⟩⟩
 rw [up_up]
 rw [pre_yes e3, Option.bind_some] at eF
 have w3 : Wr (up Γ a (wr C dx (p2 ++ [32]) r3)) C dx a (p2 ++ [32]) r3 := w2.to up_same (by rw [e3, List.append_assoc]) ⟨[32], e3⟩
 have ep3 : p2 ++ [32] ++ r3 = p ++ r := by rw [← ep2, e3, List.append_assoc]
 generalize p2 ++ [32] = p3 at w3 ep3 ⊢
 have g3 := w3.1
 unfold wr at g3
 and_intros
 refine ⟨a, dx, p3, r3, rfl, w3.1, w3.l, w3.2.2, fun d r4 e4 d10 => ?_, fun no => ⟨_, .refl, qE (by rw [eF, figP_no no]; rfl) _ kq_up⟩⟩
 rw [up_up]
 rw [e4, figP_yes d10, Option.bind_some] at eF
 have w4 : Wr (up Γ a (wr C dx (p3 ++ [48 + d]) r4)) C dx a (p3 ++ [48 + d]) r4 := w3.to up_same (by rw [e4]; simp) ⟨[48 + d], e4⟩
 have ep4 : p3 ++ [48 + d] ++ r4 = p ++ r := by rw [← ep3, e4]; simp
 generalize p3 ++ [48 + d] = p4 at w4 ep4 ⊢
 have g4 := w4.1
 unfold wr at g4
 and_intros
 refine ⟨a, dx, p4, [32, 40], r4, by rw [e_sop], w4.1, w4.l, fun r5 e5 => ?_, fun e5 => ⟨_, .refl, qE (by rw [eF, pre_no e5]; rfl) _ kq_up⟩⟩
 rw [up_up]
 rw [pre_yes e5, Option.bind_some] at eF
 have w5 : Wr (up Γ a (wr C dx (p4 ++ [32, 40]) r5)) C dx a (p4 ++ [32, 40]) r5 := w4.to up_same (by rw [e5, List.append_assoc]) ⟨[32, 40], e5⟩
 have ep5 : p4 ++ [32, 40] ++ r5 = p ++ r := by rw [← ep4, e5, List.append_assoc]
 generalize p4 ++ [32, 40] = p5 at w5 ep5 ⊢
 and_intros
 refine ⟨a, rfl, dx, _, r5, w5, fun ty p6 r6 ek ep => ?_, fun ek Γ' kq => ⟨_, .refl, qE (by rw [eF, ek]; rfl) _ (kq_up.trans kq)⟩⟩
 rw [up_up]
 rw [ek, Option.bind_some] at eF
 have ep6 : p6 ++ r6 = p ++ r := ep.trans ep5
 have w6 := w5.to (Γ' := up Γ a (wr C dx p6 r6)) (p' := p6) (r' := r6) up_same ep (pPs_ends _ _ _ ek)
 have g6 := w6.1
 unfold wr at g6
 and_intros
 refine ⟨a, dx, p6, [32], r6, by rw [e_sp], w6.1, w6.l, fun r7 e7 => ?_, fun e7 => ⟨_, .refl, qE (by rw [eF, pre_no e7]; rfl) _ kq_up⟩⟩
 rw [up_up]
 rw [pre_yes e7, Option.bind_some] at eF
 have w7 : Wr (up Γ a (wr C dx (p6 ++ [32]) r7)) C dx a (p6 ++ [32]) r7 := w6.to up_same (by rw [e7, List.append_assoc]) ⟨[32], e7⟩
 have ep7 : p6 ++ [32] ++ r7 = p ++ r := by rw [← ep6, e7, List.append_assoc]
 generalize p6 ++ [32] = p7 at w7 ep7 ⊢
 have g7 := w7.1
 unfold wr at g7
 unfold pRe at eF
 and_intros
 refine ⟨a, dx, p7, cNone, r7, by rw [e_none], w7.1, w7.l, fun r8 e8 => ?_, fun e8 => ?_⟩
 ·rw [up_up]
  rw [pre_yes e8] at eF
  and_intros
  exact drop0 .refl (q _ _ r8 eF (by rw [← ep7, e8, List.append_assoc]))
 ·rw [pre_no e8] at eF
  dsimp only at eF
  and_intros
  refine ⟨a, 5, rfl, by omega, dx, _, r7, w7, fun t p' r' ek ep => ?_, fun ek Γ' kq => ⟨_, .refl, qE (by rw [eF, ek]; rfl) _ (kq_up.trans kq)⟩⟩
  rw [up_up]
  and_intros
  exact drop0 .refl (q _ p' r' (by rw [eF, ek]; rfl) (ep.trans ep7))
end
theorem ends_len {f : PR} (h : Ends' f) {r : List Nat} {t : T} {r' : List Nat} (e : f r = some (t, r')) : r'.length ≤ r.length := by
 obtain ⟨q, hq⟩ := h r t r' e
 rw [hq, List.length_append]
 omega
theorem pLs_len {f : PR} (h : Ends' f) : ∀ (n : Nat) (r : List Nat) (ts : List T) (r' : List Nat), pLs f n r = some (ts, r') → ts.length ≤ r.length
 | 0, r, t, r', e => by cases e
 | n + 1, r, t, r', e => by
  rw [pLs] at e
  cases e0 : pre [41] r with
  | some r1 => rw [e0] at e; cases e; exact Nat.zero_le _
  | none =>
   rw [e0] at e
   cases e1 : pre [44, 32] r with
   | none => rw [e1] at e; cases e
   | some r1 =>
    simp only [e1, Option.bind_some] at e
    cases e2 : f r1 with
    | none => rw [e2] at e; cases e
    | some x =>
     rw [e2, Option.bind_some] at e
     cases e3 : pLs f n x.2 with
     | none => rw [e3] at e; cases e
     | some y =>
      rw [e3] at e
      cases e
      have h1 := pLs_len h n x.2 y.1 y.2 e3
      have h2 := ends_len h (t := x.1) (r' := x.2) e2
      rw [pre_eq e1, List.length_append, List.length_cons]
      show _ ≤ 2 + _
      omega
theorem pLs_all {f : PR} {p : T → Prop} {B : Nat} (h : Ends' f) (hp : ∀ r t r', f r = some (t, r') → r.length ≤ B → p t) : ∀ (n : Nat) (r : List Nat) (ts : List T) (r' : List Nat), pLs f n r = some (ts, r') → r.length ≤ B → ∀ t ∈ ts, p t
 | 0, r, t, r', e, _ => by cases e
 | n + 1, r, t, r', e, l => by
  rw [pLs] at e
  cases e0 : pre [41] r with
  | some r1 => rw [e0] at e; cases e; exact fun t ht => nomatch ht
  | none =>
   rw [e0] at e
   cases e1 : pre [44, 32] r with
   | none => rw [e1] at e; cases e
   | some r1 =>
    simp only [e1, Option.bind_some] at e
    cases e2 : f r1 with
    | none => rw [e2] at e; cases e
    | some x =>
     rw [e2, Option.bind_some] at e
     cases e3 : pLs f n x.2 with
     | none => rw [e3] at e; cases e
     | some y =>
      rw [e3] at e
      cases e
      have l1 : r1.length ≤ B := by
       rw [pre_eq e1, List.length_append] at l; omega
      have h2 := ends_len h (t := x.1) (r' := x.2) e2
      intro t ht
      rcases List.mem_cons.mp ht with rfl | ht
      ·exact hp r1 _ _ e2 l1
      ·exact pLs_all h hp n x.2 y.1 y.2 e3 (by omega) t ht
theorem tw_len (r : List Nat) : (r.takeWhile goodc).length + (r.dropWhile goodc).length = r.length := by
 rw [← List.length_append, td]
theorem pt_fd {Γ : Gp} {f : PR} {B : Nat} (hB : B ≤ 100000) (hp : ∀ r t r', f r = some (t, r') → r.length ≤ B → Pt Γ t) : ∀ r t r', pFd f r = some (t, r') → r.length ≤ B → Pt Γ t := fun r t r' e l => by
 unfold pFd at e
 have tl := tw_len r
 cases e1 : pre [32] (r.dropWhile goodc) with
 | none => rw [e1] at e; cases e
 | some r1 =>
  rw [e1] at e
  have l1 := congrArg List.length (pre_eq e1)
  rw [List.length_append] at l1
  cases e2 : f r1 with
  | none => rw [Option.bind_some, e2] at e; cases e
  | some x =>
   rw [Option.bind_some, e2] at e
   cases e
   refine .tup (by show 2 ≤ 100000; decide) fun t ht => ?_
   simp only [List.mem_cons, List.not_mem_nil, or_false] at ht
   rcases ht with rfl | rfl
   ·exact .str (by rw [S_len]; omega)
   ·exact hp r1 _ _ e2 (by omega)
theorem pt2 {Γ : Gp} {a b : T} (ha : Pt Γ a) (hb : Pt Γ b) : Pt Γ (.tup [a, b]) := .tup (by show 2 ≤ 100000; decide) fun t ht => by
 simp only [List.mem_cons, List.not_mem_nil, or_false] at ht
 rcases ht with rfl | rfl
 ·exact ha
 ·exact hb
theorem pt_fig {Γ : Gp} {r : List Nat} {t : T} {r' : List Nat} (e : figP r = some (t, r')) : Pt Γ t := by
 cases r with
 | nil => cases e
 | cons c r =>
  rw [figP_cons] at e
  split at e
  ·cases e; exact .int _
  ·cases e
theorem pt_ki {Γ : Gp} : ∀ (d : Nat) (r : List Nat) (t : T) (r' : List Nat), pKi d r = some (t, r') → r.length ≤ 100000 → Pt Γ t
  | 0, r, t, r', e, _ => by cases e
  | d + 1, r, t, r', e, l => by
    have ih := pt_ki (Γ := Γ) d
    have tl := tw_len r
    have e : pKh (pKi d) (r.takeWhile goodc) (r.dropWhile goodc) = some (t, r') := e
    generalize r.takeWhile goodc = h at e tl
    generalize r.dropWhile goodc = r1 at e tl
    unfold pKh at e
    split at e
    · cases e
      exact .tup (by show 1 ≤ 100000; decide) fun t ht => by rw [List.mem_singleton.mp ht]; exact .str (by rw [S_len]; decide)
    all_goals
      cases e1 : pre [32] r1 with
      | none => simp [e1] at e
      | some r2 =>
        have l1 := congrArg List.length (pre_eq e1)
        rw [List.length_append] at l1
        simp only [e1, Option.bind_some] at e
        first
          | (split at e
             · cases e2 : figP r2 with
               | none => rw [e2] at e; cases e
               | some x =>
                 rw [e2] at e; cases e
                 exact pt2 (.str (by rw [S_len]; decide)) (pt_fig e2)
             split at e
             · cases e2 : pKi d r2 with
               | none => rw [e2] at e; cases e
               | some x =>
                 rw [e2] at e; cases e
                 exact pt2 (.str (by rw [S_len]; decide)) (ih _ _ _ e2 (by omega))
             split at e
             · cases e3 : pre [40] r2 with
               | none => rw [e3] at e; cases e
               | some r3 =>
                 have l2 := congrArg List.length (pre_eq e3)
                 rw [List.length_append] at l2
                 have l2 : r2.length = 1 + r3.length := l2
                 simp only [e3, Option.bind_some] at e
                 cases e4 : pFd (pKi d) r3 with
                 | none => rw [e4] at e; cases e
                 | some x =>
                   rw [e4, Option.bind_some] at e
                   cases e5 : pLs (pFd (pKi d)) (x.2.length + 1) x.2 with
                   | none => rw [e5] at e; cases e
                   | some y =>
                     rw [e5] at e; cases e
                     have en := pFd_ends (pKi_ends d)
                     have l4 := ends_len en (t := x.1) (r' := x.2) e4
                     have l5 := pLs_len en _ _ _ _ e5
                     have f1 := pt_fd (Γ := Γ) (Nat.le_refl _) ih
                     refine pt2 (.str (by rw [S_len]; omega)) (.tup (by rw [List.length_cons]; omega) fun t ht => ?_)
                     rcases List.mem_cons.mp ht with rfl | ht
                     · exact f1 _ _ _ e4 (by omega)
                     · exact pLs_all en f1 _ _ _ _ e5 (by omega) t ht
             · cases e)
theorem pt_pl {Γ : Gp} : ∀ r t r', pPl r = some (t, r') → r.length ≤ 100000 → Pt Γ t := fun r t r' e l => by
 unfold pPl at e
 have tl := tw_len r
 cases e1 : pre [32] (r.dropWhile goodc) with
 | none => rw [e1] at e; cases e
 | some r1 =>
  rw [e1, Option.bind_some] at e
  have l1 := congrArg List.length (pre_eq e1)
  rw [List.length_append] at l1
  have tl1 := tw_len r1
  cases e2 : pre [32] (r1.dropWhile goodc) with
  | none => rw [e2] at e; cases e
  | some r2 =>
   rw [e2, Option.bind_some] at e
   have l2 := congrArg List.length (pre_eq e2)
   rw [List.length_append] at l2
   cases e3 : pKi 5 r2 with
   | none => rw [e3] at e; cases e
   | some x =>
    rw [e3] at e
    cases e
    refine .tup (by show 3 ≤ 100000; decide) fun t ht => ?_
    simp only [List.mem_cons, List.not_mem_nil, or_false] at ht
    rcases ht with rfl | rfl | rfl
    ·exact .str (by rw [S_len]; omega)
    ·exact .str (by rw [S_len]; omega)
    ·exact pt_ki 5 _ _ _ e3 (by omega)
theorem pt_ps {Γ : Gp} : ∀ r t r', pPs r = some (t, r') → r.length + 1 ≤ 100000 → Pt Γ t := fun r t r' e l => by
 unfold pPs at e
 cases e1 : pre [41] r with
 | some r1 => rw [e1] at e; cases e; exact .tup (by show 0 ≤ 100000; decide) fun t ht => nomatch ht
 | none =>
  rw [e1] at e
  dsimp only at e
  cases e2 : pPl r with
  | none => rw [e2] at e; cases e
  | some x =>
   rw [e2, Option.bind_some] at e
   have l2 := ends_len pPl_ends (t := x.1) (r' := x.2) e2
   cases e3 : pLs pPl (x.2.length + 1) x.2 with
   | none => rw [e3] at e; cases e
   | some y =>
    rw [e3] at e
    cases e
    have l3 := pLs_len pPl_ends _ _ _ _ e3
    refine .tup (by rw [List.length_cons]; omega) fun t ht => ?_
    rcases List.mem_cons.mp ht with rfl | ht
    ·exact pt_pl _ _ _ e2 (by omega)
    ·exact pLs_all pPl_ends pt_pl _ _ _ _ e3 (by omega) t ht
theorem pt4 {Γ : Gp} {a b c d : T} (ha : Pt Γ a) (hb : Pt Γ b) (hc : Pt Γ c) (hd : Pt Γ d) : Pt Γ (.tup [a, b, c, d]) := .tup (by show 4 ≤ 100000; decide) fun t ht => by
 simp only [List.mem_cons, List.not_mem_nil, or_false] at ht
 rcases ht with rfl | rfl | rfl | rfl
 ·exact ha
 ·exact hb
 ·exact hc
 ·exact hd
theorem pt_pa {Γ : Gp} {r : List Nat} {t : T} {r' : List Nat} (e : pPa r = some (t, r')) (l : r.length ≤ 100000) : Pt Γ t := by
 unfold pPa at e
 cases e0 : pre cDoor r with
 | none => rw [e0] at e; cases e
 | some r1 =>
  rw [e0, Option.bind_some] at e
  have l0 := congrArg List.length (pre_eq e0)
  rw [List.length_append] at l0
  have l0 : r.length = 5 + r1.length := l0
  have tl := tw_len r1
  cases e1 : pre [32] (r1.dropWhile goodc) with
  | none => rw [e1] at e; cases e
  | some r2 =>
   rw [e1, Option.bind_some] at e
   have l1 := congrArg List.length (pre_eq e1)
   rw [List.length_append] at l1
   cases e2 : figP r2 with
   | none => rw [e2] at e; cases e
   | some x =>
    rw [e2, Option.bind_some] at e
    have l2 := ends_len figP_ends (t := x.1) (r' := x.2) e2
    cases e3 : pre [32, 40] x.2 with
    | none => rw [e3] at e; cases e
    | some r4 =>
     rw [e3, Option.bind_some] at e
     have l3 := congrArg List.length (pre_eq e3)
     rw [List.length_append] at l3
     cases e4 : pPs r4 with
     | none => rw [e4] at e; cases e
     | some y =>
      rw [e4, Option.bind_some] at e
      have l4 := ends_len pPs_ends (t := y.1) (r' := y.2) e4
      cases e5 : pre [32] y.2 with
      | none => rw [e5] at e; cases e
      | some r6 =>
       rw [e5, Option.bind_some] at e
       have l5 := congrArg List.length (pre_eq e5)
       rw [List.length_append] at l5
       have s1 : Pt Γ (.str (S (r1.takeWhile goodc))) := .str (by rw [S_len]; omega)
       have s2 := pt_fig (Γ := Γ) e2
       have s3 := pt_ps (Γ := Γ) _ _ _ e4 (by omega)
       unfold pRe at e
       cases e6 : pre cNone r6 with
       | some r7 => rw [e6] at e; cases e; exact pt4 s1 s2 s3 .non
       | none =>
        rw [e6] at e
        dsimp only at e
        cases e7 : pKi 5 r6 with
        | none => rw [e7] at e; cases e
        | some z =>
         rw [e7] at e
         cases e
         exact pt4 s1 s2 s3 (pt_ki 5 _ _ _ e7 (by omega))
def rdB (f : PR) (B : T → Bool) (l : List Nat) : Option T := (f l).bind fun x => if x.2 = [] ∧ B x.1 = true then some x.1 else none
theorem rdB_some {f : PR} {B : T → Bool} {l : List Nat} {t : T} : rdB f B l = some t ↔ f l = some (t, []) ∧ B t = true := by
 unfold rdB
 cases e : f l with
 | none => simp
 | some x =>
  obtain ⟨u, r⟩ := x
  simp only [Option.bind_some, Option.some.injEq, Prod.mk.injEq]
  constructor
  ·intro h
   split at h
   ·rename_i c; cases h; exact ⟨⟨rfl, c.1⟩, c.2⟩
   ·cases h
  ·rintro ⟨⟨rfl, rfl⟩, h⟩
   rw [if_pos ⟨rfl, h⟩]
section
variable {P: Program}{w: World}{K: PySem.W.Frag}{mg: Str → Option Value}{base: Heap}{f C cNoText: Addr}{fd: FuncData}{v1: Value}
abbrev s_read_kind : Stmt := top 24
theorem sc_read_kind : FnScope ["text", "writing", "kind"] ["text"] (defScope s_read_kind) := ⟨rfl, rfl, rfl, by decide +kernel, rfl, by decide +kernel, by decide +kernel⟩
def spRk (N : Addr) : Sp3 := fun ts Γ Z Y => ∃ l : List Nat, ts = [.str (S l)] ∧ l.length ≤ 99999 ∧ (∀ c ∈ l, c < 128) ∧ (∀ t, rdB (pKi 5) (kwB 5) l = some t → Z t Γ) ∧ (rdB (pKi 5) (kwB 5) l = none → Y (.ref N) Γ)
theorem ok_read_kind (F : Fun K "read_kind" "read_kind" s_read_kind f fd) (m_Writing : mg "Writing" = some (.ref C)) (c_Writing : ClI P w K mg base C 1 ["self", "text"] (spWi0 C)) (c_Writing_is_over : ClM P w K mg base C "is_over" 1 ["self"] (spOv C)) (c_kind_in : Clx P w K mg base "kind_in" 14 ["writing", "depth"] (spKi C cNoText 6)) (c_is_kind : Cl3 P w K mg base "is_kind" 20 ["thing"] spIk) (m_DEEPEST_KIND : mg "DEEPEST_KIND" = some v1) (g_DEEPEST_KIND : GlobIs v1 (.int 5)) (m_NoText : mg "NoText" = some (.ref cNoText)) (x_NoText : PySem.W.excIn K cNoText [.type "ValueError", .type "Exception", .type "BaseException", .type "object"] "ValueError.__new__" = true) : FnOk P w K mg base (CXe P w) 21 f fd ["text"] (liSp (spRk cNoText)) := by
 refine okdX F sc_read_kind (fun ts Γ Z Y h => ?_) (fun cdv A outer s H E ts Γ Z Y hr h => ?_)
 ·obtain ⟨k, rfl, _⟩ := h
  rfl
 obtain ⟨l, rfl, ll, asc, q, qE⟩ := h
 refine ⟨_, (qss_cons (qst (i := 1) sc_read_kind.nd (qe_make c_Writing hr (by omega) rfl m_Writing (qa_cons (qv 0) qa_nil)))
  (qss_cons (qst (i := 2) sc_read_kind.nd (qcx c_kind_in hr pass_def (qa_cons (qv 1) (qa_cons (qe_glob rfl m_DEEPEST_KIND g_DEEPEST_KIND) qa_nil))))
  (qss_cons (qs_if (PW.pt (qw_or (qt_not (qt_val (qe_meth0 c_Writing_is_over hr (by omega) (qv 1)))) (qw_or1 (qt_not (qt_val (qcl c_is_kind hr (qa_cons (qv 2) qa_nil))))))) (qss_cons (qs_raise rfl rfl m_NoText x_NoText PySem.F.excBase_ValueError (qa_cons qe_str qa_nil) raise_def)
  qss_nil) qss_nil)
  (qss_cons (qs_ret (qv 2))
  qss_nil)))), ?_⟩
 simp only [start3]
 have sl := sizeLine_eq
 and_intros
 intro x dx hx hdx ne
 refine ⟨x, dx, l, rfl, up_same, rfl, ?_⟩
 rw [up_up]
 have w0 : Wr (up Γ x (wr C dx [] l)) C dx x [] l := ⟨up_same, by rw [List.nil_append]; omega, asc⟩
 and_intros
 refine ⟨x, 5, rfl, by omega, dx, [], l, w0, fun t p' r' ek ep => ?_, fun ek Γ' kq => ⟨Γ, ?_, qE (by unfold rdB; rw [ek]; rfl)⟩⟩
 rotate_left
 ·intro b o hb
  exact kq b o (by simpa using gnn hb hx) (by rw [up_ne (gnn hb hx)]; exact hb)
 rw [up_up]
 have w1 := w0.to (Γ' := up Γ x (wr C dx p' r')) (p' := p') (r' := r') up_same ep (pKi_ends 5 _ _ _ ek)
 have g1 := w1.1
 unfold wr at g1
 have eR : rdB (pKi 5) (kwB 5) l = if r' = [] ∧ kwB 5 t = true then some t else none := by unfold rdB; rw [ek]; rfl
 have lu : Le Γ (up Γ x (wr C dx p' r')) := .new hx
 and_intros
 refine ⟨x, dx, p', r', rfl, w1.1, w1.l, ?_⟩
 by_cases c : r' = []
 ·rw [decide_eq_true c]
  and_intros
  refine ⟨t, rfl, pt_ki 5 _ _ _ ek (by omega), ?_⟩
  by_cases c2 : kwB 5 t = true
  ·rw [c2]
   and_intros
   exact drop0 lu (q t (by rw [eR, if_pos ⟨c, c2⟩]))
  ·rw [show kwB 5 t = false by simpa using c2]
   and_intros
   exact ⟨_, lu, qE (by rw [eR, if_neg fun k => c2 k.2])⟩
 ·rw [decide_eq_false c]
  and_intros
  exact ⟨_, lu, qE (by rw [eR, if_neg fun k => c k.1])⟩
abbrev s_read_paper : Stmt := top 25
theorem sc_read_paper : FnScope ["text", "writing", "paper"] ["text"] (defScope s_read_paper) := ⟨rfl, rfl, rfl, by decide +kernel, rfl, by decide +kernel, by decide +kernel⟩
def spRp (N : Addr) : Sp3 := fun ts Γ Z Y => ∃ l : List Nat, ts = [.str (S l)] ∧ l.length ≤ 99999 ∧ (∀ c ∈ l, c < 128) ∧ (∀ x y us d, pPa l = some (.tup [x, y, .tup us, d], []) → us.length ≤ 999) ∧ (∀ t, rdB pPa paB l = some t → Z t Γ) ∧ (rdB pPa paB l = none → Y (.ref N) Γ)
theorem ok_read_paper (F : Fun K "read_paper" "read_paper" s_read_paper f fd) (m_Writing : mg "Writing" = some (.ref C)) (c_Writing : ClI P w K mg base C 1 ["self", "text"] (spWi0 C)) (c_Writing_is_over : ClM P w K mg base C "is_over" 1 ["self"] (spOv C)) (c_paper_in : Clx P w K mg base "paper_in" 17 ["writing"] (spP1 C cNoText pPa)) (c_is_paper : Cl3 P w K mg base "is_paper" 23 ["thing"] spIp) (m_NoText : mg "NoText" = some (.ref cNoText)) (x_NoText : PySem.W.excIn K cNoText [.type "ValueError", .type "Exception", .type "BaseException", .type "object"] "ValueError.__new__" = true) : FnOk P w K mg base (CXe P w) 24 f fd ["text"] (liSp (spRp cNoText)) := by
 refine okdX F sc_read_paper (fun ts Γ Z Y h => ?_) (fun cdv A outer s H E ts Γ Z Y hr h => ?_)
 ·obtain ⟨k, rfl, _⟩ := h
  rfl
 obtain ⟨l, rfl, ll, asc, few, q, qE⟩ := h
 refine ⟨_, (qss_cons (qst (i := 1) sc_read_paper.nd (qe_make c_Writing hr (by omega) rfl m_Writing (qa_cons (qv 0) qa_nil)))
  (qss_cons (qst (i := 2) sc_read_paper.nd (qcx c_paper_in hr pass_def (qa_cons (qv 1) qa_nil)))
  (qss_cons (qs_if (PW.pt (qw_or (qt_not (qt_val (qe_meth0 c_Writing_is_over hr (by omega) (qv 1)))) (qw_or1 (qt_not (qt_val (qcl c_is_paper hr (qa_cons (qv 2) qa_nil))))))) (qss_cons (qs_raise rfl rfl m_NoText x_NoText PySem.F.excBase_ValueError (qa_cons qe_str qa_nil) raise_def)
  qss_nil) qss_nil)
  (qss_cons (qs_ret (qv 2))
  qss_nil)))), ?_⟩
 simp only [start3]
 have sl := sizeLine_eq
 and_intros
 intro x dx hx hdx ne
 refine ⟨x, dx, l, rfl, up_same, rfl, ?_⟩
 rw [up_up]
 have w0 : Wr (up Γ x (wr C dx [] l)) C dx x [] l := ⟨up_same, by rw [List.nil_append]; omega, asc⟩
 and_intros
 refine ⟨x, rfl, dx, [], l, w0, fun t p' r' ek ep => ?_, fun ek Γ' kq => ⟨Γ, ?_, qE (by unfold rdB; rw [ek]; rfl)⟩⟩
 rotate_left
 ·intro b o hb
  exact kq b o (by simpa using gnn hb hx) (by rw [up_ne (gnn hb hx)]; exact hb)
 rw [up_up]
 have g1 : (up Γ x (wr C dx p' r')) x = some (.ins C dx [("text", .str (S (p' ++ r'))), ("at", .int (p'.length : Nat))]) := up_same
 have eR : rdB pPa paB l = if r' = [] ∧ paB t = true then some t else none := by unfold rdB; rw [ek]; rfl
 have lu : Le Γ (up Γ x (wr C dx p' r')) := .new hx
 and_intros
 refine ⟨x, dx, p', r', rfl, up_same, by rw [ep, List.nil_append]; omega, ?_⟩
 by_cases c : r' = []
 ·rw [decide_eq_true c]
  subst c
  and_intros
  refine ⟨t, rfl, pt_pa ek (by omega), fun a b us d e => few a b us d (by rw [ek, e]), ?_⟩
  by_cases c2 : paB t = true
  ·rw [c2]
   and_intros
   exact drop0 lu (q t (by rw [eR, if_pos ⟨rfl, c2⟩]))
  ·rw [show paB t = false by simpa using c2]
   and_intros
   exact ⟨_, lu, qE (by rw [eR, if_neg fun k => c2 k.2])⟩
 ·rw [decide_eq_false c]
  and_intros
  exact ⟨_, lu, qE (by rw [eR, if_neg fun k => c k.1])⟩
end
end Tg
set_option Elab.async false
set_option linter.all false
set_option maxRecDepth 100000
set_option maxHeartbeats 4000000
namespace Tg
open PySem L2 L3
mutual
def Kd.sh : Kd → List Nat
 | .num w => [110, 117, 109, 32] ++ [48 + w.toNat]
 | .text => [116, 101, 120, 116]
 | .row k => [114, 111, 119, 32] ++ k.sh
 | .rec_ fs => [114, 101, 99] ++ [32, 40] ++ joinL [44, 32] (shF fs) ++ [41]
 | .pick fs => [112, 105, 99, 107] ++ [32, 40] ++ joinL [44, 32] (shF fs) ++ [41]
def shF : List (Str × Kd) → List (List Nat)
 | [] => []
 | (n, k) :: r => (n.cps.toList ++ [32] ++ k.sh) :: shF r
end
theorem shF_map : ∀ fs : List (Str × Kd), shF fs = fs.map fun p => p.1.cps.toList ++ [32] ++ p.2.sh
 | [] => rfl
 | (n, k) :: r => by rw [shF, shF_map r]; rfl
theorem stop_sp {r : List Nat} : Stop (32 :: r) := .inr ⟨32, r, rfl, by decide +kernel⟩
theorem stop_com {r : List Nat} : Stop (44 :: r) := .inr ⟨44, r, rfl, by decide +kernel⟩
theorem stop_cl {r : List Nat} : Stop (41 :: r) := .inr ⟨41, r, rfl, by decide +kernel⟩
def tlU (rs : List (Str × Kd)) : List Nat := ((shF rs).map fun y => [44, 32] ++ y).flatten
theorem tlU_cons (n : Str) (k : Kd) (r : List (Str × Kd)) : tlU ((n, k) :: r) = [44, 32] ++ ((n.cps.toList ++ [32] ++ k.sh) ++ tlU r) := by
 unfold tlU
 rw [shF, List.map_cons, List.flatten_cons, List.append_assoc]
theorem join_cons (n : Str) (k : Kd) (r : List (Str × Kd)) : joinL [44, 32] (shF ((n, k) :: r)) = (n.cps.toList ++ [32] ++ k.sh) ++ tlU r := by
 rw [shF]
 rfl
theorem stop_tl (rs : List (Str × Kd)) (r : List Nat) : Stop (tlU rs ++ (41 :: r)) := by
 cases rs with
 | nil => exact stop_cl
 | cons x rs => obtain ⟨n, k⟩ := x; rw [tlU_cons]; exact stop_com
mutual
def Kd.wf : Kd → Prop
 | .num w => 0 ≤ w ∧ w ≤ 9
 | .text => True
 | .row k => k.wf
 | .rec_ fs => wfF fs ∧ fs ≠ []
 | .pick fs => wfF fs ∧ fs ≠ []
def wfF : List (Str × Kd) → Prop
 | [] => True
 | (n, k) :: r => (∀ c ∈ n.cps.toList, goodc c = true) ∧ k.wf ∧ wfF r
end
theorem pre32 {r : List Nat} : pre [32] (32 :: r) = some r := pre_yes rfl
theorem pre40 {r : List Nat} : pre [40] (40 :: r) = some r := pre_yes rfl
theorem pre41 {r : List Nat} : pre [41] (41 :: r) = some r := pre_yes rfl
theorem pre4432 {r : List Nat} : pre [44, 32] (44 :: 32 :: r) = some r := pre_yes rfl
theorem tw_word {h r : List Nat} (hg : ∀ c ∈ h, goodc c = true) (st : Stop r) : (h ++ r).takeWhile goodc = h ∧ (h ++ r).dropWhile goodc = r := by
 induction h with
 | nil =>
  rcases st with rfl | ⟨c, r', rfl, hc⟩
  ·exact ⟨rfl, rfl⟩
  ·simp [hc]
 | cons c h ih =>
  have hc := hg c (by simp)
  obtain ⟨a, b⟩ := ih fun x hx => hg x (by simp [hx])
  rw [List.cons_append, List.takeWhile_cons, List.dropWhile_cons, hc]
  exact ⟨by simp [a], by simp [b]⟩
theorem pKi_app {d : Nat} {h r : List Nat} (hg : ∀ c ∈ h, goodc c = true) (st : Stop r) : pKi (d + 1) (h ++ r) = pKh (pKi d) h r := by
 obtain ⟨a, b⟩ := tw_word hg st
 show pKh (pKi d) ((h ++ r).takeWhile goodc) ((h ++ r).dropWhile goodc) = _
 rw [a, b]
theorem pFd_app {f : PR} {h r : List Nat} (hg : ∀ c ∈ h, goodc c = true) : pFd f (h ++ (32 :: r)) = (f r).bind fun x => some (.tup [.str (S h), x.1], x.2) := by
 obtain ⟨a, b⟩ := tw_word hg (stop_sp (r := r))
 unfold pFd
 rw [a, b, pre32]
 rfl
theorem g_text : ∀ c ∈ cText, goodc c = true := by decide +kernel
theorem g_num : ∀ c ∈ cNum, goodc c = true := by decide +kernel
theorem g_row : ∀ c ∈ cRow, goodc c = true := by decide +kernel
theorem g_rec : ∀ c ∈ cRec, goodc c = true := by decide +kernel
theorem g_pick : ∀ c ∈ cPick, goodc c = true := by decide +kernel
theorem pKh_rec {f : PR} {h r : List Nat} (hh : h = cRec ∨ h = cPick) : pKh f h (32 :: 40 :: r) = (pFd f r).bind fun x => (pLs (pFd f) (x.2.length + 1) x.2).bind fun y => some (.tup [.str (S h), .tup (x.1 :: y.1)], y.2) := by
 unfold pKh
 rw [if_neg (by rcases hh with rfl | rfl <;> decide), if_neg (by rcases hh with rfl | rfl <;> decide), if_neg (by rcases hh with rfl | rfl <;> decide), if_pos hh, pre32, Option.bind_some, pre40]
 rfl
theorem pKh_row {f : PR} {r : List Nat} : pKh f cRow (32 :: r) = (f r).bind fun x => some (.tup [.str (S cRow), x.1], x.2) := by
 unfold pKh
 rw [if_neg (by decide), if_neg (by decide), if_pos rfl, pre32]
 rfl
theorem pre_ne {q r : List Nat} {c x : Nat} (h : c ≠ x) : pre (c :: q) (x :: r) = none := pre_no fun e => by
 rw [List.length_cons, List.take_succ_cons] at e
 exact h (List.cons.inj e).1.symm
theorem pre_nil {q : List Nat} {c : Nat} : pre (c :: q) [] = none := pre_no fun e => by simp at e
theorem pLs_cl {f : PR} {n : Nat} {r : List Nat} : pLs f (n + 1) (41 :: r) = some ([], r) := by
 rw [pLs, pre41]
theorem pLs_com {f : PR} {n : Nat} {r : List Nat} : pLs f (n + 1) (44 :: 32 :: r) = (f r).bind fun x => (pLs f n x.2).bind fun y => some (x.1 :: y.1, y.2) := by
 rw [pLs, pre_ne (by decide)]
 dsimp only
 rw [pre4432]
 rfl
mutual
theorem pk_sh : ∀ {k : Kd} {d : Nat} {r : List Nat}, k.wf → Stop r → pKi d (k.sh ++ r) = if k.depth ≤ d then some (k.tr, r) else none
 | .num w, 0, r, h, st => by rw [Kd.depth]; rfl
 | .text, 0, r, h, st => by rw [Kd.depth]; rfl
 | .row k, 0, r, h, st => by rw [Kd.depth, if_neg (by omega)]; rfl
 | .rec_ fs, 0, r, h, st => by rw [Kd.depth, if_neg (by omega)]; rfl
 | .pick fs, 0, r, h, st => by rw [Kd.depth, if_neg (by omega)]; rfl
 | .num w, d + 1, r, h, st => by
  unfold Kd.wf at h
  rw [Kd.sh, Kd.depth, if_pos (by omega), show [110, 117, 109, 32] ++ [48 + w.toNat] ++ r = cNum ++ (32 :: (48 + w.toNat) :: r) from rfl, pKi_app g_num stop_sp]
  unfold pKh
  rw [if_neg (by decide), if_pos rfl, pre32, Option.bind_some, figP_yes (by omega), Option.bind_some, Kd.tr, e_num0, show ((w.toNat : Nat) : Int) = w by omega]
 | .text, d + 1, r, h, st => by
  rw [Kd.sh, Kd.depth, if_pos (by omega), pKi_app g_text st]
  unfold pKh
  rw [if_pos rfl, Kd.tr, e_text]
 | .row k, d + 1, r, h, st => by
  unfold Kd.wf at h
  rw [Kd.sh, Kd.depth, show [114, 111, 119, 32] ++ k.sh ++ r = cRow ++ (32 :: (k.sh ++ r)) from rfl, pKi_app g_row stop_sp, pKh_row, pk_sh h st, Kd.tr, e_row0]
  by_cases c : k.depth ≤ d
  ·rw [if_pos c, if_pos (by omega)]; rfl
  ·rw [if_neg c, if_neg (by omega)]; rfl
 | .rec_ fs, d + 1, r, h, st => by
  unfold Kd.wf at h
  obtain ⟨hf, hn⟩ := h
  rw [Kd.sh, Kd.depth, show cRec ++ [32, 40] ++ joinL [44, 32] (shF fs) ++ [41] ++ r = cRec ++ (32 :: 40 :: (joinL [44, 32] (shF fs) ++ (41 :: r))) by simp, pKi_app g_rec stop_sp, pKh_rec (.inl rfl), Kd.tr, e_rec]
  exact pr_sh hf hn
 | .pick fs, d + 1, r, h, st => by
  unfold Kd.wf at h
  obtain ⟨hf, hn⟩ := h
  rw [Kd.sh, Kd.depth, show cPick ++ [32, 40] ++ joinL [44, 32] (shF fs) ++ [41] ++ r = cPick ++ (32 :: 40 :: (joinL [44, 32] (shF fs) ++ (41 :: r))) by simp, pKi_app g_pick stop_sp, pKh_rec (.inr rfl), Kd.tr, e_pick]
  exact pr_sh hf hn
theorem pr_sh {h : List Nat} : ∀ {fs : List (Str × Kd)} {d : Nat} {r : List Nat}, wfF fs → fs ≠ [] → ((pFd (pKi d) (joinL [44, 32] (shF fs) ++ (41 :: r))).bind fun x => (pLs (pFd (pKi d)) (x.2.length + 1) x.2).bind fun y => some (T.tup [.str (S h), .tup (x.1 :: y.1)], y.2)) = if depthF fs + 1 ≤ d + 1 then some (T.tup [.str (S h), .tup (trF fs)], r) else none
 | [], d, r, hf, hn => absurd rfl hn
 | (n, k) :: fs, d, r, hf, hn => by
  unfold wfF at hf
  rw [join_cons, show n.cps.toList ++ [32] ++ k.sh ++ tlU fs ++ (41 :: r) = n.cps.toList ++ (32 :: (k.sh ++ (tlU fs ++ (41 :: r)))) by simp, pFd_app hf.1, pk_sh hf.2.1 (stop_tl fs r), depthF]
  by_cases c : k.depth ≤ d
  ·rw [if_pos c, Option.bind_some, Option.bind_some]
   dsimp only
   rw [pl_sh hf.2.2 (Nat.lt_succ_self _), trF, S_codes]
   by_cases c2 : depthF fs ≤ d
   ·rw [if_pos c2, if_pos (by omega)]; rfl
   ·rw [if_neg c2, if_neg (by omega)]; rfl
  ·rw [if_neg c, if_neg (by omega)]; rfl
theorem pl_sh : ∀ {fs : List (Str × Kd)} {d n : Nat} {r : List Nat}, wfF fs → (tlU fs ++ (41 :: r)).length < n → pLs (pFd (pKi d)) n (tlU fs ++ (41 :: r)) = if depthF fs ≤ d then some (trF fs, r) else none
 | [], d, 0, r, hf, hn => by omega
 | [], d, n + 1, r, hf, hn => by
  rw [depthF, if_pos (Nat.zero_le _)]
  exact pLs_cl
 | (nm, k) :: fs, d, 0, r, hf, hn => by omega
 | (nm, k) :: fs, d, n + 1, r, hf, hn => by
  unfold wfF at hf
  rw [tlU_cons] at hn
  rw [tlU_cons, show [44, 32] ++ (nm.cps.toList ++ [32] ++ k.sh ++ tlU fs) ++ (41 :: r) = 44 :: 32 :: (nm.cps.toList ++ (32 :: (k.sh ++ (tlU fs ++ (41 :: r))))) by simp, pLs_com, pFd_app hf.1, pk_sh hf.2.1 (stop_tl fs r), depthF]
  by_cases c : k.depth ≤ d
  ·rw [if_pos c, Option.bind_some, Option.bind_some]
   dsimp only
   rw [pl_sh hf.2.2 (by simp only [List.length_append, List.length_cons, List.length_nil] at hn ⊢; omega), trF, S_codes]
   by_cases c2 : depthF fs ≤ d
   ·rw [if_pos c2, if_pos (by omega)]; rfl
   ·rw [if_neg c2, if_neg (by omega)]; rfl
  ·rw [if_neg c, if_neg (by omega)]; rfl
end
end Tg
set_option Elab.async false
set_option linter.all false
set_option maxRecDepth 100000
set_option maxHeartbeats 4000000
namespace Tg
open PySem L2 L3
theorem app_last {a b u : List Nat} {x : Nat} (e : a ++ b = u ++ [x]) (n : b ≠ []) : ∃ b', b = b' ++ [x] ∧ u = a ++ b' := by
 have h := (List.dropLast_concat_getLast n).symm
 rw [h, ← List.append_assoc] at e
 have := List.append_inj' e rfl
 have h2 : b.getLast n = x := (List.cons.inj this.2).1
 exact ⟨b.dropLast, by rw [h2] at h; exact h, this.1.symm⟩
theorem sh_hd : ∀ k : Kd, ∃ c r, k.sh = c :: r ∧ (c = 110 ∨ c = 116 ∨ c = 114 ∨ c = 112)
 | .num w => ⟨110, _, by rw [Kd.sh]; rfl, .inl rfl⟩
 | .text => ⟨116, _, by rw [Kd.sh], .inr (.inl rfl)⟩
 | .row k => ⟨114, _, by rw [Kd.sh]; rfl, .inr (.inr (.inl rfl))⟩
 | .rec_ fs => ⟨114, _, by rw [Kd.sh]; rfl, .inr (.inr (.inl rfl))⟩
 | .pick fs => ⟨112, _, by rw [Kd.sh]; rfl, .inr (.inr (.inr rfl))⟩
theorem sh_ne (k : Kd) : k.sh ≠ [] := by
 obtain ⟨c, r, e, _⟩ := sh_hd k
 rw [e]; simp
theorem stop_tlX {X : List Nat} (st : Stop X) (rs : List (Str × Kd)) : Stop (tlU rs ++ X) := by
 cases rs with
 | nil => exact st
 | cons x rs => obtain ⟨n, k⟩ := x; rw [tlU_cons]; exact stop_com
theorem plX {X : List Nat} (st : Stop X) {d : Nat} (hX : ∀ n, pLs (pFd (pKi d)) n X = none) : ∀ {fs : List (Str × Kd)} {n : Nat}, wfF fs → pLs (pFd (pKi d)) n (tlU fs ++ X) = none
 | [], n, hf => hX n
 | (nm, k) :: fs, 0, hf => rfl
 | (nm, k) :: fs, n + 1, hf => by
  unfold wfF at hf
  rw [tlU_cons, show [44, 32] ++ (nm.cps.toList ++ [32] ++ k.sh ++ tlU fs) ++ X = 44 :: 32 :: (nm.cps.toList ++ (32 :: (k.sh ++ (tlU fs ++ X)))) by simp, pLs_com, pFd_app hf.1, pk_sh hf.2.1 (stop_tlX st fs)]
  by_cases c : k.depth ≤ d
  ·rw [if_pos c, Option.bind_some, Option.bind_some]
   dsimp only
   rw [plX st hX hf.2.2]
   rfl
  ·rw [if_neg c]; rfl
theorem tr_rec {h X : List Nat} {fs : List (Str × Kd)} {d : Nat} (hh : h = cRec ∨ h = cPick) (hf : wfF fs) (hn : fs ≠ []) (st : Stop X) (hX : ∀ d n, pLs (pFd (pKi d)) n X = none) : pKi (d + 1) (h ++ [32, 40] ++ joinL [44, 32] (shF fs) ++ X) = none := by
 have hg : ∀ c ∈ h, goodc c = true := by rcases hh with rfl | rfl; exact g_rec; exact g_pick
 match fs, hn with
 | (n, k) :: fs, _ =>
  unfold wfF at hf
  rw [join_cons, show h ++ [32, 40] ++ (n.cps.toList ++ [32] ++ k.sh ++ tlU fs) ++ X = h ++ (32 :: 40 :: (n.cps.toList ++ (32 :: (k.sh ++ (tlU fs ++ X))))) by simp, pKi_app hg stop_sp, pKh_rec hh, pFd_app hf.1, pk_sh hf.2.1 (stop_tlX st fs)]
  by_cases c : k.depth ≤ d
  ·rw [if_pos c, Option.bind_some, Option.bind_some]
   dsimp only
   rw [plX st (hX d) hf.2.2]
   rfl
  ·rw [if_neg c]; rfl
theorem tr_sh : ∀ {k : Kd} {u X : List Nat} {d : Nat}, k.wf → k.sh = u ++ [41] → Stop X → (∀ d n, pLs (pFd (pKi d)) n X = none) → pKi d (u ++ X) = none
 | _, u, X, 0, _, _, _, _ => rfl
 | .num w, u, X, d + 1, h, e, st, hX => by
  rw [Kd.sh] at e
  have := List.append_inj' e rfl
  have h2 := (List.cons.inj this.2).1
  omega
 | .text, u, X, d + 1, h, e, st, hX => by
  rw [Kd.sh] at e
  have := List.append_inj' (s₁ := [116, 101, 120]) (t₁ := [116]) e rfl
  cases this.2
 | .row k, u, X, d + 1, h, e, st, hX => by
  unfold Kd.wf at h
  rw [Kd.sh] at e
  obtain ⟨b, e1, rfl⟩ := app_last e (sh_ne k)
  rw [show [114, 111, 119, 32] ++ b ++ X = cRow ++ (32 :: (b ++ X)) from rfl, pKi_app g_row stop_sp, pKh_row, tr_sh h e1 st hX]
  rfl
 | .rec_ fs, u, X, d + 1, h, e, st, hX => by
  unfold Kd.wf at h
  rw [Kd.sh] at e
  rw [← (List.append_inj' e rfl).1]
  exact tr_rec (.inl rfl) h.1 h.2 st hX
 | .pick fs, u, X, d + 1, h, e, st, hX => by
  unfold Kd.wf at h
  rw [Kd.sh] at e
  rw [← (List.append_inj' e rfl).1]
  exact tr_rec (.inr rfl) h.1 h.2 st hX
def few (l : List Nat) : Prop := ∀ x y us d, pPa l = some (.tup [x, y, .tup us, d], []) → us.length ≤ 999
def Held (l : List Nat) (K P : Option T) : Prop := l.length ≤ 99999 ∧ (∀ c ∈ l, c < 128) ∧ rdB (pKi 5) (kwB 5) l = K ∧ rdB pPa paB l = P ∧ few l
theorem rdB_of {f : PR} {B : T → Bool} {l : List Nat} {t : T} {r : List Nat} (e : f l = some (t, r)) : rdB f B l = if r = [] ∧ B t = true then some t else none := by unfold rdB; rw [e]; rfl
theorem rdB_no {f : PR} {B : T → Bool} {l : List Nat} (e : f l = none) : rdB f B l = none := by unfold rdB; rw [e]; rfl
theorem pPa_hd {c : Nat} {r : List Nat} (h : c ≠ 100) : pPa (c :: r) = none := by
 unfold pPa
 rw [pre_ne h.symm]
 rfl
theorem few_none {l : List Nat} (h : pPa l = none) : few l := fun x y us d e => by rw [h] at e; cases e
theorem held_k {l : List Nat} {K : Option T} {c : Nat} {r : List Nat} (e : l = c :: r) (h : c ≠ 100) (hl : l.length ≤ 99999) (ha : ∀ c ∈ l, c < 128) (hk : rdB (pKi 5) (kwB 5) l = K) : Held l K none := by
 have : pPa l = none := by rw [e]; exact pPa_hd h
 exact ⟨hl, ha, hk, rdB_no this, few_none this⟩
theorem pKi_door {d : Nat} {r : List Nat} : pKi d (cDoor ++ r) = none := by
 cases d with
 | zero => rfl
 | succ d =>
  rw [show cDoor ++ r = [100, 111, 111, 114] ++ (32 :: r) from rfl, pKi_app (by decide +kernel) stop_sp]
  rfl
theorem held_p {r : List Nat} {P : Option T} (hl : (cDoor ++ r).length ≤ 99999) (ha : ∀ c ∈ cDoor ++ r, c < 128) (hp : rdB pPa paB (cDoor ++ r) = P) (hf : few (cDoor ++ r)) : Held (cDoor ++ r) none P := ⟨hl, ha, rdB_no pKi_door, hp, hf⟩
theorem pre3240 {r : List Nat} : pre [32, 40] (32 :: 40 :: r) = some r := pre_yes rfl
theorem pPa_1 {X : List Nat} : pPa (cDoor ++ ([97, 98] ++ (32 :: 49 :: 32 :: 40 :: X))) = (pPs X).bind fun y => (pre [32] y.2).bind fun r6 => pRe [97, 98] (.int 1) y.1 r6 := by
 unfold pPa
 obtain ⟨a, b⟩ := tw_word (h := [97, 98]) (by decide +kernel) (stop_sp (r := 49 :: 32 :: 40 :: X))
 rw [pre_yes (q := cDoor) rfl, Option.bind_some, a, b, pre32, Option.bind_some, show figP (49 :: 32 :: 40 :: X) = some (.int 1, 32 :: 40 :: X) from rfl, Option.bind_some]
 dsimp only
 rw [pre3240, Option.bind_some]
theorem pPa_0 {n X : List Nat} (hn : ∀ c ∈ n, goodc c = true) : pPa (cDoor ++ (n ++ (32 :: 48 :: 32 :: 40 :: X))) = (pPs X).bind fun y => (pre [32] y.2).bind fun r6 => pRe n (.int 0) y.1 r6 := by
 unfold pPa
 obtain ⟨a, b⟩ := tw_word (h := n) hn (stop_sp (r := 48 :: 32 :: 40 :: X))
 rw [pre_yes (q := cDoor) rfl, Option.bind_some, a, b, pre32, Option.bind_some, show figP (48 :: 32 :: 40 :: X) = some (.int 0, 32 :: 40 :: X) from rfl, Option.bind_some]
 dsimp only
 rw [pre3240, Option.bind_some]
theorem pPl_app {n v r : List Nat} (hn : ∀ c ∈ n, goodc c = true) (hv : ∀ c ∈ v, goodc c = true) : pPl (n ++ (32 :: (v ++ (32 :: r)))) = (pKi 5 r).bind fun x => some (.tup [.str (S n), .str (S v), x.1], x.2) := by
 unfold pPl
 obtain ⟨a, b⟩ := tw_word hn (stop_sp (r := v ++ (32 :: r)))
 obtain ⟨c, d⟩ := tw_word hv (stop_sp (r := r))
 rw [a, b, pre32, Option.bind_some, c, d, pre32, Option.bind_some]
theorem pPs_pl {c : Nat} {r : List Nat} (h : c ≠ 41) : pPs (c :: r) = (pPl (c :: r)).bind fun x => (pLs pPl (x.2.length + 1) x.2).bind fun y => some (.tup (x.1 :: y.1), y.2) := by
 unfold pPs
 rw [pre_ne h.symm]
theorem pPs_0 {r : List Nat} : pPs (41 :: r) = some (.tup [], r) := by
 unfold pPs
 rw [pre41]
theorem none_ne : ∀ k : Kd, ∀ X, pre cNone (k.sh ++ X) = none
 | .num w, X => pre_no fun e => by rw [Kd.sh] at e; revert e; show [110, 117, 109, 32] ≠ cNone; decide
 | .text, X => by rw [Kd.sh]; exact pre_ne (by decide)
 | .row k, X => by rw [Kd.sh]; exact pre_ne (by decide)
 | .rec_ fs, X => by rw [Kd.sh]; exact pre_ne (by decide)
 | .pick fs, X => by rw [Kd.sh]; exact pre_ne (by decide)
end Tg
set_option Elab.async false
set_option linter.all false
set_option maxRecDepth 100000
set_option maxHeartbeats 4000000
namespace Tg
open PySem L2 L3
structure LvOk (k : Kd) (ok : Bool) (j : Nat) : Prop where
 wf : k.wf
 dp : k.depth = j + 1
 kw : ∀ d, j + 1 ≤ d → kwB d k.tr = ok
 ln : k.sh.length ≤ 5 + 200 * j
 as : ∀ c ∈ k.sh, c < 128
def En (l l' : List Nat) (whole : Bool) : Prop := (whole = true ∧ l' = l) ∨ (whole = false ∧ (l = l' ++ [41] ∨ l' = l ++ [41] ∨ l' = l ++ [32]))
theorem pre_sub {q u X : List Nat} (h : pre q (u ++ X) = none) : pre q u = none := by
 cases e : pre q u with
 | none => rfl
 | some r =>
  rw [pre_yes (r' := r ++ X) (by rw [pre_eq e, List.append_assoc])] at h
  cases h
theorem nilX (f : PR) (n : Nat) : pLs f n [] = none := by
 cases n with
 | zero => rfl
 | succ n => rw [pLs, pre_nil]; dsimp only; rw [pre_nil]; rfl
abbrev cYY : List Nat := [44, 32, 121, 121, 32, 99, 111, 112, 121, 32, 116, 101, 120, 116, 41, 32, 110, 111, 110, 101]
theorem yyX (d n : Nat) : pLs (pFd (pKi d)) n cYY = none := by
 cases n with
 | zero => rfl
 | succ n =>
  rw [show cYY = 44 :: 32 :: ([121, 121] ++ (32 :: [99, 111, 112, 121, 32, 116, 101, 120, 116, 41, 32, 110, 111, 110, 101])) from rfl, pLs_com, pFd_app (by decide +kernel)]
  cases d with
  | zero => rfl
  | succ d =>
   rw [show [99, 111, 112, 121, 32, 116, 101, 120, 116, 41, 32, 110, 111, 110, 101] = [99, 111, 112, 121] ++ (32 :: [116, 101, 120, 116, 41, 32, 110, 111, 110, 101]) from rfl, pKi_app (by decide +kernel) stop_sp]
   rfl
theorem en_len {k : Kd} {ok : Bool} {j : Nat} {l' : List Nat} {wh : Bool} (h : LvOk k ok j) (hj : j ≤ 7) (e : En k.sh l' wh) : l'.length ≤ 1500 ∧ (∀ c ∈ l', c < 128) ∧ ∃ c r, l' = c :: r ∧ c ≠ 100 ∧ pre cNone l' = none := by
 have hl := h.ln
 obtain ⟨c, r, ec, hc⟩ := sh_hd k
 have nn := none_ne k
 rcases e with ⟨_, rfl⟩ | ⟨_, e | rfl | rfl⟩
 ·exact ⟨by omega, h.as, c, r, ec, by omega, by have := nn []; rwa [List.append_nil] at this⟩
 ·have as := h.as
  have : k.sh.length = l'.length + 1 := by rw [e, List.length_append]; rfl
  refine ⟨by omega, fun x hx => as x (by rw [e]; simp [hx]), ?_⟩
  cases l' with
  | nil => rw [e] at ec; cases ec; omega
  | cons x y =>
   rw [ec] at e
   cases e
   exact ⟨c, y, rfl, by omega, pre_sub (X := [41]) (by have := nn []; rw [List.append_nil, ec] at this; exact this)⟩
 ·refine ⟨by rw [List.length_append]; show _ + 1 ≤ _; omega, fun x hx => ?_, c, r ++ [41], by rw [ec]; rfl, by omega, nn _⟩
  rcases List.mem_append.mp hx with h1 | h1
  ·exact h.as x h1
  ·rw [List.mem_singleton.mp h1]; decide
 ·refine ⟨by rw [List.length_append]; show _ + 1 ≤ _; omega, fun x hx => ?_, c, r ++ [32], by rw [ec]; rfl, by omega, nn _⟩
  rcases List.mem_append.mp hx with h1 | h1
  ·exact h.as x h1
  ·rw [List.mem_singleton.mp h1]; decide
theorem en_ki {k : Kd} {ok : Bool} {j : Nat} {l' X : List Nat} {wh : Bool} (h : LvOk k ok j) (e : En k.sh l' wh) (st : Stop X) (hX : ∀ d n, pLs (pFd (pKi d)) n X = none) : pKi 5 (l' ++ X) = none ∨ (j ≤ 4 ∧ ((wh = true ∧ pKi 5 (l' ++ X) = some (k.tr, X)) ∨ (wh = false ∧ (pKi 5 (l' ++ X) = some (k.tr, 41 :: X) ∨ pKi 5 (l' ++ X) = some (k.tr, 32 :: X))))) := by
 have pk : ∀ Y, Stop Y → pKi 5 (k.sh ++ Y) = if k.depth ≤ 5 then some (k.tr, Y) else none := fun Y sy => pk_sh h.wf sy
 rw [h.dp] at pk
 by_cases c : j ≤ 4
 ·rcases e with ⟨w, rfl⟩ | ⟨w, e | rfl | rfl⟩
  ·exact .inr ⟨c, .inl ⟨w, by rw [pk X st, if_pos (by omega)]⟩⟩
  ·exact .inl (tr_sh h.wf e st hX)
  ·exact .inr ⟨c, .inr ⟨w, .inl (by rw [List.append_assoc, show [41] ++ X = 41 :: X from rfl, pk _ stop_cl, if_pos (by omega)])⟩⟩
  ·exact .inr ⟨c, .inr ⟨w, .inr (by rw [List.append_assoc, show [32] ++ X = 32 :: X from rfl, pk _ stop_sp, if_pos (by omega)])⟩⟩
 ·refine .inl ?_
  rcases e with ⟨w, rfl⟩ | ⟨w, e | rfl | rfl⟩
  ·rw [pk X st, if_neg (by omega)]
  ·exact tr_sh h.wf e st hX
  ·rw [List.append_assoc, show [41] ++ X = 41 :: X from rfl, pk _ stop_cl, if_neg (by omega)]
  ·rw [List.append_assoc, show [32] ++ X = 32 :: X from rfl, pk _ stop_sp, if_neg (by omega)]
theorem en_none {k : Kd} {ok : Bool} {j : Nat} {l' X : List Nat} {wh : Bool} (h : LvOk k ok j) (e : En k.sh l' wh) (st : Stop X) (hn : pKi 5 (l' ++ X) = none) : ¬ (j ≤ 4 ∧ wh = true) := fun c => by
 rcases e with ⟨w, rfl⟩ | ⟨w, _⟩
 ·rw [pk_sh h.wf st, h.dp, if_pos (by omega)] at hn
  cases hn
 ·rw [w] at c; cases c.2
def dueK (k : Kd) (ok : Bool) (j : Nat) (wh : Bool) : Option T := if ok = true ∧ j ≤ 4 ∧ wh = true then some k.tr else none
theorem en_kind {k : Kd} {ok : Bool} {j : Nat} {l' : List Nat} {wh : Bool} (h : LvOk k ok j) (hj : j ≤ 7) (e : En k.sh l' wh) : Held l' (dueK k ok j wh) none := by
 obtain ⟨hl, ha, c, r, ec, hc, _⟩ := en_len h hj e
 refine held_k ec hc (by omega) ha ?_
 unfold dueK
 have hk := en_ki h e (.inl rfl) (fun _ _ => nilX _ _)
 have hn := en_none (X := []) h e (.inl rfl)
 rw [List.append_nil] at hk hn
 rcases hk with h1 | ⟨h4, ⟨w, h1⟩ | ⟨w, h1 | h1⟩⟩
 ·rw [rdB_no h1, if_neg fun z => hn h1 z.2]
 ·rw [rdB_of h1, h.kw 5 (by omega)]
  cases ok with
  | true => rw [if_pos ⟨rfl, rfl⟩, if_pos ⟨rfl, h4, w⟩]
  | false => rw [if_neg (by simp), if_neg (by simp)]
 ·rw [rdB_of h1, if_neg (by simp), if_neg (by rw [w]; simp)]
 ·rw [rdB_of h1, if_neg (by simp), if_neg (by rw [w]; simp)]
abbrev cLend : List Nat := [108, 101, 110, 100]
abbrev cCopy : List Nat := [99, 111, 112, 121]
def pap1 (t : T) : T := .tup [.str (S [97, 98]), .int 1, .tup [.tup [.str (S [120]), .str (S cLend), t], .tup [.str (S [121, 121]), .str (S cCopy), .tup [.str (S cText)]]], .non]
theorem paB_1 (t : T) : paB (pap1 t) = kwB 5 t := by
 show (nmB (.str (S [97, 98])) && (sdB (.int 1) && ((([T.tup [.str (S [120]), .str (S cLend), t], .tup [.str (S [121, 121]), .str (S cCopy), .tup [.str (S cText)]]].all plB) && decide ([S [120], S [121, 121]] : List Str).Nodup) && true))) = _
 rw [show nmB (.str (S [97, 98])) = true by decide +kernel, show sdB (.int 1) = true by decide, show decide ([S [120], S [121, 121]] : List Str).Nodup = true by decide +kernel, List.all_cons, List.all_cons, List.all_nil]
 rw [show plB (.tup [.str (S [121, 121]), .str (S cCopy), .tup [.str (S cText)]]) = true by decide +kernel]
 show (true && (true && (((nmB (.str (S [120])) && (wyB (.str (S cLend)) && kwB 5 t)) && (true && true)) && true && true))) = _
 rw [show nmB (.str (S [120])) = true by decide +kernel, show wyB (.str (S cLend)) = true by decide +kernel]
 simp
abbrev tx1 (l : List Nat) : List Nat := cDoor ++ ([97, 98] ++ (32 :: 49 :: 32 :: 40 :: ([120] ++ (32 :: (cLend ++ (32 :: (l ++ cYY)))))))
theorem pl_yy (n : Nat) : pLs pPl (n + 2) cYY = some ([.tup [.str (S [121, 121]), .str (S cCopy), .tup [.str (S cText)]]], [32, 110, 111, 110, 101]) := by
 rw [show cYY = 44 :: 32 :: ([121, 121] ++ (32 :: (cCopy ++ (32 :: (cText ++ (41 :: [32, 110, 111, 110, 101])))))) from rfl, pLs_com, pPl_app (by decide +kernel) (by decide +kernel), pKi_app g_text stop_cl]
 unfold pKh
 rw [if_pos rfl, Option.bind_some, Option.bind_some]
 dsimp only
 rw [pLs_cl]
 rfl
theorem pa_1 {k : Kd} {ok : Bool} {j : Nat} {l' : List Nat} {wh : Bool} (h : LvOk k ok j) (e : En k.sh l' wh) : pPa (tx1 l') = if j ≤ 4 ∧ wh = true then some (pap1 k.tr, []) else none := by
 have e0 : pPa (tx1 l') = ((pKi 5 (l' ++ cYY)).bind fun x => (pLs pPl (x.2.length + 1) x.2).bind fun y => some (T.tup (.tup [.str (S [120]), .str (S cLend), x.1] :: y.1), y.2)).bind fun y => (pre [32] y.2).bind fun r6 => pRe [97, 98] (.int 1) y.1 r6 := by
  rw [pPa_1, show [120] ++ (32 :: (cLend ++ (32 :: (l' ++ cYY)))) = 120 :: (32 :: (cLend ++ (32 :: (l' ++ cYY)))) from rfl, pPs_pl (by decide), show 120 :: (32 :: (cLend ++ (32 :: (l' ++ cYY)))) = [120] ++ (32 :: (cLend ++ (32 :: (l' ++ cYY)))) from rfl, pPl_app (by decide +kernel) (by decide +kernel)]
  cases pKi 5 (l' ++ cYY) with
  | none => rfl
  | some x => rfl
 rw [e0]
 have hk := en_ki (X := cYY) h e stop_com yyX
 rcases hk with h1 | ⟨h4, ⟨w, h1⟩ | ⟨w, h1 | h1⟩⟩
 ·rw [h1, if_neg (en_none h e stop_com h1)]; rfl
 ·rw [h1, if_pos ⟨h4, w⟩, Option.bind_some]
  dsimp only
  rw [show cYY.length + 1 = 19 + 2 from rfl, pl_yy]
  rfl
 ·rw [h1, if_neg (by rw [w]; simp), Option.bind_some]
  dsimp only
  rw [pLs_cl]
  rfl
 ·rw [h1, if_neg (by rw [w]; simp), Option.bind_some]
  dsimp only
  rw [pLs, pre_ne (by decide)]
  dsimp only
  rw [pre_ne (by decide)]
  rfl
def dueP (f : T → T) (k : Kd) (ok : Bool) (j : Nat) (wh : Bool) : Option T := if ok = true ∧ j ≤ 4 ∧ wh = true then some (f k.tr) else none
theorem asc_app {a b : List Nat} (ha : ∀ c ∈ a, c < 128) (hb : ∀ c ∈ b, c < 128) : ∀ c ∈ a ++ b, c < 128 := fun c h => by
 rcases List.mem_append.mp h with h | h
 ·exact ha c h
 ·exact hb c h
theorem en_p1 {k : Kd} {ok : Bool} {j : Nat} {l' : List Nat} {wh : Bool} (h : LvOk k ok j) (hj : j ≤ 7) (e : En k.sh l' wh) : Held (tx1 l') none (dueP pap1 k ok j wh) := by
 obtain ⟨hl, ha, _⟩ := en_len h hj e
 have hp := pa_1 h e
 refine held_p (by simp only [List.length_append, List.length_cons, List.length_nil]; omega) (asc_app (a := cDoor) (by decide) (asc_app (a := [97, 98]) (by decide) (asc_app (a := [32, 49, 32, 40]) (by decide) (asc_app (a := [120]) (by decide) (asc_app (a := [32]) (by decide) (asc_app (a := cLend) (by decide) (asc_app (a := [32]) (by decide) (asc_app (a := l') ha (b := cYY) (by decide))))))))) ?_ ?_
 ·unfold dueP
  by_cases c : j ≤ 4 ∧ wh = true
  ·rw [if_pos c] at hp
   rw [rdB_of hp, paB_1, h.kw 5 (by omega)]
   cases ok with
   | true => rw [if_pos ⟨rfl, rfl⟩, if_pos ⟨rfl, c⟩]
   | false => rw [if_neg (by simp), if_neg (by simp)]
  ·rw [if_neg c] at hp
   rw [rdB_no hp, if_neg fun z => c z.2]
 ·intro x y us d ee
  rw [hp] at ee
  split at ee
  ·cases ee; show 2 ≤ 999; decide
  ·cases ee
abbrev cAh : List Nat := [97, 98, 99, 100, 101, 102, 103, 104]
def pap2 (t : T) : T := .tup [.str (S cAh), .int 0, .tup [], t]
abbrev tx2 (l : List Nat) : List Nat := cDoor ++ (cAh ++ (32 :: 48 :: 32 :: 40 :: 41 :: 32 :: l))
theorem pa_2 {n l : List Nat} (hn : ∀ c ∈ n, goodc c = true) (hl : pre cNone l = none) : pPa (cDoor ++ (n ++ (32 :: 48 :: 32 :: 40 :: 41 :: 32 :: l))) = (pKi 5 l).bind fun z => some (.tup [.str (S n), .int 0, .tup [], z.1], z.2) := by
 rw [pPa_0 hn, pPs_0, Option.bind_some]
 dsimp only
 rw [pre32, Option.bind_some]
 unfold pRe
 rw [hl]
theorem few_2 {n l : List Nat} (hn : ∀ c ∈ n, goodc c = true) (hl : pre cNone l = none) : few (cDoor ++ (n ++ (32 :: 48 :: 32 :: 40 :: 41 :: 32 :: l))) := fun x y us d e => by
 rw [pa_2 hn hl] at e
 cases h : pKi 5 l with
 | none => rw [h] at e; cases e
 | some z => obtain ⟨z, r⟩ := z; rw [h] at e; cases e; decide
theorem paB_2 {n : List Nat} (hn : nmB (.str (S n)) = true) {z : T} (hz : z ≠ .non) : paB (.tup [.str (S n), .int 0, .tup [], z]) = kwB 5 z := by
 show (nmB (.str (S n)) && (sdB (.int 0) && (plsB (.tup []) && reB z))) = _
 rw [hn, show sdB (.int 0) = true by decide, show plsB (.tup []) = true by decide +kernel]
 cases z with
 | non => exact absurd rfl hz
 | _ => rfl
theorem ki_non {d : Nat} {l : List Nat} {z : T} {r : List Nat} (h : pKi d l = some (z, r)) : z ≠ .non := fun e => by
 subst e
 cases d with
 | zero => cases h
 | succ d =>
  have h : pKh (pKi d) (l.takeWhile goodc) (l.dropWhile goodc) = some (.non, r) := h
  generalize l.takeWhile goodc = a at h
  generalize l.dropWhile goodc = b at h
  unfold pKh at h
  split at h
  ·cases h
  split at h
  ·cases e1 : pre [32] b with
   | none => rw [e1] at h; cases h
   | some r2 =>
    rw [e1, Option.bind_some] at h
    cases e2 : figP r2 with
    | none => rw [e2] at h; cases h
    | some x => rw [e2] at h; cases h
  split at h
  ·cases e1 : pre [32] b with
   | none => rw [e1] at h; cases h
   | some r2 =>
    rw [e1, Option.bind_some] at h
    cases e2 : pKi d r2 with
    | none => rw [e2] at h; cases h
    | some x => rw [e2] at h; cases h
  split at h
  ·cases e1 : pre [32] b with
   | none => rw [e1] at h; cases h
   | some r2 =>
    rw [e1, Option.bind_some] at h
    cases e3 : pre [40] r2 with
    | none => rw [e3] at h; cases h
    | some r3 =>
     rw [e3, Option.bind_some] at h
     cases e4 : pFd (pKi d) r3 with
     | none => rw [e4] at h; cases h
     | some x =>
      rw [e4, Option.bind_some] at h
      cases e5 : pLs (pFd (pKi d)) (x.2.length + 1) x.2 with
      | none => rw [e5] at h; cases h
      | some y => rw [e5] at h; cases h
  ·cases h
theorem rd_2 {n l : List Nat} (hn : ∀ c ∈ n, goodc c = true) (hb : nmB (.str (S n)) = true) (hl : pre cNone l = none) : rdB pPa paB (cDoor ++ (n ++ (32 :: 48 :: 32 :: 40 :: 41 :: 32 :: l))) = (rdB (pKi 5) (kwB 5) l).map fun z => .tup [.str (S n), .int 0, .tup [], z] := by
 have e := pa_2 hn hl
 cases h : pKi 5 l with
 | none => rw [h] at e; rw [rdB_no e, rdB_no h]; rfl
 | some z =>
  rw [h] at e
  obtain ⟨z, r⟩ := z
  rw [rdB_of (t := .tup [.str (S n), .int 0, .tup [], z]) (r := r) e, rdB_of h, paB_2 hb (ki_non h)]
  split <;> rfl
theorem en_p2 {k : Kd} {ok : Bool} {j : Nat} {l' : List Nat} {wh : Bool} (h : LvOk k ok j) (hj : j ≤ 7) (e : En k.sh l' wh) : Held (tx2 l') none (dueP pap2 k ok j wh) := by
 obtain ⟨hl, ha, c, r, ec, hc, hn⟩ := en_len h hj e
 have hk := (en_kind h hj e).2.2.1
 refine held_p (by simp only [List.length_append, List.length_cons, List.length_nil]; omega) (asc_app (by decide) (asc_app (by decide) (asc_app (a := [32, 48, 32, 40, 41, 32]) (by decide) ha))) ?_ (few_2 (by decide +kernel) hn)
 rw [rd_2 (by decide +kernel) (by decide +kernel) hn, hk]
 unfold dueK dueP
 split <;> rfl
end Tg
set_option Elab.async false
set_option linter.all false
set_option maxRecDepth 100000
set_option maxHeartbeats 4000000
namespace Tg
open PySem L2 L3
abbrev cGive : List Nat := [103, 105, 118, 101]
abbrev pfs : List (List Nat) := [[], cDoor ++ [97, 32, 48, 32, 40, 41, 32], cDoor ++ [97, 32, 48, 32, 40, 98, 32, 103, 105, 118, 101, 32]]
def DeepOk (l : List Nat) : Prop := ∀ pf ∈ pfs, Held (pf ++ l) none none
theorem deep_of {l : List Nat} {c : Nat} {r : List Nat} (hl : l.length ≤ 90000) (ha : ∀ c ∈ l, c < 128) (e : l = c :: r) (hc : c ≠ 100) (hn : pre cNone l = none) (h0 : rdB (pKi 5) (kwB 5) l = none) (h1 : pKi 5 l = none ∨ ∃ t, pKi 5 l = some (t, [])) : DeepOk l := by
 intro pf hpf
 simp only [List.mem_cons, List.not_mem_nil, or_false] at hpf
 rcases hpf with rfl | rfl | rfl
 ·exact held_k e hc (by rw [List.nil_append]; omega) ha h0
 ·rw [List.append_assoc]
  refine held_p (by simp only [List.length_append, List.length_cons, List.length_nil]; omega) (asc_app (a := cDoor) (by decide) (asc_app (a := [97, 32, 48, 32, 40, 41, 32]) (by decide) ha)) ?_ (few_2 (n := [97]) (by decide +kernel) hn)
  exact (rd_2 (n := [97]) (by decide +kernel) (by decide +kernel) hn).trans (by rw [h0]; rfl)
 ·rw [List.append_assoc]
  have : pPa (cDoor ++ ([97, 32, 48, 32, 40, 98, 32, 103, 105, 118, 101, 32] ++ l)) = none := by
   rw [show [97, 32, 48, 32, 40, 98, 32, 103, 105, 118, 101, 32] ++ l = [97] ++ (32 :: 48 :: 32 :: 40 :: (98 :: (32 :: (cGive ++ (32 :: l))))) from rfl, pPa_0 (by decide +kernel), pPs_pl (by decide), show 98 :: (32 :: (cGive ++ (32 :: l))) = [98] ++ (32 :: (cGive ++ (32 :: l))) from rfl, pPl_app (by decide +kernel) (by decide +kernel)]
   rcases h1 with h1 | ⟨t, h1⟩
   ·rw [h1]; rfl
   ·rw [h1, Option.bind_some, Option.bind_some]
    dsimp only
    rw [nilX]
    rfl
  exact held_p (by simp only [List.length_append, List.length_cons, List.length_nil]; omega) (asc_app (a := cDoor) (by decide) (asc_app (a := [97, 32, 48, 32, 40, 98, 32, 103, 105, 118, 101, 32]) (by decide) ha)) (rdB_no this) (few_none this)
abbrev hds : List (List Nat) := [[114, 111, 119, 32], [114, 101, 99, 32, 40, 97, 32], [112, 105, 99, 107, 32, 40, 97, 98, 99, 100, 101, 102, 103, 104, 32], [114, 101, 99, 32, 40, 97, 32, 110, 117, 109, 32, 49, 44, 32, 98, 32]]
theorem hd_step {h r : List Nat} {d : Nat} (hh : h ∈ hds) (hr : pKi d r = none) : pKi (d + 1) (h ++ r) = none := by
 simp only [List.mem_cons, List.not_mem_nil, or_false] at hh
 rcases hh with rfl | rfl | rfl | rfl
 ·rw [show [114, 111, 119, 32] ++ r = cRow ++ (32 :: r) from rfl, pKi_app g_row stop_sp, pKh_row, hr]; rfl
 ·rw [show [114, 101, 99, 32, 40, 97, 32] ++ r = cRec ++ (32 :: 40 :: ([97] ++ (32 :: r))) from rfl, pKi_app g_rec stop_sp, pKh_rec (.inl rfl), pFd_app (by decide +kernel), hr]; rfl
 ·rw [show [112, 105, 99, 107, 32, 40, 97, 98, 99, 100, 101, 102, 103, 104, 32] ++ r = cPick ++ (32 :: 40 :: (cAh ++ (32 :: r))) from rfl, pKi_app g_pick stop_sp, pKh_rec (.inr rfl), pFd_app (by decide +kernel), hr]; rfl
 ·rw [show [114, 101, 99, 32, 40, 97, 32, 110, 117, 109, 32, 49, 44, 32, 98, 32] ++ r = cRec ++ (32 :: 40 :: ([97] ++ (32 :: ((Kd.num 1).sh ++ (44 :: 32 :: ([98] ++ (32 :: r))))))) from rfl, pKi_app g_rec stop_sp, pKh_rec (.inl rfl), pFd_app (by decide +kernel), pk_sh (by unfold Kd.wf; decide) stop_com]
  by_cases c : (Kd.num 1).depth ≤ d
  ·rw [if_pos c, Option.bind_some, Option.bind_some]
   dsimp only
   rw [pLs_com, pFd_app (by decide +kernel), hr]
   rfl
  ·rw [if_neg c]; rfl
theorem hd_none {h X : List Nat} (hh : h ∈ hds) : ∀ {d m : Nat}, d ≤ m → pKi d ((List.replicate m h).flatten ++ X) = none
 | 0, m, _ => rfl
 | d + 1, 0, c => by omega
 | d + 1, m + 1, c => by
  rw [List.replicate_succ, List.flatten_cons, List.append_assoc]
  exact hd_step hh (hd_none hh (by omega))
theorem hd_facts {h : List Nat} (hh : h ∈ hds) : h.length ≤ 16 ∧ (∀ c ∈ h, c < 128) ∧ ∃ c r, h = c :: r ∧ (c = 114 ∨ c = 112) := by
 simp only [List.mem_cons, List.not_mem_nil, or_false] at hh
 rcases hh with rfl | rfl | rfl | rfl
 ·exact ⟨by decide, by decide, _, _, rfl, .inl rfl⟩
 ·exact ⟨by decide, by decide, _, _, rfl, .inl rfl⟩
 ·exact ⟨by decide, by decide, _, _, rfl, .inr rfl⟩
 ·exact ⟨by decide, by decide, _, _, rfl, .inl rfl⟩
theorem rep_len {h : List Nat} (m : Nat) : (List.replicate m h).flatten.length = m * h.length := by
 induction m with
 | zero => simp
 | succ m ih => rw [List.replicate_succ, List.flatten_cons, List.length_append, ih, Nat.succ_mul]; omega
theorem rep_asc {h : List Nat} (m : Nat) (ha : ∀ c ∈ h, c < 128) : ∀ c ∈ (List.replicate m h).flatten, c < 128 := by
 intro c hc
 obtain ⟨l, hl, hc⟩ := List.mem_flatten.mp hc
 rw [List.eq_of_mem_replicate hl] at hc
 exact ha c hc
theorem deep_hd {h X : List Nat} {m : Nat} (hh : h ∈ hds) (h5 : 5 ≤ m) (hm : m ≤ 1500) (hX : X.length ≤ 2000) (aX : ∀ c ∈ X, c < 128) : DeepOk ((List.replicate m h).flatten ++ X) := by
 obtain ⟨l16, ha, c, r, ec, hc⟩ := hd_facts hh
 have hn : pKi 5 ((List.replicate m h).flatten ++ X) = none := hd_none hh h5
 obtain ⟨m, rfl⟩ : ∃ i, m = i + 1 := ⟨m - 1, by omega⟩
 have e : (List.replicate (m + 1) h).flatten ++ X = c :: (r ++ ((List.replicate m h).flatten ++ X)) := by
  rw [List.replicate_succ, List.flatten_cons, ec, List.append_assoc]; rfl
 have hl : (m + 1) * h.length ≤ 1500 * 16 := Nat.mul_le_mul hm l16
 refine deep_of (by rw [List.length_append, rep_len]; omega) (asc_app (rep_asc _ ha) aX) e (by omega) (by rw [e]; exact pre_ne (by omega)) (rdB_no hn) (.inl hn)
theorem joinL_two (sep x y : List Nat) (r : List (List Nat)) : joinL sep (x :: y :: r) = x ++ sep ++ joinL sep (y :: r) := by simp [joinL]
theorem join_rep (sep A B : List Nat) : ∀ m : Nat, joinL sep (List.replicate m A ++ [B]) = (List.replicate m (A ++ sep)).flatten ++ B
 | 0 => by simp [joinL]
 | m + 1 => by
  have ih := join_rep sep A B m
  rw [List.replicate_succ, List.cons_append, List.replicate_succ, List.flatten_cons]
  cases h : List.replicate m A ++ [B] with
  | nil => simp at h
  | cons y r => rw [joinL_two, ← h, ih]; simp
abbrev fsW (m : Nat) : List (Str × Kd) := List.replicate m (S [97], .num 1) ++ [(S [97], .text)]
theorem shF_app (a b : List (Str × Kd)) : shF (a ++ b) = shF a ++ shF b := by rw [shF_map, shF_map, shF_map, List.map_append]
theorem shW (m : Nat) : joinL [44, 32] (shF (fsW m)) = (List.replicate m [97, 32, 110, 117, 109, 32, 49, 44, 32]).flatten ++ [97, 32, 116, 101, 120, 116] := by
 rw [shF_app, shF_map, List.map_replicate, shF_map]
 exact join_rep [44, 32] [97, 32, 110, 117, 109, 32, 49] [97, 32, 116, 101, 120, 116] m
theorem wfW : ∀ m : Nat, wfF (fsW m)
 | 0 => by show wfF [(S [97], .text)]; unfold wfF; exact ⟨by rw [codes_S]; decide +kernel, by unfold Kd.wf; trivial, by unfold wfF; trivial⟩
 | m + 1 => by
  show wfF ((S [97], .num 1) :: fsW m)
  unfold wfF
  exact ⟨by rw [codes_S]; decide +kernel, by unfold Kd.wf; decide, wfW m⟩
theorem dpW : ∀ m : Nat, depthF (fsW m) = 1
 | 0 => by show depthF [(S [97], .text)] = 1; simp [depthF, Kd.depth]
 | m + 1 => by
  show depthF ((S [97], .num 1) :: fsW m) = 1
  rw [depthF, dpW m, Kd.depth]
  rfl
theorem ndW {m : Nat} (h : 1 ≤ m) : ¬ ((trF (fsW m)).map nmOf).Nodup := by
 obtain ⟨m, rfl⟩ : ∃ i, m = i + 1 := ⟨m - 1, by omega⟩
 rw [trF_map, List.map_map, List.map_append, List.map_replicate]
 show ¬ (List.replicate (m + 1) (S [97]) ++ [S [97]]).Nodup
 rw [List.nodup_append]
 intro z
 exact z.2.2 (S [97]) (by simp) (S [97]) (by simp) rfl
theorem fdsW {m : Nat} (h : 1 ≤ m) (f : T → Bool) : fdsB f (.tup (trF (fsW m))) = false := by
 rw [fdsB_eq, decide_eq_false (ndW h), Bool.and_false]
theorem kwW {m d : Nat} (h : 1 ≤ m) : kwB d (Kd.rec_ (fsW m)).tr = false ∧ kwB d (Kd.pick (fsW m)).tr = false := by
 cases d with
 | zero => constructor <;> (rw [Kd.tr]; unfold kwB; rfl)
 | succ d =>
  rw [Kd.tr, Kd.tr, kwB_2, kwB_2, fdsW h, Bool.and_false, Bool.and_false]
  constructor
  ·rw [if_neg (by decide +kernel), if_neg (by decide +kernel)]
  ·rw [if_neg (by decide +kernel), if_neg (by decide +kernel)]
theorem kwW2 {m : Nat} (h : 1 ≤ m) : kwB 5 (Kd.rec_ [(S [97], .pick (fsW m))]).tr = false := by
 rw [Kd.tr, kwB_2, if_neg (by decide +kernel), if_neg (by decide +kernel), fdsB_eq]
 have : (trF [(S [97], Kd.pick (fsW m))]).all (fdB (kwB 4)) = false := by
  rw [trF, trF, List.all_cons]
  show ((nmB (.str (S [97])) && kwB 4 (Kd.pick (fsW m)).tr) && _) = false
  rw [(kwW h).2, Bool.and_false, Bool.false_and]
 rw [this]
 simp
abbrev bodyW (m : Nat) : List Nat := (List.replicate m [97, 32, 110, 117, 109, 32, 49, 44, 32]).flatten ++ [97, 32, 116, 101, 120, 116]
theorem deep_kd {k : Kd} (wf : k.wf) (hd : k.depth ≤ 5) (hk : kwB 5 k.tr = false) (hl : k.sh.length ≤ 90000) (ha : ∀ c ∈ k.sh, c < 128) : DeepOk k.sh := by
 obtain ⟨c, r, ec, hc⟩ := sh_hd k
 have e : pKi 5 k.sh = some (k.tr, []) := by
  have := pk_sh (d := 5) (r := []) wf (.inl rfl)
  rw [List.append_nil, if_pos hd] at this
  exact this
 refine deep_of hl ha ec (by omega) (by have := none_ne k []; rwa [List.append_nil] at this) ?_ (.inr ⟨_, e⟩)
 rw [rdB_of e, hk, if_neg (by simp)]
theorem body_f (m : Nat) (hm : m ≤ 1500) : (bodyW m).length ≤ 14000 ∧ ∀ c ∈ bodyW m, c < 128 := by
 refine ⟨?_, asc_app (rep_asc m (by decide)) (by decide)⟩
 rw [List.length_append, rep_len]
 show m * 9 + 6 ≤ _
 omega
theorem deep_w1 {m : Nat} (h : 1 ≤ m) (hm : m ≤ 1500) : DeepOk (cRec ++ [32, 40] ++ bodyW m ++ [41]) := by
 obtain ⟨b1, b2⟩ := body_f m hm
 have e : (Kd.rec_ (fsW m)).sh = cRec ++ [32, 40] ++ bodyW m ++ [41] := by rw [Kd.sh, shW]
 rw [← e]
 refine deep_kd (by unfold Kd.wf; exact ⟨wfW m, by simp⟩) (by rw [Kd.depth, dpW]; decide) (kwW h).1 ?_ ?_
 ·rw [e]; simp only [List.length_append, List.length_cons, List.length_nil] at b1 ⊢; omega
 ·rw [e]; exact asc_app (asc_app (by decide) b2) (by decide)
theorem deep_w2 {m : Nat} (h : 1 ≤ m) (hm : m ≤ 1500) : DeepOk (cPick ++ [32, 40] ++ bodyW m ++ [41]) := by
 obtain ⟨b1, b2⟩ := body_f m hm
 have e : (Kd.pick (fsW m)).sh = cPick ++ [32, 40] ++ bodyW m ++ [41] := by rw [Kd.sh, shW]
 rw [← e]
 refine deep_kd (by unfold Kd.wf; exact ⟨wfW m, by simp⟩) (by rw [Kd.depth, dpW]; decide) (kwW h).2 ?_ ?_
 ·rw [e]; simp only [List.length_append, List.length_cons, List.length_nil] at b1 ⊢; omega
 ·rw [e]; exact asc_app (asc_app (by decide) b2) (by decide)
theorem deep_w3 {m : Nat} (h : 1 ≤ m) (hm : m ≤ 1500) : DeepOk (cRec ++ [32, 40, 97, 32] ++ cPick ++ [32, 40] ++ bodyW m ++ [41, 41]) := by
 obtain ⟨b1, b2⟩ := body_f m hm
 have e : (Kd.rec_ [(S [97], .pick (fsW m))]).sh = cRec ++ [32, 40, 97, 32] ++ cPick ++ [32, 40] ++ bodyW m ++ [41, 41] := by
  rw [Kd.sh, join_cons, Kd.sh, shW, codes_S]
  simp [tlU, shF]
 rw [← e]
 refine deep_kd (by unfold Kd.wf; refine ⟨?_, by simp⟩; unfold wfF; refine ⟨by rw [codes_S]; decide +kernel, ?_, by unfold wfF; trivial⟩; unfold Kd.wf; exact ⟨wfW m, by simp⟩) (by rw [Kd.depth, depthF, depthF, Kd.depth, dpW]; decide) (kwW2 h) ?_ ?_
 ·rw [e]; simp only [List.length_append, List.length_cons, List.length_nil] at b1 ⊢; omega
 ·rw [e]; exact asc_app (asc_app (by decide) b2) (by decide)
abbrev cBt : List Nat := [98, 32, 99, 111, 112, 121, 32, 116, 101, 120, 116]
def plT1 : T := .tup [.str (S [98]), .str (S cCopy), .tup [.str (S cText)]]
theorem pl_bt {r : List Nat} (st : Stop r) : pPl (cBt ++ r) = some (plT1, r) := by
 rw [show cBt ++ r = [98] ++ (32 :: (cCopy ++ (32 :: (cText ++ r)))) from rfl, pPl_app (by decide +kernel) (by decide +kernel), pKi_app g_text st]
 rfl
theorem pl_bts {R : List Nat} : ∀ (m n : Nat), m < n → pLs pPl n ((List.replicate m (44 :: 32 :: cBt)).flatten ++ (41 :: R)) = some (List.replicate m plT1, R)
 | 0, 0, h => by omega
 | 0, n + 1, h => pLs_cl
 | m + 1, 0, h => by omega
 | m + 1, n + 1, h => by
  have st : Stop ((List.replicate m (44 :: 32 :: cBt)).flatten ++ (41 :: R)) := by
   cases m with
   | zero => exact stop_cl
   | succ m => rw [List.replicate_succ, List.flatten_cons]; exact stop_com
  rw [List.replicate_succ, List.flatten_cons, show (44 :: 32 :: cBt) ++ (List.replicate m (44 :: 32 :: cBt)).flatten ++ (41 :: R) = 44 :: 32 :: (cBt ++ ((List.replicate m (44 :: 32 :: cBt)).flatten ++ (41 :: R))) by simp, pLs_com, pl_bt st, Option.bind_some]
  dsimp only
  rw [pl_bts m n (by omega)]
  rfl
theorem rep_sw (A B : List Nat) : ∀ m : Nat, (List.replicate m (A ++ B)).flatten ++ A = A ++ (List.replicate m (B ++ A)).flatten
 | 0 => by simp
 | m + 1 => by rw [List.replicate_succ, List.flatten_cons, List.append_assoc, rep_sw A B m, List.replicate_succ, List.flatten_cons]; simp
abbrev txB (m : Nat) : List Nat := cDoor ++ [97, 32, 48, 32, 40] ++ (List.replicate m (cBt ++ [44, 32])).flatten ++ (cBt ++ [41, 32, 110, 111, 110, 101])
theorem held_b {m : Nat} (h : 1 ≤ m) (hm : m ≤ 199) : Held (txB m) none none := by
 have e : txB m = cDoor ++ ([97] ++ (32 :: 48 :: 32 :: 40 :: (cBt ++ ((List.replicate m (44 :: 32 :: cBt)).flatten ++ (41 :: [32, 110, 111, 110, 101]))))) := by
  have := rep_sw cBt [44, 32] m
  rw [show [44, 32] ++ cBt = 44 :: 32 :: cBt from rfl] at this
  show cDoor ++ [97, 32, 48, 32, 40] ++ (List.replicate m (cBt ++ [44, 32])).flatten ++ (cBt ++ (41 :: [32, 110, 111, 110, 101])) = _
  rw [← List.append_assoc, List.append_assoc (cDoor ++ _), this]
  simp
 have hp : pPa (txB m) = some (.tup [.str (S [97]), .int 0, .tup (plT1 :: List.replicate m plT1), .non], []) := by
  have st : Stop ((List.replicate m (44 :: 32 :: cBt)).flatten ++ (41 :: [32, 110, 111, 110, 101])) := by
   cases m with
   | zero => exact stop_cl
   | succ m => rw [List.replicate_succ, List.flatten_cons]; exact stop_com
  rw [e, pPa_0 (by decide +kernel), show cBt ++ ((List.replicate m (44 :: 32 :: cBt)).flatten ++ (41 :: [32, 110, 111, 110, 101])) = 98 :: ([32, 99, 111, 112, 121, 32, 116, 101, 120, 116] ++ ((List.replicate m (44 :: 32 :: cBt)).flatten ++ (41 :: [32, 110, 111, 110, 101]))) from rfl, pPs_pl (by decide), show 98 :: ([32, 99, 111, 112, 121, 32, 116, 101, 120, 116] ++ ((List.replicate m (44 :: 32 :: cBt)).flatten ++ (41 :: [32, 110, 111, 110, 101]))) = cBt ++ ((List.replicate m (44 :: 32 :: cBt)).flatten ++ (41 :: [32, 110, 111, 110, 101])) from rfl, pl_bt st, Option.bind_some]
  dsimp only
  rw [pl_bts m _ (by rw [List.length_append, rep_len]; show m < m * 13 + 6 + 1; omega)]
  rfl
 have hb : paB (.tup [.str (S [97]), .int 0, .tup (plT1 :: List.replicate m plT1), .non]) = false := by
  show (nmB (.str (S [97])) && (sdB (.int 0) && (((plT1 :: List.replicate m plT1).all plB && decide ((plT1 :: List.replicate m plT1).map nmOf).Nodup) && true))) = false
  rw [decide_eq_false (fun z => by
   obtain ⟨m, rfl⟩ : ∃ i, m = i + 1 := ⟨m - 1, by omega⟩
   rw [List.replicate_succ, List.map_cons, List.map_cons, List.nodup_cons] at z
   exact z.1 (by simp))]
  simp
 have ll : (txB m).length ≤ 5000 := by
  simp only [List.length_append, rep_len, List.length_cons, List.length_nil]; omega
 rw [show txB m = cDoor ++ ([97, 32, 48, 32, 40] ++ (List.replicate m (cBt ++ [44, 32])).flatten ++ (cBt ++ [41, 32, 110, 111, 110, 101])) by simp only [List.append_assoc]] at hp ll ⊢
 refine held_p (by omega) ?_ (by rw [rdB_of hp, hb, if_neg (by simp)]) fun x y us d ee => ?_
 ·exact asc_app (by decide) (asc_app (asc_app (by decide) (rep_asc m (by decide))) (by decide))
 ·rw [hp] at ee
  cases ee
  rw [List.length_cons, List.length_replicate]
  omega
end Tg
set_option Elab.async false
set_option linter.all false
set_option maxRecDepth 100000
set_option maxHeartbeats 4000000
namespace Tg
open PySem L2 L3
local macro_rules | `(tactic| and_intros) => `(tactic| repeat (first
 | with_reducible refine t_seq ?_ | with_reducible refine t_if ?_ | with_reducible refine t_op ?_ | with_reducible refine t_T ?_ | with_reducible refine t_c ?_
 | ((with_reducible apply t_var); exact rfl) | with_reducible refine t_set ?_ | with_reducible refine t_ret ?_ | with_reducible refine t_retN ?_ | with_reducible refine t_drop ?_ | with_reducible refine t_next ?_ | with_reducible refine t_cnt ?_
 | with_reducible refine t_ix0 ?_ | with_reducible refine t_ix1 ?_ | with_reducible refine t_J ?_ | with_reducible refine t_eqS ?_ | with_reducible refine t_eqI ?_ | with_reducible refine t_neS ?_ | with_reducible refine t_neI ?_ | with_reducible refine t_bl ?_
 | with_reducible refine t_band ?_ | with_reducible refine t_bor ?_ | with_reducible refine t_bnot ?_ | with_reducible refine t_and ?_ | with_reducible refine t_or ?_ | with_reducible refine t_not ?_ | with_reducible refine t_eif ?_
 | with_reducible refine t_cons ?_ | with_reducible refine t_nil ?_ | with_reducible refine t_tup ?_ | with_reducible refine t_lst ?_ | with_reducible refine t_call ?_ | with_reducible refine t_callX ?_ | with_reducible refine t_cb ?_
 | with_reducible refine t_bm ?_ | with_reducible refine t_bm0 ?_ | with_reducible refine t_inst ?_ | with_reducible refine t_tru ?_ | with_reducible refine t_asg ?_ | with_reducible refine t_hn ?_ | ((with_reducible refine t_ht ?_ ?_); exact rfl) | with_reducible refine t_hc ?_ | with_reducible refine t_h0 ?_ | with_reducible refine t_hs ?_
 | with_reducible refine t_un ?_ | with_reducible refine t_neg ?_ | with_reducible refine t_sl ?_ | with_reducible refine t_on ?_ | with_reducible refine t_os ?_ | with_reducible refine t_oi ?_ | with_reducible refine t_rev ?_ | with_reducible refine t_for ?_ | with_reducible refine t_itp ?_ | with_reducible refine t_tp ?_ | with_reducible refine t_comp ?_ | with_reducible refine t_bt ?_ | with_reducible refine t_raise ?_ | with_reducible refine t_rg1 ?_ | with_reducible refine t_zp ?_ | with_reducible refine t_en ?_ | with_reducible refine t_ils ?_ | with_reducible refine t_ist ?_ | with_reducible refine t_str ?_
 | with_reducible refine t_2i ?_ | ((with_reducible apply t_ixR); (first | assumption | exact up_same); (first | exact at0 | exact at1)) | ((with_reducible apply t_hsub); (first | assumption | exact up_same); exact rfl)
 | with_reducible refine And.intro (rfl : T.non = T.non) ?_ | with_reducible refine t_try ?_ | with_reducible refine t_lz ?_ | with_reducible refine t_e0 ?_ | with_reducible refine t_chain ?_ | ((with_reducible apply t_inT); exact rfl; exact rfl; exact rfl) | with_reducible refine t_tyS ?_ | with_reducible refine t_1t ?_ | with_reducible refine t_2t ?_ | with_reducible refine t_eqSI ?_ | with_reducible refine t_eqIS ?_ | with_reducible refine t_neSI ?_ | with_reducible refine t_neIS ?_ | with_reducible refine t_gT ?_ | with_reducible refine t_lenT ?_
 | with_reducible refine t_fld ?_ | ((with_reducible apply t_fldR); (first | assumption | exact up_same); exact rfl) | with_reducible refine t_sfld ?_ | ((with_reducible apply t_sfldR); (first | assumption | exact up_same); exact rfl) | with_reducible refine t_sfa ?_ | ((with_reducible apply t_sfaR); (first | assumption | exact up_same); exact rfl) | ((with_reducible apply t_sfaE); (first | assumption | exact up_same); exact rfl)
 | with_reducible refine t_meth ?_ | ((with_reducible apply t_methR); (first | assumption | exact up_same); exact rfl) | with_reducible refine t_make ?_ | with_reducible refine t_fs ?_ | with_reducible refine t_jc ?_ | with_reducible refine t_fm ?_
 | ((with_reducible refine t_len ?_ ?_); exact rfl)
 | ((with_reducible refine t_I ?_ ?_); (first | exact ⟨by decide, by decide, by decide⟩ | exact ⟨by decide, by decide⟩ | exact Or.inl ⟨by decide, by decide⟩ | exact Or.inr ⟨by decide, by decide⟩ | ((show (0 : Int) < _); decide)))
 | ((with_reducible refine c_ifT ?_ ?_); (first | exact rfl | decide +kernel)) | ((with_reducible refine c_ifF ?_ ?_); (first | exact rfl | decide +kernel))))
inductive Sm : Nat → T → Prop
 | non {d : Nat} : Sm d .non
 | int {d : Nat} (i : Int) : Sm d (.int i)
 | str {d : Nat} {z : Str} (l : z.length ≤ 1000) : Sm d (.str z)
 | tup {d : Nat} {ts : List T} (l : ts.length ≤ 999) (h : ∀ t ∈ ts, Sm d t) : Sm (d + 1) (.tup ts)
theorem Sm.up {d : Nat} {t : T} (h : Sm d t) : ∀ {e : Nat}, d ≤ e → Sm e t := by
 induction h with
 | non => exact fun _ => .non
 | int i => exact fun _ => .int i
 | str l => exact fun _ => .str l
 | @tup d ts l _ ih =>
  intro e he
  obtain ⟨e, rfl⟩ : ∃ e', e = e' + 1 := ⟨e - 1, by omega⟩
  exact .tup l fun t ht => ih t ht (by omega)
theorem Sm.pt {Γ : Gp} {d : Nat} {t : T} (h : Sm d t) : Pt Γ t := by
 induction h with
 | non => exact .non
 | int i => exact .int i
 | str l => exact .str (by omega)
 | tup l _ ih => exact .tup (by omega) ih
theorem kwB_sm : ∀ (d : Nat) (t : T), kwB d t = true → Sm (3 * d) t
 | 0, t, h => by unfold kwB at h; cases h
 | d + 1, t, h => by
  rw [show 3 * (d + 1) = (3 * d + 1 + 1) + 1 by omega]
  unfold kwB at h
  split at h
  ·rename_i z _
   have := of_decide_eq_true h
   rw [this]
   exact .tup (by show 1 ≤ 999; decide) fun t ht => by rw [List.mem_singleton.mp ht]; exact .str (by decide +kernel)
  ·rename_i d' z x e0
   cases e0
   have hz : Sm (3 * d + 1 + 1) (.str z) ∧ Sm (3 * d + 1 + 1) x := by
    split at h
    ·rename_i e
     subst e
     refine ⟨.str (by decide +kernel), ?_⟩
     cases x with
     | int i => exact .int i
     | _ => cases h
    split at h
    ·rename_i e
     subst e
     exact ⟨.str (by decide +kernel), (kwB_sm d x h).up (by omega)⟩
    rw [Bool.and_eq_true, Bool.or_eq_true] at h
    obtain ⟨h1, h2⟩ := h
    refine ⟨?_, ?_⟩
    ·rcases h1 with h1 | h1 <;> (rw [of_decide_eq_true h1]; exact .str (by decide +kernel))
    ·cases x with
     | tup ts =>
      rw [fdsB_eq] at h2
      simp only [Bool.and_eq_true, decide_eq_true_eq] at h2
      refine .tup (by omega) fun u hu => ?_
      obtain ⟨z, b, rfl, hz, hb⟩ := fdB_t (List.all_eq_true.mp h2.1.2 u hu)
      rw [nmB_eq] at hz
      simp only [Bool.and_eq_true, decide_eq_true_eq] at hz
      exact .tup (by show 2 ≤ 999; decide) fun v hv => by
       simp only [List.mem_cons, List.not_mem_nil, or_false] at hv
       rcases hv with rfl | rfl
       ·exact .str (by omega)
       ·exact kwB_sm d _ hb
     | _ => cases h2
   exact .tup (by show 2 ≤ 999; decide) fun v hv => by
    simp only [List.mem_cons, List.not_mem_nil, or_false] at hv
    rcases hv with rfl | rfl
    ·exact hz.1
    ·exact hz.2
  ·cases h
theorem paB_sm {t : T} (h : paB t = true) (hf : ∀ x y us d, t = .tup [x, y, .tup us, d] → us.length ≤ 999) : Sm 20 t := by
 unfold paB at h
 split at h
 ·rename_i a b c d
  simp only [Bool.and_eq_true] at h
  obtain ⟨h1, h2, h3, h4⟩ := h
  have sa : Sm 19 a := by
   obtain ⟨z, rfl⟩ := nmB_str h1
   rw [nmB_eq] at h1
   simp only [Bool.and_eq_true, decide_eq_true_eq] at h1
   exact .str (by omega)
  have sb : Sm 19 b := by
   cases b with
   | int i => exact .int i
   | _ => cases h2
  have sc : Sm 19 c := by
   cases c with
   | tup us =>
    have l := hf a b us d rfl
    rw [plsB_eq, Bool.and_eq_true] at h3
    refine .tup (d := 18) l fun u hu => ?_
    have hu := List.all_eq_true.mp h3.1 u hu
    obtain ⟨z, b, c, rfl⟩ := plB_t hu
    have hu : (nmB (.str z) && (wyB b && kwB 5 c)) = true := hu
    rw [nmB_eq] at hu
    simp only [Bool.and_eq_true, decide_eq_true_eq] at hu
    refine .tup (d := 17) (by show 3 ≤ 999; decide) fun v hv => ?_
    simp only [List.mem_cons, List.not_mem_nil, or_false] at hv
    rcases hv with rfl | rfl | rfl
    ·exact .str (by omega)
    ·cases v with
     | str w =>
      have := of_decide_eq_true hu.2.1
      simp only [List.mem_cons, List.not_mem_nil, or_false] at this
      rcases this with rfl | rfl | rfl | rfl <;> exact .str (by decide +kernel)
     | _ => cases hu.2.1
    ·exact (kwB_sm 5 _ hu.2.2).up (by omega)
   | _ => cases h3
  have sd : Sm 19 d := by
   cases d with
   | non => exact .non
   | _ => exact (kwB_sm 5 _ h4).up (by omega)
  exact .tup (d := 19) (by show 4 ≤ 999; decide) fun v hv => by
   simp only [List.mem_cons, List.not_mem_nil, or_false] at hv
   rcases hv with rfl | rfl | rfl | rfl
   ·exact sa
   ·exact sb
   ·exact sc
   ·exact sd
 ·cases h
section
variable {P: Program}{w: World}{K: PySem.W.Frag}{mg: Str → Option Value}{base: Heap}{f: Addr}{fd: FuncData}{v1 v2: Value}
abbrev s_law_same : Stmt := top 34
theorem sc_law_same : FnScope ["found", "due"] ["found", "due"] (defScope s_law_same) := ⟨rfl, rfl, rfl, by decide +kernel, rfl, by decide +kernel, by decide +kernel⟩
def spSm (n : Nat) : Sp3 := fun ts Γ Z _ => ∃ (t : T) (d : Nat), ts = [t, t] ∧ Sm d t ∧ d < n ∧ Z (.bl true) Γ
theorem ok_same {n lv : Nat} (F : Fun K "_law_same" "_law_same" s_law_same f fd) (c_law_same : Cl3 P w K mg base "_law_same" lv ["found", "due"] (spSm n)) (z_isinstance : mg "isinstance" = none) (z_tuple : mg "tuple" = none) (z_len : mg "len" = none) (z_all : mg "all" = none) (z_zip : mg "zip" = none) (z_str : mg "str" = none) (z_int : mg "int" = none) (z_bool : mg "bool" = none) : FnOk P w K mg base CX0 (lv + 1) f fd ["found", "due"] (liSp (spSm (n + 1))) := by
 refine okd F sc_law_same (fun ts Γ Z Y h => ?_) (fun cdv A outer s H E ts Γ Z Y hr h => ?_)
 ·obtain ⟨t, d, rfl, _⟩ := h
  rfl
 obtain ⟨t, d, rfl, hs, hd, q⟩ := h
 refine ⟨_, (qss_cons (qs_if (qt_val (qe_inst rfl z_isinstance rfl z_tuple bt_tuple (qv 1))) (qss_cons (qs_if (PW.pt (qw_or (qt_not (qt_val (qe_inst rfl z_isinstance rfl z_tuple bt_tuple (qv 0)))) (qw_or1 (qtc oq_ne (qe_callB cq_len rfl z_len PySem.boot_len (qa_cons (qv 0) qa_nil)) (qe_callB cq_len rfl z_len PySem.boot_len (qa_cons (qv 1) qa_nil)))))) (qss_cons (qs_ret qe_bl)
  qss_nil) qss_nil)
  (qss_cons (qs_ret (qe_callB (cq_all rfl) rfl z_all PyProof.Rows.boot_all (qa_cons (qe_comp (own := ["one", "other"]) (cap := []) cok rfl (qi_zip rfl z_zip (qa_cons (qv 0) (qa_cons (qv 1) qa_nil))) (fun _ _ _ _ => (qg_tup (n := 2) rfl (qgs_cons (qg_name (i := 0) (show List.Nodup (["one", "other"] : List Str) from by decide +kernel) rfl (Or.inl rfl) (Or.inr rfl)) (qgs_cons (qg_name (i := 1) (show List.Nodup (["one", "other"] : List Str) from by decide +kernel) rfl (Or.inl rfl) (Or.inr rfl)) qgs_nil)))) (fun _ _ _ _ => qts_nil) (fun _ _ _ _ => (qcl c_law_same hr (qa_cons (qv 0) (qa_cons (qv 1) qa_nil))))) qa_nil)))
  qss_nil)) qss_nil)
  (qss_cons (qs_if (qtc oq_isN (qv 1) qe_non) (qss_cons (qs_ret (qec oq_isN (qv 0) qe_non))
  qss_nil) qss_nil)
  (qss_cons (qs_if (qt_val (qe_inst rfl z_isinstance rfl z_str bt_str (qv 1))) (qss_cons (qs_ret (qe_and (qe_inst rfl z_isinstance rfl z_str bt_str (qv 0)) (qe_one (qec oq_eq (qv 0) (qv 1)))))
  qss_nil) qss_nil)
  (qss_cons (qs_ret (qe_and (qe_inst rfl z_isinstance rfl z_int bt_int (qv 0)) (qe_and (qe_not (qe_inst rfl z_isinstance rfl z_bool bt_bool (qv 0))) (qe_one (qec oq_eq (qv 0) (qv 1))))))
  qss_nil)))), ?_⟩
 simp only [start3]
 have pt : Pt Γ t := hs.pt
 and_intros
 refine t_in (in_tup pt) ?_
 cases hs with
 | non =>
  and_intros
  and_intros
  exact drop0 .refl q
 | int i =>
  and_intros
  and_intros
  and_intros
  refine t_in (in_str pt) ?_
  and_intros
  and_intros
  refine t_in (in_int pt) ?_
  and_intros
  and_intros
  refine t_in (in_bl pt) ?_
  and_intros
  and_intros
  rw [decide_eq_true rfl]
  exact drop0 .refl q
 | @str _ z l =>
  and_intros
  and_intros
  and_intros
  refine t_in (in_str pt) ?_
  and_intros
  and_intros
  refine t_in (in_str pt) ?_
  and_intros
  and_intros
  rw [decide_eq_true rfl]
  exact drop0 .refl q
 | @tup d ts l h =>
  and_intros
  and_intros
  refine t_in (in_tup pt) ?_
  and_intros
  refine c_ifF (by rw [decide_eq_true rfl]; rfl) ?_
  and_intros
  rw [zip_self]
  refine ⟨Nat.le_of_lt (small1000 (by rw [List.length_map]; omega)), ?_⟩
  refine ⟨fun rest τ ys Γ' => ∃ (ds rs : List T) (o0 o1 : Option T), rest = rs.map (fun y => T.tup [y, y]) ∧ ts = ds ++ rs ∧ τ = [o0, o1] ∧ ys = (ds.map fun _ => true).map T.bl ∧ Γ' = Γ, ⟨[], ts, none, none, rfl, rfl, rfl, rfl, rfl⟩, ?_, ?_⟩
  ·rintro τ ys Γ' ⟨ds, rs, o0, o1, er, ez, rfl, rfl, rfl⟩
   refine ⟨trivial, ?_⟩
   intro p1 hp1; generalize e1 : up _ p1 (O.lst _) = Γ1; have g1 := al_g e1; have l1 := al_l e1 hp1
   and_intros
   refine ⟨p1, _, rfl, it3_l g1, ?_⟩
   rw [show (ds.map fun _ => true).all id = true by rw [List.all_eq_true]; intro b hb; obtain ⟨_, _, rfl⟩ := List.mem_map.mp hb; rfl]
   exact drop0 l1 q
  ·rintro x r τ ys Γ' ⟨ds, rs, o0, o1, er, ez, rfl, rfl, rfl⟩
   cases rs with
   | nil => cases er
   | cons y rs =>
    cases er
    refine ⟨trivial, ?_⟩
    and_intros
    refine ⟨y, d, rfl, h y (by rw [ez]; simp), by omega, ?_⟩
    exact ⟨ds ++ [y], rs, _, _, rfl, by rw [ez]; simp, rfl, by rw [List.map_append, List.map_append]; rfl, rfl⟩
theorem kw_all {f1 f2 : Addr} {fd1 fd2 : FuncData} (F : Fun K "is_kind_within" "is_kind_within" s_is_kind_within f fd) (m : mg "is_kind_within" = some (.ref f)) (kp : PySem.W.keepIn K (.ref f) = true) (b : Binds K fd ["thing", "depth"] [])
  (F_is_field : Fun K "is_field" "is_field" s_is_field f1 fd1) (m_is_field : mg "is_field" = some (.ref f1)) (kp_is_field : PySem.W.keepIn K (.ref f1) = true) (b_is_field : Binds K fd1 ["thing", "depth"] [])
  (F_are_fields : Fun K "are_fields" "are_fields" s_are_fields f2 fd2) (m_are_fields : mg "are_fields" = some (.ref f2)) (kp_are_fields : PySem.W.keepIn K (.ref f2) = true) (b_are_fields : Binds K fd2 ["thing", "depth"] [])
  (C1 : Cl3 P w K mg base "is_whole" 1 ["thing"] spWh) (C2 : Cl3 P w K mg base "is_name" 1 ["thing"] spNmB) (m_WIDEST_NUM : mg "WIDEST_NUM" = some v1) (g_WIDEST_NUM : GlobIs v1 (.int 4)) (m_MOST_FIELDS : mg "MOST_FIELDS" = some v2) (g_MOST_FIELDS : GlobIs v2 (.int 6)) (z_isinstance : mg "isinstance" = none) (z_tuple : mg "tuple" = none) (z_str : mg "str" = none) (z_len : mg "len" = none) (z_all : mg "all" = none) :
  ∀ n : Nat, Cl3 P w K mg base "is_kind_within" (3 * n + 1) ["thing", "depth"] (spKw n)
 | 0 => ⟨f, fd, noC fun ts Γ Z Y h => by obtain ⟨_, d, _, h, _⟩ := h; omega, m, kp, b⟩
 | n + 1 => by
  have c := kw_all F m kp b F_is_field m_is_field kp_is_field b_is_field F_are_fields m_are_fields kp_are_fields b_are_fields C1 C2 m_WIDEST_NUM g_WIDEST_NUM m_MOST_FIELDS g_MOST_FIELDS z_isinstance z_tuple z_str z_len z_all n
  have c1 : Cl3 P w K mg base "is_field" (3 * n + 2) ["thing", "depth"] (spFd n) := ⟨f1, fd1, ok_is_field F_is_field C2 c z_isinstance z_tuple z_len, m_is_field, kp_is_field, b_is_field⟩
  have c2 : Cl3 P w K mg base "are_fields" (3 * n + 3) ["thing", "depth"] (spFs n) := ⟨f2, fd2, ok_are_fields F_are_fields m_MOST_FIELDS g_MOST_FIELDS c1 z_isinstance z_tuple z_len z_all, m_are_fields, kp_are_fields, b_are_fields⟩
  exact ⟨f, fd, by rw [show 3 * (n + 1) + 1 = 3 * n + 4 by omega]; exact ok_is_kw F m_WIDEST_NUM g_WIDEST_NUM C1 c c2 z_isinstance z_tuple z_str z_len, m, kp, b⟩
theorem same_all (F : Fun K "_law_same" "_law_same" s_law_same f fd) (m : mg "_law_same" = some (.ref f)) (kp : PySem.W.keepIn K (.ref f) = true) (b : Binds K fd ["found", "due"] []) (z_isinstance : mg "isinstance" = none) (z_tuple : mg "tuple" = none) (z_len : mg "len" = none) (z_all : mg "all" = none) (z_zip : mg "zip" = none) (z_str : mg "str" = none) (z_int : mg "int" = none) (z_bool : mg "bool" = none) :
  ∀ n : Nat, Cl3 P w K mg base "_law_same" n ["found", "due"] (spSm n)
 | 0 => ⟨f, fd, noC fun ts Γ Z Y h => by obtain ⟨_, d, _, _, h, _⟩ := h; omega, m, kp, b⟩
 | n + 1 => ⟨f, fd, ok_same F (same_all F m kp b z_isinstance z_tuple z_len z_all z_zip z_str z_int z_bool n) z_isinstance z_tuple z_len z_all z_zip z_str z_int z_bool, m, kp, b⟩
end
theorem sIx_m1 {n d : Nat} : HT.sIx n d (some (-1)) = n - 1 := by
 show (if (-1 : Int) < 0 then (-1 + (n : Int)).toNat else min (-1 : Int).toNat n) = _
 rw [if_pos (by decide)]
 omega
theorem cut_m1 {l : List Nat} : cutN l (some (-1)) none = l.drop (l.length - 1) := by
 unfold cutN
 rw [sIx_m1]
 show (l.drop (l.length - 1)).take (l.length - (l.length - 1)) = _
 rw [List.take_of_length_le (by rw [List.length_drop]; omega)]
theorem cut_n1 {l : List Nat} : cutN l none (some (-1)) = l.take (l.length - 1) := by
 unfold cutN
 rw [sIx_m1]
 show (l.drop 0).take (l.length - 1 - 0) = _
 rw [List.drop_zero]
 rfl
section
variable {P: Program}{w: World}{K: PySem.W.Frag}{mg: Str → Option Value}{base: Heap}{f: Addr}{fd: FuncData}
abbrev s_law_ended : Stmt := top 36
theorem sc_law_ended : FnScope ["signs", "way"] ["signs", "way"] (defScope s_law_ended) := ⟨rfl, rfl, rfl, by decide +kernel, rfl, by decide +kernel, by decide +kernel⟩
def spEnd : Sp3 := fun ts Γ Z _ => ∃ (l : List Nat) (way : Int), ts = [.str (S l), .int way] ∧ l.length ≤ 90000 ∧ ∀ l' wh, En l l' wh → Z (.tup [.str (S l'), .bl wh]) Γ
theorem ok_ended (F : Fun K "_law_ended" "_law_ended" s_law_ended f fd) : FnOk P w K mg base CX0 1 f fd ["signs", "way"] (liSp spEnd) := by
 refine okd F sc_law_ended (fun ts Γ Z Y h => ?_) (fun cdv A outer s H E ts Γ Z Y hr h => ?_)
 ·obtain ⟨l, way, rfl, _⟩ := h
  rfl
 obtain ⟨l, way, rfl, ll, q⟩ := h
 refine ⟨_, (qss_cons (qs_if (PW.pt (qw_and (qtc oq_eq (qv 1) qe_int) (qw_and1 (qtc oq_eq (qe_slice sq_str (qv 0) (qo_some (qe_neg qe_int)) qo_none) qe_str)))) (qss_cons (qs_ret (qe_tup (qa_cons (qe_slice sq_str (qv 0) qo_none (qo_some (qe_neg qe_int))) (qa_cons qe_bl qa_nil))))
  qss_nil) qss_nil)
  (qss_cons (qs_if (qtc oq_eq (qv 1) qe_int) (qss_cons (qs_ret (qe_tup (qa_cons (qe_op oq_adds (qv 0) qe_str) (qa_cons qe_bl qa_nil))))
  qss_nil) qss_nil)
  (qss_cons (qs_if (qtc oq_eq (qv 1) qe_int) (qss_cons (qs_ret (qe_tup (qa_cons (qe_op oq_adds (qv 0) qe_str) (qa_cons qe_bl qa_nil))))
  qss_nil) qss_nil)
  (qss_cons (qs_ret (qe_tup (qa_cons (qv 0) (qa_cons qe_bl qa_nil))))
  qss_nil)))), ?_⟩
 simp only [start3]
 have sl := sizeLine_eq
 have tl : (S l).length ≤ sizeLine := by rw [S_len]; omega
 and_intros
 refine c_if (fun c => ?_) (fun c => ?_)
 ·have e5 : way = 5 := V.int.inj (of_decide_eq_true c)
  subst e5
  and_intros
  refine ⟨tl, fun y hy => ?_⟩
  have ey : y = S (l.drop (l.length - 1)) := S_of (by rw [hy, codes_S, cut_m1])
  subst ey
  and_intros
  by_cases cc : l.drop (l.length - 1) = [41]
  ·rw [cc]
   refine c_ifT (by decide +kernel) ?_
   and_intros
   refine ⟨tl, fun y hy => ?_⟩
   have ey : y = S (l.take (l.length - 1)) := S_of (by rw [hy, codes_S, cut_n1])
   subst ey
   and_intros
   exact drop0 .refl (q _ _ (.inr ⟨rfl, .inl (by conv => lhs; rw [← List.take_append_drop (l.length - 1) l, cc])⟩))
  ·refine c_ifF (dS e_cl cc) ?_
   and_intros
   exact drop0 .refl (q l true (.inl ⟨rfl, rfl⟩))
 ·and_intros
  refine c_if (fun c6 => ?_) (fun c6 => ?_)
  ·and_intros
   rw [e_cl]
   refine t_adds ?_ ?_
   ·rw [S_len, S_len]; show _ + 1 ≤ _; omega
   rw [S_app]
   and_intros
   exact drop0 .refl (q _ _ (.inr ⟨rfl, .inr (.inl rfl)⟩))
  ·and_intros
   refine c_if (fun c7 => ?_) (fun c7 => ?_)
   ·and_intros
    rw [e_sp]
    refine t_adds ?_ ?_
    ·rw [S_len, S_len]; show _ + 1 ≤ _; omega
    rw [S_app]
    and_intros
    exact drop0 .refl (q _ _ (.inr ⟨rfl, .inr (.inr rfl)⟩))
   ·and_intros
    exact drop0 .refl (q l true (.inl ⟨rfl, rfl⟩))
abbrev s_law_deep : Stmt := top 39
theorem sc_law_deep : FnScope ["number", "many", "head", "signs"] ["number"] (defScope s_law_deep) := ⟨rfl, rfl, rfl, by decide +kernel, rfl, by decide +kernel, by decide +kernel⟩
theorem repS_S (x : List Nat) (n : Nat) : repS (S x) n = S ((List.replicate n x).flatten) := S_of (by rw [repS_list, codes_S])
def spDp : Sp3 := fun ts Γ Z _ => ∃ n : Int, ts = [.int n] ∧ 0 ≤ n ∧ ∀ l, DeepOk l → Z (.str (S l)) Γ
theorem e_an : ("a num 1, " : Str) = S [97, 32, 110, 117, 109, 32, 49, 44, 32] := by decide +kernel
theorem e_at : ("a text" : Str) = S [97, 32, 116, 101, 120, 116] := by decide +kernel
theorem atS {xs : List T} {i : Nat} {z : Str} {l : List Nat} (h : xs[i]? = some (.str z)) (e : z = S l) : atI xs (i : Int) = some (.str (S l)) := by rw [← e]; exact atI_nat h
theorem wide_at {n : Int} (h : 0 ≤ n) : ∃ hd : List Nat, atI [T.str "rec (", .str "pick (", .str "rec (a pick (", .str "rec ("] (n % 4) = some (.str (S hd)) ∧ hd.length ≤ 13 ∧ ∀ m, 1 ≤ m → m ≤ 1500 → DeepOk (hd ++ bodyW m ++ (List.replicate (1 + if decide (V.int (n % 4) = V.int 2) = true then 1 else 0) [41]).flatten) := by
 have h1 : 0 ≤ n % 4 := Int.emod_nonneg _ (by decide)
 have h2 : n % 4 < 4 := Int.emod_lt_of_pos _ (by decide)
 have c : n % 4 = 0 ∨ n % 4 = 1 ∨ n % 4 = 2 ∨ n % 4 = 3 := by omega
 rcases c with e | e | e | e <;> rw [e]
 ·exact ⟨cRec ++ [32, 40], atS (i := 0) rfl (by decide +kernel), by decide, fun m a b => deep_w1 a b⟩
 ·exact ⟨cPick ++ [32, 40], atS (i := 1) rfl (by decide +kernel), by decide, fun m a b => deep_w2 a b⟩
 ·exact ⟨cRec ++ [32, 40, 97, 32] ++ cPick ++ [32, 40], atS (i := 2) rfl (by decide +kernel), by decide, fun m a b => deep_w3 a b⟩
 ·exact ⟨cRec ++ [32, 40], atS (i := 3) rfl (by decide +kernel), by decide, fun m a b => deep_w1 a b⟩
theorem deep_at {n : Int} (h : 0 ≤ n) : ∃ hd : List Nat, atI [T.str "row ", .str "rec (a ", .str "pick (abcdefgh ", .str "rec (a num 1, b "] (n % 4) = some (.str (S hd)) ∧ hd ∈ hds := by
 have h1 : 0 ≤ n % 4 := Int.emod_nonneg _ (by decide)
 have h2 : n % 4 < 4 := Int.emod_lt_of_pos _ (by decide)
 have c : n % 4 = 0 ∨ n % 4 = 1 ∨ n % 4 = 2 ∨ n % 4 = 3 := by omega
 rcases c with e | e | e | e <;> rw [e]
 ·exact ⟨hds[0], atS (i := 0) rfl (by decide +kernel), by decide⟩
 ·exact ⟨hds[1], atS (i := 1) rfl (by decide +kernel), by decide⟩
 ·exact ⟨hds[2], atS (i := 2) rfl (by decide +kernel), by decide⟩
 ·exact ⟨hds[3], atS (i := 3) rfl (by decide +kernel), by decide⟩
theorem ok_deep (F : Fun K "_law_deep" "_law_deep" s_law_deep f fd) (z_int : mg "int" = none) : FnOk P w K mg base CX0 1 f fd ["number"] (liSp spDp) := by
 refine okd F sc_law_deep (fun ts Γ Z Y h => ?_) (fun cdv A outer s H E ts Γ Z Y hr h => ?_)
 ·obtain ⟨n, rfl, _⟩ := h
  rfl
 obtain ⟨n, rfl, n0, q⟩ := h
 refine ⟨_, (qss_cons (qst (i := 1) sc_law_deep.nd (qe_op oq_add qe_int (qe_op oq_mod (qe_op oq_fdiv (qv 0) qe_int) qe_int)))
  (qss_cons (qs_if (qtc oq_eq (qe_op oq_mod (qe_op oq_fdiv (qv 0) qe_int) qe_int) qe_int) (qss_cons (qst (i := 2) sc_law_deep.nd (qix (qe_lst (qa_cons qe_str (qa_cons qe_str (qa_cons qe_str (qa_cons qe_str qa_nil))))) (qe_op oq_mod (qv 0) qe_int)))
  (qss_cons (qs_ret (qe_op oq_adds (qe_op oq_adds (qe_op oq_adds (qv 2) (qe_op oq_mulT qe_str (qv 1))) qe_str) (qe_op oq_muls qe_str (qe_op oq_add qe_int (qe_callTy cq_intB rfl z_int bt_int (qa_cons (qec oq_eq (qe_op oq_mod (qv 0) qe_int) qe_int) qa_nil))))))
  qss_nil)) qss_nil)
  (qss_cons (qst (i := 2) sc_law_deep.nd (qix (qe_lst (qa_cons qe_str (qa_cons qe_str (qa_cons qe_str (qa_cons qe_str qa_nil))))) (qe_op oq_mod (qv 0) qe_int)))
  (qss_cons (qst (i := 3) sc_law_deep.nd (qe_op oq_adds (qe_op oq_mulT (qv 2) (qv 1)) qe_str))
  (qss_cons (qs_cut (qs_if (PW.pt (qw_and (qtc oq_gt (qe_op oq_mod (qv 0) qe_int) qe_int) (qw_and1 (qtc oq_gt (qe_op oq_mod (qe_op oq_fdiv (qv 0) qe_int) qe_int) qe_int)))) (qss_cons (qst (i := 3) sc_law_deep.nd (qe_op oq_adds (qv 3) (qe_op oq_mulT qe_str (qe_op oq_add (qe_op oq_sub (qv 1) (qe_op oq_mod (qe_op oq_fdiv (qv 0) qe_int) qe_int)) qe_int))))
  qss_nil) qss_nil))
  (qss_cons (qs_ret (qv 3))
  qss_nil)))))), ?_⟩
 simp only [start3]
 have sl := sizeLine_eq
 have m1 : 0 ≤ n / 12 % 1496 := Int.emod_nonneg _ (by decide)
 have m2 : n / 12 % 1496 < 1496 := Int.emod_lt_of_pos _ (by decide)
 obtain ⟨m, hm⟩ : ∃ m : Nat, 5 + n / 12 % 1496 = m := ⟨(5 + n / 12 % 1496).toNat, by omega⟩
 and_intros
 rw [hm]
 refine c_if (fun c => ?_) (fun c => ?_)
 ·obtain ⟨hd, e1, l1, dk⟩ := wide_at n0
  and_intros
  intro p1 hp1; generalize ep1 : up _ p1 (O.lst _) = Γ1; have g1 := al_g ep1; have lp1 := al_l ep1 hp1
  and_intros
  refine t_ixR g1 e1 ?_
  and_intros
  refine ⟨_, _, rfl, rfl, by omega, by omega, by decide +kernel, ?_⟩
  dsimp only
  rw [e_an, repS_S, Int.toNat_natCast]
  refine t_adds ?_ ?_
  ·rw [S_len, S_len, rep_len]; show _ + m * 9 ≤ _; omega
  rw [S_app]
  and_intros
  rw [e_at]
  refine t_adds ?_ ?_
  ·rw [S_len, S_len, List.length_append, rep_len]; show _ + m * 9 + 6 ≤ _; omega
  rw [S_app]
  and_intros
  refine ⟨_, rfl, ?_⟩
  have dk := dk m (by omega) (by omega)
  have fin : ∀ b : Bool, DeepOk (hd ++ bodyW m ++ (List.replicate (1 + if b = true then 1 else 0) [41]).flatten) → ∀ (k : Int) (cl : Nat), k.toNat = cl → cl = (1 + if b = true then 1 else 0) → dropK Z (.str (S (hd ++ bodyW m ++ (List.replicate k.toNat [41]).flatten))) Γ1 := fun b h k cl e1 e2 => by
   rw [e1, e2]
   exact drop0 lp1 (q _ h)
  generalize decide (V.int (n % 4) = V.int 2) = b at dk ⊢
  and_intros
  refine ⟨_, _, rfl, rfl, by cases b <;> decide, by cases b <;> decide, by decide +kernel, ?_⟩
  dsimp only
  rw [e_cl, repS_S]
  refine t_adds ?_ ?_
  ·rw [S_len, S_len, List.length_append, List.length_append, rep_len, rep_len]
   have : (1 + if b = true then (1 : Int) else 0).toNat ≤ 2 := by cases b <;> decide
   show _ + m * 9 + 6 + _ * 1 ≤ _
   omega
  rw [S_app, List.append_assoc hd]
  exact fin b dk _ _ rfl (by cases b <;> rfl)
 ·obtain ⟨hd, e1, hh⟩ := deep_at n0
  obtain ⟨l16, ha, _⟩ := hd_facts hh
  and_intros
  intro p1 hp1; generalize ep1 : up _ p1 (O.lst _) = Γ1; have g1 := al_g ep1; have lp1 := al_l ep1 hp1
  and_intros
  refine t_ixR g1 e1 ?_
  and_intros
  refine ⟨_, _, rfl, rfl, by omega, by omega, by rw [S_len]; omega, ?_⟩
  dsimp only
  rw [repS_S, Int.toNat_natCast, e_text]
  have hml : m * hd.length ≤ 1500 * 16 := Nat.mul_le_mul (by omega) l16
  refine t_adds ?_ ?_
  ·rw [S_len, S_len, rep_len]; show _ + 4 ≤ _; omega
  rw [S_app]
  and_intros
  refine ⟨fun τ Γ' => ∃ X : List Nat, τ = [some (.int n), some (.int (m : Nat)), some (.str (S hd)), some (.str (S ((List.replicate m hd).flatten ++ X)))] ∧ X.length ≤ 2000 ∧ (∀ c ∈ X, c < 128) ∧ Le Γ Γ', ?_, ?_⟩
  ·and_intros
   refine c_if (fun c1 => ?_) (fun c1 => ?_)
   ·and_intros
    refine c_if (fun c2 => ?_) (fun c2 => ?_)
    ·have k1 : 0 ≤ n / 4 % 3 := Int.emod_nonneg _ (by decide)
     have k2 : n / 4 % 3 < 3 := Int.emod_lt_of_pos _ (by decide)
     and_intros
     refine ⟨_, _, rfl, rfl, by omega, by omega, by decide +kernel, ?_⟩
     dsimp only
     rw [e_cl, repS_S]
     refine t_adds ?_ ?_
     ·rw [S_len, S_len, List.length_append, rep_len, rep_len]; show _ + 4 + _ * 1 ≤ _; omega
     rw [S_app, List.append_assoc]
     and_intros
     exact ⟨_, rfl, by rw [List.length_append, rep_len]; show 4 + _ * 1 ≤ _; omega, asc_app (by decide) (rep_asc _ (by decide)), lp1⟩
    ·exact ⟨_, rfl, by decide, by decide, lp1⟩
   ·exact ⟨_, rfl, by decide, by decide, lp1⟩
  rintro τ Γ' ⟨X, rfl, hX, aX, lp⟩
  and_intros
  exact drop0 lp (q _ (deep_hd hh (by omega) (by omega) hX aX))
end
end Tg
set_option Elab.async false
set_option linter.all false
set_option maxRecDepth 100000
set_option maxHeartbeats 4000000
namespace Tg
open PySem L2 L3
def fs0 (nf : Nat → List Nat) (M : Nat) : List (Str × Kd) := (List.range M).map fun i => (S (nf i), .num ((1 + i % 4 : Nat) : Int))
def fsL (nf : Nat → List Nat) (M L : Nat) (k : Kd) : List (Str × Kd) := (fs0 nf M).set L (S (nf L), k)
theorem fs0_len (nf : Nat → List Nat) (M : Nat) : (fs0 nf M).length = M := by unfold fs0; simp
theorem fsL_len (nf : Nat → List Nat) (M L : Nat) (k : Kd) : (fsL nf M L k).length = M := by unfold fsL; rw [List.length_set, fs0_len]
theorem fsL_mem {nf : Nat → List Nat} {M L : Nat} {k : Kd} {p : Str × Kd} (h : p ∈ fsL nf M L k) : p = (S (nf L), k) ∨ ∃ i, i < M ∧ p = (S (nf i), .num ((1 + i % 4 : Nat) : Int)) := by
 unfold fsL at h
 rcases List.mem_or_eq_of_mem_set h with h | h
 ·unfold fs0 at h
  obtain ⟨i, hi, rfl⟩ := List.mem_map.mp h
  exact .inr ⟨i, List.mem_range.mp hi, rfl⟩
 ·exact .inl h
theorem fsL_in {nf : Nat → List Nat} {M L : Nat} {k : Kd} (h : L < M) : (S (nf L), k) ∈ fsL nf M L k := by
 unfold fsL
 exact List.mem_set (by rw [fs0_len]; exact h) _
theorem fsL_names {nf : Nat → List Nat} {M L : Nat} {k : Kd} (h : L < M) : (fsL nf M L k).map (·.1) = ((List.range M).map nf).map S := by
 unfold fsL fs0
 rw [List.map_set, List.map_map]
 apply List.ext_getElem?
 intro i
 rw [List.getElem?_set]
 split
 ·rename_i e
  subst e
  rw [if_pos (by simpa using h)]
  simp [h]
 ·simp; rfl
theorem nd_S (l : List (List Nat)) : (l.map S).Nodup ↔ l.Nodup := by
 rw [List.nodup_iff_pairwise_ne, List.nodup_iff_pairwise_ne, List.pairwise_map]
 exact ⟨List.Pairwise.imp fun h e => h (by rw [e]), List.Pairwise.imp fun h e => h (S_inj e)⟩
theorem wfF_of : ∀ {fs : List (Str × Kd)}, (∀ p ∈ fs, (∀ c ∈ p.1.cps.toList, goodc c = true) ∧ p.2.wf) → wfF fs
 | [], _ => by unfold wfF; trivial
 | (n, k) :: r, h => by
  unfold wfF
  have := h (n, k) (by simp)
  exact ⟨this.1, this.2, wfF_of fun p hp => h p (by simp [hp])⟩
theorem depthF_ub {B : Nat} : ∀ {fs : List (Str × Kd)}, (∀ p ∈ fs, p.2.depth ≤ B) → depthF fs ≤ B
 | [], _ => by rw [depthF]; exact Nat.zero_le _
 | (n, k) :: r, h => by
  rw [depthF]
  have := h (n, k) (by simp)
  have := depthF_ub (fs := r) fun p hp => h p (by simp [hp])
  exact Nat.max_le.mpr ⟨by assumption, by assumption⟩
theorem depthF_lb {p : Str × Kd} : ∀ {fs : List (Str × Kd)}, p ∈ fs → p.2.depth ≤ depthF fs
 | (n, k) :: r, h => by
  rw [depthF]
  rcases List.mem_cons.mp h with rfl | h
  ·exact Nat.le_max_left _ _
  ·exact Nat.le_trans (depthF_lb h) (Nat.le_max_right _ _)
theorem sum_le {α : Type} (g : α → Nat) (B : Nat) : ∀ {xs : List α}, (∀ x ∈ xs, g x ≤ B) → (xs.map g).sum ≤ xs.length * B
 | [], _ => by simp
 | x :: r, h => by
  rw [List.map_cons, List.sum_cons, List.length_cons, Nat.succ_mul]
  have := h x (by simp)
  have := sum_le g B (xs := r) fun y hy => h y (by simp [hy])
  omega
theorem sum_set {α : Type} (g : α → Nat) (B C : Nat) {xs : List α} {L : Nat} {y : α} (h : ∀ x ∈ xs, g x ≤ B) (hy : g y ≤ C) : ((xs.set L y).map g).sum ≤ xs.length * B + C := by
 induction xs generalizing L with
 | nil => simp
 | cons x r ih =>
  have hx := h x (by simp)
  cases L with
  | zero =>
   rw [List.set_cons_zero, List.map_cons, List.sum_cons, List.length_cons, Nat.succ_mul]
   have := sum_le g B (xs := r) fun y hy => h y (by simp [hy])
   omega
  | succ L =>
   rw [List.set_cons_succ, List.map_cons, List.sum_cons, List.length_cons, Nat.succ_mul]
   have := ih (L := L) fun y hy => h y (by simp [hy])
   omega
structure NmF (nf : Nat → List Nat) (M : Nat) : Prop where
 ok : ∀ i, i < M → 1 ≤ (nf i).length ∧ (nf i).length ≤ 8 ∧ ∀ c ∈ nf i, 97 ≤ c ∧ c ≤ 122
theorem nm_letter {c : Nat} (h : 97 ≤ c ∧ c ≤ 122) : goodc c = true := by
 rw [goodc_yes c (by omega)]
 simp [h.1, h.2]
theorem all_fs {nf : Nat → List Nat} {M L j d : Nat} {k : Kd} {ok : Bool} (hn : NmF nf M) (hL : L < M) (hk : kwB d k.tr = ok) (hd : 1 ≤ d) : (trF (fsL nf M L k)).all (fdB (kwB d)) = ok := by
 have nmT : ∀ i, i < M → nmB (.str (S (nf i))) = true := fun i hi => by
  obtain ⟨a, b, c⟩ := hn.ok i hi
  rw [nmB_eq, S_len, decide_eq_true a, decide_eq_true b, codes_S, Bool.true_and, Bool.true_and, List.all_eq_true]
  exact fun x hx => nm_letter (c x hx)
 have numT : ∀ i : Nat, kwB d (Kd.num ((1 + i % 4 : Nat) : Int)).tr = true := fun i => by
  obtain ⟨e, rfl⟩ : ∃ e, d = e + 1 := ⟨d - 1, by omega⟩
  rw [Kd.tr, kwB_2, if_pos rfl]
  show (decide ((1 : Int) ≤ ((1 + i % 4 : Nat) : Int)) && decide (((1 + i % 4 : Nat) : Int) ≤ 4)) = true
  rw [decide_eq_true (by omega), decide_eq_true (by omega)]
  rfl
 rw [trF_map, List.all_map]
 cases ok with
 | true =>
  rw [List.all_eq_true]
  intro p hp
  rcases fsL_mem hp with rfl | ⟨i, hi, rfl⟩
  ·show (nmB (.str (S (nf L))) && kwB d k.tr) = true
   rw [nmT L hL, hk]; rfl
  ·show (nmB (.str (S (nf i))) && kwB d (Kd.num _).tr) = true
   rw [nmT i hi, numT]; rfl
 | false =>
  rw [List.all_eq_false]
  refine ⟨_, fsL_in hL, ?_⟩
  show ¬ (nmB (.str (S (nf L))) && kwB d k.tr) = true
  rw [hk, Bool.and_false]
  simp
theorem lv_fs {nf : Nat → List Nat} {M L j : Nat} {k : Kd} {ok nd : Bool} (h : LvOk k ok j) (hn : NmF nf M) (hL : L < M) (h9 : M ≤ 9) (hd : decide ((List.range M).map nf).Nodup = nd) :
  wfF (fsL nf M L k) ∧ fsL nf M L k ≠ [] ∧ depthF (fsL nf M L k) = j + 1 ∧ (∀ d, j + 1 ≤ d → fdsB (kwB d) (.tup (trF (fsL nf M L k))) = (ok && (decide (M ≤ 6) && nd))) ∧ (joinL [44, 32] (shF (fsL nf M L k))).length ≤ 160 + k.sh.length ∧ ∀ c ∈ joinL [44, 32] (shF (fsL nf M L k)), c < 128 := by
 have nn : ∀ i, i < M → ∀ c ∈ nf i, goodc c = true := fun i hi c hc => nm_letter ((hn.ok i hi).2.2 c hc)
 refine ⟨wfF_of fun p hp => ?_, fun e => ?_, ?_, fun d dj => ?_, ?_, ?_⟩
 ·rcases fsL_mem hp with rfl | ⟨i, hi, rfl⟩
  ·exact ⟨by rw [codes_S]; exact nn L hL, h.wf⟩
  ·exact ⟨by rw [codes_S]; exact nn i hi, by unfold Kd.wf; omega⟩
 ·have := fsL_len nf M L k
  rw [e] at this
  have : 0 = M := this
  omega
 ·refine Nat.le_antisymm (depthF_ub fun p hp => ?_) ?_
  ·rcases fsL_mem hp with rfl | ⟨i, hi, rfl⟩
   ·exact Nat.le_of_eq h.dp
   ·show (Kd.num _).depth ≤ _
    rw [Kd.depth]; omega
  ·have := depthF_lb (fsL_in (nf := nf) (k := k) hL)
   rw [show ((S (nf L), k) : Str × Kd).2 = k from rfl, h.dp] at this
   exact this
 ·have nm : (trF (fsL nf M L k)).map nmOf = ((List.range M).map nf).map S := by
   rw [← fsL_names hL, trF_map, List.map_map]; rfl
  have ndE : decide (((List.range M).map nf).map S).Nodup = nd := by
   rw [← hd]
   exact decide_eq_decide.mpr (nd_S _)
  rw [fdsB_eq, trF_len, fsL_len, decide_eq_true (show 1 ≤ M by omega), all_fs (j := j) hn hL (h.kw d dj) (by omega), nm, ndE]
  cases ok <;> cases nd <;> cases decide (M ≤ 6) <;> rfl
 ·have h1 := joinL_len [44, 32] (shF (fsL nf M L k))
  have h2 : ((fsL nf M L k).map fun p => (p.1.cps.toList ++ [32] ++ p.2.sh).length + 2).sum ≤ (fs0 nf M).length * 16 + (11 + k.sh.length) := by
   unfold fsL
   refine sum_set _ 16 _ (fun p hp => ?_) ?_
   ·unfold fs0 at hp
    obtain ⟨i, hi, rfl⟩ := List.mem_map.mp hp
    have := (hn.ok i (List.mem_range.mp hi)).2.1
    rw [Kd.sh, codes_S]
    simp only [List.length_append, List.length_cons, List.length_nil]
    omega
   ·have := (hn.ok L hL).2.1
    rw [codes_S]
    simp only [List.length_append, List.length_cons, List.length_nil]
    omega
  rw [fs0_len] at h2
  rw [shF_map, List.map_map] at h1
  rw [shF_map]
  have h1 : (joinL [44, 32] ((fsL nf M L k).map fun p => p.1.cps.toList ++ [32] ++ p.2.sh)).length ≤ ((fsL nf M L k).map fun p => (p.1.cps.toList ++ [32] ++ p.2.sh).length + 2).sum := h1
  omega
 ·intro c hc
  have key : ∀ l ∈ shF (fsL nf M L k), ∀ c ∈ l, c < 128 := fun l hl c hc => by
   rw [shF_map] at hl
   obtain ⟨p, hp, rfl⟩ := List.mem_map.mp hl
   have : (∀ c ∈ p.1.cps.toList, c < 128) ∧ ∀ c ∈ p.2.sh, c < 128 := by
    rcases fsL_mem hp with rfl | ⟨i, hi, rfl⟩
    ·exact ⟨by rw [codes_S]; exact fun c hc => by have := (hn.ok L hL).2.2 c hc; omega, h.as⟩
    ·refine ⟨by rw [codes_S]; exact fun c hc => by have := (hn.ok i hi).2.2 c hc; omega, ?_⟩
     show ∀ c ∈ (Kd.num _).sh, c < 128
     rw [Kd.sh]
     refine asc_app (by decide) fun c hc => ?_
     rw [List.mem_singleton.mp hc]
     omega
   exact asc_app (asc_app this.1 (by decide)) this.2 c hc
  generalize shF (fsL nf M L k) = ls at key hc
  cases ls with
  | nil => simp [joinL] at hc
  | cons x r =>
   rw [joinL] at hc
   rcases List.mem_append.mp hc with hc | hc
   ·exact key x (by simp) c hc
   ·obtain ⟨y, hy, hc⟩ := List.mem_flatten.mp hc
    obtain ⟨z, hz, rfl⟩ := List.mem_map.mp hy
    exact asc_app (a := [44, 32]) (by decide) (key z (by simp [hz])) c hc
theorem lv_rec {nf : Nat → List Nat} {M L j : Nat} {k : Kd} {ok nd : Bool} (h : LvOk k ok j) (hn : NmF nf M) (hL : L < M) (h9 : M ≤ 9) (hd : decide ((List.range M).map nf).Nodup = nd) : LvOk (.rec_ (fsL nf M L k)) (ok && (decide (M ≤ 6) && nd)) (j + 1) ∧ LvOk (.pick (fsL nf M L k)) (ok && (decide (M ≤ 6) && nd)) (j + 1) := by
 obtain ⟨a, b, c, d, e, f⟩ := lv_fs h hn hL h9 hd
 have ln := h.ln
 refine ⟨⟨by unfold Kd.wf; exact ⟨a, b⟩, by rw [Kd.depth, c], fun x hx => ?_, ?_, ?_⟩, ⟨by unfold Kd.wf; exact ⟨a, b⟩, by rw [Kd.depth, c], fun x hx => ?_, ?_, ?_⟩⟩
 ·obtain ⟨x, rfl⟩ : ∃ y, x = y + 1 := ⟨x - 1, by omega⟩
  rw [Kd.tr, kwB_2, if_neg (by decide +kernel), if_neg (by decide +kernel), d x (by omega)]
  rfl
 ·rw [Kd.sh]
  simp only [List.length_append, List.length_cons, List.length_nil]
  omega
 ·rw [Kd.sh]
  exact asc_app (asc_app (by decide) f) (by decide)
 ·obtain ⟨x, rfl⟩ : ∃ y, x = y + 1 := ⟨x - 1, by omega⟩
  rw [Kd.tr, kwB_2, if_neg (by decide +kernel), if_neg (by decide +kernel), d x (by omega)]
  rfl
 ·rw [Kd.sh]
  simp only [List.length_append, List.length_cons, List.length_nil]
  omega
 ·rw [Kd.sh]
  exact asc_app (asc_app (by decide) f) (by decide)
theorem lv_row {j : Nat} {k : Kd} {ok : Bool} (h : LvOk k ok j) : LvOk (.row k) ok (j + 1) := by
 have ln := h.ln
 refine ⟨by unfold Kd.wf; exact h.wf, by rw [Kd.depth, h.dp], fun x hx => ?_, ?_, ?_⟩
 ·obtain ⟨x, rfl⟩ : ∃ y, x = y + 1 := ⟨x - 1, by omega⟩
  rw [Kd.tr, kwB_2, if_neg (by decide +kernel), if_pos rfl]
  exact h.kw x (by omega)
 ·rw [Kd.sh, List.length_append]
  show 4 + _ ≤ _
  omega
 ·rw [Kd.sh]
  exact asc_app (by decide) h.as
def nf1 (one : Nat) (i : Nat) : List Nat := (List.replicate (1 + (one / 234 + 3 * i) % 8) [97 + (one / 9 + 7 * i) % 26]).flatten
theorem nf1_eq (one i : Nat) : nf1 one i = List.replicate (1 + (one / 234 + 3 * i) % 8) (97 + (one / 9 + 7 * i) % 26) := by
 unfold nf1
 generalize 1 + (one / 234 + 3 * i) % 8 = n
 induction n with
 | zero => rfl
 | succ n ih => rw [List.replicate_succ, List.flatten_cons, ih, List.replicate_succ]; rfl
theorem nf1_ok (one M : Nat) : NmF (nf1 one) M := ⟨fun i hi => by
 rw [nf1_eq, List.length_replicate]
 exact ⟨by omega, by omega, fun c hc => by rw [List.eq_of_mem_replicate hc]; omega⟩⟩
theorem nf1_inj {one i j : Nat} (hi : i < 9) (hj : j < 9) (e : nf1 one i = nf1 one j) : i = j := by
 rw [nf1_eq, nf1_eq] at e
 have h1 : (List.replicate (1 + (one / 234 + 3 * i) % 8) (97 + (one / 9 + 7 * i) % 26)).head? = (List.replicate (1 + (one / 234 + 3 * j) % 8) (97 + (one / 9 + 7 * j) % 26)).head? := by rw [e]
 rw [show 1 + (one / 234 + 3 * i) % 8 = (one / 234 + 3 * i) % 8 + 1 by omega, show 1 + (one / 234 + 3 * j) % 8 = (one / 234 + 3 * j) % 8 + 1 by omega, List.replicate_succ, List.replicate_succ] at h1
 have h2 : 97 + (one / 9 + 7 * i) % 26 = 97 + (one / 9 + 7 * j) % 26 := Option.some.inj h1
 omega
theorem nf1_nd {one M : Nat} (h : M ≤ 9) : ((List.range M).map (nf1 one)).Nodup := by
 rw [List.nodup_iff_pairwise_ne, List.pairwise_map]
 refine List.Pairwise.imp_of_mem (fun {a b} ha hb hab => ?_) (List.nodup_range)
 intro e
 rw [List.mem_range] at ha hb
 exact hab (nf1_inj (by omega) (by omega) e)
def nf2 (nf : Nat → List Nat) (a b : Nat) : Nat → List Nat := fun i => if i = a then nf b else nf i
theorem nf2_ok {nf : Nat → List Nat} {M a b : Nat} (h : NmF nf M) (hb : b < M) : NmF (nf2 nf a b) M := ⟨fun i hi => by
 unfold nf2
 split
 ·exact h.ok b hb
 ·exact h.ok i hi⟩
theorem nf2_nd {nf : Nat → List Nat} {M a b : Nat} (ha : a < M) (hb : b < M) (n : a ≠ b) : ¬ ((List.range M).map (nf2 nf a b)).Nodup := fun z => by
 exact n ((List.getElem?_inj (l := (List.range M).map (nf2 nf a b)) (i := a) (j := b) (by simpa using ha) z).mp (by simp [ha, hb, nf2]))
end Tg
set_option Elab.async false
set_option linter.all false
set_option maxRecDepth 100000
set_option maxHeartbeats 4000000
namespace Tg
open PySem L2 L3
local macro_rules | `(tactic| and_intros) => `(tactic| repeat (first
 | with_reducible refine t_seq ?_ | with_reducible refine t_if ?_ | with_reducible refine t_op ?_ | with_reducible refine t_T ?_ | with_reducible refine t_c ?_
 | ((with_reducible apply t_var); exact rfl) | with_reducible refine t_set ?_ | with_reducible refine t_ret ?_ | with_reducible refine t_retN ?_ | with_reducible refine t_drop ?_ | with_reducible refine t_next ?_ | with_reducible refine t_cnt ?_
 | with_reducible refine t_ix0 ?_ | with_reducible refine t_ix1 ?_ | with_reducible refine t_J ?_ | with_reducible refine t_eqS ?_ | with_reducible refine t_eqI ?_ | with_reducible refine t_neS ?_ | with_reducible refine t_neI ?_ | with_reducible refine t_bl ?_
 | with_reducible refine t_band ?_ | with_reducible refine t_bor ?_ | with_reducible refine t_bnot ?_ | with_reducible refine t_and ?_ | with_reducible refine t_or ?_ | with_reducible refine t_not ?_ | with_reducible refine t_eif ?_
 | with_reducible refine t_cons ?_ | with_reducible refine t_nil ?_ | with_reducible refine t_tup ?_ | with_reducible refine t_lst ?_ | with_reducible refine t_call ?_ | with_reducible refine t_callX ?_ | with_reducible refine t_cb ?_
 | with_reducible refine t_bm ?_ | with_reducible refine t_bm0 ?_ | with_reducible refine t_inst ?_ | with_reducible refine t_tru ?_ | with_reducible refine t_asg ?_ | with_reducible refine t_hn ?_ | ((with_reducible refine t_ht ?_ ?_); exact rfl) | with_reducible refine t_hc ?_ | with_reducible refine t_h0 ?_ | with_reducible refine t_hs ?_
 | with_reducible refine t_un ?_ | with_reducible refine t_neg ?_ | with_reducible refine t_sl ?_ | with_reducible refine t_on ?_ | with_reducible refine t_os ?_ | with_reducible refine t_oi ?_ | with_reducible refine t_rev ?_ | with_reducible refine t_for ?_ | with_reducible refine t_itp ?_ | with_reducible refine t_tp ?_ | with_reducible refine t_comp ?_ | with_reducible refine t_bt ?_ | with_reducible refine t_raise ?_ | with_reducible refine t_rg1 ?_ | with_reducible refine t_zp ?_ | with_reducible refine t_en ?_ | with_reducible refine t_ils ?_ | with_reducible refine t_ist ?_ | with_reducible refine t_str ?_
 | with_reducible refine t_2i ?_ | ((with_reducible apply t_ixR); (first | assumption | exact up_same); (first | exact at0 | exact at1)) | ((with_reducible apply t_hsub); (first | assumption | exact up_same); exact rfl)
 | with_reducible refine And.intro (rfl : T.non = T.non) ?_ | with_reducible refine t_try ?_ | with_reducible refine t_lz ?_ | with_reducible refine t_e0 ?_ | with_reducible refine t_chain ?_ | ((with_reducible apply t_inT); exact rfl; exact rfl; exact rfl) | with_reducible refine t_tyS ?_ | with_reducible refine t_1t ?_ | with_reducible refine t_2t ?_ | with_reducible refine t_eqSI ?_ | with_reducible refine t_eqIS ?_ | with_reducible refine t_neSI ?_ | with_reducible refine t_neIS ?_ | with_reducible refine t_gT ?_ | with_reducible refine t_lenT ?_
 | with_reducible refine t_fld ?_ | ((with_reducible apply t_fldR); (first | assumption | exact up_same); exact rfl) | with_reducible refine t_sfld ?_ | ((with_reducible apply t_sfldR); (first | assumption | exact up_same); exact rfl) | with_reducible refine t_sfa ?_ | ((with_reducible apply t_sfaR); (first | assumption | exact up_same); exact rfl) | ((with_reducible apply t_sfaE); (first | assumption | exact up_same); exact rfl)
 | with_reducible refine t_meth ?_ | ((with_reducible apply t_methR); (first | assumption | exact up_same); exact rfl) | with_reducible refine t_make ?_ | with_reducible refine t_fs ?_ | with_reducible refine t_jc ?_ | with_reducible refine t_fm ?_
 | ((with_reducible refine t_len ?_ ?_); exact rfl)
 | ((with_reducible refine t_I ?_ ?_); (first | exact ⟨by decide, by decide, by decide⟩ | exact ⟨by decide, by decide⟩ | exact Or.inl ⟨by decide, by decide⟩ | exact Or.inr ⟨by decide, by decide⟩ | ((show (0 : Int) < _); decide)))
 | ((with_reducible refine c_ifT ?_ ?_); (first | exact rfl | decide +kernel)) | ((with_reducible refine c_ifF ?_ ?_); (first | exact rfl | decide +kernel))))
def kT (k : Kd) (ok : Bool) : T := if ok = true then k.tr else .non
theorem tr_tup (k : Kd) : ∃ ts, k.tr = .tup ts := by cases k <;> exact ⟨_, by rw [Kd.tr]⟩
theorem abc_ix : ∀ i : Nat, i < 26 → abc.cps.toList[i]? = some (97 + i) := by decide +kernel
theorem e_rowsp : ("row " : Str) = S [114, 111, 119, 32] := by decide +kernel
theorem e_nums : (" num " : Str) = S [32, 110, 117, 109, 32] := by decide +kernel
theorem e_dg : ∀ i : Nat, i < 4 → (toString ((1 + i : Nat) : Int) : Str) = S [48 + (1 + i)] := by decide +kernel
theorem menu9 (one : Nat) : ∃ M : Nat, atI [T.int 1, .int 2, .int 3, .int 4, .int 5, .int 6, .int 6, .int 7, .int 9] (((one : Nat) : Int) % 9) = some (.int (M : Nat)) ∧ 1 ≤ M ∧ M ≤ 9 := by
 have e : ((one : Nat) : Int) % 9 = ((one % 9 : Nat) : Int) := by omega
 rw [e]
 have c : one % 9 < 9 := Nat.mod_lt _ (by decide)
 generalize one % 9 = i at c
 have c : i = 0 ∨ i = 1 ∨ i = 2 ∨ i = 3 ∨ i = 4 ∨ i = 5 ∨ i = 6 ∨ i = 7 ∨ i = 8 := by omega
 rcases c with rfl | rfl | rfl | rfl | rfl | rfl | rfl | rfl | rfl
 ·exact ⟨1, atI_nat rfl, by decide, by decide⟩
 ·exact ⟨2, atI_nat rfl, by decide, by decide⟩
 ·exact ⟨3, atI_nat rfl, by decide, by decide⟩
 ·exact ⟨4, atI_nat rfl, by decide, by decide⟩
 ·exact ⟨5, atI_nat rfl, by decide, by decide⟩
 ·exact ⟨6, atI_nat rfl, by decide, by decide⟩
 ·exact ⟨6, atI_nat rfl, by decide, by decide⟩
 ·exact ⟨7, atI_nat rfl, by decide, by decide⟩
 ·exact ⟨9, atI_nat rfl, by decide, by decide⟩
def nmT (nf : Nat → List Nat) (M : Nat) : List T := (List.range M).map fun i => T.str (S (nf i))
theorem nmT_at {nf : Nat → List Nat} {M i : Nat} (h : i < M) : atI (nmT nf M) (i : Int) = some (.str (S (nf i))) := atI_nat (by unfold nmT; simp [h])
theorem nmT_len (nf : Nat → List Nat) (M : Nat) : (nmT nf M).length = M := by unfold nmT; simp
theorem nmT_succ (nf : Nat → List Nat) (i : Nat) : nmT nf (i + 1) = nmT nf i ++ [.str (S (nf i))] := by unfold nmT; rw [List.range_succ, List.map_append]; rfl
theorem nmT_set (nf : Nat → List Nat) (M a b : Nat) : (nmT nf M).set a (.str (S (nf b))) = nmT (nf2 nf a b) M := by
 apply List.ext_getElem?
 intro i
 unfold nmT nf2
 rw [List.getElem?_set]
 by_cases e : a = i
 ·subst e
  rw [if_pos rfl]
  by_cases c : a < M
  ·rw [if_pos (by simpa using c)]; simp [c]
  ·rw [if_neg (by simpa using c)]; simp [c]
 ·rw [if_neg e]
  by_cases c : i < M
  ·simp [c, Ne.symm e]
  ·simp [c]
def ptT (nf : Nat → List Nat) (M : Nat) : List T := (shF (fs0 nf M)).map fun l => T.str (S l)
theorem fs0_succ (nf : Nat → List Nat) (i : Nat) : fs0 nf (i + 1) = fs0 nf i ++ [(S (nf i), .num ((1 + i % 4 : Nat) : Int))] := by unfold fs0; rw [List.range_succ, List.map_append]; rfl
theorem ptT_succ (nf : Nat → List Nat) (i : Nat) : ptT nf (i + 1) = ptT nf i ++ [.str (S (nf i ++ [32, 110, 117, 109, 32] ++ [48 + (1 + i % 4)]))] := by
 unfold ptT
 rw [fs0_succ, shF_app, List.map_append]
 congr 1
 rw [shF_map]
 show [T.str (S ((S (nf i)).cps.toList ++ [32] ++ (Kd.num ((1 + i % 4 : Nat) : Int)).sh))] = _
 rw [codes_S, Kd.sh, Int.toNat_natCast]
 simp
theorem ptT_len (nf : Nat → List Nat) (M : Nat) : (ptT nf M).length = M := by unfold ptT; rw [List.length_map, shF_map, List.length_map, fs0_len]
theorem ptT_set (nf : Nat → List Nat) (M L : Nat) (k : Kd) : (ptT nf M).set L (.str (S (nf L ++ [32] ++ k.sh))) = (shF (fsL nf M L k)).map fun l => T.str (S l) := by
 unfold ptT fsL
 rw [shF_map, shF_map, List.map_set, List.map_set, codes_S]
theorem trF_set (nf : Nat → List Nat) (M L : Nat) (k : Kd) : (trF (fs0 nf M)).set L (.tup [.str (S (nf L)), k.tr]) = trF (fsL nf M L k) := by unfold fsL; rw [trF_map, trF_map, List.map_set]
theorem sum_fs {nf : Nat → List Nat} {M L : Nat} {k : Kd} (hn : NmF nf M) (hL : L < M) (h9 : M ≤ 9) : ((shF (fsL nf M L k)).map fun l => l.length + 2).sum ≤ 160 + k.sh.length := by
 have h2 : ((fsL nf M L k).map fun p => (p.1.cps.toList ++ [32] ++ p.2.sh).length + 2).sum ≤ (fs0 nf M).length * 16 + (11 + k.sh.length) := by
  unfold fsL
  refine sum_set _ 16 _ (fun p hp => ?_) ?_
  ·unfold fs0 at hp
   obtain ⟨i, hi, rfl⟩ := List.mem_map.mp hp
   have := (hn.ok i (List.mem_range.mp hi)).2.1
   rw [Kd.sh, codes_S]
   simp only [List.length_append, List.length_cons, List.length_nil]
   omega
  ·have := (hn.ok L hL).2.1
   rw [codes_S]
   simp only [List.length_append, List.length_cons, List.length_nil]
   omega
 rw [fs0_len] at h2
 rw [shF_map, List.map_map]
 have h3 : ((fsL nf M L k).map ((fun l : List Nat => l.length + 2) ∘ fun p => p.1.cps.toList ++ [32] ++ p.2.sh)).sum ≤ M * 16 + (11 + k.sh.length) := h2
 omega
theorem and_v {c d : Bool} {Γ : Gp} {E2 : (T → Gp → Prop) → Prop} {Z : T → Gp → Prop} {W : Prop} (hE : ∀ Z' : T → Gp → Prop, Z' (.bl d) Γ → E2 Z') (hW : c = false → Z (.bl false) Γ → W) (h : ∀ tw : Bool, (tw = true → d = true) → Z (.bl tw) Γ) : if c = true then E2 Z else W := by
 cases c with
 | true => rw [if_pos rfl]; exact hE _ (h d id)
 | false => rw [if_neg (by decide)]; exact hW rfl (h false (fun e => by cases e))
section
variable {P: Program}{w: World}{K: PySem.W.Frag}{mg: Str → Option Value}{base: Heap}{f: Addr}{fd: FuncData}
abbrev s_law_level : Stmt := top 35
theorem sc_law_level : FnScope ["level", "word", "one", "signs", "kind", "letters", "many", "names", "lead", "twice", "parts", "fields", "head", "made"] ["level", "word", "one"] (defScope s_law_level) := ⟨rfl, rfl, rfl, by decide +kernel, rfl, by decide +kernel, by decide +kernel⟩
def spLv : Sp3 := fun ts Γ Z _ => ∃ (k : Kd) (ok : Bool) (j : Nat) (word : Int) (one : Nat), ts = [.tup [.str (S k.sh), kT k ok], .int word, .int (one : Nat)] ∧ 0 ≤ word ∧ word < 3 ∧ LvOk k ok j ∧ j ≤ 7 ∧ ∀ k' ok', LvOk k' ok' (j + 1) → Z (.tup [.str (S k'.sh), kT k' ok']) Γ
theorem ok_level (F : Fun K "_law_level" "_law_level" s_law_level f fd) (z_range : mg "range" = none) (z_int : mg "int" = none) (z_str : mg "str" = none) (z_tuple : mg "tuple" = none) : FnOk P w K mg base CX0 1 f fd ["level", "word", "one"] (liSp spLv) := by
 refine okd F sc_law_level (fun ts Γ Z Y h => ?_) (fun cdv A outer s H E ts Γ Z Y hr h => ?_)
 ·obtain ⟨k, ok, j, word, one, rfl, _⟩ := h
  rfl
 obtain ⟨k, ok, j, word, one, rfl, w0, w3, lv, j7, q⟩ := h
 refine ⟨_, (qss_cons (qs_asg (qv 0) (qg_tup (n := 2) rfl (qgs_cons (qgn (i := 3) sc_law_level.nd) (qgs_cons (qgn (i := 4) sc_law_level.nd) qgs_nil))))
  (qss_cons (qs_if (qtc oq_eq (qv 1) qe_int) (qss_cons (qs_ret (qe_tup (qa_cons (qe_op oq_adds qe_str (qv 3)) (qa_cons (qix (qe_lst (qa_cons qe_non (qa_cons (qe_tup (qa_cons qe_str (qa_cons (qv 4) qa_nil))) qa_nil))) (qe_callTy cq_intB rfl z_int bt_int (qa_cons (qec oq_notN (qv 4) qe_non) qa_nil))) qa_nil))))
  qss_nil) qss_nil)
  (qss_cons (qst (i := 5) sc_law_level.nd qe_str)
  (qss_cons (qst (i := 6) sc_law_level.nd (qix (qe_lst (qa_cons qe_int (qa_cons qe_int (qa_cons qe_int (qa_cons qe_int (qa_cons qe_int (qa_cons qe_int (qa_cons qe_int (qa_cons qe_int (qa_cons qe_int qa_nil)))))))))) (qe_op oq_mod (qv 2) qe_int)))
  (qss_cons (qst (i := 7) sc_law_level.nd (qe_comp (own := ["j"]) (cap := [(5, "letters"), (2, "one")]) (compOkC rfl (by decide +kernel) (by decide +kernel) rfl (⟨rfl, ⟨rfl, trivial⟩⟩) rfl (⟨⟨rfl, rfl, rfl⟩, ⟨⟨rfl, rfl, rfl⟩, trivial⟩⟩)) rfl (qi_range1 rfl z_range (qa_cons (qv 6) qa_nil)) (fun _ _ _ _ => (qg_name (i := 0) (show List.Nodup (["j", "letters", "one"] : List Str) from by decide +kernel) rfl (Or.inl rfl) (Or.inr rfl))) (fun _ _ _ _ => qts_nil) (fun _ _ _ _ => (qe_op oq_muls (qixs (qv 1) (qe_op oq_mod (qe_op oq_add (qe_op oq_fdiv (qv 2) qe_int) (qe_op oq_mul qe_int (qv 0))) qe_int)) (qe_op oq_add qe_int (qe_op oq_mod (qe_op oq_add (qe_op oq_fdiv (qv 2) qe_int) (qe_op oq_mul qe_int (qv 0))) qe_int))))))
  (qss_cons (qst (i := 8) sc_law_level.nd (qe_op oq_mod (qe_op oq_fdiv (qv 2) qe_int) (qv 6)))
  (qss_cons (qst (i := 9) sc_law_level.nd (qe_and (qec oq_eq (qe_op oq_mod (qe_op oq_fdiv (qv 2) qe_int) qe_int) qe_int) (qe_one (qec oq_gt (qv 6) qe_int))))
  (qss_cons (qs_cut (qs_if (qt_val (qv 9)) (qss_cons (qs_asg (qix (qv 7) (qv 8)) (qg_sub (qv 7) (qe_op oq_sub (qv 8) qe_int)))
  qss_nil) qss_nil))
  (qss_cons (qs_comp (i := 10) (own := ["j"]) (cap := [(7, "names")]) (compOkC rfl (by decide +kernel) (by decide +kernel) rfl (⟨rfl, trivial⟩) rfl (⟨⟨rfl, rfl, rfl⟩, trivial⟩)) rfl (qi_range1 rfl z_range (qa_cons (qv 6) qa_nil)) (fun _ _ _ _ => (qg_name (i := 0) (show List.Nodup (["j", "names"] : List Str) from by decide +kernel) rfl (Or.inl rfl) (Or.inr rfl))) (fun _ _ _ _ => qts_nil) (fun _ _ _ _ => (qe_op oq_adds (qe_op oq_adds (qix (qv 1) (qv 0)) qe_str) (qe_callTy cq_str rfl z_str bt_str (qa_cons (qe_op oq_add qe_int (qe_op oq_mod (qv 0) qe_int)) qa_nil)))) sc_law_level.nd rfl rfl)
  (qss_cons (qs_asg (qe_op oq_adds (qe_op oq_adds (qix (qv 7) (qv 8)) qe_str) (qv 3)) (qg_sub (qv 10) (qv 8)))
  (qss_cons (qs_comp (i := 11) (own := ["j"]) (cap := [(7, "names")]) (compOkC rfl (by decide +kernel) (by decide +kernel) rfl (⟨rfl, trivial⟩) rfl (⟨⟨rfl, rfl, rfl⟩, trivial⟩)) rfl (qi_range1 rfl z_range (qa_cons (qv 6) qa_nil)) (fun _ _ _ _ => (qg_name (i := 0) (show List.Nodup (["j", "names"] : List Str) from by decide +kernel) rfl (Or.inl rfl) (Or.inr rfl))) (fun _ _ _ _ => qts_nil) (fun _ _ _ _ => (qe_tup (qa_cons (qix (qv 1) (qv 0)) (qa_cons (qe_tup (qa_cons qe_str (qa_cons (qe_op oq_add qe_int (qe_op oq_mod (qv 0) qe_int)) qa_nil))) qa_nil)))) sc_law_level.nd rfl rfl)
  (qss_cons (qs_asg (qe_tup (qa_cons (qix (qv 7) (qv 8)) (qa_cons (qv 4) qa_nil))) (qg_sub (qv 11) (qv 8)))
  (qss_cons (qst (i := 12) sc_law_level.nd (qix (qe_lst (qa_cons qe_str (qa_cons qe_str (qa_cons qe_str qa_nil)))) (qv 1)))
  (qss_cons (qst (i := 13) sc_law_level.nd (qe_tup (qa_cons (qv 12) (qa_cons (qe_callTy cq_tuple rfl z_tuple bt_tuple (qa_cons (qv 11) qa_nil)) qa_nil))))
  (qss_cons (qs_cut (qs_if (PW.pt (qw_or (qtc oq_isN (qv 4) qe_non) (qw_or (qtc oq_gt (qv 6) qe_int) (qw_or1 (qt_val (qv 9)))))) (qss_cons (qst (i := 13) sc_law_level.nd qe_non)
  qss_nil) qss_nil))
  (qss_cons (qs_ret (qe_tup (qa_cons (qe_op oq_adds (qe_op oq_adds (qe_op oq_adds (qv 12) qe_str) (qe_bm PySem.F.plainAttrs_str PySem.F.slot_str_join PySem.F.type_str_join mq_joinS qe_str (qa_cons (qv 10) qa_nil))) qe_str) (qa_cons (qv 13) qa_nil))))
  qss_nil)))))))))))))))), ?_⟩
 simp only [start3]
 have sl := sizeLine_eq
 have ln := lv.ln
 and_intros
 refine c_if (fun c => ?_) (fun c => ?_)
 ·and_intros
  rw [e_rowsp]
  refine t_adds ?_ ?_
  ·rw [S_len, S_len]; show 4 + _ ≤ _; omega
  rw [S_app]
  have q1 := q _ _ (lv_row lv)
  rw [Kd.sh] at q1
  cases ok with
  | true =>
   obtain ⟨ts, et⟩ := tr_tup k
   rw [show kT k true = .tup ts by unfold kT; rw [if_pos rfl, et]]
   rw [show kT (.row k) true = .tup [.str "row", .tup ts] by unfold kT; rw [if_pos rfl, Kd.tr, et]] at q1
   and_intros
   intro p1 hp1; generalize ep1 : up _ p1 (O.lst _) = Γ1; have g1 := al_g ep1; have lp1 := al_l ep1 hp1
   and_intros
   refine ⟨_, rfl, ?_⟩
   and_intros
   exact drop0 lp1 q1
  | false =>
   rw [show kT k false = .non from rfl]
   rw [show kT (.row k) false = .non from rfl] at q1
   and_intros
   intro p1 hp1; generalize ep1 : up _ p1 (O.lst _) = Γ1; have g1 := al_g ep1; have lp1 := al_l ep1 hp1
   and_intros
   refine ⟨_, rfl, ?_⟩
   and_intros
   exact drop0 lp1 q1
 have wn : word ≠ 0 := fun e => by subst e; revert c; decide
 clear c
 obtain ⟨M, eM, M1, M9⟩ := menu9 one
 and_intros
 intro p1 hp1; generalize ep1 : up _ p1 (O.lst _) = Γ1; have g1 := al_g ep1; have lp1 := al_l ep1 hp1
 and_intros
 refine t_ixR g1 eM ?_
 and_intros
 refine ⟨(M : Nat), rfl, by omega, by omega, ?_⟩
 refine ⟨Nat.le_of_lt (small1000 (by rw [rngT_len]; omega)), fun rest τ ys Γ' => ∃ (i m : Nat) (o : Option T), rest = rngT i m ∧ i + m = M ∧ τ = [o, some (.str abc), some (.int (one : Nat))] ∧ ys = nmT (nf1 one) i ∧ Γ' = Γ1, ⟨0, M, none, rfl, by omega, rfl, rfl, rfl⟩, ?_, ?_⟩
 rotate_left
 ·rintro x r τ ys Γ' ⟨i, m, o, er, im, rfl, rfl, rfl⟩
  obtain ⟨m', rfl, rfl, rfl⟩ := rngT_cons er
  refine ⟨trivial, ?_⟩
  and_intros
  have e1 : ((one : Int) / 9 + 7 * i) % 26 = (((one / 9 + 7 * i) % 26 : Nat) : Int) := by omega
  have e2 : (1 : Int) + ((one : Int) / 234 + 3 * i) % 8 = ((1 + (one / 234 + 3 * i) % 8 : Nat) : Int) := by omega
  rw [e1]
  refine ⟨abc, _, _, rfl, rfl, by decide +kernel, atI_nat (abc_ix _ (Nat.mod_lt _ (by decide))), ?_⟩
  and_intros
  rw [e2]
  refine ⟨_, _, rfl, rfl, by omega, by omega, by show 1 ≤ 1000; decide, ?_⟩
  exact ⟨i + 1, m', _, rfl, by omega, rfl, by rw [nmT_succ, Int.toNat_natCast, show (⟨#[97 + (one / 9 + 7 * i) % 26]⟩ : Str) = S [97 + (one / 9 + 7 * i) % 26] from rfl, repS_S]; rfl, rfl⟩
 rintro τ ys Γ' ⟨i, m, o, er, im, rfl, rfl, rfl⟩
 have hm := rngT_nil er
 subst hm
 have im : M = i := im.symm
 subst im
 refine ⟨trivial, ?_⟩
 intro p2 hp2; generalize ep2 : up _ p2 (O.lst _) = Γ2; have g2 := al_g ep2; have lp2 := al_l ep2 hp2
 and_intros
 refine t_I (show (0 : Int) < (M : Int) by omega) ?_
 have eL : (one : Int) / 1872 % (M : Int) = ((one / 1872 % M : Nat) : Int) := by exact (by rw [Int.natCast_emod, Int.natCast_ediv]; rfl : ((one / 1872 % M : Nat) : Int) = _).symm
 have hL : one / 1872 % M < M := Nat.mod_lt _ (by omega)
 rw [eL]
 generalize one / 1872 % M = L at hL
 and_intros
 refine and_v (Γ := Γ2) (d := decide ((1 : Int) < (M : Nat))) (fun Z' hz => ?_) (fun hc hz => ?_) (fun tw htw => ?_)
 ·and_intros
  exact hz
 ·first
   | exact hz
   | (rw [hc]; exact hz)
 have htw : tw = true → 1 < M := fun e => by have := of_decide_eq_true (htw e); omega
 and_intros
 refine ⟨fun τ Γ' => ∃ nf : Nat → List Nat, τ = [some (.tup [.str (S k.sh), kT k ok]), some (.int word), some (.int (one : Nat)), some (.str (S k.sh)), some (kT k ok), some (.str abc), some (.int (M : Nat)), some (.ref p2), some (.int (L : Nat)), some (.bl tw), none, none, none, none] ∧ Γ' p2 = some (.lst (nmT nf M)) ∧ NmF nf M ∧ decide ((List.range M).map nf).Nodup = (!tw) ∧ Le Γ Γ', ?_, ?_⟩
 ·and_intros
  cases tw with
  | false =>
   refine c_ifF rfl ?_
   and_intros
   exact ⟨nf1 one, rfl, g2, nf1_ok one M, decide_eq_true (nf1_nd M9), lp1.trans lp2⟩
  | true =>
   have M2 := htw rfl
   refine c_ifT rfl ?_
   and_intros
   refine t_ixR g2 (nmT_at hL) ?_
   and_intros
   have ix : ∃ a, a < M ∧ a ≠ L ∧ ixN (nmT (nf1 one) M).length ((L : Int) - 1) = some a := by
    rw [nmT_len]
    by_cases c : L = 0
    ·subst c
     refine ⟨M - 1, by omega, by omega, ?_⟩
     unfold ixN
     rw [if_neg (by omega), if_pos (by omega)]
     congr 1
     omega
    ·refine ⟨L - 1, by omega, by omega, ?_⟩
     unfold ixN
     rw [if_pos (by omega), if_pos (by omega)]
     congr 1
     omega
   obtain ⟨a, aM, aL, ix⟩ := ix
   refine t_hsub g2 ix ?_
   rw [nmT_set]
   and_intros
   exact ⟨nf2 (nf1 one) a L, rfl, up_same, nf2_ok (nf1_ok one M) hL, decide_eq_false (nf2_nd aM hL aL), fun b o hb => by rw [up_ne (gnn (lp1 b o hb) hp2)]; exact lp2 _ _ (lp1 b o hb)⟩
 rintro τ Γ3 ⟨nf, rfl, g3, nmf, nd, lp3⟩
 and_intros
 refine ⟨(M : Nat), rfl, by omega, by omega, Nat.le_of_lt (small1000 (by rw [rngT_len]; omega)), fun rest τ ys Γ' => ∃ (i m : Nat) (o : Option T), rest = rngT i m ∧ i + m = M ∧ τ = [o, some (.ref p2)] ∧ ys = ptT nf i ∧ Γ' = Γ3, ⟨0, M, none, rfl, by omega, rfl, rfl, rfl⟩, ?_, ?_⟩
 rotate_left
 ·rintro x r τ ys Γ' ⟨i, m, o, er, im, rfl, rfl, rfl⟩
  obtain ⟨m', rfl, rfl, rfl⟩ := rngT_cons er
  refine ⟨trivial, ?_⟩
  have ln := (nmf.ok i (by omega)).2.1
  and_intros
  refine t_ixR g3 (nmT_at (by omega)) ?_
  and_intros
  rw [e_nums]
  refine t_adds ?_ ?_
  ·rw [S_len, S_len]; show _ + 5 ≤ _; omega
  rw [S_app]
  and_intros
  have e2 : (1 : Int) + (i : Int) % 4 = ((1 + i % 4 : Nat) : Int) := by omega
  rw [e2]
  refine ⟨_, rfl, ?_, ?_⟩
  ·have c : i % 4 = 0 ∨ i % 4 = 1 ∨ i % 4 = 2 ∨ i % 4 = 3 := by omega
   rcases c with e | e | e | e <;> rw [e] <;> decide +kernel
  rw [e_dg (i % 4) (Nat.mod_lt _ (by decide))]
  and_intros
  refine t_adds ?_ ?_
  ·rw [S_len, S_len, List.length_append]; show _ + 5 + 1 ≤ _; omega
  rw [S_app]
  exact ⟨i + 1, m', _, rfl, by omega, rfl, by rw [ptT_succ], rfl⟩
 rintro τ ys Γ' ⟨i, m, o, er, im, rfl, rfl, rfl⟩
 have hm := rngT_nil er
 subst hm
 have im : M = i := im.symm
 subst im
 refine ⟨trivial, ?_⟩
 have lnL := (nmf.ok L hL).2.1
 intro p4 hp4; generalize ep4 : up _ p4 (O.lst _) = Γ4; have g4 := al_g ep4; have lp4 := al_l ep4 hp4
 have n34 : p2 ≠ p4 := gnn g3 hp4
 and_intros
 refine t_ixR (lp4 _ _ g3) (nmT_at hL) ?_
 and_intros
 rw [e_sp]
 refine t_adds ?_ ?_
 ·rw [S_len, S_len]; show _ + 1 ≤ _; omega
 rw [S_app]
 and_intros
 refine t_adds ?_ ?_
 ·rw [S_len, S_len, List.length_append]; show _ + 1 + _ ≤ _; omega
 rw [S_app]
 and_intros
 refine t_hsub g4 (show ixN (ptT nf M).length (L : Int) = some L by rw [ptT_len]; unfold ixN; rw [if_pos (by omega), if_pos (by omega), Int.toNat_natCast]) ?_
 rw [ptT_set]
 generalize ep5 : up Γ4 p4 (O.lst _) = Γ5
 have g5 := al_g ep5
 have g35 : Γ5 p2 = some (.lst (nmT nf M)) := by rw [← ep5, up_ne n34]; exact lp4 _ _ g3
 have lp5 : Le Γ Γ5 := fun b o hb => by rw [← ep5, up_ne (gnn (lp3 b o hb) hp4)]; exact lp4 _ _ (lp3 b o hb)
 clear ep5 ep4 g4 lp4 g3 lp3
 and_intros
 refine ⟨(M : Nat), rfl, by omega, by omega, Nat.le_of_lt (small1000 (by rw [rngT_len]; omega)), fun rest τ ys Γ' => ∃ (i m : Nat) (o : Option T), rest = rngT i m ∧ i + m = M ∧ τ = [o, some (.ref p2)] ∧ ys = trF (fs0 nf i) ∧ Γ' = Γ5, ⟨0, M, none, rfl, by omega, rfl, rfl, rfl⟩, ?_, ?_⟩
 rotate_left
 ·rintro x r τ ys Γ' ⟨i, m, o, er, im, rfl, rfl, rfl⟩
  obtain ⟨m', rfl, rfl, rfl⟩ := rngT_cons er
  refine ⟨trivial, ?_⟩
  and_intros
  refine t_ixR g35 (nmT_at (by omega)) ?_
  and_intros
  have e2 : (1 : Int) + (i : Int) % 4 = ((1 + i % 4 : Nat) : Int) := by omega
  rw [e2]
  exact ⟨i + 1, m', _, rfl, by omega, rfl, by rw [fs0_succ, trF_app, trF, trF, Kd.tr], rfl⟩
 rintro τ ys Γ' ⟨i, m, o, er, im, rfl, rfl, rfl⟩
 have hm := rngT_nil er
 subst hm
 have im : M = i := im.symm
 subst im
 refine ⟨trivial, ?_⟩
 intro p6 hp6; generalize ep6 : up _ p6 (O.lst _) = Γ6; have g6 := al_g ep6; have lp6 := al_l ep6 hp6
 and_intros
 refine t_ixR (lp6 _ _ g35) (nmT_at hL) ?_
 and_intros
 refine t_hsub g6 (show ixN (trF (fs0 nf M)).length (L : Int) = some L by rw [trF_len, fs0_len]; unfold ixN; rw [if_pos (by omega), if_pos (by omega), Int.toNat_natCast]) ?_
 generalize ep7 : up Γ6 p6 (O.lst _) = Γ7
 have g7 := al_g ep7
 have g57 : Γ7 p4 = some (.lst ((shF (fsL nf M L k)).map fun l => T.str (S l))) := by rw [← ep7, up_ne (gnn g5 hp6)]; exact lp6 _ _ g5
 have lp7 : Le Γ Γ7 := fun b o hb => by rw [← ep7, up_ne (gnn (lp5 b o hb) hp6)]; exact lp6 _ _ (lp5 b o hb)
 clear ep7 ep6 g6 lp6 g5 lp5
 obtain ⟨h, hh, eh, ew⟩ : ∃ h : List Nat, (h = cRec ∨ h = cPick) ∧ atI [T.str "row", .str "rec", .str "pick"] word = some (.str (S h)) ∧ (word = 1 ∧ h = cRec ∨ word = 2 ∧ h = cPick) := by
  have c : word = 1 ∨ word = 2 := by omega
  rcases c with e | e <;> rw [e]
  ·exact ⟨cRec, .inl rfl, atS (i := 1) rfl e_rec, .inl ⟨rfl, rfl⟩⟩
  ·exact ⟨cPick, .inr rfl, atS (i := 2) rfl e_pick, .inr ⟨rfl, rfl⟩⟩
 have hl : h.length ≤ 4 := by rcases hh with rfl | rfl <;> decide
 obtain ⟨lv1, lv2⟩ := lv_rec lv nmf hL M9 nd
 have fjl := (lv_fs lv nmf hL M9 nd).2.2.2.2.1
 have qf : ∀ ok', ok' = (ok && (decide (M ≤ 6) && !tw)) → Z (.tup [.str (S (h ++ [32, 40] ++ joinL [44, 32] (shF (fsL nf M L k)) ++ [41])), if ok' = true then .tup [.str (S h), .tup (trF (fsL nf M L k))] else .non]) Γ := fun ok' e => by
  rcases hh with rfl | rfl
  ·have := q _ _ lv1
   unfold kT at this
   rw [Kd.sh, Kd.tr, ← e, e_rec] at this
   exact this
  ·have := q _ _ lv2
   unfold kT at this
   rw [Kd.sh, Kd.tr, ← e, e_pick] at this
   exact this
 and_intros
 intro p8 hp8; generalize ep8 : up _ p8 (O.lst _) = Γ8; have g8 := al_g ep8; have lp8 := al_l ep8 hp8
 and_intros
 refine t_ixR g8 eh ?_
 and_intros
 refine ⟨.ref p6, _, rfl, it3_l (lp8 _ _ g7), ?_⟩
 and_intros
 refine ⟨fun τ Γ' => ∃ ok' : Bool, ok' = (ok && (decide (M ≤ 6) && !tw)) ∧ τ = [some (.tup [.str (S k.sh), kT k ok]), some (.int word), some (.int (one : Nat)), some (.str (S k.sh)), some (kT k ok), some (.str abc), some (.int (M : Nat)), some (.ref p2), some (.int (L : Nat)), some (.bl tw), some (.ref p4), some (.ref p6), some (.str (S h)), some (if ok' = true then .tup [.str (S h), .tup (trF (fsL nf M L k))] else .non)] ∧ Γ' = Γ8, ?_, ?_⟩
 ·cases ok with
  | false =>
   rw [show kT k false = .non from rfl]
   and_intros
   exact ⟨false, rfl, rfl, rfl⟩
  | true =>
   obtain ⟨ts, et⟩ := tr_tup k
   rw [show kT k true = .tup ts by unfold kT; rw [if_pos rfl, et]]
   and_intros
   refine c_if (fun c => ?_) (fun c => ?_)
   ·have c := of_decide_eq_true c
    and_intros
    exact ⟨false, by rw [decide_eq_false (by omega)]; rfl, rfl, rfl⟩
   have c := of_decide_eq_false c
   and_intros
   cases tw with
   | true =>
    and_intros
    exact ⟨false, by simp, rfl, rfl⟩
   | false =>
    and_intros
    refine ⟨true, by rw [decide_eq_true (by omega)]; rfl, ?_, rfl⟩
    rw [if_pos rfl, ← trF_set, et]
    rfl
 rintro τ Γ9 ⟨ok', eo, rfl, rfl⟩
 have qf := qf ok' eo
 have js := sum_fs (k := k) nmf hL M9
 and_intros
 rw [e_sop]
 refine t_adds ?_ ?_
 ·rw [S_len, S_len]; show _ + 2 ≤ _; omega
 rw [S_app]
 and_intros
 refine ⟨p4, [44, 32], shF (fsL nf M L k), by rw [e_com], rfl, it3_l (lp8 _ _ g57), by show ((shF (fsL nf M L k)).map fun l => l.length + 2).sum ≤ _; omega, ?_⟩
 refine t_adds ?_ ?_
 ·rw [S_len, S_len, List.length_append]; show _ + 2 + _ ≤ _; omega
 rw [S_app]
 and_intros
 rw [e_cl]
 refine t_adds ?_ ?_
 ·rw [S_len, S_len, List.length_append, List.length_append]; show _ + 2 + _ + 1 ≤ _; omega
 rw [S_app]
 and_intros
 exact drop0 (lp7.trans lp8) qf
end
def oT : Option T → T
 | none => .non
 | some t => t
theorem menu8 (r : Int) (h : 0 ≤ r) : ∃ M : Nat, atI [T.int 0, .int 1, .int 2, .int 3, .int 4, .int 4, .int 5, .int 7] (r % 8) = some (.int (M : Nat)) ∧ M ≤ 7 := by
 have c1 : 0 ≤ r % 8 := Int.emod_nonneg _ (by decide)
 have c2 : r % 8 < 8 := Int.emod_lt_of_pos _ (by decide)
 have c : r % 8 = 0 ∨ r % 8 = 1 ∨ r % 8 = 2 ∨ r % 8 = 3 ∨ r % 8 = 4 ∨ r % 8 = 5 ∨ r % 8 = 6 ∨ r % 8 = 7 := by omega
 rcases c with e | e | e | e | e | e | e | e <;> rw [e]
 ·exact ⟨0, atI_nat (j := 0) rfl, by decide⟩
 ·exact ⟨1, atI_nat (j := 1) rfl, by decide⟩
 ·exact ⟨2, atI_nat (j := 2) rfl, by decide⟩
 ·exact ⟨3, atI_nat (j := 3) rfl, by decide⟩
 ·exact ⟨4, atI_nat (j := 4) rfl, by decide⟩
 ·exact ⟨4, atI_nat (j := 5) rfl, by decide⟩
 ·exact ⟨5, atI_nat (j := 6) rfl, by decide⟩
 ·exact ⟨7, atI_nat (j := 7) rfl, by decide⟩
theorem lv_num {w : Int} (h1 : 1 ≤ w) (h4 : w ≤ 4) : LvOk (.num w) true 0 := by
 refine ⟨by unfold Kd.wf; omega, by rw [Kd.depth], fun d hd => ?_, by rw [Kd.sh]; exact Nat.le_refl _, ?_⟩
 ·obtain ⟨e, rfl⟩ : ∃ e, d = e + 1 := ⟨d - 1, by omega⟩
  rw [Kd.tr, kwB_2, if_pos rfl]
  show (decide (1 ≤ w) && decide (w ≤ 4)) = true
  rw [decide_eq_true h1, decide_eq_true h4]; rfl
 ·rw [Kd.sh]
  refine asc_app (by decide) fun c hc => ?_
  rw [List.mem_singleton.mp hc]
  omega
theorem lv_text : LvOk .text true 0 := by
 refine ⟨by unfold Kd.wf; trivial, by rw [Kd.depth], fun d hd => ?_, by rw [Kd.sh]; decide, by rw [Kd.sh]; decide⟩
 obtain ⟨e, rfl⟩ : ∃ e, d = e + 1 := ⟨d - 1, by omega⟩
 rw [Kd.tr, kwB_1]
 exact decide_eq_true rfl
theorem start_at (r : Int) (h : 0 ≤ r) : ∃ k : Kd, atI [T.tup [.str "text", .tup [.str "text"]], .tup [.str "num 4", .tup [.str "num", .int 4]], .tup [.str "num 1", .tup [.str "num", .int 1]]] (r % 3) = some (.tup [.str (S k.sh), kT k true]) ∧ LvOk k true 0 := by
 have c1 : 0 ≤ r % 3 := Int.emod_nonneg _ (by decide)
 have c2 : r % 3 < 3 := Int.emod_lt_of_pos _ (by decide)
 have c : r % 3 = 0 ∨ r % 3 = 1 ∨ r % 3 = 2 := by omega
 rcases c with e | e | e <;> rw [e]
 ·refine ⟨.text, atI_nat (j := 0) ?_, lv_text⟩
  show some (T.tup [.str "text", .tup [.str "text"]]) = _
  unfold kT
  rw [if_pos rfl, Kd.tr, Kd.sh, ← e_text]
 ·refine ⟨.num 4, atI_nat (j := 1) ?_, lv_num (by decide) (by decide)⟩
  show some (T.tup [.str "num 4", .tup [.str "num", .int 4]]) = _
  unfold kT
  rw [if_pos rfl, Kd.tr, Kd.sh, show ("num 4" : Str) = S ([110, 117, 109, 32] ++ [48 + Int.toNat 4]) by decide +kernel]
 ·refine ⟨.num 1, atI_nat (j := 2) ?_, lv_num (by decide) (by decide)⟩
  show some (T.tup [.str "num 1", .tup [.str "num", .int 1]]) = _
  unfold kT
  rw [if_pos rfl, Kd.tr, Kd.sh, show ("num 1" : Str) = S ([110, 117, 109, 32] ++ [48 + Int.toNat 1]) by decide +kernel]
def okk (ok : Bool) (j : Nat) (wh : Bool) : Bool := ok && (decide (j ≤ 4) && wh)
theorem okk_iff {ok : Bool} {j : Nat} {wh : Bool} : okk ok j wh = true ↔ ok = true ∧ j ≤ 4 ∧ wh = true := by unfold okk; simp
theorem due_k (k : Kd) (ok : Bool) (j : Nat) (wh : Bool) : oT (dueK k ok j wh) = kT k (okk ok j wh) := by
 unfold dueK kT
 by_cases c : ok = true ∧ j ≤ 4 ∧ wh = true
 ·rw [if_pos c, if_pos (okk_iff.mpr c)]; rfl
 ·rw [if_neg c, if_neg fun z => c (okk_iff.mp z)]; rfl
theorem due_p (f : T → T) (k : Kd) (ok : Bool) (j : Nat) (wh : Bool) : oT (dueP f k ok j wh) = if okk ok j wh = true then f k.tr else .non := by
 unfold dueP
 by_cases c : ok = true ∧ j ≤ 4 ∧ wh = true
 ·rw [if_pos c, if_pos (okk_iff.mpr c)]; rfl
 ·rw [if_neg c, if_neg fun z => c (okk_iff.mp z)]; rfl
theorem pap1_eq (t : T) : pap1 t = .tup [.str "ab", .int 1, .tup [.tup [.str "x", .str "lend", t], .tup [.str "yy", .str "copy", .tup [.str "text"]]], .non] := by
 unfold pap1
 rw [show S [97, 98] = ("ab" : Str) by decide +kernel, show S [120] = ("x" : Str) by decide +kernel, show S cLend = ("lend" : Str) by decide +kernel, show S [121, 121] = ("yy" : Str) by decide +kernel, show S cCopy = ("copy" : Str) by decide +kernel, ← e_text]
theorem pap2_eq (t : T) : pap2 t = .tup [.str "abcdefgh", .int 0, .tup [], t] := by
 unfold pap2
 rw [show S cAh = ("abcdefgh" : Str) by decide +kernel]
theorem e_t1 : ("door ab 1 (x lend " : Str) = S [100, 111, 111, 114, 32, 97, 98, 32, 49, 32, 40, 120, 32, 108, 101, 110, 100, 32] := by decide +kernel
theorem e_yy : (", yy copy text) none" : Str) = S cYY := by decide +kernel
theorem e_t2 : ("door abcdefgh 0 () " : Str) = S [100, 111, 111, 114, 32, 97, 98, 99, 100, 101, 102, 103, 104, 32, 48, 32, 40, 41, 32] := by decide +kernel
section
variable {P: Program}{w: World}{K: PySem.W.Frag}{mg: Str → Option Value}{base: Heap}{f: Addr}{fd: FuncData}
abbrev s_law_asked : Stmt := top 37
theorem sc_law_asked : FnScope ["cell", "r", "many", "level", "k", "signs", "whole", "kind", "way", "paper"] ["cell"] (defScope s_law_asked) := ⟨rfl, rfl, rfl, by decide +kernel, rfl, by decide +kernel, by decide +kernel⟩
def spAs : Sp3 := fun ts Γ Z _ => ∃ c : Int, ts = [.int c] ∧ ∀ l K P, Held l K P → Z (.tup [.str (S l), oT K, oT P]) Γ
theorem ok_asked (F : Fun K "_law_asked" "_law_asked" s_law_asked f fd) (c_law_draws : Cl3 P w K mg base "_law_draws" 1 ["cell", "count"] spDws) (c_law_level : Cl3 P w K mg base "_law_level" 1 ["level", "word", "one"] spLv) (c_law_ended : Cl3 P w K mg base "_law_ended" 1 ["signs", "way"] spEnd) (z_range : mg "range" = none) : FnOk P w K mg base CX0 2 f fd ["cell"] (liSp spAs) := by
 refine okd F sc_law_asked (fun ts Γ Z Y h => ?_) (fun cdv A outer s H E ts Γ Z Y hr h => ?_)
 ·obtain ⟨c, rfl, _⟩ := h
  rfl
 obtain ⟨c, rfl, q⟩ := h
 refine ⟨_, (qss_cons (qst (i := 1) sc_law_asked.nd (qcl c_law_draws hr (qa_cons (qv 0) (qa_cons qe_int qa_nil))))
  (qss_cons (qst (i := 2) sc_law_asked.nd (qix (qe_lst (qa_cons qe_int (qa_cons qe_int (qa_cons qe_int (qa_cons qe_int (qa_cons qe_int (qa_cons qe_int (qa_cons qe_int (qa_cons qe_int qa_nil))))))))) (qe_op oq_mod (qix (qv 1) qe_int) qe_int)))
  (qss_cons (qst (i := 3) sc_law_asked.nd (qix (qe_lst (qa_cons (qe_tup (qa_cons qe_str (qa_cons (qe_tup (qa_cons qe_str qa_nil)) qa_nil))) (qa_cons (qe_tup (qa_cons qe_str (qa_cons (qe_tup (qa_cons qe_str (qa_cons qe_int qa_nil))) qa_nil))) (qa_cons (qe_tup (qa_cons qe_str (qa_cons (qe_tup (qa_cons qe_str (qa_cons qe_int qa_nil))) qa_nil))) qa_nil)))) (qe_op oq_mod (qix (qv 1) qe_int) qe_int)))
  (qss_cons (qs_for PassesOwn.never rfl (qi_range1 rfl z_range (qa_cons (qv 2) qa_nil)) (qgn (i := 4) sc_law_asked.nd) (qss_cons (qst (i := 3) sc_law_asked.nd (qcl c_law_level hr (qa_cons (qv 3) (qa_cons (qe_op oq_mod (qix (qv 1) (qe_op oq_add qe_int (qv 4))) qe_int) (qa_cons (qix (qv 1) (qe_op oq_add qe_int (qe_op oq_mod (qv 4) qe_int))) qa_nil)))))
  qss_nil))
  (qss_cons (qs_asg (qcl c_law_ended hr (qa_cons (qix (qv 3) qe_int) (qa_cons (qe_op oq_mod (qe_op oq_fdiv (qix (qv 1) qe_int) qe_int) qe_int) qa_nil))) (qg_tup (n := 2) rfl (qgs_cons (qgn (i := 5) sc_law_asked.nd) (qgs_cons (qgn (i := 6) sc_law_asked.nd) qgs_nil))))
  (qss_cons (qst (i := 7) sc_law_asked.nd (qix (qv 3) qe_int))
  (qss_cons (qs_cut (qs_if (PW.pt (qw_or (qtc oq_gt (qv 2) qe_int) (qw_or1 (qt_not (qt_val (qv 6)))))) (qss_cons (qst (i := 7) sc_law_asked.nd qe_non)
  qss_nil) qss_nil))
  (qss_cons (qst (i := 8) sc_law_asked.nd (qe_op oq_mod (qe_op oq_fdiv (qix (qv 1) qe_int) qe_int) qe_int))
  (qss_cons (qs_if (qtc oq_eq (qv 8) qe_int) (qss_cons (qs_ret (qe_tup (qa_cons (qv 5) (qa_cons (qv 7) (qa_cons qe_non qa_nil)))))
  qss_nil) qss_nil)
  (qss_cons (qst (i := 9) sc_law_asked.nd qe_non)
  (qss_cons (qs_if (qtc oq_eq (qv 8) qe_int) (qss_cons (qs_cut (qs_if (qtc oq_notN (qv 7) qe_non) (qss_cons (qst (i := 9) sc_law_asked.nd (qe_tup (qa_cons qe_str (qa_cons qe_int (qa_cons (qe_tup (qa_cons (qe_tup (qa_cons qe_str (qa_cons qe_str (qa_cons (qv 7) qa_nil)))) (qa_cons (qe_tup (qa_cons qe_str (qa_cons qe_str (qa_cons (qe_tup (qa_cons qe_str qa_nil)) qa_nil)))) qa_nil))) (qa_cons qe_non qa_nil))))))
  qss_nil) qss_nil))
  (qss_cons (qs_ret (qe_tup (qa_cons (qe_op oq_adds (qe_op oq_adds qe_str (qv 5)) qe_str) (qa_cons qe_non (qa_cons (qv 9) qa_nil)))))
  qss_nil)) qss_nil)
  (qss_cons (qs_cut (qs_if (qtc oq_notN (qv 7) qe_non) (qss_cons (qst (i := 9) sc_law_asked.nd (qe_tup (qa_cons qe_str (qa_cons qe_int (qa_cons (qe_tup qa_nil) (qa_cons (qv 7) qa_nil))))))
  qss_nil) qss_nil))
  (qss_cons (qs_ret (qe_tup (qa_cons (qe_op oq_adds qe_str (qv 5)) (qa_cons qe_non (qa_cons (qv 9) qa_nil)))))
  qss_nil))))))))))))), ?_⟩
 simp only [start3]
 have sl := sizeLine_eq
 and_intros
 refine ⟨c, 16, rfl, by decide, ?_⟩
 intro p1 hp1; generalize ep1 : up _ p1 (O.lst _) = Γ1; have g1 := al_g ep1; have lp1 := al_l ep1 hp1
 have at_ : ∀ i : Nat, i < 16 → atI ((dws c 16).map T.int) (i : Int) = some (.int (dw c i)) := fun i hi => atI_nat (by rw [List.getElem?_map, dws_get hi]; rfl)
 have d0 := fun i => dw_pos c i
 obtain ⟨M, eM, M7⟩ := menu8 (dw c 0) (d0 0)
 obtain ⟨k0, ek0, lv0⟩ := start_at (dw c 1) (d0 1)
 and_intros
 intro p2 hp2; generalize ep2 : up _ p2 (O.lst _) = Γ2; have g2 := al_g ep2; have lp2 := al_l ep2 hp2
 and_intros
 refine t_ixR (lp2 _ _ g1) (at_ 0 (by decide)) ?_
 and_intros
 refine t_ixR g2 eM ?_
 and_intros
 intro p3 hp3; generalize ep3 : up _ p3 (O.lst _) = Γ3; have g3 := al_g ep3; have lp3 := al_l ep3 hp3
 and_intros
 refine t_ixR (lp3 _ _ (lp2 _ _ g1)) (at_ 1 (by decide)) ?_
 and_intros
 refine t_ixR g3 ek0 ?_
 have g13 := lp3 _ _ (lp2 _ _ g1)
 have l03 := lp1.trans (lp2.trans lp3)
 clear ep1 ep2 ep3 g1 g2 g3 lp1 lp2 lp3
 and_intros
 refine ⟨(M : Nat), rfl, by omega, by omega, ?_⟩
 refine ⟨fun rest τ Γ' => ∃ (i m : Nat) (k : Kd) (ok : Bool) (o : Option T), rest = rngT i m ∧ i + m = M ∧ LvOk k ok i ∧ τ = [some (.int c), some (.ref p1), some (.int (M : Nat)), some (.tup [.str (S k.sh), kT k ok]), o, none, none, none, none, none] ∧ Γ' = Γ3, ⟨0, M, k0, true, none, rfl, by omega, lv0, rfl, rfl⟩, ?_, ?_⟩
 rotate_left
 ·rintro x r τ Γ' ⟨i, m, k, ok, o, er, im, lv, rfl, rfl⟩
  obtain ⟨m', rfl, rfl, rfl⟩ := rngT_cons er
  and_intros
  have e1 : (2 : Int) + (i : Int) = ((2 + i : Nat) : Int) := by omega
  have e2 : (9 : Int) + (i : Int) % 7 = ((9 + i % 7 : Nat) : Int) := by omega
  rw [e1]
  refine t_ixR g13 (at_ (2 + i) (by omega)) ?_
  and_intros
  rw [e2]
  refine t_ixR g13 (at_ (9 + i % 7) (by omega)) ?_
  and_intros
  obtain ⟨one, ho⟩ : ∃ n : Nat, dw c (9 + i % 7) = n := ⟨(dw c (9 + i % 7)).toNat, by have := d0 (9 + i % 7); omega⟩
  rw [ho]
  refine ⟨k, ok, i, _, one, rfl, Int.emod_nonneg _ (by decide), Int.emod_lt_of_pos _ (by decide), lv, by omega, fun k' ok' lv' => ?_⟩
  and_intros
  exact ⟨i + 1, m', k', ok', _, rfl, by omega, lv', rfl, rfl⟩
 rintro τ Γ' ⟨i, m, k, ok, o, er, im, lv, rfl, rfl⟩
 have hm := rngT_nil er
 subst hm
 have im : M = i := im.symm
 subst im
 refine ⟨trivial, ?_⟩
 have ln := lv.ln
 and_intros
 refine ⟨k.sh, _, rfl, by omega, fun l wh en => ?_⟩
 have h0 := q _ _ _ (en_kind lv M7 en)
 have h1 := q _ _ _ (en_p1 lv M7 en)
 have h2 := q _ _ _ (en_p2 lv M7 en)
 have ll := (en_len lv M7 en).1
 rw [due_k] at h0
 rw [due_p] at h1 h2
 and_intros
 refine ⟨fun τ Γ2 => τ = [some (.int c), some (.ref p1), some (.int (M : Nat)), some (.tup [.str (S k.sh), kT k ok]), o, some (.str (S l)), some (.bl wh), some (kT k (okk ok M wh)), none, none] ∧ Γ2 = Γ', ?_, ?_⟩
 ·and_intros
  refine c_if (fun c1 => ?_) (fun c1 => ?_)
  ·have c1 := of_decide_eq_true c1
   and_intros
   refine ⟨?_, rfl⟩
   rw [show okk ok M wh = false by unfold okk; rw [decide_eq_false (by omega), Bool.false_and, Bool.and_false]]
   rfl
  ·have c1 := of_decide_eq_false c1
   and_intros
   cases wh with
   | false =>
    and_intros
    refine ⟨?_, rfl⟩
    rw [show okk ok M false = false by unfold okk; rw [Bool.and_false, Bool.and_false]]
    rfl
   | true =>
    and_intros
    refine ⟨?_, rfl⟩
    rw [show okk ok M true = ok by unfold okk; rw [decide_eq_true (by omega), Bool.true_and, Bool.and_true]]
    rfl
 rintro τ Γ2 ⟨rfl, rfl⟩
 and_intros
 refine c_if (fun c1 => ?_) (fun c1 => ?_)
 ·and_intros
  exact drop0 l03 h0
 obtain ⟨us, eu⟩ := tr_tup k
 and_intros
 refine c_if (fun c2 => ?_) (fun c2 => ?_)
 ·and_intros
  refine ⟨fun τ Γ3 => τ = [some (.int c), some (.ref p1), some (.int (M : Nat)), some (.tup [.str (S k.sh), kT k ok]), o, some (.str (S l)), some (.bl wh), some (kT k (okk ok M wh)), some (.int (dw c 0 / 64 % 3)), some (if okk ok M wh = true then pap1 k.tr else .non)] ∧ Γ3 = Γ2, ?_, ?_⟩
  ·cases okk ok M wh with
   | true =>
    rw [show kT k true = .tup us by unfold kT; rw [if_pos rfl, eu]]
    and_intros
    refine ⟨?_, rfl⟩
    rw [if_pos rfl, pap1_eq, eu]
    rfl
   | false =>
    rw [show kT k false = .non from rfl]
    and_intros
    exact ⟨rfl, rfl⟩
  rintro τ Γ3 ⟨rfl, rfl⟩
  and_intros
  rw [e_t1]
  refine t_adds ?_ ?_
  ·rw [S_len, S_len]; show 18 + _ ≤ _; omega
  rw [S_app]
  and_intros
  rw [e_yy]
  refine t_adds ?_ ?_
  ·rw [S_len, S_len, List.length_append]; show 18 + _ + 20 ≤ _; omega
  rw [S_app, List.append_assoc]
  and_intros
  exact drop0 l03 h1
 ·and_intros
  refine ⟨fun τ Γ3 => τ = [some (.int c), some (.ref p1), some (.int (M : Nat)), some (.tup [.str (S k.sh), kT k ok]), o, some (.str (S l)), some (.bl wh), some (kT k (okk ok M wh)), some (.int (dw c 0 / 64 % 3)), some (if okk ok M wh = true then pap2 k.tr else .non)] ∧ Γ3 = Γ2, ?_, ?_⟩
  ·cases okk ok M wh with
   | true =>
    rw [show kT k true = .tup us by unfold kT; rw [if_pos rfl, eu]]
    and_intros
    refine ⟨?_, rfl⟩
    rw [if_pos rfl, pap2_eq, eu]
    rfl
   | false =>
    rw [show kT k false = .non from rfl]
    and_intros
    exact ⟨rfl, rfl⟩
  rintro τ Γ3 ⟨rfl, rfl⟩
  and_intros
  rw [e_t2]
  refine t_adds ?_ ?_
  ·rw [S_len, S_len]; show 19 + _ ≤ _; omega
  rw [S_app]
  and_intros
  exact drop0 l03 h2
end
section
variable {P: Program}{w: World}{K: PySem.W.Frag}{mg: Str → Option Value}{base: Heap}{f cNoText: Addr}{fd: FuncData}
abbrev s_law_held : Stmt := top 38
theorem sc_law_held : FnScope ["signs", "kind", "paper", "one", "due", "found", "refused"] ["signs", "kind", "paper"] (defScope s_law_held) := ⟨rfl, rfl, rfl, by decide +kernel, rfl, by decide +kernel, by decide +kernel⟩
def spHe : Sp3 := fun ts Γ Z _ => ∃ (l : List Nat) (K P : Option T), ts = [.str (S l), oT K, oT P] ∧ Held l K P ∧ Z (.bl true) Γ
theorem ok_held (F : Fun K "_law_held" "_law_held" s_law_held f fd) (c_read_kind : Clx P w K mg base "read_kind" 21 ["text"] (spRk cNoText)) (c_read_paper : Clx P w K mg base "read_paper" 24 ["text"] (spRp cNoText)) (c_law_same : Cl3 P w K mg base "_law_same" 21 ["found", "due"] (spSm 21)) (m_NoText : mg "NoText" = some (.ref cNoText)) (xbb : PySem.W.exmOne K (.ref cNoText) (.ref cNoText) = some true) : FnOk P w K mg base CX0 25 f fd ["signs", "kind", "paper"] (liSp spHe) := by
 refine okd F sc_law_held (fun ts Γ Z Y h => ?_) (fun cdv A outer s H E ts Γ Z Y hr h => ?_)
 ·obtain ⟨l, KK, PP, rfl, _⟩ := h
  rfl
 obtain ⟨l, KK, PP, rfl, ⟨hl, ha, hk, hp, hf⟩, q⟩ := h
 refine ⟨_, (qss_cons (qs_for PassesOwn.never rfl (qi_list (qe_lst (qa_cons (qe_tup (qa_cons qe_str (qa_cons (qv 1) qa_nil))) (qa_cons (qe_tup (qa_cons qe_str (qa_cons (qv 2) qa_nil))) qa_nil)))) (qg_tup (n := 2) rfl (qgs_cons (qgn (i := 3) sc_law_held.nd) (qgs_cons (qgn (i := 4) sc_law_held.nd) qgs_nil))) (qss_cons (qst (i := 5) sc_law_held.nd qe_non)
  (qss_cons (qst (i := 6) sc_law_held.nd qe_bl)
  (qss_cons (qs_try0 rfl rfl rfl m_NoText (fun _ _ _ hx => (qss_cons (qs_cut (qs_if (qtc oq_eq (qv 3) qe_str) (qss_cons (qst (i := 5) sc_law_held.nd (qcx c_read_kind hr hx (qa_cons (qv 0) qa_nil)))
  qss_nil) (qss_cons (qst (i := 5) sc_law_held.nd (qcx c_read_paper hr hx (qa_cons (qv 0) qa_nil)))
  qss_nil)))
  qss_nil)) (fun _ => (qss_cons (qst (i := 6) sc_law_held.nd qe_bl)
  qss_nil)))
  (qss_cons (qs_if (qtc oq_ne (qv 6) (qec oq_isN (qv 4) qe_non)) (qss_cons (qs_ret qe_bl)
  qss_nil) qss_nil)
  (qss_cons (qs_if (PW.pt (qw_and (qtc oq_notN (qv 4) qe_non) (qw_and1 (qt_not (qt_val (qcl c_law_same hr (qa_cons (qv 5) (qa_cons (qv 4) qa_nil)))))))) (qss_cons (qs_ret qe_bl)
  qss_nil) qss_nil)
  qss_nil))))))
  (qss_cons (qs_ret qe_bl)
  qss_nil)), ?_⟩
 simp only [start3]
 have tupK : ∀ t, KK = some t → Sm 20 t ∧ ∃ us, t = .tup us := fun t e => by
  rw [e, rdB_some] at hk
  refine ⟨(kwB_sm 5 t hk.2).up (by omega), isTup_t ?_⟩
  cases h : isTup t with
  | true => rfl
  | false => rw [kwB_no h] at hk; cases hk.2
 have tupP : ∀ t, PP = some t → Sm 20 t ∧ ∃ us, t = .tup us := fun t e => by
  rw [e, rdB_some] at hp
  refine ⟨paB_sm hp.2 fun x y us d e2 => hf x y us d (by rw [hp.1, e2]), ?_⟩
  cases t with
  | tup us => exact ⟨us, rfl⟩
  | _ => cases hp.2
 and_intros
 intro p1 hp1; generalize ep1 : up _ p1 (O.lst _) = Γ1; have g1 := al_g ep1; have lp1 := al_l ep1 hp1
 and_intros
 refine ⟨p1, _, rfl, it3_l g1, ?_⟩
 refine ⟨fun rest τ Γ' => ∃ (b : Nat) (o3 o4 o5 o6 : Option T), rest = [T.tup [.str "kind", oT KK], .tup [.str "paper", oT PP]].drop b ∧ τ = [some (.str (S l)), some (oT KK), some (oT PP), o3, o4, o5, o6] ∧ Γ' = Γ1, ⟨0, none, none, none, none, rfl, rfl, rfl⟩, ?_, ?_⟩
 ·rintro τ Γ' ⟨b, o3, o4, o5, o6, er, rfl, rfl⟩
  refine ⟨it3_l g1, ?_⟩
  and_intros
  exact drop0 lp1 q
 ·rintro x rr τ Γ' ⟨b, o3, o4, o5, o6, er, rfl, rfl⟩
  refine ⟨it3_l g1, ?_⟩
  obtain ⟨nm, due, ex, er2, hcase⟩ : ∃ (nm : Str) (due : Option T), x = .tup [.str nm, oT due] ∧ (∃ b', rr = [T.tup [.str "kind", oT KK], .tup [.str "paper", oT PP]].drop b') ∧ ((nm = "kind" ∧ due = KK) ∨ (nm = "paper" ∧ due = PP)) := by
   match b, er with
   | 0, er => cases er; exact ⟨_, _, rfl, ⟨1, rfl⟩, .inl ⟨rfl, rfl⟩⟩
   | 1, er => cases er; exact ⟨_, _, rfl, ⟨2, rfl⟩, .inr ⟨rfl, rfl⟩⟩
   | b + 2, er => rw [List.drop_of_length_le (by show 2 ≤ b + 2; omega)] at er; cases er
  subst ex
  obtain ⟨b', er2⟩ := er2
  have tupD : ∀ t, due = some t → Sm 20 t ∧ ∃ us, t = .tup us := by
   rcases hcase with ⟨_, e⟩ | ⟨_, e⟩ <;> rw [e]
   ·exact tupK
   ·exact tupP
  and_intros
  unfold cTry0
  and_intros
  refine ⟨fun τ Γ2 => ∃ t, due = some t ∧ τ = [some (.str (S l)), some (oT KK), some (oT PP), some (.str nm), some (oT due), some t, some (.bl false)] ∧ Γ2 = Γ', ?_, ?_⟩
  ·rcases hcase with ⟨rfl, rfl⟩ | ⟨rfl, rfl⟩
   ·and_intros
    refine ⟨l, rfl, hl, ha, fun t et => ?_, fun en => ⟨xbb, ?_⟩⟩
    ·and_intros
     exact ⟨t, hk.symm.trans et, rfl, rfl⟩
    ·have ed : due = none := hk.symm.trans en
     subst ed
     and_intros
     refine ⟨_, _, rfl, rfl, rfl, ?_⟩
     and_intros
     exact ⟨b', _, _, _, _, er2, rfl, rfl⟩
   ·and_intros
    refine ⟨l, rfl, hl, ha, hf, fun t et => ?_, fun en => ⟨xbb, ?_⟩⟩
    ·and_intros
     exact ⟨t, hp.symm.trans et, rfl, rfl⟩
    ·have ed : due = none := hp.symm.trans en
     subst ed
     and_intros
     refine ⟨_, _, rfl, rfl, rfl, ?_⟩
     and_intros
     exact ⟨b', _, _, _, _, er2, rfl, rfl⟩
  rintro τ Γ2 ⟨t, rfl, rfl, rfl⟩
  obtain ⟨st, us, rfl⟩ := tupD t rfl
  and_intros
  refine ⟨_, _, rfl, rfl, rfl, ?_⟩
  and_intros
  refine ⟨_, 20, rfl, st, by decide, ?_⟩
  and_intros
  exact ⟨b', _, _, _, _, er2, rfl, rfl⟩
abbrev s_law : Stmt := top 40
theorem sc_law : FnScope ["script", "cell", "signs", "kind", "paper", "row"] ["script"] (defScope s_law) := ⟨rfl, rfl, rfl, by decide +kernel, rfl, by decide +kernel, by decide +kernel⟩
def spLaw3 (K : PySem.W.Frag) : Sp3 := fun ts Γ Z _ => ∃ (a : Addr) (ns : List Int), ts = [.scr K a (ns.map T.int)] ∧ ns.length ≤ 63 ∧ ∀ Γ', Z (.bl true) Γ'
theorem ok_law3 (F : Fun K "law" "law" s_law f fd) (c_law_draws : Cl3 P w K mg base "_law_draws" 1 ["cell", "count"] spDws) (c_law_asked : Cl3 P w K mg base "_law_asked" 2 ["cell"] spAs) (c_law_held : Cl3 P w K mg base "_law_held" 25 ["signs", "kind", "paper"] spHe) (c_law_deep : Cl3 P w K mg base "_law_deep" 1 ["number"] spDp) (z_len : mg "len" = none) : FnOk P w K mg base CX0 26 f fd ["script"] (liSp (spLaw3 K)) := by
 refine okd F sc_law (fun ts Γ Z Y h => ?_) (fun cdv A outer s H E ts Γ Z Y hr h => ?_)
 ·obtain ⟨a, ns, rfl, _⟩ := h
  rfl
 obtain ⟨a, ns, rfl, h63, q⟩ := h
 refine ⟨_, (qss_cons (qs_for PassesOwn.never rfl (qi_list (qe_op oq_catC (qe_lst (qa_cons (qe_callB cq_lenC rfl z_len PySem.boot_len (qa_cons (qv 0) qa_nil)) qa_nil)) (qv 0))) (qgn (i := 1) sc_law.nd) (qss_cons (qs_asg (qcl c_law_asked hr (qa_cons (qv 1) qa_nil)) (qg_tup (n := 3) rfl (qgs_cons (qgn (i := 2) sc_law.nd) (qgs_cons (qgn (i := 3) sc_law.nd) (qgs_cons (qgn (i := 4) sc_law.nd) qgs_nil)))))
  (qss_cons (qs_if (qt_not (qt_val (qcl c_law_held hr (qa_cons (qv 2) (qa_cons (qv 3) (qa_cons (qv 4) qa_nil)))))) (qss_cons (qs_ret qe_bl)
  qss_nil) qss_nil)
  qss_nil)))
  (qss_cons (qst (i := 5) sc_law.nd (qcl c_law_draws hr (qa_cons (qix (qe_op oq_catD (qv 0) (qe_lst (qa_cons qe_int qa_nil))) qe_int) (qa_cons qe_int qa_nil))))
  (qss_cons (qs_if (qtc oq_gt (qe_op oq_mod (qix (qv 5) qe_int) qe_int) qe_int) (qss_cons (qs_ret qe_bl)
  qss_nil) qss_nil)
  (qss_cons (qs_if (qtc oq_eq (qe_op oq_mod (qe_op oq_fdiv (qix (qv 5) qe_int) qe_int) qe_int) qe_int) (qss_cons (qs_ret (qcl c_law_held hr (qa_cons (qe_op oq_adds (qe_op oq_adds qe_str (qe_op oq_muls qe_str (qe_op oq_add qe_int (qe_op oq_mod (qix (qv 5) qe_int) qe_int)))) qe_str) (qa_cons qe_non (qa_cons qe_non qa_nil)))))
  qss_nil) qss_nil)
  (qss_cons (qs_ret (qcl c_law_held hr (qa_cons (qe_op oq_adds (qix (qe_lst (qa_cons qe_str (qa_cons qe_str (qa_cons qe_str qa_nil)))) (qe_op oq_mod (qe_op oq_fdiv (qix (qv 5) qe_int) qe_int) qe_int)) (qcl c_law_deep hr (qa_cons (qix (qv 5) qe_int) qa_nil))) (qa_cons qe_non (qa_cons qe_non qa_nil)))))
  qss_nil))))), ?_⟩
 simp only [start3]
 have sl := sizeLine_eq
 and_intros
 refine ⟨a, _, rfl, ?_⟩
 rw [List.length_map]
 and_intros
 intro p1 hp1; generalize e1 : up _ p1 (O.lst _) = Γ1; have g1 := al_g e1; have l1 := al_l e1 hp1
 and_intros
 refine ⟨p1, a, _, _, rfl, rfl, g1, Nat.le_of_lt (small1000 (by rw [List.length_map]; show 1 + _ ≤ _; omega)), ?_⟩
 intro p2 hp2; generalize e2 : up _ p2 (O.lst _) = Γ2; have g2 := al_g e2; have l2 := al_l e2 hp2
 have g2 : Γ2 p2 = some (.lst (((ns.length : Int) :: ns).map T.int)) := g2
 generalize ((ns.length : Int) :: ns) = cs at *
 and_intros
 refine ⟨p2, _, rfl, it3_l g2, ?_⟩
 refine ⟨fun rest τ Γ' => ∃ (rs : List Int) (o1 o2 o3 o4 : Option T), rest = rs.map T.int ∧ τ = [some (.scr K a (ns.map T.int)), o1, o2, o3, o4, none] ∧ Γ' = Γ2, ⟨cs, none, none, none, none, rfl, rfl, rfl⟩, ?_, ?_⟩
 rotate_left
 ·rintro x rr τ Γ' ⟨rs, o1, o2, o3, o4, er, rfl, rfl⟩
  cases rs with
  | nil => cases er
  | cons c rs =>
   cases er
   refine ⟨it3_l g2, ?_⟩
   and_intros
   refine ⟨c, rfl, fun l K P hd => ?_⟩
   and_intros
   refine ⟨l, K, P, rfl, hd, ?_⟩
   and_intros
   exact ⟨rs, _, _, _, _, rfl, rfl, rfl⟩
 rintro τ Γ' ⟨rs, o1, o2, o3, o4, er, rfl, rfl⟩
 refine ⟨it3_l g2, ?_⟩
 and_intros
 intro p3 hp3; generalize e3 : up _ p3 (O.lst _) = Γ3; have g3 := al_g e3; have l3 := al_l e3 hp3
 refine ⟨a, p3, _, _, rfl, rfl, g3, Nat.le_of_lt (small1000 (by rw [List.length_map]; show _ + 1 ≤ _; omega)), ?_⟩
 intro p4 hp4; generalize e4 : up _ p4 (O.lst _) = Γ4; have g4 := al_g e4; have l4 := al_l e4 hp4
 obtain ⟨c, ec⟩ : ∃ c : Int, atI (ns.map T.int ++ [T.int 0]) 0 = some (.int c) := by
  cases ns with
  | nil => exact ⟨0, atI_nat (j := 0) rfl⟩
  | cons n r => exact ⟨n, atI_nat (j := 0) rfl⟩
 and_intros
 refine t_ixR g4 ec ?_
 and_intros
 refine ⟨c, 18, rfl, by decide, ?_⟩
 intro p5 hp5; generalize e5 : up _ p5 (O.lst _) = Γ5; have g5 := al_g e5; have l5 := al_l e5 hp5
 have a16 : atI ((dws c 18).map T.int) 16 = some (.int (dw c 16)) := atI_nat (j := 16) (by rw [List.getElem?_map, dws_get (by decide)]; rfl)
 have a17 : atI ((dws c 18).map T.int) 17 = some (.int (dw c 17)) := atI_nat (j := 17) (by rw [List.getElem?_map, dws_get (by decide)]; rfl)
 have b16 := dw_pos c 16
 have b17 := dw_pos c 17
 and_intros
 refine t_ixR g5 a16 ?_
 and_intros
 refine c_if (fun c1 => ?_) (fun c1 => ?_)
 ·and_intros
  exact drop0 .refl (q _)
 and_intros
 refine t_ixR g5 a16 ?_
 and_intros
 refine c_if (fun c2 => ?_) (fun c2 => ?_)
 ·and_intros
  refine t_ixR g5 a17 ?_
  and_intros
  have m1 : 0 ≤ dw c 17 % 199 := Int.emod_nonneg _ (by decide)
  have m2 : dw c 17 % 199 < 199 := Int.emod_lt_of_pos _ (by decide)
  obtain ⟨m, hm⟩ : ∃ m : Nat, 1 + dw c 17 % 199 = m := ⟨(1 + dw c 17 % 199).toNat, by omega⟩
  rw [hm]
  refine ⟨_, _, rfl, rfl, by omega, by omega, by decide +kernel, ?_⟩
  dsimp only
  rw [show ("b copy text, " : Str) = S (cBt ++ [44, 32]) by decide +kernel, repS_S, Int.toNat_natCast, show ("door a 0 (" : Str) = S (cDoor ++ [97, 32, 48, 32, 40]) by decide +kernel]
  refine t_adds ?_ ?_
  ·rw [S_len, S_len, rep_len]; show 10 + m * 13 ≤ _; omega
  rw [S_app]
  and_intros
  rw [show ("b copy text) none" : Str) = S (cBt ++ [41, 32, 110, 111, 110, 101]) by decide +kernel]
  refine t_adds ?_ ?_
  ·rw [S_len, S_len, List.length_append, rep_len]; show 10 + m * 13 + 17 ≤ _; omega
  rw [S_app]
  and_intros
  exact ⟨txB m, none, none, rfl, held_b (by omega) (by omega), drop0 .refl (q _)⟩
 ·and_intros
  intro p6 hp6; generalize e6 : up _ p6 (O.lst _) = Γ6; have g6 := al_g e6; have l6 := al_l e6 hp6
  have c2 : dw c 16 / 4 % 4 ≠ 3 := fun e => by rw [e] at c2; revert c2; decide
  have m1 : 0 ≤ dw c 16 / 4 % 4 := Int.emod_nonneg _ (by decide)
  have m2 : dw c 16 / 4 % 4 < 4 := Int.emod_lt_of_pos _ (by decide)
  obtain ⟨pf, epf, hpf⟩ : ∃ pf ∈ pfs, atI [T.str "", .str "door a 0 () ", .str "door a 0 (b give "] (dw c 16 / 4 % 4) = some (.str (S pf)) := by
   have e : dw c 16 / 4 % 4 = 0 ∨ dw c 16 / 4 % 4 = 1 ∨ dw c 16 / 4 % 4 = 2 := by omega
   rcases e with e | e | e <;> rw [e]
   ·exact ⟨pfs[0], by decide, atS (i := 0) rfl (by decide +kernel)⟩
   ·exact ⟨pfs[1], by decide, atS (i := 1) rfl (by decide +kernel)⟩
   ·exact ⟨pfs[2], by decide, atS (i := 2) rfl (by decide +kernel)⟩
  and_intros
  refine t_ixR (l6 _ _ g5) a16 ?_
  and_intros
  refine t_ixR g6 hpf ?_
  and_intros
  refine t_ixR (l6 _ _ g5) a17 ?_
  and_intros
  refine ⟨dw c 17, rfl, b17, fun l dk => ?_⟩
  have ll := (dk _ epf).1
  rw [List.length_append] at ll
  refine t_adds ?_ ?_
  ·rw [S_len, S_len]; omega
  rw [S_app]
  and_intros
  exact ⟨pf ++ l, none, none, rfl, dk pf epf, drop0 .refl (q _)⟩
end
def spLaw (K : PySem.W.Frag) : Sp := fun vs H Q _ => ∃ (a : Addr) (ns : List Int), vs = [.ref a] ∧ Only H ∧ SqL K H a (ns.map V.int) ∧ ns.length ≤ 63 ∧ ∀ H', Q (.bl true) H'
theorem rs_of_ints {H : Hp} : ∀ ns : List Int, Rs H (ns.map V.int) (ns.map T.int)
 | [] => rs_nil
 | n :: r => rs_cons r_int (rs_of_ints r)
theorem law_dn {K : PySem.W.Frag} (vs : List V) (H : Hp) (Q : VK) (E : XK) (h : spLaw K vs H Q E) : liSp (spLaw3 K) vs H Q E := by
 obtain ⟨a, ns, rfl, hO, hS, h63, q⟩ := h
 have sc : SqC K H a (ns.map V.int) := by
  rcases hS with (h | ⟨o, h⟩) | h
  ·rcases hO a with z | ⟨o, xs, z⟩
   ·rw [h] at z; cases z
   ·rw [h] at z; cases z
  ·exact .inl ⟨o, h⟩
  ·exact .inr h
 refine ⟨[.scr K a (ns.map T.int)], fun _ => none, fun x _ => x = .bl true, fun _ _ => False, rs_cons (r_scr sc (rs_of_ints ns)) rs_nil, fun _ _ h => (nomatch h), ⟨a, ns, rfl, h63, fun _ => rfl⟩, fun v x H' Γ' _ _ r z => ?_, fun _ _ _ _ _ z => z.elim⟩
 subst z
 rw [i_bl r]
 exact q H'
end Tg
set_option Elab.async false
set_option linter.all false
set_option maxRecDepth 100000
set_option maxHeartbeats 4000000
namespace Tg
open PySem L2 L3
theorem all_mk {l : PySem.W.OpenLaw} {w : World} {K : PySem.W.Frag} {h : Heap} {mg : Str → Option Value} {fa f1 f2 f3 f4 f5 f6 f7 f8 f9 f10 f11 f12 f13 f14 f15 f16 f17 f18 f19 f20 f21 f22 f23 f24 f25 : Addr} {g1 g2 g3 g4 g5 g6 g7 g8 g9 g10 g11 g12 g13 g14 g15 g16 g17 g18 g19 g20 g21 g22 g23 g24 g25 : FuncData} (X : K.In h) (G : h.Ns mainGlobals mg) (hfa : mg "law" = some (.ref fa))
  (d1 : Dg K "is_whole" s_is_whole f1 g1) (d2 : Dg K "is_name" s_is_name f2 g2) (d3 : Dg K "is_kind" s_is_kind f3 g3) (d4 : Dg K "is_kind_within" s_is_kind_within f4 g4) (d5 : Dg K "are_fields" s_are_fields f5 g5) (d6 : Dg K "is_field" s_is_field f6 g6) (d7 : Dg K "is_paper" s_is_paper f7 g7) (d8 : Dg K "is_side" s_is_side f8 g8) (d9 : Dg K "are_places" s_are_places f9 g9) (d10 : Dg K "is_place" s_is_place f10 g10) (d11 : Dg K "read_kind" s_read_kind f11 g11) (d12 : Dg K "read_paper" s_read_paper f12 g12) (d13 : Dg K "kind_in" s_kind_in f13 g13) (d14 : Dg K "field_in" s_field_in f14 g14) (d15 : Dg K "paper_in" s_paper_in f15 g15) (d16 : Dg K "places_in" s_places_in f16 g16) (d17 : Dg K "place_in" s_place_in f17 g17) (d18 : Dg K "_law_draws" s_law_draws f18 g18) (d19 : Dg K "_law_same" s_law_same f19 g19) (d20 : Dg K "_law_level" s_law_level f20 g20) (d21 : Dg K "_law_ended" s_law_ended f21 g21) (d22 : Dg K "_law_asked" s_law_asked f22 g22) (d23 : Dg K "_law_held" s_law_held f23 g23) (d24 : Dg K "_law_deep" s_law_deep f24 g24) (d25 : Dg K "law" s_law f25 g25)
  (zs : Zs K ["len", "max", "min", "range", "tuple", "isinstance", "int", "bool", "list", "str", "all", "zip"])
  {u1 : Value} (gk1 : PySem.W.nsIn K mainGlobals "LETTERS" = some (some u1)) (q1 : RelV (.str abc) u1)
  {u2 : Value} (gk2 : PySem.W.nsIn K mainGlobals "LONGEST_NAME" = some (some u2)) (q2 : RelV (.int 8) u2)
  {u3 : Value} (gk3 : PySem.W.nsIn K mainGlobals "WIDEST_NUM" = some (some u3)) (q3 : RelV (.int 4) u3)
  {u4 : Value} (gk4 : PySem.W.nsIn K mainGlobals "MOST_FIELDS" = some (some u4)) (q4 : RelV (.int 6) u4)
  {u5 : Value} (gk5 : PySem.W.nsIn K mainGlobals "DEEPEST_KIND" = some (some u5)) (q5 : RelV (.int 5) u5)
  {u6 : Value} (gk6 : PySem.W.nsIn K mainGlobals "FIGURES" = some (some u6)) (q6 : RelV (.str figs) u6)
  {cNoText : Addr} (gcNoText : PySem.W.nsIn K mainGlobals "NoText" = some (some (.ref cNoText)))
  {cWriting : Addr} (gcWriting : PySem.W.nsIn K mainGlobals "Writing" = some (some (.ref cWriting)))
  (xNoText : PySem.W.excIn K cNoText [.type "ValueError", .type "Exception", .type "BaseException", .type "object"] "ValueError.__new__" = true)
  (xbb : PySem.W.exmOne K (.ref cNoText) (.ref cNoText) = some true)
  {aSIDES : Addr} (gSIDES : PySem.W.nsIn K mainGlobals "SIDES" = some (some (.ref aSIDES))) {odSIDES : Option Addr} {itSIDES : Array Value} {nnSIDES : Nat} {slSIDES : Array (Option Value)} (klSIDES : K.lookup aSIDES = some ⟨.type "tuple", odSIDES, .seq itSIDES nnSIDES, slSIDES⟩) (kzSIDES : itSIDES.size ≤ sizeLine) (kvSIDES : Vals [.int 0, .int 1] itSIDES.toList)
  {aWAYS : Addr} (gWAYS : PySem.W.nsIn K mainGlobals "WAYS" = some (some (.ref aWAYS))) {odWAYS : Option Addr} {itWAYS : Array Value} {nnWAYS : Nat} {slWAYS : Array (Option Value)} (klWAYS : K.lookup aWAYS = some ⟨.type "tuple", odWAYS, .seq itWAYS nnWAYS, slWAYS⟩) (kzWAYS : itWAYS.size ≤ sizeLine) (kvWAYS : Vals (waysL.map V.str) itWAYS.toList)
  {fm1 : Addr} {gm1 : FuncData} (dm1 : Dm K cWriting "__init__" "Writing.__init__" s_Writing_init fm1 gm1)
  {fm2 : Addr} {gm2 : FuncData} (dm2 : Dm K cWriting "is_over" "Writing.is_over" s_Writing_is_over fm2 gm2)
  {fm3 : Addr} {gm3 : FuncData} (dm3 : Dm K cWriting "sees" "Writing.sees" s_Writing_sees fm3 gm3)
  {fm4 : Addr} {gm4 : FuncData} (dm4 : Dm K cWriting "skip" "Writing.skip" s_Writing_skip fm4 gm4)
  {fm5 : Addr} {gm5 : FuncData} (dm5 : Dm K cWriting "word" "Writing.word" s_Writing_word fm5 gm5)
  {fm6 : Addr} {gm6 : FuncData} (dm6 : Dm K cWriting "figure" "Writing.figure" s_Writing_figure fm6 gm6)
  (pgWriting : PySem.W.plainGet K cWriting Str.empty = true) (hdWriting : PySem.W.hasDictIn K cWriting = true) (poWriting : PySem.W.plainOver K cWriting = true) (saWriting : PySem.W.findIn K (.ref cWriting) "__setattr__" = some (some (.builtin "object.__setattr__"))) (mkWriting : PySem.W.makesIn K cWriting = true) (keWriting : PySem.W.keepIn K (.ref cWriting) = true)
  (naWriting_text : PySem.W.findIn K (.ref cWriting) "text" = some none)
  (naWriting_at : PySem.W.findIn K (.ref cWriting) "at" = some none)
  :
  ∃ fd : FuncData, (∀ (s : Shared) (v : Value), BindsTo s fd ⟨[v], []⟩ [("script", v)]) ∧ ∀ base : Heap, K.In base → base.Ns mainGlobals mg → FnOk l.prog w K mg base CX0 26 fa fd ["script"] (spLaw K) := by
 have d1 := d1.df (ps := ["thing"]) X G fun _ _ _ _ _ _ => L3.us1 (fun _ => rfl)
 have d2 := d2.df (ps := ["thing"]) X G fun _ _ _ _ _ _ => L3.us1 (fun _ => rfl)
 have d3 := d3.df (ps := ["thing"]) X G fun _ _ _ _ _ _ => L3.us1 (fun _ => rfl)
 have d4 := d4.df (ps := ["thing", "depth"]) X G fun _ _ _ _ _ _ => L3.us2 (fun _ _ => rfl)
 have d5 := d5.df (ps := ["thing", "depth"]) X G fun _ _ _ _ _ _ => L3.us2 (fun _ _ => rfl)
 have d6 := d6.df (ps := ["thing", "depth"]) X G fun _ _ _ _ _ _ => L3.us2 (fun _ _ => rfl)
 have d7 := d7.df (ps := ["thing"]) X G fun _ _ _ _ _ _ => L3.us1 (fun _ => rfl)
 have d8 := d8.df (ps := ["thing"]) X G fun _ _ _ _ _ _ => L3.us1 (fun _ => rfl)
 have d9 := d9.df (ps := ["thing"]) X G fun _ _ _ _ _ _ => L3.us1 (fun _ => rfl)
 have d10 := d10.df (ps := ["thing"]) X G fun _ _ _ _ _ _ => L3.us1 (fun _ => rfl)
 have d11 := d11.df (ps := ["text"]) X G fun _ _ _ _ _ _ => L3.us1 (fun _ => rfl)
 have d12 := d12.df (ps := ["text"]) X G fun _ _ _ _ _ _ => L3.us1 (fun _ => rfl)
 have d13 := d13.df (ps := ["writing", "depth"]) X G fun _ _ _ _ _ _ => L3.us2 (fun _ _ => rfl)
 have d14 := d14.df (ps := ["writing", "depth"]) X G fun _ _ _ _ _ _ => L3.us2 (fun _ _ => rfl)
 have d15 := d15.df (ps := ["writing"]) X G fun _ _ _ _ _ _ => L3.us1 (fun _ => rfl)
 have d16 := d16.df (ps := ["writing"]) X G fun _ _ _ _ _ _ => L3.us1 (fun _ => rfl)
 have d17 := d17.df (ps := ["writing"]) X G fun _ _ _ _ _ _ => L3.us1 (fun _ => rfl)
 have d18 := d18.df (ps := ["cell", "count"]) X G fun _ _ _ _ _ _ => L3.us2 (fun _ _ => rfl)
 have d19 := d19.df (ps := ["found", "due"]) X G fun _ _ _ _ _ _ => L3.us2 (fun _ _ => rfl)
 have d20 := d20.df (ps := ["level", "word", "one"]) X G fun _ _ _ _ _ _ => L3.us3 (fun _ _ _ => rfl)
 have d21 := d21.df (ps := ["signs", "way"]) X G fun _ _ _ _ _ _ => L3.us2 (fun _ _ => rfl)
 have d22 := d22.df (ps := ["cell"]) X G fun _ _ _ _ _ _ => L3.us1 (fun _ => rfl)
 have d23 := d23.df (ps := ["signs", "kind", "paper"]) X G fun _ _ _ _ _ _ => L3.us3 (fun _ _ _ => rfl)
 have d24 := d24.df (ps := ["number"]) X G fun _ _ _ _ _ _ => L3.us1 (fun _ => rfl)
 have d25 := d25.df (ps := ["script"]) X G fun _ _ _ _ _ _ => L3.us1 (fun _ => rfl)
 have e := hfa.symm.trans d25.m
 cases e
 obtain ⟨z_len, z_max, z_min, z_range, z_tuple, z_isinstance, z_int, z_bool, z_list, z_str, z_all, z_zip, _⟩ := zs.m X G
 refine ⟨g25, fun s v => ?_, fun base _ _ => ?_⟩
 ·obtain ⟨_, _, _, _, _, _, _, _, _, rfl, _⟩ := d25.F.ex
  exact .of_eq rfl
 have m_LETTERS := PySem.W.mg_of X G gk1
 have m_LONGEST_NAME := PySem.W.mg_of X G gk2
 have m_WIDEST_NUM := PySem.W.mg_of X G gk3
 have m_MOST_FIELDS := PySem.W.mg_of X G gk4
 have m_DEEPEST_KIND := PySem.W.mg_of X G gk5
 have m_FIGURES := PySem.W.mg_of X G gk6
 have m_NoText := PySem.W.mg_of X G gcNoText
 have m_Writing := PySem.W.mg_of X G gcWriting
 have Fm1 := dm1.F
 have bm1 := Fm1.binds (ps := ["self", "text"]) fun _ _ _ _ _ _ => L3.us2 (fun _ _ => rfl)
 have mt1 := dm1.t
 have Fm2 := dm2.F
 have bm2 := Fm2.binds (ps := ["self"]) fun _ _ _ _ _ _ => L3.us1 (fun _ => rfl)
 have mt2 := dm2.t
 have Fm3 := dm3.F
 have bm3 := Fm3.binds (ps := ["self", "piece"]) fun _ _ _ _ _ _ => L3.us2 (fun _ _ => rfl)
 have mt3 := dm3.t
 have Fm4 := dm4.F
 have bm4 := Fm4.binds (ps := ["self", "piece"]) fun _ _ _ _ _ _ => L3.us2 (fun _ _ => rfl)
 have mt4 := dm4.t
 have Fm5 := dm5.F
 have bm5 := Fm5.binds (ps := ["self"]) fun _ _ _ _ _ _ => L3.us1 (fun _ => rfl)
 have mt5 := dm5.t
 have Fm6 := dm6.F
 have bm6 := Fm6.binds (ps := ["self"]) fun _ _ _ _ _ _ => L3.us1 (fun _ => rfl)
 have mt6 := dm6.t
 have cls_Writing : Cls K cWriting := ⟨pgWriting, hdWriting, poWriting, saWriting⟩
 have mk_Writing : Mk K cWriting fm1 := ⟨mkWriting, dm1.t.1, dm1.t.2, keWriting⟩
 have n_Writing_text : NoAttr K cWriting "text" := naWriting_text
 have n_Writing_at : NoAttr K cWriting "at" := naWriting_at
 have m_SIDES := PySem.W.mg_of X G gSIDES
 have k_SIDES : KTup K aSIDES [.int 0, .int 1] := ⟨_, _, _, klSIDES, rfl, rfl, kzSIDES, kvSIDES⟩
 have m_WAYS := PySem.W.mg_of X G gWAYS
 have k_WAYS : KTup K aWAYS (waysL.map V.str) := ⟨_, _, _, klWAYS, rfl, rfl, kzWAYS, kvWAYS⟩
 have C18 := d18.cl (ok_draws (P := l.prog) (w := w) (base := base) d18.F z_range)
 have C1 := d1.cl (ok_is_whole (P := l.prog) (w := w) (base := base) d1.F z_isinstance z_int z_bool)
 have C2 := d2.cl (ok_is_name (P := l.prog) (w := w) (base := base) d2.F m_LONGEST_NAME (gl_int q2) m_LETTERS (gl_str q1) z_isinstance z_str z_len z_all)
 have C8 := d8.cl (ok_is_side (P := l.prog) (w := w) (base := base) d8.F C1 m_SIDES k_SIDES)
 have Cm1 : ClI l.prog w K mg base cWriting _ _ _ := ⟨_, _, ok_W_init Fm1 cls_Writing n_Writing_text n_Writing_at, mk_Writing, bm1⟩
 have Cm2 : ClM l.prog w K mg base cWriting "is_over" _ _ _ := ⟨_, _, ok_W_is_over Fm2 cls_Writing n_Writing_text n_Writing_at z_len, cls_Writing, mt2, bm2⟩
 have Cm3 : ClM l.prog w K mg base cWriting "sees" _ _ _ := ⟨_, _, ok_W_sees Fm3 cls_Writing n_Writing_text n_Writing_at z_len, cls_Writing, mt3, bm3⟩
 have Cm4 : ClMx l.prog w K mg base cWriting "skip" _ _ _ := ⟨_, _, ok_W_skip Fm4 Cm3 m_NoText xNoText, cls_Writing, mt4, bm4⟩
 have Cm5 : ClM l.prog w K mg base cWriting "word" _ _ _ := ⟨_, _, ok_W_word Fm5 cls_Writing n_Writing_text n_Writing_at m_LETTERS (gl_str q1) z_len, cls_Writing, mt5, bm5⟩
 have Cm6 : ClMx l.prog w K mg base cWriting "figure" _ _ _ := ⟨_, _, ok_W_figure Fm6 Cm2 cls_Writing n_Writing_text n_Writing_at m_FIGURES (gl_str q6) m_NoText xNoText z_int, cls_Writing, mt6, bm6⟩
 have C13 := kind_all (P := l.prog) (w := w) (base := base) d13.F d13.m d13.k d13.b d14.F d14.m d14.k d14.b Cm5 Cm4 Cm3 Cm6 m_NoText xNoText z_tuple 6
 have C17 := d17.cx (ok_place_in (P := l.prog) (w := w) (base := base) d17.F Cm5 Cm4 C13 m_DEEPEST_KIND (gl_int q5))
 have C16 := d16.cx (ok_places_in (P := l.prog) (w := w) (base := base) d16.F Cm4 Cm3 C17 z_tuple)
 have C15 := d15.cx (ok_paper_in (P := l.prog) (w := w) (base := base) d15.F Cm5 Cm4 Cm3 Cm6 C16 C13 m_DEEPEST_KIND (gl_int q5))
 have C4 := kw_all (P := l.prog) (w := w) (base := base) d4.F d4.m d4.k d4.b d6.F d6.m d6.k d6.b d5.F d5.m d5.k d5.b C1 C2 m_WIDEST_NUM (gl_int q3) m_MOST_FIELDS (gl_int q4) z_isinstance z_tuple z_str z_len z_all 6
 have C19 := same_all (P := l.prog) (w := w) (base := base) d19.F d19.m d19.k d19.b z_isinstance z_tuple z_len z_all z_zip z_str z_int z_bool 21
 have C21 := d21.cl (ok_ended (P := l.prog) (w := w) (base := base) d21.F)
 have C24 := d24.cl (ok_deep (P := l.prog) (w := w) (base := base) d24.F z_int)
 have C20 := d20.cl (ok_level (P := l.prog) (w := w) (base := base) d20.F z_range z_int z_str z_tuple)
 have C22 := d22.cl (ok_asked (P := l.prog) (w := w) (base := base) d22.F C18 C20 C21 z_range)
 have C3 := d3.cl (ok_is_kind (P := l.prog) (w := w) (base := base) d3.F m_DEEPEST_KIND (gl_int q5) C4)
 have C10 := d10.cl (ok_is_place (P := l.prog) (w := w) (base := base) d10.F C2 C3 m_WAYS k_WAYS z_isinstance z_tuple z_str z_len)
 have C9 := d9.cl (ok_are_places (P := l.prog) (w := w) (base := base) d9.F C10 z_isinstance z_tuple z_len z_all)
 have C7 := d7.cl (ok_is_paper (P := l.prog) (w := w) (base := base) d7.F C2 C8 C9 C3 z_isinstance z_tuple z_len)
 have C11 := d11.cx (ok_read_kind (P := l.prog) (w := w) (base := base) d11.F m_Writing Cm1 Cm2 C13 C3 m_DEEPEST_KIND (gl_int q5) m_NoText xNoText)
 have C12 := d12.cx (ok_read_paper (P := l.prog) (w := w) (base := base) d12.F m_Writing Cm1 Cm2 C15 C7 m_NoText xNoText)
 have C23 := d23.cl (ok_held (P := l.prog) (w := w) (base := base) d23.F C11 C12 C19 m_NoText xbb)
 exact (ok_law3 d25.F C18 C22 C23 C24 z_len).imp law_dn
theorem walk {l : PySem.W.OpenLaw} {q : Program} {loose : List Str} {XP : (Str → Option Value) → Heap → Prop} {YP : World → Heap → Prop} {d : DefRec} {K : Params → PySem.W.Frag} (hn : l.most = some 63) (hdf : d.params.defaults = [])
  (hY : ∀ (w : World) (h : Heap), YP w h → (K w.params).In h)
  (F : ∀ (w : World) (mg : Str → Option Value) (fa : Addr) (h : Heap), (K w.params).In h → h.Ns mainGlobals mg → mg d.name = some (.ref fa) →
   ∃ fd : FuncData, (∀ (s : Shared) (u : Value), BindsTo s fd ⟨[u], []⟩ [("script", u)]) ∧ ∀ base : Heap, (K w.params).In base → base.Ns mainGlobals mg → FnOk l.prog w (K w.params) mg base CX0 26 fa fd ["script"] (spLaw (K w.params))) :
  PySem.W.WalkO q loose XP YP l.row.toRowW d [] (fun f vs => PySem.call f vs) :=
 L2.walk_of (n := 63) (k := 26) (x := "script") (CX := fun _ => CX0) (sp := fun w => spLaw (K w.params)) hn (by decide) hdf ⟨rfl, by decide, by decide⟩ hY F (fun _ _ a ns hl hO hS => ⟨a, ns, rfl, hO, hS, hl, fun _ => rfl⟩) fun _ _ _ _ _ z => z
end Tg
open PySem PySem.W PyProof.Rows
def PySem.W.Fast.tw15441958368339418917 : Unit := ()
def PySem.W.Fast.tw4136067405686300871 : Unit := ()
def PySem.W.Fast.tw8878263605331936682 : Unit := ()
def PySem.W.Fast.tw1409355453510064622 : Unit := ()
def PySem.W.Fast.tw14175852477909413423 : Unit := ()
def PySem.W.Fast.tw4582548779352575024 : Unit := ()
def PySem.W.Fast.tw16209250142425553364 : Unit := ()
def PySem.W.Fast.tw17215136501703424950 : Unit := ()
def PySem.W.Fast.tw2310158455023619671 : Unit := ()
def PySem.W.Fast.tw13236874698955021816 : Unit := ()
def PySem.W.Fast.tw13392209894992093658 : Unit := ()
def PySem.W.Fast.tw456798063834379962 : Unit := ()
def PySem.W.Fast.tw990657802150103579 : Unit := ()
def PySem.W.Fast.tw493219634193847227 : Unit := ()
def PySem.W.Fast.tw10097752442957053021 : Unit := ()
def PySem.W.Fast.tw12592800746318924190 : Unit := ()
def PySem.W.Fast.tw11851521484538072063 : Unit := ()
def PySem.W.Fast.tw4076530242317312015 : Unit := ()
set_option maxRecDepth 100000 in
set_option maxHeartbeats 0 in
theorem PySem.Challenge.cw_tonguegate_k64_deep_and_wide_texts_holds : PySem.Challenge.rw_tonguegate_k64_deep_and_wide_texts.Holds := by
 w_on; o_law; k_head; (case hw => w_witness2)
 k_fill
 refine Tg.walk (l := PySem.Challenge.rw_tonguegate_k64_deep_and_wide_texts) rfl rfl (fun w h Y => PySem.W.kIn_of Y) ?F
 case F =>
  intro w mg fa h KX G hmg
  refine' Tg.all_mk KX G hmg ?d1 ?d2 ?d3 ?d4 ?d5 ?d6 ?d7 ?d8 ?d9 ?d10 ?d11 ?d12 ?d13 ?d14 ?d15 ?d16 ?d17 ?d18 ?d19 ?d20 ?d21 ?d22 ?d23 ?d24 ?d25 ?zs ?gk1 ?q1 ?gk2 ?q2 ?gk3 ?q3 ?gk4 ?q4 ?gk5 ?q5 ?gk6 ?q6 ?gcNoText ?gcWriting ?xNoText ?xbb ?gSIDES ?klSIDES ?kzSIDES ?kvSIDES ?gWAYS ?klWAYS ?kzWAYS ?kvWAYS  ?dm1 ?dm2 ?dm3 ?dm4 ?dm5 ?dm6 ?pgWriting ?hdWriting ?poWriting ?saWriting ?mkWriting ?keWriting ?naWriting_text ?naWriting_at
  (case d1 | d2 | d3 | d4 | d5 | d6 | d7 | d8 | d9 | d10 | d11 | d12 | d13 | d14 | d15 | d16 | d17 | d18 | d19 | d20 | d21 | d22 | d23 | d24 | d25 => refine' L3.dg ?a ?l ?c ?k; (case a | l | c | k => k_is))
  (case zs => (iterate 12 (refine L3.zc ?_ ?_; k_is)); exact trivial)

  (case gk1 => k_is); (case q1 => exact ⟨_, rfl⟩)
  (case gk2 => k_is); (case q2 => exact ⟨_, rfl⟩)
  (case gk3 => k_is); (case q3 => exact ⟨_, rfl⟩)
  (case gk4 => k_is); (case q4 => exact ⟨_, rfl⟩)
  (case gk5 => k_is); (case q5 => exact ⟨_, rfl⟩)
  (case gk6 => k_is); (case q6 => exact ⟨_, rfl⟩)
  (case gcNoText | gcWriting => k_is)
  (case xNoText => k_exc)
  (case xbb => kts_exm)
  (case gSIDES => k_is); (case klSIDES => k_is); (case kzSIDES => decide); (case kvSIDES => exact (.cons ⟨_, rfl⟩ (.cons ⟨_, rfl⟩ .nil)))
  (case gWAYS => k_is); (case klWAYS => k_is); (case kzWAYS => decide); (case kvWAYS => exact (.cons ⟨_, rfl⟩ (.cons ⟨_, rfl⟩ (.cons ⟨_, rfl⟩ (.cons ⟨_, rfl⟩ .nil)))))
  (case dm1 | dm2 | dm3 | dm4 | dm5 | dm6 => refine' L3.dm ?a ?l ?c ?k ?i; (case a | l | c | k | i => k_is))
  (case pgWriting => k_is); (case hdWriting => k_is); (case poWriting => k_is); (case saWriting => k_is); (case mkWriting => k_is); (case keWriting => k_is)
  (case naWriting_text => k_is)
  (case naWriting_at => k_is)

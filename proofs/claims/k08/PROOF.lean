import PyProof.Rows.All
import Wide.All
import OpenK.AllK
import Wide.FinOn
import Lean
import PyProof.EqAt
import PyProof.EqKinds
import PyProof.TupleCall
import PySem.Challenge.RW_tonguegate_k08_sixteen_layings
set_option Elab.async false
set_option linter.all false
set_option maxRecDepth 100000
namespace L2
open PySem PySem.Spec PyProof.Rows
abbrev Key := Sum Int Str
def keyIs : Key → Value → Bool
 | .inl k, v => Value.isInt k v
 | .inr x, v => Value.isStrOf x v
def keyH (w : World) : Key → Int
 | .inl k => hashInt k
 | .inr x => hashStr w x
theorem keyIs_shape : ∀ {k : Key} {v : Value}, keyIs k v = true → (∃ i t, k = Sum.inl i ∧ v = Value.int i t) ∨ (∃ x t, k = Sum.inr x ∧ v = Value.str x t)
 | .inl i, v, h => by
  obtain ⟨t, e⟩ := Value.isInt_shape (k := i) (v := v) h
  exact .inl ⟨i, t, rfl, e⟩
 | .inr x, v, h => by
  obtain ⟨t, e⟩ := Value.isStrOf_shape (x := x) (v := v) h
  exact .inr ⟨x, t, rfl, e⟩
theorem key_ll (a b : Int) : decide ((Sum.inl a : Key) = Sum.inl b) = (a == b) := by
 by_cases e : a = b
 ·subst e; simp
 ·have h : ¬ (Sum.inl a : Key) = Sum.inl b := fun q => e (Sum.inl.inj q)
  rw [decide_eq_false h]
  exact (beq_eq_false_iff_ne.mpr e).symm
theorem key_rr (a b : Str) : decide ((Sum.inr a : Key) = Sum.inr b) = decide (a = b) := by
 by_cases e : a = b
 ·subst e; simp
 ·have h : ¬ (Sum.inr a : Key) = Sum.inr b := fun q => e (Sum.inr.inj q)
  rw [decide_eq_false h, decide_eq_false e]
theorem key_lr (a : Int) (b : Str) : decide ((Sum.inl a : Key) = Sum.inr b) = false := decide_eq_false (fun q => nomatch q)
theorem key_rl (a : Str) (b : Int) : decide ((Sum.inr a : Key) = Sum.inl b) = false := decide_eq_false (fun q => nomatch q)
def mixKind (prog : Program) (w : World) : PySem.KeyKind prog w Key where
 is := keyIs
 hash := keyH w
 inj := fun v a b ha hb => by
  rcases keyIs_shape ha with ⟨i, t, rfl, rfl⟩ | ⟨x, t, rfl, rfl⟩
  ·rcases keyIs_shape hb with ⟨j, u, rfl, e⟩ | ⟨y, u, rfl, e⟩
   ·injection e with e1 _; rw [e1]
   ·exact nomatch e
  ·rcases keyIs_shape hb with ⟨j, u, rfl, e⟩ | ⟨y, u, rfl, e⟩
   ·exact nomatch e
   ·injection e with e1 _; rw [e1]
 byValue := fun k v h => by
  rcases keyIs_shape h with ⟨i, t, rfl, rfl⟩ | ⟨x, t, rfl, rfl⟩ <;> rfl
 pyHash := fun hv h => by
  rcases keyIs_shape hv with ⟨i, t, rfl, rfl⟩ | ⟨x, t, rfl, rfl⟩
  ·exact wpAny_pyHash_int h
  ·exact wpAny_pyHash_str h
 eqBool := fun hu hv h => by
  rcases keyIs_shape hu with ⟨i, t, rfl, rfl⟩ | ⟨x, t, rfl, rfl⟩
  ·rcases keyIs_shape hv with ⟨j, u, rfl, rfl⟩ | ⟨y, u, rfl, rfl⟩
   ·rw [key_ll] at h; exact wpAny_eqBool_int h
   ·rw [key_lr] at h; exact SeqAt.EqAt.int_str i t y u _ _ _ _ h
  ·rcases keyIs_shape hv with ⟨j, u, rfl, rfl⟩ | ⟨y, u, rfl, rfl⟩
   ·rw [key_rl] at h; exact SeqAt.EqAt.str_int x t j u _ _ _ _ h
   ·rw [key_rr] at h; exact wpAny_eqBool_str h
 «strs» := fun k x t v h => by
  rcases keyIs_shape h with ⟨i, u, rfl, e⟩ | ⟨y, u, rfl, e⟩
  ·exact nomatch e
  ·injection e with e1 _
   subst e1
   cases v <;> rfl
end L2
namespace L2
open PySem PySem.Spec PyProof.Rows
inductive V where
 | non | bl (b : Bool) | int (i : Int) | str (x : Str) | byt (b : Array UInt8) | flt (b : UInt64) | ref (a : Addr) | ty (n : String)
 deriving DecidableEq
def RelV : V → Value → Prop
 | .non, u => u = Value.none
 | .bl b, u => u = Value.bool b
 | .int i, u => ∃ t, u = Value.int i t
 | .str x, u => ∃ t, u = Value.str x t
 | .byt b, u => ∃ t, u = Value.bytes b t
 | .flt b, u => ∃ t, u = Value.float b t
 | .ref a, u => u = Value.ref a
 | .ty n, u => u = Value.type n
abbrev Vals : List V → List Value → Prop := Paired RelV
theorem Vals.length {xs : List V} {us : List Value} (r : Vals xs us) : xs.length = us.length := Paired.length r
theorem Vals.get : ∀ {xs : List V} {us : List Value} {i : Nat} {x : V}, Vals xs us → xs[i]? = some x → ∃ u, us[i]? = some u ∧ RelV x u
 | _, _, _, _, .nil, e => by simp at e
 | _, _, 0, _, .cons r _, e => by simp at e; subst e; exact ⟨_, rfl, r⟩
 | _, _, i + 1, x, .cons _ t, e => by
  obtain ⟨u, h1, h2⟩ := Vals.get (i := i) (x := x) t (by simpa using e)
  exact ⟨u, by simpa using h1, h2⟩
theorem Vals.set {x : V} {u : Value} (r : RelV x u) : ∀ {xs : List V} {us : List Value} (i : Nat), Vals xs us → Vals (xs.set i x) (us.set i u)
 | _, _, _, .nil => .nil
 | _, _, 0, .cons _ t => .cons r t
 | _, _, i + 1, .cons q t => .cons q (Vals.set r i t)
theorem Vals.append : ∀ {xs ys : List V} {us ws : List Value}, Vals xs us → Vals ys ws → Vals (xs ++ ys) (us ++ ws)
 | _, _, _, _, .nil, s => s
 | _, _, _, _, .cons r t, s => .cons r (Vals.append t s)
theorem Vals.take : ∀ {xs : List V} {us : List Value} (n : Nat), Vals xs us → Vals (xs.take n) (us.take n)
 | _, _, 0, _ => .nil
 | _, _, _ + 1, .nil => .nil
 | _, _, n + 1, .cons r t => .cons r (Vals.take n t)
theorem Vals.drop : ∀ {xs : List V} {us : List Value} (n : Nat), Vals xs us → Vals (xs.drop n) (us.drop n)
 | _, _, 0, r => r
 | _, _, _ + 1, .nil => .nil
 | _, _, n + 1, .cons _ t => Vals.drop n t
def RelO : Option V → Option Value → Prop
 | some v, some u => RelV v u
 | none, none => True
 | _, _ => False
def KV {κ : Type} : List (κ × V) → List (κ × Value) → Prop := Paired fun (p : κ × V) (q : κ × Value) => p.1 = q.1 ∧ RelV p.2 q.2
def kV : Key → V
 | .inl i => .int i
 | .inr x => .str x
inductive HO where
 /-- a list -/
 | lst (xs : List V)
 /-- a tuple (never changes) -/
 | tup (xs : List V)
 /-- a dict whose keys are ints and texts; one whose keys are tuples of ints and texts (the empty one is both) -/
 | dK (kvs : List (Key × V)) | dT (kvs : List (List Key × V))
 /-- a set of ints: its members, its size -/
 | set (S : Int → Bool) (n : Nat)
 /-- an instance of the class at C, its dict at dx, its attributes -/
 | ins (C dx : Addr) (fs : List (Str × V))
 /-- the dict of the instance at x -/
 | own (x : Addr)
 /-- the dict of an exception -/
 | xd (fs : List (Str × V))
 /-- a bound method, f of x -/
 | met (f x : Addr)
 /-- a range object lo, lo + 1, .. below hi -/
 | rng (lo hi : Int)
 /-- a thing that is known to the object (the script; a dict while a loop walks it): read, never written while it is so -/
 | frz (o : Obj) (u : HO)
 /-- a code object's table -/
 | tbl (ps : Array Value)
 /-- any other thing, by what is true of its one object (a def of one's own: SetO a S n := HO.ext fun h => ..) -/
 | ext (φ : Heap → Prop)
abbrev Hp := Addr → Option HO
def upd (H : Hp) (a : Addr) (o : HO) : Hp := fun b => if b = a then some o else H b
theorem upd_same {H : Hp} {a : Addr} {o : HO} : upd H a o a = some o := by unfold upd; rw [if_pos rfl]
theorem upd_ne {H : Hp} {a b : Addr} {o : HO} (h : b ≠ a) : upd H a o b = H b := by unfold upd; rw [if_neg h]
theorem ne_of {H : Hp} {a b : Addr} {o u : HO} (h : H a = some o) (h' : H b = some u) (d : o ≠ u) : a ≠ b := by
 intro e; subst e; rw [h] at h'; exact d (Option.some.inj h')
theorem ne_of_none {H : Hp} {a b : Addr} {o : HO} (h : H a = some o) (h' : H b = none) : a ≠ b := by
 intro e; subst e; rw [h] at h'; cases h'
section
variable (P : Program) (w : World)
def ObjOk (H : Hp) (h : Heap) (a : Addr) : HO → Prop
 | .lst xs => xs.length ≤ sizeLine ∧ ∃ (its : List Value) (n : Nat), Vals xs its ∧ h.get? a = some { cls := .type "list", data := .seq its.toArray n }
 | .tup xs => xs.length ≤ sizeLine ∧ ∃ its : List Value, Vals xs its ∧ IsTup h a its.toArray
 | .dK kvs => kvs.length ≤ sizeLine ∧ (a == sysModules) = false ∧ ∃ vs, KV kvs vs ∧ h.DictOf (mixKind P w) a vs
 | .dT kvs => kvs.length ≤ sizeLine ∧ (a == sysModules) = false ∧ ∃ xs : List (List Key × Addr × Value),
   Paired (fun (p : List Key × V) (q : List Key × Addr × Value) => p.1 = q.1 ∧ H q.2.1 = some (.tup (p.1.map kV)) ∧ RelV p.2 q.2.2) kvs xs ∧
   ∃ o es ep, h.get? a = some o ∧ o.ExactDict ∧ o.data = .dict es ep ∧ es.toList = xs.map (entryOfKey (tupleKind (mixKind P w))) ∧ (xs.map (·.1)).Nodup
 | .set S n => h.SetOf (intKind P w) a S n
 | .ins C dx fs => H dx = some (.own a) ∧ fs.length ≤ 1000 ∧ dx ≠ a ∧ h.get? a = some (PySem.W.instObj C dx) ∧
   ∃ mA, h.Ns1 dx mA ∧ (∀ f, RelO (fs.lookup f) (mA f)) ∧ PySem.Within mA (fs.map (·.1))
 | .own _ => ∃ o, h.get? a = some o
 | .xd fs => ∃ mA, h.Ns1 a mA ∧ ∀ f, RelO (fs.lookup f) (mA f)
 | .rng lo hi => ∃ t u v, h.get? a = some { cls := .type "range", data := .fields #[.int lo t, .int hi u, .int 1 v] }
 | .frz o u => h.get? a = some o ∧ ObjOk H h a u
 | .tbl ps => h.get? a = some { cls := .none, data := .fields ps }
 | .met f x => h.get? a = some (PySem.W.methodObj (.ref f) (.ref x))
 | .ext φ => φ h ∧ (∃ o, h.get? a = some o) ∧ ∀ h1 h2 : Heap, φ h1 → (∀ o, h1.get? a = some o → h2.get? a = some o) → φ h2
def HOk (H : Hp) (h : Heap) : Prop := ∀ a o, H a = some o → ObjOk P w H h a o
end
section
variable {P : Program} {w : World} {H H' : Hp} {h h' : Heap} {a : Addr} {o : HO}
theorem ObjOk.lt (x : ObjOk P w H h a o) : a < h.objs.size := by
 cases o with
 | lst xs => obtain ⟨_, _, _, _, e⟩ := x; exact Heap.lt_size e
 | tup xs => obtain ⟨_, _, _, p⟩ := x; exact p.lt
 | dK kvs => obtain ⟨_, _, _, _, o, _, _, e, _⟩ := x; exact Heap.lt_size e
 | dT kvs => obtain ⟨_, _, _, _, o, _, _, e, _⟩ := x; exact Heap.lt_size e
 | set S n => obtain ⟨o, _, _, _, e, _⟩ := x; exact Heap.lt_size e
 | ins C dx fs => obtain ⟨_, _, _, e, _⟩ := x; exact Heap.lt_size e
 | own y => obtain ⟨_, e⟩ := x; exact Heap.lt_size e
 | xd fs => obtain ⟨_, ⟨_, _, _, e, _⟩, _⟩ := x; exact Heap.lt_size e
 | rng lo hi => obtain ⟨_, _, _, e⟩ := x; exact Heap.lt_size e
 | frz ob u => obtain ⟨e, _⟩ := x; exact Heap.lt_size e
 | tbl ps => exact Heap.lt_size (show h.get? a = some _ from x)
 | met f y => exact Heap.lt_size (show h.get? a = some _ from x)
 | ext φ => obtain ⟨_, ⟨_, e⟩, _⟩ := x; exact Heap.lt_size e
theorem Paired.mapP {α β : Type} {F G : α → β → Prop} : ∀ {l₁ : List α} {l₂ : List β}, Paired F l₁ l₂ → (∀ a b, F a b → G a b) → Paired G l₁ l₂
 | _, _, .nil, _ => .nil
 | _, _, .cons r t, f => .cons (f _ _ r) (Paired.mapP t f)
theorem ObjOk.stay (x : ObjOk P w H h a o) (k : ∀ b u, (b = a ∨ H b = some (.own a)) → h.get? b = some u → h'.get? b = some u)
  (ho : ∀ b, H b = some (.own a) → H' b = some (.own a)) (ht : ∀ b xs, H b = some (.tup xs) → H' b = some (.tup xs)) : ObjOk P w H' h' a o := by
 induction o with
 | lst xs => obtain ⟨z, its, n, r, e⟩ := x; exact ⟨z, its, n, r, k _ _ (.inl rfl) e⟩
 | tup xs => obtain ⟨z, its, r, ob, e, c⟩ := x; exact ⟨z, its, r, ob, k _ _ (.inl rfl) e, c⟩
 | dK kvs => obtain ⟨z, y, vs, r, ob, es, ep, e, c⟩ := x; exact ⟨z, y, vs, r, ob, es, ep, k _ _ (.inl rfl) e, c⟩
 | dT kvs =>
  obtain ⟨z, y, xs, r, ob, es, ep, e, c⟩ := x
  exact ⟨z, y, xs, Paired.mapP r fun p q z => ⟨z.1, ht _ _ z.2.1, z.2.2⟩, ob, es, ep, k _ _ (.inl rfl) e, c⟩
 | set S n => obtain ⟨ob, es, ep, t, e, c⟩ := x; exact ⟨ob, es, ep, t, k _ _ (.inl rfl) e, c⟩
 | ins C dx fs =>
  obtain ⟨d, z, ne, e, mA, ⟨od, es, ep, e2, c⟩, r⟩ := x
  exact ⟨ho _ d, z, ne, k _ _ (.inl rfl) e, mA, ⟨od, es, ep, k _ _ (.inr d) e2, c⟩, r⟩
 | own y => obtain ⟨ob, e⟩ := x; exact ⟨ob, k _ _ (.inl rfl) e⟩
 | xd fs => obtain ⟨mA, ⟨od, es, ep, e, c⟩, r⟩ := x; exact ⟨mA, ⟨od, es, ep, k _ _ (.inl rfl) e, c⟩, r⟩
 | rng lo hi => obtain ⟨t, u, v, e⟩ := x; exact ⟨t, u, v, k _ _ (.inl rfl) e⟩
 | frz ob u ih => obtain ⟨e, q⟩ := x; exact ⟨k _ _ (.inl rfl) e, ih q⟩
 | tbl ps =>
  have e : h.get? a = some { cls := .none, data := .fields ps } := x
  show h'.get? a = some { cls := .none, data := .fields ps }
  exact k a _ (.inl rfl) e
 | met f y =>
  have e : h.get? a = some (PySem.W.methodObj (.ref f) (.ref y)) := x
  show h'.get? a = some (PySem.W.methodObj (.ref f) (.ref y))
  exact k a _ (.inl rfl) e
 | ext φ => obtain ⟨p, ⟨o, e⟩, st⟩ := x; exact ⟨st _ _ p fun o q => k _ _ (.inl rfl) q, ⟨o, k _ _ (.inl rfl) e⟩, st⟩
theorem HOk.lt (x : HOk P w H h) (e : H a = some o) : a < h.objs.size := (x a o e).lt
theorem HOk.fresh (x : HOk P w H h) (e : h.objs.size ≤ a) : H a = none := by
 cases q : H a with
 | none => rfl
 | some u => exact absurd (Nat.lt_of_lt_of_le (x.lt q) e) (Nat.lt_irrefl _)
theorem HOk.kept (x : HOk P w H h) (k : ∀ b u, h.get? b = some u → h'.get? b = some u) : HOk P w H h' := fun a o e =>
 (x a o e).stay (fun b u _ q => k b u q) (fun _ q => q) fun _ _ q => q
theorem HOk.laid (x : HOk P w H h) (k : ∀ b u, h.get? b = some u → h'.get? b = some u) (hp : h.objs.size ≤ a) (new : ObjOk P w (upd H a o) h' a o) : HOk P w (upd H a o) h' := fun b u e => by
 have hn := x.fresh hp
 by_cases hb : b = a
 ·subst hb; rw [upd_same] at e; cases e; exact new
 ·rw [upd_ne hb] at e
  exact (x b u e).stay (fun c v _ q => k c v q) (fun c q => by rw [upd_ne (ne_of_none q hn)]; exact q) fun c xs q => by rw [upd_ne (ne_of_none q hn)]; exact q
end
def Rd (H : Hp) (a : Addr) (u : HO) : Prop := H a = some u ∨ ∃ o, H a = some (.frz o u)
theorem Rd.of {H : Hp} {a : Addr} {u : HO} (h : H a = some u) : Rd H a u := .inl h
theorem Rd.ok {P : Program} {w : World} {H : Hp} {h : Heap} {a : Addr} {u : HO} (r : Rd H a u) (x : HOk P w H h) : ObjOk P w H h a u := by
 rcases r with r | ⟨o, r⟩
 ·exact x a u r
 ·obtain ⟨_, q⟩ := x a _ r
  exact q
def Mut : Option HO → Prop
 | some (.lst _) => True
 | some (.dK _) => True
 | some (.dT _) => True
 | some (.set _ _) => True
 | some (.ins _ _ _) => True
 | some (.ext _) => True
 | _ => False
section
variable {P : Program} {w : World} {H : Hp} {h h' : Heap} {x e : Addr} {o' : HO}
theorem HOk.write (ok : HOk P w H h) (mu : Mut (H x)) (he : e = x ∨ H e = some (.own x)) (k : ∀ b u, b ≠ e → h.get? b = some u → h'.get? b = some u) (heo : ∃ u, h'.get? e = some u)
  (new : ObjOk P w (upd H x o') h' x o') : HOk P w (upd H x o') h' := fun b u q => by
 have nown : ∀ c y, H c = some (.own y) → c ≠ x := fun c y r z => by subst z; rw [r] at mu; exact mu
 have ntup : ∀ c xs, H c = some (.tup xs) → c ≠ x := fun c xs r z => by subst z; rw [r] at mu; exact mu
 by_cases hb : b = x
 ·subst hb; rw [upd_same] at q; cases q; exact new
 ·rw [upd_ne hb] at q
  by_cases hbe : b = e
  ·have q' : H b = some (.own x) := by
    rcases he with z | z
    ·exact absurd (hbe.trans z) hb
    ·rw [hbe]; exact z
   rw [q] at q'; cases q'
   obtain ⟨v, hv⟩ := heo
   exact ⟨v, by rw [hbe]; exact hv⟩
  ·refine (ok b u q).stay (fun c v hc r => k c v ?_ r) (fun c r => by rw [upd_ne (nown c b r)]; exact r) fun c xs r => by rw [upd_ne (ntup c xs r)]; exact r
   rcases hc with rfl | hc
   ·exact hbe
   ·rintro rfl
    rcases he with z | z
    ·exact nown c b hc z
    ·rw [hc] at z; cases z; exact hb rfl
end
structure Un (fs ex : List Addr) (H H' : Hp) (h h' : Heap) : Prop where
 keep : ∀ b o, h.get? b = some o → H b = none → b ∉ fs → b ∉ ex → h'.get? b = some o
 slot : ∀ b o, h.get? b = some o → H b = none → b ∈ fs → b ∉ ex → ∃ sl, h'.get? b = some { o with slots := sl }
 free : ∀ b o, h.get? b = some o → H b = none → b ∉ ex → H' b = none
 there : ∀ b o, h.get? b = some o → b ∉ ex → ∃ o', h'.get? b = some o'
 tups : ∀ b xs, H b = some (.tup xs) → H' b = some (.tup xs)
 frzs : ∀ b o u, H b = some (.frz o u) → H' b = some (.frz o u)
 tbls : ∀ b ps, H b = some (.tbl ps) → ∃ more, H' b = some (.tbl (ps ++ more))
section
variable {fs fs' ex ex' : List Addr} {H H1 H2 : Hp} {h h1 h2 h' : Heap} {a x e : Addr} {o : HO}
theorem Un.any (u : Un fs ex H H1 h h1) {b : Addr} {ob : Obj} (q : h.get? b = some ob) (n : H b = none) (hx : b ∉ ex) : ∃ sl, h1.get? b = some { ob with slots := sl } := by
 by_cases hb : b ∈ fs
 ·exact u.slot b ob q n hb hx
 ·exact ⟨ob.slots, u.keep b ob q n hb hx⟩
theorem Un.trans (a : Un fs ex H H1 h h1) (b : Un fs ex H1 H2 h1 h2) : Un fs ex H H2 h h2 where
 keep := fun c ob q n hc hx => b.keep c ob (a.keep c ob q n hc hx) (a.free c ob q n hx) hc hx
 slot := fun c ob q n hc hx => by
  obtain ⟨sl, e1⟩ := a.slot c ob q n hc hx
  obtain ⟨sl', e2⟩ := b.slot c _ e1 (a.free c ob q n hx) hc hx
  exact ⟨sl', e2⟩
 free := fun c ob q n hx => by
  obtain ⟨o', e1⟩ := a.there c ob q hx
  exact b.free c o' e1 (a.free c ob q n hx) hx
 there := fun c ob q hx => by
  obtain ⟨o', e1⟩ := a.there c ob q hx
  exact b.there c o' e1 hx
 tups := fun c xs q => b.tups c xs (a.tups c xs q)
 frzs := fun c ob xs q => b.frzs c ob xs (a.frzs c ob xs q)
 tbls := fun c ps q => by
  obtain ⟨m1, e1⟩ := a.tbls c ps q
  obtain ⟨m2, e2⟩ := b.tbls c _ e1
  exact ⟨m1 ++ m2, by rw [e2, Array.append_assoc]⟩
theorem Un.kept (k : ∀ b u, h.get? b = some u → h'.get? b = some u) : Un fs ex H H h h' :=
 ⟨fun b ob q _ _ _ => k b ob q, fun b ob q _ _ _ => ⟨ob.slots, k b ob q⟩, fun _ _ _ n _ => n, fun b ob q _ => ⟨ob, k b ob q⟩, fun _ _ q => q, fun _ _ _ q => q, fun _ ps q => ⟨#[], by rw [q]; simp⟩⟩
theorem Un.refl : Un fs ex H H h h := Un.kept fun _ _ q => q
theorem Un.laid (k : ∀ b u, h.get? b = some u → h'.get? b = some u) (hp : h.objs.size ≤ a) (hn : H a = none) : Un fs ex H (upd H a o) h h' where
 keep := fun b u q _ _ _ => k b u q
 slot := fun b u q _ _ _ => ⟨u.slots, k b u q⟩
 free := fun b u q n _ => by rw [upd_ne (Nat.ne_of_lt (Nat.lt_of_lt_of_le (Heap.lt_size q) hp))]; exact n
 there := fun b u q _ => ⟨u, k b u q⟩
 tups := fun b xs q => by rw [upd_ne (ne_of_none q hn)]; exact q
 frzs := fun b u xs q => by rw [upd_ne (ne_of_none q hn)]; exact q
 tbls := fun b ps q => ⟨#[], by rw [upd_ne (ne_of_none q hn), q]; simp⟩
theorem Un.write (mu : Mut (H x)) (he : e = x ∨ H e = some (.own x)) (k : ∀ b u, b ≠ e → h.get? b = some u → h'.get? b = some u) (heo : ∃ u, h'.get? e = some u) : Un fs ex H (upd H x o) h h' := by
 have hx : ∀ b, H b = none → b ≠ x := fun b n z => by subst z; rw [n] at mu; exact mu
 have hb : ∀ b, H b = none → b ≠ e := fun b n z => by
  subst z
  rcases he with r | r
  ·exact hx b n r
  ·rw [n] at r; cases r
 have hm : ∀ b u, H b = some u → ¬ Mut (some u) → b ≠ x := fun b u q nm z => by subst z; rw [q] at mu; exact nm mu
 refine ⟨fun b u q n _ _ => k b u (hb b n) q, fun b u q n _ _ => ⟨u.slots, k b u (hb b n) q⟩, fun b u q n _ => by rw [upd_ne (hx b n)]; exact n, fun b u q _ => ?_,
  fun b xs q => by rw [upd_ne (hm b _ q fun z => z)]; exact q, fun b u xs q => by rw [upd_ne (hm b _ q fun z => z)]; exact q, fun b ps q => ⟨#[], by rw [upd_ne (hm b _ q fun z => z), q]; simp⟩⟩
 by_cases hbe : b = e
 ·subst hbe; exact heo
 ·exact ⟨u, k b u hbe q⟩
theorem Un.mono (u : Un fs ex H H1 h h1) (hs : ∀ b ∈ fs, b ∈ fs') (hx : ∀ b ∈ ex, b ∈ ex') : Un fs' ex' H H1 h h1 :=
 ⟨fun b ob q n hb he => u.keep b ob q n (fun z => hb (hs b z)) fun z => he (hx b z), fun _ _ q n _ he => u.any q n fun z => he (hx _ z), fun b ob q n he => u.free b ob q n fun z => he (hx b z), fun b ob q he => u.there b ob q fun z => he (hx b z), u.tups, u.frzs, u.tbls⟩
end
def trk (h : Heap) (H : Hp) : List Addr := (List.range h.objs.size).filter fun a => (H a).isSome
def hidT (h : Heap) (H : Hp) : Heap := PySem.W.hideAll h (trk h H)
theorem hidT_size (h : Heap) (H : Hp) : (hidT h H).objs.size = h.objs.size := PySem.W.hideAll_size _ _
theorem hidT_get {h : Heap} {H : Hp} {b : Addr} {o : Obj} (e : h.get? b = some o) (n : H b = none) : (hidT h H).get? b = some o :=
 PySem.W.hideAll_get _ e fun hm => by
  have q : (H b).isSome = true := (List.mem_filter.mp hm).2
  rw [n] at q; simp at q
theorem of_hidT {h : Heap} {H : Hp} {b : Addr} {o : Obj} (e : (hidT h H).get? b = some o) : h.get? b = some o ∧ H b = none := by
 have e' : h.get? b = some o := PySem.W.of_hideAll (trk h H) e
 refine ⟨e', ?_⟩
 cases q : H b with
 | none => rfl
 | some x =>
  have hm : b ∈ trk h H := List.mem_filter.mpr ⟨List.mem_range.mpr (Heap.lt_size e'), by simp [q]⟩
  have z : (hidT h H).get? b = none := PySem.W.hideAll_none (trk h H) hm
  rw [z] at e; cases e
def allNews (g h : Heap) (L : Addr) : List (Addr × Obj) := (List.range h.objs.size).filterMap fun a => if a = L ∨ (g.get? a).isSome = true then none else (h.get? a).map fun o => (a, o)
def rest (g h : Heap) (L d : Addr) : List (Addr × Obj) := (allNews g h L).filter fun p => decide (p.1 ≠ d)
end L2
namespace L2
open PySem PySem.Spec PyProof.Rows
structure Mod (K : PySem.W.Frag) (mg : Str → Option Value) (base : Heap) : Prop where
 kin : K.In base
 glob : base.Ns mainGlobals mg
 blt : ∃ mb, base.Ns builtinsNs mb ∧ ∀ x : Str, x ≠ "__name__" → mb x = bootBuiltins x
 nolimit : base.NoLimit
structure Cx where
 prog : Program
 w : World
 K : PySem.W.Frag
 mg : Str → Option Value
 base : Heap
 A : Around
 N : List Str
 s₀ : Shared
 H₀ : Hp
 env : Env
 outer : List Env
 stack : List Env
 ex : List Addr
 fn : Str → Bool
 calm : Bool
 pn : List (Addr × Obj)
 xe : Value → Shared → Prop
def frs (l : List Env) : List Addr := l.filterMap (·.frame)
abbrev Cx.fs (X : Cx) : List Addr := frs X.outer
def Vis (sc : Scope) (x : Str) : Prop := sc.names.lookup x = some .local ∨ sc.names.lookup x = some .cell ∨ sc.names.lookup x = some .free
def Loc (sc : Scope) (x : Str) : Prop := sc.names.lookup x = some .local ∨ sc.names.lookup x = some .cell
def Look (env : Env) (h : Heap) (m : Str → Option Value) (x : Str) (u : Value) : Prop :=
 (env.kindOf x = some .local ∧ m x = some u) ∨ ((env.kindOf x = some .cell ∨ env.kindOf x = some .free) ∧ ∃ c, env.cells.lookup x = some c ∧ h.IsCell c (some u))
structure Cx.Ok (X : Cx) : Prop where
 mod : Mod X.K X.mg X.base
 kind : X.env.scope.kind = .function
 glob : X.env.globals = mainGlobals
 blt : X.env.builtins = builtinsNs
 above : X.s₀.heap.objs.size ≤ X.env.locals
 inj : ∀ x y c, X.env.cells.lookup x = some c → X.env.cells.lookup y = some c → x = y
 has : ∀ x, (X.env.kindOf x = some .cell ∨ X.env.kindOf x = some .free) → ∃ c, X.env.cells.lookup x = some c
 cab : ∀ x c, X.fn x = true → X.env.cells.lookup x = some c → X.s₀.heap.objs.size ≤ c
 hd : X.calm = true → X.A.handled = none
 frames : X.A.frames = some X.stack
 stk : X.stack = X.outer ∨ (X.stack = X.env :: X.outer ∧ X.env.frame = some X.env.locals)
 exf : ∀ b ∈ X.ex, b ≠ X.env.locals ∧ ∀ x c, X.env.cells.lookup x = some c → c ≠ b
 bs : ∀ b o, X.base.get? b = some o → X.s₀.heap.get? b = some o ∧ X.H₀ b = none
 bsz : X.base.objs.size ≤ X.s₀.heap.objs.size
 noex : ∀ b o, X.base.get? b = some o → b ∉ X.ex
 exfs : ∀ b ∈ X.ex, b ∉ X.fs
 funs : X.s₀.heap.FunFrames X.base X.outer
 frf : ∀ b ∈ X.fs, X.H₀ b = none
structure Inv (X : Cx) (pins : List (Addr × Obj)) (σ : List (Option V)) (H : Hp) (s : Shared) : Prop where
 ok : X.Ok
 os : s.os = X.s₀.os
 bare : AllBare s.gens
 base : Un X.fs X.ex X.H₀ H X.s₀.heap s.heap
 loc : ∃ m, s.heap.Ns X.env.locals m ∧ ∀ (i : Nat) (x : Str) (v : V), X.N[i]? = some x → σ[i]? = some (some v) → Vis X.env.scope x → ∃ u, RelV v u ∧ Look X.env s.heap m x u
 cell : ∀ x c, X.env.cells.lookup x = some c → ∃ v, s.heap.IsCell c v
 free : H X.env.locals = none
 freeC : ∀ x c, X.env.cells.lookup x = some c → H c = none
 pin : ∀ p ∈ X.pn ++ pins, s.heap.get? p.1 = some p.2 ∧ H p.1 = none ∧ p.1 ≠ X.env.locals ∧ p.1 ∉ X.fs ∧ ∀ v, p.2.data ≠ .cell v
 hok : HOk X.prog X.w H s.heap
 len : σ.length = X.N.length
section
variable {X : Cx} {pins : List (Addr × Obj)} {σ : List (Option V)} {H H' : Hp} {s : Shared} {h' : Heap}
theorem Cx.Ok.nofr (ok : X.Ok) {b : Addr} {o : Obj} (e : X.base.get? b = some o) : b ∉ X.fs := fun hb => by
 have := (ok.funs.mem hb).1
 rw [e] at this; cases this
theorem Inv.bs (I : Inv X pins σ H s) : ∀ b o, X.base.get? b = some o → s.heap.get? b = some o ∧ H b = none := fun b o e =>
 ⟨I.base.keep b o (I.ok.bs b o e).1 (I.ok.bs b o e).2 (I.ok.nofr e) (I.ok.noex b o e), I.base.free b o (I.ok.bs b o e).1 (I.ok.bs b o e).2 (I.ok.noex b o e)⟩
theorem Inv.bk (I : Inv X pins σ H s) : ∀ b o, X.base.get? b = some o → s.heap.get? b = some o := fun b o e => (I.bs b o e).1
theorem Inv.mod (I : Inv X pins σ H s) : Mod X.K X.mg X.base := I.ok.mod
theorem Inv.kIn (I : Inv X pins σ H s) : X.K.In s.heap := I.ok.mod.kin.keeps I.bk
theorem Inv.nolimit (I : Inv X pins σ H s) : s.heap.NoLimit := I.ok.mod.nolimit.keeps I.bk
theorem Inv.fr (I : Inv X pins σ H s) : ∃ m, Fr X.base X.env.locals s.heap m :=
 let ⟨m, hn, _⟩ := I.loc
 ⟨m, hn, I.bk, Nat.le_trans I.ok.bsz I.ok.above⟩
theorem Inv.lt (I : Inv X pins σ H s) : X.env.locals < s.heap.objs.size := let ⟨_, hn, _⟩ := I.loc; hn.lt
theorem Inv.sz (I : Inv X pins σ H s) : X.s₀.heap.objs.size ≤ s.heap.objs.size := Nat.le_trans I.ok.above (Nat.le_of_lt I.lt)
theorem Inv.nofs (I : Inv X pins σ H s) {a : Addr} (h : s.heap.objs.size ≤ a) : a ∉ X.fs := fun hb => by
 obtain ⟨_, o, ho, _⟩ := I.ok.funs.mem hb
 exact absurd (Nat.lt_of_lt_of_le (Heap.lt_size ho) (Nat.le_trans I.sz h)) (Nat.lt_irrefl _)
theorem Inv.cne (I : Inv X pins σ H s) : ∀ x c, X.env.cells.lookup x = some c → c ≠ X.env.locals := fun x c e z => by
 obtain ⟨v, o, ho, hd⟩ := I.cell x c e
 obtain ⟨m, ⟨o', es, ep, ho', hd', _⟩, _⟩ := I.loc
 rw [z, ho'] at ho; cases ho; rw [hd'] at hd; cases hd
theorem Inv.funs (I : Inv X pins σ H s) : s.heap.FunFrames X.base X.outer := by
 have all : ∀ (l : List Env), (∀ b ∈ frs l, b ∈ X.fs) → X.s₀.heap.FunFrames X.base l → s.heap.FunFrames X.base l := by
  intro l
  induction l with
  | nil => intro _ _; trivial
  | cons env r ih =>
   intro hs hl
   obtain ⟨hk, ⟨L, o, hf, hn, ho, hd⟩, hr⟩ := hl
   have hL : L ∈ X.fs := hs L (by unfold frs; rw [List.filterMap_cons, hf]; exact List.mem_cons_self)
   obtain ⟨sl, e⟩ := I.base.slot L o ho (I.ok.frf L hL) hL fun z => I.ok.exfs L z hL
   exact ⟨hk, ⟨L, _, hf, hn, e, hd⟩, ih (fun b hb => hs b (by unfold frs; rw [List.filterMap_cons, hf]; exact List.mem_cons_of_mem _ hb)) hr⟩
 exact all X.outer (fun _ hb => hb) I.ok.funs
theorem Inv.stack (I : Inv X pins σ H s) : s.heap.FunFrames X.base X.stack := by
 rcases I.ok.stk with e | ⟨e, hf⟩
 ·rw [e]; exact I.funs
 ·rw [e]
  obtain ⟨m, hn, _⟩ := I.loc
  refine .cons (by rw [I.ok.kind]; decide) hf hn ?_ I.funs
  exact Heap.get?_none_of_le (Nat.le_trans I.ok.bsz I.ok.above)
theorem Inv.stkSub (I : Inv X pins σ H s) : ∀ b ∈ frs X.stack, b ∈ X.env.locals :: X.fs := fun b hb => by
 rcases I.ok.stk with e | ⟨e, hf⟩
 ·rw [e] at hb; exact List.mem_cons_of_mem _ hb
 ·rw [e] at hb
  unfold frs at hb
  rw [List.filterMap_cons, hf] at hb
  exact hb
theorem Inv.stkFree (I : Inv X pins σ H s) : ∀ b ∈ frs X.stack, H b = none := fun b hb => by
 rcases List.mem_cons.mp (I.stkSub b hb) with e | hb
 ·rw [e]; exact I.free
 ·obtain ⟨_, o, ho, _⟩ := I.ok.funs.mem hb
  exact I.base.free b o ho (I.ok.frf b hb) fun z => I.ok.exfs b z hb
theorem Inv.step {g' : Array GenState} {t' : Nat} {d' : Drawn} {ch : List Addr} (I : Inv X pins σ H s)
  (hch : ∀ b ∈ ch, (b ∈ X.ex ∨ X.s₀.heap.objs.size ≤ b) ∧ b ≠ X.env.locals ∧ (∀ x c, X.env.cells.lookup x = some c → c ≠ b) ∧ ∀ p ∈ X.pn ++ pins, p.1 ≠ b)
  (keep : ∀ b o, b ≠ X.env.locals → b ∉ X.fs → b ∉ ch → s.heap.get? b = some o → H b = none → h'.get? b = some o)
  (slot : ∀ b o, b ≠ X.env.locals → b ∈ X.fs → b ∉ ch → s.heap.get? b = some o → H b = none → ∃ sl, h'.get? b = some { o with slots := sl }) (free : ∀ b o, b ∉ ch → s.heap.get? b = some o → H b = none → H' b = none)
  (there : ∀ b o, b ∉ ch → s.heap.get? b = some o → ∃ o', h'.get? b = some o')
  (tups : ∀ b xs, H b = some (.tup xs) → H' b = some (.tup xs)) (frzs : ∀ b o u, H b = some (.frz o u) → H' b = some (.frz o u)) (tbls : ∀ b ps, H b = some (.tbl ps) → ∃ more, H' b = some (.tbl (ps ++ more)))
  (ns : ∀ m, s.heap.Ns X.env.locals m → h'.Ns X.env.locals m) (hok : HOk X.prog X.w H' h') (hg : AllBare g') :
  Inv X pins σ H' { s with heap := h', gens := g', drawn := d', toks := t' } := by
 have neL : ∀ b o, X.s₀.heap.get? b = some o → b ≠ X.env.locals := fun b o e => Nat.ne_of_lt (Nat.lt_of_lt_of_le (Heap.lt_size e) I.ok.above)
 have neC : ∀ b o, X.s₀.heap.get? b = some o → b ∉ X.ex → b ∉ ch := fun b o e hx hb => by
  rcases (hch b hb).1 with z | z
  ·exact hx z
  ·exact absurd (Nat.lt_of_lt_of_le (Heap.lt_size e) z) (Nat.lt_irrefl _)
 have cellK : ∀ x c, X.env.cells.lookup x = some c → ∀ v, s.heap.IsCell c v → h'.IsCell c v := fun x c e v ⟨o, ho, hd⟩ => by
  have nch : c ∉ ch := fun z => (hch c z).2.2.1 x c e rfl
  by_cases hc : c ∈ X.fs
  ·obtain ⟨sl, q⟩ := slot c o (I.cne x c e) hc nch ho (I.freeC x c e)
   exact ⟨_, q, hd⟩
  ·exact ⟨o, keep c o (I.cne x c e) hc nch ho (I.freeC x c e), hd⟩
 refine ⟨I.ok, I.os, hg, ⟨fun b o e n hb hx => ?_, fun b o e n hb hx => ?_, fun b o e n hx => ?_, fun b o e hx => ?_, fun b xs e => tups b xs (I.base.tups b xs e), fun b o xs e => frzs b o xs (I.base.frzs b o xs e), fun b ps e => ?_⟩, ?_, fun x c e => ?_, ?_, fun x c e => ?_, fun p hp => ?_, hok, I.len⟩
 ·exact keep b o (neL b o e) hb (neC b o e hx) (I.base.keep b o e n hb hx) (I.base.free b o e n hx)
 ·obtain ⟨sl, e1⟩ := I.base.slot b o e n hb hx
  obtain ⟨sl', e2⟩ := slot b _ (neL b o e) hb (neC b o e hx) e1 (I.base.free b o e n hx)
  exact ⟨sl', e2⟩
 ·obtain ⟨o', e1⟩ := I.base.there b o e hx
  exact free b o' (neC b o e hx) e1 (I.base.free b o e n hx)
 ·obtain ⟨o', e1⟩ := I.base.there b o e hx
  exact there b o' (neC b o e hx) e1
 ·obtain ⟨m1, e1⟩ := I.base.tbls b ps e
  obtain ⟨m2, e2⟩ := tbls b _ e1
  exact ⟨m1 ++ m2, by rw [e2, Array.append_assoc]⟩
 ·obtain ⟨m, hn, hl⟩ := I.loc
  refine ⟨m, ns m hn, fun i x v e1 e2 e3 => ?_⟩
  obtain ⟨u, r, l⟩ := hl i x v e1 e2 e3
  refine ⟨u, r, ?_⟩
  rcases l with l | ⟨k, c, e, z⟩
  ·exact .inl l
  ·exact .inr ⟨k, c, e, cellK x c e _ z⟩
 ·obtain ⟨v, z⟩ := I.cell x c e
  exact ⟨v, cellK x c e v z⟩
 ·obtain ⟨m, ⟨o, _, _, ho, _⟩, _⟩ := I.loc
  exact free _ o (fun z => (hch _ z).2.1 rfl) ho I.free
 ·obtain ⟨v, o, ho, hd⟩ := I.cell x c e
  exact free c o (fun z => (hch c z).2.2.1 x c e rfl) ho (I.freeC x c e)
 ·obtain ⟨e, n, ne, nf, d⟩ := I.pin p hp
  have nch : p.1 ∉ ch := fun z => (hch p.1 z).2.2.2 p hp rfl
  exact ⟨keep p.1 p.2 ne nf nch e n, free p.1 p.2 nch e n, ne, nf, d⟩
theorem Inv.un {t' : Nat} (I : Inv X pins σ H s) (u : Un X.fs [] H H' s.heap h') (hok : HOk X.prog X.w H' h') : Inv X pins σ H' { s with heap := h', toks := t' } := by
 obtain ⟨m, ⟨o, es, ep, ho, r⟩, _⟩ := id I.loc
 obtain ⟨sl, hL⟩ := u.any ho I.free (by simp)
 exact I.step (g' := s.gens) (d' := s.drawn) (ch := []) (fun _ z => nomatch z) (fun b o _ hb _ e n => u.keep b o e n hb (by simp)) (fun b o _ hb _ e n => u.slot b o e n hb (by simp)) (fun b o _ e n => u.free b o e n (by simp)) (fun b o _ e => u.there b o e (by simp)) u.tups u.frzs u.tbls (fun m' hm => by
  obtain ⟨o', es', ep', ho', r'⟩ := hm
  rw [ho] at ho'; cases ho'
  exact ⟨_, es', ep', hL, r'⟩) hok I.bare
theorem Inv.call {g' : Array GenState} {t' : Nat} {d' : Drawn} {ch : List Addr} (I : Inv X pins σ H s) (u : Un (frs X.stack) ch H H' s.heap h') (hok : HOk X.prog X.w H' h') (hg : AllBare g')
  (hch : ∀ b ∈ ch, (b ∈ X.ex ∨ X.s₀.heap.objs.size ≤ b) ∧ b ≠ X.env.locals ∧ (∀ x c, X.env.cells.lookup x = some c → c ≠ b) ∧ ∀ p ∈ X.pn ++ pins, p.1 ≠ b) :
  Inv X pins σ H' { s with heap := h', gens := g', drawn := d', toks := t' } := by
 obtain ⟨m, ⟨o, es, ep, ho, r⟩, _⟩ := id I.loc
 obtain ⟨sl, hL⟩ := u.any ho I.free fun z => (hch _ z).2.1 rfl
 exact I.step (ch := ch) hch (fun b o hL hb hc e n => u.keep b o e n (fun z => (List.mem_cons.mp (I.stkSub b z)).elim hL hb) hc) (fun b o _ _ hc e n => u.any e n hc) (fun b o hc e n => u.free b o e n hc) (fun b o hc e => u.there b o e hc) u.tups u.frzs u.tbls (fun m' hm => by
  obtain ⟨o', es', ep', ho', r'⟩ := hm
  rw [ho] at ho'; cases ho'
  exact ⟨_, es', ep', hL, r'⟩) hok hg
theorem Inv.turned {t' : Nat} {it : Addr} (I : Inv X pins σ H s) (k : ∀ b o, b ≠ it → s.heap.get? b = some o → h'.get? b = some o) (hn : H it = none) (hL : it ≠ X.env.locals)
  (h1 : it ∈ X.ex ∨ X.s₀.heap.objs.size ≤ it) (h2 : ∀ x c, X.env.cells.lookup x = some c → c ≠ it) (h3 : ∀ p ∈ X.pn ++ pins, p.1 ≠ it) : Inv X pins σ H { s with heap := h', toks := t' } := by
 have nit : ∀ b u, H b = some u → b ≠ it := fun b u e z => by rw [z, hn] at e; cases e
 refine I.step (g' := s.gens) (d' := s.drawn) (ch := [it]) (fun b hb => ?_) (fun b o _ _ hc e _ => k b o (fun z => hc (by simp [z])) e) (fun b o _ _ hc e _ => ⟨o.slots, k b o (fun z => hc (by simp [z])) e⟩) (fun _ _ _ _ n => n)
  (fun b o hc e => ⟨o, k b o (fun z => hc (by simp [z])) e⟩) (fun _ _ e => e) (fun _ _ _ e => e) (fun b ps e => ⟨#[], by rw [e]; simp⟩) (fun m hm => ?_) (fun b u e => ?_) I.bare
 ·have e : b = it := by simpa using hb
  subst e
  exact ⟨h1, hL, h2, h3⟩
 ·obtain ⟨o, es, ep, ho, r⟩ := hm
  exact ⟨o, es, ep, k _ o (Ne.symm hL) ho, r⟩
 ·refine (I.hok b u e).stay (fun c v hc q => k c v ?_ q) (fun _ q => q) fun _ _ q => q
  rcases hc with z | z
  ·rw [z]; exact nit b u e
  ·exact nit c _ z
theorem Inv.tok (I : Inv X pins σ H s) (t : Nat) : Inv X pins σ H { s with toks := t } := I.un (h' := s.heap) (t' := t) Un.refl I.hok
theorem Inv.kept {t' : Nat} (I : Inv X pins σ H s) (k : ∀ b u, s.heap.get? b = some u → h'.get? b = some u) : Inv X pins σ H { s with heap := h', toks := t' } := I.un (Un.kept k) (I.hok.kept k)
theorem Inv.laid {a : Addr} {o : HO} {t' : Nat} (I : Inv X pins σ H s) (k : ∀ b u, s.heap.get? b = some u → h'.get? b = some u) (hp : s.heap.objs.size ≤ a) (new : ObjOk X.prog X.w (upd H a o) h' a o) :
  Inv X pins σ (upd H a o) { s with heap := h', toks := t' } := I.un (Un.laid k hp (I.hok.fresh hp)) (I.hok.laid k hp new)
theorem Inv.write {x e : Addr} {o : HO} {t' : Nat} (I : Inv X pins σ H s) (mu : Mut (H x)) (he : e = x ∨ H e = some (.own x)) (k : ∀ b u, b ≠ e → s.heap.get? b = some u → h'.get? b = some u) (heo : ∃ u, h'.get? e = some u)
  (new : ObjOk X.prog X.w (upd H x o) h' x o) : Inv X pins σ (upd H x o) { s with heap := h', toks := t' } := I.un (Un.write mu he k heo) (I.hok.write mu he k heo new)
theorem Inv.pins_of {pins' : List (Addr × Obj)} (I : Inv X pins σ H s) (h : ∀ p ∈ pins', s.heap.get? p.1 = some p.2 ∧ H p.1 = none ∧ p.1 ≠ X.env.locals ∧ p.1 ∉ X.fs ∧ ∀ v, p.2.data ≠ .cell v) : Inv X pins' σ H s :=
 ⟨I.ok, I.os, I.bare, I.base, I.loc, I.cell, I.free, I.freeC, fun p hp => (List.mem_append.mp hp).elim (fun z => I.pin p (List.mem_append_left _ z)) (h p), I.hok, I.len⟩
theorem nodup_ix {N : List Str} (hN : N.Nodup) {i j : Nat} {x : Str} (a : N[i]? = some x) (b : N[j]? = some x) : i = j := by
 obtain ⟨h1, e1⟩ := List.getElem?_eq_some_iff.mp a
 obtain ⟨h2, e2⟩ := List.getElem?_eq_some_iff.mp b
 exact (List.getElem_inj hN).mp (e1.trans e2.symm)
theorem store_ok2 {M : Model} {A : Around} {E : Value → Shared → Prop} {i : Nat} {x : Str} {v : V} {u : Value} {Q : Unit → Shared → Prop} (I : Inv X pins σ H s) (hN : X.N.Nodup) (hi : X.N[i]? = some x) (hx : Loc X.env.scope x) (r : RelV v u)
  (h : ∀ s', Inv X pins (σ.set i (some v)) H s' → (∃ a, Heap.SameBut a s.heap s'.heap ∧ (a = X.env.locals ∨ X.env.cells.lookup x = some a)) → Q () s') (hf : X.fn x = true ∨ X.env.scope.names.lookup x = some .local := by first | exact .inl rfl | exact .inr rfl | assumption) : wpAny M A (storeName X.env x u) Q E s := by
 obtain ⟨m, hn, hl⟩ := id I.loc
 have hcls : (X.env.scope.kind == .class || (X.env.scope.kind == .module && X.env.locals != X.env.globals)) = false := by rw [I.ok.kind]; rfl
 have hiσ : i < σ.length := by rw [I.len]; exact (List.getElem?_eq_some_iff.mp hi).1
 have cne := I.cne
 have tracked : ∀ {a : Addr} {h' : Heap}, (∃ o, s.heap.get? a = some o ∧ H a = none) → Heap.SameBut a s.heap h' → HOk X.prog X.w H h' := fun {a h'} ha hs b ob e => by
  obtain ⟨_, _, hfree⟩ := ha
  refine (I.hok b ob e).stay (fun c w' hc q => (hs.2 c ?_).trans q) (fun _ q => q) fun _ _ q => q
  rintro rfl
  rcases hc with rfl | hc
  ·rw [hfree] at e; cases e
  ·rw [hfree] at hc; cases hc
 rcases hx with hk | hk
 ·refine wpAny_storeName_local hk hn (fun h' hn' hs => ?_) hcls
  obtain ⟨oL, _, _, hoL, _⟩ := id hn
  refine h _ ⟨I.ok, I.os, I.bare, ⟨fun b o e n hb hx => ?_, fun b o e n hb hx => ?_, I.base.free, fun b o e hx => ?_, I.base.tups, I.base.frzs, I.base.tbls⟩, ⟨_, hn', fun j y v' e1 e2 e3 => ?_⟩, fun y c e => ?_, I.free, I.freeC, fun p hp => ?_, tracked ⟨oL, hoL, I.free⟩ hs, by simpa using I.len⟩ ⟨_, hs, .inl rfl⟩
  ·exact (hs.2 b (Nat.ne_of_lt (Nat.lt_of_lt_of_le (Heap.lt_size e) I.ok.above))).trans (I.base.keep b o e n hb hx)
  ·obtain ⟨sl, e1⟩ := I.base.slot b o e n hb hx
   exact ⟨sl, (hs.2 b (Nat.ne_of_lt (Nat.lt_of_lt_of_le (Heap.lt_size e) I.ok.above))).trans e1⟩
  ·obtain ⟨o', e1⟩ := I.base.there b o e hx
   exact ⟨o', (hs.2 b (Nat.ne_of_lt (Nat.lt_of_lt_of_le (Heap.lt_size e) I.ok.above))).trans e1⟩
  ·by_cases hj : j = i
   ·subst hj
    rw [hi] at e1; cases e1
    rw [List.getElem?_set_self hiσ] at e2
    cases e2
    exact ⟨u, r, .inl ⟨hk, by simp⟩⟩
   ·rw [List.getElem?_set_ne (Ne.symm hj)] at e2
    obtain ⟨u', r', q⟩ := hl j y v' e1 e2 e3
    refine ⟨u', r', ?_⟩
    rcases q with ⟨k, e⟩ | ⟨k, c, e, z⟩
    ·refine .inl ⟨k, ?_⟩
     have : y ≠ x := fun e => hj (nodup_ix hN e1 (e ▸ hi))
     simp [this, e]
    ·exact .inr ⟨k, c, e, z.sameBut hs (cne y c e)⟩
  ·obtain ⟨w', z⟩ := I.cell y c e
   exact ⟨w', z.sameBut hs (cne y c e)⟩
  ·obtain ⟨e, n, ne, nf, d⟩ := I.pin p hp
   exact ⟨(hs.2 p.1 ne).trans e, n, ne, nf, d⟩
 ·have hfn : X.fn x = true := by
   rcases hf with z | z
   ·exact z
   ·rw [z] at hk; cases hk
  obtain ⟨c, hc⟩ := I.ok.has x (.inl hk)
  obtain ⟨w', z⟩ := I.cell x c hc
  refine wpAny_storeName_cell I.ok.kind hk hc z (fun h' hc' hs => ?_)
  obtain ⟨oc, hoc, hocd⟩ := id z
  refine h { s with heap := h' } ⟨I.ok, I.os, I.bare, ⟨fun b o e n hb hx => ?_, fun b o e n hb hx => ?_, I.base.free, fun b o e hx => ?_, I.base.tups, I.base.frzs, I.base.tbls⟩, ⟨m, hn.sameBut hs (Ne.symm (cne x c hc)), fun j y v' e1 e2 e3 => ?_⟩, fun y c' e => ?_, I.free, I.freeC, fun p hp => ?_, tracked ⟨oc, hoc, I.freeC x c hc⟩ hs, by simpa using I.len⟩ ⟨c, hs, .inr hc⟩
  ·exact (hs.2 b (Nat.ne_of_lt (Nat.lt_of_lt_of_le (Heap.lt_size e) (I.ok.cab x c hfn hc)))).trans (I.base.keep b o e n hb hx)
  ·obtain ⟨sl, e1⟩ := I.base.slot b o e n hb hx
   exact ⟨sl, (hs.2 b (Nat.ne_of_lt (Nat.lt_of_lt_of_le (Heap.lt_size e) (I.ok.cab x c hfn hc)))).trans e1⟩
  ·obtain ⟨o', e1⟩ := I.base.there b o e hx
   exact ⟨o', (hs.2 b (Nat.ne_of_lt (Nat.lt_of_lt_of_le (Heap.lt_size e) (I.ok.cab x c hfn hc)))).trans e1⟩
  ·by_cases hj : j = i
   ·subst hj
    rw [hi] at e1; cases e1
    rw [List.getElem?_set_self hiσ] at e2
    cases e2
    exact ⟨u, r, .inr ⟨.inl hk, c, hc, hc'⟩⟩
   ·rw [List.getElem?_set_ne (Ne.symm hj)] at e2
    obtain ⟨u', r', q⟩ := hl j y v' e1 e2 e3
    refine ⟨u', r', ?_⟩
    rcases q with q | ⟨k, c', e, z'⟩
    ·exact .inl q
    ·refine .inr ⟨k, c', e, z'.sameBut hs ?_⟩
     rintro rfl
     exact hj (nodup_ix hN e1 (I.ok.inj _ _ _ e hc ▸ hi))
  ·by_cases hcc : c' = c
   ·subst hcc; exact ⟨_, hc'⟩
   ·obtain ⟨w2, z2⟩ := I.cell y c' e
    exact ⟨w2, z2.sameBut hs hcc⟩
  ·obtain ⟨e, n, ne, nf, d⟩ := I.pin p hp
   refine ⟨(hs.2 p.1 ?_).trans e, n, ne, nf, d⟩
   intro q
   rw [q, hoc] at e
   have q' : oc = p.2 := Option.some.inj e
   exact d w' (by rw [← q']; exact hocd)
theorem store_ok {M : Model} {A : Around} {E : Value → Shared → Prop} {i : Nat} {x : Str} {v : V} {u : Value} {Q : Unit → Shared → Prop} (I : Inv X pins σ H s) (hN : X.N.Nodup) (hi : X.N[i]? = some x) (hx : Loc X.env.scope x) (r : RelV v u)
  (h : ∀ s', Inv X pins (σ.set i (some v)) H s' → Q () s') (hf : X.fn x = true ∨ X.env.scope.names.lookup x = some .local := by first | exact .inl rfl | exact .inr rfl | assumption) : wpAny M A (storeName X.env x u) Q E s :=
 store_ok2 I hN hi hx r (fun s' I' _ => h s' I') hf
theorem Inv.call' {s' : Shared} {ch : List Addr} (I : Inv X pins σ H s) (ho : s'.os = s.os) (u : Un (frs X.stack) ch H H' s.heap s'.heap) (hok : HOk X.prog X.w H' s'.heap) (hg : AllBare s'.gens)
  (hch : ∀ b ∈ ch, (b ∈ X.ex ∨ X.s₀.heap.objs.size ≤ b) ∧ b ≠ X.env.locals ∧ (∀ x c, X.env.cells.lookup x = some c → c ≠ b) ∧ ∀ p ∈ X.pn ++ pins, p.1 ≠ b) : Inv X pins σ H' s' := by
 obtain ⟨h', g', d', t', o'⟩ := s'
 have e : o' = s.os := ho
 subst e
 exact I.call (g' := g') (t' := t') (d' := d') u hok hg hch
end
abbrev XK := Value → Option Addr → Hp → Prop
abbrev St := List (Option V)
abbrev VK := V → Hp → Prop
abbrev TE := St → Hp → VK → Prop
abbrev TT := St → Hp → (Bool → Hp → Prop) → Prop
abbrev TA := St → Hp → (List V → Hp → Prop) → Prop
structure Ends where
 nx : St → Hp → Prop
 rt : VK
 bk : St → Hp → Prop := fun _ _ => False
 ct : St → Hp → Prop := fun _ _ => False
abbrev TS := Ends → St → Hp → Prop
def EP (X : Cx) (pins : List (Addr × Obj)) (σ : St) (Q : VK) (u : Value) (s' : Shared) : Prop := ∃ v H', Inv X pins σ H' s' ∧ RelV v u ∧ Q v H'
def TP (X : Cx) (pins : List (Addr × Obj)) (σ : St) (Q : Bool → Hp → Prop) (b : Bool) (s' : Shared) : Prop := ∃ H', Inv X pins σ H' s' ∧ Q b H'
def AP (X : Cx) (pins : List (Addr × Obj)) (σ : St) (Q : List V → Hp → Prop) (us : List Value) (s' : Shared) : Prop := ∃ vs H', Inv X pins σ H' s' ∧ Vals vs us ∧ Q vs H'
def SP (X : Cx) (pins : List (Addr × Obj)) (D : Ends) (f : Flow) (s' : Shared) : Prop :=
 match f with
 | .next => ∃ σ' H', Inv X pins σ' H' s' ∧ D.nx σ' H'
 | .brk => ∃ σ' H', Inv X pins σ' H' s' ∧ D.bk σ' H'
 | .cont => ∃ σ' H', Inv X pins σ' H' s' ∧ D.ct σ' H'
 | .ret u => ∃ v σ' H', Inv X pins σ' H' s' ∧ RelV v u ∧ D.rt v H'
structure PE (X : Cx) (e : Expr) (t : TE) : Prop where
 run : ∀ (pins : List (Addr × Obj)) (s : Shared) (σ : St) (H : Hp) (Q : VK), Inv X pins σ H s → t σ H Q → wpAny (model X.prog X.w) X.A (eval e X.env) (EP X pins σ Q) X.xe s
instance {X : Cx} {e : Expr} {t : TE} : CoeFun (PE X e t) fun _ => ∀ (pins : List (Addr × Obj)) (s : Shared) (σ : St) (H : Hp) (Q : VK), Inv X pins σ H s → t σ H Q → wpAny (model X.prog X.w) X.A (eval e X.env) (EP X pins σ Q) X.xe s := ⟨PE.run⟩
structure PT (X : Cx) (e : Expr) (t : TT) : Prop where
 run : ∀ (pins : List (Addr × Obj)) (s : Shared) (σ : St) (H : Hp) (Q : Bool → Hp → Prop), Inv X pins σ H s → t σ H Q → wpAny (model X.prog X.w) X.A (isTrue e X.env (eval e X.env)) (TP X pins σ Q) X.xe s
instance {X : Cx} {e : Expr} {t : TT} : CoeFun (PT X e t) fun _ => ∀ (pins : List (Addr × Obj)) (s : Shared) (σ : St) (H : Hp) (Q : Bool → Hp → Prop), Inv X pins σ H s → t σ H Q → wpAny (model X.prog X.w) X.A (isTrue e X.env (eval e X.env)) (TP X pins σ Q) X.xe s := ⟨PT.run⟩
structure PW (X : Cx) (e : Expr) (t : TT) : Prop where
 run : ∀ (whole : Sem Value) (pins : List (Addr × Obj)) (s : Shared) (σ : St) (H : Hp) (Q : Bool → Hp → Prop), Inv X pins σ H s → t σ H Q → wpAny (model X.prog X.w) X.A (isTrue e X.env whole) (TP X pins σ Q) X.xe s
instance {X : Cx} {e : Expr} {t : TT} : CoeFun (PW X e t) fun _ => ∀ (whole : Sem Value) (pins : List (Addr × Obj)) (s : Shared) (σ : St) (H : Hp) (Q : Bool → Hp → Prop), Inv X pins σ H s → t σ H Q → wpAny (model X.prog X.w) X.A (isTrue e X.env whole) (TP X pins σ Q) X.xe s := ⟨PW.run⟩
theorem PW.pt {X : Cx} {e : Expr} {t : TT} (h : PW X e t) : PT X e t := ⟨h.run _⟩
structure PA (X : Cx) (es : List Expr) (t : TA) : Prop where
 run : ∀ (pos : Pos) (pins : List (Addr × Obj)) (s : Shared) (σ : St) (H : Hp) (Q : List V → Hp → Prop), Inv X pins σ H s → t σ H Q → wpAny (model X.prog X.w) X.A (spliced (backTo pos (starEach es X.env))) (AP X pins σ Q) X.xe s
instance {X : Cx} {es : List Expr} {t : TA} : CoeFun (PA X es t) fun _ => ∀ (pos : Pos) (pins : List (Addr × Obj)) (s : Shared) (σ : St) (H : Hp) (Q : List V → Hp → Prop), Inv X pins σ H s → t σ H Q → wpAny (model X.prog X.w) X.A (spliced (backTo pos (starEach es X.env))) (AP X pins σ Q) X.xe s := ⟨PA.run⟩
structure PS (X : Cx) (st : Stmt) (t : TS) : Prop where
 run : ∀ (pins : List (Addr × Obj)) (s : Shared) (σ : St) (H : Hp) (D : Ends), Inv X pins σ H s → t D σ H → wpAny (model X.prog X.w) X.A (exec st X.env) (SP X pins D) X.xe s
instance {X : Cx} {st : Stmt} {t : TS} : CoeFun (PS X st t) fun _ => ∀ (pins : List (Addr × Obj)) (s : Shared) (σ : St) (H : Hp) (D : Ends), Inv X pins σ H s → t D σ H → wpAny (model X.prog X.w) X.A (exec st X.env) (SP X pins D) X.xe s := ⟨PS.run⟩
structure PSs (X : Cx) (st : List Stmt) (t : TS) : Prop where
 run : ∀ (pins : List (Addr × Obj)) (s : Shared) (σ : St) (H : Hp) (D : Ends), Inv X pins σ H s → t D σ H → wpAny (model X.prog X.w) X.A (execs st X.env) (SP X pins D) X.xe s
instance {X : Cx} {st : List Stmt} {t : TS} : CoeFun (PSs X st t) fun _ => ∀ (pins : List (Addr × Obj)) (s : Shared) (σ : St) (H : Hp) (D : Ends), Inv X pins σ H s → t D σ H → wpAny (model X.prog X.w) X.A (execs st X.env) (SP X pins D) X.xe s := ⟨PSs.run⟩
theorem thn {α : Type} {t : Sem α} {Q Q' : α → Shared → Prop} {M : Model} {A : Around} {E : Value → Shared → Prop} {s : Shared} (h : wpAny M A t Q E s) (hQ : ∀ a s, Q a s → Q' a s) : wpAny M A t Q' E s := wpAny_mono h hQ fun _ _ x => x
end L2
namespace L2
open PySem PySem.Spec PyProof.Rows
section
variable {X : Cx}
def tVar (i : Nat) : TE := fun σ H Q => ∃ v, σ[i]? = some (some v) ∧ Q v H
def tC (v : V) : TE := fun _ H Q => Q v H
theorem pe_var {i : Nat} {x : Str} {pos : Pos} (hN : X.N[i]? = some x) (hv : Vis X.env.scope x) (hd : (x == ("__debug__" : Str)) = false := by decide) (hcd : (x == ("__classdict__" : Str)) = false := by decide) : PE X (.Name x pos) (tVar i) := by
 refine .mk ?_
 intro pins s σ H Q I h
 obtain ⟨v, e, h⟩ := h
 obtain ⟨m, hn, hl⟩ := I.loc
 obtain ⟨u, r, l⟩ := hl i x v hN e hv
 have fin : EP X pins σ Q u s := ⟨v, H, I, r, h⟩
 rcases l with ⟨hk, hm⟩ | ⟨hk, c, hc, hcell⟩
 ·exact wpAny_Name (wpAny_loadName_local I.ok.kind hk hn hm fin) hd
 ·rcases hk with hk | hk
  ·exact wpAny_Name (wpAny_loadName_cell I.ok.kind hk hc hcell fin) hd
  ·exact wpAny_Name (wpAny_loadName_free I.ok.kind hk hc hcell fin hcd) hd
theorem pe_int {i j pos} : PE X (.Constant (.int i) j pos) (tC (.int i)) := .mk fun _ _ _ H _ I h => wpAny_Constant_int ⟨.int i, H, I.tok _, ⟨_, rfl⟩, h⟩
theorem pe_bl {b j pos} : PE X (.Constant (.bool b) j pos) (tC (.bl b)) := .mk fun _ _ _ H _ I h => Constant_bool ⟨.bl b, H, I, rfl, h⟩
theorem pe_non {j pos} : PE X (.Constant .none j pos) (tC .non) := .mk fun _ _ _ H _ I h => Constant_none ⟨.non, H, I, rfl, h⟩
theorem pe_str {x j pos} : PE X (.Constant (.str x) j pos) (tC (.str x)) := .mk fun _ _ _ H _ I h => Calls.Constant_str ⟨.str x, H, I.tok _, ⟨_, rfl⟩, h⟩
def Gl (X : Cx) (x : Str) : Prop := X.env.kindOf x = some .globalImplicit
theorem ld_glob {E : Value → Shared → Prop} {pins : List (Addr × Obj)} {s : Shared} {σ : St} {H : Hp} {x : Str} {u : Value} {pos : Pos} {Q : Value → Shared → Prop} (I : Inv X pins σ H s) (hg : Gl X x) (hm : X.mg x = some u) (h : Q u s)
  (hd : (x == ("__debug__" : Str)) = false := by decide) : wpAny (model X.prog X.w) X.A (eval (.Name x pos) X.env) Q E s :=
 Calls.Name_function_global I.ok.kind hg (Calls.loadGlobal_global (by rw [I.ok.glob]; exact I.mod.glob.keeps I.bk) hm h) hd
theorem ld_blt {E : Value → Shared → Prop} {pins : List (Addr × Obj)} {s : Shared} {σ : St} {H : Hp} {x : Str} {u : Value} {pos : Pos} {Q : Value → Shared → Prop} (I : Inv X pins σ H s) (hg : Gl X x) (hm : X.mg x = none) (hv : bootBuiltins x = some u) (h : Q u s)
  (hn : x ≠ "__name__" := by decide) (hd : (x == ("__debug__" : Str)) = false := by decide) : wpAny (model X.prog X.w) X.A (eval (.Name x pos) X.env) Q E s := by
 obtain ⟨mb, h1, h2⟩ := I.mod.blt
 exact Calls.Name_function_global I.ok.kind hg (Calls.loadGlobal_builtin (by rw [I.ok.glob]; exact I.mod.glob.keeps I.bk) hm (by rw [I.ok.blt]; exact h1.keeps I.bk) ((h2 x hn).trans hv) h) hd
theorem pe_glob {x : Str} {v : V} {u : Value} {pos : Pos} (hg : Gl X x) (hm : X.mg x = some u) (r : RelV v u) (hd : (x == ("__debug__" : Str)) = false := by decide) : PE X (.Name x pos) (tC v) :=
 .mk fun _ _ _ H _ I h => ld_glob I hg hm ⟨v, H, I, r, h⟩ hd
theorem pe_bltn {x : Str} {v : V} {u : Value} {pos : Pos} (hg : Gl X x) (hm : X.mg x = none) (hv : bootBuiltins x = some u) (r : RelV v u) (hn : x ≠ "__name__" := by decide) (hd : (x == ("__debug__" : Str)) = false := by decide) : PE X (.Name x pos) (tC v) :=
 .mk fun _ _ _ H _ I h => ld_blt I hg hm hv ⟨v, H, I, r, h⟩ hn hd
variable {a b : Expr} {ta tb : TE} {pos : Pos}
structure PC (X : Cx) (op : CmpOp) (a b : Expr) (t : TE) : Prop where
 run : ∀ (pins : List (Addr × Obj)) (s : Shared) (σ : St) (H : Hp) (Q : VK), Inv X pins σ H s → t σ H Q →
  wpAny (model X.prog X.w) X.A (eval a X.env) (fun v s₁ => wpAny (model X.prog X.w) X.A (eval b X.env) (fun u s₂ => wpAny (model X.prog X.w) X.A (compareOp op v u) (EP X pins σ Q) X.xe s₂) X.xe s₁) X.xe s
instance {X : Cx} {op : CmpOp} {a b : Expr} {t : TE} : CoeFun (PC X op a b t) fun _ => ∀ (pins : List (Addr × Obj)) (s : Shared) (σ : St) (H : Hp) (Q : VK), Inv X pins σ H s → t σ H Q → wpAny (model X.prog X.w) X.A (eval a X.env) (fun v s₁ => wpAny (model X.prog X.w) X.A (eval b X.env) (fun u s₂ => wpAny (model X.prog X.w) X.A (compareOp op v u) (EP X pins σ Q) X.xe s₂) X.xe s₁) X.xe s := ⟨PC.run⟩
def tB (t : TE) : TT := fun σ H Q => t σ H fun x H1 => ∃ c, x = .bl c ∧ Q c H1
theorem pt_val {e : Expr} {t : TE} (h : PE X e t) (he : ∀ whole, isTrue e X.env whole = (do let v ← whole; standAt e.pos; holding [v] (truthy v)) := by intro _; rfl) : PT X e (tB t) := by
 refine .mk ?_
 intro pins s σ H Q I hw
 refine isTrue_plain (thn (h pins s σ H _ I hw) fun v s1 ⟨x, H1, I1, r1, q1⟩ => ?_) (he _)
 obtain ⟨d, rfl, q⟩ := q1
 cases r1
 exact wpAny_truthy_bool ⟨H1, I1, q⟩
variable {tA tB' : TT} {rest : List Expr}
def tAnd (t u : TT) : TT := fun σ H Q => t σ H fun c H1 => if c = true then u σ H1 Q else Q false H1
def tOr (t u : TT) : TT := fun σ H Q => t σ H fun c H1 => if c = true then Q true H1 else u σ H1 Q
def tNot (t : TT) : TT := fun σ H Q => t σ H fun c H1 => Q (!c) H1
theorem pw_and1 (ha : PT X a tA) : PW X (.BoolOp .And [a] pos) tA := by
 refine .mk ?_
 intro wh pins s σ H Q I h
 refine isTrue_and (thn (ha pins s σ H Q I h) fun c s1 e => ?_)
 cases c with
 | true => exact isTrue_and_nil e
 | false => exact e
theorem pw_or1 (ha : PT X a tA) : PW X (.BoolOp .Or [a] pos) tA := by
 refine .mk ?_
 intro wh pins s σ H Q I h
 refine isTrue_or (thn (ha pins s σ H Q I h) fun c s1 e => ?_)
 cases c with
 | false => exact isTrue_or_nil e
 | true => exact e
theorem pw_and (ha : PT X a tA) (hb : PW X (.BoolOp .And (b :: rest) pos) tB') : PW X (.BoolOp .And (a :: b :: rest) pos) (tAnd tA tB') := by
 refine .mk ?_
 intro wh pins s σ H Q I h
 refine isTrue_and (thn (ha pins s σ H _ I h) fun c s1 ⟨H1, I1, q1⟩ => ?_)
 cases c with
 | true => exact hb wh pins s1 σ H1 Q I1 q1
 | false => exact ⟨H1, I1, q1⟩
theorem pw_or (ha : PT X a tA) (hb : PW X (.BoolOp .Or (b :: rest) pos) tB') : PW X (.BoolOp .Or (a :: b :: rest) pos) (tOr tA tB') := by
 refine .mk ?_
 intro wh pins s σ H Q I h
 refine isTrue_or (thn (ha pins s σ H _ I h) fun c s1 ⟨H1, I1, q1⟩ => ?_)
 cases c with
 | true => exact ⟨H1, I1, q1⟩
 | false => exact hb wh pins s1 σ H1 Q I1 q1
theorem pt_not (ha : PT X a tA) : PT X (.UnaryOp .Not a pos) (tNot tA) := by
 refine .mk ?_
 intro pins s σ H Q I h
 exact isTrue_not (ha pins s σ H (fun c H1 => Q (!c) H1) I h)
def tAndV (ta tb : TE) : TE := fun σ H Q => ta σ H fun x H1 => ∃ c, x = .bl c ∧ if c = true then tb σ H1 Q else Q (.bl false) H1
theorem pe_one {op} {t : TE} (h : PE X a t) : PE X (.BoolOp op [a] pos) t := .mk fun pins s σ H Q I hw => BoolOp_one (h pins s σ H Q I hw)
theorem pe_and (ha : PE X a ta) (hb : PE X (.BoolOp .And (b :: rest) pos) tb) : PE X (.BoolOp .And (a :: b :: rest) pos) (tAndV ta tb) := by
 refine .mk ?_
 intro pins s σ H Q I h
 refine BoolOp_and (thn (ha pins s σ H _ I h) fun v s1 ⟨x, H1, I1, r1, q1⟩ => ?_)
 obtain ⟨c, rfl, q1⟩ := q1
 cases r1
 refine wpAny_truthy_bool ?_
 cases c with
 | true => exact hb pins s1 σ H1 Q I1 q1
 | false => exact ⟨.bl false, H1, I1, rfl, q1⟩
end
end L2
namespace L2
open PySem PySem.Spec PyProof.Rows
def SqL (K : PySem.W.Frag) (H : Hp) (a : Addr) (xs : List V) : Prop :=
 Rd H a (.lst xs) ∨
  ∃ (o : Obj) (its : Array Value) (n : Nat), K.lookup a = some o ∧ o.cls = .type "list" ∧ o.dict = none ∧ o.data = .seq its n ∧ its.size ≤ sizeLine ∧ Vals xs its.toList
def SqT (K : PySem.W.Frag) (H : Hp) (a : Addr) (xs : List V) : Prop :=
 Rd H a (.tup xs) ∨
  ∃ (o : Obj) (its : Array Value) (n : Nat), K.lookup a = some o ∧ o.cls = .type "tuple" ∧ o.data = .seq its n ∧ its.size ≤ sizeLine ∧ Vals xs its.toList
def absV : Value → Option V
 | .none => some .non
 | .bool b => some (.bl b)
 | .int i _ => some (.int i)
 | .str x _ => some (.str x)
 | .bytes b _ => some (.byt b)
 | .float b _ => some (.flt b)
 | .ref a => some (.ref a)
 | .type n => some (.ty n)
 | _ => none
theorem RelV.abs {x : V} {u : Value} (r : RelV x u) : absV u = some x := by
 cases x with
 | non => cases r; rfl
 | bl _ => cases r; rfl
 | int _ => obtain ⟨t, rfl⟩ := r; rfl
 | str _ => obtain ⟨t, rfl⟩ := r; rfl
 | byt _ => obtain ⟨t, rfl⟩ := r; rfl
 | flt _ => obtain ⟨t, rfl⟩ := r; rfl
 | ref _ => cases r; rfl
 | ty _ => cases r; rfl
theorem RelV.inj {x y : V} {u : Value} (r : RelV x u) (q : RelV y u) : x = y := Option.some.inj (r.abs.symm.trans q.abs)
theorem Vals.inj : ∀ {xs ys : List V} {us : List Value}, Vals xs us → Vals ys us → xs = ys
 | _, _, _, .nil, .nil => rfl
 | _, _, _, .cons r t, .cons r' t' => by rw [r.inj r', Vals.inj t t']
section
variable {X : Cx} {pins : List (Addr × Obj)} {σ : St} {H : Hp} {s : Shared} {a : Addr} {xs ys : List V}
theorem SqL.of {K : PySem.W.Frag} (h : H a = some (.lst xs)) : SqL K H a xs := .inl (.inl h)
theorem SqT.of {K : PySem.W.Frag} (h : H a = some (.tup xs)) : SqT K H a xs := .inl (.inl h)
theorem Inv.list (I : Inv X pins σ H s) (h : SqL X.K H a xs) : ∃ its : List Value, Vals xs its ∧ PlainL s.heap a its.toArray ∧ xs.length ≤ sizeLine := by
 rcases h with h | ⟨o, its, n, hk, hc, hd, hs, hz, r⟩
 ·obtain ⟨z, its, n, r, e⟩ := h.ok I.hok
  exact ⟨its, r, ⟨_, n, e, rfl, rfl, rfl⟩, z⟩
 ·refine ⟨its.toList, r, ⟨o, n, I.kIn a o hk, hc, hd, by simpa using hs⟩, ?_⟩
  have e := r.length
  simp only [Array.length_toList] at e
  omega
theorem Inv.tuple (I : Inv X pins σ H s) (h : SqT X.K H a xs) : ∃ its : List Value, Vals xs its ∧ IsTup s.heap a its.toArray ∧ xs.length ≤ sizeLine := by
 rcases h with h | ⟨o, its, n, hk, hc, hs, hz, r⟩
 ·obtain ⟨z, its, r, p⟩ := h.ok I.hok
  exact ⟨its, r, p, z⟩
 ·refine ⟨its.toList, r, ⟨o, I.kIn a o hk, hc, n, by simpa using hs⟩, ?_⟩
  have e := r.length
  simp only [Array.length_toList] at e
  omega
theorem Inv.list_inj (I : Inv X pins σ H s) (h : SqL X.K H a xs) (h' : SqL X.K H a ys) : xs = ys := by
 obtain ⟨its, r, ⟨o, n, e, _, _, d⟩, _⟩ := I.list h
 obtain ⟨its', r', ⟨o', n', e', _, _, d'⟩, _⟩ := I.list h'
 rw [e] at e'; cases e'
 rw [d] at d'
 injection d' with d1 _
 have : its = its' := by simpa using congrArg Array.toList d1
 subst this
 exact r.inj r'
theorem Inv.tuple_inj (I : Inv X pins σ H s) (h : SqT X.K H a xs) (h' : SqT X.K H a ys) : xs = ys := by
 obtain ⟨its, r, ⟨o, e, _, n, d⟩, _⟩ := I.tuple h
 obtain ⟨its', r', ⟨o', e', _, n', d'⟩, _⟩ := I.tuple h'
 rw [e] at e'; cases e'
 rw [d] at d'
 injection d' with d1 _
 have : its = its' := by simpa using congrArg Array.toList d1
 subst this
 exact r.inj r'
end
abbrev Cx.wish (X : Cx) (E : Value → Shared → Prop) : Cx := { X with xe := E }
abbrev Cx.nox (X : Cx) : Cx := X.wish fun _ _ => False
theorem Cx.Ok.wish {X : Cx} (ok : X.Ok) (E : Value → Shared → Prop) : (X.wish E).Ok :=
 ⟨ok.mod, ok.kind, ok.glob, ok.blt, ok.above, ok.inj, ok.has, ok.cab, ok.hd, ok.frames, ok.stk, ok.exf, ok.bs, ok.bsz, ok.noex, ok.exfs, ok.funs, ok.frf⟩
theorem Cx.Ok.unwish {X : Cx} {E : Value → Shared → Prop} (ok : (X.wish E).Ok) : X.Ok :=
 ⟨ok.mod, ok.kind, ok.glob, ok.blt, ok.above, ok.inj, ok.has, ok.cab, ok.hd, ok.frames, ok.stk, ok.exf, ok.bs, ok.bsz, ok.noex, ok.exfs, ok.funs, ok.frf⟩
section
variable {X : Cx} {pins : List (Addr × Obj)} {σ : St} {H : Hp} {s : Shared} {E : Value → Shared → Prop}
theorem Inv.wish (I : Inv X pins σ H s) (E : Value → Shared → Prop) : Inv (X.wish E) pins σ H s := ⟨I.ok.wish E, I.os, I.bare, I.base, I.loc, I.cell, I.free, I.freeC, I.pin, I.hok, I.len⟩
theorem Inv.unwish (I : Inv (X.wish E) pins σ H s) : Inv X pins σ H s := ⟨I.ok.unwish, I.os, I.bare, I.base, I.loc, I.cell, I.free, I.freeC, I.pin, I.hok, I.len⟩
theorem SP.unwish {D : Ends} {f : Flow} {s' : Shared} (h : SP (X.wish E) pins D f s') : SP X pins D f s' := by
 cases f with
 | next => obtain ⟨σ', H', I, q⟩ := h; exact ⟨σ', H', I.unwish, q⟩
 | brk => obtain ⟨σ', H', I, q⟩ := h; exact ⟨σ', H', I.unwish, q⟩
 | cont => obtain ⟨σ', H', I, q⟩ := h; exact ⟨σ', H', I.unwish, q⟩
 | ret u => obtain ⟨v, σ', H', I, r, q⟩ := h; exact ⟨v, σ', H', I.unwish, r, q⟩
theorem PE.nox {e : Expr} {t : TE} (h : PE X.nox e t) : PE X e t := .mk fun pins s σ H Q I hw =>
 wpAny_mono (h pins s σ H Q (I.wish _) hw) (fun _ _ ⟨v, H', I', r, q⟩ => ⟨v, H', I'.unwish, r, q⟩) fun _ _ z => False.elim z
theorem PT.nox {e : Expr} {t : TT} (h : PT X.nox e t) : PT X e t := .mk fun pins s σ H Q I hw =>
 wpAny_mono (h pins s σ H Q (I.wish _) hw) (fun _ _ ⟨H', I', q⟩ => ⟨H', I'.unwish, q⟩) fun _ _ z => False.elim z
theorem PSs.nox {st : List Stmt} {t : TS} (h : PSs X.nox st t) : PSs X st t := .mk fun pins s σ H D I hw =>
 wpAny_mono (h pins s σ H D (I.wish _) hw) (fun _ _ q => q.unwish) fun _ _ z => False.elim z
end
section
variable {X : Cx} {st : Stmt} {rest : List Stmt} {t u : TS} {e : Expr} {te : TE} {pos : Pos}
def tNext : TS := fun D σ H => D.nx σ H
def tSeq (t u : TS) : TS := fun D σ H => t { D with nx := u D } σ H
theorem pss_nil : PSs X [] tNext := .mk fun _ _ σ H _ I h => wpAny_execs_nil ⟨σ, H, I, h⟩
theorem pss_cons (h1 : PS X st t) (h2 : PSs X rest u) : PSs X (st :: rest) (tSeq t u) := by
 refine .mk ?_
 intro pins s σ H D I h
 refine wpAny_execs_cons (thn (h1 pins s σ H { D with nx := u D } I h) fun f s1 q => ?_)
 cases f with
 | next =>
  obtain ⟨σ', H', I', q⟩ := q
  exact h2 pins s1 σ' H' D I' q
 | ret v => exact q
 | brk => exact q
 | cont => exact q
theorem Inv.quiet {pins : List (Addr × Obj)} {σ : St} {H : Hp} {s : Shared} (I : Inv X pins σ H s) : interactive X.env = false := by simp [interactive, I.ok.kind]
def tDrop (te : TE) : TS := fun D σ H => te σ H fun _ H1 => D.nx σ H1
theorem ps_expr (he : PE X e te) (hs : swapsWith e none pos.line X.env = pure false := by rfl) : PS X (.Expr e pos) (tDrop te) := by
 refine .mk ?_
 intro pins s σ H D I h
 exact wpAny_Expr_any (thn (he pins s σ H _ I h) fun v s1 ⟨x, H1, I1, r1, q1⟩ => ⟨σ, H1, I1, q1⟩) I.quiet hs
def tRet (te : TE) : TS := fun D σ H => te σ H D.rt
theorem ps_ret (he : PE X e te) : PS X (.Return (some e) pos) (tRet te) := by
 refine .mk ?_
 intro pins s σ H D I h
 exact wpAny_Return_some (thn (he pins s σ H _ I h) fun v s1 ⟨x, H1, I1, r1, q1⟩ => ⟨x, σ, H1, I1, r1, q1⟩)
def tIfS (c : TT) (t u : TS) : TS := fun D σ H => c σ H fun b H1 => if b = true then t D σ H1 else u D σ H1
theorem ps_if {c : Expr} {a b : List Stmt} {tc : TT} (hc : PT X c tc) (ha : PSs X a t) (hb : PSs X b u) : PS X (.If c a b pos) (tIfS tc t u) := by
 refine .mk ?_
 intro pins s σ H D I h
 refine wpAny_If (thn (hc pins s σ H _ I h) fun d s1 ⟨H1, I1, q1⟩ => ?_)
 cases d with
 | true => exact ha pins s1 σ H1 D I1 q1
 | false => exact hb pins s1 σ H1 D I1 q1
end
abbrev TG := V → St → Hp → (St → Hp → Prop) → Prop
abbrev TGs := List V → St → Hp → (St → Hp → Prop) → Prop
structure PG (X : Cx) (target : Expr) (t : TG) : Prop where
 run : ∀ (pins : List (Addr × Obj)) (s : Shared) (σ : St) (H : Hp) (v : V) (u : Value) (Q : St → Hp → Prop), Inv X pins σ H s → RelV v u → t v σ H Q →
  wpAny (model X.prog X.w) X.A (assign target X.env u) (fun _ s' => ∃ σ' H', Inv X pins σ' H' s' ∧ Q σ' H') X.xe s
instance {X : Cx} {target : Expr} {t : TG} : CoeFun (PG X target t) fun _ => ∀ (pins : List (Addr × Obj)) (s : Shared) (σ : St) (H : Hp) (v : V) (u : Value) (Q : St → Hp → Prop), Inv X pins σ H s → RelV v u → t v σ H Q → wpAny (model X.prog X.w) X.A (assign target X.env u) (fun _ s' => ∃ σ' H', Inv X pins σ' H' s' ∧ Q σ' H') X.xe s := ⟨PG.run⟩
structure PGs (X : Cx) (ts : List Expr) (t : TGs) : Prop where
 run : ∀ (pins : List (Addr × Obj)) (s : Shared) (σ : St) (H : Hp) (vs : List V) (us : List Value) (Q : St → Hp → Prop), Inv X pins σ H s → Vals vs us → t vs σ H Q →
  wpAny (model X.prog X.w) X.A (assignInOrder ((assignEach ts X.env).map (·.2)) us) (fun _ s' => ∃ σ' H', Inv X pins σ' H' s' ∧ Q σ' H') X.xe s
instance {X : Cx} {ts : List Expr} {t : TGs} : CoeFun (PGs X ts t) fun _ => ∀ (pins : List (Addr × Obj)) (s : Shared) (σ : St) (H : Hp) (vs : List V) (us : List Value) (Q : St → Hp → Prop), Inv X pins σ H s → Vals vs us → t vs σ H Q → wpAny (model X.prog X.w) X.A (assignInOrder ((assignEach ts X.env).map (·.2)) us) (fun _ s' => ∃ σ' H', Inv X pins σ' H' s' ∧ Q σ' H') X.xe s := ⟨PGs.run⟩
abbrev TSet := V → V → V → Hp → (Hp → Prop) → Prop
def PSet (X : Cx) (t : TSet) : Prop :=
 ∀ (pins : List (Addr × Obj)) (s : Shared) (σ : St) (H : Hp) (o i v : V) (ov iv u : Value) (Q : Hp → Prop), Inv X pins σ H s → RelV o ov → RelV i iv → RelV v u → t o i v H Q →
  wpAny (model X.prog X.w) X.A (setItem ov iv u) (fun _ s' => ∃ H', Inv X pins σ H' s' ∧ Q H') X.xe s
section
variable {X : Cx} {pos : Pos}
def gName (i : Nat) : TG := fun v σ H Q => Q (σ.set i (some v)) H
theorem pg_name {i : Nat} {x : Str} (hN : X.N.Nodup) (hi : X.N[i]? = some x) (hx : Loc X.env.scope x) (hf : X.fn x = true ∨ X.env.scope.names.lookup x = some .local := by first | exact .inl rfl | exact .inr rfl | assumption) : PG X (.Name x pos) (gName i) := by
 refine .mk ?_
 intro pins s σ H v u Q I r h
 exact wpAny_assign_Name (store_ok I hN hi hx r (fun s' I' => ⟨_, H, I', h⟩) hf)
def gNil : TGs := fun vs σ H Q => vs = [] ∧ Q σ H
def gCons (t : TG) (u : TGs) : TGs := fun vs σ H Q => ∃ v r, vs = v :: r ∧ t v σ H fun σ' H' => u r σ' H' Q
theorem pgs_nil : PGs X [] gNil := by
 refine .mk ?_
 intro pins s σ H vs us Q I r h
 obtain ⟨e, h⟩ := h
 subst e
 cases r
 exact assignInOrder_nil ⟨σ, H, I, h⟩
theorem pgs_cons {e : Expr} {es : List Expr} {t : TG} {u : TGs} (h1 : PG X e t) (h2 : PGs X es u)
  (hs : (assignEach (e :: es) X.env).map (·.2) = assign e X.env :: (assignEach es X.env).map (·.2) := by rfl) : PGs X (e :: es) (gCons t u) := by
 refine .mk ?_
 intro pins s σ H vs us Q I r h
 obtain ⟨v, vr, e1, h⟩ := h
 subst e1
 cases r with
 | cons r rr =>
  rw [hs]
  refine assignInOrder_cons (thn (h1 pins s σ H _ _ _ I r h) fun _ s1 ⟨σ1, H1, I1, q1⟩ => ?_)
  exact h2 pins s1 σ1 H1 _ _ Q I1 rr q1
def gTup (K : PySem.W.Frag) (n : Nat) (t : TGs) : TG := fun v σ H Q => ∃ a xs, v = .ref a ∧ SqT K H a xs ∧ xs.length = n ∧ t xs σ H Q
theorem pg_tup {es : List Expr} {k : Nat} {t : TGs} {n : Nat} (hc : X.calm = true) (h : PGs X es t)
  (hn : (assignEach es X.env).length = n := by rfl) (hst : (assignEach es X.env).findIdx? (·.1) = none := by rfl) : PG X (.Tuple es k pos) (gTup X.K n t) := by
 refine .mk ?_
 intro pins s σ H v u Q I r hw
 obtain ⟨a, xs, e1, hq, hl, hw⟩ := hw
 subst e1
 cases r
 obtain ⟨its, rv, ht, hz⟩ := I.tuple hq
 refine assign_Tuple_tuple (I.ok.hd hc) ht (by simp [hn, ← hl, rv.length]) hst fun h' hx => ?_
 have I1 : Inv X pins σ H { s with heap := h' } := I.kept (t' := s.toks) fun b o e => hx b o (Nat.ne_of_lt (Heap.lt_size e)) e
 exact h pins _ σ H xs _ Q I1 (by simpa using rv) hw
def gSub (to ti : TE) (t : TSet) : TG := fun v σ H Q => to σ H fun o H1 => ti σ H1 fun i H2 => t o i v H2 fun H3 => Q σ H3
theorem pg_sub {o i : Expr} {to ti : TE} {t : TSet} (ho : PE X o to) (hi : PE X i ti) (hs : PSet X t)
  (ha : ∀ v, assign (.Subscript o i pos) X.env v = (do
   let ov ← holding [v] (eval o X.env)
   let iv ← holding [v, ov] (eval i X.env)
   standAt pos
   holding [v, ov, iv] (setItem ov iv v)
   release [v, ov, iv] []) := by intro _; rfl) : PG X (.Subscript o i pos) (gSub to ti t) := by
 refine .mk ?_
 intro pins s σ H v u Q I r h
 rw [ha]
 refine wpAny_bind (wpAny_holding (thn (ho pins s σ H _ I h) fun ov s1 ⟨x, H1, I1, r1, q1⟩ => ?_))
 refine wpAny_bind (wpAny_holding (thn (hi pins s1 σ H1 _ I1 q1) fun iv s2 ⟨y, H2, I2, r2, q2⟩ => ?_))
 refine wpAny_bind (wpAny_standAt (wpAny_bind (wpAny_holding (thn (hs pins s2 σ H2 x y v ov iv u _ I2 r1 r2 r q2) fun _ s3 ⟨H3, I3, q3⟩ => ?_))))
 exact wpAny_release ⟨σ, H3, I3, q3⟩
def tAsg (te : TE) (g : TG) : TS := fun D σ H => te σ H fun x H1 => g x σ H1 D.nx
theorem ps_asg {tg e : Expr} {te : TE} {g : TG} (he : PE X e te) (hg : PG X tg g) (hs : swapsWithSole [tg] e pos.line X.env = pure false := by rfl) (hw : swappedStores [tg] e X.env = pure none := by rfl)
  (h1 : (assignEach [tg] X.env).map (·.2) = [assign tg X.env] := by rfl) : PS X (.Assign [tg] e pos) (tAsg te g) := by
 refine .mk ?_
 intro pins s σ H D I h
 refine wpAny_Assign_stores (thn (he pins s σ H _ I h) fun v s1 ⟨x, H1, I1, r1, q1⟩ => ?_) hs hw
 rw [h1]
 exact thn (hg pins s1 σ H1 x v _ I1 r1 q1) fun _ s2 q => q
theorem ps_set {i : Nat} {x : Str} {e : Expr} {te : TE} {pos' : Pos} (hN : X.N.Nodup) (hi : X.N[i]? = some x) (hx : Loc X.env.scope x) (he : PE X e te) (hs : swapsWith e (some (.Name x pos')) pos.line X.env = pure false := by rfl) (hf : X.fn x = true ∨ X.env.scope.names.lookup x = some .local := by first | exact .inl rfl | exact .inr rfl | assumption) :
  PS X (.Assign [.Name x pos'] e pos) (tAsg te (gName i)) := by
 refine .mk ?_
 intro pins s σ H D I h
 refine wpAny_Assign_Name (thn (he pins s σ H _ I h) fun v s1 ⟨y, H1, I1, r1, q1⟩ => ?_) hs
 exact store_ok I1 hN hi hx r1 (fun s2 I2 => ⟨_, H1, I2, q1⟩) hf
end
section
variable {X : Cx} {pos : Pos}
end
structure It where
 go : Nat → Hp → Prop
 yld : Nat → Hp → V → Hp → Prop
 stop : Nat → Hp → Prop
def FpOk (X : Cx) (pins : List (Addr × Obj)) (H : Hp) (b : Addr) : Prop :=
 H b = none ∧ b ≠ X.env.locals ∧ b ∉ X.fs ∧ (b ∈ X.ex ∨ X.s₀.heap.objs.size ≤ b) ∧ (∀ x c, X.env.cells.lookup x = some c → c ≠ b) ∧ ∀ p ∈ X.pn ++ pins, p.1 ≠ b
theorem Inv.fpOk {X : Cx} {pins : List (Addr × Obj)} {σ : St} {H H' : Hp} {s : Shared} {b : Addr} (I : Inv X pins σ H s) (hb : s.heap.objs.size ≤ b) (hn : H' b = none) : FpOk X pins H' b := by
 refine ⟨hn, Nat.ne_of_gt (Nat.lt_of_lt_of_le I.lt hb), I.nofs hb, .inr (Nat.le_trans I.sz hb), fun x c e z => ?_, fun p hp z => ?_⟩
 ·obtain ⟨v, q⟩ := I.cell x c e
  exact absurd (Nat.lt_of_lt_of_le q.lt (by rw [z]; exact hb)) (Nat.lt_irrefl _)
 ·exact absurd (Nat.lt_of_lt_of_le (Heap.lt_size (I.pin p hp).1) (by rw [z]; exact hb)) (Nat.lt_irrefl _)
structure Turn (P : Program) (w : World) (K : PySem.W.Frag) (tg : Expr) (J : It) (fp : List Addr) (it : Addr) (tn : Nat → Heap → Prop) : Prop where
 mem : it ∈ fp
 obj : ∀ i h, tn i h → ∀ b ∈ fp, ∃ o, h.get? b = some o ∧ ∀ v, o.data ≠ .cell v
 keep : ∀ i h h', tn i h → (∀ b ∈ fp, ∀ o, h.get? b = some o → h'.get? b = some o) → tn i h'
 item : ∀ (X : Cx), X.prog = P → X.w = w → X.K = K → X.calm = true → ∀ (i : Nat) (pins : List (Addr × Obj)) (s : Shared) (σ : St) (H : Hp) (E : Value → Shared → Prop), Inv X pins σ H s → (∀ b ∈ fp, FpOk X pins H b) → tn i s.heap → J.go i H →
  wpAny (model P w) X.A (pyNext (.ref it)) (fun r s1 => ∃ u, r = some u ∧
   wpAny (model P w) X.A (letOwnedTupleGo tg (.ref it) u) (fun _ s2 => ∃ x H', Inv X pins σ H' s2 ∧ RelV x u ∧ J.yld i H x H' ∧ tn (i + 1) s2.heap ∧ ∀ b ∈ fp, H' b = none) E s1) E s
 done : ∀ (X : Cx), X.prog = P → X.w = w → X.K = K → X.calm = true → ∀ (i : Nat) (pins : List (Addr × Obj)) (s : Shared) (σ : St) (H : Hp) (E : Value → Shared → Prop), Inv X pins σ H s → (∀ b ∈ fp, FpOk X pins H b) → tn i s.heap → J.stop i H →
  wpAny (model P w) X.A (pyNext (.ref it)) (fun r s1 => r = none ∧ Inv X pins σ H s1) E s
 self : ∀ (A : Around) (i : Nat) (s : Shared) (Q : Value → Shared → Prop) (E : Value → Shared → Prop), tn i s.heap → Q (.ref it) s → wpAny (model P w) A (pyIter (.ref it)) Q E s
abbrev TI := St → Hp → (It → Hp → Prop) → Prop
def PIE (X : Cx) (pins : List (Addr × Obj)) (σ : St) (tg : Expr) (R : It → Hp → Prop) (itv : Value) (s2 : Shared) : Prop :=
 ∃ (it : Addr) (fp : List Addr) (tn : Nat → Heap → Prop) (J : It) (H' : Hp), itv = .ref it ∧ Inv X pins σ H' s2 ∧ Turn X.prog X.w X.K tg J fp it tn ∧ tn 0 s2.heap ∧ (∀ b ∈ fp, FpOk X pins H' b) ∧ R J H'
structure PI (X : Cx) (tg iter : Expr) (wi : TI) : Prop where
 run : ∀ (pins : List (Addr × Obj)) (s : Shared) (σ : St) (H : Hp) (R : It → Hp → Prop), Inv X pins σ H s → wi σ H R →
  wpAny (model X.prog X.w) X.A (eval iter X.env) (fun v s1 => wpAny (model X.prog X.w) X.A (pyIter v) (PIE X pins σ tg R) X.xe s1) X.xe s
instance {X : Cx} {tg iter : Expr} {wi : TI} : CoeFun (PI X tg iter wi) fun _ => ∀ (pins : List (Addr × Obj)) (s : Shared) (σ : St) (H : Hp) (R : It → Hp → Prop), Inv X pins σ H s → wi σ H R → wpAny (model X.prog X.w) X.A (eval iter X.env) (fun v s1 => wpAny (model X.prog X.w) X.A (pyIter v) (PIE X pins σ tg R) X.xe s1) X.xe s := ⟨PI.run⟩
theorem go_of {M : Model} {A : Around} {E : Value → Shared → Prop} {s : Shared} {tg : Expr} {it : Addr} {u : Value} {o : Obj} {n : String} {vs : Array Value} {Q : Unit → Shared → Prop} (ho : s.heap.get? it = some o) (hc : o.cls = .type n) (hd : o.data = .fields vs)
    (hn : ["enumerate", "zip", "dict_itemiterator", "dict_reverseitemiterator", "odict_iterator", "itertools.zip_longest", "itertools.pairwise"].contains n = false) (hQ : Q () s) : wpAny M A (letOwnedTupleGo tg (.ref it) u) Q E s := by
  unfold letOwnedTupleGo
  cases tg <;> first
    | exact wpAny_pure hQ
    | (cases u <;> first
        | exact wpAny_pure hQ
        | (refine wpAny_bind (wpAny_load ho ?_)
           rw [hc, hd]
           show wpAny M A (if (["enumerate", "zip", "dict_itemiterator", "dict_reverseitemiterator", "odict_iterator", "itertools.zip_longest", "itertools.pairwise"].contains n && vs[0]? == some (rawInt _)) = true then _ else _) Q E s
           rw [if_neg (by intro h; rw [hn, Bool.false_and] at h; cases h)]
           exact wpAny_pure hQ))
def Itl (K : PySem.W.Frag) (a : Addr) : It :=
 ⟨fun i H => ∃ xs x, SqL K H a xs ∧ xs[i]? = some x, fun i H x H' => H' = H ∧ ∀ xs, SqL K H a xs → xs[i]? = some x, fun i H => ∃ xs, SqL K H a xs ∧ xs.length ≤ i⟩
def Itt (K : PySem.W.Frag) (a : Addr) : It :=
 ⟨fun i H => ∃ xs x, SqT K H a xs ∧ xs[i]? = some x, fun i H x H' => H' = H ∧ ∀ xs, SqT K H a xs → xs[i]? = some x, fun i H => ∃ xs, SqT K H a xs ∧ xs.length ≤ i⟩
def Itr (lo : Int) (n : Nat) : It := ⟨fun i _ => i < n, fun i H x H' => H' = H ∧ x = .int (lo + i), fun i _ => n ≤ i⟩
theorem turn_list {P : Program} {w : World} {K : PySem.W.Frag} {tg : Expr} (a it : Addr) : Turn P w K tg (Itl K a) [it] it (fun i h => h.IsListIter it a i) where
 mem := by simp
 obj := fun i h st b hb => by
  have e : b = it := by simpa using hb
  subst e
  obtain ⟨o, e, c, d⟩ := st
  exact ⟨o, e, fun v z => by rw [d] at z; cases z⟩
 keep := fun i h h' st k => st.at fun o e => k it (by simp) o e
 item := by
  intro X hP hw hK hc i pins s σ H E I hf st hg
  subst hP hw hK
  obtain ⟨xs, x, hq, hx⟩ := hg
  obtain ⟨its, rv, p, hz⟩ := I.list hq
  obtain ⟨u, hu, ru⟩ := rv.get hx
  obtain ⟨f0, f1, f2, f3, f4, f5⟩ := hf it (by simp)
  refine wpAny_pyNext_list_item st p.isList (x := u) (by simpa using hu) fun h' st' sb => ?_
  have I1 : Inv X pins σ H { s with heap := h' } := I.turned (t' := s.toks) (fun b o hb e => (sb.2 b hb).trans e) f0 f1 f3 f4 f5
  obtain ⟨o, e, c, d⟩ := id st'
  exact ⟨u, rfl, go_of (s := { s with heap := h' }) e c d (by decide) ⟨x, H, I1, ru, ⟨rfl, fun ys hy => by rw [I.list_inj hy hq]; exact hx⟩, st', fun b hb => (hf b hb).1⟩⟩
 done := by
  intro X hP hw hK hc i pins s σ H E I hf st hg
  subst hP hw hK
  obtain ⟨xs, hq, hx⟩ := hg
  obtain ⟨its, rv, p, hz⟩ := I.list hq
  obtain ⟨f0, f1, f2, f3, f4, f5⟩ := hf it (by simp)
  have hl := rv.length
  exact wpAny_pyNext_list_end (I.ok.hd hc) st p.isList (by simp; omega) fun h' eb => ⟨rfl, I.turned (t' := s.toks) (fun b o hb e => eb b o hb e) f0 f1 f3 f4 f5⟩
 self := fun _ _ _ _ _ st h => wpAny_pyIter_listiter st h
theorem turn_tuple {P : Program} {w : World} {K : PySem.W.Frag} {tg : Expr} (a it : Addr) : Turn P w K tg (Itt K a) [it] it (fun i h => h.IsTupleIter it a i) where
 mem := by simp
 obj := fun i h st b hb => by
  have e : b = it := by simpa using hb
  subst e
  obtain ⟨o, e, c, d⟩ := st
  exact ⟨o, e, fun v z => by rw [d] at z; cases z⟩
 keep := fun i h h' st k => st.at fun o e => k it (by simp) o e
 item := by
  intro X hP hw hK hc i pins s σ H E I hf st hg
  subst hP hw hK
  obtain ⟨xs, x, hq, hx⟩ := hg
  obtain ⟨its, rv, p, hz⟩ := I.tuple hq
  obtain ⟨u, hu, ru⟩ := rv.get hx
  obtain ⟨f0, f1, f2, f3, f4, f5⟩ := hf it (by simp)
  refine wpAny_pyNext_tuple_item st (show s.heap.IsTuple a its.toArray from p) (x := u) (by simpa using hu) fun h' st' sb => ?_
  have I1 : Inv X pins σ H { s with heap := h' } := I.turned (t' := s.toks) (fun b o hb e => (sb.2 b hb).trans e) f0 f1 f3 f4 f5
  obtain ⟨o, e, c, d⟩ := id st'
  exact ⟨u, rfl, go_of (s := { s with heap := h' }) e c d (by decide) ⟨x, H, I1, ru, ⟨rfl, fun ys hy => by rw [I.tuple_inj hy hq]; exact hx⟩, st', fun b hb => (hf b hb).1⟩⟩
 done := by
  intro X hP hw hK hc i pins s σ H E I hf st hg
  subst hP hw hK
  obtain ⟨xs, hq, hx⟩ := hg
  obtain ⟨its, rv, p, hz⟩ := I.tuple hq
  obtain ⟨f0, f1, f2, f3, f4, f5⟩ := hf it (by simp)
  have hl := rv.length
  exact wpAny_pyNext_tuple_end (I.ok.hd hc) st (show s.heap.IsTuple a its.toArray from p) (by simp; omega) fun h' eb => ⟨rfl, I.turned (t' := s.toks) (fun b o hb e => eb b o hb e) f0 f1 f3 f4 f5⟩
 self := fun _ _ _ _ _ st h => wpAny_pyIter_tupleiter st h
theorem turn_range {P : Program} {w : World} {K : PySem.W.Frag} {tg : Expr} (it : Addr) (lo : Int) (n : Nat) : Turn P w K tg (Itr lo n) [it] it (fun i h => IsRangeIter h it (lo + (i : Nat) * 1) ((n : Int) - (i : Nat)) 1) where
 mem := by simp
 obj := fun i h st b hb => by
  have e : b = it := by simpa using hb
  subst e
  exact ⟨_, st, fun v z => by
   have z' : Data.fields _ = Data.cell v := z
   cases z'⟩
 keep := fun i h h' st k => k it (by simp) _ st
 item := by
  intro X hP hw hK hc i pins s σ H E I hf st hg
  subst hP hw hK
  obtain ⟨f0, f1, f2, f3, f4, f5⟩ := hf it (by simp)
  have W := Walks.range (prog := X.prog) (w := X.w) (I.ok.hd hc) it lo 1 n
  refine W.item i s _ _ hg st fun v h' tk hv st' kk => ?_
  obtain ⟨t, rfl⟩ := hv
  have I1 : Inv X pins σ H { s with heap := h', toks := tk } := I.turned (fun b o hb e => kk b o (by simpa using hb) e) f0 f1 f3 f4 f5
  refine ⟨_, rfl, go_of (s := { s with heap := h', toks := tk }) (n := "range_iterator") st' rfl rfl (by decide) ⟨.int (lo + i), H, I1, ⟨t, ?_⟩, ⟨rfl, rfl⟩, st', fun b hb => (hf b hb).1⟩⟩
  rw [Int.mul_one]
 done := by
  intro X hP hw hK hc i pins s σ H E I hf st hg
  subst hP hw hK
  obtain ⟨f0, f1, f2, f3, f4, f5⟩ := hf it (by simp)
  exact wpAny_pyNext_range_end (I.ok.hd hc) st (by have : n ≤ i := hg; omega) fun h' eb => ⟨rfl, I.turned (t' := s.toks) (fun b o hb e => eb b o hb e) f0 f1 f3 f4 f5⟩
 self := fun _ _ _ _ _ st h => wpAny_pyIter_rangeiter st h
end L2
namespace L2
open PySem PySem.Spec PyProof.Rows
section
variable {X : Cx} {tg : Expr}
def iList (K : PySem.W.Frag) (tl : TE) : TI := fun σ H R => tl σ H fun x H1 => ∃ a, x = .ref a ∧ (∃ xs, SqL K H1 a xs) ∧ R (Itl K a) H1
def iTup (K : PySem.W.Frag) (tl : TE) : TI := fun σ H R => tl σ H fun x H1 => ∃ a, x = .ref a ∧ (∃ xs, SqT K H1 a xs) ∧ R (Itt K a) H1
theorem pi_list {l : Expr} {tl : TE} (hl : PE X l tl) : PI X tg l (iList X.K tl) := by
 refine .mk ?_
 intro pins s σ H R I h
 refine thn (hl pins s σ H _ I h) fun v s1 ⟨x, H1, I1, r1, q1⟩ => ?_
 obtain ⟨a, e, ⟨xs, hq⟩, q⟩ := q1
 subst e
 cases r1
 obtain ⟨its, rv, p, hz⟩ := I1.list hq
 refine wpAny_pyIter_list p.isList ?_
 refine ⟨s1.heap.objs.size, [s1.heap.objs.size], _, _, H1, rfl, I1.kept (t' := s1.toks) fun b o e => Heap.get?_push_of_some _ e, turn_list a _, ⟨_, Heap.get?_push_size _ rfl, rfl, rfl⟩, fun b hb => ?_, q⟩
 have e : b = s1.heap.objs.size := by simpa using hb
 subst e
 exact I1.fpOk (Nat.le_refl _) (I1.hok.fresh (Nat.le_refl _))
theorem pi_tup {l : Expr} {tl : TE} (hl : PE X l tl) : PI X tg l (iTup X.K tl) := by
 refine .mk ?_
 intro pins s σ H R I h
 refine thn (hl pins s σ H _ I h) fun v s1 ⟨x, H1, I1, r1, q1⟩ => ?_
 obtain ⟨a, e, ⟨xs, hq⟩, q⟩ := q1
 subst e
 cases r1
 obtain ⟨its, rv, p, hz⟩ := I1.tuple hq
 refine wpAny_pyIter_tuple (show s1.heap.IsTuple a its.toArray from p) ?_
 refine ⟨s1.heap.objs.size, [s1.heap.objs.size], _, _, H1, rfl, I1.kept (t' := s1.toks) fun b o e => Heap.get?_push_of_some _ e, turn_tuple a _, ⟨_, Heap.get?_push_size _ rfl, rfl, rfl⟩, fun b hb => ?_, q⟩
 have e : b = s1.heap.objs.size := by simpa using hb
 subst e
 exact I1.fpOk (Nat.le_refl _) (I1.hok.fresh (Nat.le_refl _))
theorem range_it {pins : List (Addr × Obj)} {σ : St} {H : Hp} {s : Shared} {R : It → Hp → Prop} {E : Value → Shared → Prop} {lo hi : Int} {t u v : Tok} {tk : Nat} (I : Inv X pins σ H s) (h1 : -(2 ^ 62) ≤ lo) (h2 : lo < 2 ^ 62) (h3 : -(2 ^ 62) ≤ hi) (h4 : hi < 2 ^ 62)
  (q : R (Itr lo (hi - lo).toNat) H) : wpAny (model X.prog X.w) X.A (pyIter (.ref s.heap.objs.size)) (PIE X pins σ tg R) E { s with heap := s.heap.push { cls := .type "range", data := .fields #[.int lo t, .int hi u, .int 1 v] }, toks := tk } := by
 refine wpAny_pyIter_range (IsRange.new ..) (small_one h1 h2 h3 h4) ?_
 have I1 : Inv X pins σ H { s with heap := s.heap.push { cls := .type "range", data := .fields #[.int lo t, .int hi u, .int 1 v] }, toks := tk } := I.kept fun b o e => Heap.get?_push_of_some _ e
 refine ⟨(s.heap.push { cls := .type "range", data := .fields #[.int lo t, .int hi u, .int 1 v] }).objs.size, [(s.heap.push { cls := .type "range", data := .fields #[.int lo t, .int hi u, .int 1 v] }).objs.size], _, _, H, rfl,
  I1.kept (t' := tk) fun b o e => Heap.get?_push_of_some _ e, turn_range _ lo (hi - lo).toNat, ?_, fun b hb => ?_, q⟩
 ·have e1 : lo + ((0 : Nat) : Int) * 1 = lo := by simp
  have e2 : (((hi - lo).toNat : Nat) : Int) - ((0 : Nat) : Int) = Builtin.Range.rangeSize lo hi 1 := by rw [rangeSize_one]; split <;> omega
  show IsRangeIter _ _ (lo + ((0 : Nat) : Int) * 1) ((((hi - lo).toNat : Nat) : Int) - ((0 : Nat) : Int)) 1
  rw [e1, e2]
  exact Heap.get?_push_size _ rfl
 ·have e : b = (s.heap.push { cls := .type "range", data := .fields #[.int lo t, .int hi u, .int 1 v] }).objs.size := by simpa using hb
  subst e
  exact I1.fpOk (Nat.le_refl _) (I1.hok.fresh (Nat.le_refl _))
def iRng1 (ta : TA) : TI := fun σ H R => ta σ H fun vs H1 => ∃ j : Int, vs = [.int j] ∧ -(2 ^ 62) ≤ j ∧ j < 2 ^ 62 ∧ R (Itr 0 j.toNat) H1
theorem pi_range1 {a : Expr} {ta : TA} {p pos : Pos} (hg : Gl X "range") (hm : X.mg "range" = none) (ha : PA X [a] ta) (hs : starEach [a] X.env = [(false, eval a X.env)] := by rfl) : PI X tg (.Call (.Name "range" p) [a] [] pos) (iRng1 ta) := by
 refine .mk ?_
 intro pins s σ H R I h
 refine Call_ (ld_blt I hg hm boot_range (PyProof.Rows.callWith_type1 (thn (ha pos pins s σ H _ I h) fun us s1 ⟨vs, H1, I1, r1, q1⟩ => ?_) hs rfl))
 obtain ⟨j, e, q1, q2, q⟩ := q1
 subst e
 cases r1 with
 | cons r rr =>
  cases rr
  obtain ⟨t, rfl⟩ := r
  exact call_range_1 (range_it I1 (by omega) (by omega) q1 q2 (by simpa using q))
def tFor (wi : TI) (g : TG) (tb : TS) : TS := fun D σ H => wi σ H fun J H1 => ∃ W : Nat → Nat → St → Hp → Prop, (∃ m, W 0 m σ H1) ∧ ∀ i m σ H, W i m σ H →
 (J.stop i H ∧ D.nx σ H) ∨ (J.go i H ∧ ∃ N : St → Hp → Prop, (∀ σ' H', N σ' H' → ∃ m', m' < m ∧ W (i + 1) m' σ' H') ∧ ∀ x H', J.yld i H x H' → g x σ H' fun σ2 H2 => tb { D with nx := N, ct := N, bk := D.nx } σ2 H2)
def pinsAt (fp : List Addr) (h : Heap) : List (Addr × Obj) := fp.filterMap fun b => (h.get? b).map fun o => (b, o)
theorem mem_pinsAt {fp : List Addr} {h : Heap} {b : Addr} {o : Obj} (hb : b ∈ fp) (e : h.get? b = some o) : (b, o) ∈ pinsAt fp h := List.mem_filterMap.mpr ⟨b, hb, by rw [e]; rfl⟩
theorem of_pinsAt {fp : List Addr} {h : Heap} {p : Addr × Obj} (hp : p ∈ pinsAt fp h) : p.1 ∈ fp ∧ h.get? p.1 = some p.2 := by
 obtain ⟨b, hb, e⟩ := List.mem_filterMap.mp hp
 cases q : h.get? b with
 | none => rw [q] at e; cases e
 | some o =>
  rw [q] at e
  have e' : (b, o) = p := Option.some.inj e
  subst e'
  exact ⟨hb, q⟩
theorem Inv.pinned {pins : List (Addr × Obj)} {σ : St} {H : Hp} {s : Shared} {fp : List Addr} (I : Inv X pins σ H s) (hf : ∀ b ∈ fp, FpOk X pins H b) (ho : ∀ b ∈ fp, ∃ o, s.heap.get? b = some o ∧ ∀ v, o.data ≠ .cell v) : Inv X (pins ++ pinsAt fp s.heap) σ H s :=
 I.pins_of fun p hp => (List.mem_append.mp hp).elim (fun z => I.pin p (List.mem_append_right _ z)) fun z => by
  obtain ⟨hb, e⟩ := of_pinsAt z
  obtain ⟨f0, f1, f2, _⟩ := hf p.1 hb
  obtain ⟨o, e', d⟩ := ho p.1 hb
  rw [e] at e'; cases e'
  exact ⟨e, f0, f1, f2, d⟩
theorem Inv.unpinned {pins pl : List (Addr × Obj)} {σ : St} {H : Hp} {s : Shared} (I : Inv X (pins ++ pl) σ H s) : Inv X pins σ H s := I.pins_of fun p hp => I.pin p (List.mem_append_right _ (List.mem_append_left _ hp))
theorem ps_for {iter : Expr} {body : List Stmt} {wi : TI} {g : TG} {tb : TS} {pos : Pos} (hp : PassesOwn (model X.prog X.w) X.A X.env X.xe) (hc : X.calm = true) (hi : PI X tg iter wi) (hg : PG X tg g) (hb : PSs X body tb)
  (hs : ∀ x, foldedSetIterable iter X.env x = pure x := by intro _; rfl) : PS X (.For tg iter body [] pos) (tFor wi g tb) := by
 refine .mk ?_
 intro pins s σ H D I h
 refine wpAny_For (thn (hi pins s σ H _ I h) fun v s1 h1 => thn h1 fun itv s2 h2 => ?_) hs
 obtain ⟨it, fp, tn, J, H2, e, I2, T, st2, f2, W, ⟨m0, w0⟩, turn⟩ := h2
 subst e
 -- what stays true of the iterator's objects through the loop
 have stat : ∀ {H' : Hp}, (∀ b ∈ fp, H' b = none) → ∀ b ∈ fp, FpOk X pins H' b := fun hn b hb => ⟨hn b hb, (f2 b hb).2⟩
 refine codeAny_forLoop_any (fun n s' => ∃ i σ' H', Inv X pins σ' H' s' ∧ tn i s'.heap ∧ (∀ b ∈ fp, H' b = none) ∧ W i n σ' H') ?_ m0 ⟨0, σ, H2, I2, st2, fun b hb => (f2 b hb).1, w0⟩
 rintro n s3 ⟨i, σ3, H3, I3, st3, fr3, w3⟩
 rcases turn i n σ3 H3 w3 with ⟨stop, qn⟩ | ⟨go, N, hN, step⟩
 ·refine wpAny_passesOwn hp (thn (T.done X rfl rfl rfl hc i pins s3 σ3 H3 X.xe I3 (stat fr3) st3 stop) fun r s4 ⟨hr, I4⟩ => ?_)
  subst hr
  exact wpAny_execs_nil ⟨σ3, H3, I4, qn⟩
 ·refine wpAny_passesOwn hp (thn (T.item X rfl rfl rfl hc i pins s3 σ3 H3 X.xe I3 (stat fr3) st3 go) fun r s4 ⟨u, hr, h4⟩ => ?_)
  subst hr
  refine wpAny_passesOwn hp (thn h4 fun _ s5 ⟨x, H5, I5, r5, y5, st5, fr5⟩ => ?_)
  have I5' := I5.pinned (stat fr5) (T.obj _ _ st5)
  refine wpAny_passesOwn hp (thn (hg _ s5 σ3 H5 x u _ I5' r5 (step x H5 y5)) fun _ s6 ⟨σ6, H6, I6, q6⟩ => ?_)
  refine wpAny_passesOwn hp (thn (hb _ s6 σ6 H6 _ I6 q6) fun f s7 q7 => ?_)
  have again : ∀ {σ7 : St} {H7 : Hp}, Inv X (pins ++ pinsAt fp s5.heap) σ7 H7 s7 → N σ7 H7 → ∃ m, m < n ∧ ∃ i σ' H', Inv X pins σ' H' s7 ∧ tn i s7.heap ∧ (∀ b ∈ fp, H' b = none) ∧ W i m σ' H' := fun {σ7 H7} I7 n7 => by
   obtain ⟨m', hm, w7⟩ := hN σ7 H7 n7
   refine ⟨m', hm, i + 1, σ7, H7, I7.unpinned, T.keep _ _ _ st5 fun b hb o e => (I7.pin (b, o) (List.mem_append_right _ (List.mem_append_right _ (mem_pinsAt hb e)))).1, fun b hb => ?_, w7⟩
   obtain ⟨o, e, d⟩ := T.obj _ _ st5 b hb
   exact (I7.pin (b, o) (List.mem_append_right _ (List.mem_append_right _ (mem_pinsAt hb e)))).2.1
  cases f with
  | next => obtain ⟨σ7, H7, I7, n7⟩ := q7; exact again I7 n7
  | cont => obtain ⟨σ7, H7, I7, n7⟩ := q7; exact again I7 n7
  | brk => obtain ⟨σ7, H7, I7, q7⟩ := q7; exact ⟨σ7, H7, I7.unpinned, q7⟩
  | ret v => obtain ⟨x7, σ7, H7, I7, r7, q7⟩ := q7; exact ⟨x7, σ7, H7, I7.unpinned, r7, q7⟩
end
end L2
namespace L2
open PySem PySem.Spec PyProof.Rows
abbrev R2 := V → V → Hp → VK → Prop
def OpR (X : Cx) (f : Value → Value → Sem Value) (r : R2) : Prop :=
 ∀ (pins : List (Addr × Obj)) (s : Shared) (σ : St) (H : Hp) (x y : V) (v u : Value) (Q : VK), Inv X pins σ H s → RelV x v → RelV y u → r x y H Q →
  wpAny (model X.prog X.w) X.A (f v u) (EP X pins σ Q) X.xe s
def UnR (X : Cx) (f : Value → Sem Value) (r : V → Hp → VK → Prop) : Prop :=
 ∀ (pins : List (Addr × Obj)) (s : Shared) (σ : St) (H : Hp) (x : V) (v : Value) (Q : VK), Inv X pins σ H s → RelV x v → r x H Q →
  wpAny (model X.prog X.w) X.A (f v) (EP X pins σ Q) X.xe s
def CallR (X : Cx) (f : Value) (r : List V → Hp → VK → Prop) : Prop :=
 ∀ (pins : List (Addr × Obj)) (s : Shared) (σ : St) (H : Hp) (xs : List V) (us : List Value) (Q : VK), Inv X pins σ H s → Vals xs us → r xs H Q →
  wpAny (model X.prog X.w) X.A (call f us) (EP X pins σ Q) X.xe s
def tOp (r : R2) (ta tb : TE) : TE := fun σ H Q => ta σ H fun x H1 => tb σ H1 fun y H2 => r x y H2 Q
def tUn (r : V → Hp → VK → Prop) (ta : TE) : TE := fun σ H Q => ta σ H fun x H1 => r x H1 Q
def rI (C : Int → Int → Prop) (g : Int → Int → V) : R2 := fun x y H Q => ∃ i j, x = .int i ∧ y = .int j ∧ C i j ∧ Q (g i j) H
def rI0 (g : Int → Int → V) : R2 := fun x y H Q => ∃ i j, x = .int i ∧ y = .int j ∧ Q (g i j) H
def rU (g : Int → V) : V → Hp → VK → Prop := fun x H Q => ∃ i, x = .int i ∧ Q (g i) H
section
variable {X : Cx} {a b c : Expr} {ta tb tc : TE} {pos : Pos}
theorem binT (ha : PE X a ta) (hb : PE X b tb) {pins : List (Addr × Obj)} {s : Shared} {σ : St} {H : Hp} {R : V → V → Hp → Prop} (I : Inv X pins σ H s)
  (h : ta σ H fun x H1 => tb σ H1 fun y H2 => R x y H2) {Q : Value → Shared → Prop} {f : Value → Value → Sem Value}
  (hf : ∀ v u s2 x y H2, Inv X pins σ H2 s2 → RelV x v → RelV y u → R x y H2 → wpAny (model X.prog X.w) X.A (f v u) Q X.xe s2) :
  wpAny (model X.prog X.w) X.A (eval a X.env) (fun v s₁ => wpAny (model X.prog X.w) X.A (eval b X.env) (fun u s₂ => wpAny (model X.prog X.w) X.A (f v u) Q X.xe s₂) X.xe s₁) X.xe s := by
 refine thn (ha pins s σ H _ I h) fun v s1 ⟨x, H1, I1, r1, q1⟩ => ?_
 refine thn (hb pins s1 σ H1 _ I1 q1) fun u s2 ⟨y, H2, I2, r2, q2⟩ => ?_
 exact hf v u s2 x y H2 I2 r1 r2 q2
theorem pe_op {op : Operator} {r : R2} (ho : OpR X (binaryOp op) r) (ha : PE X a ta) (hb : PE X b tb) : PE X (.BinOp a op b pos) (tOp r ta tb) := by
 refine .mk ?_
 intro pins s σ H Q I h
 exact wpAny_BinOp (binT ha hb I h fun v u s2 x y H2 I2 rx ry q => ho pins s2 σ H2 x y v u Q I2 rx ry q)
theorem pe_un {op : UnaryOp} {r : V → Hp → VK → Prop} (ho : UnR X (unaryOp op) r) (ha : PE X a ta) : PE X (.UnaryOp op a pos) (tUn r ta) := by
 refine .mk ?_
 intro pins s σ H Q I h
 exact UnaryOp_ (thn (ha pins s σ H _ I h) fun v s1 ⟨x, H1, I1, r1, q1⟩ => ho pins s1 σ H1 x v Q I1 r1 q1)
theorem opI {f : Value → Value → Sem Value} {C : Int → Int → Prop} {g : Int → Int → Int}
  (rule : ∀ (i j : Int) (t u : Tok) (s : Shared) (Q : Value → Shared → Prop) (E : Value → Shared → Prop), C i j → Q (.int (g i j) s.toks) { s with toks := s.toks + 1 } → wpAny (model X.prog X.w) X.A (f (.int i t) (.int j u)) Q E s) :
  OpR X f (rI C fun i j => .int (g i j)) := by
 intro pins s σ H x y v u Q I rx ry h
 obtain ⟨i, j, rfl, rfl, hc, q⟩ := h
 obtain ⟨t, rfl⟩ := rx
 obtain ⟨t', rfl⟩ := ry
 exact rule i j t t' s _ _ hc ⟨.int (g i j), H, I.tok _, ⟨_, rfl⟩, q⟩
theorem opI0 {f : Value → Value → Sem Value} {g : Int → Int → Int}
  (rule : ∀ (i j : Int) (t u : Tok) (s : Shared) (Q : Value → Shared → Prop) (E : Value → Shared → Prop), Q (.int (g i j) s.toks) { s with toks := s.toks + 1 } → wpAny (model X.prog X.w) X.A (f (.int i t) (.int j u)) Q E s) :
  OpR X f (rI0 fun i j => .int (g i j)) := by
 intro pins s σ H x y v u Q I rx ry h
 obtain ⟨i, j, rfl, rfl, q⟩ := h
 obtain ⟨t, rfl⟩ := rx
 obtain ⟨t', rfl⟩ := ry
 exact rule i j t t' s _ _ ⟨.int (g i j), H, I.tok _, ⟨_, rfl⟩, q⟩
theorem opB0 {f : Value → Value → Sem Value} {g : Int → Int → Bool}
  (rule : ∀ (i j : Int) (t u : Tok) (s : Shared) (Q : Value → Shared → Prop) (E : Value → Shared → Prop), Q (.bool (g i j)) s → wpAny (model X.prog X.w) X.A (f (.int i t) (.int j u)) Q E s) :
  OpR X f (rI0 fun i j => .bl (g i j)) := by
 intro pins s σ H x y v u Q I rx ry h
 obtain ⟨i, j, rfl, rfl, q⟩ := h
 obtain ⟨t, rfl⟩ := rx
 obtain ⟨t', rfl⟩ := ry
 exact rule i j t t' s _ _ ⟨.bl (g i j), H, I, rfl, q⟩
def CPow (i j : Int) : Prop := 0 ≤ j ∧ j ≤ 1000000 ∧ i.natAbs < 2 ^ 64
def CMul (i j : Int) : Prop := (-(2 ^ 64) < i ∧ i < 2 ^ 64) ∨ (-(2 ^ 64) < j ∧ j < 2 ^ 64)
theorem CMul.ok {i j : Int} (h : CMul i j) : IntMulOk i j := by
 rcases h with ⟨h1, h2⟩ | ⟨h1, h2⟩
 ·exact .of_left (intBits_le_64 h1 h2)
 ·exact .of_right (intBits_le_64 h1 h2)
theorem op_add : OpR X (binaryOp .Add) (rI0 fun i j => .int (i + j)) := opI0 fun _ _ _ _ _ _ _ q => add_int q
theorem op_sub : OpR X (binaryOp .Sub) (rI0 fun i j => .int (i - j)) := opI0 fun _ _ _ _ _ _ _ q => sub_int q
theorem op_mul : OpR X (binaryOp .Mult) (rI CMul fun i j => .int (i * j)) := opI fun _ _ _ _ _ _ _ hc q => mul_int q hc.ok
theorem op_mod : OpR X (binaryOp .Mod) (rI (fun _ j => 0 < j) fun i j => .int (i % j)) := opI fun i j _ _ _ _ _ hc q => by
 have h1 : (0 : Int) < j := hc
 exact mod_int' (by omega) (by rw [Int.fmod_eq_emod_of_nonneg i (by omega)]; exact q)
theorem op_pow : OpR X (binaryOp .Pow) (rI CPow fun i j => .int (i ^ j.toNat)) := opI fun _ _ _ _ _ _ _ hc q => pow_int_small hc.1 hc.2.1 hc.2.2 q
theorem unI {f : Value → Sem Value} {g : Int → Int}
  (rule : ∀ (i : Int) (t : Tok) (s : Shared) (Q : Value → Shared → Prop) (E : Value → Shared → Prop), Q (.int (g i) s.toks) { s with toks := s.toks + 1 } → wpAny (model X.prog X.w) X.A (f (.int i t)) Q E s) :
  UnR X f (rU fun i => .int (g i)) := by
 intro pins s σ H x v Q I rx h
 obtain ⟨i, rfl, q⟩ := h
 obtain ⟨t, rfl⟩ := rx
 exact rule i t s _ _ ⟨.int (g i), H, I.tok _, ⟨_, rfl⟩, q⟩
theorem un_neg : UnR X (unaryOp .USub) (rU fun i => .int (-i)) := unI fun _ _ _ _ _ q => neg_int q
end
def scal : V → V → Bool
 | .non, .non => true | .non, .int _ => true | .int _, .non => true | .non, .bl _ => true | .bl _, .non => true | .non, .str _ => true | .str _, .non => true
 | .int _, .int _ => true | .bl _, .bl _ => true | .str _, .str _ => true | .byt _, .byt _ => true
 | .int _, .str _ => true | .str _, .int _ => true | .bl _, .str _ => true | .str _, .bl _ => true
 | _, _ => false
def rEq : R2 := fun x y H Q => scal x y = true ∧ Q (.bl (decide (x = y))) H
def rNe : R2 := fun x y H Q => scal x y = true ∧ Q (.bl (!decide (x = y))) H
theorem dec_int {i j : Int} : decide (V.int i = V.int j) = (i == j) := by
 rw [Bool.eq_iff_iff]
 simp
theorem dec_bl {i j : Bool} : decide (V.bl i = V.bl j) = (i == j) := by
 rw [Bool.eq_iff_iff]
 simp
theorem dec_str {i j : Str} : decide (V.str i = V.str j) = (i == j) := by
 rw [Bool.eq_iff_iff]
 simp
theorem dec_byt {i j : Array UInt8} : decide (V.byt i = V.byt j) = (i.toList == j.toList) := by
 rw [Bool.eq_iff_iff]
 cases i
 cases j
 simp
section
variable {X : Cx} {a b c : Expr} {ta tb tc : TE} {pos : Pos}
theorem fin_bl {pins : List (Addr × Obj)} {σ : St} {H : Hp} {s : Shared} {Q : VK} {k k' : Bool} (I : Inv X pins σ H s) (q : Q (.bl k) H) (e : k = k') : EP X pins σ Q (.bool k') s := by
 subst e
 exact ⟨.bl k, H, I, rfl, q⟩
theorem op_eq : OpR X (compareOp .Eq) rEq := by
 intro pins s σ H x y v u Q I rx ry h
 obtain ⟨hs, q⟩ := h
 cases x with
 | non =>
  cases rx
  cases y with
  | non => cases ry; exact PySem.EqNone.eq_none_none (fin_bl I q (by simp))
  | bl j => cases ry; exact PySem.EqNone.eq_none_bool (fin_bl I q (by simp))
  | int j => obtain ⟨t', rfl⟩ := ry; exact PySem.EqNone.eq_none_int (fin_bl I q (by simp))
  | str j => obtain ⟨t', rfl⟩ := ry; exact PySem.EqNone.eq_none_str (fin_bl I q (by simp))
  | _ => exact absurd (show false = true from hs) Bool.false_ne_true
 | bl i =>
  cases rx
  cases y with
  | non => cases ry; exact PySem.EqNone.eq_bool_none (fin_bl I q (by simp))
  | bl j => cases ry; exact eq_bool (fin_bl I q dec_bl)
  | str j => obtain ⟨t', rfl⟩ := ry; exact PySem.EqMixed.eq_bool_str (fin_bl I q (by simp))
  | _ => exact absurd (show false = true from hs) Bool.false_ne_true
 | int i =>
  obtain ⟨t, rfl⟩ := rx
  cases y with
  | non => cases ry; exact PySem.EqNone.eq_int_none (fin_bl I q (by simp))
  | int j => obtain ⟨t', rfl⟩ := ry; exact eq_int (fin_bl I q dec_int)
  | str j => obtain ⟨t', rfl⟩ := ry; exact PySem.EqMixed.eq_int_str (fin_bl I q (by simp))
  | _ => exact absurd (show false = true from hs) Bool.false_ne_true
 | str i =>
  obtain ⟨t, rfl⟩ := rx
  cases y with
  | non => cases ry; exact PySem.EqNone.eq_str_none (fin_bl I q (by simp))
  | bl j => cases ry; exact PySem.EqMixed.eq_str_bool (fin_bl I q (by simp))
  | int j => obtain ⟨t', rfl⟩ := ry; exact PySem.EqMixed.eq_str_int (fin_bl I q (by simp))
  | str j => obtain ⟨t', rfl⟩ := ry; exact eq_str (fin_bl I q dec_str)
  | _ => exact absurd (show false = true from hs) Bool.false_ne_true
 | byt i =>
  obtain ⟨t, rfl⟩ := rx
  cases y with
  | byt j => obtain ⟨t', rfl⟩ := ry; exact PySem.W.eq_bytes (fin_bl I q dec_byt)
  | _ => exact absurd (show false = true from hs) Bool.false_ne_true
 | _ => cases y <;> exact absurd (show false = true from hs) Bool.false_ne_true
theorem op_ne : OpR X (compareOp .NotEq) rNe := by
 intro pins s σ H x y v u Q I rx ry h
 obtain ⟨hs, q⟩ := h
 cases x with
 | non =>
  cases rx
  cases y with
  | non => cases ry; exact PySem.EqNone.ne_none_none (fin_bl I q (by simp))
  | bl j => cases ry; exact PySem.EqNone.ne_none_bool (fin_bl I q (by simp))
  | int j => obtain ⟨t', rfl⟩ := ry; exact PySem.EqNone.ne_none_int (fin_bl I q (by simp))
  | str j => obtain ⟨t', rfl⟩ := ry; exact PySem.EqNone.ne_none_str (fin_bl I q (by simp))
  | _ => exact absurd (show false = true from hs) Bool.false_ne_true
 | bl i =>
  cases rx
  cases y with
  | non => cases ry; exact PySem.EqNone.ne_bool_none (fin_bl I q (by simp))
  | bl j => cases ry; exact ne_bool (fin_bl I q (congrArg not dec_bl))
  | str j => obtain ⟨t', rfl⟩ := ry; exact PySem.EqMixed.ne_bool_str (fin_bl I q (by simp))
  | _ => exact absurd (show false = true from hs) Bool.false_ne_true
 | int i =>
  obtain ⟨t, rfl⟩ := rx
  cases y with
  | non => cases ry; exact PySem.EqNone.ne_int_none (fin_bl I q (by simp))
  | int j => obtain ⟨t', rfl⟩ := ry; exact ne_int (fin_bl I q (congrArg not dec_int))
  | str j => obtain ⟨t', rfl⟩ := ry; exact PySem.EqMixed.ne_int_str (fin_bl I q (by simp))
  | _ => exact absurd (show false = true from hs) Bool.false_ne_true
 | str i =>
  obtain ⟨t, rfl⟩ := rx
  cases y with
  | non => cases ry; exact PySem.EqNone.ne_str_none (fin_bl I q (by simp))
  | bl j => cases ry; exact PySem.EqMixed.ne_str_bool (fin_bl I q (by simp))
  | int j => obtain ⟨t', rfl⟩ := ry; exact PySem.EqMixed.ne_str_int (fin_bl I q (by simp))
  | str j => obtain ⟨t', rfl⟩ := ry; exact ne_str (fin_bl I q (congrArg not dec_str))
  | _ => exact absurd (show false = true from hs) Bool.false_ne_true
 | byt i =>
  obtain ⟨t, rfl⟩ := rx
  cases y with
  | byt j => obtain ⟨t', rfl⟩ := ry; exact PySem.W.ne_bytes (fin_bl I q (congrArg not dec_byt))
  | _ => exact absurd (show false = true from hs) Bool.false_ne_true
 | _ => cases y <;> exact absurd (show false = true from hs) Bool.false_ne_true
theorem op_lt : OpR X (compareOp .Lt) (rI0 fun i j => .bl (decide (i < j))) := opB0 fun _ _ _ _ _ _ _ q => lt_int q
theorem op_gt : OpR X (compareOp .Gt) (rI0 fun i j => .bl (decide (j < i))) := opB0 fun _ _ _ _ _ _ _ q => gt_int q
theorem OpR.or {f : Value → Value → Sem Value} {r r' : R2} (h : OpR X f r) (h' : OpR X f r') : OpR X f (fun x y H Q => r x y H Q ∨ r' x y H Q) := by
 intro pins s σ H x y v u Q I rx ry q
 rcases q with q | q
 ·exact h pins s σ H x y v u Q I rx ry q
 ·exact h' pins s σ H x y v u Q I rx ry q
theorem nomark (b : Expr) {op : CmpOp} (h : op ≠ .In := by decide) (h2 : op ≠ .NotIn := by decide) : behindInMarks op b = false := by
 have e1 : (op == CmpOp.In) = false := by cases op <;> first | rfl | exact absurd rfl h
 have e2 : (op == CmpOp.NotIn) = false := by cases op <;> first | rfl | exact absurd rfl h2
 cases b <;> simp [behindInMarks, e1, e2]
theorem pe_cmpR {op : CmpOp} {r : R2} (ho : OpR X (compareOp op) r) (ha : PE X a ta) (hb : PE X b tb) (hm : behindInMarks op b = false) : PE X (.Compare a [op] [b] pos) (tOp r ta tb) := by
 refine .mk ?_
 intro pins s σ H Q I h
 exact wpAny_Compare1 (binT ha hb I h fun v u s2 x y H2 I2 rx ry q => ho pins s2 σ H2 x y v u Q I2 rx ry q) hm
def tTest (t : TE) : TT := fun σ H Q => t σ H fun x H' => ∃ k, x = .bl k ∧ Q k H'
theorem pt_cmpR {op : CmpOp} {r : R2} (ho : OpR X (compareOp op) r) (ha : PE X a ta) (hb : PE X b tb) (hm : behindInMarks op b = false) : PT X (.Compare a [op] [b] pos) (tTest (tOp r ta tb)) := by
 refine .mk ?_
 intro pins s σ H Q I h
 refine wpAny_isTrue_Compare1 (thn (ha pins s σ H _ I h) fun v s1 ⟨x, H1, I1, r1, q1⟩ => thn (hb pins s1 σ H1 _ I1 q1) fun u s2 ⟨y, H2, I2, r2, q2⟩ =>
  thn (ho pins s2 σ H2 x y v u _ I2 r1 r2 q2) fun c s3 ⟨z, H3, I3, r3, k, e, q3⟩ => ?_) hm
 subst e
 cases r3
 exact wpAny_truthy_bool ⟨H3, I3, q3⟩
theorem line63 : (sizeLine : Nat) < 2 ^ 63 := by rw [sizeLine_eq]; decide
theorem op_add_str : OpR X (binaryOp .Add) (fun x y H Q => ∃ i j, x = .str i ∧ y = .str j ∧ i.length + j.length ≤ sizeLine ∧ Q (.str (i ++ j)) H) := by
 intro pins s σ H x y v u Q I rx ry h
 obtain ⟨i, j, rfl, rfl, hz, q⟩ := h
 obtain ⟨t, rfl⟩ := rx
 obtain ⟨t', rfl⟩ := ry
 exact add_str (fun t' tk => ⟨.str (i ++ j), H, I.tok _, ⟨_, rfl⟩, q⟩) hz
theorem vals1 {x : V} {us : List Value} (r : Vals [x] us) : ∃ u, us = [u] ∧ RelV x u := by
 cases r with
 | cons r1 r2 => cases r2; exact ⟨_, rfl, r1⟩
theorem vals2 {x y : V} {us : List Value} (r : Vals [x, y] us) : ∃ u w', us = [u, w'] ∧ RelV x u ∧ RelV y w' := by
 cases r with
 | cons r1 r2 =>
  cases r2 with
  | cons r3 r4 => cases r4; exact ⟨_, _, rfl, r1, r3⟩
theorem call_max2 (hc : X.calm = true) : CallR X (.builtin "max") (fun xs H Q => ∃ i j, xs = [.int i, .int j] ∧ Q (.int (if j > i then j else i)) H) := by
 intro pins s σ H xs us Q I r h
 obtain ⟨i, j, rfl, q⟩ := h
 obtain ⟨u, w', rfl, ⟨t, rfl⟩, ⟨t', rfl⟩⟩ := vals2 r
 refine max_two_ints (I.ok.hd hc) fun h' tk k => ⟨_, H, I.kept k, ?_, q⟩
 by_cases hj : j > i
 ·rw [if_pos hj, if_pos hj]; exact ⟨_, rfl⟩
 ·rw [if_neg hj, if_neg hj]; exact ⟨_, rfl⟩
theorem call_min2 (hc : X.calm = true) : CallR X (.builtin "min") (fun xs H Q => ∃ i j, xs = [.int i, .int j] ∧ Q (.int (if j < i then j else i)) H) := by
 intro pins s σ H xs us Q I r h
 obtain ⟨i, j, rfl, q⟩ := h
 obtain ⟨u, w', rfl, ⟨t, rfl⟩, ⟨t', rfl⟩⟩ := vals2 r
 refine min_two_ints (I.ok.hd hc) fun h' tk k => ⟨_, H, I.kept k, ?_, q⟩
 by_cases hj : j < i
 ·rw [if_pos hj, if_pos hj]; exact ⟨_, rfl⟩
 ·rw [if_neg hj, if_neg hj]; exact ⟨_, rfl⟩
end
end L2
namespace L2
open PySem PySem.Spec PyProof.Rows
structure ObjM (h : Heap) (x dx C : Addr) (mA : Str → Option Value) : Prop where
 obj : h.get? x = some (PySem.W.instObj C dx)
 ns : h.Ns1 dx mA
 ne : dx ≠ x
theorem lookIn_ns {h : Heap} {dx : Addr} {mA : Str → Option Value} (n : h.Ns1 dx mA) : ∃ od, h.get? dx = some od ∧ ∀ name, PySem.W.lookIn name od = some (mA name) := by
 obtain ⟨o, es, ep, ho, hd, hk, _, hm⟩ := n
 refine ⟨o, ho, fun name => ?_⟩
 have e := hm name
 unfold nsFind findBy at e
 rw [← Array.find?_toList] at e
 unfold PySem.W.lookIn
 rw [hd]
 dsimp only
 split
 ·rename_i y q
  rw [q] at e
  exact congrArg some e
 ·rename_i q
  rw [q] at e
  have a : es.toList.any (·.refKey) = false := by
   rw [List.any_eq_false]
   intro y hy
   obtain ⟨z, t, hkey⟩ := hk y (Array.mem_toList_iff.mp hy)
   simp [DictEntry.refKey, hkey]
  have a' : ¬ es.toList.any (·.refKey) = true := by rw [a]; exact Bool.false_ne_true
  rw [if_neg a']
  exact congrArg some e
theorem ObjM.look {h : Heap} {x dx C : Addr} {mA : Str → Option Value} (I : ObjM h x dx C mA) : ∃ od, PySem.W.InstAt h x (PySem.W.instObj C dx) C (some od) ∧ ∀ name, PySem.W.lookIn name od = some (mA name) :=
 let ⟨od, ho, hl⟩ := lookIn_ns I.ns
 ⟨od, ⟨I.obj, rfl, rfl, ho⟩, hl⟩
section
variable {prog : Program} {w : World} {A : Around} {E : Value → Shared → Prop} {s : Shared} {K : PySem.W.Frag} {x dx C f : Addr} {mA : Str → Option Value} {name : Str} {v : Value}
end
section
variable {P : Program} {w : World} {H H' : Hp} {h h' : Heap} {a C dx : Addr} {fs fs' : List (Str × V)}
theorem ins_get (hok : HOk P w H h) (e : H a = some (.ins C dx fs)) : ∃ mA, ObjM h a dx C mA ∧ (∀ f, RelO (fs.lookup f) (mA f)) ∧ PySem.Within mA (fs.map (·.1)) ∧ fs.length ≤ 1000 ∧ H dx = some (.own a) := by
 obtain ⟨d, z, ne, ob, mA, n, r, q⟩ := (show ObjOk P w H h a (.ins C dx fs) from hok a _ e)
 exact ⟨mA, ⟨ob, n, ne⟩, r, q, z, d⟩
end
structure Cls (K : PySem.W.Frag) (C : Addr) : Prop where
 pg : PySem.W.plainGet K C Str.empty = true
 hd : PySem.W.hasDictIn K C = true
 po : PySem.W.plainOver K C = true
 sa : PySem.W.findIn K (.ref C) "__setattr__" = some (some (.builtin "object.__setattr__"))
theorem Cls.get {K : PySem.W.Frag} {C : Addr} (c : Cls K C) (f : Str) : PySem.W.plainGet K C f = true := c.pg
structure Meth (K : PySem.W.Frag) (C : Addr) (m : Str) (f : Addr) : Prop where
 at_ : PySem.W.findIn K (.ref C) m = some (some (.ref f))
 fn : PySem.W.isFn K (.ref f) = true
 kp : PySem.W.keepIn K (.ref f) = true
section
variable {X : Cx} {pins : List (Addr × Obj)} {σ : St} {H : Hp} {s : Shared} {a C dx : Addr} {fs : List (Str × V)} {f : Str} {v : V} {A : Around} {E : Value → Shared → Prop}
end
section
variable {X : Cx} {o e value : Expr} {f : Str} {pos pos' tpos : Pos} {ta tv : TE}
end
section
variable {X : Cx} {pins : List (Addr × Obj)} {σ : St} {H : Hp} {s : Shared} {A : Around} {E : Value → Shared → Prop} {Q : Value → Shared → Prop} {c : Value} {b : Bool}
inductive TyOf (K : PySem.W.Frag) (H : Hp) : V → Value → Prop where
 | non : TyOf K H .non (.type "NoneType")
 | bl (x : Bool) : TyOf K H (.bl x) (.type "bool")
 | int (i : Int) : TyOf K H (.int i) (.type "int")
 | str (x : Str) : TyOf K H (.str x) (.type "str")
 | flt (x : UInt64) : TyOf K H (.flt x) (.type "float")
 | lst {a : Addr} {xs : List V} (e : H a = some (.lst xs)) : TyOf K H (.ref a) (.type "list")
 | frz {a : Addr} {o : Obj} {xs : List V} (e : H a = some (.frz o (.lst xs))) : TyOf K H (.ref a) (.type "list")
 | tup {a : Addr} {xs : List V} (e : H a = some (.tup xs)) : TyOf K H (.ref a) (.type "tuple")
 | dK {a : Addr} {kvs : List (Key × V)} (e : H a = some (.dK kvs)) : TyOf K H (.ref a) (.type "dict")
 | dT {a : Addr} {kvs : List (List Key × V)} (e : H a = some (.dT kvs)) : TyOf K H (.ref a) (.type "dict")
 | ins {a C dx : Addr} {fs : List (Str × V)} (e : H a = some (.ins C dx fs)) (cl : Cls K C) (ha : PySem.W.findIn K (.ref C) "__class__" = some (some (.builtin "object.__class__")))
   (hn : PySem.W.specialIn K (.builtin "object.__class__") "__get__" = some (some (.builtin "getset_descriptor.__get__"))) (htk : PySem.W.takesIn K (.builtin "object.__class__") = some true)
   (hm : PySem.W.mroIn K C (.type "object") = some true) : TyOf K H (.ref a) (.ref C)
theorem isinst_ok {x : V} {u t : Value} (I : Inv X pins σ H s) (rx : RelV x u) (ty : TyOf X.K H x t) (e : PySem.W.kitOne X.K t c = some b) (h : ∀ tk, Q (.bool b) { s with toks := tk }) :
  wpAny (model X.prog X.w) A (call (.builtin "isinstance") [u, c]) Q E s := by
 cases ty with
 | non => cases (show u = Value.none from rx); exact PySem.W.kia_one PySem.W.kitx_none I.kIn True.intro e (fun z => nomatch z) h
 | bl y => cases (show u = Value.bool y from rx); exact PySem.W.kia_one PySem.W.kitx_bool I.kIn True.intro e (fun z => nomatch z) h
 | int i => obtain ⟨t, q⟩ := (show ∃ t, u = Value.int i t from rx); cases q; exact PySem.W.kia_one PySem.W.kitx_int I.kIn True.intro e (fun z => nomatch z) h
 | str y => obtain ⟨t, q⟩ := (show ∃ t, u = Value.str y t from rx); cases q; exact PySem.W.kia_one PySem.W.kitx_str I.kIn True.intro e (fun z => nomatch z) h
 | flt y => obtain ⟨t, q⟩ := (show ∃ t, u = Value.float y t from rx); cases q; exact PySem.W.kia_one PySem.W.kitx_float I.kIn True.intro e (fun z => nomatch z) h
 | @lst a xs ea =>
  cases (show u = Value.ref a from rx)
  obtain ⟨_, _, n, _, h1⟩ := (show ObjOk X.prog X.w H s.heap a (.lst xs) from I.hok a _ ea)
  exact PySem.W.kia_one PySem.W.kitx_list I.kIn ⟨_, h1, rfl⟩ e (fun z => nomatch z) h
 | @frz a ob xs ea =>
  cases (show u = Value.ref a from rx)
  obtain ⟨_, _, _, n, _, h1⟩ := (show ObjOk X.prog X.w H s.heap a (.frz ob (.lst xs)) from I.hok a _ ea)
  exact PySem.W.kia_one PySem.W.kitx_list I.kIn ⟨_, h1, rfl⟩ e (fun z => nomatch z) h
 | @tup a xs ea =>
  cases (show u = Value.ref a from rx)
  obtain ⟨_, _, _, p⟩ := (show ObjOk X.prog X.w H s.heap a (.tup xs) from I.hok a _ ea)
  obtain ⟨o, h1, h2, _⟩ := p
  exact PySem.W.kia_one PySem.W.kitx_tuple I.kIn ⟨o, h1, h2⟩ e (fun z => nomatch z) h
 | @dK a kvs ea =>
  cases (show u = Value.ref a from rx)
  obtain ⟨_, _, vs, _, p⟩ := (show ObjOk X.prog X.w H s.heap a (.dK kvs) from I.hok a _ ea)
  obtain ⟨o, es, ep, h1, h2, _⟩ := p
  exact PySem.W.kia_one PySem.W.kitx_dict I.kIn ⟨o, h1, h2.1⟩ e (fun z => nomatch z) h
 | @dT a kvs ea =>
  cases (show u = Value.ref a from rx)
  obtain ⟨_, _, xs, _, o, es, ep, h1, h2, _⟩ := (show ObjOk X.prog X.w H s.heap a (.dT kvs) from I.hok a _ ea)
  exact PySem.W.kia_one PySem.W.kitx_dict I.kIn ⟨o, h1, h2.1⟩ e (fun z => nomatch z) h
 | @ins a C dx fs ea cl ha hn htk hm =>
  cases (show u = Value.ref a from rx)
  obtain ⟨mA, O, _⟩ := ins_get I.hok ea
  obtain ⟨od, J, _⟩ := O.look
  exact PySem.W.kia_one (PySem.W.kitx_own (cl.get _) cl.hd ha hn htk hm) I.kIn J e (fun z => nomatch z) h
end
end L2
namespace L2
open PySem PySem.Spec PyProof.Rows
structure Room (k : Nat) (A : Around) : Prop where
 hd : A.handled = none
 dp : A.depth + 3 * k + 5 < recursionLimit
 un : A.units + 16 * k + 200 < cLine
theorem Room.mono {j k : Nat} {A : Around} (r : Room k A) (h : j ≤ k) : Room j A := ⟨r.hd, by have := r.dp; omega, by have := r.un; omega⟩
theorem Room.deeper {k : Nat} {A : Around} (r : Room (k + 1) A) (env : Env) : Room k (A.deeper env) :=
 ⟨r.hd, by have := r.dp; show A.depth + 1 + 3 * k + 5 < _; omega, by have := r.un; show A.units + 3 + 16 * k + 200 < _; omega⟩
theorem Room.in1 {k : Nat} {A : Around} (r : Room (k + 1) A) : Room k A.in1 :=
 ⟨r.hd, by have := r.dp; show A.depth + 3 * k + 5 < _; omega, by have := r.un; show A.units + 1 + 16 * k + 200 < _; omega⟩
theorem make_depth {A : Around} {C : Addr} {us : List Value} {kw : List (Str × Value)} : (A.under (.builtin "type.__call__" ⟨.ref C :: us, kw⟩)).depth = A.depth + 1 := by
 first | rfl | simp [Around.under, Code.weight, Code.isCreation, Code.isGuard, Code.isCaller, Code.frames, Code.isFrame, guardIds]
theorem make_units {A : Around} {C : Addr} {us : List Value} {kw : List (Str × Value)} : (A.under (.builtin "type.__call__" ⟨.ref C :: us, kw⟩)).units = A.units + 1 := by
 first | rfl | simp [Around.under, Code.cUnits, Code.frames, Code.isFrame]
theorem Room.make {k : Nat} {A : Around} (r : Room (k + 1) A) (C : Addr) (us : List Value) (kw : List (Str × Value)) : Room k (A.under (.builtin "type.__call__" ⟨.ref C :: us, kw⟩)) :=
 ⟨r.hd, by have := r.dp; rw [make_depth]; omega, by have := r.un; rw [make_units]; omega⟩
theorem Room.depth {k : Nat} {A : Around} (r : Room k A) : A.depth < recursionLimit := by have := r.dp; omega
theorem Room.units {k : Nat} {A : Around} (r : Room k A) : A.units + 64 < cLine := by have := r.un; omega
theorem Room.units0 {k : Nat} {A : Around} (r : Room k A) : A.units < cLine := by have := r.un; omega
def tNil : TA := fun _ H Q => Q [] H
def tCons (ta : TE) (tr : TA) : TA := fun σ H Q => ta σ H fun x H1 => tr σ H1 fun xs H2 => Q (x :: xs) H2
section
variable {X : Cx} {e : Expr} {es : List Expr} {te : TE} {t : TA} {pos : Pos}
theorem pa_nil : PA X [] tNil := .mk fun _ _ _ _ H Q I h => Calls.spliced_nil ⟨[], H, I, .nil, h⟩
theorem pa_cons (ha : PE X e te) (hr : PA X es t) (hs : starEach (e :: es) X.env = (false, eval e X.env) :: starEach es X.env := by rfl) : PA X (e :: es) (tCons te t) := by
 refine .mk ?_
 intro pos pins s σ H Q I h
 rw [hs]
 show wpAny _ _ (spliced ((false, eval e X.env) :: backTo pos (starEach es X.env))) _ _ s
 refine Calls.spliced_cons (thn (ha pins s σ H _ I h) fun u s1 ⟨x, H1, I1, r1, q1⟩ => ?_)
 exact thn (hr pos pins s1 σ H1 _ I1 q1) fun us s2 ⟨xs, H2, I2, r2, q2⟩ => ⟨x :: xs, H2, I2, .cons r1 r2, q2⟩
def tTup (t : TA) : TE := fun σ H Q => t σ H fun xs H1 => xs.length ≤ sizeLine ∧ ∀ p, H1 p = none → Q (.ref p) (upd H1 p (.tup xs))
def tLst (t : TA) : TE := fun σ H Q => t σ H fun xs H1 => xs.length ≤ sizeLine ∧ ∀ p, H1 p = none → Q (.ref p) (upd H1 p (.lst xs))
theorem pe_tup {x1} (h : PA X es t) : PE X (.Tuple es x1 pos) (tTup t) := by
 refine .mk ?_
 intro pins s σ H Q I hq
 refine wpAny_Tuple_spliced (thn (h pos pins s σ H _ I hq) fun us s1 ⟨xs, H1, I1, r, z, q⟩ => ⟨by rw [← r.length]; exact z, ?_⟩)
 have hf : H1 s1.heap.objs.size = none := I1.hok.fresh (Nat.le_refl _)
 refine ⟨.ref s1.heap.objs.size, upd H1 s1.heap.objs.size (.tup xs), I1.laid (t' := s1.toks) (fun b u e => Heap.get?_push_of_some _ e) (Nat.le_refl _) ?_, rfl, q _ hf⟩
 exact ⟨z, us, r, ⟨_, Heap.get?_push_size _ rfl, rfl, _, rfl⟩⟩
theorem pe_lst (h : PA X es t) : PE X (.List es pos) (tLst t) := by
 refine .mk ?_
 intro pins s σ H Q I hq
 refine wpAny_List_spliced (thn (h pos pins s σ H _ I hq) fun us s1 ⟨xs, H1, I1, r, z, q⟩ => ⟨by rw [← r.length]; exact z, ?_⟩)
 have hf : H1 s1.heap.objs.size = none := I1.hok.fresh (Nat.le_refl _)
 refine ⟨.ref s1.heap.objs.size, upd H1 s1.heap.objs.size (.lst xs), I1.laid (t' := s1.toks) (fun b u e => Heap.get?_push_of_some _ e) (Nat.le_refl _) ?_, rfl, q _ hf⟩
 exact ⟨z, us, 0, r, Heap.get?_push_size _ rfl⟩
end
abbrev Sp := List V → Hp → VK → XK → Prop
abbrev CXT := List Env → Hp → Shared → XK → Value → Shared → Prop
structure Env0 (P : Program) (w : World) (K : PySem.W.Frag) (mg : Str → Option Value) (base : Heap) (A : Around) (outer : List Env) (s : Shared) (H : Hp) : Prop where
 frames : A.frames = some outer
 mod : Mod K mg base
 bs : ∀ b o, base.get? b = some o → s.heap.get? b = some o ∧ H b = none
 bsz : base.objs.size ≤ s.heap.objs.size
 funs : s.heap.FunFrames base outer
 frf : ∀ b ∈ frs outer, H b = none
 hok : HOk P w H s.heap
 bare : AllBare s.gens
def CE (outer : List Env) (P : Program) (w : World) (H : Hp) (s : Shared) (Q : VK) (u : Value) (s' : Shared) : Prop :=
 ∃ v H', s'.os = s.os ∧ AllBare s'.gens ∧ Un (frs outer) [] H H' s.heap s'.heap ∧ HOk P w H' s'.heap ∧ RelV v u ∧ Q v H'
def CR (CX : CXT) (outer : List Env) (P : Program) (w : World) (H : Hp) (s : Shared) (Q : VK) (E : XK) (r : Result) (s' : Shared) : Prop :=
 match r with
 | .ok (.ret u) => CE outer P w H s Q u s'
 | .ok _ => False
 | .error e => CX outer H s E e s'
structure FnOk (P : Program) (w : World) (K : PySem.W.Frag) (mg : Str → Option Value) (base : Heap) (CX : CXT) (k : Nat) (f : Addr) (fd : FuncData) (ps : List Str) (sp : Sp) : Prop where
 len : ∀ vs H Q E, sp vs H Q E → vs.length = ps.length
 run : ∀ (A : Around) (outer : List Env) (s : Shared) (H : Hp) (args : Args) (us : List Value) (vs : List V) (Q : VK) (E : XK), Room k A → Env0 P w K mg base A outer s H → BindsTo s fd args (ps.zip us) → Vals vs us → sp vs H Q E →
  codeAny (model P w) A (.call (.ref f) args) (CR CX outer P w H s Q E) s
theorem FnOk.mono {P : Program} {w : World} {K : PySem.W.Frag} {mg : Str → Option Value} {base : Heap} {CX : CXT} {j k : Nat} {f : Addr} {fd : FuncData} {ps : List Str} {sp : Sp} (F : FnOk P w K mg base CX j f fd ps sp) (h : j ≤ k) :
  FnOk P w K mg base CX k f fd ps sp := ⟨F.len, fun A outer s H args us vs Q E hr => F.run A outer s H args us vs Q E (hr.mono h)⟩
theorem FnOk.imp {P : Program} {w : World} {K : PySem.W.Frag} {mg : Str → Option Value} {base : Heap} {CX : CXT} {k : Nat} {f : Addr} {fd : FuncData} {ps : List Str} {sp sp' : Sp} (F : FnOk P w K mg base CX k f fd ps sp)
  (h : ∀ vs H Q E, sp' vs H Q E → sp vs H Q E) : FnOk P w K mg base CX k f fd ps sp' :=
 ⟨fun vs H Q E q => F.len vs H Q E (h _ _ _ _ q), fun A outer s H args us vs Q E hr he hb hv hs => F.run A outer s H args us vs Q E hr he hb hv (h _ _ _ _ hs)⟩
theorem Env0.make {P : Program} {w : World} {K : PySem.W.Frag} {mg : Str → Option Value} {base : Heap} {A : Around} {outer : List Env} {s : Shared} {H : Hp} (e : Env0 P w K mg base A outer s H) (C : Addr) (us : List Value) (kw : List (Str × Value)) :
  Env0 P w K mg base (A.under (.builtin "type.__call__" ⟨.ref C :: us, kw⟩)) outer s H := ⟨by first | exact e.frames | (simpa [Around.under, Code.envs, Code.isFrame, pushEnvs] using e.frames), e.mod, e.bs, e.bsz, e.funs, e.frf, e.hok, e.bare⟩
theorem Env0.in1 {P : Program} {w : World} {K : PySem.W.Frag} {mg : Str → Option Value} {base : Heap} {A : Around} {outer : List Env} {s : Shared} {H : Hp} (e : Env0 P w K mg base A outer s H) :
  Env0 P w K mg base A.in1 outer s H := ⟨e.frames, e.mod, e.bs, e.bsz, e.funs, e.frf, e.hok, e.bare⟩
section
variable {X : Cx} {pins : List (Addr × Obj)} {σ : St} {H : Hp} {s s' : Shared}
theorem Inv.env0 (I : Inv X pins σ H s) : Env0 X.prog X.w X.K X.mg X.base X.A X.stack s H :=
 ⟨I.ok.frames, I.ok.mod, I.bs, Nat.le_trans I.ok.bsz I.sz, I.stack, I.stkFree, I.hok, I.bare⟩
theorem Inv.after {Q : VK} {u : Value} (I : Inv X pins σ H s) (h : CE X.stack X.prog X.w H s Q u s') : EP X pins σ Q u s' := by
 obtain ⟨v, H', os, bare, un, hok, r, q⟩ := h
 obtain ⟨hh, g, d, t, os'⟩ := s'
 obtain rfl : os' = s.os := os
 exact ⟨v, H', I.call (h' := hh) (g' := g) (d' := d) (t' := t) (ch := []) un hok bare (fun b z => absurd z (by simp)), r, q⟩
end
def tCall (sp : Sp) (dvs : List V) (E : XK) (t : TA) : TE := fun σ H Q => t σ H fun vs H1 => sp (vs ++ dvs) H1 Q E
def Binds (K : PySem.W.Frag) (fd : FuncData) (ps : List Str) (ds : List Value) : Prop :=
 ∀ (s : Shared) (us : List Value), K.In s.heap → (us ++ ds).length = ps.length → BindsTo s fd ⟨us, []⟩ (ps.zip (us ++ ds))
theorem Binds.all {K : PySem.W.Frag} {fd : FuncData} {ps : List Str} (h : ∀ us : List Value, us.length = ps.length → bindArgs fd ⟨us, []⟩ = pure (ps.zip us)) : Binds K fd ps [] := fun s us _ hl => by
 rw [List.append_nil] at hl ⊢
 exact .of_eq (h us hl)
def Passes (CX : CXT) (X : Cx) (E : XK) : Prop := ∀ (pins : List (Addr × Obj)) (σ : St) (H : Hp) (s : Shared) (e : Value) (s' : Shared), Inv X pins σ H s → CX X.stack H s E e s' → X.xe e s'
section
variable {X : Cx} {CX : CXT} {k : Nat} {f C : Addr} {fd : FuncData} {ps : List Str} {sp : Sp} {dvs : List V} {ds : List Value} {E : XK} {x m : Str} {p pos apos : Pos} {e o : Expr} {es : List Expr} {ta : TE} {t : TA}
theorem run_fn {pins : List (Addr × Obj)} {σ : St} {H : Hp} {s : Shared} {Q : VK} {us : List Value} {vs : List V} (F : FnOk X.prog X.w X.K X.mg X.base CX k f fd ps sp) (hr : Room k X.A) (hb : Binds X.K fd ps ds) (hd : Vals dvs ds) (hx : Passes CX X E)
  (I : Inv X pins σ H s) (r : Vals vs us) (h : sp (vs ++ dvs) H Q E) : wpAny (model X.prog X.w) X.A (call (.ref f) us) (EP X pins σ Q) X.xe s := by
 have r2 : Vals (vs ++ dvs) (us ++ ds) := r.append hd
 have hl : (us ++ ds).length = ps.length := by rw [← r2.length]; exact F.len _ _ _ _ h
 refine wpAny_call (codeAny_mono (F.run X.A X.stack s H ⟨us, []⟩ (us ++ ds) (vs ++ dvs) Q E hr I.env0 (hb s us I.kIn hl) r2 h) fun r s' hq => ?_)
 cases r with
 | error e => exact hx pins σ H s e s' I hq
 | ok fl =>
  cases fl with
  | ret u => exact I.after hq
  | next => exact False.elim hq
  | brk => exact False.elim hq
  | cont => exact False.elim hq
theorem pe_call (F : FnOk X.prog X.w X.K X.mg X.base CX k f fd ps sp) (hr : Room k X.A) (hg : Gl X x) (hm : X.mg x = some (.ref f)) (hk : PySem.W.keepIn X.K (.ref f) = true) (hb : Binds X.K fd ps ds) (hd : Vals dvs ds) (hx : Passes CX X E)
  (ha : PA X (e :: es) t) (hdb : (x == ("__debug__" : Str)) = false := by decide) (he : starEach (e :: es) X.env = (false, eval e X.env) :: starEach es X.env := by rfl) (hpl : (backTo pos (starEach es X.env)).any (·.1) = false := by rfl) :
  PE X (.Call (.Name x p) (e :: es) [] pos) (tCall sp dvs E t) := by
 refine .mk ?_
 intro pins s σ H Q I h
 refine wpAny_Call_Name_kw (ld_glob I hg hm ?_ hdb)
 refine PySem.W.callWith_K (h₀ := X.base) I.ok.mod.kin hk (thn (ha pos pins s σ H _ I h) fun us s1 ⟨vs, H1, I1, r, q⟩ => ⟨I1.kIn, ?_⟩) he hpl
 exact run_fn F hr hb hd hx I1 r q
theorem pe_call0 (F : FnOk X.prog X.w X.K X.mg X.base CX k f fd ps sp) (hr : Room k X.A) (hg : Gl X x) (hm : X.mg x = some (.ref f)) (hk : PySem.W.keepIn X.K (.ref f) = true) (hb : Binds X.K fd ps ds) (hd : Vals dvs ds) (hx : Passes CX X E)
  (hdb : (x == ("__debug__" : Str)) = false := by decide) : PE X (.Call (.Name x p) [] [] pos) (tCall sp dvs E tNil) := by
 refine .mk ?_
 intro pins s σ H Q I h
 refine wpAny_Call_Name_kw (ld_glob I hg hm ?_ hdb)
 exact PySem.W.callWith_K0 I.kIn hk (run_fn (us := []) F hr hb hd hx I .nil h)
end
structure PK (X : Cx) (kws : List Keyword) (t : TA) : Prop where
 run : ∀ (pos : Pos) (pins : List (Addr × Obj)) (s : Shared) (σ : St) (H : Hp) (Q : List V → Hp → Prop), Inv X pins σ H s → t σ H Q → wpAny (model X.prog X.w) X.A (evalAll ((backToKw pos (keywordEach kws X.env)).map (·.2))) (AP X pins σ Q) X.xe s
instance {X : Cx} {kws : List Keyword} {t : TA} : CoeFun (PK X kws t) fun _ => ∀ (pos : Pos) (pins : List (Addr × Obj)) (s : Shared) (σ : St) (H : Hp) (Q : List V → Hp → Prop), Inv X pins σ H s → t σ H Q → wpAny (model X.prog X.w) X.A (evalAll ((backToKw pos (keywordEach kws X.env)).map (·.2))) (AP X pins σ Q) X.xe s := ⟨PK.run⟩
section
variable {X : Cx} {CX : CXT} {k : Nat} {f C : Addr} {fd : FuncData} {ps ks : List Str} {sp : Sp} {E : XK} {x m : Str} {p pos apos kpos : Pos} {e o : Expr} {es : List Expr} {kws : List Keyword} {te ta : TE} {t tk : TA} {nm : Option Str}
variable {g : List Value → List Value → List Value} {gV : List V → List V → List V}
end
structure FnScope (N P : List Str) (sc : Scope) : Prop where
 kind : sc.kind = .function
 co : sc.isCoroutine = false
 gen : sc.isGenerator = false
 nd : N.Nodup
 pre : N.take P.length = P
 par : ∀ x ∈ P, sc.names.lookup x = some .local ∨ sc.names.lookup x = some .cell
 nofree : ∀ y ∈ sc.names, y.2 ≠ .free
theorem bindL_out {kindOf : Str → Option NameKind} {x : Str} : ∀ {binds : List (Str × Value)} {m : Str → Option Value}, (∀ v, (x, v) ∉ binds) → bindL kindOf binds m x = m x
 | [], _, _ => rfl
 | (n, v) :: r, m, h => by
  unfold bindL
  rw [bindL_out fun w hw => h w (List.mem_cons_of_mem _ hw)]
  split
  ·have : x ≠ n := by rintro rfl; exact h v List.mem_cons_self
   simp [this]
  ·rfl
theorem bindC_out {kindOf : Str → Option NameKind} {x : Str} : ∀ {binds : List (Str × Value)} {m : Str → Option Value}, (∀ v, (x, v) ∉ binds) → bindC kindOf binds m x = m x
 | [], _, _ => rfl
 | (n, v) :: r, m, h => by
  unfold bindC
  rw [bindC_out fun w hw => h w (List.mem_cons_of_mem _ hw)]
  split
  ·rfl
  ·have : x ≠ n := by rintro rfl; exact h v List.mem_cons_self
   simp [this]
theorem bindL_get {kindOf : Str → Option NameKind} {x : Str} {v : Value} : ∀ {P : List Str} {vs : List Value} {i : Nat} {m : Str → Option Value}, P.Nodup → P[i]? = some x → vs[i]? = some v → kindOf x = some .local →
  bindL kindOf (P.zip vs) m x = some v
 | [], _, _, _, _, h, _, _ => by simp at h
 | _ :: _, [], _, _, _, _, h, _ => by simp at h
 | p :: P, w :: vs, 0, m, nd, h1, h2, hk => by
  simp at h1 h2; subst h1; subst h2
  show bindL kindOf ((p, w) :: P.zip vs) m p = _
  unfold bindL
  rw [bindL_out fun v hv => (List.nodup_cons.mp nd).1 (List.of_mem_zip hv).1, if_pos hk]
  simp
 | p :: P, w :: vs, i + 1, m, nd, h1, h2, hk => by
  show bindL kindOf ((p, w) :: P.zip vs) m x = _
  unfold bindL
  exact bindL_get (i := i) (List.nodup_cons.mp nd).2 (by simpa using h1) (by simpa using h2) hk
theorem bindC_get {kindOf : Str → Option NameKind} {x : Str} {v : Value} : ∀ {P : List Str} {vs : List Value} {i : Nat} {m : Str → Option Value}, P.Nodup → P[i]? = some x → vs[i]? = some v → kindOf x ≠ some .local →
  bindC kindOf (P.zip vs) m x = some v
 | [], _, _, _, _, h, _, _ => by simp at h
 | _ :: _, [], _, _, _, _, h, _ => by simp at h
 | p :: P, w :: vs, 0, m, nd, h1, h2, hk => by
  simp at h1 h2; subst h1; subst h2
  show bindC kindOf ((p, w) :: P.zip vs) m p = _
  unfold bindC
  rw [bindC_out fun v hv => (List.nodup_cons.mp nd).1 (List.of_mem_zip hv).1, if_neg hk]
  simp
 | p :: P, w :: vs, i + 1, m, nd, h1, h2, hk => by
  show bindC kindOf ((p, w) :: P.zip vs) m x = _
  unfold bindC
  exact bindC_get (i := i) (List.nodup_cons.mp nd).2 (by simpa using h1) (by simpa using h2) hk
def start (N : List Str) (vs : List V) : St := vs.map some ++ List.replicate (N.length - vs.length) none
def cxOf (CX : CXT) (P : Program) (w : World) (K : PySem.W.Frag) (mg : Str → Option Value) (base : Heap) (N : List Str) (qual : Str) (scope : Scope) (f : Addr) (cd : Value) (A : Around) (outer : List Env) (s : Shared) (H : Hp) (E : XK) : Cx where
 prog := P
 w := w
 K := K
 mg := mg
 base := base
 A := A.deeper (envOfC qual scope s.heap.objs.size f cd)
 N := N
 s₀ := s
 H₀ := H
 env := envOfC qual scope s.heap.objs.size f cd
 outer := outer
 stack := envOfC qual scope s.heap.objs.size f cd :: outer
 ex := []
 calm := true
 fn := fun _ => true
 pn := []
 xe := fun e s' => wpAny (model P w) (A.deeper (envOfC qual scope s.heap.objs.size f cd)) (leaving (envOfC qual scope s.heap.objs.size f cd) e) (fun _ s'' => CX outer H s E e s'') (fun e' s'' => CX outer H s E e' s'') s'
theorem cell_has {sc : Scope} {n : Nat} {x : Str} (h : sc.names.lookup x = some .cell) : ∃ c, (cellsFrom n sc.names []).lookup x = some c := by
 have q := PySem.W.cellsFrom_some sc.names n [] (.inl h)
 exact Option.isSome_iff_exists.mp q
theorem inv_start {CX : CXT} {P : Program} {w : World} {K : PySem.W.Frag} {mg : Str → Option Value} {base : Heap} {N ps : List Str} {qual : Str} {scope : Scope} {f : Addr} {cd : Value} {A : Around} {outer : List Env} {s s1 : Shared} {H : Hp} {E : XK} {us : List Value} {vs : List V}
  (S : FnScope N ps scope) (hd : A.handled = none) (e0 : Env0 P w K mg base A outer s H) (hl : vs.length = ps.length) (r : Vals vs us)
  (x : InCallC s s.heap.objs.size (bindL (envOfC qual scope s.heap.objs.size f cd).kindOf (ps.zip us) fun _ => none) (cellsFrom (s.heap.objs.size + 1) scope.names []) (bindC (envOfC qual scope s.heap.objs.size f cd).kindOf (ps.zip us) fun _ => none) s1) :
  Inv (cxOf CX P w K mg base N qual scope f cd A outer s H E) [] (start N vs) H s1 := by
 have hpl : ps.length ≤ N.length := by have := congrArg List.length S.pre; rw [List.length_take] at this; omega
 obtain ⟨h1, tk, rfl, hk⟩ := x.done
 have noA : ∀ b : Addr, b ∉ (cxOf CX P w K mg base N qual scope f cd A outer s H E).ex := fun b z => absurd (show b ∈ ([] : List Addr) from z) (by simp)
 refine ⟨⟨e0.mod, S.kind, rfl, rfl, Nat.le_refl _, fun y z c h1 h2 => ?_, fun y hy => ?_, fun y c _ h => ?_, fun _ => hd, Around.frames_deeper e0.frames, .inr ⟨rfl, rfl⟩, fun b z => absurd z (noA b), e0.bs, e0.bsz, fun b _ _ => noA b, fun b z => absurd z (noA b), e0.funs, e0.frf⟩,
  rfl, e0.bare, Un.kept hk, ⟨_, x.toInCall.ns, fun i y v h1 h2 h3 => ?_⟩, fun y c h => ⟨_, x.cell y c h⟩, e0.hok.fresh (Nat.le_refl _), fun y c h => ?_, fun p hp => absurd (show p ∈ ([] : List (Addr × Obj)) from hp) (by simp), e0.hok.kept hk, ?_⟩
 ·exact name_of_addr x.apart (PySem.mem_of_lookup h1) (PySem.mem_of_lookup h2)
 ·have hy : scope.names.lookup y = some .cell ∨ scope.names.lookup y = some .free := hy
  rcases hy with hy | hy
  ·exact cell_has hy
  ·exact absurd rfl (S.nofree _ (PySem.mem_of_lookup hy))
 ·exact Nat.le_of_lt (x.above y c (PySem.mem_of_lookup h))
 ·have hi : i < vs.length := by
   unfold start at h2
   by_cases hi : i < vs.length
   ·exact hi
   ·rw [List.getElem?_append_right (by simpa using hi)] at h2
    rw [List.getElem?_replicate] at h2
    split at h2 <;> cases h2
  have ha : vs[i]? = some v := by
   unfold start at h2
   rw [List.getElem?_append_left (by simpa using hi), List.getElem?_map] at h2
   cases e : vs[i]? with
   | none => rw [e] at h2; cases h2
   | some a => rw [e] at h2; cases h2; rfl
  obtain ⟨u, hu, rv⟩ := r.get ha
  have hp : ps[i]? = some y := by
   rw [← S.pre, List.getElem?_take_of_lt (by omega)]; exact h1
  have ndP : ps.Nodup := by rw [← S.pre]; exact S.nd.sublist (List.take_sublist _ _)
  refine ⟨u, rv, ?_⟩
  rcases S.par y (List.mem_of_getElem? hp) with k | k
  ·exact .inl ⟨k, bindL_get ndP hp hu k⟩
  ·obtain ⟨c, e⟩ := cell_has (n := s.heap.objs.size + 1) k
   refine .inr ⟨.inl k, c, e, ?_⟩
   have q := x.cell y c e
   rw [bindC_get ndP hp hu (by show scope.names.lookup y ≠ _; rw [k]; decide)] at q
   exact q
 ·exact e0.hok.fresh (Nat.le_of_lt (x.above y c (PySem.mem_of_lookup h)))
 ·unfold start
  show _ = N.length
  rw [List.length_append, List.length_map, List.length_replicate]
  omega
theorem fn_of {CX : CXT} {P : Program} {w : World} {K : PySem.W.Frag} {mg : Str → Option Value} {base : Heap} {k : Nat} {f : Addr} {name qual : Str} {params : Arguments} {body : List Stmt} {scope : Scope} {dV kV doc pm cdv ct oc : Value} {an od : Option Addr}
  {osl : Array (Option Value)} {N ps : List Str} {sp : Sp} (lk : K.lookup f = some ⟨oc, od, .func (PySem.W.fnOf name qual params body scope dV kV doc pm an cdv ct), osl⟩) (hcd : PySem.W.codeIn K cdv qual = true) (S : FnScope N ps scope)
  (len : ∀ vs H Q E, sp vs H Q E → vs.length = ps.length)
  (hbody : ∀ (A : Around) (outer : List Env) (s : Shared) (H : Hp) (vs : List V) (Q : VK) (E : XK), Room k (A.deeper (envOfC qual scope s.heap.objs.size f cdv)) → sp vs H Q E →
   ∃ t, PSs (cxOf CX P w K mg base N qual scope f cdv A outer s H E) body t ∧ t { nx := fun _ H' => Q .non H', rt := Q } (start N vs) H) :
  FnOk P w K mg base CX (k + 1) f (PySem.W.fnOf name qual params body scope dV kV doc pm an cdv ct) ps sp := by
 refine ⟨len, fun A outer s H args us vs Q E hr e0 hb r hsp => ?_⟩
 have hl := len _ _ _ _ hsp
 have KX : K.In s.heap := e0.mod.kin.keeps fun b o e => (e0.bs b o e).1
 have lim : s.heap.NoLimit := e0.mod.nolimit.keeps fun b o e => (e0.bs b o e).1
 have hkind : ∀ y ∈ ps.zip us, scope.names.lookup y.1 = some .local ∨ (scope.names.lookup y.1 = some .cell ∧ ((cellsFrom (s.heap.objs.size + 1) scope.names []).lookup y.1).isSome = true) := fun ⟨n, v⟩ hy => by
  rcases S.par n (List.of_mem_zip hy).1 with q | q
  ·exact .inl q
  ·exact .inr ⟨q, PySem.W.cellsFrom_some _ _ _ (.inl q)⟩
 refine codeAny_call_function hr.depth (KX _ _ lk) rfl S.co S.gen rfl (PySem.W.codeRec_of KX hcd) (hb _ _ _ _ ?_)
 refine wpAny_newFunctionEnv_cells S.kind hkind fun env he s1 x => ?_
 subst he
 refine ⟨lim.keeps x.toInCall.keep, codeAny_func ?_⟩
 obtain ⟨t, ht, hq⟩ := hbody A outer s H vs Q E (hr.deeper _) hsp
 have I : Inv (cxOf CX P w K mg base N qual scope f cdv A outer s H E) [] (start N vs) H s1 := inv_start S hr.hd e0 hl r x
 refine wpAny_mono (ht [] s1 (start N vs) H _ I hq) (fun fl s' hs => ?_) fun e s' hs => hs
 have fin : ∀ {σ' : St} {H' : Hp} {v : V} {u : Value}, Inv (cxOf CX P w K mg base N qual scope f cdv A outer s H E) [] σ' H' s' → RelV v u → Q v H' → CE outer P w H s Q u s' :=
  fun {σ' H' v u} J rv q => ⟨v, H', J.os, J.bare, J.base, J.hok, rv, q⟩
 cases fl with
 | ret u =>
  obtain ⟨v, σ', H', J, rv, q⟩ := hs
  exact fin J rv q
 | next =>
  obtain ⟨σ', H', J, q⟩ := hs
  exact fin (v := V.non) (u := Value.none) J rfl q
 | brk =>
  obtain ⟨_, _, _, q⟩ := hs
  exact False.elim q
 | cont =>
  obtain ⟨_, _, _, q⟩ := hs
  exact False.elim q
end L2
namespace L2
open PySem PySem.Spec PyProof.Rows
section
variable {X : Cx} {x : Str} {p pos : Pos} {e : Expr} {es : List Expr} {t : TA} {id T : String} {r : List V → Hp → VK → Prop}
def tCB (r : List V → Hp → VK → Prop) (t : TA) : TE := fun σ H Q => t σ H fun vs H1 => r vs H1 Q
theorem pe_callB (hc : CallR X (.builtin id) r) (hg : Gl X x) (hm : X.mg x = none) (hv : bootBuiltins x = some (.builtin id)) (ha : PA X (e :: es) t) (hn : x ≠ "__name__" := by decide) (hdb : (x == ("__debug__" : Str)) = false := by decide)
  (he : starEach (e :: es) X.env = (false, eval e X.env) :: starEach es X.env := by rfl) (hpl : (backTo pos (starEach es X.env)).any (·.1) = false := by rfl) : PE X (.Call (.Name x p) (e :: es) [] pos) (tCB r t) := by
 refine .mk ?_
 intro pins s σ H Q I h
 refine wpAny_Call_Name_kw (ld_blt I hg hm hv ?_ hn hdb)
 exact PyProof.Rows.callWith_builtin1 (thn (ha pos pins s σ H _ I h) fun us s1 ⟨vs, H1, I1, r1, q1⟩ => hc pins s1 σ H1 vs us Q I1 r1 q1) he hpl
theorem pe_callTy (hc : CallR X (.type T) r) (hg : Gl X x) (hm : X.mg x = none) (hv : bootBuiltins x = some (.type T)) (ha : PA X (e :: es) t) (hn : x ≠ "__name__" := by decide) (hdb : (x == ("__debug__" : Str)) = false := by decide)
  (he : starEach (e :: es) X.env = (false, eval e X.env) :: starEach es X.env := by rfl) (hpl : (backTo pos (starEach es X.env)).any (·.1) = false := by rfl) : PE X (.Call (.Name x p) (e :: es) [] pos) (tCB r t) := by
 refine .mk ?_
 intro pins s σ H Q I h
 refine wpAny_Call_Name_kw (ld_blt I hg hm hv ?_ hn hdb)
 exact PyProof.Rows.callWith_type1 (thn (ha pos pins s σ H _ I h) fun us s1 ⟨vs, H1, I1, r1, q1⟩ => hc pins s1 σ H1 vs us Q I1 r1 q1) he hpl
end
end L2
namespace HT
open PySem PyProof.Rows
section
open PySem.SeqAt
open PySem.AutoSeq1 (wpAny_loadPart')
open PySem.MeetsSeq PySem.MeetsSeq2 PySem.MeetsSeq3
end
section
variable {prog : Program} {w : World} {A : Around} {E : Value → Shared → Prop} {s : Shared}
theorem cat_tup {t b : Addr} {vs ws : List Value} {Q : Value → Shared → Prop} (ht : IsTup s.heap t vs.toArray) (hb : IsTup s.heap b ws.toArray) (hv : vs ≠ [])
  (h1 : ws = [] → Q (.ref t) s) (h2 : ws ≠ [] → Q (.ref s.heap.objs.size) { s with heap := s.heap.push { cls := .type "tuple", data := .seq (vs ++ ws).toArray } })
  (hsz : vs.length + ws.length ≤ sizeLine) : wpAny (model prog w) A (binaryOp .Add (.ref t) (.ref b)) Q E s := by
 obtain ⟨⟨cls, dd, data, sl⟩, ho, hc, n, hd⟩ := id ht
 obtain ⟨⟨cls2, dd2, data2, sl2⟩, ho2, hc2, n2, hd2⟩ := id hb
 simp only at hc hd hc2 hd2
 subst hc hd hc2 hd2
 have e : vs.toArray ++ ws.toArray = (vs ++ ws).toArray := by simp
 by_cases hw : ws = []
 ·exact concat_meets ⟨_, ho, rfl⟩ ⟨_, ho2, rfl⟩ noFill_tuple_add seq_tuple_add PySem.F.slot_tuple_add PySem.F.entry_tuple_add (PySem.F.args_tuple_add_2 _ _)
   (tuple_addW1 t b vs.toArray ws.toArray n n2 dd dd2 sl sl2 (by simpa using hv) (by simp [hw])) ⟨ho, ho2, h1 hw⟩
 ·refine concat_meets ⟨_, ho, rfl⟩ ⟨_, ho2, rfl⟩ noFill_tuple_add seq_tuple_add PySem.F.slot_tuple_add PySem.F.entry_tuple_add (PySem.F.args_tuple_add_2 _ _)
   (tuple_addW2 t b vs.toArray ws.toArray n n2 dd dd2 sl sl2 (by simpa using hv) (by simpa using hw) (by rw [List.size_toArray, List.size_toArray]; exact hsz)) ⟨ho, ho2, ?_⟩
  rw [e]
  exact h2 hw
def sIx (n d : Nat) : Option Int → Nat
 | none => d
 | some v => if v < 0 then (v + (n : Int)).toNat else min v.toNat n
theorem sIx_le (n d : Nat) (hd : d ≤ n) (o : Option Int) : sIx n d o ≤ n := by
 cases o with
 | none => exact hd
 | some v =>
  show (if v < 0 then (v + (n : Int)).toNat else min v.toNat n) ≤ n
  by_cases hv : v < 0
  ·rw [if_pos hv]; omega
  ·rw [if_neg hv]; exact Nat.min_le_right _ _
theorem clip_eq (v : Int) (n d : Nat) : (if v < 0 then max (v + (n : Int)) 0 else min v (n : Int)) = ((sIx n d (some v) : Nat) : Int) := by
 show (if v < 0 then max (v + (n : Int)) 0 else min v (n : Int)) = (((if v < 0 then (v + (n : Int)).toNat else min v.toNat n) : Nat) : Int)
 by_cases hv : v < 0
 ·simp only [if_pos hv]; omega
 ·simp only [if_neg hv]; omega
theorem adjust_gen (lo hi : Option Int) (n : Nat) : Builtin.Slice.sliceAdjust lo hi 1 (n : Int) = (((sIx n 0 lo : Nat) : Int), ((sIx n n hi : Nat) : Int)) := by
 have h1 : ¬ ((1 : Int) < 0) := by omega
 unfold Builtin.Slice.sliceAdjust
 simp only [h1, if_false]
 refine Prod.ext ?_ ?_
 ·cases lo with
  | none => rfl
  | some v => exact clip_eq v n 0
 ·cases hi with
  | none => rfl
  | some v => exact clip_eq v n n
theorem places_gen (i j : Nat) : Builtin.Slice.slicePlaces (i : Int) (j : Int) 1 = j - i := by
 unfold Builtin.Slice.slicePlaces
 have h1 : (1 : Int) > 0 := by omega
 simp only [h1, if_true, Int.ediv_one]
 split <;> omega
theorem slicePart_ {v : Value} {o : Option Int} {Q : Option Int → Shared → Prop} (p : IsPart v o) (h : Q o s) : wpAny (model prog w) A (Builtin.Slice.slicePartIndex v) Q E s := by
 cases p with
 | none => exact slicePart_none h
 | int i t => exact slicePart_int h
theorem sliceApplied_gen {sl : Addr} {vl vu : Value} {lo hi : Option Int} {n : Nat} {Q : Int × Int × Nat → Shared → Prop} (hs : s.heap.IsSliceOf sl vl vu .none) (pl : IsPart vl lo) (pu : IsPart vu hi)
  (h : Q (((sIx n 0 lo : Nat) : Int), 1, sIx n n hi - sIx n 0 lo) s) : wpAny (model prog w) A (Builtin.Slice.sliceApplied (.ref sl) (pure (n : Int))) Q E s := by
 obtain ⟨os, hos, hcs, hds⟩ := id hs
 unfold Builtin.Slice.sliceApplied Builtin.Slice.sliceFields
 refine wpAny_bind (wpAny_bind (wpAny_field hos hds (x := vl) rfl (wpAny_bind (wpAny_field hos hds (x := vu) rfl (wpAny_bind (wpAny_field hos hds (x := .none) rfl (wpAny_pure ?_)))))))
 refine wpAny_bind (slicePart_none ?_)
 show wpAny _ _ (if ((1 : Int) == 0) = true then _ else _) _ _ s
 rw [if_neg (by decide)]
 refine wpAny_bind (slicePart_ pl (wpAny_bind (slicePart_ pu (wpAny_bind (wpAny_pure ?_)))))
 show wpAny _ _ (match Builtin.Slice.sliceAdjust lo hi 1 (n : Int) with | (lo, hi) => pure (lo, (1 : Int), Builtin.Slice.slicePlaces lo hi 1)) _ _ s
 rw [adjust_gen lo hi n]
 show wpAny _ _ (pure (((sIx n 0 lo : Nat) : Int), (1 : Int), Builtin.Slice.slicePlaces ((sIx n 0 lo : Nat) : Int) ((sIx n n hi : Nat) : Int) 1)) _ _ s
 rw [places_gen]
 exact wpAny_pure h
theorem pick_gen (xs : Array Value) (i k : Nat) : ((List.range k).filterMap fun (m : Nat) => xs[((i : Int) + (m : Int) * 1).toNat]?).toArray = ((xs.toList.drop i).take k).toArray := by
 have e : (fun (m : Nat) => xs[((i : Int) + (m : Int) * 1).toNat]?) = fun m => xs[i + m]? := by
  funext m
  have : ((i : Int) + (m : Int) * 1).toNat = i + m := by omega
  rw [this]
 rw [e]
 have := pick_run xs i k
 rw [List.filterMap_map] at this
 have e2 : ((fun x => xs[x]?) ∘ fun x => i + x) = fun m => xs[i + m]? := rfl
 rw [e2] at this
 rw [this]
theorem getItem_tuple_cut {t sl : Addr} {items : Array Value} {vl vu : Value} {lo hi : Option Int} {Q : Value → Shared → Prop} (ht : IsTup s.heap t items) (hs : s.heap.IsSliceOf sl vl vu .none) (pl : IsPart vl lo) (pu : IsPart vu hi)
  (hw : ¬ (sIx items.size 0 lo = 0 ∧ sIx items.size items.size hi = items.size))
  (h : Q (.ref s.heap.objs.size) { s with heap := s.heap.push { cls := .type "tuple", data := .seq ((items.toList.drop (sIx items.size 0 lo)).take (sIx items.size items.size hi - sIx items.size 0 lo)).toArray } })
  (hsz : items.size ≤ sizeLine) : wpAny (model prog w) A (getItem (.ref t) (.ref sl)) Q E s := by
 have htake : sizeOk (.seq ((items.toList.drop (sIx items.size 0 lo)).take (sIx items.size items.size hi - sIx items.size 0 lo)).toArray) := by
  show ((items.toList.drop (sIx items.size 0 lo)).take (sIx items.size items.size hi - sIx items.size 0 lo)).toArray.size ≤ sizeLine
  rw [List.size_toArray, List.length_take, List.length_drop, Array.length_toList]
  omega
 have hj : sIx items.size items.size hi ≤ items.size := sIx_le _ _ (Nat.le_refl _) hi
 obtain ⟨os, hos, hcs, hds⟩ := id hs
 have hTs : s.TypeIs (.ref sl) "slice" := ⟨os, hos, hcs⟩
 unfold getItem
 try with_reducible refine wpAny_holding ?_
 first | refine wpAny_bind (wpAny_pure ?_) | skip
 refine wpAny_bind (wpAny_sequenceKey ht.typeIs (by decide) ?_)
 refine wpAny_bind (wpAny_callSpecial?_slot (name := Str.ofString "__getitem__") ht.typeIs PyProof.Rows.slot_tuple_getitem
  (wpAny_call_entry PyProof.Rows.slot_tuple_getitem ht.typeIs entry_tuple_getitem ?_ (args_tuple_getitem _ _)))
 show wpAny _ _ (Builtin.Tuple.tupleItemsOf (.ref t) >>= _) _ _ s
 refine wpAny_bind (tupleItemsOf_ ht ?_)
 refine wpAny_bind (wpAny_typeOf hTs ?_)
 rw [if_pos (by decide)]
 refine wpAny_bind (sliceApplied_gen hs pl pu ?_)
 have hno : ¬ ((((sIx items.size 0 lo : Nat) : Int) == 0 && (1 : Int) == 1 && (sIx items.size items.size hi - sIx items.size 0 lo) == items.size) = true) := by
  intro q
  rw [Bool.and_eq_true, Bool.and_eq_true] at q
  have q1 : ((sIx items.size 0 lo : Nat) : Int) = 0 := eq_of_beq q.1.1
  have q2 : sIx items.size items.size hi - sIx items.size 0 lo = items.size := eq_of_beq q.2
  exact hw ⟨by omega, by omega⟩
 show wpAny _ _ (if (((sIx items.size 0 lo : Nat) : Int) == 0 && (1 : Int) == 1 && (sIx items.size items.size hi - sIx items.size 0 lo) == items.size) = true then _ else _) _ _ s
 rw [if_neg hno, pick_gen]
 first
  | exact wpAny_bind (m := Builtin.Tuple.tupleExact _) (wpAny_newObj_type (wpAny_pure ⟨_, rfl, wpAny_pure h⟩) htake)
  | exact wpAny_bind (m := Builtin.Tuple.tupleExact _) (wpAny_newObj_type (wpAny_bind (wpAny_pure (wpAny_pure ⟨_, rfl, wpAny_pure h⟩))) htake)
  | exact wpAny_bind (wpAny_bind (m := Builtin.Tuple.tupleExact _) (wpAny_newObj_type (wpAny_pure (wpAny_pure ⟨_, rfl, wpAny_pure h⟩)) htake))
  | exact wpAny_bind (wpAny_bind (m := Builtin.Tuple.tupleExact _) (wpAny_newObj_type (wpAny_pure ⟨_, rfl, wpAny_pure h⟩) htake))
end
end HT
namespace L2
open PySem PySem.Spec PyProof.Rows
abbrev TO := St → Hp → (Option Int → Hp → Prop) → Prop
structure PO (X : Cx) (e : Option Expr) (t : TO) : Prop where
 run : ∀ (pins : List (Addr × Obj)) (s : Shared) (σ : St) (H : Hp) (Q : Option Int → Hp → Prop), Inv X pins σ H s → t σ H Q →
  wpAny (model X.prog X.w) X.A (evalPart e X.env) (fun u s' => ∃ o H', Inv X pins σ H' s' ∧ IsPart u o ∧ Q o H') X.xe s
instance {X : Cx} {e : Option Expr} {t : TO} : CoeFun (PO X e t) fun _ => ∀ (pins : List (Addr × Obj)) (s : Shared) (σ : St) (H : Hp) (Q : Option Int → Hp → Prop), Inv X pins σ H s → t σ H Q → wpAny (model X.prog X.w) X.A (evalPart e X.env) (fun u s' => ∃ o H', Inv X pins σ H' s' ∧ IsPart u o ∧ Q o H') X.xe s := ⟨PO.run⟩
def tNoPart : TO := fun _ H Q => Q none H
def tPart (t : TE) : TO := fun σ H Q => t σ H fun x H1 => ∃ i, x = .int i ∧ Q (some i) H1
section
variable {X : Cx} {e : Expr} {te : TE} {lo hi : Option Expr} {tl th : TO} {pos p2 : Pos}
theorem po_none : PO X none tNoPart := by
 refine .mk ?_
 intro pins s σ H Q I h
 rw [evalPart_none]
 exact wpAny_pure ⟨none, H, I, .none, h⟩
theorem po_some (h : PE X e te) : PO X (some e) (tPart te) := by
 refine .mk ?_
 intro pins s σ H Q I hw
 rw [evalPart_some]
 refine thn (h pins s σ H _ I hw) fun u s1 ⟨x, H1, I1, r1, q1⟩ => ?_
 obtain ⟨i, rfl, q⟩ := q1
 obtain ⟨t, rfl⟩ := r1
 exact ⟨some i, H1, I1, .int i t, q⟩
def SlR (X : Cx) (r : V → Option Int → Option Int → Hp → VK → Prop) : Prop :=
 ∀ (pins : List (Addr × Obj)) (s : Shared) (σ : St) (H : Hp) (x : V) (v vl vu : Value) (lo hi : Option Int) (sl : Addr) (Q : VK), Inv X pins σ H s → RelV x v → s.heap.IsSliceOf sl vl vu .none → IsPart vl lo → IsPart vu hi → r x lo hi H Q →
  ∃ T id, typeLookup (.type T) "__getitem__" = pure (some (.builtin id)) ∧ s.TypeIs v T ∧ wpAny (model X.prog X.w) X.A (getItem v (.ref sl)) (EP X pins σ Q) X.xe s
theorem SlR.or {r r' : V → Option Int → Option Int → Hp → VK → Prop} (h : SlR X r) (h' : SlR X r') : SlR X (fun x lo hi H Q => r x lo hi H Q ∨ r' x lo hi H Q) := by
 intro pins s σ H x v vl vu lo hi sl Q I rx hs pl pu q
 rcases q with q | q
 ·exact h pins s σ H x v vl vu lo hi sl Q I rx hs pl pu q
 ·exact h' pins s σ H x v vl vu lo hi sl Q I rx hs pl pu q
def tSl (r : V → Option Int → Option Int → Hp → VK → Prop) (te : TE) (tl th : TO) : TE := fun σ H Q => te σ H fun x H1 => tl σ H1 fun l H2 => th σ H2 fun u H3 => r x l u H3 Q
theorem pe_slice {r : V → Option Int → Option Int → Hp → VK → Prop} (hr : SlR X r) (he : PE X e te) (hl : PO X lo tl) (hu : PO X hi th) : PE X (.Subscript e (.Slice lo hi none p2) pos) (tSl r te tl th) := by
 refine .mk ?_
 intro pins s σ H Q I h
 refine Subscript_ (thn (he pins s σ H _ I h) fun v s1 ⟨x, H1, I1, r1, q1⟩ => ?_)
 refine wpAny_Slice (thn (hl pins s1 σ H1 _ I1 q1) fun vl s2 ⟨l, H2, I2, pl, q2⟩ => thn (hu pins s2 σ H2 _ I2 q2) fun vu s3 ⟨u, H3, I3, pu, q3⟩ => ?_)
 rw [evalPart_none]
 refine wpAny_pure ?_
 have I4 : Inv X pins σ H3 { s3 with heap := s3.heap.push { cls := .type "slice", data := .fields #[vl, vu, .none] } } := I3.kept (t' := s3.toks) fun b ob q => Heap.get?_push_of_some _ q
 obtain ⟨T, id, hT, ht, hg⟩ := hr pins { s3 with heap := s3.heap.push { cls := .type "slice", data := .fields #[vl, vu, .none] } } σ H3 x v vl vu l u s3.heap.objs.size Q I4 r1 (Heap.IsSliceOf.new ..) pl pu q3
 show wpAny (model X.prog X.w) X.A (subscriptTail e (.Slice lo hi none p2) v (.ref s3.heap.objs.size)) (EP X pins σ Q) X.xe { s3 with heap := s3.heap.push { cls := .type "slice", data := .fields #[vl, vu, .none] } }
 exact tail_any (ops := [.ref s3.heap.objs.size, v]) ht hT hg (by with_unfolding_all rfl)
def cutV (xs : List V) (lo hi : Option Int) : List V := (xs.drop (HT.sIx xs.length 0 lo)).take (HT.sIx xs.length xs.length hi - HT.sIx xs.length 0 lo)
theorem cutV_length (xs : List V) (lo hi : Option Int) : (cutV xs lo hi).length ≤ xs.length := by
 unfold cutV
 rw [List.length_take, List.length_drop]
 omega
def rSlT (K : PySem.W.Frag) : V → Option Int → Option Int → Hp → VK → Prop := fun x lo hi H Q => ∃ a xs, x = .ref a ∧ SqT K H a xs ∧
 ¬ (HT.sIx xs.length 0 lo = 0 ∧ HT.sIx xs.length xs.length hi = xs.length) ∧ ∀ p, H p = none → Q (.ref p) (upd H p (.tup (cutV xs lo hi)))
theorem sl_tup : SlR X (rSlT X.K) := by
 intro pins s σ H x v vl vu lo hi sl Q I rx hs pl pu h
 obtain ⟨a, xs, rfl, hx, hw, q⟩ := h
 cases rx
 obtain ⟨its, r, ht, hz⟩ := I.tuple hx
 have hlen : its.toArray.size = xs.length := by rw [List.size_toArray]; exact r.length.symm
 refine ⟨"tuple", _, PyProof.Rows.slot_tuple_getitem.lookup, ht.typeIs, ?_⟩
 refine HT.getItem_tuple_cut ht hs pl pu (by rw [hlen]; exact hw) ?_ (by rw [hlen]; exact hz)
 rw [hlen]
 refine ⟨.ref s.heap.objs.size, _, I.laid (t' := s.toks) (o := .tup (cutV xs lo hi)) (fun b ob q => Heap.get?_push_of_some _ q) (Nat.le_refl _) ?_, rfl, q _ (I.hok.fresh (Nat.le_refl _))⟩
 exact ⟨Nat.le_trans (cutV_length xs lo hi) hz, _, (r.drop (HT.sIx xs.length 0 lo)).take (HT.sIx xs.length xs.length hi - HT.sIx xs.length 0 lo), IsTup.new _ _⟩
def rCatT (K : PySem.W.Frag) : R2 := fun x y H Q => ∃ a b xs ys, x = .ref a ∧ y = .ref b ∧ SqT K H a xs ∧ SqT K H b ys ∧ xs ≠ [] ∧ xs.length + ys.length ≤ sizeLine ∧
 (ys = [] → Q (.ref a) H) ∧ (ys ≠ [] → ∀ p, H p = none → Q (.ref p) (upd H p (.tup (xs ++ ys))))
theorem Vals.nil_iff {xs : List V} {us : List Value} (r : Vals xs us) : us = [] ↔ xs = [] := by
 cases r with
 | nil => simp
 | cons _ _ => simp
theorem op_catT : OpR X (binaryOp .Add) (rCatT X.K) := by
 intro pins s σ H x y v u Q I rx ry h
 obtain ⟨a, b, xs, ys, rfl, rfl, ha, hb, hx, hz, q1, q2⟩ := h
 cases rx
 cases ry
 obtain ⟨its, r1, p1, _⟩ := I.tuple ha
 obtain ⟨its2, r2, p2, _⟩ := I.tuple hb
 refine HT.cat_tup p1 p2 (fun z => hx (r1.nil_iff.mp z)) (fun z => ⟨.ref a, H, I, rfl, q1 (r2.nil_iff.mp z)⟩) (fun z => ?_) (by rw [← r1.length, ← r2.length]; exact hz)
 refine ⟨.ref s.heap.objs.size, _, I.laid (t' := s.toks) (o := .tup (xs ++ ys)) (fun b ob q => Heap.get?_push_of_some _ q) (Nat.le_refl _) ?_, rfl, q2 (fun w => z (r2.nil_iff.mpr w)) _ (I.hok.fresh (Nat.le_refl _))⟩
 exact ⟨by rw [List.length_append]; exact hz, _, r1.append r2, IsTup.new _ _⟩
end
end L2
namespace L2
open PySem PySem.Spec PyProof.Rows
def ixN (n : Nat) (i : Int) : Option Nat := if 0 ≤ i then (if i < n then some i.toNat else none) else if -(n : Int) ≤ i then some (i + n).toNat else none
def atI {α : Type} (xs : List α) (i : Int) : Option α := (ixN xs.length i).bind fun j => xs[j]?
theorem ixN_seq {n : Nat} {i : Int} {j : Nat} (h : ixN n i = some j) : seqIndex? i n = some j ∧ j < n ∧ -(n : Int) ≤ i ∧ i < n := by
 unfold ixN at h
 by_cases h0 : 0 ≤ i
 ·rw [if_pos h0] at h
  by_cases h1 : i < n
  ·rw [if_pos h1] at h
   have e : i.toNat = j := Option.some.inj h
   exact ⟨by rw [seqIndex_of h0 h1, e], by omega, by omega, h1⟩
  ·rw [if_neg h1] at h; cases h
 ·rw [if_neg h0] at h
  by_cases h1 : -(n : Int) ≤ i
  ·rw [if_pos h1] at h
   have e : (i + n).toNat = j := Option.some.inj h
   exact ⟨by rw [seqIndex_neg (by omega) h1, e], by omega, h1, by omega⟩
  ·rw [if_neg h1] at h; cases h
theorem atI_get {α : Type} {xs : List α} {i : Int} {v : α} (h : atI xs i = some v) : ∃ j, seqIndex? i xs.length = some j ∧ xs[j]? = some v ∧ j < xs.length ∧ -(xs.length : Int) ≤ i ∧ i < xs.length := by
 unfold atI at h
 cases e : ixN xs.length i with
 | none => rw [e] at h; cases h
 | some j =>
  rw [e] at h
  obtain ⟨h1, h2, h3, h4⟩ := ixN_seq e
  exact ⟨j, h1, h, h2, h3, h4⟩
theorem atI_nat {α : Type} {xs : List α} {j : Nat} {v : α} (h : xs[j]? = some v) : atI xs (j : Int) = some v := by
 have hj : j < xs.length := (List.getElem?_eq_some_iff.mp h).1
 have e : ixN xs.length (j : Int) = some j := by
  unfold ixN
  rw [if_pos (by omega), if_pos (by omega)]; simp
 unfold atI; rw [e]; exact h
def PlainIx (b : Expr) : Prop := ∀ o i, subscripted b false o i = operate [o, i] (getItem o i)
def IxR (X : Cx) (r : R2) : Prop :=
 ∀ (value slice : Expr) (pins : List (Addr × Obj)) (s : Shared) (σ : St) (H : Hp) (x y : V) (v u : Value) (Q : VK), Inv X pins σ H s → RelV x v → RelV y u → r x y H Q →
  subscripted slice false v u = operate [v, u] (getItem v u) → wpAny (model X.prog X.w) X.A (subscriptTail value slice v u) (EP X pins σ Q) X.xe s
def MtR (X : Cx) (id : String) (r : V → List V → Hp → VK → Prop) : Prop :=
 ∀ (pins : List (Addr × Obj)) (s : Shared) (σ : St) (H : Hp) (x : V) (xs : List V) (v : Value) (us : List Value) (Q : VK), Inv X pins σ H s → RelV x v → Vals xs us → r x xs H Q →
  wpAny (model X.prog X.w) X.A (call (.builtin id) (v :: us)) (EP X pins σ Q) X.xe s
section
variable {X : Cx} {a b : Expr} {ta tb : TE} {pos : Pos}
theorem IxR.or {r r' : R2} (h : IxR X r) (h' : IxR X r') : IxR X (fun x y H Q => r x y H Q ∨ r' x y H Q) := by
 intro value slice pins s σ H x y v u Q I rx ry q hs
 rcases q with q | q
 ·exact h value slice pins s σ H x y v u Q I rx ry q hs
 ·exact h' value slice pins s σ H x y v u Q I rx ry q hs
theorem MtR.or {id : String} {r r' : V → List V → Hp → VK → Prop} (h : MtR X id r) (h' : MtR X id r') : MtR X id (fun x xs H Q => r x xs H Q ∨ r' x xs H Q) := by
 intro pins s σ H x xs v us Q I rx rs q
 rcases q with q | q
 ·exact h pins s σ H x xs v us Q I rx rs q
 ·exact h' pins s σ H x xs v us Q I rx rs q
theorem pe_ix {r : R2} (hr : IxR X r) (ha : PE X a ta) (hb : PE X b tb) (hs : PlainIx b) : PE X (.Subscript a b pos) (tOp r ta tb) := by
 refine .mk ?_
 intro pins s σ H Q I h
 exact Subscript_ (binT ha hb I h fun v u s2 x y H2 I2 rx ry q => hr a b pins s2 σ H2 x y v u Q I2 rx ry q (hs _ _))
def rIxL (K : PySem.W.Frag) : R2 := fun x y H Q => ∃ p xs i v, x = .ref p ∧ y = .int i ∧ SqL K H p xs ∧ atI xs i = some v ∧ Q v H
def rIxT (K : PySem.W.Frag) : R2 := fun x y H Q => ∃ p xs i v, x = .ref p ∧ y = .int i ∧ SqT K H p xs ∧ atI xs i = some v ∧ Q v H
def rIxS : R2 := fun x y H Q => ∃ z i c, x = .str z ∧ y = .int i ∧ z.length ≤ sizeLine ∧ atI z.cps.toList i = some c ∧ Q (.str ⟨#[c]⟩) H
theorem ix_list : IxR X (rIxL X.K) := by
 intro value slice pins s σ H x y v u Q I rx ry h hs
 obtain ⟨p, xs, i, z, rfl, rfl, hq, he, q⟩ := h
 cases rx
 obtain ⟨t, rfl⟩ := ry
 obtain ⟨its, r, pl, hz⟩ := I.list hq
 obtain ⟨j, h1, h2, h3, h4, h5⟩ := atI_get he
 obtain ⟨w, ew, rw'⟩ := r.get h2
 have hl := r.length
 have hn := line63
 have fin : EP X pins σ Q w s := ⟨z, H, I, rw', q⟩
 by_cases h0 : 0 ≤ i
 ·have hj : i.toNat = j := by
   rw [seqIndex_of h0 h5] at h1
   exact Option.some.inj h1
  exact item_listR pl.isList h0 (by omega) (by rw [hj]; simpa using ew) fin hs
 ·have hj : (i + (its.toArray.size : Int)).toNat = j := by
   rw [seqIndex_neg (by omega) h4] at h1
   rw [List.size_toArray, ← hl]
   exact Option.some.inj h1
  exact subscriptTail_builtinR (x := w) pl.isList.typeIs slot_list_getitem.lookup
   (wpAny_getItem_list_neg (Q := fun r s' => r = w ∧ EP X pins σ Q r s') pl.isList (by omega) (by rw [List.size_toArray] <;> omega) (by omega) (by rw [hj]; simpa using ew) ⟨rfl, fin⟩) hs
theorem ix_tup : IxR X (rIxT X.K) := by
 intro value slice pins s σ H x y v u Q I rx ry h hs
 obtain ⟨p, xs, i, z, rfl, rfl, hq, he, q⟩ := h
 cases rx
 obtain ⟨t, rfl⟩ := ry
 obtain ⟨its, r, pl, hz⟩ := I.tuple hq
 obtain ⟨j, h1, h2, h3, h4, h5⟩ := atI_get he
 obtain ⟨w, ew, rw'⟩ := r.get h2
 have hl := r.length
 have hn := line63
 have fin : EP X pins σ Q w s := ⟨z, H, I, rw', q⟩
 exact subscriptTail_builtinR (x := w) pl.typeIs slot_tuple_getitem.lookup
  (getItem_tuple (j := j) (Q := fun r s' => r = w ∧ EP X pins σ Q r s') pl (by omega) (by omega) (by rw [List.size_toArray, ← hl]; exact h1) (by simpa using ew) ⟨rfl, fin⟩) hs
theorem ix_str : IxR X rIxS := by
 intro value slice pins s σ H x y v u Q I rx ry h hs
 obtain ⟨z, i, c, rfl, rfl, hz, he, q⟩ := h
 obtain ⟨t, rfl⟩ := rx
 obtain ⟨t', rfl⟩ := ry
 obtain ⟨j, h1, h2, h3, h4, h5⟩ := atI_get he
 have hl : z.cps.toList.length = z.length := by simp [Str.length]
 rw [hl] at h1 h4 h5
 have hn := line63
 exact tail_any (typeIs_str s z t) slot_str_getitem.lookup (getItem_str (c := c) (by
  have e1 : decide (i < -(2 ^ 63 : Int)) = false := decide_eq_false (by omega)
  have e2 : decide (i ≥ 2 ^ 63) = false := decide_eq_false (by omega)
  rw [e1, e2, Bool.or_false]) (by rw [h1]; simpa using h2) ⟨.str ⟨#[c]⟩, H, I.tok _, ⟨_, rfl⟩, q⟩) hs
def rIx (K : PySem.W.Frag) : R2 := fun x y H Q => rIxL K x y H Q ∨ rIxT K x y H Q ∨ rIxS x y H Q
theorem ix_seq : IxR X (rIx X.K) := ix_list.or (ix_tup.or ix_str)
theorem mapSeq_set (its : List Value) (n j : Nat) (u : Value) : Obj.mapSeq (·.setIfInBounds j u) { cls := .type "list", data := .seq its.toArray n } = { cls := .type "list", data := .seq (its.set j u).toArray n } := by
 simp [Obj.mapSeq]
theorem Inv.lst {pins : List (Addr × Obj)} {σ : St} {H : Hp} {s : Shared} {p : Addr} {xs : List V} (I : Inv X pins σ H s) (h : H p = some (.lst xs)) :
  ∃ (its : List Value) (n : Nat), Vals xs its ∧ s.heap.get? p = some { cls := .type "list", data := .seq its.toArray n } ∧ xs.length ≤ sizeLine := by
 obtain ⟨z, its, n, r, e⟩ := I.hok p _ h
 exact ⟨its, n, r, e, z⟩
theorem Inv.lstUpd {pins : List (Addr × Obj)} {σ : St} {H : Hp} {s : Shared} {p : Addr} {xs ys : List V} {its its' : List Value} {n n' : Nat} {f : Obj → Obj} (I : Inv X pins σ H s) (h : H p = some (.lst xs))
  (ho : s.heap.get? p = some { cls := .type "list", data := .seq its.toArray n }) (hf : f { cls := .type "list", data := .seq its.toArray n } = { cls := .type "list", data := .seq its'.toArray n' }) (r : Vals ys its') (hz : ys.length ≤ sizeLine) (t : Nat) :
  Inv X pins σ (upd H p (.lst ys)) { s with heap := s.heap.update p f, toks := t } := by
 have e : (s.heap.update p f).get? p = some { cls := .type "list", data := .seq its'.toArray n' } := by
  rw [Heap.get?_update_self f ho (by rw [hf] <;> rfl), hf]
 refine I.write (x := p) (e := p) (by rw [h]; trivial) (.inl rfl) (fun b u hb q => (Heap.get?_update_other _ _ (Ne.symm hb)).trans q) ⟨_, e⟩ ?_
 exact ⟨hz, its', n', r, e⟩
def rSetL : V → V → V → Hp → (Hp → Prop) → Prop := fun o i v H Q => ∃ p xs k j, o = .ref p ∧ i = .int k ∧ H p = some (.lst xs) ∧ ixN xs.length k = some j ∧ Q (upd H p (.lst (xs.set j v)))
theorem set_list : PSet X rSetL := by
 intro pins s σ H o i v ov iv u Q I ro ri rv h
 obtain ⟨p, xs, k, j, rfl, rfl, hp, hj, q⟩ := h
 cases ro
 obtain ⟨t, rfl⟩ := ri
 obtain ⟨its, n, r, ho, hz⟩ := I.lst hp
 obtain ⟨h1, h2, h3, h4⟩ := ixN_seq hj
 have hl := r.length
 have hn := line63
 have I' : Inv X pins σ (upd H p (.lst (xs.set j v))) { s with heap := s.heap.update p (Obj.mapSeq (·.setIfInBounds j u)) } :=
  I.lstUpd hp ho (mapSeq_set its n j u) (r.set rv j) (by rw [List.length_set]; exact hz) s.toks
 by_cases h0 : 0 ≤ k
 ·have hk : k.toNat = j := by
   rw [seqIndex_of h0 h4] at h1
   exact Option.some.inj h1
  exact PySem.W.ki_setAt ho h0 (by omega) (by rw [List.size_toArray, ← hl]; exact h4) (by rw [hk]; exact ⟨_, I', q⟩)
 ·have hk : (k + (its.toArray.size : Int)).toNat = j := by
   rw [seqIndex_neg (by omega) h3] at h1
   rw [List.size_toArray, ← hl]
   exact Option.some.inj h1
  exact PySem.W.ki_setBack ho (by omega) (by rw [List.size_toArray, ← hl]; exact h3) (by omega) (by rw [hk]; exact ⟨_, I', q⟩)
def flatV : V → Bool
 | .non => true
 | .bl _ => true
 | .int _ => true
 | .str _ => true
 | _ => false
def eqV : V → V → Bool
 | .non, .non => true
 | .bl a, .bl b => a == b
 | .bl a, .int b => (if a then 1 else 0) == b
 | .int a, .bl b => a == (if b then 1 else 0)
 | .int a, .int b => a == b
 | .str a, .str b => a == b
 | _, _ => false
theorem eqAt_V {A : Around} {s : Shared} {y x : V} {u v : Value} (ry : RelV y u) (rx : RelV x v) (fy : flatV y = true) (fx : flatV x = true) : SeqAt.EqAt A s u v (eqV y x) := by
 cases y with
 | non =>
  cases ry
  cases x with
  | non => cases rx; exact SeqAt.EqAt.same _
  | bl b => cases rx; exact SeqAt.EqAt.none_bool b
  | int b => obtain ⟨t, rfl⟩ := rx; exact SeqAt.EqAt.none_int b t
  | str b => obtain ⟨t, rfl⟩ := rx; exact SeqAt.EqAt.none_str b t
  | _ => exact absurd (show false = true from fx) Bool.false_ne_true
 | bl a =>
  cases ry
  cases x with
  | non => cases rx; exact SeqAt.EqAt.bool_none a
  | bl b => cases rx; exact SeqAt.EqAt.bool_bool a b
  | int b => obtain ⟨t, rfl⟩ := rx; exact SeqAt.EqAt.bool_int a b t
  | str b => obtain ⟨t, rfl⟩ := rx; exact SeqAt.EqAt.bool_str a b t
  | _ => exact absurd (show false = true from fx) Bool.false_ne_true
 | int a =>
  obtain ⟨t', rfl⟩ := ry
  cases x with
  | non => cases rx; exact SeqAt.EqAt.int_none a t'
  | bl b => cases rx; exact SeqAt.EqAt.int_bool a t' b
  | int b => obtain ⟨t, rfl⟩ := rx; exact SeqAt.EqAt.int_int a t' b t
  | str b => obtain ⟨t, rfl⟩ := rx; exact SeqAt.EqAt.int_str a t' b t
  | _ => exact absurd (show false = true from fx) Bool.false_ne_true
 | str a =>
  obtain ⟨t', rfl⟩ := ry
  cases x with
  | non => cases rx; exact SeqAt.EqAt.str_none a t'
  | bl b => cases rx; exact SeqAt.EqAt.str_bool a t' b
  | int b => obtain ⟨t, rfl⟩ := rx; exact SeqAt.EqAt.str_int a t' b t
  | str b => obtain ⟨t, rfl⟩ := rx; exact SeqAt.EqAt.str_str a t' b t
  | _ => exact absurd (show false = true from fx) Bool.false_ne_true
 | _ => exact absurd (show false = true from fy) Bool.false_ne_true
def eqU (x : V) (u : Value) : Bool := match u with
 | .none => eqV .non x
 | .bool b => eqV (.bl b) x
 | .int i _ => eqV (.int i) x
 | .str z _ => eqV (.str z) x
 | _ => false
theorem eqU_of {x y : V} {u : Value} (r : RelV y u) (f : flatV y = true) : eqU x u = eqV y x := by
 cases y with
 | non => cases r; rfl
 | bl b => cases r; rfl
 | int i => obtain ⟨t, rfl⟩ := r; rfl
 | str z => obtain ⟨t, rfl⟩ := r; rfl
 | _ => exact absurd (show false = true from f) Bool.false_ne_true
theorem any_eqU {x : V} : ∀ {xs : List V} {us : List Value}, Vals xs us → xs.all flatV = true → us.any (eqU x) = xs.any fun y => eqV y x
 | _, _, .nil, _ => rfl
 | y :: xs, u :: us, .cons r t, f => by
  rw [List.all_cons, Bool.and_eq_true] at f
  rw [List.any_cons, List.any_cons, eqU_of r f.1, any_eqU t f.2]
theorem mem_eqAt {A : Around} {s : Shared} {x : V} {v : Value} (rx : RelV x v) (fx : flatV x = true) : ∀ {xs : List V} {us : List Value}, Vals xs us → xs.all flatV = true → ∀ u ∈ us, SeqAt.EqAt A s u v (eqU x u)
 | _, _, .nil, _ => fun u hu => by cases hu
 | y :: xs, u :: us, .cons r t, f => fun u' hu => by
  rw [List.all_cons, Bool.and_eq_true] at f
  rcases List.mem_cons.mp hu with rfl | hu
  ·rw [eqU_of r f.1]; exact eqAt_V r rx f.1 fx
  ·exact mem_eqAt rx fx t f.2 u' hu
def inV (x : V) (xs : List V) : Bool := xs.any fun y => eqV y x
def rIn (K : PySem.W.Frag) (neg : Bool) : R2 := fun x y H Q => ∃ p xs, y = .ref p ∧ (SqL K H p xs ∨ SqT K H p xs) ∧ flatV x = true ∧ xs.all flatV = true ∧ Q (.bl (if neg then !inV x xs else inV x xs)) H
theorem op_in_seq : OpR X (compareOp .In) (rIn X.K false) := by
 intro pins s σ H x y v u Q I rx ry h
 obtain ⟨p, xs, rfl, hq, fx, fs, q⟩ := h
 cases ry
 rcases hq with hq | hq
 ·obtain ⟨its, r, pl, hz⟩ := I.list hq
  refine SeqAt.in_listAt (eqU x) pl.isList (fun w hw => mem_eqAt rx fx r fs w (by simpa using hw)) ⟨.bl _, H, I, rfl, ?_⟩
  rw [show its.toArray.any (eqU x) = its.any (eqU x) by simp, any_eqU r fs]
  exact q
 ·obtain ⟨its, r, pl, hz⟩ := I.tuple hq
  refine SeqAt.in_tupleAt (eqU x) pl (fun w hw => mem_eqAt rx fx r fs w (by simpa using hw)) ⟨.bl _, H, I, rfl, ?_⟩
  rw [show its.toArray.any (eqU x) = its.any (eqU x) by simp, any_eqU r fs]
  exact q
theorem call_len_seq : CallR X (.builtin "len") (fun xs H Q => ∃ p ys, xs = [.ref p] ∧ (SqL X.K H p ys ∨ SqT X.K H p ys) ∧ Q (.int ys.length) H) := by
 intro pins s σ H xs us Q I r h
 obtain ⟨p, ys, rfl, hq, q⟩ := h
 obtain ⟨u, rfl, rx⟩ := vals1 r
 cases rx
 have hn := line63
 rcases hq with hq | hq
 ·obtain ⟨its, r', pl, hz⟩ := I.list hq
  have hlen := r'.length
  exact Calls.call_len_list pl.isList (by simp only [List.size_toArray] <;> omega) ⟨.int ys.length, H, I.tok _, ⟨s.toks + 1, by rw [List.size_toArray, hlen]⟩, q⟩
 ·obtain ⟨its, r', pl, hz⟩ := I.tuple hq
  have hlen := r'.length
  exact len_tuple pl (by simp only [List.size_toArray] <;> omega) ⟨.int ys.length, H, I.tok _, ⟨s.toks + 1, by rw [List.size_toArray, hlen]⟩, q⟩
theorem call_len_str : CallR X (.builtin "len") (fun xs H Q => ∃ z, xs = [.str z] ∧ z.length ≤ sizeLine ∧ Q (.int z.length) H) := by
 intro pins s σ H xs us Q I r h
 obtain ⟨z, rfl, hz, q⟩ := h
 obtain ⟨u, rfl, t, rfl⟩ := vals1 r
 have hn := line63
 exact len_str (by omega) ⟨.int z.length, H, I.tok _, ⟨_, rfl⟩, q⟩
theorem CallR.or {f : Value} {r r' : List V → Hp → VK → Prop} (h : CallR X f r) (h' : CallR X f r') : CallR X f (fun xs H Q => r xs H Q ∨ r' xs H Q) := by
 intro pins s σ H xs us Q I rs q
 rcases q with q | q
 ·exact h pins s σ H xs us Q I rs q
 ·exact h' pins s σ H xs us Q I rs q
theorem call_list_of : CallR X (.type "list") (fun xs H Q => ∃ p ys, xs = [.ref p] ∧ (SqL X.K H p ys ∨ SqT X.K H p ys) ∧ ∀ l, H l = none → Q (.ref l) (upd H l (.lst ys))) := by
 intro pins s σ H xs us Q I r h
 obtain ⟨p, ys, rfl, hq, q⟩ := h
 obtain ⟨u, rfl, rx⟩ := vals1 r
 cases rx
 have fin : ∀ (its : List Value), Vals ys its → ys.length ≤ sizeLine → ∀ (h' : Heap) (c' : Nat), (∀ b o', s.heap.get? b = some o' → h'.get? b = some o') →
   h'.get? s.heap.objs.size = some { cls := .type "list", dict := none, data := .seq its.toArray c', slots := #[] } → EP X pins σ Q (.ref s.heap.objs.size) { s with heap := h' } := fun its r' hz h' c' kp e =>
  ⟨.ref s.heap.objs.size, _, I.laid (t' := s.toks) kp (Nat.le_refl _) (show ObjOk X.prog X.w _ h' _ (.lst ys) from ⟨hz, its, c', r', e⟩), rfl, q _ (I.hok.fresh (Nat.le_refl _))⟩
 rcases hq with hq | hq
 ·obtain ⟨its, r', pl, hz⟩ := I.list hq
  have hlen := r'.length
  obtain ⟨o, ho, hc, n, hd⟩ := pl.isList
  exact call_list_seq p (.inl rfl) ho hc hd (fun h' c' kp e => fin its r' hz h' c' kp e) (by simp only [List.size_toArray] <;> omega)
 ·obtain ⟨its, r', pl, hz⟩ := I.tuple hq
  have hlen := r'.length
  obtain ⟨o, ho, hc, n, hd⟩ := pl
  exact call_list_seq p (.inr rfl) ho hc hd (fun h' c' kp e => fin its r' hz h' c' kp e) (by simp only [List.size_toArray] <;> omega)
theorem call_tuple_of : CallR X (.type "tuple") (fun xs H Q => ∃ p ys, xs = [.ref p] ∧ ((SqL X.K H p ys ∧ ∀ l, H l = none → Q (.ref l) (upd H l (.tup ys))) ∨ (SqT X.K H p ys ∧ Q (.ref p) H))) := by
 intro pins s σ H xs us Q I r h
 obtain ⟨p, ys, rfl, h⟩ := h
 obtain ⟨u, rfl, rx⟩ := vals1 r
 cases rx
 rcases h with ⟨hq, q⟩ | ⟨hq, q⟩
 ·obtain ⟨its, r', pl, hz⟩ := I.list hq
  have hlen := r'.length
  refine call_tuple_list pl.isList (fun h' kp => ?_) (by simp only [List.size_toArray] <;> omega)
  have I1 : Inv X pins σ H { s with heap := h' } := I.kept (t' := s.toks) kp
  have I2 : Inv X pins σ (upd H h'.objs.size (.tup ys)) { s with heap := h'.push { cls := .type "tuple", data := .seq its.toArray } } :=
   I1.laid (t' := s.toks) (fun b o e => Heap.get?_push_of_some _ e) (Nat.le_refl _) (show ObjOk X.prog X.w _ _ _ (.tup ys) from ⟨hz, its, r', IsTup.new _ _⟩)
  exact ⟨.ref h'.objs.size, _, I2, rfl, q _ (I1.hok.fresh (Nat.le_refl _))⟩
 ·obtain ⟨its, r', pl, hz⟩ := I.tuple hq
  exact call_tuple_same pl ⟨.ref p, H, I, rfl, q⟩
def tyV (K : PySem.W.Frag) (T : String) (x : V) (H : Hp) : Prop := match x with
 | .str _ => T = "str"
 | .int _ => T = "int"
 | .ref p => (T = "list" ∧ ∃ xs, SqL K H p xs) ∨ (T = "tuple" ∧ ∃ o, K.lookup p = some o ∧ o.cls = .type "tuple" ∧ o.dict = none) ∨
   (T = "dict" ∧ ((∃ kvs, H p = some (.dK kvs)) ∨ ∃ kvs, H p = some (.dT kvs))) ∨ (T = "set" ∧ ∃ S n, H p = some (.set S n))
 | _ => False
theorem tyV_is {pins : List (Addr × Obj)} {σ : St} {H : Hp} {s : Shared} {T : String} {x : V} {v : Value} (I : Inv X pins σ H s) (r : RelV x v) (ty : tyV X.K T x H) :
  s.TypeIs v T ∧ ∀ a, v = .ref a → ∃ ob, s.heap.get? a = some ob ∧ ob.dict = none := by
 cases x with
 | str z =>
  obtain ⟨t, rfl⟩ := r
  cases (show T = "str" from ty)
  exact ⟨typeIs_str s z t, fun _ e => nomatch e⟩
 | int i =>
  obtain ⟨t, rfl⟩ := r
  cases (show T = "int" from ty)
  exact ⟨typeIs_int s i t, fun _ e => nomatch e⟩
 | ref p =>
  cases r
  rcases ty with ⟨rfl, xs, hq⟩ | ⟨rfl, o, hk, hc, hd⟩ | ⟨rfl, hk⟩ | ⟨rfl, S, n, hk⟩
  ·obtain ⟨its, _, pl, _⟩ := I.list hq
   refine ⟨pl.isList.typeIs, fun a e => ?_⟩
   cases e
   obtain ⟨o, n, e, c, hd, _⟩ := pl
   exact ⟨o, e, hd⟩
  ·refine ⟨⟨o, I.kIn p o hk, hc⟩, fun a e => ?_⟩
   cases e
   exact ⟨o, I.kIn _ o hk, hd⟩
  ·have z : ∃ o, s.heap.get? p = some o ∧ o.ExactDict := by
    rcases hk with ⟨kvs, hk⟩ | ⟨kvs, hk⟩
    ·obtain ⟨_, _, _, _, o, _, _, e, ex, _⟩ := I.hok p _ hk
     exact ⟨o, e, ex⟩
    ·obtain ⟨_, _, _, _, o, _, _, e, ex, _⟩ := I.hok p _ hk
     exact ⟨o, e, ex⟩
   obtain ⟨o, e, ex⟩ := z
   refine ⟨⟨o, e, ex.1⟩, fun a e2 => ?_⟩
   cases e2
   exact ⟨o, e, ex.2.1⟩
  ·obtain ⟨o, _, _, _, e, ex, _⟩ := I.hok p _ hk
   refine ⟨⟨o, e, ex.1⟩, fun a e2 => ?_⟩
   cases e2
   exact ⟨o, e, ex.2.1⟩
 | _ => exact False.elim ty
def tBM0 (K : PySem.W.Frag) (T : String) (r : V → List V → Hp → VK → Prop) (to : TE) : TE := fun σ H Q => to σ H fun x H1 => tyV K T x H1 ∧ r x [] H1 Q
def tBM (K : PySem.W.Frag) (T : String) (r : V → List V → Hp → VK → Prop) (to : TE) (t : TA) : TE := fun σ H Q => to σ H fun x H1 => tyV K T x H1 ∧ t σ H1 fun xs H2 => r x xs H2 Q
variable {o e : Expr} {es : List Expr} {to : TE} {t : TA} {name : Str} {apos cpos : Pos} {T id : String} {r : V → List V → Hp → VK → Prop}
theorem pe_bm0 (pa : PlainAttrs T) (slot : Slot T name id) (hty : typeOf (.builtin id) = pure (.type "method_descriptor")) (hm : MtR X id r) (ho : PE X o to)
  (hbase : attributeBase o name X.env (eval o X.env) = eval o X.env := by rfl) (hline : (apos.endLine == cpos.line) = true := by rfl) : PE X (.Call (.Attribute o name apos) [] [] cpos) (tBM0 X.K T r to) := by
 refine .mk ?_
 intro pins s σ H Q I h
 refine wpAny_Call_method0_late hbase hline (thn (ho pins s σ H _ I h) fun v s1 ⟨x, H1, I1, r1, ty, q1⟩ => ?_)
 obtain ⟨h1, h2⟩ := tyV_is I1 r1 ty
 exact ⟨T, id, pa, slot, hty, h1, h2, Calls.callWith_builtin rfl (PySem.evalArgs_none (hm pins s1 σ H1 x [] v [] Q I1 r1 .nil q1))⟩
theorem pe_bm (pa : PlainAttrs T) (slot : Slot T name id) (hty : typeOf (.builtin id) = pure (.type "method_descriptor")) (hm : MtR X id r) (ho : PE X o to) (ha : PA X (e :: es) t)
  (hbase : attributeBase o name X.env (eval o X.env) = eval o X.env := by rfl)
  (hfew : ((backTo cpos (starEach (e :: es) X.env)).all (fun x => !x.1) && (backToKw cpos (keywordEach [] X.env)).all (fun x => x.1.isSome)
   && decide ((e :: es).length + ([] : List Keyword).length + (if ([] : List Keyword).isEmpty then 0 else 1) < 30)) = true := by rfl)
  (hline : (apos.endLine == cpos.line) = true := by rfl) (hs : starEach (e :: es) X.env = (false, eval e X.env) :: starEach es X.env := by rfl) (hplain : (backTo cpos (starEach es X.env)).any (·.1) = false := by rfl) :
  PE X (.Call (.Attribute o name apos) (e :: es) [] cpos) (tBM X.K T r to t) := by
 refine .mk ?_
 intro pins s σ H Q I h
 refine wpAny_Call_method_late hbase hfew hline rfl (thn (ho pins s σ H _ I h) fun v s1 ⟨x, H1, I1, r1, ty, q1⟩ => ?_)
 obtain ⟨h1, h2⟩ := tyV_is I1 r1 ty
 refine ⟨T, id, pa, slot, hty, h1, h2, ?_⟩
 have hA := ha cpos pins s1 σ H1 _ I1 q1
 rw [hs] at hA ⊢
 refine Calls.callWith_builtin (by show (false || (backTo cpos (starEach es X.env)).any (·.1)) = false; rw [hplain] <;> rfl) (Calls.evalArgs_plain ?_)
 exact thn hA fun us s2 ⟨vs, H2, I2, r2, q2⟩ => hm pins s2 σ H2 x vs v us Q I2 r1 r2 q2
end
end L2
namespace L2
open PySem PySem.Spec PyProof.Rows
def MtM (X : Cx) (id : String) (r : V → List V → Hp → VK → Prop) : Prop :=
 ∀ (pins : List (Addr × Obj)) (s : Shared) (σ : St) (H : Hp) (x : V) (xs : List V) (v : Value) (us : List Value) (Q : VK), Inv X pins σ H s → RelV x v → Vals xs us → r x xs H Q →
  wpAny (model X.prog X.w) X.A (call (.builtin id) (v :: us)) (EP X pins σ Q) X.xe s
theorem Vals.one : ∀ {x : V} {us : List Value}, Vals [x] us → ∃ u, us = [u] ∧ RelV x u
 | _, _, .cons r .nil => ⟨_, rfl, r⟩
theorem Vals.zero : ∀ {us : List Value}, Vals [] us → us = []
 | _, .nil => rfl
theorem Vals.reverse {xs : List V} {us : List Value} (h : Vals xs us) : Vals xs.reverse us.reverse := by
 induction h with
 | nil => exact .nil
 | cons r t ih => rw [List.reverse_cons, List.reverse_cons]; exact Vals.append ih (.cons r .nil)
section
variable {X : Cx} {pins : List (Addr × Obj)} {σ : St} {H : Hp} {s : Shared} {l b : Addr} {xs ys zs : List V}
theorem Inv.lset {its its' : List Value} {n : Nat} {f : Array Value → Array Value} {t' : Nat} (I : Inv X pins σ H s) (hH : H l = some (.lst xs))
  (e : s.heap.get? l = some { cls := .type "list", data := .seq its.toArray n }) (hf : f its.toArray = its'.toArray) (hv : Vals ys its') (hz : ys.length ≤ sizeLine) :
  Inv X pins σ (upd H l (.lst ys)) { s with heap := s.heap.update l (Obj.mapSeq f), toks := t' } := by
 have q := PySem.IsL.update e f
 rw [hf] at q
 refine I.write (x := l) (e := l) (by rw [hH]; exact trivial) (.inl rfl) (fun b' u hb hu => (Heap.get?_update_other s.heap (Obj.mapSeq f) (Ne.symm hb)).trans hu) ⟨_, q⟩ ?_
 exact ⟨hz, its', _, hv, q⟩
theorem Inv.lnew {its : List Value} {t' : Nat} (I : Inv X pins σ H s) (hv : Vals ys its) (hz : ys.length ≤ sizeLine) :
  Inv X pins σ (upd H s.heap.objs.size (.lst ys)) { s with heap := s.heap.push { cls := .type "list", data := .seq its.toArray }, toks := t' } :=
 I.laid (fun _ _ q => Heap.get?_push_of_some _ q) (Nat.le_refl _) ⟨hz, its, 0, hv, Heap.get?_push_size _ rfl⟩
theorem Inv.fresh (I : Inv X pins σ H s) : H s.heap.objs.size = none := I.hok.fresh (Nat.le_refl _)
theorem Inv.lstM (I : Inv X pins σ H s) (hH : H l = some (.lst xs)) : xs.length ≤ sizeLine ∧ ∃ (its : List Value) (n : Nat), Vals xs its ∧ xs.length = its.length ∧ s.heap.get? l = some { cls := .type "list", data := .seq its.toArray n } := by
 obtain ⟨z, its, n, r, e⟩ := I.hok l _ hH
 exact ⟨z, its, n, r, r.length, e⟩
end
section
variable {X : Cx}
def rAppend : V → List V → Hp → VK → Prop := fun x vs H Q => ∃ l xs y, x = .ref l ∧ vs = [y] ∧ H l = some (.lst xs) ∧ xs.length < sizeLine ∧ Q .non (upd H l (.lst (xs ++ [y])))
theorem mt_append : MtM X "list.append" rAppend := by
 intro pins s σ H x vs v us Q I rx rv h
 obtain ⟨l, xs, y, rfl, rfl, hH, hz, q⟩ := h
 cases rx
 obtain ⟨u, rfl, ru⟩ := rv.one
 obtain ⟨z, its, n, r, hl, e⟩ := I.lstM hH
 refine call_meets F.slot_list_append ⟨_, e, rfl⟩ F.entry_list_append (F.args_list_append_2 _ _) (PySem.list_append l its.toArray n u (by rw [List.size_toArray]; omega)) ⟨e, ?_⟩
 refine ⟨.non, _, I.lset (its' := its ++ [u]) hH e (by simp) (r.append (.cons ru .nil)) ?_, rfl, q⟩
 rw [List.length_append, List.length_singleton]
 omega
def rCat : R2 := fun x y H Q => ∃ l b xs zs, x = .ref l ∧ y = .ref b ∧ H l = some (.lst xs) ∧ H b = some (.lst zs) ∧ xs.length + zs.length ≤ sizeLine ∧ ∀ p, H p = none → Q (.ref p) (upd H p (.lst (xs ++ zs)))
theorem op_cat : OpR X (binaryOp .Add) rCat := by
 intro pins s σ H x y v u Q I rx ry h
 obtain ⟨l, b, xs, zs, rfl, rfl, hH, hB, hz, q⟩ := h
 cases rx
 cases ry
 obtain ⟨z, its, n, r, hl, e⟩ := I.lstM hH
 obtain ⟨z2, its2, n2, r2, hl2, e2⟩ := I.lstM hB
 refine PySem.P.add_list e e2 ?_ (by rw [List.size_toArray, List.size_toArray]; omega)
 have ea : its.toArray ++ its2.toArray = (its ++ its2).toArray := by simp
 rw [ea]
 exact ⟨.ref _, _, I.lnew (t' := s.toks) (r.append r2) (by rw [List.length_append]; omega), rfl, q _ I.fresh⟩
end
section
variable {prog : Program} {w : World} {A : Around} {E : Value → Shared → Prop} {s : Shared}
set_option maxRecDepth 100000 in
end
section
variable {X : Cx}
end
end L2
namespace Att
open PySem PySem.W PySem.Calls PyProof.Rows
theorem ints_of_wellAll {P : Params} {h : Heap} : ∀ (ns : List Int) (vs : List Value), WellAll P h vs (ns.map WData.int) → IntsAre vs ns := by
 intro ns
 induction ns with
 | nil =>
  intro vs w
  rw [List.map_nil] at w
  cases w
  exact .nil
 | cons n ns ih =>
  intro vs w
  rw [List.map_cons] at w
  cases w with
  | cons a b =>
   cases a
   exact .cons _ _ (ih _ b)
theorem script_of {l : OpenLaw} {n : Nat} (hn : l.most = some n) {P : Params} {h : Heap} {args : List WData} {vals : List Value}
  (hpre : l.row.toRowW.claim.pre args = true) (hwl : WellAll P h vals args) :
  ∃ a vs ns, vals = [Value.ref a] ∧ args = [WData.list (ns.map WData.int)] ∧ h.get? a = some { cls := .type "list", data := .seq vs.toArray } ∧ IntsAre vs ns ∧ ns.length ≤ n := by
 have hsh : WShape.hasAll [] args [.list .int] = true := (pre_splitW hpre).1
 have hc : l.pre.holds [] { args := args } = true := (pre_splitW hpre).2
 obtain ⟨d, r, rfl, h1, h2⟩ := hasAllW_cons hsh
 obtain rfl := hasAllW_nil h2
 obtain ⟨xs, rfl, h3⟩ := hasW_list h1
 obtain ⟨ns, rfl⟩ := items_int h3
 have hlen : ns.length ≤ n := by
  unfold OpenLaw.pre at hc
  have h4 : (WTm.not (.lt (.lit (.int (n : Int))) (.len (.arg 0)))).holds [] { args := [.list (ns.map .int)] } = true := by
   have h4 := (holds_andW hc).1
   rw [hn] at h4
   exact h4
  have h5 := condW_of h4 (w_not (w_lt w_lit (w_len_list (w_arg rfl))))
  rw [List.length_map] at h5
  refine Nat.le_of_not_lt fun q => ?_
  have q' : (n : Int) < ((ns.length : Nat) : Int) := by omega
  first
   | (rw [decide_eq_true q'] at h5; exact absurd h5 (by decide))
   | (simp at h5; omega)
 cases hwl with
 | cons w1 w2 =>
  cases w2
  cases w1 with
  | list ho hall => exact ⟨_, _, ns, rfl, rfl, ho, ints_of_wellAll ns _ hall, hlen⟩
theorem post_true (l : OpenLaw) (args : List WData) : l.row.toRowW.claim.post args (.bool true) args = true :=
 postW_of (r := l.row.toRowW) (X := (true == true))
  (show WShape.has [] (.bool true) .bool = true by first | rfl | decide | simp [WShape.has, WShape.arms, WShape.armsAll])
  (show (WTm.eq .res (.lit (.bool true))).value [] { args := args, res := some (.bool true), after := args } = some (.bool (true == true)) from w_eq_bool (w_res rfl) w_lit) rfl
theorem attach_call {l : OpenLaw} {n : Nat} {q : Program} {loose : List Str} {XP : (Str → Option Value) → Heap → Prop} {YP : World → Heap → Prop} {d : DefRec}
  (hn : l.most = some n) (hdf : d.params.defaults = [])
  (call : ∀ (w : World) (s₀ s₁ : Shared) (mg mb : Str → Option Value) (fa : Addr) (o : Obj) (pm cd doc : Value) (a : Addr) (vs : List Value) (ns : List Int),
   Ground q loose [] XP w s₀ mg mb s₁.heap → YP w s₁.heap →
   s₁.heap.get? fa = some o → o.data = .func (docDef d.name d.params d.body d.scope pm cd doc) → s₁.heap.CodeRec cd d.name → mg d.name = some (.ref fa) →
   s₁.heap.get? a = some { cls := .type "list", data := .seq vs.toArray } → IntsAre vs ns → ns.length ≤ n → s₁.gens = #[] →
   codeAny (model l.prog w) callerA (.call (.ref fa) ⟨[.ref a], []⟩) (fun r s' => r = .ok (.ret (.bool true)) ∧ OldK s₁.heap s'.heap ∧ s'.os = s₁.os ∧ AllBare s'.gens) s₁) :
  WalkO q loose XP YP l.row.toRowW d [] (fun f vs => PySem.call f vs) := by
 intro w s₀ s₁ mg mb G Y fa o pm cd doc dV kV ho hd hcd hD hmg hg args vals as hpre hlay hrd hwl hlo
 obtain rfl : dV = .none := Dflts.none hD hdf
 obtain rfl : kV = .none := Dflts.noKw hD
 obtain ⟨a, vs, ns, rfl, rfl, hobj, hints, hlen⟩ := script_of hn hpre hwl
 refine enter_call (codeAny_mono (call w s₀ s₁ mg mb fa o pm cd doc a vs ns G Y ho (fd_plain hd) hcd hmg hobj hints hlen hg) fun r s' hq => ?_)
 obtain ⟨rfl, h2, h3, h4⟩ := hq
 exact ⟨.inl ⟨.bool true, .bool true, [], rfl, fun _ => rfl, .bool true, post_true l _, fun _ => ⟨List.Pairwise.nil, fun _ hm => (nomatch hm)⟩⟩, h2, h3, h4⟩
section
variable {prog : Program} {w : World} {A : Around} {E : Value → Shared → Prop} {s : Shared} {K : Frag}
end
end Att
namespace L2
open PySem PySem.Spec PyProof.Rows
theorem vals_ints : ∀ {vs : List Value} {ns : List Int}, IntsAre vs ns → Vals (ns.map V.int) vs
 | _, _, .nil => .nil
 | _, _, .cons n t h => .cons ⟨t, rfl⟩ (vals_ints h)
def Only (H : Hp) : Prop := ∀ b, H b = none ∨ ∃ o xs, H b = some (.frz o (.lst xs))
theorem law_call {P : Program} {w : World} {K : PySem.W.Frag} {mg mb : Str → Option Value} {CX : CXT} {k : Nat} {fa a : Addr} {fd : FuncData} {x : Str} {sp : Sp} {s₁ : Shared} {vs : List Value} {ns : List Int}
  (KX : K.In s₁.heap) (hns : s₁.heap.Ns mainGlobals mg) (hb : s₁.heap.Ns builtinsNs mb) (hbb : ∀ x : Str, x ≠ "__name__" → mb x = bootBuiltins x) (hlim : s₁.heap.NoLimit) (hg : s₁.gens = #[])
  (ha : s₁.heap.get? a = some { cls := .type "list", data := .seq vs.toArray }) (hi : IntsAre vs ns) (hl : ns.length ≤ sizeLine) (hr : Room k callerA)
  (F : ∀ base : Heap, K.In base → base.Ns mainGlobals mg → FnOk P w K mg base CX k fa fd [x] sp) (hbind : ∀ (s : Shared) (u : Value), BindsTo s fd ⟨[u], []⟩ [(x, u)])
  (hsp : ∀ H : Hp, Only H → SqL K H a (ns.map V.int) → sp [.ref a] H (fun v _ => v = .bl true) fun _ _ _ => False)
  (hCX : ∀ H e s', CX [] H s₁ (fun _ _ _ => False) e s' → False) :
  codeAny (model P w) callerA (.call (.ref fa) ⟨[.ref a], []⟩) (fun r s' => r = .ok (.ret (.bool true)) ∧ OldK s₁.heap s'.heap ∧ s'.os = s₁.os ∧ AllBare s'.gens) s₁ := by
 have rv := vals_ints hi
 have lenV := hi.length
 -- from an abstract heap in which nothing but the script may be tracked
 have core : ∀ H : Hp, Only H → SqL K H a (ns.map V.int) → HOk P w H s₁.heap → (∀ b, H b ≠ none → b = a) → (H a ≠ none → K.lookup a = none) →
   codeAny (model P w) callerA (.call (.ref fa) ⟨[.ref a], []⟩) (fun r s' => r = .ok (.ret (.bool true)) ∧ OldK s₁.heap s'.heap ∧ s'.os = s₁.os ∧ AllBare s'.gens) s₁ := by
  intro H hO hS hok hA hK
  have base_of : ∀ {b : Addr} {o : Obj}, s₁.heap.get? b = some o → H b = none → (hidT s₁.heap H).get? b = some o := fun e n => hidT_get e n
  have noA : ∀ {b : Addr} {o : Obj} {es : Array DictEntry} {ep : Nat}, s₁.heap.get? b = some o → o.data = .dict es ep → H b = none := fun {b o es ep} e d => by
   cases q : H b with
   | none => rfl
   | some u =>
    have e' : b = a := hA b (by rw [q]; simp)
    subst e'
    rw [ha] at e; cases e
    have d' : Data.seq vs.toArray _ = Data.dict es ep := d
    cases d'
  have nsK : ∀ {b : Addr} {m : Str → Option Value}, s₁.heap.Ns b m → (hidT s₁.heap H).Ns b m := fun {b m} ⟨o, es, ep, e, d, r⟩ => ⟨o, es, ep, base_of e (noA e d), d, r⟩
  have hKb : K.In (hidT s₁.heap H) := fun b o e => base_of (KX b o e) (by
   cases q : H b with
   | none => rfl
   | some u =>
    have e' : b = a := hA b (by rw [q]; simp)
    subst e'
    rw [hK (by rw [q]; simp)] at e; cases e)
  have hM : Mod K mg (hidT s₁.heap H) := ⟨hKb, nsK hns, ⟨mb, nsK hb, hbb⟩, let ⟨mc, h1, h2⟩ := hlim; ⟨mc, nsK h1, h2⟩⟩
  have e0 : Env0 P w K mg (hidT s₁.heap H) callerA [] s₁ H := ⟨rfl, hM, fun b o e => of_hidT e, Nat.le_of_eq (hidT_size _ _), trivial, fun b hb => absurd (show b ∈ ([] : List Addr) from hb) (by simp), hok, .of_eq hg⟩
  refine codeAny_mono ((F _ hKb (nsK hns)).run callerA [] s₁ H ⟨[.ref a], []⟩ [.ref a] [.ref a] _ _ hr e0 (hbind s₁ (.ref a)) (.cons rfl .nil) (hsp H hO hS)) fun r s' h => ?_
  cases r with
  | error e => exact (hCX H e s' h).elim
  | ok fl =>
   cases fl with
   | next => exact False.elim h
   | brk => exact False.elim h
   | cont => exact False.elim h
   | ret u =>
    obtain ⟨v, H', os, bare, un, hok', r', q⟩ := h
    have q' : v = .bl true := q
    subst q'
    obtain rfl : u = Value.bool true := r'
    refine ⟨rfl, OldK.of_keep fun b o e => ?_, os, bare⟩
    cases q : H b with
    | none => exact un.keep b o e q (by intro z; exact absurd (show b ∈ ([] : List Addr) from z) (by simp)) (by simp)
    | some u =>
     rcases hO b with z | ⟨ob, xs, z⟩
     ·rw [q] at z; cases z
     ·have z2 := un.frzs b ob _ z
      obtain ⟨e1, _⟩ := hok b _ z
      obtain ⟨e2, _⟩ := hok' b _ z2
      rw [e] at e1; cases e1
      exact e2
 cases hk : K.lookup a with
 | some o =>
  -- the script is one of the module's own objects
  have e := KX a o hk
  rw [ha] at e
  cases e
  refine core (fun _ => none) (fun _ => .inl rfl) (.inr ⟨_, vs.toArray, _, hk, rfl, rfl, rfl, by rw [List.size_toArray, lenV]; exact hl, by simpa using rv⟩) (fun b u z => by have z' : (none : Option HO) = some u := z; cases z') (fun b z => absurd rfl z) fun z => absurd rfl z
 | none =>
  refine core (fun b => if b = a then some (.frz { cls := .type "list", data := .seq vs.toArray } (.lst (ns.map V.int))) else none) (fun b => ?_) (.inl (.inr ⟨{ cls := .type "list", data := .seq vs.toArray }, if_pos rfl⟩)) (fun b u z => ?_) (fun b z => ?_) fun _ => hk
  ·by_cases hb : b = a
   ·exact .inr ⟨_, _, if_pos hb⟩
   ·exact .inl (if_neg hb)
  ·by_cases hb : b = a
   ·have z' := (if_pos hb).symm.trans z
    cases z'
    subst hb
    exact ⟨ha, by rw [List.length_map]; exact hl, vs, _, rv, ha⟩
   ·have z' := (if_neg hb).symm.trans z
    cases z'
  ·by_cases hb : b = a
   ·exact hb
   ·exact absurd (if_neg hb) z
end L2
namespace L2
open PySem PySem.Spec PyProof.Rows
theorem walk_of {l : PySem.W.OpenLaw} {n k : Nat} {q : Program} {loose : List Str} {XP : (Str → Option Value) → Heap → Prop} {YP : World → Heap → Prop} {d : DefRec} {K : Params → PySem.W.Frag} {CX : World → CXT} {sp : World → Sp} {x : Str}
  (hn : l.most = some n) (hn2 : n ≤ sizeLine) (hdf : d.params.defaults = []) (hr : Room k callerA)
  (hY : ∀ (w : World) (h : Heap), YP w h → (K w.params).In h)
  (F : ∀ (w : World) (mg : Str → Option Value) (fa : Addr) (h : Heap), (K w.params).In h → h.Ns mainGlobals mg → mg d.name = some (.ref fa) →
   ∃ fd : FuncData, (∀ (s : Shared) (u : Value), BindsTo s fd ⟨[u], []⟩ [(x, u)]) ∧
    ∀ base : Heap, (K w.params).In base → base.Ns mainGlobals mg → FnOk l.prog w (K w.params) mg base (CX w) k fa fd [x] (sp w))
  (hsp : ∀ (w : World) (H : Hp) (a : Addr) (ns : List Int), ns.length ≤ n → Only H → SqL (K w.params) H a (ns.map V.int) → sp w [.ref a] H (fun v _ => v = .bl true) fun _ _ _ => False)
  (hCX : ∀ (w : World) (H : Hp) (s : Shared) (e : Value) (s' : Shared), CX w [] H s (fun _ _ _ => False) e s' → False) :
  PySem.W.WalkO q loose XP YP l.row.toRowW d [] (fun f vs => PySem.call f vs) := by
 refine Att.attach_call hn hdf fun w s₀ s₁ mg mb fa o pm cd doc a vs ns G Y ho hd hcd hmg hobj hints hlen hg => ?_
 have KX := hY w _ Y
 obtain ⟨fd, hb, hF⟩ := F w mg fa _ KX G.T.g hmg
 exact law_call KX G.T.g G.T.b G.T.builtins G.T.nolimit hg hobj hints (Nat.le_trans hlen hn2) hr hF hb (fun H hO hS => hsp w H a ns hlen hO hS) fun H e s' => hCX w H s₁ e s'
end L2
namespace L2
open PySem PySem.Spec PyProof.Rows
def defArgs (s : Stmt) : Arguments := match s with
 | .FunctionDef _ a _ _ _ _ _ _ _ _ => a
 | _ => { posonlyargs := [], args := [], vararg := none, kwonlyargs := [], kw_defaults := [], kwarg := none, defaults := [] }
def defBody (s : Stmt) : List Stmt := match s with
 | .FunctionDef _ _ b _ _ _ _ _ _ _ => b
 | _ => []
def defScope (s : Stmt) : Scope := match s with
 | .FunctionDef _ _ _ _ _ _ sc _ _ _ => sc
 | _ => { kind := .function, names := [], isGenerator := false, isCoroutine := false }
abbrev CX0 : CXT := fun _ _ _ _ _ _ => False
abbrev E0 : XK := fun _ _ _ => False
theorem pass0 {X : Cx} : Passes CX0 X E0 := fun _ _ _ _ _ _ _ h => h.elim
structure Fun (K : PySem.W.Frag) (x qual : Str) (st : Stmt) (f : Addr) (fd : FuncData) : Prop where
 ex : ∃ (oc : Value) (od : Option Addr) (kV doc pm : Value) (an : Option Addr) (cdv ct : Value) (osl : Array (Option Value)),
  fd = PySem.W.fnOf x qual (defArgs st) (defBody st) (defScope st) .none kV doc pm an cdv ct ∧ K.lookup f = some ⟨oc, od, .func fd, osl⟩ ∧ PySem.W.codeIn K cdv qual = true
 kp : PySem.W.keepIn K (.ref f) = true
section
variable {P : Program} {w : World} {K : PySem.W.Frag} {mg : Str → Option Value} {base : Heap}
theorem Fun.ok {x qual : Str} {st : Stmt} {f : Addr} {fd : FuncData} {N ps : List Str} {k : Nat} {sp : Sp} (F : Fun K x qual st f fd) (S : FnScope N ps (defScope st)) (len : ∀ vs H Q E, sp vs H Q E → vs.length = ps.length)
  (hbody : ∀ (cdv : Value) (A : Around) (outer : List Env) (s : Shared) (H : Hp) (vs : List V) (Q : VK) (E : XK), Room k (A.deeper (envOfC qual (defScope st) s.heap.objs.size f cdv)) → sp vs H Q E →
   ∃ t, PSs (cxOf CX0 P w K mg base N qual (defScope st) f cdv A outer s H E).nox (defBody st) t ∧ t { nx := fun _ H' => Q .non H', rt := Q } (start N vs) H) : FnOk P w K mg base CX0 (k + 1) f fd ps sp := by
 obtain ⟨oc, od, kV, doc, pm, an, cdv, ct, osl, rfl, lk, hcd⟩ := F.ex
 refine fn_of lk hcd S len fun A outer s H vs Q E hr hsp => ?_
 obtain ⟨t, h, q⟩ := hbody cdv A outer s H vs Q E hr hsp
 exact ⟨t, h.nox, q⟩
theorem Fun.binds {x qual : Str} {st : Stmt} {f : Addr} {fd : FuncData} {ps : List Str} (F : Fun K x qual st f fd)
  (h : ∀ (kV doc pm : Value) (an : Option Addr) (cdv ct : Value) (us : List Value), us.length = ps.length → bindArgs (PySem.W.fnOf x qual (defArgs st) (defBody st) (defScope st) .none kV doc pm an cdv ct) ⟨us, []⟩ = pure (ps.zip us)) : Binds K fd ps [] := by
 obtain ⟨oc, od, kV, doc, pm, an, cdv, ct, osl, rfl, lk, hcd⟩ := F.ex
 exact .all (h kV doc pm an cdv ct)
theorem fun_mk {x qual : Str} {st : Stmt} {f : Addr} {oc : Value} {od an : Option Addr} {osl : Array (Option Value)} {kV doc pm cdv ct : Value} (l : K.lookup f = some ⟨oc, od, .func (PySem.W.fnOf x qual (defArgs st) (defBody st) (defScope st) .none kV doc pm an cdv ct), osl⟩)
  (c : PySem.W.codeIn K cdv qual = true) (k : PySem.W.keepIn K (.ref f) = true) : Fun K x qual st f (PySem.W.fnOf x qual (defArgs st) (defBody st) (defScope st) .none kV doc pm an cdv ct) := ⟨⟨oc, od, kV, doc, pm, an, cdv, ct, osl, rfl, l, c⟩, k⟩
end
theorem small1000 {n : Nat} (h : n ≤ 1000) : n < sizeLine := Nat.lt_of_le_of_lt h (by decide)
section
variable {X : Cx}
theorem pv (i : Nat) {x : Str} {pos : Pos} (hN : X.N[i]? = some x := by rfl) (hv : Vis X.env.scope x := by first | exact Or.inl rfl | exact Or.inr (Or.inl rfl) | exact Or.inr (Or.inr rfl)) (hd : (x == ("__debug__" : Str)) = false := by decide)
  (hcd : (x == ("__classdict__" : Str)) = false := by decide) : PE X (.Name x pos) (tVar i) := pe_var hN hv hd hcd
end
theorem ite2 {c A B : Prop} [Decidable c] (h1 : c → A) (h2 : ¬ c → B) : if c then A else B := by
 by_cases h : c
 ·rw [if_pos h]
  exact h1 h
 ·rw [if_neg h]
  exact h2 h
def Same (H H' : Hp) : Prop := ∀ b o, H b = some o → H' b = some o
theorem Same.refl (H : Hp) : Same H H := fun _ _ h => h
theorem Same.trans {H H1 H2 : Hp} (a : Same H H1) (b : Same H1 H2) : Same H H2 := fun c o h => b c o (a c o h)
theorem Same.free {H H' : Hp} (e : Same H H') {l : Addr} (h : H' l = Option.none) : H l = Option.none := by
 cases q : H l with
 | none => rfl
 | some o =>
  rw [e l o q] at h
  cases h
theorem Same.seq {K : PySem.W.Frag} {H H' : Hp} {a : Addr} {xs : List V} (e : Same H H') (h : SqL K H a xs) : SqL K H' a xs := by
 rcases h with (h | ⟨o, h⟩) | h
 ·exact .inl (.inl (e _ _ h))
 ·exact .inl (.inr ⟨o, e _ _ h⟩)
 ·exact .inr h
end L2
set_option Elab.async false
set_option linter.all false
set_option maxRecDepth 100000
namespace L2
open PySem PySem.Spec PyProof.Rows
theorem compLoop_any {prog : Program} {w : World} {A : Around} {R : Result → Shared → Prop} {s : Shared} {elt target iter : Expr} {ifs : List Expr} {scope : Scope} {pos : Pos} {it acc : Value} {env : Env} (I : Nat → Shared → Prop)
  (turn : ∀ n s, I n s → wpAny (model prog w) A (pyNext it) (fun r s₁ => match r with
   | none => R (.ok .next) s₁
   | some v => wpAny (model prog w) A (letOwnedTupleGo target it v) (fun _ s₁' => wpAny (model prog w) A (assign target env v) (fun _ s₂ =>
     wpAny (model prog w) A (forIn ifs true fun c r => if r = true then do let ok ← isTrue c env (eval c env); pure (ForInStep.yield ok) else pure (ForInStep.yield r)) (fun ok s₃ =>
      if ok = true then wpAny (model prog w) A (eval elt env) (fun x s₄ =>
       wpAny (model prog w) A (call (.builtin "list.append") [acc, x]) (fun _ s₅ => ∃ m, m < n ∧ I m s₅) (notedBy (model prog w) A env fun e s' => R (.error e) s') s₄) (notedBy (model prog w) A env fun e s' => R (.error e) s') s₃
      else ∃ m, m < n ∧ I m s₃) (notedBy (model prog w) A env fun e s' => R (.error e) s') s₂) (notedBy (model prog w) A env fun e s' => R (.error e) s') s₁') (notedBy (model prog w) A env fun e s' => R (.error e) s') s₁) (notedBy (model prog w) A env fun e s' => R (.error e) s') s)
  (n : Nat) (h : I n s) :
  codeAny (model prog w) A (.compLoop (.ListComp elt [⟨target, iter, ifs, 0⟩] scope pos) 0 it acc env) R s := by
 refine codeAny_loop rfl I (fun n s hI => ?_) n h
 show wpAny _ A ((compTurn (.ListComp elt [⟨target, iter, ifs, 0⟩] scope pos) 0 it acc env).onRaise (fun x => do noteFrame x env; theTreesLotGoes x)) _ _ s
 refine wpAny_noted ?_
 rw [compTurn_list]
 refine wpAny_bind (wpAny_standAt (wpAny_bind (wpAny_mono (turn n s hI) (fun r s₁ h₁ => ?_) fun _ _ h' => h')))
 cases r with
 | none => exact wpAny_pure h₁
 | some v =>
  refine wpAny_bind (wpAny_mono h₁ (fun _ s₁' h₁' => ?_) fun _ _ h' => h')
  refine wpAny_bind (wpAny_mono h₁' (fun _ s₂ h₂ => wpAny_bind (wpAny_mono h₂ (fun ok s₃ h₃ => ?_) fun _ _ h' => h')) fun _ _ h' => h')
  cases ok with
  | false => exact wpAny_pure ⟨rfl, h₃⟩
  | true =>
   exact wpAny_bind (wpAny_bind (wpAny_mono h₃ (fun x s₄ h₄ => wpAny_bind (wpAny_mono h₄ (fun _ s₅ h₅ => wpAny_pure (wpAny_pure ⟨rfl, h₅⟩)) fun _ _ h' => h')) fun _ _ h' => h'))
structure PTs (X : Cx) (ifs : List Expr) (t : TT) : Prop where
 run : ∀ (pins : List (Addr × Obj)) (s : Shared) (σ : St) (H : Hp) (Q : Bool → Hp → Prop), Inv X pins σ H s → t σ H Q →
  wpAny (model X.prog X.w) X.A (forIn ifs true fun c r => if r = true then do let ok ← isTrue c X.env (eval c X.env); pure (ForInStep.yield ok) else pure (ForInStep.yield r)) (TP X pins σ Q) X.xe s
instance {X : Cx} {ifs : List Expr} {t : TT} : CoeFun (PTs X ifs t) fun _ => ∀ (pins : List (Addr × Obj)) (s : Shared) (σ : St) (H : Hp) (Q : Bool → Hp → Prop), Inv X pins σ H s → t σ H Q → wpAny (model X.prog X.w) X.A (forIn ifs true fun c r => if r = true then do let ok ← isTrue c X.env (eval c X.env); pure (ForInStep.yield ok) else pure (ForInStep.yield r)) (TP X pins σ Q) X.xe s := ⟨PTs.run⟩
def tTrue : TT := fun _ H Q => Q true H
theorem pts_nil {X : Cx} : PTs X [] tTrue := .mk fun _ _ _ H _ I h => wpAny_tests_nil ⟨H, I, h⟩
def compCx (X : Cx) (Nc : List Str) (scope : Scope) (cl : List (Str × Addr)) (C : Addr) (s : Shared) (H : Hp) (fp : List Addr) (E : Value → Shared → Prop) : Cx where
 prog := X.prog
 w := X.w
 K := X.K
 mg := X.mg
 base := X.base
 A := X.A
 N := Nc
 s₀ := s
 H₀ := H
 env := compEnvC scope cl C X.env
 outer := X.stack
 stack := X.stack
 ex := fp
 calm := X.calm
 fn := fun _ => false
 pn := []
 xe := E
def CapOk (X : Cx) (scope : Scope) (cl : List (Str × Addr)) (j : Nat) (x : Str) : Prop :=
 X.N[j]? = some x ∧ Vis X.env.scope x ∧ X.env.kindOf x ≠ some .local ∧ (relabel scope X.env).names.lookup x ≠ some .local ∧ ((relabel scope X.env).names.lookup x = some .cell ∨ (relabel scope X.env).names.lookup x = some .free)
structure CompOk (X : Cx) (scope : Scope) (cl : List (Str × Addr)) (own : List Str) (cap : List (Nat × Str)) : Prop where
 clos : closureFor scope X.env = pure cl
 cell : ∀ y ∈ scope.names, y.2 ≠ .cell
 kind : scope.kind = .function
 names : ∀ y ∈ scope.names, y.2 = .local → scope.names.lookup y.1 = some .local
 sub : ∀ x c, cl.lookup x = some c → X.env.cells.lookup x = some c
 has : ∀ p ∈ (relabel scope X.env).names, p.2 = .cell ∨ p.2 = .free → (cl.lookup p.1).isSome = true
 caps : ∀ p ∈ cap, CapOk X scope cl p.1 p.2
def compSt (own : List Str) (cap : List (Nat × Str)) (σ : St) : St := List.replicate own.length none ++ cap.map fun p => (σ[p.1]?).getD none
theorem lookup_mem {α : Type} : ∀ {l : List (Str × α)} {n : Str} {c : α}, l.lookup n = some c → (n, c) ∈ l := fun h => mem_of_lookup h
section
variable {X : Cx} {pins : List (Addr × Obj)} {σ : St} {H : Hp} {s : Shared} {scope : Scope} {cl : List (Str × Addr)} {own : List Str} {cap : List (Nat × Str)} {fp : List Addr} {E : Value → Shared → Prop}
theorem CompOk.hasX (c : CompOk X scope cl own cap) (x : Str) (h : (relabel scope X.env).names.lookup x = some .cell ∨ (relabel scope X.env).names.lookup x = some .free) : ∃ a, cl.lookup x = some a := by
 have : (cl.lookup x).isSome = true := by
  rcases h with h | h
  ·exact c.has (x, .cell) (lookup_mem h) (.inl rfl)
  ·exact c.has (x, .free) (lookup_mem h) (.inr rfl)
 exact Option.isSome_iff_exists.mp this
theorem comp_ok (c : CompOk X scope cl own cap) (I : Inv X pins σ H s) (hf : ∀ b ∈ fp, FpOk X pins H b) (hlt : ∀ b ∈ fp, b < s.heap.objs.size) {C : Addr} (hC : s.heap.objs.size ≤ C) :
  (compCx X (own ++ cap.map (·.2)) scope cl C s H fp E).Ok where
 mod := I.ok.mod
 kind := c.kind
 glob := I.ok.glob
 blt := I.ok.blt
 above := hC
 inj := fun x y a h1 h2 => I.ok.inj x y a (c.sub x a h1) (c.sub y a h2)
 has := fun x h => c.hasX x h
 cab := fun x a h => absurd h (by intro z; exact Bool.noConfusion z)
 hd := I.ok.hd
 frames := I.ok.frames
 stk := .inl rfl
 exf := fun b hb => ⟨fun z => by
   have := hlt b hb
   rw [z] at this
   exact absurd (Nat.lt_of_lt_of_le this hC) (Nat.lt_irrefl _), fun x a h => (hf b hb).2.2.2.2.1 x a (c.sub x a h)⟩
 bs := I.bs
 bsz := Nat.le_trans I.ok.bsz I.sz
 noex := fun b o e hb => by
  rcases (hf b hb).2.2.2.1 with z | z
  ·exact I.ok.noex b o e z
  ·exact absurd (Nat.lt_of_lt_of_le (Heap.lt_size (I.ok.bs b o e).1) z) (Nat.lt_irrefl _)
 exfs := fun b hb hs => by
  rcases List.mem_cons.mp (I.stkSub b hs) with z | z
  ·exact (hf b hb).2.1 z
  ·exact (hf b hb).2.2.1 z
 funs := I.stack
 frf := I.stkFree
theorem compSt_get {own : List Str} {cap : List (Nat × Str)} {σ : St} {i : Nat} {x : Str} {v : V} (h1 : (own ++ cap.map (·.2))[i]? = some x) (h2 : (compSt own cap σ)[i]? = some (some v)) : ∃ p ∈ cap, p.2 = x ∧ σ[p.1]? = some (some v) := by
 unfold compSt at h2
 by_cases hi : i < own.length
 ·rw [List.getElem?_append_left (by simpa using hi), List.getElem?_replicate] at h2
  split at h2 <;> cases h2
 ·rw [List.getElem?_append_right (by simpa using hi)] at h2 h1
  rw [List.length_replicate, List.getElem?_map] at h2
  rw [List.getElem?_map] at h1
  cases e : cap[i - own.length]? with
  | none => rw [e] at h2; cases h2
  | some p =>
   rw [e] at h1 h2
   refine ⟨p, List.mem_of_getElem? e, Option.some.inj h1, ?_⟩
   have h3 : (σ[p.1]?).getD none = some v := Option.some.inj h2
   cases q : σ[p.1]? with
   | none => rw [q] at h3; cases h3
   | some z => rw [q] at h3; exact congrArg some h3
theorem comp_inv (c : CompOk X scope cl own cap) (I : Inv X pins σ H s) (hf : ∀ b ∈ fp, FpOk X pins H b) (hlt : ∀ b ∈ fp, b < s.heap.objs.size) {h₁ : Heap} {tk : Nat} {m : Str → Option Value}
  (hk : ∀ b o, s.heap.get? b = some o → h₁.get? b = some o) (hD : h₁.get? s.heap.objs.size = some { cls := .type "list", data := .seq ([] : List Value).toArray }) (hn : h₁.Ns (s.heap.objs.size + 1) m) :
  Inv (compCx X (own ++ cap.map (·.2)) scope cl (s.heap.objs.size + 1) s H fp E) [] (compSt own cap σ) (upd H s.heap.objs.size (.lst [])) { s with heap := h₁, toks := tk } := by
 have hfr : H s.heap.objs.size = none := I.fresh
 have hfr1 : H (s.heap.objs.size + 1) = none := I.hok.fresh (Nat.le_succ _)
 have hnew : ObjOk X.prog X.w (upd H s.heap.objs.size (.lst [])) h₁ s.heap.objs.size (.lst []) := ⟨Nat.zero_le _, [], 0, .nil, hD⟩
 refine ⟨comp_ok c I hf hlt (Nat.le_succ _), rfl, I.bare, Un.laid hk (Nat.le_refl _) hfr, ⟨m, hn, fun i x v e1 e2 _ => ?_⟩, fun x a e => ?_, ?_, fun x a e => ?_, fun p hp => absurd (show p ∈ ([] : List (Addr × Obj)) from hp) (by simp), I.hok.laid hk (Nat.le_refl _) hnew, ?_⟩
 ·obtain ⟨p, hp, ex, es⟩ := compSt_get e1 e2
  obtain ⟨q1, q2, q3, q4, q5⟩ := c.caps p hp
  rw [ex] at q1 q2 q3 q4 q5
  obtain ⟨m', hn', hl⟩ := I.loc
  obtain ⟨u, r, l⟩ := hl p.1 x v q1 es q2
  refine ⟨u, r, ?_⟩
  rcases l with l | ⟨k, a, e, z⟩
  ·exact absurd l.1 q3
  ·obtain ⟨a', e'⟩ := c.hasX x q5
   have ea := c.sub x a' e'
   rw [e] at ea
   cases ea
   exact .inr ⟨q5, a, e', z.keeps hk⟩
 ·obtain ⟨v, z⟩ := I.cell x a (c.sub x a e)
  exact ⟨v, z.keeps hk⟩
 ·show upd H s.heap.objs.size (.lst []) (s.heap.objs.size + 1) = none
  rw [upd_ne (Nat.succ_ne_self _)]
  exact hfr1
 ·obtain ⟨v, z⟩ := I.cell x a (c.sub x a e)
  show upd H s.heap.objs.size (.lst []) a = none
  rw [upd_ne (Nat.ne_of_lt z.lt)]
  exact I.freeC x a (c.sub x a e)
 ·show (compSt own cap σ).length = (own ++ cap.map (·.2)).length
  simp [compSt]
theorem comp_after {s2 : Shared} {H' : Hp} {σ' : St} {C : Addr} {Nc : List Str} {pins' : List (Addr × Obj)} (I : Inv X pins σ H s) (hf : ∀ b ∈ fp, FpOk X pins H b) (hC : s.heap.objs.size ≤ C) (J : Inv (compCx X Nc scope cl C s H fp E) pins' σ' H' s2) :
  Inv X pins σ H' s2 ∧ FpOk X pins H' C := by
 have os : s2.os = s.os := J.os
 have un : Un (frs X.stack) fp H H' s.heap s2.heap := J.base
 exact ⟨I.call' os un J.hok J.bare fun b hb => ⟨(hf b hb).2.2.2.1, (hf b hb).2.1, (hf b hb).2.2.2.2.1, (hf b hb).2.2.2.2.2⟩, I.fpOk hC J.free⟩
end
def tComp (wi : TI) (g : TG) (tc : TT) (te : TE) (own : List Str) (cap : List (Nat × Str)) : TE := fun σ H Q => wi σ H fun J H1 => ∀ D, H1 D = none →
 ∃ W : Nat → Nat → St → List V → Hp → Prop, (∃ m, W 0 m (compSt own cap σ) [] (upd H1 D (.lst []))) ∧ ∀ i m σ' ys H', W i m σ' ys H' → H' D = some (.lst ys) ∧
  ((J.stop i H' ∧ Q (.ref D) H') ∨ (J.go i H' ∧ ys.length < sizeLine ∧ ∃ N : St → List V → Hp → Prop, (∀ σ ys H, N σ ys H → ∃ m', m' < m ∧ W (i + 1) m' σ ys H) ∧ ∀ x H2, J.yld i H' x H2 → g x σ' H2 fun σ3 H3 => tc σ3 H3 fun b H4 => if b = true then te σ3 H4 fun y H5 => H5 D = some (.lst ys) ∧ N σ3 (ys ++ [y]) (upd H5 D (.lst (ys ++ [y])))
   else N σ3 ys H4))
section
variable {X : Cx} {scope : Scope} {cl : List (Str × Addr)} {own : List Str} {cap : List (Nat × Str)} {tg iter elt : Expr} {ifs : List Expr} {wi : TI} {g : TG} {tc : TT} {te : TE} {pos : Pos}
theorem comp_block {pins : List (Addr × Obj)} {σ : St} {s2 : Shared} {H2 : Hp} {it : Addr} {fp : List Addr} {tn : Nat → Heap → Prop} {J : It} {Q : VK} {RR : Value → Addr → Result → Shared → Prop} {E' : Value → Shared → Prop}
  (c : CompOk X scope cl own cap) (hc : X.calm = true)
  (hg : ∀ C s H fp, PG (compCx X (own ++ cap.map (·.2)) scope cl C s H fp fun _ _ => False) tg g) (ht : ∀ C s H fp, PTs (compCx X (own ++ cap.map (·.2)) scope cl C s H fp fun _ _ => False) ifs tc)
  (he : ∀ C s H fp, PE (compCx X (own ++ cap.map (·.2)) scope cl C s H fp fun _ _ => False) elt te)
  (I2 : Inv X pins σ H2 s2) (T : Turn X.prog X.w X.K tg J fp it tn) (st2 : tn 0 s2.heap) (f2 : ∀ b ∈ fp, FpOk X pins H2 b)
  (hw : ∀ D, H2 D = none → ∃ W : Nat → Nat → St → List V → Hp → Prop, (∃ m, W 0 m (compSt own cap σ) [] (upd H2 D (.lst []))) ∧ ∀ i m σ' ys H', W i m σ' ys H' → H' D = some (.lst ys) ∧
   ((J.stop i H' ∧ Q (.ref D) H') ∨ (J.go i H' ∧ ys.length < sizeLine ∧ ∃ N : St → List V → Hp → Prop, (∀ σ ys H, N σ ys H → ∃ m', m' < m ∧ W (i + 1) m' σ ys H) ∧ ∀ x H2, J.yld i H' x H2 → g x σ' H2 fun σ3 H3 => tc σ3 H3 fun b H4 => if b = true then te σ3 H4 fun y H5 => H5 D = some (.lst ys) ∧ N σ3 (ys ++ [y]) (upd H5 D (.lst (ys ++ [y])))
    else N σ3 ys H4)))
  (hRR : ∀ D C s' H' m, Inv X pins σ H' s' → FpOk X pins H' C → s'.heap.Ns C m → Q (.ref D) H' → RR (.ref D) C (.ok .next) s') :
  wpAny (model X.prog X.w) X.A (newList []) (fun acc s₃ => wpAny (model X.prog X.w) X.A (newFunctionEnv scope X.env.globals cl [] X.env.qual none .none (some X.env)) (fun cenv s₄ =>
   codeAny (model X.prog X.w) X.A (.compStart (.ListComp elt [⟨tg, iter, ifs, 0⟩] scope pos) 0 (.ref it) acc { cenv with scope := relabel scope X.env }) (RR acc cenv.locals) s₄) E' s₃) E' s2 := by
 refine wpAny_newObj_type (wpAny_newFunctionEnv c.cell (by intro y hy; simp at hy) (fun h₁ hns₁ hsb₁ => ?_) c.kind)
 dsimp only at hns₁ hsb₁ ⊢
 have hsz : (s2.heap.push { cls := .type "list", dict := none, data := .seq ([] : List Value).toArray }).objs.size = s2.heap.objs.size + 1 := Heap.size_push _ _
 have kk : ∀ b o, s2.heap.get? b = some o → h₁.get? b = some o := fun b o e => hsb₁.extBut b o (by rw [hsz]; exact Nat.ne_of_lt (Nat.lt_succ_of_lt (Heap.lt_size e))) (Heap.get?_push_of_some _ (Heap.get?_push_of_some _ e))
 have hD : h₁.get? s2.heap.objs.size = some { cls := .type "list", data := .seq ([] : List Value).toArray } :=
  hsb₁.extBut _ _ (by rw [hsz]; exact Nat.ne_of_lt (Nat.lt_succ_self _)) (Heap.get?_push_of_some _ (Heap.get?_push_size _ rfl))
 rw [hsz] at hns₁ ⊢
 have hlt : ∀ b ∈ fp, b < s2.heap.objs.size := fun b hb => by
  obtain ⟨o, e, _⟩ := T.obj _ _ st2 b hb
  exact Heap.lt_size e
 obtain ⟨W, ⟨m0, w0⟩, turn⟩ := hw s2.heap.objs.size I2.fresh
 have J1 := comp_inv (E := fun _ _ => False) c I2 f2 hlt (tk := s2.toks + ([] : List (Str × Value)).length) kk hD hns₁
 generalize hX' : compCx X (own ++ cap.map (·.2)) scope cl (s2.heap.objs.size + 1) s2 H2 fp (fun _ _ => False) = X' at J1
 have hg' : PG X' tg g := hX' ▸ hg _ _ _ _
 have ht' : PTs X' ifs tc := hX' ▸ ht _ _ _ _
 have he' : PE X' elt te := hX' ▸ he _ _ _ _
 have pX : X'.prog = X.prog := by rw [← hX']; rfl
 have wX : X'.w = X.w := by rw [← hX']; rfl
 have kX : X'.K = X.K := by rw [← hX']; rfl
 have aX : X'.A = X.A := by rw [← hX']; rfl
 have cX : X'.calm = true := by rw [← hX']; exact hc
 have nX : X'.env = compEnvC scope cl (s2.heap.objs.size + 1) X.env := by rw [← hX']; rfl
 have xX : X'.xe = fun _ _ => False := by rw [← hX']; rfl
 have fX : ∀ b ∈ fp, ∀ {H' : Hp}, H' b = none → FpOk X' [] H' b := fun b hb {H'} hn => by
  have o1 := (comp_ok (E := fun _ _ => False) c I2 f2 hlt (C := s2.heap.objs.size + 1) (Nat.le_succ _)).exf b hb
  have o2 := (comp_ok (E := fun _ _ => False) c I2 f2 hlt (C := s2.heap.objs.size + 1) (Nat.le_succ _)).exfs b hb
  rw [← hX']
  exact ⟨hn, o1.1, o2, .inl hb, o1.2, fun p hp => absurd (show p ∈ ([] : List (Addr × Obj)) from hp) (by simp)⟩
 have fin : ∀ {σ' : St} {H' : Hp} {s' : Shared}, Inv X' [] σ' H' s' → Q (.ref s2.heap.objs.size) H' → RR (.ref s2.heap.objs.size) (s2.heap.objs.size + 1) (.ok .next) s' := fun {σ' H' s'} J' q => by
  rw [← hX'] at J'
  obtain ⟨A1, A2⟩ := comp_after I2 f2 (Nat.le_succ _) J'
  obtain ⟨m, hm, _⟩ := J'.loc
  exact hRR _ _ s' H' m A1 A2 hm q
 have loop : codeAny (model X.prog X.w) X.A (.compLoop (.ListComp elt [⟨tg, iter, ifs, 0⟩] scope pos) 0 (.ref it) (.ref s2.heap.objs.size) (compEnvC scope cl (s2.heap.objs.size + 1) X.env)) (RR (.ref s2.heap.objs.size) (s2.heap.objs.size + 1))
   { s2 with heap := h₁, toks := s2.toks + ([] : List (Str × Value)).length } := by
  refine compLoop_any (fun n s' => ∃ i σ' ys H', Inv X' [] σ' H' s' ∧ tn i s'.heap ∧ (∀ b ∈ fp, H' b = none) ∧ W i n σ' ys H') ?_ m0
   ⟨0, _, [], _, J1, T.keep _ _ _ st2 fun b _ o e => kk b o e, fun b hb => by rw [upd_ne (Nat.ne_of_lt (hlt b hb))]; exact (f2 b hb).1, w0⟩
  rintro n s3 ⟨i, σ3, ys, H3, I3, st3, fr3, w3⟩
  obtain ⟨hDl, w4⟩ := turn i n σ3 ys H3 w3
  rw [← nX, ← aX, ← pX, ← wX]
  have nox : ∀ {α : Type} {t : Sem α} {Q1 : α → Shared → Prop} {E1 : Value → Shared → Prop} {s : Shared}, wpAny (model X'.prog X'.w) X'.A t Q1 X'.xe s → wpAny (model X'.prog X'.w) X'.A t Q1 E1 s := fun {α t Q1 E1 s} h => by
   rw [xX] at h
   exact wpAny_mono h (fun _ _ q => q) fun _ _ f => f.elim
  rcases w4 with ⟨stop, qn⟩ | ⟨go, hys, N, hN, step⟩
  ·have d := T.done X' pX wX kX cX i [] s3 σ3 H3 X'.xe I3 (fun b hb => fX b hb (fr3 b hb)) st3 stop
   rw [← pX, ← wX] at d
   refine nox (thn d fun r s4 ⟨hr, I4⟩ => ?_)
   subst hr
   exact fin I4 qn
  ·have d := T.item X' pX wX kX cX i [] s3 σ3 H3 X'.xe I3 (fun b hb => fX b hb (fr3 b hb)) st3 go
   rw [← pX, ← wX] at d
   refine nox (thn d fun r s4 ⟨u, hr, h4⟩ => ?_)
   subst hr
   refine nox (thn h4 fun _ s5 ⟨x, H5, I5, r5, y5, st5, fr5⟩ => ?_)
   have I5' := I5.pinned (fun b hb => fX b hb (fr5 b hb)) (T.obj _ _ st5)
   have again : ∀ {σ7 : St} {H7 : Hp} {s7 : Shared} {ys' : List V}, Inv X' ([] ++ pinsAt fp s5.heap) σ7 H7 s7 → N σ7 ys' H7 →
     ∃ m, m < n ∧ ∃ i σ' ys H', Inv X' [] σ' H' s7 ∧ tn i s7.heap ∧ (∀ b ∈ fp, H' b = none) ∧ W i m σ' ys H' := fun {σ7 H7 s7 ys'} I7 n7 => by
    obtain ⟨m', hm, w7⟩ := hN _ _ _ n7
    refine ⟨m', hm, i + 1, σ7, ys', H7, I7.unpinned, T.keep _ _ _ st5 fun b hb o e => (I7.pin (b, o) (List.mem_append_right _ (List.mem_append_right _ (mem_pinsAt hb e)))).1, fun b hb => ?_, w7⟩
    obtain ⟨o, e, d⟩ := T.obj _ _ st5 b hb
    exact (I7.pin (b, o) (List.mem_append_right _ (List.mem_append_right _ (mem_pinsAt hb e)))).2.1
   refine nox (thn (hg' _ s5 σ3 H5 x u _ I5' r5 (step x H5 y5)) fun _ s6 ⟨σ6, H6, I6, q6⟩ => ?_)
   refine nox (thn (ht' _ s6 σ6 H6 _ I6 q6) fun b s7 ⟨H7, I7, q7⟩ => ?_)
   cases b with
   | false =>
    rw [if_neg Bool.false_ne_true] at q7 ⊢
    exact again I7 q7
   | true =>
    rw [if_pos rfl] at q7 ⊢
    refine nox (thn (he' _ s7 σ6 H7 _ I7 q7) fun u8 s8 ⟨y8, H8, I8, r8, d8, q8⟩ => ?_)
    refine nox (thn (mt_append _ s8 σ6 H8 (.ref s2.heap.objs.size) [y8] (.ref s2.heap.objs.size) [u8] (fun _ H9 => N σ6 (ys ++ [y8]) H9) I8 rfl (.cons r8 .nil) ⟨_, ys, y8, rfl, rfl, d8, hys, q8⟩) fun _ s9 ⟨_, H9, I9, _, q9⟩ => ?_)
    exact again I9 q9
 exact codeAny_compStart_list loop (T.self X.A 0 _ _ _ (T.keep _ _ _ st2 fun b _ o e => kk b o e) loop)
theorem pe_comp (c : CompOk X scope cl own cap) (hc : X.calm = true) (hi : PI X tg iter wi)
  (hg : ∀ C s H fp, PG (compCx X (own ++ cap.map (·.2)) scope cl C s H fp fun _ _ => False) tg g) (ht : ∀ C s H fp, PTs (compCx X (own ++ cap.map (·.2)) scope cl C s H fp fun _ _ => False) ifs tc)
  (he : ∀ C s H fp, PE (compCx X (own ++ cap.map (·.2)) scope cl C s H fp fun _ _ => False) elt te) (hs : ∀ x, foldedSetIterable iter X.env x = pure x := by intro _; rfl) :
  PE X (.ListComp elt [⟨tg, iter, ifs, 0⟩] scope pos) (tComp wi g tc te own cap) := by
 refine .mk ?_
 intro pins s σ H Q I h
 rw [eval_ListComp]
 refine wpAny_comprehension_free (use := none) rfl hs c.clos c.kind c.names (thn (hi pins s σ H _ I h) fun v s1 h1 => thn h1 fun itv s2 h2 => ?_)
 obtain ⟨it, fp, tn, J, H2, e, I2, T, st2, f2, hw⟩ := h2
 subst e
 refine comp_block (Q := Q) (RR := fun acc C => compPost (model X.prog X.w) X.A X.xe none (EP X pins σ Q) acc C) c hc hg ht he I2 T st2 f2 hw ?_
 intro D C s' H' m I' hC hm q
 refine ⟨m, hm, fun h' hs' => ⟨.ref D, H', ?_, rfl, q⟩⟩
 exact I'.turned (t' := s'.toks) (fun b o hb e => (hs'.2 b hb).trans e) hC.1 hC.2.1 hC.2.2.2.1 hC.2.2.2.2.1 hC.2.2.2.2.2
end
section
variable {K : PySem.W.Frag} {a : Addr} {xs : List V} {g : TG} {tc : TT} {te : TE} {own : List Str} {cap : List (Nat × Str)} {σ : St} {H1 : Hp} {QD : Hp → Prop} {D : Addr}
end
end L2
set_option Elab.async false
set_option linter.all false
set_option maxRecDepth 100000
namespace L2
open PySem PySem.Spec PyProof.Rows
section
variable {X : Cx}
theorem op_mulB : OpR X (binaryOp .Mult) (rI (fun i j => i.natAbs < 2 ^ 200 ∧ j.natAbs < 2 ^ 200) fun i j => .int (i * j)) :=
 opI fun i j _ _ _ _ _ hc q => mul_int q (.of_bits (Nat.le_trans (intBits_le hc.1) (by decide)) (Nat.le_trans (intBits_le hc.2) (by decide)))
end
section
variable {prog : Program} {w : World} {A : Around} {R : Result → Shared → Prop} {I : Addr} {fp wr : List Addr} {n : Nat} {P : Nat → Value → Prop} {St : Nat → Heap → Prop}
end
def topOf : List Int → Int
 | [] => 0
 | [x] => x
 | x :: y :: r => max x (topOf (y :: r))
section
variable {X : Cx} {x : Str} {e v : Expr} {te tv : TE} {p pos kpos : Pos}
end
section
variable {X : Cx}
end
def cutN {α : Type} (xs : List α) (lo hi : Option Int) : List α := (xs.drop (HT.sIx xs.length 0 lo)).take (HT.sIx xs.length xs.length hi - HT.sIx xs.length 0 lo)
theorem cutN_length {α : Type} (xs : List α) (lo hi : Option Int) : (cutN xs lo hi).length ≤ xs.length := by
 unfold cutN
 rw [List.length_take, List.length_drop]
 omega
theorem clip1 (v : Int) (n d : Nat) : max (0 : Int) (min (if v < 0 then v + (n : Int) else v) (n : Int)) = ((HT.sIx n d (some v) : Nat) : Int) := by
 show _ = (((if v < 0 then (v + (n : Int)).toNat else min v.toNat n) : Nat) : Int)
 by_cases hv : v < 0
 ·rw [if_pos hv, if_pos hv]; omega
 ·rw [if_neg hv, if_neg hv]; omega
theorem idx_clip (lo hi : Option Int) (n : Nat) : Builtin.Str.strSliceIndices lo hi 1 n = Builtin.Str.strSliceIndices (some ((HT.sIx n 0 lo : Nat) : Int)) (some ((HT.sIx n n hi : Nat) : Int)) 1 n := by
 have a1 := HT.sIx_le n 0 (Nat.zero_le _) lo
 have a2 := HT.sIx_le n n (Nat.le_refl _) hi
 have n1 : ¬ (((HT.sIx n 0 lo : Nat) : Int) < 0) := by omega
 have n2 : ¬ (((HT.sIx n n hi : Nat) : Int) < 0) := by omega
 have e1 : max (0 : Int) (min ((HT.sIx n 0 lo : Nat) : Int) (n : Int)) = ((HT.sIx n 0 lo : Nat) : Int) := by omega
 have e2 : max (0 : Int) (min ((HT.sIx n n hi : Nat) : Int) (n : Int)) = ((HT.sIx n n hi : Nat) : Int) := by omega
 have p1 : ((1 : Int) > 0) = True := by simp
 simp only [Builtin.Str.strSliceIndices, n1, n2, if_false, e1, e2, p1, if_true]
 cases lo with
 | none =>
  cases hi with
  | none => rfl
  | some v => simp only [clip1 v n n]; rfl
 | some u =>
  cases hi with
  | none => simp only [clip1 u n 0]; rfl
  | some v => simp only [clip1 u n 0, clip1 v n n]
theorem idx_none {a b n : Nat} (h : b ≤ a) : Builtin.Str.strSliceIndices (some (a : Int)) (some (b : Int)) 1 n = [] := by
 have n1 : ¬ ((a : Int) < 0) := by omega
 have n2 : ¬ ((b : Int) < 0) := by omega
 have p1 : ((1 : Int) > 0) = True := by simp
 have p2 : ¬ (max (0 : Int) (min (a : Int) (n : Int)) < max (0 : Int) (min (b : Int) (n : Int))) := by omega
 simp only [Builtin.Str.strSliceIndices, PySem.sliceRange, n1, n2, if_false, p1, if_true, p2]
 rfl
theorem strIdx_cut (x : Str) (lo hi : Option Int) : (StrLaws.sliceText x lo hi).cps.toList = cutN x.cps.toList lo hi := by
 have hn : x.cps.toList.length = x.length := by simp [Str.length]
 unfold cutN
 rw [hn]
 have a2 := HT.sIx_le x.length x.length (Nat.le_refl _) hi
 by_cases h : HT.sIx x.length 0 lo ≤ HT.sIx x.length x.length hi
 ·have q := StrLaws.sliceText_nat x h a2
  have e : StrLaws.sliceText x lo hi = StrLaws.sliceText x (some ((HT.sIx x.length 0 lo : Nat) : Int)) (some ((HT.sIx x.length x.length hi : Nat) : Int)) := by
   unfold StrLaws.sliceText
   rw [idx_clip lo hi x.length]
  rw [e, q]
 ·have z : HT.sIx x.length x.length hi - HT.sIx x.length 0 lo = 0 := by omega
  rw [z, List.take_zero]
  unfold StrLaws.sliceText
  rw [idx_clip lo hi x.length, idx_none (by omega)]
  split
  ·rename_i c
   have c' : (0 : Nat) = x.length := by simpa using c
   exact List.eq_nil_of_length_eq_zero (by rw [hn]; exact c'.symm)
  ·rfl
def rSlS : V → Option Int → Option Int → Hp → VK → Prop := fun x lo hi H Q => ∃ z : Str, x = .str z ∧ z.length ≤ sizeLine ∧ ∀ y : Str, y.cps.toList = cutN z.cps.toList lo hi → Q (.str y) H
theorem sl_str {X : Cx} : SlR X rSlS := by
 intro pins s σ H x v vl vu lo hi sl Q I rx hs pl pu h
 obtain ⟨z, rfl, hz, q⟩ := h
 obtain ⟨t, rfl⟩ := rx
 refine ⟨"str", _, F.slot_str_getitem.lookup, typeIs_str _ z t, ?_⟩
 have fin : ∀ (l u : Option (Int × Tok)), l.map (·.1) = lo → u.map (·.1) = hi → s.heap.IsSlice sl l u none → wpAny (model X.prog X.w) X.A (getItem (.str z t) (.ref sl)) (EP X pins σ Q) X.xe s := fun l u el eu hq => by
  refine wpAny_getItem_str_slice hq rfl ?_
  have hc := strIdx_cut z lo hi
  unfold StrLaws.sliceText at hc
  unfold sliceMade slicePicked
  rw [el, eu]
  show (if ((1 : Int) == 1 && (Builtin.Str.strSliceIndices lo hi 1 z.length).length == z.length) = true then Made.val (.str z t) else .str ⟨((Builtin.Str.strSliceIndices lo hi 1 z.length).filterMap (z.cps[·]?)).toArray⟩).post (EP X pins σ Q) s
  split
  ·rename_i c
   rw [if_pos c] at hc
   exact ⟨.str z, H, I, ⟨t, rfl⟩, q z hc⟩
  ·rename_i c
   rw [if_neg c] at hc
   have hl : (Str.mk ((Builtin.Str.strSliceIndices lo hi 1 z.length).filterMap (z.cps[·]?)).toArray).length ≤ z.length := by
    have e := cutN_length z.cps.toList lo hi
    rw [← hc] at e
    simpa [Str.length] using e
   exact ⟨Nat.le_trans hl hz, .str ⟨((Builtin.Str.strSliceIndices lo hi 1 z.length).filterMap (z.cps[·]?)).toArray⟩, H, I.tok _, ⟨_, rfl⟩, q _ hc⟩
 cases pl with
 | none =>
  cases pu with
  | none => exact fin none none rfl rfl hs
  | int j t' => exact fin none (some (j, t')) rfl rfl hs
 | int i t'' =>
  cases pu with
  | none => exact fin (some (i, t'')) none rfl rfl hs
  | int j t' => exact fin (some (i, t'')) (some (j, t')) rfl rfl hs
section
variable {X : Cx} {x : Expr} {te : TE} {p p2 pos : Pos} {T : Str} {Ty : String}
def tInst (K : PySem.W.Frag) (Ty : String) (te : TE) : TE := fun σ H Q => te σ H fun v H1 => ∃ v', [v, V.ty Ty] = [v', V.ty Ty] ∧ ∃ t b, TyOf K H1 v' t ∧ PySem.W.kitOne K t (.type Ty) = some b ∧ Q (.bl b) H1
theorem pe_inst (hg : Gl X "isinstance") (hm : X.mg "isinstance" = none) (hgT : Gl X T) (hmT : X.mg T = none) (hvT : bootBuiltins T = some (.type Ty)) (he : PE X x te) (hn : T ≠ "__name__" := by decide) (hdT : (T == ("__debug__" : Str)) = false := by decide)
  (hs : starEach [x, .Name T p2] X.env = (false, eval x X.env) :: starEach [.Name T p2] X.env := by rfl) (hs2 : starEach [.Name T p2] X.env = [(false, eval (.Name T p2) X.env)] := by rfl)
  (hpl : (backTo pos (starEach [.Name T p2] X.env)).any (·.1) = false := by rfl) :
  PE X (.Call (.Name "isinstance" p) [x, .Name T p2] [] pos) (tInst X.K Ty te) := by
 have c : CallR X (.builtin "isinstance") (fun xs H Q => ∃ v, xs = [v, .ty Ty] ∧ ∃ t b, TyOf X.K H v t ∧ PySem.W.kitOne X.K t (.type Ty) = some b ∧ Q (.bl b) H) := by
  intro pins s σ H xs us Q I r h
  obtain ⟨v, rfl, t, b, ty, e, q⟩ := h
  obtain ⟨u, w', rfl, ru, rw'⟩ := vals2 r
  cases (show w' = Value.type Ty from rw')
  exact isinst_ok I ru ty e fun tk => ⟨.bl b, H, I.tok tk, rfl, q⟩
 have pa : PA X [x, .Name T p2] (tCons te (tCons (tC (.ty Ty)) tNil)) := pa_cons he (pa_cons (pe_bltn hgT hmT hvT rfl hn hdT) pa_nil hs2) hs
 exact pe_callB (p := p) (pos := pos) c hg hm PyProof.Rows.boot_isinstance pa (by decide) (by decide) hs hpl
end
end L2
set_option Elab.async false
set_option linter.all false
set_option maxRecDepth 100000
namespace L2
open PySem PySem.Spec PyProof.Rows
def Callee (P : Program) (w : World) (K : PySem.W.Frag) (mg : Str → Option Value) (base : Heap) (x : Str) (k : Nat) (ps : List Str) (sp : Sp) : Prop :=
 ∃ f fd, FnOk P w K mg base CX0 k f fd ps sp ∧ mg x = some (.ref f) ∧ PySem.W.keepIn K (.ref f) = true ∧ Binds K fd ps []
theorem Callee.mono {P : Program} {w : World} {K : PySem.W.Frag} {mg : Str → Option Value} {base : Heap} {x : Str} {j k : Nat} {ps : List Str} {sp : Sp} (c : Callee P w K mg base x j ps sp) (h : j ≤ k) : Callee P w K mg base x k ps sp := by
 obtain ⟨f, fd, F, m, kp, b⟩ := c
 exact ⟨f, fd, F.mono h, m, kp, b⟩
theorem Callee.imp {P : Program} {w : World} {K : PySem.W.Frag} {mg : Str → Option Value} {base : Heap} {x : Str} {k : Nat} {ps : List Str} {sp sp' : Sp} (c : Callee P w K mg base x k ps sp) (h : ∀ vs H Q E, sp' vs H Q E → sp vs H Q E) : Callee P w K mg base x k ps sp' := by
 obtain ⟨f, fd, F, m, kp, b⟩ := c
 exact ⟨f, fd, F.imp h, m, kp, b⟩
section
variable {X : Cx} {x : Str} {k j : Nat} {ps : List Str} {sp : Sp} {p pos : Pos} {e : Expr} {es : List Expr} {t : TA}
theorem pe_callC (c : Callee X.prog X.w X.K X.mg X.base x k ps sp) (hr : Room j X.A) (hk : k ≤ j) (hg : Gl X x) (ha : PA X (e :: es) t) (hdb : (x == ("__debug__" : Str)) = false := by decide)
  (he : starEach (e :: es) X.env = (false, eval e X.env) :: starEach es X.env := by rfl) (hpl : (backTo pos (starEach es X.env)).any (·.1) = false := by rfl) : PE X (.Call (.Name x p) (e :: es) [] pos) (tCall sp [] E0 t) := by
 obtain ⟨f, fd, F, m, kp, b⟩ := c
 exact pe_call F (hr.mono hk) hg m kp b .nil pass0 ha hdb he hpl
theorem pe_callC0 (c : Callee X.prog X.w X.K X.mg X.base x k ps sp) (hr : Room j X.A) (hk : k ≤ j) (hg : Gl X x) (hdb : (x == ("__debug__" : Str)) = false := by decide) : PE X (.Call (.Name x p) [] [] pos) (tCall sp [] E0 tNil) := by
 obtain ⟨f, fd, F, m, kp, b⟩ := c
 exact pe_call0 F (hr.mono hk) hg m kp b .nil pass0 hdb
end
section
variable {X : Cx} {scope : Scope} {own : List Str}
theorem mem_relabel {env : Env} {p : Str × NameKind} (h : p ∈ (relabel scope env).names) : ∃ q ∈ scope.names, q.1 = p.1 ∧ (p.2 = q.2 ∨ (q.2 = .free ∧ p.2 = .cell)) := by
 obtain ⟨q, hq, e⟩ := List.mem_map.mp (show p ∈ scope.names.map _ from h)
 refine ⟨q, hq, ?_⟩
 obtain ⟨n, k⟩ := q
 dsimp only at e
 split at e
 ·rename_i c
  subst e
  refine ⟨rfl, .inr ⟨?_, rfl⟩⟩
  simp only [Bool.and_eq_true, beq_iff_eq] at c
  exact c.1.1
 ·subst e
  exact ⟨rfl, .inl rfl⟩
theorem compOk0 (hk : scope.kind = .function) (hn : ∀ y ∈ scope.names, y.2 ≠ .free ∧ y.2 ≠ .cell) (hl : ∀ y ∈ scope.names, y.2 = .local → scope.names.lookup y.1 = some .local) : CompOk X scope [] own [] where
 clos := closureFor_none fun y hy => (hn y hy).1
 cell := fun y hy => (hn y hy).2
 kind := hk
 names := hl
 sub := fun x c h => nomatch h
 has := fun p hp h => by
  obtain ⟨q, hq, e1, e2⟩ := mem_relabel hp
  have n := hn q hq
  rcases e2 with e2 | ⟨e2, _⟩
  ·rw [e2] at h
   rcases h with h | h
   ·exact absurd h n.2
   ·exact absurd h n.1
  ·exact absurd e2 n.1
 caps := fun p hp => nomatch hp
def AllCl (cells : List (Str × Addr)) : List (Str × Addr) → Prop
 | [] => True
 | p :: r => cells.lookup p.1 = some p.2 ∧ AllCl cells r
theorem AllCl.mem {cells : List (Str × Addr)} : ∀ {cl : List (Str × Addr)}, AllCl cells cl → ∀ p ∈ cl, cells.lookup p.1 = some p.2
 | [], _, p, h => nomatch h
 | q :: r, h, p, hp => by
  rcases List.mem_cons.mp hp with rfl | hp
  ·exact h.1
  ·exact AllCl.mem h.2 p hp
def AllCap (X : Cx) (scope : Scope) : List (Nat × Str) → Prop
 | [] => True
 | p :: r => (X.N[p.1]? = some p.2 ∧ X.env.kindOf p.2 = some .cell ∧ (relabel scope X.env).names.lookup p.2 = some .cell) ∧ AllCap X scope r
theorem AllCap.mem : ∀ {cap : List (Nat × Str)}, AllCap X scope cap → ∀ p ∈ cap, X.N[p.1]? = some p.2 ∧ X.env.kindOf p.2 = some .cell ∧ (relabel scope X.env).names.lookup p.2 = some .cell
 | [], _, p, h => nomatch h
 | q :: r, h, p, hp => by
  rcases List.mem_cons.mp hp with rfl | hp
  ·exact h.1
  ·exact AllCap.mem h.2 p hp
theorem compOkC {cl : List (Str × Addr)} {cap : List (Nat × Str)} (hk : scope.kind = .function) (hn : ∀ y ∈ scope.names, y.2 ≠ .cell) (hl : ∀ y ∈ scope.names, y.2 = .local → scope.names.lookup y.1 = some .local)
  (hc : closureFor scope X.env = pure cl) (ha : AllCl X.env.cells cl) (hh : ((relabel scope X.env).names.all fun p => !(p.2 == .cell || p.2 == .free) || (cl.lookup p.1).isSome) = true) (hcap : AllCap X scope cap) : CompOk X scope cl own cap where
 clos := hc
 cell := hn
 kind := hk
 names := hl
 sub := fun x c h => ha.mem _ (mem_of_lookup h)
 has := fun p hp h => by
  have q := List.all_eq_true.mp hh p hp
  rcases h with h | h <;> · rw [h] at q; simpa using q
 caps := fun p hp => by
  obtain ⟨h1, h2, h3⟩ := hcap.mem p hp
  exact ⟨h1, .inr (.inl h2), by rw [h2]; decide, by rw [h3]; decide, .inl h3⟩
end
theorem bt_bool : bootBuiltins "bool" = some (.type "bool") := by decide +kernel
theorem bt_str : bootBuiltins "str" = some (.type "str") := by decide +kernel
theorem bt_tuple : bootBuiltins "tuple" = some (.type "tuple") := by decide +kernel
theorem bt_list : bootBuiltins "list" = some (.type "list") := by decide +kernel
def Kp (l : List Addr) (H H' : Hp) : Prop := ∀ b o, b ∉ l → H b = some o → H' b = some o
theorem Kp.refl {l : List Addr} (H : Hp) : Kp l H H := fun _ _ _ h => h
theorem Kp.trans {l : List Addr} {H H1 H2 : Hp} (a : Kp l H H1) (b : Kp l H1 H2) : Kp l H H2 := fun c o n h => b c o n (a c o n h)
theorem Kp.mono {l l' : List Addr} {H H1 : Hp} (a : Kp l H H1) (s : ∀ b ∈ l, b ∈ l') : Kp l' H H1 := fun c o n h => a c o (fun z => n (s c z)) h
theorem Kp.new {l : List Addr} {H : Hp} {p : Addr} (h : H p = none) (o : HO) : Kp l H (upd H p o) := fun b u _ q => by rw [upd_ne (ne_of_none q h)]; exact q
theorem Kp.set {l : List Addr} {H : Hp} {p : Addr} (h : p ∈ l) (o : HO) : Kp l H (upd H p o) := fun b u n q => by
 have e : b ≠ p := fun z => n (by rw [z]; exact h)
 rw [upd_ne e]; exact q
def Tp (H H' : Hp) : Prop := ∀ b xs, H b = some (.tup xs) → H' b = some (.tup xs)
theorem Tp.refl (H : Hp) : Tp H H := fun _ _ h => h
theorem Tp.trans {H H1 H2 : Hp} (a : Tp H H1) (b : Tp H1 H2) : Tp H H2 := fun c o h => b c o (a c o h)
end L2
set_option Elab.async false
set_option linter.all false
set_option maxRecDepth 100000
namespace Tg
open PySem L2
inductive Kd where
 | num (w : Int)
 | text
 | row (k : Kd)
 | rec_ (fs : List (Str × Kd))
 | pick (fs : List (Str × Kd))
mutual
def Kd.size : Kd → Int
 | .num w => w
 | .text => 1
 | .row _ => 1
 | .rec_ fs => (sizesF fs).sum
 | .pick fs => 1 + topOf (sizesF fs)
def sizesF : List (Str × Kd) → List Int
 | [] => []
 | (_, k) :: r => k.size :: sizesF r
end
mutual
def Kd.depth : Kd → Nat
 | .num _ => 1
 | .text => 1
 | .row k => k.depth + 1
 | .rec_ fs => depthF fs + 1
 | .pick fs => depthF fs + 1
def depthF : List (Str × Kd) → Nat
 | [] => 0
 | (_, k) :: r => max k.depth (depthF r)
end
mutual
def KIn (H : Hp) : V → Kd → Prop
 | v, .num w => ∃ a, v = .ref a ∧ H a = some (.tup [.str "num", .int w])
 | v, .text => ∃ a, v = .ref a ∧ H a = some (.tup [.str "text"])
 | v, .row k => ∃ a u, v = .ref a ∧ H a = some (.tup [.str "row", u]) ∧ KIn H u k
 | v, .rec_ fs => ∃ a f xs, v = .ref a ∧ H a = some (.tup [.str "rec", .ref f]) ∧ H f = some (.tup xs) ∧ FIn H xs fs
 | v, .pick fs => ∃ a f xs, v = .ref a ∧ H a = some (.tup [.str "pick", .ref f]) ∧ H f = some (.tup xs) ∧ FIn H xs fs
def FIn (H : Hp) : List V → List (Str × Kd) → Prop
 | xs, [] => xs = []
 | xs, (nm, k) :: r => ∃ p u ys, xs = .ref p :: ys ∧ H p = some (.tup [.str nm, u]) ∧ KIn H u k ∧ FIn H ys r
end
mutual
theorem KIn.mono {H H' : Hp} (t : Tp H H') : ∀ {k : Kd} {v : V}, KIn H v k → KIn H' v k
 | .num w, v, h => by
  unfold KIn at h ⊢
  obtain ⟨a, e, h⟩ := h
  exact ⟨a, e, t _ _ h⟩
 | .text, v, h => by
  unfold KIn at h ⊢
  obtain ⟨a, e, h⟩ := h
  exact ⟨a, e, t _ _ h⟩
 | .row k, v, h => by
  unfold KIn at h ⊢
  obtain ⟨a, u, e, h, q⟩ := h
  exact ⟨a, u, e, t _ _ h, KIn.mono t q⟩
 | .rec_ fs, v, h => by
  unfold KIn at h ⊢
  obtain ⟨a, f, xs, e, h, h2, q⟩ := h
  exact ⟨a, f, xs, e, t _ _ h, t _ _ h2, FIn.mono t q⟩
 | .pick fs, v, h => by
  unfold KIn at h ⊢
  obtain ⟨a, f, xs, e, h, h2, q⟩ := h
  exact ⟨a, f, xs, e, t _ _ h, t _ _ h2, FIn.mono t q⟩
theorem FIn.mono {H H' : Hp} (t : Tp H H') : ∀ {fs : List (Str × Kd)} {xs : List V}, FIn H xs fs → FIn H' xs fs
 | [], xs, h => by
  unfold FIn at h ⊢
  exact h
 | (nm, k) :: r, xs, h => by
  unfold FIn at h ⊢
  obtain ⟨p, u, ys, e, h, q, z⟩ := h
  exact ⟨p, u, ys, e, t _ _ h, KIn.mono t q, FIn.mono t z⟩
end
theorem FIn.length {H : Hp} : ∀ {fs : List (Str × Kd)} {xs : List V}, FIn H xs fs → xs.length = fs.length
 | [], xs, h => by unfold FIn at h; subst h; rfl
 | (nm, k) :: r, xs, h => by
  unfold FIn at h
  obtain ⟨p, u, ys, e, _, _, z⟩ := h
  rw [e, List.length_cons, List.length_cons, FIn.length z]
theorem FIn.get {H : Hp} : ∀ {fs : List (Str × Kd)} {xs : List V} {i : Nat} {x : V}, FIn H xs fs → xs[i]? = some x → ∃ p nm u k, x = .ref p ∧ H p = some (.tup [.str nm, u]) ∧ KIn H u k ∧ fs[i]? = some (nm, k)
 | [], xs, i, x, h, e => by unfold FIn at h; rw [h] at e; cases e
 | (nm, k) :: r, xs, i, x, h, e => by
  unfold FIn at h
  obtain ⟨p, u, ys, e1, h1, h2, z⟩ := h
  subst e1
  cases i with
  | zero => cases e; exact ⟨p, nm, u, k, rfl, h1, h2, rfl⟩
  | succ i => exact FIn.get (i := i) z e
end Tg
set_option Elab.async false
set_option linter.all false
set_option maxRecDepth 100000
namespace Tg
open PySem L2
def Lets (z : Str) : Prop := ∀ c ∈ z.cps.toList, 97 ≤ c ∧ c ≤ 122
theorem len_codes (z : Str) : z.cps.toList.length = z.length := by simp [Str.length]
theorem app_codes (x y : Str) : (x ++ y).cps.toList = x.cps.toList ++ y.cps.toList := by rw [Str.cps_append, Array.toList_append]
theorem app_len (x y : Str) : (x ++ y).length = x.length + y.length := by rw [← len_codes, app_codes, List.length_append, len_codes, len_codes]
theorem Lets.app {x y : Str} (a : Lets x) (b : Lets y) : Lets (x ++ y) := fun c h => by
 rw [app_codes] at h
 rcases List.mem_append.mp h with h | h
 ·exact a c h
 ·exact b c h
theorem Lets.cut {x y : Str} {lo hi : Option Int} (a : Lets x) (e : y.cps.toList = cutN x.cps.toList lo hi) : Lets y := fun c h => by
 rw [e] at h
 exact a c (List.mem_of_mem_drop (List.mem_of_mem_take h))
theorem cut_le {x y : Str} {lo hi : Option Int} (e : y.cps.toList = cutN x.cps.toList lo hi) : y.length ≤ x.length := by
 rw [← len_codes, ← len_codes, e]; exact cutN_length _ _ _
theorem at_some {α : Type} {xs : List α} {r : Int} (h0 : 0 ≤ r) (h1 : r < xs.length) : ∃ x, atI xs r = some x ∧ x ∈ xs := by
 have hk : r.toNat < xs.length := by omega
 have e : r = ((r.toNat : Nat) : Int) := by omega
 have q : atI xs ((r.toNat : Nat) : Int) = some xs[r.toNat] := atI_nat (by rw [List.getElem?_eq_getElem hk] <;> rfl)
 rw [← e] at q
 exact ⟨_, q, List.getElem_mem hk⟩
theorem inV_strs {x : Str} : ∀ {ss : List Str}, inV (.str x) (ss.map V.str) = decide (x ∈ ss)
 | [] => by simp [inV]
 | y :: r => by
  have ih := inV_strs (x := x) (ss := r)
  unfold inV at ih ⊢
  rw [List.map_cons, List.any_cons, ih]
  show (y == x || decide (x ∈ r)) = decide (x ∈ y :: r)
  rw [Bool.eq_iff_iff]
  simp only [Bool.or_eq_true, beq_iff_eq, decide_eq_true_eq, List.mem_cons]
  constructor
  ·rintro (h | h)
   ·exact .inl h.symm
   ·exact .inr h
  ·rintro (h | h)
   ·exact .inl h.symm
   ·exact .inr h
end Tg
set_option Elab.async false
set_option linter.all false
set_option maxRecDepth 100000
set_option maxHeartbeats 1000000
namespace L2
open PySem PySem.Spec PyProof.Rows PySem.W
structure UnB (fs : List Addr) (H H' : Hp) (h B h' : Heap) : Prop where
 keep : ∀ b o, h.get? b = some o → H b = none → b ∉ fs → B.get? b = some o
 slot : ∀ b o, h.get? b = some o → H b = none → b ∈ fs → ∃ sl, h'.get? b = some { o with slots := sl }
 free : ∀ b o, h.get? b = some o → H b = none → H' b = none
 there : ∀ b o, h.get? b = some o → b ∉ fs → ∃ o', B.get? b = some o'
 tups : ∀ b xs, H b = some (.tup xs) → H' b = some (.tup xs)
 frzs : ∀ b o u, H b = some (.frz o u) → H' b = some (.frz o u)
 tbls : ∀ b ps, H b = some (.tbl ps) → ∃ more, H' b = some (.tbl (ps ++ more))
theorem UnB.un {fs : List Addr} {H H' : Hp} {h B h' : Heap} (u : UnB fs H H' h B h') (st : B.StaysIn h') (hf : ∀ b ∈ fs, H b = none) : Un fs [] H H' h h' :=
 ⟨fun b o e n hb _ => st b o (u.keep b o e n hb), fun b o e n hb _ => u.slot b o e n hb, fun b o e n _ => u.free b o e n, fun b o e _ => by
  by_cases hb : b ∈ fs
  ·obtain ⟨sl, q⟩ := u.slot b o e (hf b hb) hb
   exact ⟨_, q⟩
  ·obtain ⟨o', q⟩ := u.there b o e hb
   exact ⟨o', st b o' q⟩, u.tups, u.frzs, u.tbls⟩
section
variable {X : Cx} {x : Str} {C : Addr} {bmB : List Value} {B newId initId : String} {np cpos pos : Pos} {e₀ : Expr} {rest : List Expr} {t : TA} {E : XK}
end
section
variable {P : Program} {w : World} {K : PySem.W.Frag} {mg : Str → Option Value} {base : Heap} {N : List Str} {qual : Str} {scope : Scope} {f : Addr} {cd : Value} {A : Around} {outer : List Env} {s : Shared} {H : Hp} {E : XK}
end
section
variable {X : Cx} {x : Str} {k j : Nat} {ps : List Str} {sp : Sp} {p pos : Pos} {e : Expr} {es : List Expr} {t : TA} {E : XK}
end
end L2
set_option Elab.async false
set_option linter.all false
set_option maxRecDepth 100000
set_option maxHeartbeats 1000000
namespace L2
open PySem PySem.Spec PyProof.Rows PySem.W
def excAt (x : Addr) (C : Value) : Heap → Prop := fun h => ∃ ob, h.get? x = some ob ∧ ob.cls = C
section
variable {X : Cx} {pins : List (Addr × Obj)} {σ : St} {H : Hp} {s : Shared}
abbrev Cx.tr (X : Cx) (E' : Value → Shared → Prop) (pn : List (Addr × Obj)) : Cx := { X with xe := E', pn := pn }
theorem Cx.Ok.tr (ok : X.Ok) (E' : Value → Shared → Prop) (pn : List (Addr × Obj)) : (X.tr E' pn).Ok :=
 ⟨ok.mod, ok.kind, ok.glob, ok.blt, ok.above, ok.inj, ok.has, ok.cab, ok.hd, ok.frames, ok.stk, ok.exf, ok.bs, ok.bsz, ok.noex, ok.exfs, ok.funs, ok.frf⟩
theorem Inv.tr (I : Inv X pins σ H s) (E' : Value → Shared → Prop) : Inv (X.tr E' (X.pn ++ pins)) [] σ H s :=
 ⟨I.ok.tr E' _, I.os, I.bare, I.base, I.loc, I.cell, I.free, I.freeC, fun p hp => I.pin p (by simpa using hp), I.hok, I.len⟩
end
section
variable {X : Cx} {body suite : List Stmt} {b₀ : Stmt} {y n : Str} {np hpos pos : Pos} {Cy : Addr} {j : Nat} {tb : (St → XK) → TS} {ts : TS}
end
end L2
set_option Elab.async false
set_option linter.all false
set_option maxRecDepth 100000
set_option maxHeartbeats 1000000
namespace L2
open PySem PySem.Spec PyProof.Rows PySem.W
section
variable {X : Cx} {x : Str} {k j : Nat} {ps : List Str} {sp : Sp} {p pos : Pos} {e : Expr} {es : List Expr} {t : TA} {W : St → XK}
end
section
variable {X : Cx} {body suite : List Stmt} {b₀ : Stmt} {y : Str} {np hpos pos : Pos} {Cy : Addr} {tb : (St → XK) → TS} {ts : TS}
end
end L2
set_option Elab.async false
set_option linter.all false
set_option maxRecDepth 100000
namespace L2
open PySem PySem.Spec PyProof.Rows
theorem fm_congr {α β : Type} {f g : α → Option β} : ∀ {l : List α}, (∀ x ∈ l, f x = g x) → l.filterMap f = l.filterMap g
 | [], _ => rfl
 | x :: r, h => by rw [List.filterMap_cons, List.filterMap_cons, h x List.mem_cons_self, fm_congr fun y hy => h y (List.mem_cons_of_mem _ hy)]
section
variable {X : Cx}
def CDivG (i j : Int) : Prop := 0 < j ∧ j < 2 ^ 200
theorem CDivG.noPy {i j : Int} (h : CDivG i j) : Builtin.divisionGoesByPylong i j = false := by
 refine PyProof.noPylong_of_log2 ?_
 have h1 : j.natAbs < 2 ^ 200 := by have := h.1; have := h.2; omega
 have h2 : j.natAbs ≠ 0 := by have := h.1; omega
 have := (Nat.log2_lt h2).mpr h1
 omega
theorem op_fdivG : OpR X (binaryOp .FloorDiv) (rI CDivG fun i j => .int (i / j)) := opI fun i j _ _ _ _ _ hc q => by
 have h1 : (0 : Int) < j := hc.1
 exact floordiv_int (by omega) (by rw [Int.fdiv_eq_ediv_of_nonneg i (by omega)]; exact q) (.inl hc.noPy)
def SlB (X : Cx) (r : V → Hp → VK → Prop) : Prop :=
 ∀ (pins : List (Addr × Obj)) (s : Shared) (σ : St) (H : Hp) (x : V) (v vs : Value) (sl : Addr) (Q : VK), Inv X pins σ H s → RelV x v → s.heap.IsSliceOf sl .none .none vs → IsPart vs (some (-1)) → r x H Q →
  ∃ T id, typeLookup (.type T) "__getitem__" = pure (some (.builtin id)) ∧ s.TypeIs v T ∧ wpAny (model X.prog X.w) X.A (getItem v (.ref sl)) (EP X pins σ Q) X.xe s
theorem pe_rev {r : V → Hp → VK → Prop} {e st : Expr} {te ts : TE} {p2 pos : Pos} (hr : SlB X r) (he : PE X e te) (hs : PE X st ts) :
  PE X (.Subscript e (.Slice none none (some st) p2) pos) (fun σ H Q => te σ H fun x H1 => ts σ H1 fun y H2 => y = .int (-1) ∧ r x H2 Q) := by
 refine .mk ?_
 intro pins s σ H Q I h
 refine Subscript_ (thn (he pins s σ H _ I h) fun v s1 ⟨x, H1, I1, r1, q1⟩ => ?_)
 refine wpAny_Slice ?_
 rw [evalPart_none]
 refine wpAny_pure ?_
 refine wpAny_pure ?_
 rw [evalPart_some]
 refine thn (hs pins s1 σ H1 _ I1 q1) fun vs s2 ⟨y, H2, I2, r2, q2⟩ => ?_
 obtain ⟨rfl, q3⟩ := q2
 obtain ⟨t, rfl⟩ := r2
 have I4 : Inv X pins σ H2 { s2 with heap := s2.heap.push { cls := .type "slice", data := .fields #[.none, .none, .int (-1) t] } } := I2.kept (t' := s2.toks) fun b ob q => Heap.get?_push_of_some _ q
 obtain ⟨T, id, hT, ht, hg⟩ := hr pins { s2 with heap := s2.heap.push { cls := .type "slice", data := .fields #[.none, .none, .int (-1) t] } } σ H2 x v _ s2.heap.objs.size Q I4 r1 (Heap.IsSliceOf.new ..) (.int (-1) t) q3
 show wpAny (model X.prog X.w) X.A (subscriptTail e (.Slice none none (some st) p2) v (.ref s2.heap.objs.size)) (EP X pins σ Q) X.xe { s2 with heap := s2.heap.push { cls := .type "slice", data := .fields #[.none, .none, .int (-1) t] } }
 exact tail_any (ops := [v, .ref s2.heap.objs.size]) ht hT hg (by with_unfolding_all rfl)
theorem rev_pick (its : List Value) : ((List.range its.length).map fun k => its.length - 1 - k).filterMap (its.toArray[·]?) = its.reverse := by
 apply List.ext_getElem?
 intro i
 have e : ((List.range its.length).map fun k => its.length - 1 - k).filterMap (its.toArray[·]?) = (List.range its.length).map fun k => its.getD (its.length - 1 - k) .none := by
  rw [List.filterMap_map]
  rw [← List.filterMap_eq_map]
  apply fm_congr
  intro k hk
  have hk' : k < its.length := List.mem_range.mp hk
  show its.toArray[its.length - 1 - k]? = some (its.getD (its.length - 1 - k) .none)
  have h2 : its.length - 1 - k < its.length := by omega
  simp [List.getD, List.getElem?_eq_getElem h2]
 rw [e, List.getElem?_map]
 by_cases h : i < its.length
 ·rw [List.getElem?_range h, List.getElem?_reverse h]
  have h2 : its.length - 1 - i < its.length := by omega
  simp [List.getD, List.getElem?_eq_getElem h2]
 ·rw [List.getElem?_eq_none (by simpa using h), List.getElem?_eq_none (by simpa using h)]
  rfl
theorem Vals.rev {xs : List V} {us : List Value} (r : Vals xs us) : Vals xs.reverse us.reverse := by
 induction r with
 | nil => exact .nil
 | cons r1 r2 ih =>
  rw [List.reverse_cons, List.reverse_cons]
  exact ih.append (.cons r1 .nil)
def rRevT (K : PySem.W.Frag) : V → Hp → VK → Prop := fun x H Q => ∃ a xs, x = .ref a ∧ SqT K H a xs ∧ ∀ p, H p = none → Q (.ref p) (upd H p (.tup xs.reverse))
theorem sliceApplied_rev {prog : Program} {w : World} {A : Around} {E : Value → Shared → Prop} {s : Shared} {sl : Addr} {vs : Value} {n : Nat} {Q : Int × Int × Nat → Shared → Prop} (hs : s.heap.IsSliceOf sl .none .none vs) (ps : IsPart vs (some (-1)))
  (h : Q ((n : Int) - 1, -1, n) s) : wpAny (model prog w) A (Builtin.Slice.sliceApplied (.ref sl) (pure (n : Int))) Q E s := by
 obtain ⟨os, hos, hcs, hds⟩ := id hs
 unfold Builtin.Slice.sliceApplied Builtin.Slice.sliceFields
 refine wpAny_bind (wpAny_bind (wpAny_field hos hds (x := .none) rfl (wpAny_bind (wpAny_field hos hds (x := .none) rfl (wpAny_bind (wpAny_field hos hds (x := vs) rfl (wpAny_pure ?_)))))))
 refine wpAny_bind (HT.slicePart_ ps ?_)
 show wpAny _ _ (if ((-1 : Int) == 0) = true then _ else _) _ _ s
 rw [if_neg (by decide)]
 refine wpAny_bind (slicePart_none (wpAny_bind (slicePart_none (wpAny_bind (wpAny_pure ?_)))))
 show wpAny _ _ (match Builtin.Slice.sliceAdjust none none (-1) (n : Int) with | (lo, hi) => pure (lo, (-1 : Int), Builtin.Slice.slicePlaces lo hi (-1))) _ _ s
 have e : Builtin.Slice.sliceAdjust none none (-1) (n : Int) = ((n : Int) - 1, -1) := rfl
 rw [e]
 show wpAny _ _ (pure ((n : Int) - 1, (-1 : Int), Builtin.Slice.slicePlaces ((n : Int) - 1) (-1) (-1))) _ _ s
 have e2 : Builtin.Slice.slicePlaces ((n : Int) - 1) (-1) (-1) = n := by
  unfold Builtin.Slice.slicePlaces
  have h1 : ¬ ((-1 : Int) > 0) := by omega
  have h3 : (-(-1) : Int) = 1 := rfl
  simp only [h1, if_false, h3, Int.ediv_one]
  split <;> omega
 rw [e2]
 exact wpAny_pure h
theorem getItem_tuple_rev {prog : Program} {w : World} {A : Around} {E : Value → Shared → Prop} {s : Shared} {t sl : Addr} {its : List Value} {vs : Value} {Q : Value → Shared → Prop} (ht : IsTup s.heap t its.toArray) (hs : s.heap.IsSliceOf sl .none .none vs) (ps : IsPart vs (some (-1)))
  (h : Q (.ref s.heap.objs.size) { s with heap := s.heap.push { cls := .type "tuple", data := .seq its.reverse.toArray } })
  (hsz : its.length ≤ sizeLine) : wpAny (model prog w) A (getItem (.ref t) (.ref sl)) Q E s := by
 have htake : sizeOk (.seq its.reverse.toArray) := by
  show its.reverse.toArray.size ≤ sizeLine
  rw [List.size_toArray, List.length_reverse]
  exact hsz
 obtain ⟨os, hos, hcs, hds⟩ := id hs
 have hTs : s.TypeIs (.ref sl) "slice" := ⟨os, hos, hcs⟩
 unfold getItem
 try with_reducible refine wpAny_holding ?_
 first | refine wpAny_bind (wpAny_pure ?_) | skip
 refine wpAny_bind (wpAny_sequenceKey ht.typeIs (by decide) ?_)
 refine wpAny_bind (wpAny_callSpecial?_slot (name := Str.ofString "__getitem__") ht.typeIs PyProof.Rows.slot_tuple_getitem
  (wpAny_call_entry PyProof.Rows.slot_tuple_getitem ht.typeIs entry_tuple_getitem ?_ (args_tuple_getitem _ _)))
 show wpAny _ _ (Builtin.Tuple.tupleItemsOf (.ref t) >>= _) _ _ s
 refine wpAny_bind (tupleItemsOf_ ht ?_)
 refine wpAny_bind (wpAny_typeOf hTs ?_)
 rw [if_pos (by decide)]
 refine wpAny_bind (sliceApplied_rev hs ps ?_)
 have hno : ¬ (((((its.toArray.size : Nat) : Int) - 1) == 0 && (-1 : Int) == 1 && its.toArray.size == its.toArray.size) = true) := by
  have : ((-1 : Int) == 1) = false := rfl
  rw [this, Bool.and_false, Bool.false_and]
  exact Bool.false_ne_true
 show wpAny _ _ (if ((((its.toArray.size : Nat) : Int) - 1) == 0 && (-1 : Int) == 1 && its.toArray.size == its.toArray.size) = true then _ else _) _ _ s
 rw [if_neg hno]
 have e : ((List.range its.toArray.size).filterMap fun (m : Nat) => its.toArray[((((its.toArray.size : Nat) : Int) - 1) + (m : Int) * (-1)).toNat]?).toArray = its.reverse.toArray := by
  rw [← rev_pick its, List.filterMap_map, List.size_toArray]
  congr 1
  apply fm_congr
  intro k hk
  have hk' : k < its.length := List.mem_range.mp hk
  have e1 : (((its.length : Nat) : Int) - 1 + (k : Int) * (-1)).toNat = its.length - 1 - k := by omega
  show its.toArray[(((its.length : Nat) : Int) - 1 + (k : Int) * (-1)).toNat]? = its.toArray[its.length - 1 - k]?
  rw [e1]
 rw [e]
 first
  | exact wpAny_bind (m := Builtin.Tuple.tupleExact _) (wpAny_newObj_type (wpAny_pure ⟨_, rfl, wpAny_pure h⟩) htake)
  | exact wpAny_bind (m := Builtin.Tuple.tupleExact _) (wpAny_newObj_type (wpAny_bind (wpAny_pure (wpAny_pure ⟨_, rfl, wpAny_pure h⟩))) htake)
  | exact wpAny_bind (wpAny_bind (m := Builtin.Tuple.tupleExact _) (wpAny_newObj_type (wpAny_pure (wpAny_pure ⟨_, rfl, wpAny_pure h⟩)) htake))
  | exact wpAny_bind (wpAny_bind (m := Builtin.Tuple.tupleExact _) (wpAny_newObj_type (wpAny_pure ⟨_, rfl, wpAny_pure h⟩) htake))
theorem rv_tup : SlB X (rRevT X.K) := by
 intro pins s σ H x v vs sl Q I rx hs ps h
 obtain ⟨a, xs, rfl, hx, q⟩ := h
 cases rx
 obtain ⟨its, r, ht, hz⟩ := I.tuple hx
 have hlen := r.length
 refine ⟨"tuple", _, PyProof.Rows.slot_tuple_getitem.lookup, ht.typeIs, ?_⟩
 refine getItem_tuple_rev ht hs ps ?_ (by omega)
 refine ⟨.ref s.heap.objs.size, _, I.laid (t' := s.toks) (o := .tup xs.reverse) (fun b ob q => Heap.get?_push_of_some _ q) (Nat.le_refl _) ?_, rfl, q _ (I.hok.fresh (Nat.le_refl _))⟩
 exact ⟨by rw [List.length_reverse]; exact hz, _, Vals.rev r, IsTup.new _ _⟩
theorem bools_of {bs : List Bool} : ∀ {us : List Value}, Vals (bs.map V.bl) us → us = bs.map Value.bool := by
 induction bs with
 | nil => intro us r; rw [List.map_nil] at r; cases r; rfl
 | cons n ns ih =>
  intro us r
  rw [List.map_cons] at r
  cases r with
  | cons r1 r2 =>
   rw [ih r2]
   cases r1
   rfl
theorem range_all {bs : List Bool} : (List.range bs.length).all (fun i => bs.getD i true) = bs.all id := by
 rw [Bool.eq_iff_iff, List.all_eq_true, List.all_eq_true]
 constructor
 ·intro h b hb
  obtain ⟨i, hi, rfl⟩ := List.getElem_of_mem hb
  have := h i (List.mem_range.mpr hi)
  simpa [List.getD, List.getElem?_eq_getElem hi] using this
 ·intro h i hi
  have hi' := List.mem_range.mp hi
  have := h bs[i] (List.getElem_mem hi')
  simpa [List.getD, List.getElem?_eq_getElem hi'] using this
theorem kept_it {s : Shared} {o₀ : Obj} {h' : Heap} (hk : ∀ b o, b ∉ [s.heap.objs.size] → (s.heap.push o₀).get? b = some o → h'.get? b = some o) : ∀ b o, s.heap.get? b = some o → h'.get? b = some o := fun b o e => by
 refine hk b o (fun hm => ?_) (Heap.get?_push_of_some _ e)
 exact absurd ((List.mem_singleton.mp hm) ▸ Heap.lt_size e) (Nat.lt_irrefl _)
theorem call_allL (hc : X.calm = true) : CallR X (.builtin "all") (fun xs H Q => ∃ (p : Addr) (bs : List Bool), xs = [.ref p] ∧ SqL X.K H p (bs.map V.bl) ∧ Q (.bl (bs.all id)) H) := by
 intro pins s σ H xs us Q I r h
 obtain ⟨p, bs, rfl, hq, q⟩ := h
 obtain ⟨u, rfl, ru⟩ := vals1 r
 cases ru
 obtain ⟨its, rv, pl, hz⟩ := I.list hq
 have eb := bools_of rv
 have hl : s.heap.IsList p its.toArray := pl.isList
 have hlt : p < s.heap.objs.size := by obtain ⟨_, e, _⟩ := hl; exact Heap.lt_size e
 refine call_all_walk (wpAny_pyIter_list hl ?_)
 refine ⟨s.heap.objs.size, _, _, _, _, _, fun i => bs.getD i true, rfl, Walks.list (prog := X.prog) (w := X.w) (A := X.A.in1) (I.ok.hd hc) s.heap.objs.size p (Nat.ne_of_lt hlt) its.toArray, ⟨⟨_, Heap.get?_push_size _ rfl, rfl, rfl⟩, hl.push _⟩, ?_, ?_⟩
 ·intro i v s' Q' E' hP hQ
  have e : v = .bool (bs.getD i true) := by
   rw [eb] at hP
   simp only [List.getElem?_toArray, List.getElem?_map, Option.map_eq_some_iff] at hP
   obtain ⟨b, hb, rfl⟩ := hP
   simp [List.getD, hb]
  rw [e]
  exact wpAny_truthy_bool hQ
 ·intro h' tk hk
  refine ⟨.bl (bs.all id), H, I.kept (kept_it hk), ?_, q⟩
  have e2 : its.toArray.size = bs.length := by rw [eb]; simp
  rw [e2, range_all]
  rfl
theorem Vals.at {xs : List V} {us : List Value} (r : Vals xs us) : ∀ {j : Nat} (h : j < us.length), RelV (xs.getD j .non) us[j] := by
 induction r with
 | nil => intro j h; exact absurd h (Nat.not_lt_zero _)
 | cons r1 r2 ih =>
  intro j h
  cases j with
  | zero => exact r1
  | succ j => exact ih (Nat.lt_of_succ_lt_succ h)
theorem getItem_tuple_whole {prog : Program} {w : World} {A : Around} {E : Value → Shared → Prop} {s : Shared} {t sl : Addr} {items : Array Value} {vl vu : Value} {lo hi : Option Int} {Q : Value → Shared → Prop} (ht : IsTup s.heap t items) (hs : s.heap.IsSliceOf sl vl vu .none) (pl : IsPart vl lo) (pu : IsPart vu hi)
  (h0 : HT.sIx items.size 0 lo = 0) (h1 : HT.sIx items.size items.size hi = items.size) (h : Q (.ref t) s) : wpAny (model prog w) A (getItem (.ref t) (.ref sl)) Q E s := by
 obtain ⟨os, hos, hcs, hds⟩ := id hs
 have hTs : s.TypeIs (.ref sl) "slice" := ⟨os, hos, hcs⟩
 unfold getItem
 try with_reducible refine wpAny_holding ?_
 first | refine wpAny_bind (wpAny_pure ?_) | skip
 refine wpAny_bind (wpAny_sequenceKey ht.typeIs (by decide) ?_)
 refine wpAny_bind (wpAny_callSpecial?_slot (name := Str.ofString "__getitem__") ht.typeIs PyProof.Rows.slot_tuple_getitem
  (wpAny_call_entry PyProof.Rows.slot_tuple_getitem ht.typeIs entry_tuple_getitem ?_ (args_tuple_getitem _ _)))
 show wpAny _ _ (Builtin.Tuple.tupleItemsOf (.ref t) >>= _) _ _ s
 refine wpAny_bind (tupleItemsOf_ ht ?_)
 refine wpAny_bind (wpAny_typeOf hTs ?_)
 rw [if_pos (by decide)]
 refine wpAny_bind (HT.sliceApplied_gen hs pl pu ?_)
 have hyes : ((((HT.sIx items.size 0 lo : Nat) : Int) == 0 && (1 : Int) == 1 && (HT.sIx items.size items.size hi - HT.sIx items.size 0 lo) == items.size) = true) := by
  rw [h0, h1]
  simp
 show wpAny _ _ (if (((HT.sIx items.size 0 lo : Nat) : Int) == 0 && (1 : Int) == 1 && (HT.sIx items.size items.size hi - HT.sIx items.size 0 lo) == items.size) = true then _ else _) _ _ s
 rw [if_pos hyes]
 unfold Builtin.Tuple.tupleIsExact
 refine wpAny_bind (wpAny_bind (wpAny_typeOf ht.typeIs ?_))
 refine wpAny_pure ?_
 rw [if_pos (by decide)]
 refine wpAny_bind (wpAny_rule ?_)
 exact wpAny_pure ⟨_, rfl, wpAny_pure h⟩
def rSlA (K : PySem.W.Frag) : V → Option Int → Option Int → Hp → VK → Prop := fun x lo hi H Q => ∃ a xs, x = .ref a ∧ SqT K H a xs ∧
 ((HT.sIx xs.length 0 lo = 0 ∧ HT.sIx xs.length xs.length hi = xs.length) → Q (.ref a) H) ∧ (¬ (HT.sIx xs.length 0 lo = 0 ∧ HT.sIx xs.length xs.length hi = xs.length) → ∀ p, H p = none → Q (.ref p) (upd H p (.tup (cutV xs lo hi))))
theorem sl_tupA : SlR X (rSlA X.K) := by
 intro pins s σ H x v vl vu lo hi sl Q I rx hs pl pu h
 obtain ⟨a, xs, rfl, hx, q1, q2⟩ := h
 by_cases hw : HT.sIx xs.length 0 lo = 0 ∧ HT.sIx xs.length xs.length hi = xs.length
 ·cases rx
  obtain ⟨its, r, ht, hz⟩ := I.tuple hx
  have hlen : its.toArray.size = xs.length := by rw [List.size_toArray]; exact r.length.symm
  refine ⟨"tuple", _, PyProof.Rows.slot_tuple_getitem.lookup, ht.typeIs, ?_⟩
  exact getItem_tuple_whole ht hs pl pu (by rw [hlen]; exact hw.1) (by rw [hlen]; exact hw.2) ⟨.ref a, H, I, rfl, q1 hw⟩
 ·exact sl_tup pins s σ H _ v vl vu lo hi sl Q I rx hs pl pu ⟨a, xs, rfl, hx, hw, q2 hw⟩
end
section
variable {own : List Str} {cap : List (Nat × Str)} {σ : St} {H1 : Hp} {D : Addr} {g : TG} {tc : TT} {te : TE} {QD : Hp → Prop}
end
end L2
set_option Elab.async false
set_option linter.all false
set_option maxRecDepth 100000
namespace Tg
def val : List Int → Int
 | [] => 0
 | d :: ds => d + 65536 * val ds
end Tg
set_option Elab.async false
set_option linter.all false
set_option maxRecDepth 100000
namespace L2
open PySem PySem.Spec PyProof.Rows
section
variable {X : Cx}
def rCatA : R2 := fun x y H Q => ∃ a b xs ys, x = .ref a ∧ y = .ref b ∧ H a = some (.tup xs) ∧ H b = some (.tup ys) ∧ xs.length + ys.length ≤ sizeLine ∧ ∀ c H', Kp [] H H' → H' c = some (.tup (xs ++ ys)) → Q (.ref c) H'
theorem op_catA : OpR X (binaryOp .Add) rCatA := by
 intro pins s σ H x y v u Q I rx ry h
 obtain ⟨a, b, xs, ys, rfl, rfl, ha, hb, hz, q⟩ := h
 by_cases e : xs = []
 ·subst e
  cases rx
  cases ry
  obtain ⟨its, r1, p1, z1⟩ := I.tuple (SqT.of (K := X.K) ha)
  obtain ⟨its2, r2, p2, z2⟩ := I.tuple (SqT.of (K := X.K) hb)
  cases r1
  obtain ⟨⟨cls, dd, data, sl⟩, ho, hc, n, hd⟩ := id p1
  obtain ⟨⟨cls2, dd2, data2, sl2⟩, ho2, hc2, n2, hd2⟩ := id p2
  simp only at hc hd hc2 hd2
  subst hc hd hc2 hd2
  exact concat_meets ⟨_, ho, rfl⟩ ⟨_, ho2, rfl⟩ noFill_tuple_add seq_tuple_add PySem.F.slot_tuple_add PySem.F.entry_tuple_add (PySem.F.args_tuple_add_2 _ _)
   (tuple_addW0 a b [].toArray its2.toArray n n2 dd dd2 sl sl2 rfl) ⟨ho, ho2, ⟨.ref b, H, I, rfl, q b H (Kp.refl _) hb⟩⟩
 ·exact op_catT pins s σ H _ _ v u Q I rx ry ⟨a, b, xs, ys, rfl, rfl, SqT.of ha, SqT.of hb, e, hz, fun z => by subst z; exact q a H (Kp.refl _) (by rw [List.append_nil]; exact ha), fun _ p hp => q p _ (Kp.new hp _) upd_same⟩
def rSlB : V → Option Int → Option Int → Hp → VK → Prop := fun x lo hi H Q => ∃ a xs, x = .ref a ∧ H a = some (.tup xs) ∧ ∀ c H', Kp [] H H' → H' c = some (.tup (cutV xs lo hi)) → Q (.ref c) H'
theorem sl_tupB : SlR X rSlB := by
 intro pins s σ H x v vl vu lo hi sl Q I rx hs pl pu h
 obtain ⟨a, xs, rfl, ha, q⟩ := h
 refine sl_tupA pins s σ H _ v vl vu lo hi sl Q I rx hs pl pu ⟨a, xs, rfl, SqT.of ha, fun z => q a H (Kp.refl _) ?_, fun _ p hp => q p _ (Kp.new hp _) upd_same⟩
 unfold cutV
 rw [z.1, z.2, List.drop_zero, Nat.sub_zero, List.take_length]
 exact ha
theorem op_neT0 (hu : X.A.units < cLine) : OpR X (compareOp .NotEq) (fun x y H Q => ∃ a b xs, x = .ref a ∧ y = .ref b ∧ H a = some (.tup xs) ∧ H b = some (.tup []) ∧ Q (.bl (!xs.isEmpty)) H) := by
 intro pins s σ H x y v u Q I rx ry h
 obtain ⟨a, b, xs, rfl, rfl, ha, hb, q⟩ := h
 cases rx
 cases ry
 obtain ⟨its, rv, pl, hz⟩ := I.tuple (SqT.of (K := X.K) ha)
 obtain ⟨its2, rv2, pl2, hz2⟩ := I.tuple (SqT.of (K := X.K) hb)
 cases rv2
 refine SeqAt.RcNeAt.tuples (e := fun _ => true) pl pl2 hu (fun j h1 h2 => absurd h2 (by simp)) _ _ _ _ ⟨.bl (!xs.isEmpty), H, I, ?_, q⟩
 show _ = Value.bool _
 congr 1
 cases xs with
 | nil => cases rv; rfl
 | cons x r => cases rv with | cons r1 r2 => simp
def tDNew : TE := fun _ H Q => ∀ p, H p = none → Q (.ref p) (upd H p (.dK []))
theorem pe_dnew {pos : Pos} : PE X (.Dict [] [] pos) tDNew := by
 refine .mk ?_
 intro pins s σ H Q I h
 refine wpAny_Dict_empty ⟨.ref s.heap.objs.size, _, I.laid (a := s.heap.objs.size) (o := .dK []) (t' := s.toks) (fun _ _ q => Heap.get?_push_of_some _ q) (Nat.le_refl _) ?_, rfl, h _ (I.hok.fresh (Nat.le_refl _))⟩
 have hb : sysModules < s.heap.objs.size := Nat.lt_trans (by decide) (I.mod.glob.keeps I.bk).lt
 exact ⟨Nat.zero_le _, beq_eq_false_iff_ne.mpr fun z => Nat.ne_of_lt hb z.symm, [], .nil, Heap.DictOf.new s.heap⟩
end
end L2
set_option Elab.async false
set_option linter.all false
set_option maxRecDepth 100000
namespace L2
open PySem PySem.Spec PyProof.Rows
section
variable {X : Cx} {pins : List (Addr × Obj)} {σ : St} {H : Hp} {s : Shared} {h' : Heap}
theorem Inv.turnedNew {t' : Nat} {ch : List Addr} {a : Addr} {o : HO} (I : Inv X pins σ H s) (k : ∀ b u, b ∉ ch → s.heap.get? b = some u → h'.get? b = some u) (hf : ∀ b ∈ ch, FpOk X pins H b) (ha : s.heap.objs.size ≤ a)
  (new : ObjOk X.prog X.w (upd H a o) h' a o) : Inv X pins σ (upd H a o) { s with heap := h', toks := t' } := by
 have hn : H a = none := I.hok.fresh ha
 have nch : ∀ b u, H b = some u → b ∉ ch := fun b u e z => by rw [(hf b z).1] at e; cases e
 refine I.step (g' := s.gens) (d' := s.drawn) (ch := ch) (fun b hb => ?_) (fun b o _ _ hc e _ => k b o hc e) (fun b o _ _ hc e _ => ⟨o.slots, k b o hc e⟩) (fun b o _ e n => ?_)
  (fun b o hc e => ⟨o, k b o hc e⟩) (fun b xs e => by rw [upd_ne (ne_of_none e hn)]; exact e) (fun b u v e => by rw [upd_ne (ne_of_none e hn)]; exact e) (fun b ps e => ⟨#[], by rw [upd_ne (ne_of_none e hn), e]; simp⟩) (fun m hm => ?_) (fun b u e => ?_) I.bare
 ·obtain ⟨f0, f1, f2, f3, f4, f5⟩ := hf b hb
  exact ⟨f3, f1, f4, f5⟩
 ·rw [upd_ne (Nat.ne_of_lt (Nat.lt_of_lt_of_le (Heap.lt_size e) ha))]
  exact n
 ·obtain ⟨o, es, ep, ho, r⟩ := hm
  exact ⟨o, es, ep, k _ o (fun z => (hf _ z).2.1 rfl) ho, r⟩
 ·by_cases hb : b = a
  ·subst hb; rw [upd_same] at e; cases e; exact new
  ·rw [upd_ne hb] at e
   refine (I.hok b u e).stay (fun c v hc q => k c v ?_ q) (fun c q => by rw [upd_ne (ne_of_none q hn)]; exact q) fun c xs q => by rw [upd_ne (ne_of_none q hn)]; exact q
   rcases hc with z | z
   ·rw [z]; exact nch b u e
   ·exact nch c _ z
theorem Inv.turnedAll {t' : Nat} {ch : List Addr} (I : Inv X pins σ H s) (k : ∀ b u, b ∉ ch → s.heap.get? b = some u → h'.get? b = some u) (hf : ∀ b ∈ ch, FpOk X pins H b) : Inv X pins σ H { s with heap := h', toks := t' } := by
 have nch : ∀ b u, H b = some u → b ∉ ch := fun b u e z => by rw [(hf b z).1] at e; cases e
 refine I.step (g' := s.gens) (d' := s.drawn) (ch := ch) (fun b hb => ?_) (fun b o _ _ hc e _ => k b o hc e) (fun b o _ _ hc e _ => ⟨o.slots, k b o hc e⟩) (fun b o _ e n => n)
  (fun b o hc e => ⟨o, k b o hc e⟩) (fun b xs e => e) (fun b u v e => e) (fun b ps e => ⟨#[], by rw [e]; simp⟩) (fun m hm => ?_) (fun b u e => ?_) I.bare
 ·obtain ⟨f0, f1, f2, f3, f4, f5⟩ := hf b hb
  exact ⟨f3, f1, f4, f5⟩
 ·obtain ⟨o, es, ep, ho, r⟩ := hm
  exact ⟨o, es, ep, k _ o (fun z => (hf _ z).2.1 rfl) ho, r⟩
 ·refine (I.hok b u e).stay (fun c v hc q => k c v ?_ q) (fun _ q => q) fun _ _ q => q
  rcases hc with z | z
  ·rw [z]; exact nch b u e
  ·exact nch c _ z
end
section
variable {X : Cx} {tg : Expr}
end
section
variable {own : List Str} {cap : List (Nat × Str)} {σ : St} {H1 : Hp} {D : Addr} {g : TG} {tc : TT} {te : TE} {QD : Hp → Prop}
end
end L2
set_option Elab.async false
set_option linter.all false
set_option maxRecDepth 100000
namespace L2
open PySem PySem.Spec PyProof.Rows
section
variable {prog : Program} {w : World} {A : Around} {E : Value → Shared → Prop} {s : Shared}
theorem nextT_item {j u : Addr} {i : Nat} {vs : Array Value} {v : Value} {Q : Value → Shared → Prop} (hj : s.heap.IsTupleIter j u i) (hu : s.heap.IsTuple u vs) (hv : vs[i]? = some v)
  (q : ∀ h', h'.IsTupleIter j u (i + 1) → Heap.SameBut j s.heap h' → Q v { s with heap := h' }) : wpAny (model prog w) A (Builtin.SmallTypes.nextOf (.ref j)) Q E s := by
 obtain ⟨ob, b1, b2, b3⟩ := id hj
 obtain ⟨ou, c1, _, nu, c3⟩ := hu
 unfold Builtin.SmallTypes.nextOf
 refine wpAny_bind (wpAny_callSpecial?_slot (name := Str.ofString "__next__") hj.typeIs F.slot_tuple_iterator_next (wpAny_call_entry F.slot_tuple_iterator_next hj.typeIs F.entry_tuple_iterator_next ?_ (F.args_tuple_iterator_next_1 _)))
 show wpAny _ _ (field (.ref j) 0 >>= _) _ _ s
 refine wpAny_bind (wpAny_field b1 b3 (x := .ref u) rfl ?_)
 show wpAny _ _ (if (Value.ref u == Value.none) = true then _ else _) _ _ s
 rw [if_neg (show ¬ ((Value.ref u == Value.none) = true) from Bool.false_ne_true)]
 show wpAny _ _ (field (.ref j) 1 >>= _) _ _ s
 refine wpAny_bind (wpAny_field b1 b3 (x := .int i 0) rfl ?_)
 show wpAny _ _ (seqItems? (.ref u) >>= _) _ _ s
 refine wpAny_bind (wpAny_seqItems c1 c3 ?_)
 simp only [Int.toNat_natCast, hv]
 refine wpAny_bind (wpAny_setField b1 b3 (by simp) (wpAny_pure ⟨v, rfl, wpAny_pure (q _ ?_ (Heap.SameBut.update ..))⟩))
 exact ⟨_, Heap.get?_update_self _ b1 (Obj.isFreed_of_fields (Obj.data_mapFields b3 _)), (Obj.cls_mapFields ..).trans b2, by rw [Obj.data_mapFields b3]; simp [rawInt]⟩
theorem nextT_end {j u : Addr} {i : Nat} {vs : Array Value} {Q : Value → Shared → Prop} (hh : A.handled = none) (hj : s.heap.IsTupleIter j u i) (hu : s.heap.IsTuple u vs) (hv : vs[i]? = none)
  (q : ∀ h' e, Heap.ExtBut j s.heap h' → (∃ o, h'.get? e = some o ∧ o.cls = .type "StopIteration") → E (.ref e) { s with heap := h' }) : wpAny (model prog w) A (Builtin.SmallTypes.nextOf (.ref j)) Q E s := by
 obtain ⟨ob, b1, b2, b3⟩ := id hj
 obtain ⟨ou, c1, _, nu, c3⟩ := hu
 unfold Builtin.SmallTypes.nextOf
 refine wpAny_bind (wpAny_callSpecial?_slot (name := Str.ofString "__next__") hj.typeIs F.slot_tuple_iterator_next (wpAny_call_entry F.slot_tuple_iterator_next hj.typeIs F.entry_tuple_iterator_next ?_ (F.args_tuple_iterator_next_1 _)))
 show wpAny _ _ (field (.ref j) 0 >>= _) _ _ s
 refine wpAny_bind (wpAny_field b1 b3 (x := .ref u) rfl ?_)
 show wpAny _ _ (if (Value.ref u == Value.none) = true then _ else _) _ _ s
 rw [if_neg (show ¬ ((Value.ref u == Value.none) = true) from Bool.false_ne_true)]
 show wpAny _ _ (field (.ref j) 1 >>= _) _ _ s
 refine wpAny_bind (wpAny_field b1 b3 (x := .int i 0) rfl ?_)
 show wpAny _ _ (seqItems? (.ref u) >>= _) _ _ s
 refine wpAny_bind (wpAny_seqItems c1 c3 ?_)
 simp only [Int.toNat_natCast, hv]
 refine wpAny_bind (wpAny_rule (wpAny_bind (wpAny_setField b1 b3 (by simp) ?_)))
 show wpAny _ _ (newExc (.type "StopIteration") [] >>= _) _ _ _
 refine wpAny_bind ?_
 simp only [newExc, newTuple]
 refine wpAny_bind (wpAny_newObj_type ?_ (by show 0 ≤ sizeLine; exact Nat.zero_le _))
 refine wpAny_bind (m := firstArgMember _ _) (wpAny_of_eq (a := Value.none) (by first | rfl | (simp only [firstArgMember] <;> rfl)) ?_)
 refine wpAny_newObj_type ?_ (by size_fits)
 simp only [raiseNew]
 refine wpAny_bind (wpAny_handled ?_)
 first | rw [show A.in1.handled = none from hh] | rw [hh]
 refine wpAny_bind (wpAny_pure (wpAny_throw ?_))
 exact q _ _ (((Heap.SameBut.update ..).extBut.push _).push _) ⟨_, Heap.get?_push_size _ rfl, rfl⟩
structure Apart (z p r j1 j2 u1 u2 : Addr) : Prop where
 pz : p ≠ z
 rz : r ≠ z
 j1z : j1 ≠ z
 j2z : j2 ≠ z
 pr : p ≠ r
 pj1 : p ≠ j1
 pj2 : p ≠ j2
 rj1 : r ≠ j1
 rj2 : r ≠ j2
 j12 : j1 ≠ j2
 u1z : u1 ≠ z
 u1r : u1 ≠ r
 u1j1 : u1 ≠ j1
 u1j2 : u1 ≠ j2
 u2z : u2 ≠ z
 u2r : u2 ≠ r
 u2j1 : u2 ≠ j1
 u2j2 : u2 ≠ j2
theorem itAt {h h' : Heap} {a t : Addr} {i : Nat} (x : h.IsTupleIter a t i) (e : ∀ o, h.get? a = some o → h'.get? a = some o) : h'.IsTupleIter a t i := let ⟨o, ho, r⟩ := x; ⟨o, e o ho, r⟩
theorem zipT_item {z p r j1 j2 u1 u2 : Addr} {i : Nat} {vs ws : Array Value} {x y a b : Value} {Q : Value → Shared → Prop} (D : Apart z p r j1 j2 u1 u2)
  (hz : IsZip s.heap z p r .none) (hp : IsPair s.heap p (.ref j1) (.ref j2)) (hr : IsPair s.heap r a b)
  (h1 : s.heap.IsTupleIter j1 u1 i) (h2 : s.heap.IsTupleIter j2 u2 i) (l1 : s.heap.IsTuple u1 vs) (l2 : s.heap.IsTuple u2 ws) (hx : vs[i]? = some x) (hy : ws[i]? = some y)
  (q : ∀ h', IsZip h' z p r (rawInt s.heap.objs.size) → IsPair h' r x y → h'.IsTupleIter j1 u1 (i + 1) → h'.IsTupleIter j2 u2 (i + 1) → IsPair h' s.heap.objs.size x y → h'.objs.size = s.heap.objs.size + 1 →
   (∀ c o, c ≠ z → c ≠ r → c ≠ j1 → c ≠ j2 → s.heap.get? c = some o → h'.get? c = some o) → Q (.ref s.heap.objs.size) { s with heap := h' }) :
  wpAny (model prog w) A (Builtin.«zip.__next__» ⟨[.ref z], []⟩) (fun fin s' => ∃ v, fin = .done (.ret v) ∧ Q v s') E s := by
 show wpAny _ _ (field (.ref z) 2 >>= _) _ _ _
 refine wpAny_bind (wpAny_field hz rfl (x := .bool false) rfl ?_)
 show wpAny _ _ (field (.ref z) 3 >>= _) _ _ _
 refine wpAny_bind (wpAny_field hz rfl (x := .ref p) rfl ?_)
 refine wpAny_bind (wpAny_seqItems hp rfl ?_)
 show wpAny _ _ (Builtin.SmallTypes.ownedTupleIsFree (.ref z) >>= _) _ _ _
 refine wpAny_bind ?_
 unfold Builtin.SmallTypes.ownedTupleIsFree
 refine wpAny_bind (wpAny_field hz rfl (x := .none) rfl (wpAny_pure ?_))
 simp only [if_true]
 refine wpAny_bind (wpAny_rule ?_)
 refine wpAny_bind (wpAny_field hz rfl (x := .ref r) rfl ?_)
 refine wpAny_bind (wpAny_setField_rec hz (by simp) fun g1 z1 e1 => ?_)
 replace z1 : IsZip g1 z p r .ellipsis := z1
 refine wpAny_bind ?_
 simp only [List.zipIdx_cons, List.zipIdx_nil, List.forIn_cons, List.forIn_nil]
 refine wpAny_bind (wpAny_bind (wpAny_onRaise ?_))
 show wpAny _ _ (Builtin.SmallTypes.nextOf (.ref j1) >>= _) _ _ _
 refine wpAny_bind (nextT_item (h1.extBut e1.extBut D.j1z) (l1.extBut e1.extBut D.u1z) hx fun g2 a2 e2 => wpAny_pure ?_)
 have r2 : IsPair g2 r a b := e2.extBut _ _ D.rj1 (e1.extBut _ _ D.rz hr)
 refine wpAny_bind (wpAny_seqItems r2 rfl ?_)
 refine wpAny_bind (wpAny_updateSeq_pair r2 fun g3 r3 e3 => ?_)
 replace r3 : IsPair g3 r x b := r3
 refine wpAny_bind (wpAny_letGo (wpAny_pure ?_))
 refine wpAny_bind (wpAny_bind (wpAny_onRaise ?_))
 show wpAny _ _ (Builtin.SmallTypes.nextOf (.ref j2) >>= _) _ _ _
 refine wpAny_bind (nextT_item (((h2.extBut e1.extBut D.j2z).extBut e2.extBut D.j12.symm).extBut e3.extBut D.rj2.symm) (((l2.extBut e1.extBut D.u2z).extBut e2.extBut D.u2j1).extBut e3.extBut D.u2r) hy fun g4 a4 e4 => wpAny_pure ?_)
 have r4 : IsPair g4 r x b := e4.extBut _ _ D.rj2 r3
 refine wpAny_bind (wpAny_seqItems r4 rfl ?_)
 refine wpAny_bind (wpAny_updateSeq_pair r4 fun g5 r5 e5 => ?_)
 replace r5 : IsPair g5 r x y := r5
 refine wpAny_bind (wpAny_letGo (wpAny_pure (wpAny_pure ?_)))
 refine wpAny_bind (wpAny_seqItems r5 rfl ?_)
 refine wpAny_bind (wpAny_newTuple ?_)
 have sz : g5.objs.size = s.heap.objs.size := by rw [e5.1, e4.1, e3.1, e2.1, e1.1]
 have z5 : IsZip g5 z p r .ellipsis := e5.extBut _ _ D.rz.symm (e4.extBut _ _ D.j2z.symm (e3.extBut _ _ D.rz.symm (e2.extBut _ _ D.j1z.symm z1)))
 have k5 : ∀ c o, c ≠ z → c ≠ r → c ≠ j1 → c ≠ j2 → s.heap.get? c = some o → g5.get? c = some o := fun c o n1 n2 n3 n4 e =>
  e5.extBut _ _ n2 (e4.extBut _ _ n4 (e3.extBut _ _ n2 (e2.extBut _ _ n3 (e1.extBut _ _ n1 e))))
 have b1 : g5.IsTupleIter j1 u1 (i + 1) := ((a2.extBut e3.extBut D.rj1.symm).extBut e4.extBut D.j12).extBut e5.extBut D.rj1.symm
 have b2 : g5.IsTupleIter j2 u2 (i + 1) := a4.extBut e5.extBut D.rj2.symm
 have zl : z < g5.objs.size := Heap.lt_size z5
 show wpAny _ _ (Builtin.SmallTypes.ownedTupleHandOut (.ref z) (.ref g5.objs.size) >>= _) _ _ _
 refine wpAny_bind ?_
 unfold Builtin.SmallTypes.ownedTupleHandOut
 have z6 : IsZip (g5.push { cls := .type "tuple", data := .seq #[x, y] }) z p r .ellipsis := Heap.get?_push_of_some _ z5
 refine wpAny_bind (wpAny_setField_rec z6 (by simp) fun g7 z7 e7 => ?_)
 replace z7 : IsZip g7 z p r (rawInt g5.objs.size) := z7
 refine wpAny_setField_rec z7 (by simp) fun g8 z8 e8 => ?_
 replace z8 : IsZip g8 z p r (rawInt g5.objs.size) := z8
 have up : ∀ c o, c ≠ z → g5.get? c = some o → g8.get? c = some o := fun c o n1 e => e8.extBut _ _ n1 (e7.extBut _ _ n1 (Heap.get?_push_of_some _ e))
 have t8 : IsPair g8 g5.objs.size x y := e8.extBut _ _ (Nat.ne_of_gt zl) (e7.extBut _ _ (Nat.ne_of_gt zl) (Heap.get?_push_size _ rfl))
 have s8 : g8.objs.size = g5.objs.size + 1 := by rw [e8.1, e7.1, Heap.size_push]
 rw [sz] at z8 t8 s8
 refine wpAny_pure ⟨_, rfl, ?_⟩
 show Q (.ref g5.objs.size) _
 rw [sz]
 exact q g8 z8 (up _ _ D.rz r5) (itAt b1 fun o e => up _ o D.j1z e) (itAt b2 fun o e => up _ o D.j2z e) t8 s8 fun c o n1 n2 n3 n4 e => up c o n1 (k5 c o n1 n2 n3 n4 e)
theorem zipT_end {z p r j1 j2 u1 u2 : Addr} {i : Nat} {vs ws : Array Value} {a b : Value} {Q : Fin → Shared → Prop} (hh : A.handled = none) (D : Apart z p r j1 j2 u1 u2)
  (hz : IsZip s.heap z p r .none) (hp : IsPair s.heap p (.ref j1) (.ref j2)) (hr : IsPair s.heap r a b)
  (h1 : s.heap.IsTupleIter j1 u1 i) (h2 : s.heap.IsTupleIter j2 u2 i) (l1 : s.heap.IsTuple u1 vs) (l2 : s.heap.IsTuple u2 ws) (hend : vs[i]? = none ∨ ws[i]? = none)
  (q : ∀ h' e, (∀ c o, c ≠ z → c ≠ r → c ≠ j1 → c ≠ j2 → s.heap.get? c = some o → h'.get? c = some o) → (∃ o, h'.get? e = some o ∧ o.cls = .type "StopIteration") → E (.ref e) { s with heap := h' }) :
  wpAny (model prog w) A (Builtin.«zip.__next__» ⟨[.ref z], []⟩) Q E s := by
 show wpAny _ _ (field (.ref z) 2 >>= _) _ _ _
 refine wpAny_bind (wpAny_field hz rfl (x := .bool false) rfl ?_)
 show wpAny _ _ (field (.ref z) 3 >>= _) _ _ _
 refine wpAny_bind (wpAny_field hz rfl (x := .ref p) rfl ?_)
 refine wpAny_bind (wpAny_seqItems hp rfl ?_)
 show wpAny _ _ (Builtin.SmallTypes.ownedTupleIsFree (.ref z) >>= _) _ _ _
 refine wpAny_bind ?_
 unfold Builtin.SmallTypes.ownedTupleIsFree
 refine wpAny_bind (wpAny_field hz rfl (x := .none) rfl (wpAny_pure ?_))
 simp only [if_true]
 refine wpAny_bind (wpAny_rule ?_)
 refine wpAny_bind (wpAny_field hz rfl (x := .ref r) rfl ?_)
 refine wpAny_bind (wpAny_setField_rec hz (by simp) fun g1 z1 e1 => ?_)
 replace z1 : IsZip g1 z p r .ellipsis := z1
 refine wpAny_bind ?_
 simp only [List.zipIdx_cons, List.zipIdx_nil, List.forIn_cons, List.forIn_nil]
 refine wpAny_bind (wpAny_bind (wpAny_onRaise ?_))
 show wpAny _ _ (Builtin.SmallTypes.nextOf (.ref j1) >>= _) _ _ _
 cases hx : vs[i]? with
 | none =>
  refine wpAny_bind (nextT_end hh (h1.extBut e1.extBut D.j1z) (l1.extBut e1.extBut D.u1z) hx fun g2 e e2 he => ?_)
  obtain ⟨oe, he1, he2⟩ := he
  have z2 : IsZip g2 z p r .ellipsis := e2 _ _ D.j1z.symm z1
  have nez : e ≠ z := fun x => by subst x; rw [z2] at he1; cases he1; simp at he2
  refine wpAny_setField_rec z2 (by simp) fun g3 _ e3 => q g3 e (fun c o n1 _ n3 _ x => e3.extBut _ _ n1 (e2 _ _ n3 (e1.extBut _ _ n1 x))) ⟨oe, e3.extBut _ _ nez he1, he2⟩
 | some x =>
  have hy : ws[i]? = none := by rcases hend with h | h; rw [hx] at h; cases h; exact h
  refine wpAny_bind (nextT_item (h1.extBut e1.extBut D.j1z) (l1.extBut e1.extBut D.u1z) hx fun g2 a2 e2 => wpAny_pure ?_)
  have r2 : IsPair g2 r a b := e2.extBut _ _ D.rj1 (e1.extBut _ _ D.rz hr)
  refine wpAny_bind (wpAny_seqItems r2 rfl ?_)
  refine wpAny_bind (wpAny_updateSeq_pair r2 fun g3 r3 e3 => ?_)
  refine wpAny_bind (wpAny_letGo (wpAny_pure ?_))
  refine wpAny_bind (wpAny_bind (wpAny_onRaise ?_))
  show wpAny _ _ (Builtin.SmallTypes.nextOf (.ref j2) >>= _) _ _ _
  refine wpAny_bind (nextT_end hh (((h2.extBut e1.extBut D.j2z).extBut e2.extBut D.j12.symm).extBut e3.extBut D.rj2.symm) (((l2.extBut e1.extBut D.u2z).extBut e2.extBut D.u2j1).extBut e3.extBut D.u2r) hy fun g4 e e4 he => ?_)
  obtain ⟨oe, he1, he2⟩ := he
  have z4 : IsZip g4 z p r .ellipsis := e4 _ _ D.j2z.symm (e3.extBut _ _ D.rz.symm (e2.extBut _ _ D.j1z.symm z1))
  have nez : e ≠ z := fun x => by subst x; rw [z4] at he1; cases he1; simp at he2
  refine wpAny_setField_rec z4 (by simp) fun g5 _ e5 => q g5 e (fun c o n1 n2 n3 n4 x => e5.extBut _ _ n1 (e4 _ _ n4 (e3.extBut _ _ n2 (e2.extBut _ _ n3 (e1.extBut _ _ n1 x))))) ⟨oe, e5.extBut _ _ nez he1, he2⟩
end
def Itz (K : PySem.W.Frag) (a b : Addr) : It :=
  ⟨fun i H => ∃ xs ys x y, SqT K H a xs ∧ SqT K H b ys ∧ xs[i]? = some x ∧ ys[i]? = some y,
   fun i H v H' => ∃ p x y, H p = none ∧ v = .ref p ∧ H' = upd H p (.tup [x, y]) ∧ (∀ xs, SqT K H a xs → xs[i]? = some x) ∧ (∀ ys, SqT K H b ys → ys[i]? = some y),
   fun i H => ∃ xs ys, SqT K H a xs ∧ SqT K H b ys ∧ (xs.length ≤ i ∨ ys.length ≤ i)⟩
theorem turn_zip {P : Program} {w : World} {K : PySem.W.Frag} {elts : List Expr} {kk : Nat} {pos : Pos} (a b z p r j1 j2 : Addr) (D : Apart z p r j1 j2 a b) :
  Turn P w K (.Tuple elts kk pos) (Itz K a b) [z, p, r, j1, j2] z (fun i h => IsZip h z p r .none ∧ IsPair h p (.ref j1) (.ref j2) ∧ (∃ u v, IsPair h r u v) ∧ h.IsTupleIter j1 a i ∧ h.IsTupleIter j2 b i) where
 mem := by simp
 obj := fun i h st c hc => by
  obtain ⟨hz, hp, ⟨u, v, hr⟩, ⟨o1, e1, _, d1⟩, ⟨o2, e2, _, d2⟩⟩ := st
  simp only [List.mem_cons, List.not_mem_nil, or_false] at hc
  rcases hc with rfl | rfl | rfl | rfl | rfl
  ·exact ⟨_, hz, fun v z => by have z' : Data.fields _ = Data.cell v := z; cases z'⟩
  ·exact ⟨_, hp, fun v z => by have z' : Data.seq _ _ = Data.cell v := z; cases z'⟩
  ·exact ⟨_, hr, fun v z => by have z' : Data.seq _ _ = Data.cell v := z; cases z'⟩
  ·exact ⟨o1, e1, fun v z => by rw [d1] at z; cases z⟩
  ·exact ⟨o2, e2, fun v z => by rw [d2] at z; cases z⟩
 keep := fun i h h' st k => by
  obtain ⟨hz, hp, ⟨u, v, hr⟩, h1, h2⟩ := st
  exact ⟨k z (by simp) _ hz, k p (by simp) _ hp, ⟨u, v, k r (by simp) _ hr⟩, itAt h1 fun o e => k j1 (by simp) o e, itAt h2 fun o e => k j2 (by simp) o e⟩
 item := by
  intro X hP hw hK hc i pins s σ H E I hf st hg
  subst hP hw hK
  obtain ⟨hz, hp, ⟨u, v, hr⟩, h1, h2⟩ := st
  obtain ⟨xs, ys, x, y, hxs, hys, hx, hy⟩ := hg
  obtain ⟨its, rv, pl, _⟩ := I.tuple hxs
  obtain ⟨its2, rv2, pl2, _⟩ := I.tuple hys
  obtain ⟨vx, ex, rx⟩ := rv.get hx
  obtain ⟨vy, ey, ry⟩ := rv2.get hy
  have hT : s.TypeIs (.ref z) "zip" := ⟨_, hz, rfl⟩
  have n0 : H s.heap.objs.size = none := I.hok.fresh (Nat.le_refl _)
  unfold pyNext
  refine wpAny_bind (wpAny_attempt (wpAny_callSpecial?_slot (name := Str.ofString "__next__") hT F.slot_zip_next (wpAny_call_entry F.slot_zip_next hT F.entry_zip_next
   (zipT_item D hz hp hr h1 h2 pl pl2 (by simpa using ex) (by simpa using ey) fun g a1 a2 a3 a4 a5 a6 a7 => wpAny_pure ?_) (F.args_zip_next_1 _))))
  refine ⟨_, rfl, ?_⟩
  refine wpAny_letOwnedTupleGo_zip a1 fun g2 b1 b2 => ?_
  have zl : z < s.heap.objs.size := Heap.lt_size hz
  have lt : ∀ c ∈ [z, p, r, j1, j2], c < s.heap.objs.size := fun c hc => by
   simp only [List.mem_cons, List.not_mem_nil, or_false] at hc
   obtain ⟨_, q1, _⟩ := h1
   obtain ⟨_, q2, _⟩ := h2
   rcases hc with rfl | rfl | rfl | rfl | rfl
   ·exact zl
   ·exact Heap.lt_size hp
   ·exact Heap.lt_size hr
   ·exact Heap.lt_size q1
   ·exact Heap.lt_size q2
  refine ⟨.ref s.heap.objs.size, upd H s.heap.objs.size (.tup [x, y]), ?_, rfl, ⟨_, x, y, n0, rfl, rfl, fun zs hzs => by rw [I.tuple_inj hzs hxs]; exact hx, fun zs hzs => by rw [I.tuple_inj hzs hys]; exact hy⟩, ⟨b1, ?_, ⟨vx, vy, ?_⟩, ?_, ?_⟩, fun c hc => ?_⟩
  ·refine I.turnedNew (t' := s.toks) (ch := [z, r, j1, j2]) (fun c o hc e => ?_) (fun c hc => hf c ?_) (Nat.le_refl _) ⟨by show 2 ≤ sizeLine; decide, [vx, vy], .cons rx (.cons ry .nil), ?_⟩
   ·simp only [List.mem_cons, List.not_mem_nil, or_false, not_or] at hc
    exact b2.extBut _ _ hc.1 (a7 c o hc.1 hc.2.1 hc.2.2.1 hc.2.2.2 e)
   ·simp only [List.mem_cons, List.not_mem_nil, or_false] at hc ⊢
    rcases hc with rfl | rfl | rfl | rfl <;> simp
   ·exact ⟨_, b2.extBut _ _ (Nat.ne_of_gt zl) a5, rfl, 0, rfl⟩
  ·exact b2.extBut _ _ D.pz (a7 _ _ D.pz D.pr D.pj1 D.pj2 hp)
  ·exact b2.extBut _ _ D.rz a2
  ·exact a3.extBut b2.extBut D.j1z
  ·exact a4.extBut b2.extBut D.j2z
  ·rw [upd_ne (Nat.ne_of_lt (lt c hc))]
   exact (hf c hc).1
 done := by
  intro X hP hw hK hc i pins s σ H E I hf st hg
  subst hP hw hK
  obtain ⟨hz, hp, ⟨u, v, hr⟩, h1, h2⟩ := st
  obtain ⟨xs, ys, hxs, hys, he⟩ := hg
  obtain ⟨its, rv, pl, _⟩ := I.tuple hxs
  obtain ⟨its2, rv2, pl2, _⟩ := I.tuple hys
  have l1 := rv.length
  have l2 := rv2.length
  have hend : its.toArray[i]? = none ∨ its2.toArray[i]? = none := he.imp (fun e => by simp; omega) (fun e => by simp; omega)
  have hT : s.TypeIs (.ref z) "zip" := ⟨_, hz, rfl⟩
  unfold pyNext
  refine wpAny_bind (wpAny_attempt (wpAny_callSpecial?_slot (name := Str.ofString "__next__") hT F.slot_zip_next (wpAny_call_entry F.slot_zip_next hT F.entry_zip_next
   (zipT_end (I.ok.hd hc) D hz hp hr h1 h2 pl pl2 hend fun g e kk he => ?_) (F.args_zip_next_1 _))))
  obtain ⟨o, ho, hcl⟩ := he
  refine wpAny_bind (wpAny_isInstance (T := "StopIteration") (b := true) ⟨o, ho, hcl⟩ isSubtype_stop ?_)
  refine wpAny_pure ⟨rfl, I.turnedAll (t' := s.toks) (ch := [z, r, j1, j2]) (fun c o hc e => ?_) (fun c hc => hf c ?_)⟩
  ·simp only [List.mem_cons, List.not_mem_nil, or_false, not_or] at hc
   exact kk c o hc.1 hc.2.1 hc.2.2.1 hc.2.2.2 e
  ·simp only [List.mem_cons, List.not_mem_nil, or_false] at hc ⊢
   rcases hc with rfl | rfl | rfl | rfl <;> simp
 self := fun _ _ _ _ _ st h => wpAny_pyIter_zip st.1 h
abbrev zH1 (h : Heap) (a : Addr) : Heap := h.push { cls := .type "tuple_iterator", data := .fields #[.ref a, .int 0 0] }
abbrev zH2 (h : Heap) (a b : Addr) : Heap := (zH1 h a).push { cls := .type "tuple_iterator", data := .fields #[.ref b, .int 0 0] }
abbrev zH3 (h : Heap) (a b : Addr) : Heap := (zH2 h a b).push { cls := .type "tuple", data := .seq #[.ref h.objs.size, .ref (zH1 h a).objs.size] }
abbrev zH4 (h : Heap) (a b : Addr) : Heap := (zH3 h a b).push { cls := .type "tuple", data := .seq #[.none, .none] }
abbrev zH5 (h : Heap) (a b : Addr) : Heap := (zH4 h a b).push { cls := .type "zip", data := .fields #[.none, .bool false, .bool false, .ref (zH2 h a b).objs.size, .ref (zH3 h a b).objs.size] }
theorem zipT_new (a b : Addr) (vs ws : Array Value) :
  Meets (Builtin.«zip.__new__» ⟨[.type "zip", .ref a, .ref b], []⟩) (fun _ R s => s.heap.IsTuple a vs ∧ s.heap.IsTuple b ws ∧ R (.ok (.ret (.ref (zH4 s.heap a b).objs.size))) { s with heap := zH5 s.heap a b }) :=
 .of_wp fun prog w A R s h => by
  obtain ⟨hp, g, d, tk, os⟩ := s; obtain ⟨la, lb, h⟩ := h
  have hsub := sub_zip
  have L1 : Heap.IsTuple (Shared.heap ⟨hp, g, d, tk, os⟩) a vs := la
  have L2 : Heap.IsTuple (Shared.heap ⟨hp.push { cls := .type "tuple_iterator", data := .fields #[.ref a, .int 0 0] }, g, d, tk, os⟩) b ws := Heap.IsTuple.push lb _
  wp_walk using wpAny_pyIter_tuple L1, wpAny_pyIter_tuple L2
  exact ⟨_, rfl, h⟩
theorem call_zipT {prog : Program} {w : World} {A : Around} {E : Value → Shared → Prop} {s : Shared} {a b : Addr} {vs ws : Array Value} {Q : Value → Shared → Prop} (la : s.heap.IsTuple a vs) (lb : s.heap.IsTuple b ws)
  (q : ∀ h', IsZip h' (s.heap.objs.size + 4) (s.heap.objs.size + 2) (s.heap.objs.size + 3) .none → IsPair h' (s.heap.objs.size + 2) (.ref s.heap.objs.size) (.ref (s.heap.objs.size + 1)) →
   IsPair h' (s.heap.objs.size + 3) .none .none → h'.IsTupleIter s.heap.objs.size a 0 → h'.IsTupleIter (s.heap.objs.size + 1) b 0 → (∀ c o, s.heap.get? c = some o → h'.get? c = some o) → Q (.ref (s.heap.objs.size + 4)) { s with heap := h' }) :
  wpAny (model prog w) A (call (.type "zip") [.ref a, .ref b]) Q E s := by
 refine callType_new F.called_zip (by decide) (F.typeCall_zip_2 _ _) (F.newCall_zip_2 _ _) (fun obj => F.args_object_init_3 obj _ _) F.entry_zip_new (zipT_new a b vs ws) ⟨la, lb, ?_⟩
 have z1 : (zH1 s.heap a).objs.size = s.heap.objs.size + 1 := Heap.size_push ..
 have z2 : (zH2 s.heap a b).objs.size = s.heap.objs.size + 2 := by rw [Heap.size_push, z1]
 have z3 : (zH3 s.heap a b).objs.size = s.heap.objs.size + 3 := by rw [Heap.size_push, z2]
 have z4 : (zH4 s.heap a b).objs.size = s.heap.objs.size + 4 := by rw [Heap.size_push, z3]
 have g5 : (zH5 s.heap a b).get? (zH4 s.heap a b).objs.size = some _ := Heap.get?_push_size _ rfl
 have g4 : (zH5 s.heap a b).get? (zH3 s.heap a b).objs.size = some _ := Heap.get?_push_of_some _ (Heap.get?_push_size _ rfl)
 have g3 : (zH5 s.heap a b).get? (zH2 s.heap a b).objs.size = some _ := Heap.get?_push_of_some _ (Heap.get?_push_of_some _ (Heap.get?_push_size _ rfl))
 have g2 : (zH5 s.heap a b).get? (zH1 s.heap a).objs.size = some _ := Heap.get?_push_of_some _ (Heap.get?_push_of_some _ (Heap.get?_push_of_some _ (Heap.get?_push_size _ rfl)))
 have g1 : (zH5 s.heap a b).get? s.heap.objs.size = some _ := Heap.get?_push_of_some _ (Heap.get?_push_of_some _ (Heap.get?_push_of_some _ (Heap.get?_push_of_some _ (Heap.get?_push_size _ rfl))))
 show _ ∧ _
 rw [z2, z3, z4] at g5
 rw [z1, z2] at g3
 rw [z3] at g4
 rw [z1] at g2
 rw [z4]
 exact ⟨⟨_, g5, rfl⟩, q _ g5 g3 g4 ⟨_, g1, rfl, rfl⟩ ⟨_, g2, rfl, rfl⟩ fun c o x => Heap.get?_push_of_some _ (Heap.get?_push_of_some _ (Heap.get?_push_of_some _ (Heap.get?_push_of_some _ (Heap.get?_push_of_some _ x))))⟩
theorem apart_new {n a b : Addr} (ha : a < n) (hb : b < n) : Apart (n + 4) (n + 2) (n + 3) n (n + 1) a b := by
 have ne : ∀ i j : Nat, i ≠ j → (Nat.add n i : Addr) ≠ Nat.add n j := fun i j h e => h (Nat.add_left_cancel e)
 have lo : ∀ (c : Addr) (i : Nat), c < n → c ≠ Nat.add n i := fun c i h => Nat.ne_of_lt (Nat.lt_of_lt_of_le h (Nat.le_add_right n i))
 exact ⟨ne 2 4 (by decide), ne 3 4 (by decide), ne 0 4 (by decide), ne 1 4 (by decide), ne 2 3 (by decide), ne 2 0 (by decide), ne 2 1 (by decide), ne 3 0 (by decide), ne 3 1 (by decide), ne 0 1 (by decide),
  lo a 4 ha, lo a 3 ha, lo a 0 ha, lo a 1 ha, lo b 4 hb, lo b 3 hb, lo b 0 hb, lo b 1 hb⟩
section
variable {X : Cx} {elts : List Expr} {kk : Nat} {tpos : Pos}
def iZip (K : PySem.W.Frag) (ta : TA) : TI := fun σ H R => ta σ H fun vs H1 => ∃ a b xs ys, vs = [.ref a, .ref b] ∧ SqT K H1 a xs ∧ SqT K H1 b ys ∧ R (Itz K a b) H1
theorem pi_zip {a b : Expr} {ta : TA} {p pos : Pos} (hg : Gl X "zip") (hm : X.mg "zip" = none) (ha : PA X [a, b] ta) (hs : starEach [a, b] X.env = [(false, eval a X.env), (false, eval b X.env)] := by rfl) (hs2 : starEach [b] X.env = [(false, eval b X.env)] := by rfl) :
  PI X (.Tuple elts kk tpos) (.Call (.Name "zip" p) [a, b] [] pos) (iZip X.K ta) := by
 refine .mk ?_
 intro pins s σ H R I h
 refine Call_ (ld_blt I hg hm boot_zip (PyProof.Rows.callWith_type1 (thn (ha pos pins s σ H _ I h) fun us s1 ⟨vs, H1, I1, r1, q1⟩ => ?_) (by rw [hs, hs2]) (by rw [hs2]; rfl)))
 obtain ⟨u1, u2, xs, ys, e, hx, hy, q⟩ := q1
 subst e
 cases r1 with
 | cons r rr =>
  cases rr with
  | cons r' rr =>
   cases rr
   cases r
   cases r'
   obtain ⟨its, rv, pl, _⟩ := I1.tuple hx
   obtain ⟨its2, rv2, pl2, _⟩ := I1.tuple hy
   obtain ⟨o1, e1, _⟩ := id pl
   obtain ⟨o2, e2, _⟩ := id pl2
   refine call_zipT pl pl2 fun h' hz hp hr j1 j2 k => ?_
   refine wpAny_pyIter_zip hz ?_
   refine ⟨s1.heap.objs.size + 4, [s1.heap.objs.size + 4, s1.heap.objs.size + 2, s1.heap.objs.size + 3, s1.heap.objs.size, s1.heap.objs.size + 1], _, _, H1, rfl, I1.kept (t' := s1.toks) k, turn_zip u1 u2 _ _ _ _ _ (apart_new (Heap.lt_size e1) (Heap.lt_size e2)), ⟨hz, hp, ⟨_, _, hr⟩, j1, j2⟩, fun c hc => ?_, q⟩
   have hc' : s1.heap.objs.size ≤ c := by
    simp only [List.mem_cons, List.not_mem_nil, or_false] at hc
    rcases hc with rfl | rfl | rfl | rfl | rfl <;> first | exact Nat.le_refl _ | exact Nat.le_add_right _ _
   exact I1.fpOk hc' (I1.hok.fresh hc')
end
section
variable {own : List Str} {cap : List (Nat × Str)} {σ : St} {H1 : Hp} {D : Addr} {g : TG} {tc : TT} {te : TE} {QD : Hp → Prop} {K : PySem.W.Frag} {a b : Addr} {xs ys : List V}
end
end L2
set_option Elab.async false
set_option linter.all false
set_option maxRecDepth 100000
namespace L2
open PySem PySem.Spec PyProof.Rows PySem.W PySem.Calls PySem.Builtin PySem.Builtin.ObjectAttr PySem.Builtin.Getset_descriptor
def ExAt (x D : Addr) : Heap → Prop := fun h => ∃ o, h.get? x = some o ∧ o.cls = .ref D
section
variable {K : Frag} {x D : Addr}
theorem ExAt.type {M : Model} {h : Heap} (I : ExAt x D h) : Looks M h (typeOf (.ref x)) (.ref D) := by
 obtain ⟨o, e, c⟩ := I
 exact c ▸ (Looks.ld e).andThen .now
variable {prog : Program} {w : World} {A : Around} {E : Value → Shared → Prop} {s : Shared}
end
end L2
set_option Elab.async false
set_option linter.all false
set_option maxRecDepth 100000
namespace L2
open PySem PySem.Spec PyProof.Rows
section
variable {X : Cx} {pins : List (Addr × Obj)} {σ : St} {H : Hp} {s : Shared} {scope : Scope} {cl : List (Str × Addr)} {own : List Str} {cap : List (Nat × Str)} {fp : List Addr} {E : Value → Shared → Prop}
end
def more (S : Str → Bool) (n : Nat) (k : Str) : Nat := if S k then n else n + 1
section
variable {X : Cx} {scope : Scope} {cl : List (Str × Addr)} {own : List Str} {cap : List (Nat × Str)} {tg iter elt : Expr} {wi : TI} {g : TG} {te : TE} {pos : Pos}
end
section
variable {P : Program} {w : World} {K : PySem.W.Frag} {a : Addr} {xs : List V} {g : TG} {te : TE} {own : List Str} {cap : List (Nat × Str)} {σ : St} {H1 : Hp} {QD : Hp → Prop} {D : Addr}
end
end L2
set_option Elab.async false
set_option linter.all false
set_option maxRecDepth 100000
namespace L2
open PySem PySem.Spec PyProof.Rows
section
variable {X : Cx}
theorem mt_upper : MtR X "str.upper" (fun x vs H Q => ∃ z : Str, x = .str z ∧ vs = [] ∧ z.length ≤ 1000 ∧ ∀ y : Str, y.length ≤ 3 * z.length → Q (.str y) H) := by
 intro pins s σ H x vs v us Q I rx rv h
 obtain ⟨z, rfl, rfl, hz, q⟩ := h
 obtain ⟨t, rfl⟩ := rx
 cases rv
 have hl := PyProof.Rows.len_upper z
 have hf : Builtin.Str.tooLong (Txt.upper z).length = false := PyProof.Rows.fit_upper (by omega)
 exact call_givesAt F.slot_str_upper (typeIs_str s z t) F.entry_str_upper (F.args_str_upper_1 _) (P := fun _ => True) (Gives.at (gives_str_upper z t hf)) trivial ⟨fit_le hf, .str (Txt.upper z), H, I.tok _, ⟨_, rfl⟩, q _ hl⟩
end
end L2
set_option Elab.async false
set_option linter.all false
set_option maxRecDepth 100000
namespace L2
open PySem PySem.Spec PyProof.Rows
section
variable {X : Cx}
end
section
variable {X : Cx} {elts : List Expr} {kk : Nat} {tpos : Pos}
end
end L2
set_option Elab.async false
set_option linter.all false
set_option maxRecDepth 100000
namespace L2
open PySem PySem.Spec PyProof.Rows
section
variable {prog : Program} {w : World} {A : Around} {E : Value → Shared → Prop} {s : Shared}
end
section
variable {X : Cx} {pins : List (Addr × Obj)} {σ : St} {H : Hp} {s : Shared} {z p r j1 j2 u1 u2 t : Addr} {xs ys : List V}
theorem FpOk.upd {b T : Addr} {o : HO} (h : FpOk X pins H b) (n : b ≠ T) : FpOk X pins (L2.upd H T o) b := ⟨by rw [upd_ne n]; exact h.1, h.2⟩
def Prs (H : Hp) (xs ys : List V) (ts : List Addr) : Prop := ∀ (j : Nat) (t : Addr), ts[j]? = some t → ∃ x y, xs[j]? = some x ∧ ys[j]? = some y ∧ H t = some (.tup [x, y])
theorem Prs.keep {H' : Hp} {ts : List Addr} (h : Prs H xs ys ts) (k : ∀ b v, H b = some (.tup v) → H' b = some (.tup v)) : Prs H' xs ys ts := fun j t e => by
 obtain ⟨x, y, a, b, c⟩ := h j t e
 exact ⟨x, y, a, b, k _ _ c⟩
theorem SqT.step {K : PySem.W.Frag} {H' : Hp} {S a : Addr} {ls vs : List V} (k : ∀ b o, b ≠ S → H b = some o → H' b = some o) (hS : H S = some (.lst ls)) (h : SqT K H a vs) : SqT K H' a vs := by
 rcases h with (h | ⟨o, h⟩) | h
 ·exact .inl (.inl (k a _ (ne_of h hS (by intro z; cases z)) h))
 ·exact .inl (.inr ⟨o, k a _ (ne_of h hS (by intro z; cases z)) h⟩)
 ·exact .inr h
end
section
variable {X : Cx} {pins : List (Addr × Obj)} {σ : St} {H : Hp} {s : Shared} {z p r j1 j2 u1 u2 : Addr} {xs ys : List V}
end
end L2
set_option Elab.async false
set_option linter.all false
set_option maxRecDepth 100000
namespace L2
open PySem PySem.Spec PyProof.Rows
section
variable {X : Cx} {a b : Expr} {ta : TA} {p1 p2 pos1 pos2 : Pos}
end
end L2
set_option Elab.async false
set_option linter.all false
set_option maxRecDepth 100000
namespace L2
open PySem PySem.Spec PyProof.Rows
section
variable {X : Cx}
end
end L2
set_option Elab.async false
set_option linter.all false
set_option maxRecDepth 100000
namespace L2
open PySem PySem.Spec PyProof.Rows
section
variable {X : Cx}
end
end L2
namespace L2
open PySem PySem.Spec PyProof.Rows
section
variable {X : Cx}
end
end L2
set_option Elab.async false
set_option linter.all false
set_option maxRecDepth 100000
namespace L3
open PySem PySem.Spec L2
open PyProof.Rows hiding St
inductive T where
 | non | bl (b : Bool) | int (i : Int) | str (z : Str) | tup (ts : List T) | ref (a : Addr) | ty (n : String)
 /-- a list that nobody changes (the script) -/
 | scr (K : PySem.W.Frag) (a : Addr) (ts : List T)
def SqC (K : PySem.W.Frag) (H : Hp) (a : Addr) (vs : List V) : Prop := (∃ o, H a = some (.frz o (.lst vs))) ∨
 ∃ (o : Obj) (its : Array Value) (n : Nat), K.lookup a = some o ∧ o.cls = .type "list" ∧ o.dict = none ∧ o.data = .seq its n ∧ its.size ≤ sizeLine ∧ Vals vs its.toList
inductive O where
 | lst (ts : List T)
 | ins (C dx : Addr) (fs : List (Str × T))
 | own (x : Addr)
 | dK (kvs : List (Key × T))
 | ext (φ : Heap → Prop)
abbrev Gp := Addr → Option O
def up (Γ : Gp) (a : Addr) (o : O) : Gp := fun b => if b = a then some o else Γ b
theorem up_same {Γ : Gp} {a : Addr} {o : O} : up Γ a o a = some o := by unfold up; rw [if_pos rfl]
theorem up_ne {Γ : Gp} {a b : Addr} {o : O} (h : b ≠ a) : up Γ a o b = Γ b := by unfold up; rw [if_neg h]
theorem gnn {Γ : Gp} {a b : Addr} {o : O} (h : Γ a = some o) (h' : Γ b = none) : a ≠ b := by
 intro e; subst e; rw [h] at h'; cases h'
section
mutual
def R (H : Hp) : V → T → Prop
 | v, .non => v = .non
 | v, .bl b => v = .bl b
 | v, .int i => v = .int i
 | v, .str z => v = .str z
 | v, .ref a => v = .ref a
 | v, .ty n => v = .ty n
 | v, .tup ts => ∃ a vs, v = .ref a ∧ H a = some (.tup vs) ∧ Rs H vs ts
 | v, .scr K a ts => v = .ref a ∧ ∃ vs, SqC K H a vs ∧ Rs H vs ts
def Rs (H : Hp) : List V → List T → Prop
 | vs, [] => vs = []
 | vs, t :: r => ∃ v ws, vs = v :: ws ∧ R H v t ∧ Rs H ws r
end
def Tq (H H' : Hp) : Prop := (∀ a vs, H a = some (.tup vs) → H' a = some (.tup vs)) ∧ ∀ a o u, H a = some (.frz o u) → H' a = some (.frz o u)
end
section
variable {H H' : Hp}
theorem Tq.refl : Tq H H := ⟨fun _ _ h => h, fun _ _ _ h => h⟩
theorem Tq.trans {H1 : Hp} (a : Tq H H1) (b : Tq H1 H') : Tq H H' := ⟨fun x vs h => b.1 x vs (a.1 x vs h), fun x o u h => b.2 x o u (a.2 x o u h)⟩
theorem SqC.mono (t : Tq H H') {K : PySem.W.Frag} {a : Addr} {vs : List V} (h : SqC K H a vs) : SqC K H' a vs := by
 rcases h with ⟨o, h⟩ | h
 ·exact .inl ⟨o, t.2 _ _ _ h⟩
 ·exact .inr h
mutual
theorem R.mono (t : Tq H H') : ∀ {x : T} {v : V}, R H v x → R H' v x
 | .non, v, h => by unfold R at h ⊢; exact h
 | .bl _, v, h => by unfold R at h ⊢; exact h
 | .int _, v, h => by unfold R at h ⊢; exact h
 | .str _, v, h => by unfold R at h ⊢; exact h
 | .ref _, v, h => by unfold R at h ⊢; exact h
 | .ty _, v, h => by unfold R at h ⊢; exact h
 | .tup ts, v, h => by
  unfold R at h ⊢
  obtain ⟨a, vs, e, s, q⟩ := h
  exact ⟨a, vs, e, t.1 a vs s, Rs.mono t q⟩
 | .scr K a ts, v, h => by
  unfold R at h ⊢
  obtain ⟨e, vs, s, q⟩ := h
  exact ⟨e, vs, s.mono t, Rs.mono t q⟩
theorem Rs.mono (t : Tq H H') : ∀ {xs : List T} {vs : List V}, Rs H vs xs → Rs H' vs xs
 | [], vs, h => by unfold Rs at h ⊢; exact h
 | x :: r, vs, h => by
  unfold Rs at h ⊢
  obtain ⟨v, ws, e, p, q⟩ := h
  exact ⟨v, ws, e, R.mono t p, Rs.mono t q⟩
end
theorem Rs.length : ∀ {xs : List T} {vs : List V}, Rs H vs xs → vs.length = xs.length
 | [], vs, h => by unfold Rs at h; subst h; rfl
 | x :: r, vs, h => by
  unfold Rs at h
  obtain ⟨v, ws, e, _, q⟩ := h
  rw [e, List.length_cons, List.length_cons, Rs.length q]
theorem Rs.get : ∀ {xs : List T} {vs : List V} {i : Nat} {x : T}, Rs H vs xs → xs[i]? = some x → ∃ v, vs[i]? = some v ∧ R H v x
 | [], vs, i, x, h, e => by simp at e
 | y :: r, vs, i, x, h, e => by
  unfold Rs at h
  obtain ⟨v, ws, e1, p, q⟩ := h
  subst e1
  cases i with
  | zero => cases e; exact ⟨v, rfl, p⟩
  | succ i => exact Rs.get (i := i) q e
theorem Rs.getV {xs : List T} {vs : List V} {i : Nat} {v : V} (h : Rs H vs xs) (e : vs[i]? = some v) : ∃ x, xs[i]? = some x ∧ R H v x := by
 have hl := h.length
 obtain ⟨hi, _⟩ := List.getElem?_eq_some_iff.mp e
 have hi' : i < xs.length := by omega
 obtain ⟨v', e', r⟩ := h.get (i := i) (x := xs[i]) (by simp [hi'])
 rw [e] at e'; cases e'
 exact ⟨xs[i], by simp [hi'], r⟩
theorem Rs.app : ∀ {xs ys : List T} {vs ws : List V}, Rs H vs xs → Rs H ws ys → Rs H (vs ++ ws) (xs ++ ys)
 | [], ys, vs, ws, h, h' => by unfold Rs at h; subst h; exact h'
 | x :: r, ys, vs, ws, h, h' => by
  unfold Rs at h
  obtain ⟨v, us, e, p, q⟩ := h
  subst e
  show Rs H (v :: (us ++ ws)) (x :: (r ++ ys))
  unfold Rs
  exact ⟨v, _, rfl, p, Rs.app q h'⟩
theorem rs_nil : Rs H [] [] := by unfold Rs; rfl
theorem rs_cons {v : V} {x : T} {vs : List V} {xs : List T} (a : R H v x) (b : Rs H vs xs) : Rs H (v :: vs) (x :: xs) := by
 unfold Rs; exact ⟨v, vs, rfl, a, b⟩
theorem rs_inv {vs : List V} {x : T} {xs : List T} (h : Rs H vs (x :: xs)) : ∃ v ws, vs = v :: ws ∧ R H v x ∧ Rs H ws xs := by unfold Rs at h; exact h
theorem rs_inv0 {vs : List V} (h : Rs H vs []) : vs = [] := by unfold Rs at h; exact h
theorem Rs.drop : ∀ {xs : List T} {vs : List V} (n : Nat), Rs H vs xs → Rs H (vs.drop n) (xs.drop n)
 | xs, vs, 0, h => h
 | [], vs, n + 1, h => by rw [rs_inv0 h]; exact rs_nil
 | x :: r, vs, n + 1, h => by
  obtain ⟨v, ws, e, _, q⟩ := rs_inv h
  subst e
  exact Rs.drop n q
theorem Rs.take : ∀ {xs : List T} {vs : List V} (n : Nat), Rs H vs xs → Rs H (vs.take n) (xs.take n)
 | xs, vs, 0, h => by rw [List.take_zero, List.take_zero]; exact rs_nil
 | [], vs, n + 1, h => by rw [rs_inv0 h]; exact rs_nil
 | x :: r, vs, n + 1, h => by
  obtain ⟨v, ws, e, p, q⟩ := rs_inv h
  subst e
  exact rs_cons p (Rs.take n q)
theorem Rs.reverse : ∀ {xs : List T} {vs : List V}, Rs H vs xs → Rs H vs.reverse xs.reverse
 | [], vs, h => by rw [rs_inv0 h]; exact rs_nil
 | x :: r, vs, h => by
  obtain ⟨v, ws, e, p, q⟩ := rs_inv h
  subst e
  rw [List.reverse_cons, List.reverse_cons]
  exact Rs.app (Rs.reverse q) (rs_cons p rs_nil)
theorem Rs.set : ∀ {xs : List T} {vs : List V} {v : V} {x : T} (n : Nat), Rs H vs xs → R H v x → Rs H (vs.set n v) (xs.set n x)
 | [], vs, v, x, n, h, p => by rw [rs_inv0 h]; exact rs_nil
 | y :: r, vs, v, x, 0, h, p => by
  obtain ⟨u, ws, e, _, q⟩ := rs_inv h
  subst e
  exact rs_cons p q
 | y :: r, vs, v, x, n + 1, h, p => by
  obtain ⟨u, ws, e, p', q⟩ := rs_inv h
  subst e
  exact rs_cons p' (Rs.set n q p)
end
def Fs (H : Hp) : List (Str × V) → List (Str × T) → Prop := Paired fun (p : Str × V) (q : Str × T) => p.1 = q.1 ∧ R H p.2 q.2
def Ks (H : Hp) : List (Key × V) → List (Key × T) → Prop := Paired fun (p : Key × V) (q : Key × T) => p.1 = q.1 ∧ R H p.2 q.2
theorem paired_imp {α β : Type} {P Q : α → β → Prop} (h : ∀ a b, P a b → Q a b) : ∀ {xs : List α} {ys : List β}, Paired P xs ys → Paired Q xs ys
 | _, _, .nil => .nil
 | _, _, .cons a b => .cons (h _ _ a) (paired_imp h b)
theorem Fs.mono {H H' : Hp} (t : Tq H H') {a : List (Str × V)} {b : List (Str × T)} (h : Fs H a b) : Fs H' a b := paired_imp (fun _ _ q => ⟨q.1, q.2.mono t⟩) h
theorem Ks.mono {H H' : Hp} (t : Tq H H') {a : List (Key × V)} {b : List (Key × T)} (h : Ks H a b) : Ks H' a b := paired_imp (fun _ _ q => ⟨q.1, q.2.mono t⟩) h
def Ho (H : Hp) (a : Addr) : O → Prop
 | .lst ts => ∃ vs, H a = some (.lst vs) ∧ Rs H vs ts
 | .ins C dx fs => ∃ gs, H a = some (.ins C dx gs) ∧ Fs H gs fs
 | .own x => H a = some (.own x)
 | .dK kvs => ∃ us, H a = some (.dK us) ∧ Ks H us kvs
 | .ext φ => H a = some (.ext φ)
def HR (H : Hp) (Γ : Gp) : Prop := ∀ a o, Γ a = some o → Ho H a o
structure Stp (H : Hp) (Γ : Gp) (H' : Hp) (Γ' : Gp) : Prop where
 tq : Tq H H'
 dom : ∀ a, H a ≠ none → H' a ≠ none
 new : ∀ a, H a ≠ none → Γ a = none → Γ' a = none
 frm : ∀ a o, H a = some o → Γ a = none → H' a = some o
section
variable {H H' H1 : Hp} {Γ Γ' Γ1 : Gp}
theorem Stp.refl : Stp H Γ H Γ := ⟨.refl, fun _ h => h, fun _ _ h => h, fun _ _ h _ => h⟩
theorem Stp.trans (a : Stp H Γ H1 Γ1) (b : Stp H1 Γ1 H' Γ') : Stp H Γ H' Γ' :=
 ⟨a.tq.trans b.tq, fun x h => b.dom x (a.dom x h), fun x h g => b.new x (a.dom x h) (a.new x h g), fun x o h g => b.frm x o (a.frm x o h g) (a.new x (by rw [h]; exact fun z => (nomatch z)) g)⟩
theorem Ho.mono {a : Addr} {o : O} (t : Tq H H') (e : ∀ u, H a = some u → H' a = some u) (h : Ho H a o) : Ho H' a o := by
 cases o with
 | lst ts => obtain ⟨vs, h, r⟩ := h; exact ⟨vs, e _ h, r.mono t⟩
 | ins C dx fs => obtain ⟨vs, h, r⟩ := h; exact ⟨vs, e _ h, r.mono t⟩
 | own x => exact e _ h
 | dK kvs => obtain ⟨vs, h, r⟩ := h; exact ⟨vs, e _ h, r.mono t⟩
 | ext φ => exact e _ h
theorem Ho.some {a : Addr} {o : O} (h : Ho H a o) : ∃ u, H a = some u ∧ (∀ vs : List V, u ≠ .tup vs) ∧ ∀ b w, u ≠ .frz b w := by
 cases o with
 | lst ts => obtain ⟨vs, h, r⟩ := h; exact ⟨_, h, ⟨fun _ z => (nomatch z), fun _ _ z => (nomatch z)⟩⟩
 | ins C dx fs => obtain ⟨vs, h, r⟩ := h; exact ⟨_, h, ⟨fun _ z => (nomatch z), fun _ _ z => (nomatch z)⟩⟩
 | own x => exact ⟨_, h, ⟨fun _ z => (nomatch z), fun _ _ z => (nomatch z)⟩⟩
 | dK kvs => obtain ⟨vs, h, r⟩ := h; exact ⟨_, h, ⟨fun _ z => (nomatch z), fun _ _ z => (nomatch z)⟩⟩
 | ext φ => exact ⟨_, h, ⟨fun _ z => (nomatch z), fun _ _ z => (nomatch z)⟩⟩
theorem HR.free (h : HR H Γ) {a : Addr} (n : H a = none) : Γ a = none := by
 cases e : Γ a with
 | none => rfl
 | some o =>
  obtain ⟨u, hu, _⟩ := (h a o e).some
  rw [n] at hu; cases hu
theorem tq_kp (k : ∀ b o, H b = some o → H' b = some o) : Tq H H' := ⟨fun a vs h => k _ _ h, fun a o u h => k _ _ h⟩
theorem Stp.keep (k : ∀ b o, H b = some o → H' b = some o) : Stp H Γ H' Γ :=
 ⟨tq_kp k, fun a h z => by
  cases e : H a with
  | none => exact h e
  | some o => exact (by rw [k a o e] at z; cases z), fun _ _ h => h, fun a o h _ => k a o h⟩
theorem HR.keep (h : HR H Γ) (k : ∀ b o, H b = some o → H' b = some o) : HR H' Γ := fun a o e => (h a o e).mono (tq_kp k) (k a)
theorem keep_new {p : Addr} {o : HO} (h : H p = none) : ∀ b u, H b = some u → upd H p o b = some u := fun b u q => by rw [upd_ne (ne_of_none q h)]; exact q
theorem Stp.make {p : Addr} {o : HO} {o3 : O} (h : H p = none) : Stp H Γ (upd H p o) (up Γ p o3) := by
 refine ⟨tq_kp (keep_new h), fun a q z => ?_, fun a q g => ?_, fun a u q _ => keep_new h a u q⟩
 ·by_cases e : a = p
  ·subst e; exact q h
  ·rw [upd_ne e] at z; exact q z
 ·have e : a ≠ p := fun e => q (by rw [e]; exact h)
  rw [up_ne e]; exact g
theorem HR.make (hr : HR H Γ) {p : Addr} {o : HO} {o3 : O} (h : H p = none) (k : Ho (upd H p o) p o3) : HR (upd H p o) (up Γ p o3) := fun a u e => by
 by_cases z : a = p
 ·subst z; rw [up_same] at e; cases e; exact k
 ·rw [up_ne z] at e
  exact (hr a u e).mono (tq_kp (keep_new h)) fun _ q => by rw [upd_ne z]; exact q
theorem tq_set {a : Addr} {o u : HO} (h : H a = some u) (n : (∀ vs : List V, u ≠ .tup vs) ∧ ∀ b w, u ≠ .frz b w) : Tq H (upd H a o) := ⟨fun x vs q => by
 have : x ≠ a := fun e => by subst e; rw [h] at q; exact n.1 vs (Option.some.inj q)
 rw [upd_ne this]; exact q, fun x b w q => by
 have : x ≠ a := fun e => by subst e; rw [h] at q; exact n.2 b w (Option.some.inj q)
 rw [upd_ne this]; exact q⟩
theorem Stp.set {a : Addr} {o : HO} {o2 o3 : O} (hr : HR H Γ) (g : Γ a = some o2) : Stp H Γ (upd H a o) (up Γ a o3) := by
 obtain ⟨u, hu, n⟩ := (hr a o2 g).some
 refine ⟨tq_set hu n, fun x q z => ?_, fun x q g' => ?_, fun x w q g' => ?_⟩
 ·by_cases e : x = a
  ·subst e; rw [upd_same] at z; cases z
  ·rw [upd_ne e] at z; exact q z
 ·have e : x ≠ a := fun e => by subst e; rw [g] at g'; cases g'
  rw [up_ne e]; exact g'
 ·have e : x ≠ a := fun e => by subst e; rw [g] at g'; cases g'
  rw [upd_ne e]; exact q
theorem HR.set {a : Addr} {o : HO} {o2 o3 : O} (hr : HR H Γ) (g : Γ a = some o2) (k : Ho (upd H a o) a o3) : HR (upd H a o) (up Γ a o3) := fun x u e => by
 obtain ⟨w, hw, n⟩ := (hr a o2 g).some
 by_cases z : x = a
 ·subst z; rw [up_same] at e; cases e; exact k
 ·rw [up_ne z] at e
  exact (hr x u e).mono (tq_set hw n) fun _ q => by rw [upd_ne z]; exact q
theorem HR.hide {a : Addr} {o u : HO} (hr : HR H Γ) (g : Γ a = none) (h : H a = some u) (n : (∀ vs : List V, u ≠ .tup vs) ∧ ∀ b w, u ≠ .frz b w) : HR (upd H a o) Γ := fun x w e => by
 have z : x ≠ a := fun z => by subst z; rw [g] at e; cases e
 exact (hr x w e).mono (tq_set h n) fun _ q => by rw [upd_ne z]; exact q
end
abbrev S3 := List (Option T)
abbrev X3 := S3 → Value → Gp → Prop
abbrev K3 := T → Gp → Prop
abbrev E3 := X3 → S3 → Gp → K3 → Prop
abbrev T3 := X3 → S3 → Gp → (Bool → Gp → Prop) → Prop
abbrev A3 := X3 → S3 → Gp → (List T → Gp → Prop) → Prop
structure D3 where
 nx : S3 → Gp → Prop
 rt : K3
 bk : S3 → Gp → Prop := fun _ _ => False
 ct : S3 → Gp → Prop := fun _ _ => False
abbrev C3 := X3 → D3 → S3 → Gp → Prop
def RO1 (H : Hp) : Option V → Option T → Prop
 | _, none => True
 | some v, some x => R H v x
 | none, some _ => False
def RS (H : Hp) : St → S3 → Prop
 | [], [] => True
 | v :: r, x :: q => RO1 H v x ∧ RS H r q
 | _, _ => False
section
variable {H H' : Hp} {Γ Γ' : Gp}
theorem RO1.mono (t : Tq H H') {v : Option V} {x : Option T} (h : RO1 H v x) : RO1 H' v x := by
 cases x with
 | none => exact trivial
 | some x => cases v with
  | none => exact h.elim
  | some v => exact R.mono t h
theorem RS.mono (t : Tq H H') : ∀ {σ : St} {τ : S3}, RS H σ τ → RS H' σ τ
 | [], [], _ => trivial
 | _ :: _, _ :: _, h => ⟨h.1.mono t, RS.mono t h.2⟩
 | [], _ :: _, h => h.elim
 | _ :: _, [], h => h.elim
theorem RS.get : ∀ {σ : St} {τ : S3} {i : Nat} {x : T}, RS H σ τ → τ[i]? = some (some x) → ∃ v, σ[i]? = some (some v) ∧ R H v x
 | [], [], i, x, _, e => by simp at e
 | v :: r, y :: q, i, x, h, e => by
  cases i with
  | zero =>
   cases e
   cases v with
   | none => exact h.1.elim
   | some v => exact ⟨v, rfl, h.1⟩
  | succ i => exact RS.get (i := i) h.2 e
 | [], _ :: _, _, _, h, _ => h.elim
 | _ :: _, [], _, _, h, _ => h.elim
theorem RS.set {v : V} {x : T} (r : R H v x) : ∀ {σ : St} {τ : S3} (i : Nat), RS H σ τ → RS H (σ.set i (some v)) (τ.set i (some x))
 | [], [], _, _ => trivial
 | _ :: _, _ :: _, 0, h => ⟨r, h.2⟩
 | _ :: _, _ :: _, i + 1, h => ⟨h.1, RS.set r i h.2⟩
 | [], _ :: _, _, h => h.elim
 | _ :: _, [], _, h => h.elim
theorem RS.len : ∀ {σ : St} {τ : S3}, RS H σ τ → σ.length = τ.length
 | [], [], _ => rfl
 | _ :: _, _ :: _, h => by rw [List.length_cons, List.length_cons, RS.len h.2]
 | [], _ :: _, h => h.elim
 | _ :: _, [], h => h.elim
def XR (H : Hp) (Γ : Gp) (Y : X3) (E : St → XK) : Prop := ∀ σ τ C H' Γ', Stp H Γ H' Γ' → HR H' Γ' → RS H' σ τ → Y τ C Γ' → E σ C none H'
theorem XR.mono {Y : X3} {E : St → XK} (x : XR H Γ Y E) (s : Stp H Γ H' Γ') : XR H' Γ' Y E := fun σ τ C H2 Γ2 s2 h2 r y => x σ τ C H2 Γ2 (s.trans s2) h2 r y
def VR (H : Hp) (Γ : Gp) (Z : K3) (Q : VK) : Prop := ∀ v x H' Γ', Stp H Γ H' Γ' → HR H' Γ' → R H' v x → Z x Γ' → Q v H'
theorem VR.mono {Z : K3} {Q : VK} (x : VR H Γ Z Q) (s : Stp H Γ H' Γ') : VR H' Γ' Z Q := fun v x' H2 Γ2 s2 h2 r y => x v x' H2 Γ2 (s.trans s2) h2 r y
def NR (H : Hp) (Γ : Gp) (Z : S3 → Gp → Prop) (Q : St → Hp → Prop) : Prop := ∀ σ τ H' Γ', Stp H Γ H' Γ' → HR H' Γ' → RS H' σ τ → Z τ Γ' → Q σ H'
theorem NR.mono {Z : S3 → Gp → Prop} {Q : St → Hp → Prop} (x : NR H Γ Z Q) (s : Stp H Γ H' Γ') : NR H' Γ' Z Q := fun v x' H2 Γ2 s2 h2 r y => x v x' H2 Γ2 (s.trans s2) h2 r y
structure DR (H : Hp) (Γ : Gp) (Z : D3) (Q : Ends) : Prop where
 nx : NR H Γ Z.nx Q.nx
 rt : VR H Γ Z.rt Q.rt
 bk : NR H Γ Z.bk Q.bk
 ct : NR H Γ Z.ct Q.ct
theorem DR.mono {Z : D3} {Q : Ends} (x : DR H Γ Z Q) (s : Stp H Γ H' Γ') : DR H' Γ' Z Q := ⟨x.nx.mono s, x.rt.mono s, x.bk.mono s, x.ct.mono s⟩
end
section
variable (E : St → XK)
def liE (t : E3) : TE := fun σ H Q => ∃ τ Γ Y Z, RS H σ τ ∧ HR H Γ ∧ t Y τ Γ Z ∧ VR H Γ Z Q ∧ XR H Γ Y E
def liT (t : T3) : TT := fun σ H Q => ∃ τ Γ Y Z, RS H σ τ ∧ HR H Γ ∧ t Y τ Γ Z ∧ (∀ b H' Γ', Stp H Γ H' Γ' → HR H' Γ' → Z b Γ' → Q b H') ∧ XR H Γ Y E
def liA (t : A3) : TA := fun σ H Q => ∃ τ Γ Y Z, RS H σ τ ∧ HR H Γ ∧ t Y τ Γ Z ∧ (∀ vs xs H' Γ', Stp H Γ H' Γ' → HR H' Γ' → Rs H' vs xs → Z xs Γ' → Q vs H') ∧ XR H Γ Y E
def liS (t : C3) : TS := fun D σ H => ∃ τ Γ Y Z, RS H σ τ ∧ HR H Γ ∧ t Y Z τ Γ ∧ DR H Γ Z D ∧ XR H Γ Y E
end
end L3
set_option Elab.async false
set_option linter.all false
set_option maxRecDepth 100000
namespace L3
open PySem PySem.Spec L2
open PyProof.Rows hiding St
section
variable {X : Cx} {E : St → XK}
theorem weakE {e : Expr} {t t' : TE} (h : PE X e t) (w : ∀ σ H Q, t' σ H Q → t σ H Q) : PE X e t' := ⟨fun pins s σ H Q I q => h.run pins s σ H Q I (w _ _ _ q)⟩
theorem weakT {e : Expr} {t t' : TT} (h : PT X e t) (w : ∀ σ H Q, t' σ H Q → t σ H Q) : PT X e t' := ⟨fun pins s σ H Q I q => h.run pins s σ H Q I (w _ _ _ q)⟩
theorem weakW {e : Expr} {t t' : TT} (h : PW X e t) (w : ∀ σ H Q, t' σ H Q → t σ H Q) : PW X e t' := ⟨fun wh pins s σ H Q I q => h.run wh pins s σ H Q I (w _ _ _ q)⟩
theorem weakA {e : List Expr} {t t' : TA} (h : PA X e t) (w : ∀ σ H Q, t' σ H Q → t σ H Q) : PA X e t' := ⟨fun pos pins s σ H Q I q => h.run pos pins s σ H Q I (w _ _ _ q)⟩
theorem weakS {e : Stmt} {t t' : TS} (h : PS X e t) (w : ∀ D σ H, t' D σ H → t D σ H) : PS X e t' := ⟨fun pins s σ H D I q => h.run pins s σ H D I (w _ _ _ q)⟩
theorem weakSs {e : List Stmt} {t t' : TS} (h : PSs X e t) (w : ∀ D σ H, t' D σ H → t D σ H) : PSs X e t' := ⟨fun pins s σ H D I q => h.run pins s σ H D I (w _ _ _ q)⟩
theorem weakG {e : Expr} {t t' : TG} (h : PG X e t) (w : ∀ v σ H Q, t' v σ H Q → t v σ H Q) : PG X e t' := ⟨fun pins s σ H v u Q I r q => h.run pins s σ H v u Q I r (w _ _ _ _ q)⟩
theorem weakGs {e : List Expr} {t t' : TGs} (h : PGs X e t) (w : ∀ v σ H Q, t' v σ H Q → t v σ H Q) : PGs X e t' := ⟨fun pins s σ H v u Q I r q => h.run pins s σ H v u Q I r (w _ _ _ _ q)⟩
theorem weakI {tg e : Expr} {t t' : TI} (h : PI X tg e t) (w : ∀ σ H Q, t' σ H Q → t σ H Q) : PI X tg e t' := ⟨fun pins s σ H Q I q => h.run pins s σ H Q I (w _ _ _ q)⟩
theorem weakTs {e : List Expr} {t t' : TT} (h : PTs X e t) (w : ∀ σ H Q, t' σ H Q → t σ H Q) : PTs X e t' := ⟨fun pins s σ H Q I q => h.run pins s σ H Q I (w _ _ _ q)⟩
theorem weakE3 {e : Expr} {t0 : TE} {t : E3} (h : PE X e t0) (w : ∀ σ H Q τ Γ Y Z, RS H σ τ → HR H Γ → t Y τ Γ Z → VR H Γ Z Q → XR H Γ Y E → t0 σ H Q) : PE X e (liE E t) :=
 weakE h (by rintro σ H Q ⟨τ, Γ, Y, Z, rs, hr, q, vr, xr⟩; exact w σ H Q τ Γ Y Z rs hr q vr xr)
theorem weakT3 {e : Expr} {t0 : TT} {t : T3} (h : PT X e t0) (w : ∀ σ H Q τ Γ Y Z, RS H σ τ → HR H Γ → t Y τ Γ Z → (∀ b H' Γ', Stp H Γ H' Γ' → HR H' Γ' → Z b Γ' → Q b H') → XR H Γ Y E → t0 σ H Q) : PT X e (liT E t) :=
 weakT h (by rintro σ H Q ⟨τ, Γ, Y, Z, rs, hr, q, vr, xr⟩; exact w σ H Q τ Γ Y Z rs hr q vr xr)
theorem weakW3 {e : Expr} {t0 : TT} {t : T3} (h : PW X e t0) (w : ∀ σ H Q τ Γ Y Z, RS H σ τ → HR H Γ → t Y τ Γ Z → (∀ b H' Γ', Stp H Γ H' Γ' → HR H' Γ' → Z b Γ' → Q b H') → XR H Γ Y E → t0 σ H Q) : PW X e (liT E t) :=
 weakW h (by rintro σ H Q ⟨τ, Γ, Y, Z, rs, hr, q, vr, xr⟩; exact w σ H Q τ Γ Y Z rs hr q vr xr)
theorem weakA3 {e : List Expr} {t0 : TA} {t : A3} (h : PA X e t0) (w : ∀ σ H Q τ Γ Y Z, RS H σ τ → HR H Γ → t Y τ Γ Z → (∀ vs xs H' Γ', Stp H Γ H' Γ' → HR H' Γ' → Rs H' vs xs → Z xs Γ' → Q vs H') → XR H Γ Y E → t0 σ H Q) : PA X e (liA E t) :=
 weakA h (by rintro σ H Q ⟨τ, Γ, Y, Z, rs, hr, q, vr, xr⟩; exact w σ H Q τ Γ Y Z rs hr q vr xr)
theorem weakTs3 {e : List Expr} {t0 : TT} {t : T3} (h : PTs X e t0) (w : ∀ σ H Q τ Γ Y Z, RS H σ τ → HR H Γ → t Y τ Γ Z → (∀ b H' Γ', Stp H Γ H' Γ' → HR H' Γ' → Z b Γ' → Q b H') → XR H Γ Y E → t0 σ H Q) : PTs X e (liT E t) :=
 weakTs h (by rintro σ H Q ⟨τ, Γ, Y, Z, rs, hr, q, vr, xr⟩; exact w σ H Q τ Γ Y Z rs hr q vr xr)
theorem weakS3 {e : Stmt} {t0 : TS} {t : C3} (h : PS X e t0) (w : ∀ D σ H τ Γ Y Z, RS H σ τ → HR H Γ → t Y Z τ Γ → DR H Γ Z D → XR H Γ Y E → t0 D σ H) : PS X e (liS E t) :=
 weakS h (by rintro D σ H ⟨τ, Γ, Y, Z, rs, hr, q, dr, xr⟩; exact w D σ H τ Γ Y Z rs hr q dr xr)
theorem weakSs3 {e : List Stmt} {t0 : TS} {t : C3} (h : PSs X e t0) (w : ∀ D σ H τ Γ Y Z, RS H σ τ → HR H Γ → t Y Z τ Γ → DR H Γ Z D → XR H Γ Y E → t0 D σ H) : PSs X e (liS E t) :=
 weakSs h (by rintro D σ H ⟨τ, Γ, Y, Z, rs, hr, q, dr, xr⟩; exact w D σ H τ Γ Y Z rs hr q dr xr)
section
variable {H : Hp}
theorem r_non : R H .non .non := by unfold R; rfl
theorem r_bl {b : Bool} : R H (.bl b) (.bl b) := by unfold R; rfl
theorem r_int {i : Int} : R H (.int i) (.int i) := by unfold R; rfl
theorem r_str {z : Str} : R H (.str z) (.str z) := by unfold R; rfl
theorem r_ref {a : Addr} : R H (.ref a) (.ref a) := by unfold R; rfl
theorem r_tup {a : Addr} {vs : List V} {ts : List T} (h : H a = some (.tup vs)) (r : Rs H vs ts) : R H (.ref a) (.tup ts) := by unfold R; exact ⟨a, vs, rfl, h, r⟩
theorem i_non {v : V} (h : R H v .non) : v = .non := by unfold R at h; exact h
theorem i_bl {v : V} {b : Bool} (h : R H v (.bl b)) : v = .bl b := by unfold R at h; exact h
theorem i_int {v : V} {b : Int} (h : R H v (.int b)) : v = .int b := by unfold R at h; exact h
theorem i_str {v : V} {b : Str} (h : R H v (.str b)) : v = .str b := by unfold R at h; exact h
theorem i_ref {v : V} {b : Addr} (h : R H v (.ref b)) : v = .ref b := by unfold R at h; exact h
theorem i_scr {K : PySem.W.Frag} {v : V} {a : Addr} {ts : List T} (h : R H v (.scr K a ts)) : v = .ref a ∧ ∃ vs, SqC K H a vs ∧ Rs H vs ts := by unfold R at h; exact h
theorem r_scr {K : PySem.W.Frag} {a : Addr} {vs : List V} {ts : List T} (h : SqC K H a vs) (q : Rs H vs ts) : R H (.ref a) (.scr K a ts) := by unfold R; exact ⟨rfl, vs, h, q⟩
theorem SqC.sq {K : PySem.W.Frag} {a : Addr} {vs : List V} (h : SqC K H a vs) : SqL K H a vs := by
 rcases h with ⟨o, h⟩ | h
 ·exact .inl (.inr ⟨o, h⟩)
 ·exact .inr h
theorem i_tup {v : V} {ts : List T} (h : R H v (.tup ts)) : ∃ a vs, v = .ref a ∧ H a = some (.tup vs) ∧ Rs H vs ts := by unfold R at h; exact h
end
def eVar (i : Nat) : E3 := fun _ τ Γ Z => ∃ x, τ[i]? = some (some x) ∧ Z x Γ
def eC (x : T) : E3 := fun _ _ Γ Z => Z x Γ
theorem qv (i : Nat) {x : Str} {pos : Pos} (hN : X.N[i]? = some x := by rfl) (hv : Vis X.env.scope x := by first | exact Or.inl rfl | exact Or.inr (Or.inl rfl) | exact Or.inr (Or.inr rfl)) (hd : (x == ("__debug__" : Str)) = false := by decide)
  (hcd : (x == ("__classdict__" : Str)) = false := by decide) : PE X (.Name x pos) (liE E (eVar i)) :=
 weakE3 (pe_var hN hv hd hcd) fun σ H Q τ Γ Y Z rs hr q0 vr xr => by
  obtain ⟨x, e, z⟩ := q0
  obtain ⟨v, hv, r⟩ := rs.get e
  exact ⟨v, hv, vr v x H Γ .refl hr r z⟩
theorem q_c {e : Expr} {v : V} {x : T} (h : PE X e (tC v)) (r : ∀ H, R H v x) : PE X e (liE E (eC x)) :=
 weakE3 h fun σ H Q τ Γ Y Z rs hr z vr xr => vr v x H Γ .refl hr (r H) z
theorem qe_int {i j pos} : PE X (.Constant (.int i) j pos) (liE E (eC (.int i))) := q_c pe_int fun _ => r_int
theorem qe_bl {b j pos} : PE X (.Constant (.bool b) j pos) (liE E (eC (.bl b))) := q_c pe_bl fun _ => r_bl
theorem qe_non {j pos} : PE X (.Constant .none j pos) (liE E (eC .non)) := q_c pe_non fun _ => r_non
theorem qe_str {x j pos} : PE X (.Constant (.str x) j pos) (liE E (eC (.str x))) := q_c pe_str fun _ => r_str
def GlobIs (u : Value) (x : T) : Prop := ∃ v, RelV v u ∧ ∀ H, R H v x
theorem qe_glob {x : Str} {t : T} {u : Value} {pos : Pos} (hg : Gl X x) (hm : X.mg x = some u) (r : GlobIs u t) (hd : (x == ("__debug__" : Str)) = false := by decide) : PE X (.Name x pos) (liE E (eC t)) := by
 obtain ⟨v, r, h⟩ := r
 exact q_c (pe_glob hg hm r hd) h
theorem gl_ref {i : Addr} : GlobIs (.ref i) (.ref i) := ⟨.ref i, rfl, fun _ => r_ref⟩
abbrev R3 := T → T → Gp → K3 → Prop
def OpQ (X : Cx) (f : Value → Value → Sem Value) (r3 : R3) : Prop := ∃ r : R2, OpR X f r ∧ ∀ x y a b H Γ Q Z, R H x a → R H y b → HR H Γ → r3 a b Γ Z → VR H Γ Z Q → r x y H Q
def eOp (r3 : R3) (ta tb : E3) : E3 := fun Y τ Γ Z => ta Y τ Γ fun x Γ1 => tb Y τ Γ1 fun y Γ2 => r3 x y Γ2 Z
theorem op_sim {r : R2} {r3 : R3} {ta tb : E3} (h : ∀ x y a b H Γ Q Z, R H x a → R H y b → HR H Γ → r3 a b Γ Z → VR H Γ Z Q → r x y H Q) (σ : St) (H : Hp) (Q : VK) (q : liE E (eOp r3 ta tb) σ H Q) : tOp r (liE E ta) (liE E tb) σ H Q := by
 obtain ⟨τ, Γ, Y, Z, rs, hr, t, vr, xr⟩ := q
 refine ⟨τ, Γ, Y, _, rs, hr, t, fun v x H1 Γ1 s1 h1 r1 z1 => ?_, xr⟩
 refine ⟨τ, Γ1, Y, _, rs.mono s1.tq, h1, z1, fun u y H2 Γ2 s2 h2 r2 z2 => ?_, xr.mono s1⟩
 exact h v u x y H2 Γ2 Q Z (r1.mono s2.tq) r2 h2 z2 (vr.mono (s1.trans s2))
section
variable {a b c : Expr} {ta tb tc : E3} {pos : Pos} {op op' : CmpOp} {r3 r3' : R3}
theorem qe_op {op : Operator} (ho : OpQ X (binaryOp op) r3) (ha : PE X a (liE E ta)) (hb : PE X b (liE E tb)) : PE X (.BinOp a op b pos) (liE E (eOp r3 ta tb)) := by
 obtain ⟨r, ho, h⟩ := ho
 exact weakE (pe_op ho ha hb) (op_sim h)
theorem qe_cmpR (ho : OpQ X (compareOp op) r3) (ha : PE X a (liE E ta)) (hb : PE X b (liE E tb)) (hm : behindInMarks op b = false) : PE X (.Compare a [op] [b] pos) (liE E (eOp r3 ta tb)) := by
 obtain ⟨r, ho, h⟩ := ho
 exact weakE (pe_cmpR ho ha hb hm) (op_sim h)
def eT (t : E3) : T3 := fun Y τ Γ Z => t Y τ Γ fun x Γ1 => ∃ k, x = .bl k ∧ Z k Γ1
theorem test_sim {t2 : TE} {t : E3} (h : ∀ σ H Q, liE E t σ H Q → t2 σ H Q) (σ : St) (H : Hp) (Q : Bool → Hp → Prop) (q : liT E (eT t) σ H Q) : tTest t2 σ H Q := by
 obtain ⟨τ, Γ, Y, Z, rs, hr, t, vr, xr⟩ := q
 refine h σ H _ ⟨τ, Γ, Y, _, rs, hr, t, fun v x H1 Γ1 s1 h1 r1 z1 => ?_, xr⟩
 obtain ⟨k, rfl, z⟩ := z1
 exact ⟨k, i_bl r1, vr k H1 Γ1 s1 h1 z⟩
theorem qt_cmpR (ho : OpQ X (compareOp op) r3) (ha : PE X a (liE E ta)) (hb : PE X b (liE E tb)) (hm : behindInMarks op b = false) : PT X (.Compare a [op] [b] pos) (liT E (eT (eOp r3 ta tb))) := by
 obtain ⟨r, ho, h⟩ := ho
 exact weakT (pt_cmpR ho ha hb hm) (test_sim (op_sim h))
def eChain (r r' : R3) (ta tb tc : E3) : E3 := fun Y τ Γ Z => ta Y τ Γ fun x Γ1 => tb Y τ Γ1 fun y Γ2 => r x y Γ2 fun z Γ3 => ∃ k, z = .bl k ∧ (if k = true then tc Y τ Γ3 fun w' Γ4 => r' y w' Γ4 Z else Z (.bl false) Γ3)
def eAnd (ta tb : E3) : E3 := fun Y τ Γ Z => ta Y τ Γ fun x Γ1 => ∃ c, x = .bl c ∧ if c = true then tb Y τ Γ1 Z else Z (.bl false) Γ1
def eOr (ta tb : E3) : E3 := fun Y τ Γ Z => ta Y τ Γ fun x Γ1 => ∃ c, x = .bl c ∧ if c = true then Z (.bl true) Γ1 else tb Y τ Γ1 Z
def eNot (ta : E3) : E3 := fun Y τ Γ Z => ta Y τ Γ fun x Γ1 => ∃ c, x = .bl c ∧ Z (.bl (!c)) Γ1
theorem qe_one {op} (h : PE X a (liE E ta)) : PE X (.BoolOp op [a] pos) (liE E ta) := pe_one h
theorem qe_and {rest : List Expr} (ha : PE X a (liE E ta)) (hb : PE X (.BoolOp .And (b :: rest) pos) (liE E tb)) : PE X (.BoolOp .And (a :: b :: rest) pos) (liE E (eAnd ta tb)) :=
 weakE3 (pe_and ha hb) fun σ H Q τ Γ Y Z rs hr t vr xr => by
  refine ⟨τ, Γ, Y, _, rs, hr, t, fun v x H1 Γ1 s1 h1 r1 z1 => ?_, xr⟩
  obtain ⟨k, rfl, z1⟩ := z1
  refine ⟨k, i_bl r1, ?_⟩
  cases k with
  | false => exact vr _ _ H1 Γ1 s1 h1 r_bl z1
  | true => exact ⟨τ, Γ1, Y, Z, rs.mono s1.tq, h1, z1, vr.mono s1, xr.mono s1⟩
variable {tA tB : T3}
def bAnd (t u : T3) : T3 := fun Y τ Γ Z => t Y τ Γ fun c Γ1 => if c = true then u Y τ Γ1 Z else Z false Γ1
def bOr (t u : T3) : T3 := fun Y τ Γ Z => t Y τ Γ fun c Γ1 => if c = true then Z true Γ1 else u Y τ Γ1 Z
def bNot (t : T3) : T3 := fun Y τ Γ Z => t Y τ Γ fun c Γ1 => Z (!c) Γ1
theorem qw_and1 (ha : PT X a (liT E tA)) : PW X (.BoolOp .And [a] pos) (liT E tA) := pw_and1 ha
theorem qw_or1 (ha : PT X a (liT E tA)) : PW X (.BoolOp .Or [a] pos) (liT E tA) := pw_or1 ha
theorem qw_and {rest : List Expr} (ha : PT X a (liT E tA)) (hb : PW X (.BoolOp .And (b :: rest) pos) (liT E tB)) : PW X (.BoolOp .And (a :: b :: rest) pos) (liT E (bAnd tA tB)) :=
 weakW3 (pw_and ha hb) fun σ H Q τ Γ Y Z rs hr t vr xr => by
  refine ⟨τ, Γ, Y, _, rs, hr, t, fun k H1 Γ1 s1 h1 z1 => ?_, xr⟩
  cases k with
  | false => exact vr _ H1 Γ1 s1 h1 z1
  | true => exact ⟨τ, Γ1, Y, Z, rs.mono s1.tq, h1, z1, fun b H2 Γ2 s2 h2 z2 => vr b H2 Γ2 (s1.trans s2) h2 z2, xr.mono s1⟩
theorem qw_or {rest : List Expr} (ha : PT X a (liT E tA)) (hb : PW X (.BoolOp .Or (b :: rest) pos) (liT E tB)) : PW X (.BoolOp .Or (a :: b :: rest) pos) (liT E (bOr tA tB)) :=
 weakW3 (pw_or ha hb) fun σ H Q τ Γ Y Z rs hr t vr xr => by
  refine ⟨τ, Γ, Y, _, rs, hr, t, fun k H1 Γ1 s1 h1 z1 => ?_, xr⟩
  cases k with
  | true => exact vr _ H1 Γ1 s1 h1 z1
  | false => exact ⟨τ, Γ1, Y, Z, rs.mono s1.tq, h1, z1, fun b H2 Γ2 s2 h2 z2 => vr b H2 Γ2 (s1.trans s2) h2 z2, xr.mono s1⟩
theorem qt_not (ha : PT X a (liT E tA)) : PT X (.UnaryOp .Not a pos) (liT E (bNot tA)) :=
 weakT3 (pt_not ha) fun σ H Q τ Γ Y Z rs hr t vr xr => ⟨τ, Γ, Y, _, rs, hr, t, fun k H1 Γ1 s1 h1 z1 => vr _ H1 Γ1 s1 h1 z1, xr⟩
theorem qt_val {e : Expr} {t : E3} (h : PE X e (liE E t)) (he : ∀ whole, isTrue e X.env whole = (do let v ← whole; standAt e.pos; holding [v] (truthy v)) := by intro _; rfl) : PT X e (liT E (eT t)) :=
 weakT (pt_val h he) (test_sim (t2 := liE E t) fun _ _ _ q => q)
def eIf (c : T3) (ta tb : E3) : E3 := fun Y τ Γ Z => c Y τ Γ fun k Γ1 => if k = true then ta Y τ Γ1 Z else tb Y τ Γ1 Z
end
section
variable {e : Expr} {es : List Expr} {te : E3} {t : A3} {pos : Pos}
def aNil : A3 := fun _ _ Γ Z => Z [] Γ
def aCons (ta : E3) (tr : A3) : A3 := fun Y τ Γ Z => ta Y τ Γ fun x Γ1 => tr Y τ Γ1 fun xs Γ2 => Z (x :: xs) Γ2
theorem qa_nil : PA X [] (liA E aNil) := weakA3 pa_nil fun σ H Q τ Γ Y Z rs hr t vr xr => vr [] [] H Γ .refl hr rs_nil t
theorem qa_cons (ha : PE X e (liE E te)) (hr : PA X es (liA E t)) (hs : starEach (e :: es) X.env = (false, eval e X.env) :: starEach es X.env := by rfl) : PA X (e :: es) (liA E (aCons te t)) :=
 weakA3 (pa_cons ha hr hs) fun σ H Q τ Γ Y Z rs hr t vr xr => by
  refine ⟨τ, Γ, Y, _, rs, hr, t, fun v x H1 Γ1 s1 h1 r1 z1 => ?_, xr⟩
  exact ⟨τ, Γ1, Y, _, rs.mono s1.tq, h1, z1, fun vs xs H2 Γ2 s2 h2 r2 z2 => vr (v :: vs) (x :: xs) H2 Γ2 (s1.trans s2) h2 (rs_cons (r1.mono s2.tq) r2) z2, xr.mono s1⟩
def eTup (t : A3) : E3 := fun Y τ Γ Z => t Y τ Γ fun xs Γ1 => xs.length ≤ sizeLine ∧ Z (.tup xs) Γ1
def eLst (t : A3) : E3 := fun Y τ Γ Z => t Y τ Γ fun xs Γ1 => xs.length ≤ sizeLine ∧ ∀ p, Γ1 p = none → Z (.ref p) (up Γ1 p (.lst xs))
theorem qe_tup {x1} (h : PA X es (liA E t)) : PE X (.Tuple es x1 pos) (liE E (eTup t)) :=
 weakE3 (pe_tup h) fun σ H Q τ Γ Y Z rs hr t vr xr => by
  refine ⟨τ, Γ, Y, _, rs, hr, t, fun vs xs H1 Γ1 s1 h1 r1 z1 => ?_, xr⟩
  refine ⟨by rw [r1.length]; exact z1.1, fun p hp => ?_⟩
  have k := keep_new (o := .tup vs) hp
  exact vr _ _ _ Γ1 (s1.trans (.keep k)) (h1.keep k) (r_tup upd_same (r1.mono (tq_kp k))) z1.2
theorem qe_lst (h : PA X es (liA E t)) : PE X (.List es pos) (liE E (eLst t)) :=
 weakE3 (pe_lst h) fun σ H Q τ Γ Y Z rs hr t vr xr => by
  refine ⟨τ, Γ, Y, _, rs, hr, t, fun vs xs H1 Γ1 s1 h1 r1 z1 => ?_, xr⟩
  refine ⟨by rw [r1.length]; exact z1.1, fun p hp => ?_⟩
  have k := keep_new (o := .lst vs) hp
  exact vr _ _ _ _ (s1.trans (.make hp)) (h1.make (o3 := .lst xs) hp ⟨vs, upd_same, r1.mono (tq_kp k)⟩) r_ref (z1.2 p (h1.free hp))
end
abbrev Sp3 := List T → Gp → K3 → (Value → Gp → Prop) → Prop
def liSp (sp : Sp3) : Sp := fun vs H Q E => ∃ ts Γ Z Y, Rs H vs ts ∧ HR H Γ ∧ sp ts Γ Z Y ∧ VR H Γ Z Q ∧ ∀ C H' Γ', Stp H Γ H' Γ' → HR H' Γ' → Y C Γ' → E C none H'
abbrev Cl3 (P : Program) (w : World) (K : PySem.W.Frag) (mg : Str → Option Value) (base : Heap) (x : Str) (k : Nat) (ps : List Str) (sp : Sp3) : Prop := Callee P w K mg base x k ps (liSp sp)
def eCall (sp : Sp3) (t : A3) : E3 := fun Y τ Γ Z => t Y τ Γ fun xs Γ1 => sp xs Γ1 Z fun _ _ => False
def eCallX (sp : Sp3) (t : A3) : E3 := fun Y τ Γ Z => t Y τ Γ fun xs Γ1 => sp xs Γ1 Z (Y τ)
section
variable {x : Str} {k j : Nat} {ps : List Str} {sp : Sp3} {p pos : Pos} {e : Expr} {es : List Expr} {t : A3}
theorem qe_call (c : Cl3 X.prog X.w X.K X.mg X.base x k ps sp) (hr : Room j X.A) (hk : k ≤ j) (hg : Gl X x) (ha : PA X (e :: es) (liA E t)) (hdb : (x == ("__debug__" : Str)) = false := by decide)
  (he : starEach (e :: es) X.env = (false, eval e X.env) :: starEach es X.env := by rfl) (hpl : (backTo pos (starEach es X.env)).any (·.1) = false := by rfl) : PE X (.Call (.Name x p) (e :: es) [] pos) (liE E (eCall sp t)) :=
 weakE3 (pe_callC c hr hk hg ha hdb he hpl) fun σ H Q τ Γ Y Z rs hr t vr xr => by
  refine ⟨τ, Γ, Y, _, rs, hr, t, fun vs xs H1 Γ1 s1 h1 r1 z1 => ?_, xr⟩
  show liSp sp (vs ++ []) H1 Q E0
  rw [List.append_nil]
  exact ⟨xs, Γ1, Z, _, r1, h1, z1, vr.mono s1, fun _ _ _ _ _ z => z.elim⟩
theorem qe_call0 (c : Cl3 X.prog X.w X.K X.mg X.base x k ps sp) (hr : Room j X.A) (hk : k ≤ j) (hg : Gl X x) (hdb : (x == ("__debug__" : Str)) = false := by decide) : PE X (.Call (.Name x p) [] [] pos) (liE E (eCall sp aNil)) :=
 weakE3 (pe_callC0 c hr hk hg hdb) fun σ H Q τ Γ Y Z rs hr t vr xr => ⟨[], Γ, Z, _, rs_nil, hr, t, vr, fun _ _ _ _ _ z => z.elim⟩
end
end
end L3
set_option Elab.async false
set_option linter.all false
set_option maxRecDepth 100000
namespace L3
open PySem PySem.Spec L2
open PyProof.Rows hiding St
section
variable {X : Cx} {E : St → XK} {st : Stmt} {sts : List Stmt} {e : Expr} {te : E3} {pos : Pos} {t u : C3}
def cNext : C3 := fun _ D τ Γ => D.nx τ Γ
def cCont : C3 := fun _ D τ Γ => D.ct τ Γ
def cSeq (t u : C3) : C3 := fun Y D τ Γ => t Y { D with nx := u Y D } τ Γ
def cDrop (te : E3) : C3 := fun Y D τ Γ => te Y τ Γ fun _ Γ1 => D.nx τ Γ1
def cRet (te : E3) : C3 := fun Y D τ Γ => te Y τ Γ D.rt
def cRetN : C3 := fun _ D _ Γ => D.rt .non Γ
def cIf (c : T3) (t u : C3) : C3 := fun Y D τ Γ => c Y τ Γ fun b Γ1 => if b = true then t Y D τ Γ1 else u Y D τ Γ1
theorem qss_nil : PSs X [] (liS E cNext) := weakSs3 pss_nil fun D σ H τ Γ Y Z rs hr t dr xr => dr.nx σ τ H Γ .refl hr rs t
theorem qss_cons (h1 : PS X st (liS E t)) (h2 : PSs X sts (liS E u)) : PSs X (st :: sts) (liS E (cSeq t u)) :=
 weakSs3 (pss_cons h1 h2) fun D σ H τ Γ Y Z rs hr t dr xr =>
  ⟨τ, Γ, Y, _, rs, hr, t, ⟨fun σ' τ' H' Γ' s h r z => ⟨τ', Γ', Y, Z, r, h, z, dr.mono s, xr.mono s⟩, dr.rt, dr.bk, dr.ct⟩, xr⟩
theorem qs_expr (he : PE X e (liE E te)) (hs : swapsWith e none pos.line X.env = pure false := by rfl) : PS X (.Expr e pos) (liS E (cDrop te)) :=
 weakS3 (ps_expr he hs) fun D σ H τ Γ Y Z rs hr t dr xr => ⟨τ, Γ, Y, _, rs, hr, t, fun v x H' Γ' s h r z => dr.nx σ τ H' Γ' s h (rs.mono s.tq) z, xr⟩
theorem qs_ret (he : PE X e (liE E te)) : PS X (.Return (some e) pos) (liS E (cRet te)) :=
 weakS3 (ps_ret he) fun D σ H τ Γ Y Z rs hr t dr xr => ⟨τ, Γ, Y, _, rs, hr, t, dr.rt, xr⟩
theorem qs_if {c : Expr} {a b : List Stmt} {tc : T3} (hc : PT X c (liT E tc)) (ha : PSs X a (liS E t)) (hb : PSs X b (liS E u)) : PS X (.If c a b pos) (liS E (cIf tc t u)) :=
 weakS3 (ps_if hc ha hb) fun D σ H τ Γ Y Z rs hr t dr xr => by
  refine ⟨τ, Γ, Y, _, rs, hr, t, fun k H1 Γ1 s1 h1 z1 => ?_, xr⟩
  cases k with
  | true => exact ⟨τ, Γ1, Y, Z, rs.mono s1.tq, h1, z1, dr.mono s1, xr.mono s1⟩
  | false => exact ⟨τ, Γ1, Y, Z, rs.mono s1.tq, h1, z1, dr.mono s1, xr.mono s1⟩
def cCut (t : C3) : C3 := fun Y D τ Γ => ∃ P : S3 → Gp → Prop, t Y { D with nx := P } τ Γ ∧ ∀ τ Γ, P τ Γ → D.nx τ Γ
theorem qs_cut (h : PS X st (liS E t)) : PS X st (liS E (cCut t)) :=
 weakS3 h fun D σ H τ Γ Y Z rs hr q0 dr xr => by obtain ⟨P, t, k⟩ := q0; exact ⟨τ, Γ, Y, _, rs, hr, t, ⟨fun σ' τ' H' Γ' s h r z => dr.nx σ' τ' H' Γ' s h r (k _ _ z), dr.rt, dr.bk, dr.ct⟩, xr⟩
abbrev G3 := X3 → T → S3 → Gp → (S3 → Gp → Prop) → Prop
abbrev Gs3 := X3 → List T → S3 → Gp → (S3 → Gp → Prop) → Prop
def liG (E : St → XK) (g : G3) : TG := fun v σ H Q => ∃ x τ Γ Y Z, R H v x ∧ RS H σ τ ∧ HR H Γ ∧ g Y x τ Γ Z ∧ NR H Γ Z Q ∧ XR H Γ Y E
def liGs (E : St → XK) (g : Gs3) : TGs := fun v σ H Q => ∃ x τ Γ Y Z, Rs H v x ∧ RS H σ τ ∧ HR H Γ ∧ g Y x τ Γ Z ∧ NR H Γ Z Q ∧ XR H Γ Y E
theorem weakG3 {e : Expr} {t0 : TG} {t : G3} (h : PG X e t0) (w : ∀ v σ H Q x τ Γ Y Z, R H v x → RS H σ τ → HR H Γ → t Y x τ Γ Z → NR H Γ Z Q → XR H Γ Y E → t0 v σ H Q) : PG X e (liG E t) :=
 weakG h (by rintro v σ H Q ⟨x, τ, Γ, Y, Z, r, rs, hr, q, nr, xr⟩; exact w v σ H Q x τ Γ Y Z r rs hr q nr xr)
theorem weakGs3 {e : List Expr} {t0 : TGs} {t : Gs3} (h : PGs X e t0) (w : ∀ v σ H Q x τ Γ Y Z, Rs H v x → RS H σ τ → HR H Γ → t Y x τ Γ Z → NR H Γ Z Q → XR H Γ Y E → t0 v σ H Q) : PGs X e (liGs E t) :=
 weakGs h (by rintro v σ H Q ⟨x, τ, Γ, Y, Z, r, rs, hr, q, nr, xr⟩; exact w v σ H Q x τ Γ Y Z r rs hr q nr xr)
def hName (i : Nat) : G3 := fun _ x τ Γ Z => Z (τ.set i (some x)) Γ
def hNil : Gs3 := fun _ xs τ Γ Z => xs = [] ∧ Z τ Γ
def hCons (g : G3) (gs : Gs3) : Gs3 := fun Y xs τ Γ Z => ∃ x r, xs = x :: r ∧ g Y x τ Γ fun τ1 Γ1 => gs Y r τ1 Γ1 Z
def hTup (n : Nat) (gs : Gs3) : G3 := fun Y x τ Γ Z => ∃ ts, x = .tup ts ∧ ts.length = n ∧ gs Y ts τ Γ Z
theorem qg_name {i : Nat} {x : Str} (hN : X.N.Nodup) (hi : X.N[i]? = some x) (hx : Loc X.env.scope x) (hf : X.fn x = true ∨ X.env.scope.names.lookup x = some .local := by first | exact .inl rfl | exact .inr rfl | assumption) : PG X (.Name x pos) (liG E (hName i)) :=
 weakG3 (pg_name hN hi hx hf) fun v σ H Q x τ Γ Y Z r rs hr t nr xr => nr _ _ H Γ .refl hr (rs.set r i) t
theorem qgs_nil : PGs X [] (liGs E hNil) := weakGs3 pgs_nil fun v σ H Q x τ Γ Y Z r rs hr q0 nr xr => by
 obtain ⟨e, t⟩ := q0
 subst e
 exact ⟨rs_inv0 r, nr _ _ H Γ .refl hr rs t⟩
theorem qgs_cons {es : List Expr} {g : G3} {gs : Gs3} (h1 : PG X e (liG E g)) (h2 : PGs X es (liGs E gs)) (hs : (assignEach (e :: es) X.env).map (·.2) = assign e X.env :: (assignEach es X.env).map (·.2) := by rfl) : PGs X (e :: es) (liGs E (hCons g gs)) :=
 weakGs3 (pgs_cons h1 h2 hs) fun v σ H Q x τ Γ Y Z r rs hr q0 nr xr => by
  obtain ⟨y, ys, e, t⟩ := q0
  subst e
  obtain ⟨w, ws, rfl, r1, r2⟩ := rs_inv r
  refine ⟨w, ws, rfl, y, τ, Γ, Y, _, r1, rs, hr, t, fun σ' τ' H' Γ' s h r z => ?_, xr⟩
  exact ⟨ys, τ', Γ', Y, Z, r2.mono s.tq, r, h, z, nr.mono s, xr.mono s⟩
theorem qg_tup {es : List Expr} {k : Nat} {gs : Gs3} {n : Nat} (hc : X.calm = true) (h : PGs X es (liGs E gs))
  (hn : (assignEach es X.env).length = n := by rfl) (hst : (assignEach es X.env).findIdx? (·.1) = none := by rfl) : PG X (.Tuple es k pos) (liG E (hTup n gs)) :=
 weakG3 (pg_tup hc h hn hst) fun v σ H Q x τ Γ Y Z r rs hr q0 nr xr => by
  obtain ⟨ts, e, l, t⟩ := q0
  subst e
  obtain ⟨a, vs, rfl, ha, r⟩ := i_tup r
  exact ⟨a, vs, rfl, SqT.of ha, by rw [r.length]; exact l, ts, τ, Γ, Y, Z, r, rs, hr, t, nr, xr⟩
def hSub (to ti : E3) : G3 := fun Y v τ Γ Z => to Y τ Γ fun o Γ1 => ti Y τ Γ1 fun i Γ2 => ∃ a ts k j, o = .ref a ∧ i = .int k ∧ Γ2 a = some (.lst ts) ∧ ixN ts.length k = some j ∧ Z τ (up Γ2 a (.lst (ts.set j v)))
def cAsg (te : E3) (g : G3) : C3 := fun Y D τ Γ => te Y τ Γ fun x Γ1 => g Y x τ Γ1 D.nx
theorem asg_sim {te : E3} {g : G3} (D : Ends) (σ : St) (H : Hp) (q : liS E (cAsg te g) D σ H) : tAsg (liE E te) (liG E g) D σ H := by
 obtain ⟨τ, Γ, Y, Z, rs, hr, t, dr, xr⟩ := q
 exact ⟨τ, Γ, Y, _, rs, hr, t, fun v x H1 Γ1 s1 h1 r1 z1 => ⟨x, τ, Γ1, Y, _, r1, rs.mono s1.tq, h1, z1, dr.nx.mono s1, xr.mono s1⟩, xr⟩
theorem qs_asg {tg e : Expr} {te : E3} {g : G3} (he : PE X e (liE E te)) (hg : PG X tg (liG E g)) (hs : swapsWithSole [tg] e pos.line X.env = pure false := by rfl) (hw : swappedStores [tg] e X.env = pure none := by rfl)
  (h1 : (assignEach [tg] X.env).map (·.2) = [assign tg X.env] := by rfl) : PS X (.Assign [tg] e pos) (liS E (cAsg te g)) := weakS (ps_asg he hg hs hw h1) asg_sim
def cSet (i : Nat) (te : E3) : C3 := fun Y D τ Γ => te Y τ Γ fun x Γ1 => D.nx (τ.set i (some x)) Γ1
theorem qs_set {i : Nat} {x : Str} {e : Expr} {te : E3} {pos' : Pos} (hN : X.N.Nodup) (hi : X.N[i]? = some x) (hx : Loc X.env.scope x) (he : PE X e (liE E te)) (hs : swapsWith e (some (.Name x pos')) pos.line X.env = pure false := by rfl) (hf : X.fn x = true ∨ X.env.scope.names.lookup x = some .local := by first | exact .inl rfl | exact .inr rfl | assumption) :
  PS X (.Assign [.Name x pos'] e pos) (liS E (cSet i te)) := weakS3 (ps_set hN hi hx he hs hf) fun D σ H τ Γ Y Z rs hr t dr xr =>
   ⟨τ, Γ, Y, _, rs, hr, t, fun v x H1 Γ1 s1 h1 r1 z1 => dr.nx _ _ H1 Γ1 s1 h1 ((rs.mono s1.tq).set r1 i) z1, xr⟩
structure Walks (J : It) (ts : List T) (gd : Gp → Prop) (H0 : Hp) : Prop where
 go : ∀ i H Γ, Tq H0 H → HR H Γ → gd Γ → i < ts.length → J.go i H
 yld : ∀ i H Γ x H', Tq H0 H → HR H Γ → gd Γ → i < ts.length → J.yld i H x H' → Stp H Γ H' Γ ∧ HR H' Γ ∧ ∃ t, ts[i]? = some t ∧ R H' x t
 stop : ∀ H Γ, Tq H0 H → HR H Γ → gd Γ → J.stop ts.length H
abbrev I3 := X3 → S3 → Gp → (List T → (Gp → Prop) → Gp → Prop) → Prop
def liI (E : St → XK) (wi : I3) : TI := fun σ H Q => ∃ τ Γ Y Z, RS H σ τ ∧ HR H Γ ∧ wi Y τ Γ Z ∧ (∀ J ts gd H' Γ', Stp H Γ H' Γ' → HR H' Γ' → Walks J ts gd H' → Z ts gd Γ' → Q J H') ∧ XR H Γ Y E
theorem weakI3 {tg e : Expr} {t0 : TI} {t : I3} (h : PI X tg e t0) (w : ∀ σ H Q τ Γ Y Z, RS H σ τ → HR H Γ → t Y τ Γ Z → (∀ J ts gd H' Γ', Stp H Γ H' Γ' → HR H' Γ' → Walks J ts gd H' → Z ts gd Γ' → Q J H') → XR H Γ Y E → t0 σ H Q) : PI X tg e (liI E t) :=
 weakI h (by rintro σ H Q ⟨τ, Γ, Y, Z, rs, hr, q, vr, xr⟩; exact w σ H Q τ Γ Y Z rs hr q vr xr)
def wFor (gd : Gp → Prop) (g : G3) (tb : C3) (Y : X3) (D : D3) (ts : List T) (τ : S3) (Γ : Gp) : Prop := ∃ P : List T → S3 → Gp → Prop, P ts τ Γ ∧ (∀ τ Γ, P [] τ Γ → gd Γ ∧ D.nx τ Γ) ∧
 ∀ x r τ Γ, P (x :: r) τ Γ → gd Γ ∧ g Y x τ Γ fun τ2 Γ2 => tb Y { D with nx := P r, ct := P r, bk := D.nx } τ2 Γ2
def cFor (wi : I3) (g : G3) (tb : C3) : C3 := fun Y D τ Γ => wi Y τ Γ fun ts gd Γ1 => wFor gd g tb Y D ts τ Γ1
theorem drop_cons {α : Type} {xs : List α} {i : Nat} (h : i < xs.length) : xs.drop i = xs[i] :: xs.drop (i + 1) := List.drop_eq_getElem_cons h
theorem qs_for {iter : Expr} {body : List Stmt} {wi : I3} {g : G3} {tb : C3} {tg : Expr} (hp : PassesOwn (model X.prog X.w) X.A X.env X.xe) (hc : X.calm = true) (hi : PI X tg iter (liI E wi)) (hg : PG X tg (liG E g)) (hb : PSs X body (liS E tb))
  (hs : ∀ x, foldedSetIterable iter X.env x = pure x := by intro _; rfl) : PS X (.For tg iter body [] pos) (liS E (cFor wi g tb)) :=
 weakS3 (ps_for hp hc hi hg hb hs) fun D σ H τ Γ Y Z rs hr t dr xr => by
  refine ⟨τ, Γ, Y, _, rs, hr, t, fun J ts gd H1 Γ1 s1 h1 wk ⟨P, z1, p0, pc⟩ => ?_, xr⟩
  refine ⟨fun i m σ' H' => ∃ τ' Γ', i ≤ ts.length ∧ m = ts.length - i ∧ RS H' σ' τ' ∧ HR H' Γ' ∧ Stp H1 Γ1 H' Γ' ∧ P (ts.drop i) τ' Γ', ⟨ts.length, τ, Γ1, Nat.zero_le _, rfl, rs.mono s1.tq, h1, .refl, z1⟩, ?_⟩
  rintro i m σ2 H2 ⟨τ2, Γ2, hi, rfl, rs2, h2, s2, w2⟩
  by_cases hlt : i < ts.length
  ·rw [drop_cons hlt] at w2
   obtain ⟨g2, w2⟩ := pc _ _ _ _ w2
   refine .inr ⟨wk.go i H2 Γ2 s2.tq h2 g2 hlt, fun σ' H' => ∃ τ' Γ', RS H' σ' τ' ∧ HR H' Γ' ∧ Stp H1 Γ1 H' Γ' ∧ P (ts.drop (i + 1)) τ' Γ', fun σ' H' ⟨τ', Γ', a, b, c, d⟩ => ⟨ts.length - (i + 1), by omega, τ', Γ', hlt, rfl, a, b, c, d⟩, fun x H3 yl => ?_⟩
   obtain ⟨s3, h3, x3, e3, r3⟩ := wk.yld i H2 Γ2 x H3 s2.tq h2 g2 hlt yl
   rw [List.getElem?_eq_getElem hlt] at e3
   cases e3
   refine ⟨_, τ2, Γ2, Y, _, r3, rs2.mono s3.tq, h3, w2, fun σ4 τ4 H4 Γ4 s4 h4 r4 z4 => ?_, xr.mono ((s1.trans s2).trans s3)⟩
   have s5 := (s2.trans s3).trans s4
   refine ⟨τ4, Γ4, Y, _, r4, h4, z4, ⟨fun σ' τ' H' Γ' s h r z => ⟨τ', Γ', r, h, s5.trans s, z⟩, dr.rt.mono (s1.trans s5), dr.nx.mono (s1.trans s5), fun σ' τ' H' Γ' s h r z => ⟨τ', Γ', r, h, s5.trans s, z⟩⟩, xr.mono (s1.trans s5)⟩
  ·have e : i = ts.length := by omega
   subst e
   rw [List.drop_length] at w2
   have w2 := p0 _ _ w2
   exact .inl ⟨wk.stop H2 Γ2 s2.tq h2 w2.1, dr.nx σ2 τ2 H2 Γ2 (s1.trans s2) h2 rs2 w2.2⟩
def cSt (own : List Str) (cap : List (Nat × Str)) (τ : S3) : S3 := List.replicate own.length none ++ cap.map fun p => (τ[p.1]?).getD none
theorem rs_app {H : Hp} : ∀ {a : St} {b : S3} {c : St} {d : S3}, RS H a b → RS H c d → RS H (a ++ c) (b ++ d)
 | [], [], _, _, _, h => h
 | _ :: _, _ :: _, _, _, h, q => ⟨h.1, rs_app h.2 q⟩
 | [], _ :: _, _, _, h, _ => h.elim
 | _ :: _, [], _, _, h, _ => h.elim
theorem rs_rep {H : Hp} : ∀ n : Nat, RS H (List.replicate n none) (List.replicate n none)
 | 0 => trivial
 | n + 1 => ⟨trivial, rs_rep n⟩
theorem rs_comp {H : Hp} {σ : St} {τ : S3} (own : List Str) (h : RS H σ τ) : ∀ cap : List (Nat × Str), RS H (compSt own cap σ) (cSt own cap τ) := fun cap => by
 refine rs_app (rs_rep _) ?_
 induction cap with
 | nil => exact trivial
 | cons p r ih =>
  refine ⟨?_, ih⟩
  show RO1 H ((σ[p.1]?).getD none) ((τ[p.1]?).getD none)
  cases e : τ[p.1]? with
  | none => exact trivial
  | some o =>
   cases o with
   | none => exact trivial
   | some x =>
    obtain ⟨v, ev, rv⟩ := h.get e
    rw [ev]
    exact rv
abbrev Y0 : X3 := fun _ _ _ => False
def wComp (gd : Gp → Prop) (g : G3) (tc : T3) (te : E3) (C : List T → Gp → Prop) (ts : List T) (τ : S3) (ys : List T) (Γ : Gp) : Prop := ∃ P : List T → S3 → List T → Gp → Prop, P ts τ ys Γ ∧ (∀ τ ys Γ, P [] τ ys Γ → gd Γ ∧ C ys Γ) ∧
 ∀ x r τ ys Γ, P (x :: r) τ ys Γ → gd Γ ∧ g Y0 x τ Γ fun τ3 Γ3 => tc Y0 τ3 Γ3 fun b Γ4 => if b = true then te Y0 τ3 Γ4 fun y Γ5 => P r τ3 (ys ++ [y]) Γ5 else P r τ3 ys Γ4
def eComp (wi : I3) (g : G3) (tc : T3) (te : E3) (own : List Str) (cap : List (Nat × Str)) : E3 := fun Y τ Γ Z => wi Y τ Γ fun ts gd Γ1 => ts.length ≤ sizeLine ∧
 wComp gd g tc te (fun ys Γ2 => ∀ D, Γ2 D = none → Z (.ref D) (up Γ2 D (.lst ys))) ts (cSt own cap τ) [] Γ1
abbrev EN : St → XK := fun _ => E0
theorem xr0 {H : Hp} {Γ : Gp} : XR H Γ Y0 EN := fun _ _ _ _ _ _ _ _ z => z.elim
theorem comp_sim {wi : I3} {g : G3} {tc : T3} {te : E3} {own : List Str} {cap : List (Nat × Str)} (σ : St) (H : Hp) (Q : VK) (q : liE E (eComp wi g tc te own cap) σ H Q) : tComp (liI E wi) (liG EN g) (liT EN tc) (liE EN te) own cap σ H Q := by
 obtain ⟨τ, Γ, Y, Z, rs, hr, t, vr, xr⟩ := q
 refine ⟨τ, Γ, Y, _, rs, hr, t, fun J ts gd H1 Γ1 s1 h1 wk ⟨hz, P, z1, p0, pc⟩ => ?_, xr⟩
 intro D hD
 have nl : ∀ vs : List V, (∀ us : List V, HO.lst vs ≠ .tup us) ∧ ∀ b w, HO.lst vs ≠ .frz b w := fun _ => ⟨fun _ z => (nomatch z), fun _ _ z => (nomatch z)⟩
 refine ⟨fun i m σ' vs H' => ∃ τ' ys Γ', i ≤ ts.length ∧ m = ts.length - i ∧ vs.length ≤ i ∧ RS H' σ' τ' ∧ HR H' Γ' ∧ H' D = some (.lst vs) ∧ Γ' D = none ∧ Rs H' vs ys ∧ Stp H1 Γ1 H' Γ' ∧ P (ts.drop i) τ' ys Γ',
  ⟨ts.length, cSt own cap τ, [], Γ1, Nat.zero_le _, rfl, Nat.le_refl _, (rs_comp own (rs.mono s1.tq) cap).mono (tq_kp (keep_new hD)), h1.keep (keep_new hD), upd_same, h1.free hD, rs_nil, .keep (keep_new hD), z1⟩, ?_⟩
 rintro i m σ2 vs H2 ⟨τ2, ys, Γ2, hi, rfl, hv, rs2, h2, d2, gD, ry, s2, w2⟩
 refine ⟨d2, ?_⟩
 by_cases hlt : i < ts.length
 ·rw [drop_cons hlt] at w2
  obtain ⟨g2, w2⟩ := pc _ _ _ _ _ w2
  refine .inr ⟨wk.go i H2 Γ2 s2.tq h2 g2 hlt, by omega, fun σ' ws H' => ∃ τ' ys Γ', ws.length ≤ i + 1 ∧ RS H' σ' τ' ∧ HR H' Γ' ∧ H' D = some (.lst ws) ∧ Γ' D = none ∧ Rs H' ws ys ∧ Stp H1 Γ1 H' Γ' ∧ P (ts.drop (i + 1)) τ' ys Γ',
   fun σ' ws H' ⟨τ', ys, Γ', a, b, c, d, e, f, k, l⟩ => ⟨ts.length - (i + 1), by omega, τ', ys, Γ', hlt, rfl, a, b, c, d, e, f, k, l⟩, fun x H3 yl => ?_⟩
  obtain ⟨s3, h3, x3, e3, r3⟩ := wk.yld i H2 Γ2 x H3 s2.tq h2 g2 hlt yl
  rw [List.getElem?_eq_getElem hlt] at e3
  cases e3
  refine ⟨_, τ2, Γ2, Y0, _, r3, rs2.mono s3.tq, h3, w2, fun σ4 τ4 H4 Γ4 s4 h4 r4 z4 => ?_, xr0⟩
  refine ⟨τ4, Γ4, Y0, _, r4, h4, z4, fun k H5 Γ5 s5 h5 z5 => ?_, xr0⟩
  have s35 := (s3.trans s4).trans s5
  have d5 : H5 D = some (.lst vs) := s35.frm D _ d2 gD
  have g5 : Γ5 D = none := s35.new D (by rw [d2]; exact fun z => nomatch z) gD
  cases k with
  | false => exact ⟨τ4, ys, Γ5, Nat.le_succ_of_le hv, r4.mono s5.tq, h5, d5, g5, ry.mono s35.tq, s2.trans s35, z5⟩
  | true =>
   refine ⟨τ4, Γ5, Y0, _, r4.mono s5.tq, h5, z5, fun y y' H6 Γ6 s6 h6 r6 z6 => ?_, xr0⟩
   have s36 := s35.trans s6
   have d6 : H6 D = some (.lst vs) := s36.frm D _ d2 gD
   have g6 : Γ6 D = none := s36.new D (by rw [d2]; exact fun z => nomatch z) gD
   have tq : Tq H6 (upd H6 D (.lst (vs ++ [y]))) := tq_set d6 (nl vs)
   refine ⟨d6, τ4, ys ++ [y'], Γ6, by rw [List.length_append]; exact Nat.succ_le_succ hv, (r4.mono (s5.trans s6).tq).mono tq, h6.hide g6 d6 (nl vs), upd_same, g6, Rs.app ((ry.mono s36.tq).mono tq) (rs_cons (r6.mono tq) rs_nil), ?_, z6⟩
   have s7 := s2.trans s36
   refine ⟨s7.tq.trans tq, fun a h z => ?_, s7.new, fun a o h g => ?_⟩
   ·by_cases e : a = D
    ·subst e; exact h hD
    ·rw [upd_ne e] at z; exact s7.dom a h z
   ·have e : a ≠ D := fun e => by subst e; rw [hD] at h; cases h
    rw [upd_ne e]; exact s7.frm a o h g
 ·have e : i = ts.length := by omega
  subst e
  rw [List.drop_length] at w2
  have w2 := p0 _ _ _ w2
  refine .inl ⟨wk.stop H2 Γ2 s2.tq h2 w2.1, ?_⟩
  have s12 := s1.trans s2
  refine vr (.ref D) (.ref D) H2 (up Γ2 D (.lst ys)) ⟨s12.tq, s12.dom, fun a h g => ?_, s12.frm⟩ (fun a o g => ?_) r_ref (w2.2 D gD)
  ·have e : a ≠ D := fun e => by subst e; exact s1.dom _ h hD
   rw [up_ne e]; exact s12.new a h g
  ·by_cases e : a = D
   ·subst e; rw [up_same] at g; cases g; exact ⟨vs, d2, ry⟩
   ·rw [up_ne e] at g; exact h2 a o g
section
variable {scope : Scope} {cl : List (Str × Addr)} {own : List Str} {cap : List (Nat × Str)} {tg iter elt : Expr} {ifs : List Expr} {wi : I3} {g : G3} {tc : T3} {te : E3}
theorem qe_comp (c : CompOk X scope cl own cap) (hc : X.calm = true) (hi : PI X tg iter (liI E wi))
  (hg : ∀ C s H fp, PG (compCx X (own ++ cap.map (·.2)) scope cl C s H fp fun _ _ => False) tg (liG EN g)) (ht : ∀ C s H fp, PTs (compCx X (own ++ cap.map (·.2)) scope cl C s H fp fun _ _ => False) ifs (liT EN tc))
  (he : ∀ C s H fp, PE (compCx X (own ++ cap.map (·.2)) scope cl C s H fp fun _ _ => False) elt (liE EN te)) (hs : ∀ x, foldedSetIterable iter X.env x = pure x := by intro _; rfl) :
  PE X (.ListComp elt [⟨tg, iter, ifs, 0⟩] scope pos) (liE E (eComp wi g tc te own cap)) := weakE (pe_comp c hc hi hg ht he hs) comp_sim
def bTrue : T3 := fun _ _ Γ Z => Z true Γ
theorem qts_nil : PTs X [] (liT E bTrue) := weakTs3 pts_nil fun σ H Q τ Γ Y Z rs hr t vr xr => vr true H Γ .refl hr t
end
end
def start3 : List Str → List T → S3
 | [], _ => []
 | _ :: N, [] => none :: start3 N []
 | _ :: N, t :: ts => some t :: start3 N ts
theorem rs_start0 {H : Hp} : ∀ N : List Str, RS H (List.replicate N.length none) (start3 N [])
 | [] => trivial
 | _ :: N => ⟨trivial, rs_start0 N⟩
theorem rs_start {H : Hp} : ∀ (N : List Str) {vs : List V} {ts : List T}, Rs H vs ts → ts.length ≤ N.length → RS H (L2.start N vs) (start3 N ts)
 | N, vs, [], h, _ => by
  rw [rs_inv0 h]
  exact rs_start0 N
 | [], vs, t :: ts, h, l => absurd l (by simp)
 | n :: N, vs, t :: ts, h, l => by
  obtain ⟨v, ws, rfl, a, b⟩ := rs_inv h
  have := rs_start N b (by simpa using l)
  refine ⟨a, ?_⟩
  unfold L2.start at this
  rw [List.length_cons, List.length_cons, Nat.add_sub_add_right]
  exact this
theorem sc_len {N ps : List Str} {sc : Scope} (S : FnScope N ps sc) : ps.length ≤ N.length := by
 have := congrArg List.length S.pre
 rw [List.length_take] at this
 omega
section
variable {P : Program} {w : World} {K : PySem.W.Frag} {mg : Str → Option Value} {base : Heap}
end
section
variable {X : Cx} {x : Str} {C : Addr} {bmB : List Value} {B newId initId : String} {np cpos pos : Pos} {e₀ : Expr} {rest : List Expr} {t : A3} {E : XK}
def cRaise (C : Addr) (t : A3) : C3 := fun Y D τ Γ => t Y τ Γ fun xs Γ1 => xs.length ≤ sizeLine ∧ Y τ (.ref C) Γ1
end
section
variable {X : Cx} {E : St → XK} {body suite : List Stmt} {b₀ : Stmt} {y n : Str} {np hpos pos : Pos} {Cy : Addr} {j : Nat} {tb ts : C3}
def cTry (K : PySem.W.Frag) (Cy : Addr) (j : Nat) (tb ts : C3) : C3 := fun _ D τ Γ => tb (fun τ' C Γ' => PySem.W.exmOne K C (.ref Cy) = some true ∧ ∀ x, Γ' x = none →
 ts Y0 { nx := fun τ2 Γ2 => D.nx (τ2.set j none) Γ2, rt := D.rt, bk := fun τ2 Γ2 => D.bk (τ2.set j none) Γ2, ct := fun τ2 Γ2 => D.ct (τ2.set j none) Γ2 } (τ'.set j (some (.ref x))) (up Γ' x (.ext (excAt x C)))) D τ Γ
end
end L3
set_option Elab.async false
set_option linter.all false
set_option maxRecDepth 100000
namespace L3
open PySem PySem.Spec L2
open PyProof.Rows hiding St
def sc : T → Option V
 | .non => some .non | .bl b => some (.bl b) | .int i => some (.int i) | .str z => some (.str z) | _ => none
theorem sc_r {H : Hp} {v u : V} {x : T} (r : R H v x) (h : sc x = some u) : v = u := by
 cases x with
 | non => cases h; exact i_non r
 | bl b => cases h; exact i_bl r
 | int i => cases h; exact i_int r
 | str z => cases h; exact i_str r
 | tup ts => cases h
 | ref a => cases h
 | ty n => cases h
 | scr K a ts => cases h
def scs : List T → Option (List V)
 | [] => some []
 | x :: r => match sc x, scs r with | some v, some vs => some (v :: vs) | _, _ => none
theorem scs_r {H : Hp} : ∀ {ts : List T} {vs us : List V}, Rs H vs ts → scs ts = some us → vs = us
 | [], vs, us, r, h => by cases h; exact rs_inv0 r
 | x :: q, vs, us, r, h => by
  obtain ⟨v, ws, rfl, a, b⟩ := rs_inv r
  unfold scs at h
  split at h
  ·rename_i v' vs' e1 e2
   cases h
   rw [sc_r a e1, scs_r b e2]
  ·cases h
def it3 (Γ : Gp) : T → Option (List T)
 | .tup ts => some ts
 | .ref a => match Γ a with | some (.lst ts) => some ts | _ => none
 | _ => none
theorem it3_l {Γ : Gp} {a : Addr} {ts : List T} (h : Γ a = some (.lst ts)) : it3 Γ (.ref a) = some ts := by
 show (match Γ a with | some (.lst ts) => some ts | _ => none) = _
 rw [h]
theorem it3_a {K : PySem.W.Frag} {H : Hp} {Γ : Gp} {a : Addr} {ts : List T} (hr : HR H Γ) (h : it3 Γ (.ref a) = some ts) : ∃ vs, SqL K H a vs ∧ Rs H vs ts := by
 have h : (match Γ a with | some (.lst ts) => some ts | _ => none) = some ts := h
 split at h
 ·rename_i ts' g; cases h; obtain ⟨vs, ha, q⟩ := hr a _ g; exact ⟨vs, SqL.of ha, q⟩
 ·cases h
theorem it3_r {K : PySem.W.Frag} {H : Hp} {Γ : Gp} {v : V} {x : T} {ts : List T} (r : R H v x) (hr : HR H Γ) (h : it3 Γ x = some ts) : ∃ p vs, v = .ref p ∧ (SqL K H p vs ∨ SqT K H p vs) ∧ Rs H vs ts := by
 cases x with
 | tup us => cases h; obtain ⟨a, vs, e, ha, q⟩ := i_tup r; exact ⟨a, vs, e, .inr (SqT.of ha), q⟩
 | ref a => obtain ⟨vs, s, q⟩ := it3_a (K := K) hr h; exact ⟨a, vs, i_ref r, .inl s, q⟩
 | _ => cases h
section
variable {X : Cx} {E : St → XK}
def r3I (C : Int → Int → Prop) (g : Int → Int → T) : R3 := fun x y Γ Z => ∃ i j, x = .int i ∧ y = .int j ∧ C i j ∧ Z (g i j) Γ
def r3J (g : Int → Int → T) : R3 := fun x y Γ Z => ∃ i j, x = .int i ∧ y = .int j ∧ Z (g i j) Γ
theorem oq_I {f : Value → Value → Sem Value} {C : Int → Int → Prop} {g : Int → Int → V} {g3 : Int → Int → T} (h : OpR X f (rI C g)) (e : ∀ i j H, R H (g i j) (g3 i j)) : OpQ X f (r3I C g3) :=
 ⟨_, h, fun x y a b H Γ Q Z ra rb hr q0 vr => by obtain ⟨i, j, ea, eb, c, z⟩ := q0; subst ea eb; exact ⟨i, j, i_int ra, i_int rb, c, vr _ _ H Γ .refl hr (e i j H) z⟩⟩
theorem oq_J {f : Value → Value → Sem Value} {g : Int → Int → V} {g3 : Int → Int → T} (h : OpR X f (rI0 g)) (e : ∀ i j H, R H (g i j) (g3 i j)) : OpQ X f (r3J g3) :=
 ⟨_, h, fun x y a b H Γ Q Z ra rb hr q0 vr => by obtain ⟨i, j, ea, eb, z⟩ := q0; subst ea eb; exact ⟨i, j, i_int ra, i_int rb, vr _ _ H Γ .refl hr (e i j H) z⟩⟩
theorem oq_add : OpQ X (binaryOp .Add) (r3J fun i j => .int (i + j)) := oq_J op_add fun _ _ _ => r_int
theorem oq_sub : OpQ X (binaryOp .Sub) (r3J fun i j => .int (i - j)) := oq_J op_sub fun _ _ _ => r_int
theorem oq_mul : OpQ X (binaryOp .Mult) (r3I CMul fun i j => .int (i * j)) := oq_I op_mul fun _ _ _ => r_int
theorem oq_fdiv : OpQ X (binaryOp .FloorDiv) (r3I CDivG fun i j => .int (i / j)) := oq_I op_fdivG fun _ _ _ => r_int
theorem oq_mod : OpQ X (binaryOp .Mod) (r3I (fun _ j => 0 < j) fun i j => .int (i % j)) := oq_I op_mod fun _ _ _ => r_int
theorem oq_lt : OpQ X (compareOp .Lt) (r3J fun i j => .bl (decide (i < j))) := oq_J op_lt fun _ _ _ => r_bl
theorem oq_gt : OpQ X (compareOp .Gt) (r3J fun i j => .bl (decide (j < i))) := oq_J op_gt fun _ _ _ => r_bl
theorem oq_adds : OpQ X (binaryOp .Add) (fun x y Γ Z => ∃ i j, x = .str i ∧ y = .str j ∧ i.length + j.length ≤ sizeLine ∧ Z (.str (i ++ j)) Γ) :=
 ⟨_, op_add_str, fun x y a b H Γ Q Z ra rb hr q0 vr => by obtain ⟨i, j, ea, eb, c, z⟩ := q0; subst ea eb; exact ⟨i, j, i_str ra, i_str rb, c, vr _ _ H Γ .refl hr r_str z⟩⟩
def r3Eq : R3 := fun x y Γ Z => ∃ u v, sc x = some u ∧ sc y = some v ∧ scal u v = true ∧ Z (.bl (decide (u = v))) Γ
def r3Ne : R3 := fun x y Γ Z => ∃ u v, sc x = some u ∧ sc y = some v ∧ scal u v = true ∧ Z (.bl (!decide (u = v))) Γ
theorem oq_eq : OpQ X (compareOp .Eq) r3Eq :=
 ⟨_, op_eq, fun x y a b H Γ Q Z ra rb hr q0 vr => by obtain ⟨u, v, ea, eb, c, z⟩ := q0; rw [sc_r ra ea, sc_r rb eb]; exact ⟨c, vr _ _ H Γ .refl hr r_bl z⟩⟩
theorem oq_ne : OpQ X (compareOp .NotEq) r3Ne :=
 ⟨_, op_ne, fun x y a b H Γ Q Z ra rb hr q0 vr => by obtain ⟨u, v, ea, eb, c, z⟩ := q0; rw [sc_r ra ea, sc_r rb eb]; exact ⟨c, vr _ _ H Γ .refl hr r_bl z⟩⟩
def r3In (neg : Bool) : R3 := fun x y Γ Z => ∃ u ts us, sc x = some u ∧ it3 Γ y = some ts ∧ scs ts = some us ∧ flatV u = true ∧ us.all flatV = true ∧ Z (.bl (if neg then !inV u us else inV u us)) Γ
theorem in_sim {neg : Bool} (x y : V) (a b : T) (H : Hp) (Γ : Gp) (Q : VK) (Z : K3) (ra : R H x a) (rb : R H y b) (hr : HR H Γ) (h : r3In neg a b Γ Z) (vr : VR H Γ Z Q) : rIn X.K neg x y H Q := by
 obtain ⟨u, ts, us, ea, eb, es, f1, f2, z⟩ := h
 obtain ⟨p, vs, rfl, sq, q⟩ := it3_r (K := X.K) rb hr eb
 rw [sc_r ra ea]
 cases scs_r q es
 exact ⟨p, _, rfl, sq, f1, f2, vr _ _ H Γ .refl hr r_bl z⟩
theorem oq_in : OpQ X (compareOp .In) (r3In false) := ⟨_, op_in_seq, in_sim⟩
theorem oq_neT0 (hu : X.A.units < cLine) : OpQ X (compareOp .NotEq) (fun x y Γ Z => ∃ ts, x = .tup ts ∧ y = .tup [] ∧ Z (.bl (!ts.isEmpty)) Γ) :=
 ⟨_, op_neT0 hu, fun x y a b H Γ Q Z ra rb hr q0 vr => by
  obtain ⟨ts, ea, eb, z⟩ := q0
  subst ea eb
  obtain ⟨p, vs, rfl, hp, q⟩ := i_tup ra
  obtain ⟨p', vs', rfl, hp', q'⟩ := i_tup rb
  rw [rs_inv0 q'] at hp'
  refine ⟨p, p', vs, rfl, rfl, hp, hp', ?_⟩
  have : vs.isEmpty = ts.isEmpty := by
   have := q.length
   cases vs <;> cases ts <;> simp_all
  rw [this]
  exact vr _ _ H Γ .refl hr r_bl z⟩
def r3Cat : R3 := fun x y Γ Z => ∃ ts us, x = .tup ts ∧ y = .tup us ∧ ts.length + us.length ≤ sizeLine ∧ Z (.tup (ts ++ us)) Γ
theorem kp0 {H H' : Hp} (k : Kp [] H H') : ∀ b o, H b = some o → H' b = some o := fun b o h => k b o (by simp) h
theorem oq_cat : OpQ X (binaryOp .Add) r3Cat :=
 ⟨_, op_catA, fun x y a b H Γ Q Z ra rb hr q0 vr => by
  obtain ⟨ts, us, ea, eb, l, z⟩ := q0
  subst ea eb
  obtain ⟨p, vs, rfl, hp, q⟩ := i_tup ra
  obtain ⟨p', vs', rfl, hp', q'⟩ := i_tup rb
  refine ⟨p, p', vs, vs', rfl, rfl, hp, hp', by rw [q.length, q'.length]; exact l, fun c H' k hc => ?_⟩
  exact vr _ _ H' Γ (.keep (kp0 k)) (hr.keep (kp0 k)) (r_tup hc (Rs.app (q.mono (tq_kp (kp0 k))) (q'.mono (tq_kp (kp0 k))))) z⟩
def r3CatL : R3 := fun x y Γ Z => ∃ a b ts us, x = .ref a ∧ y = .ref b ∧ Γ a = some (.lst ts) ∧ Γ b = some (.lst us) ∧ ts.length + us.length ≤ sizeLine ∧ ∀ p, Γ p = none → Z (.ref p) (up Γ p (.lst (ts ++ us)))
theorem oq_catL : OpQ X (binaryOp .Add) r3CatL :=
 ⟨_, op_cat, fun x y a b H Γ Q Z ra rb hr q0 vr => by
  obtain ⟨p, p', ts, us, ea, eb, g1, g2, l, z⟩ := q0
  subst ea eb
  obtain ⟨vs, hv, q⟩ := hr p _ g1
  obtain ⟨vs', hv', q'⟩ := hr p' _ g2
  refine ⟨p, p', vs, vs', i_ref ra, i_ref rb, hv, hv', by rw [q.length, q'.length]; exact l, fun c hc => ?_⟩
  have k := keep_new (o := .lst (vs ++ vs')) hc
  exact vr _ _ _ _ (.make hc) (hr.make (o3 := .lst (ts ++ us)) hc ⟨_, upd_same, Rs.app (q.mono (tq_kp k)) (q'.mono (tq_kp k))⟩) r_ref (z c (hr.free hc))⟩
theorem at_r {H : Hp} {vs : List V} {ts : List T} {i : Int} {t : T} (q : Rs H vs ts) (h : atI ts i = some t) : ∃ v, atI vs i = some v ∧ R H v t := by
 unfold atI at h ⊢
 rw [q.length]
 cases e : ixN ts.length i with
 | none => rw [e] at h; cases h
 | some j =>
  rw [e] at h
  have h' : ts[j]? = some t := h
  obtain ⟨v, hv, r⟩ := q.get h'
  exact ⟨v, hv, r⟩
def r3Ix : R3 := fun x y Γ Z => ∃ ts i t, it3 Γ x = some ts ∧ y = .int i ∧ atI ts i = some t ∧ Z t Γ
def r3IxS : R3 := fun x y Γ Z => ∃ z i c, x = .str z ∧ y = .int i ∧ z.length ≤ sizeLine ∧ atI z.cps.toList i = some c ∧ Z (.str ⟨#[c]⟩) Γ
variable {a b e : Expr} {ta tb te : E3} {pos p2 : Pos}
theorem qe_ix (ha : PE X a (liE E ta)) (hb : PE X b (liE E tb)) (hs : PlainIx b) : PE X (.Subscript a b pos) (liE E (eOp r3Ix ta tb)) :=
 weakE (pe_ix ix_seq ha hb hs) (op_sim fun x y a b H Γ Q Z ra rb hr q0 vr => by
  obtain ⟨ts, i, t, ea, eb, h, z⟩ := q0
  subst eb
  obtain ⟨p, vs, rfl, sq, q⟩ := it3_r (K := X.K) ra hr ea
  obtain ⟨v, hv, r⟩ := at_r q h
  rcases sq with sq | sq
  ·exact .inl ⟨p, vs, i, v, rfl, i_int rb, sq, hv, vr _ _ H Γ .refl hr r z⟩
  ·exact .inr (.inl ⟨p, vs, i, v, rfl, i_int rb, sq, hv, vr _ _ H Γ .refl hr r z⟩))
theorem qe_ixS (ha : PE X a (liE E ta)) (hb : PE X b (liE E tb)) (hs : PlainIx b) : PE X (.Subscript a b pos) (liE E (eOp r3IxS ta tb)) :=
 weakE (pe_ix ix_str ha hb hs) (op_sim fun x y a b H Γ Q Z ra rb hr q0 vr => by
  obtain ⟨w, i, c, ea, eb, l, h, z⟩ := q0
  subst ea eb
  exact ⟨w, i, c, i_str ra, i_int rb, l, h, vr _ _ H Γ .refl hr r_str z⟩)
abbrev O3 := X3 → S3 → Gp → (Option Int → Gp → Prop) → Prop
def liO (E : St → XK) (t : O3) : TO := fun σ H Q => ∃ τ Γ Y Z, RS H σ τ ∧ HR H Γ ∧ t Y τ Γ Z ∧ (∀ i H' Γ', Stp H Γ H' Γ' → HR H' Γ' → Z i Γ' → Q i H') ∧ XR H Γ Y E
theorem weakO {e : Option Expr} {t t' : TO} (h : PO X e t) (w : ∀ σ H Q, t' σ H Q → t σ H Q) : PO X e t' := ⟨fun pins s σ H Q I q => h.run pins s σ H Q I (w _ _ _ q)⟩
theorem weakO3 {e : Option Expr} {t0 : TO} {t : O3} (h : PO X e t0) (w : ∀ σ H Q τ Γ Y Z, RS H σ τ → HR H Γ → t Y τ Γ Z → (∀ i H' Γ', Stp H Γ H' Γ' → HR H' Γ' → Z i Γ' → Q i H') → XR H Γ Y E → t0 σ H Q) : PO X e (liO E t) :=
 weakO h (by rintro σ H Q ⟨τ, Γ, Y, Z, rs, hr, q, vr, xr⟩; exact w σ H Q τ Γ Y Z rs hr q vr xr)
def oNone : O3 := fun _ _ Γ Z => Z none Γ
def oSome (t : E3) : O3 := fun Y τ Γ Z => t Y τ Γ fun x Γ1 => ∃ i, x = .int i ∧ Z (some i) Γ1
theorem qo_none : PO X none (liO E oNone) := weakO3 po_none fun σ H Q τ Γ Y Z rs hr t vr xr => vr none H Γ .refl hr t
theorem qo_some (h : PE X e (liE E te)) : PO X (some e) (liO E (oSome te)) := weakO3 (po_some h) fun σ H Q τ Γ Y Z rs hr t vr xr =>
 ⟨τ, Γ, Y, _, rs, hr, t, fun v x H1 Γ1 s1 h1 r1 q0 => by obtain ⟨i, ex, z⟩ := q0; subst ex; exact ⟨i, i_int r1, vr _ H1 Γ1 s1 h1 z⟩, xr⟩
abbrev L3r := T → Option Int → Option Int → Gp → K3 → Prop
def SlQ (X : Cx) (r3 : L3r) : Prop := ∃ r, SlR X r ∧ ∀ x a lo hi H Γ Q Z, R H x a → HR H Γ → r3 a lo hi Γ Z → VR H Γ Z Q → r x lo hi H Q
def eSl (r : L3r) (te : E3) (tl th : O3) : E3 := fun Y τ Γ Z => te Y τ Γ fun x Γ1 => tl Y τ Γ1 fun l Γ2 => th Y τ Γ2 fun u Γ3 => r x l u Γ3 Z
theorem qe_slice {r3 : L3r} {lo hi : Option Expr} {tl th : O3} (hs : SlQ X r3) (he : PE X e (liE E te)) (hl : PO X lo (liO E tl)) (hu : PO X hi (liO E th)) : PE X (.Subscript e (.Slice lo hi none p2) pos) (liE E (eSl r3 te tl th)) := by
 obtain ⟨r, hr0, sim⟩ := hs
 refine weakE3 (pe_slice hr0 he hl hu) fun σ H Q τ Γ Y Z rs hr t vr xr => ?_
 refine ⟨τ, Γ, Y, _, rs, hr, t, fun v x H1 Γ1 s1 h1 r1 z1 => ?_, xr⟩
 refine ⟨τ, Γ1, Y, _, rs.mono s1.tq, h1, z1, fun l H2 Γ2 s2 h2 z2 => ?_, xr.mono s1⟩
 refine ⟨τ, Γ2, Y, _, rs.mono (s1.trans s2).tq, h2, z2, fun u H3 Γ3 s3 h3 z3 => ?_, xr.mono (s1.trans s2)⟩
 exact sim v x l u H3 Γ3 Q Z (r1.mono (s2.trans s3).tq) h3 z3 (vr.mono ((s1.trans s2).trans s3))
theorem cut_r {H : Hp} {vs : List V} {ts : List T} {lo hi : Option Int} (q : Rs H vs ts) : Rs H (cutV vs lo hi) (cutN ts lo hi) := by
 unfold cutV cutN
 rw [q.length]
 exact Rs.take _ (Rs.drop _ q)
theorem sq_tup : SlQ X (fun x lo hi Γ Z => ∃ ts, x = .tup ts ∧ Z (.tup (cutN ts lo hi)) Γ) :=
 ⟨_, sl_tupB, fun x a lo hi H Γ Q Z ra hr q0 vr => by
  obtain ⟨ts, ea, z⟩ := q0
  subst ea
  obtain ⟨p, vs, rfl, hp, q⟩ := i_tup ra
  exact ⟨p, vs, rfl, hp, fun c H' k hc => vr _ _ H' Γ (.keep (kp0 k)) (hr.keep (kp0 k)) (r_tup hc (cut_r (q.mono (tq_kp (kp0 k))))) z⟩⟩
theorem sq_str : SlQ X (fun x lo hi Γ Z => ∃ z : Str, x = .str z ∧ z.length ≤ sizeLine ∧ ∀ y : Str, y.cps.toList = cutN z.cps.toList lo hi → Z (.str y) Γ) :=
 ⟨_, sl_str, fun x a lo hi H Γ Q Z ra hr q0 vr => by
  obtain ⟨w, ea, l, z⟩ := q0
  subst ea
  exact ⟨w, i_str ra, l, fun y hy => vr _ _ H Γ .refl hr r_str (z y hy)⟩⟩
def eRev (r : T → Gp → K3 → Prop) (te ts : E3) : E3 := fun Y τ Γ Z => te Y τ Γ fun x Γ1 => ts Y τ Γ1 fun k Γ2 => k = .int (-1) ∧ r x Γ2 Z
def r3U (g : Int → T) : T → Gp → K3 → Prop := fun x Γ Z => ∃ i, x = .int i ∧ Z (g i) Γ
def eUn (r : T → Gp → K3 → Prop) (ta : E3) : E3 := fun Y τ Γ Z => ta Y τ Γ fun x Γ1 => r x Γ1 Z
theorem qe_neg (ha : PE X a (liE E ta)) : PE X (.UnaryOp .USub a pos) (liE E (eUn (r3U fun i => .int (-i)) ta)) :=
 weakE3 (pe_un un_neg ha) fun σ H Q τ Γ Y Z rs hr t vr xr =>
  ⟨τ, Γ, Y, _, rs, hr, t, fun v x H1 Γ1 s1 h1 r1 q0 => by obtain ⟨i, ex, z⟩ := q0; subst ex; exact ⟨i, i_int r1, vr _ _ H1 Γ1 s1 h1 r_int z⟩, xr⟩
abbrev F3 := List T → Gp → K3 → Prop
def CallQ (X : Cx) (f : Value) (r3 : F3) : Prop := ∃ r, CallR X f r ∧ ∀ vs ts H Γ Q Z, Rs H vs ts → HR H Γ → r3 ts Γ Z → VR H Γ Z Q → r vs H Q
def eCB (r : F3) (t : A3) : E3 := fun Y τ Γ Z => t Y τ Γ fun ts Γ1 => r ts Γ1 Z
theorem cb_sim {r : List V → Hp → VK → Prop} {r3 : F3} {t : A3} (h : ∀ vs ts H Γ Q Z, Rs H vs ts → HR H Γ → r3 ts Γ Z → VR H Γ Z Q → r vs H Q) (σ : St) (H : Hp) (Q : VK) (q : liE E (eCB r3 t) σ H Q) : tCB r (liA E t) σ H Q := by
 obtain ⟨τ, Γ, Y, Z, rs, hr, t, vr, xr⟩ := q
 exact ⟨τ, Γ, Y, _, rs, hr, t, fun vs xs H1 Γ1 s1 h1 r1 z1 => h vs xs H1 Γ1 Q Z r1 h1 z1 (vr.mono s1), xr⟩
section
variable {x : Str} {p pos : Pos} {e : Expr} {es : List Expr} {t : A3} {id Tn : String} {r3 : F3}
theorem qe_callB (hc : CallQ X (.builtin id) r3) (hg : Gl X x) (hm : X.mg x = none) (hv : bootBuiltins x = some (.builtin id)) (ha : PA X (e :: es) (liA E t)) (hn : x ≠ "__name__" := by decide) (hdb : (x == ("__debug__" : Str)) = false := by decide)
  (he : starEach (e :: es) X.env = (false, eval e X.env) :: starEach es X.env := by rfl) (hpl : (backTo pos (starEach es X.env)).any (·.1) = false := by rfl) : PE X (.Call (.Name x p) (e :: es) [] pos) (liE E (eCB r3 t)) := by
 obtain ⟨r, hr, h⟩ := hc
 exact weakE (pe_callB hr hg hm hv ha hn hdb he hpl) (cb_sim h)
theorem qe_callTy (hc : CallQ X (.type Tn) r3) (hg : Gl X x) (hm : X.mg x = none) (hv : bootBuiltins x = some (.type Tn)) (ha : PA X (e :: es) (liA E t)) (hn : x ≠ "__name__" := by decide) (hdb : (x == ("__debug__" : Str)) = false := by decide)
  (he : starEach (e :: es) X.env = (false, eval e X.env) :: starEach es X.env := by rfl) (hpl : (backTo pos (starEach es X.env)).any (·.1) = false := by rfl) : PE X (.Call (.Name x p) (e :: es) [] pos) (liE E (eCB r3 t)) := by
 obtain ⟨r, hr, h⟩ := hc
 exact weakE (pe_callTy hr hg hm hv ha hn hdb he hpl) (cb_sim h)
end
theorem rs1 {H : Hp} {vs : List V} {x : T} (h : Rs H vs [x]) : ∃ v, vs = [v] ∧ R H v x := by
 obtain ⟨v, ws, rfl, a, b⟩ := rs_inv h
 exact ⟨v, by rw [rs_inv0 b], a⟩
theorem rs2 {H : Hp} {vs : List V} {x y : T} (h : Rs H vs [x, y]) : ∃ v w, vs = [v, w] ∧ R H v x ∧ R H w y := by
 obtain ⟨v, ws, rfl, a, b⟩ := rs_inv h
 obtain ⟨w, rfl, c⟩ := rs1 b
 exact ⟨v, w, rfl, a, c⟩
theorem cq_len : CallQ X (.builtin "len") (fun xs Γ Z => ∃ x ts, xs = [x] ∧ it3 Γ x = some ts ∧ Z (.int ts.length) Γ) :=
 ⟨_, call_len_seq, fun vs xs H Γ Q Z r hr q0 vr => by
  obtain ⟨x, ts, e, h, z⟩ := q0
  subst e
  obtain ⟨v, rfl, rv⟩ := rs1 r
  obtain ⟨p, us, rfl, sq, q⟩ := it3_r (K := X.K) rv hr h
  exact ⟨p, us, rfl, sq, by rw [q.length]; exact vr _ _ H Γ .refl hr r_int z⟩⟩
theorem cq_lens : CallQ X (.builtin "len") (fun xs Γ Z => ∃ z : Str, xs = [.str z] ∧ z.length ≤ sizeLine ∧ Z (.int z.length) Γ) :=
 ⟨_, call_len_str, fun vs xs H Γ Q Z r hr q0 vr => by
  obtain ⟨w, e, l, z⟩ := q0
  subst e
  obtain ⟨v, rfl, rv⟩ := rs1 r
  exact ⟨w, by rw [i_str rv], l, vr _ _ H Γ .refl hr r_int z⟩⟩
theorem cq_tuple : CallQ X (.type "tuple") (fun xs Γ Z => ∃ x ts, xs = [x] ∧ it3 Γ x = some ts ∧ Z (.tup ts) Γ) :=
 ⟨_, call_tuple_of, fun vs xs H Γ Q Z r hr q0 vr => by
  obtain ⟨x, ts, e, h, z⟩ := q0
  subst e
  obtain ⟨v, rfl, rv⟩ := rs1 r
  cases x with
  | tup us =>
   cases h
   obtain ⟨a, ws, rfl, ha, q⟩ := i_tup rv
   exact ⟨a, ws, rfl, .inr ⟨SqT.of ha, vr _ _ H Γ .refl hr (r_tup ha q) z⟩⟩
  | ref a =>
   obtain ⟨us, sq, q⟩ := it3_a (K := X.K) hr h
   refine ⟨a, us, by rw [i_ref rv], .inl ⟨sq, fun l hl => ?_⟩⟩
   have k := keep_new (o := .tup us) hl
   exact vr _ _ _ Γ (.keep k) (hr.keep k) (r_tup upd_same (q.mono (tq_kp k))) z
  | _ => cases h⟩
theorem cq_list : CallQ X (.type "list") (fun xs Γ Z => ∃ x ts, xs = [x] ∧ it3 Γ x = some ts ∧ ∀ p, Γ p = none → Z (.ref p) (up Γ p (.lst ts))) :=
 ⟨_, call_list_of, fun vs xs H Γ Q Z r hr q0 vr => by
  obtain ⟨x, ts, e, h, z⟩ := q0
  subst e
  obtain ⟨v, rfl, rv⟩ := rs1 r
  obtain ⟨p, us, rfl, sq, q⟩ := it3_r (K := X.K) rv hr h
  refine ⟨p, us, rfl, sq, fun l hl => ?_⟩
  have k := keep_new (o := .lst us) hl
  exact vr _ _ _ _ (.make hl) (hr.make (o3 := .lst ts) hl ⟨_, upd_same, q.mono (tq_kp k)⟩) r_ref (z l (hr.free hl))⟩
theorem cq_max2 (hc : X.calm = true) : CallQ X (.builtin "max") (fun xs Γ Z => ∃ i j, xs = [.int i, .int j] ∧ Z (.int (if j > i then j else i)) Γ) :=
 ⟨_, call_max2 hc, fun vs xs H Γ Q Z r hr q0 vr => by
  obtain ⟨i, j, e, z⟩ := q0
  subst e
  obtain ⟨v, w, rfl, a, b⟩ := rs2 r
  exact ⟨i, j, by rw [i_int a, i_int b], vr _ _ H Γ .refl hr r_int z⟩⟩
theorem cq_min2 (hc : X.calm = true) : CallQ X (.builtin "min") (fun xs Γ Z => ∃ i j, xs = [.int i, .int j] ∧ Z (.int (if j < i then j else i)) Γ) :=
 ⟨_, call_min2 hc, fun vs xs H Γ Q Z r hr q0 vr => by
  obtain ⟨i, j, e, z⟩ := q0
  subst e
  obtain ⟨v, w, rfl, a, b⟩ := rs2 r
  exact ⟨i, j, by rw [i_int a, i_int b], vr _ _ H Γ .refl hr r_int z⟩⟩
theorem rs_ints {H : Hp} : ∀ {ns : List Int} {vs : List V}, Rs H vs (ns.map T.int) → vs = ns.map V.int
 | [], vs, h => rs_inv0 h
 | n :: r, vs, h => by
  obtain ⟨v, ws, rfl, a, b⟩ := rs_inv h
  rw [i_int a, rs_ints b]; rfl
theorem rs_bls {H : Hp} : ∀ {ns : List Bool} {vs : List V}, Rs H vs (ns.map T.bl) → vs = ns.map V.bl
 | [], vs, h => rs_inv0 h
 | n :: r, vs, h => by
  obtain ⟨v, ws, rfl, a, b⟩ := rs_inv h
  rw [i_bl a, rs_bls b]; rfl
theorem rs_strs {H : Hp} : ∀ {ns : List Str} {vs : List V}, Rs H vs (ns.map T.str) → vs = ns.map V.str
 | [], vs, h => rs_inv0 h
 | n :: r, vs, h => by
  obtain ⟨v, ws, rfl, a, b⟩ := rs_inv h
  rw [i_str a, rs_strs b]; rfl
theorem cq_all (hc : X.calm = true) : CallQ X (.builtin "all") (fun xs Γ Z => ∃ (p : Addr) (bs : List Bool), xs = [.ref p] ∧ it3 Γ (.ref p) = some (bs.map T.bl) ∧ Z (.bl (bs.all id)) Γ) :=
 ⟨_, call_allL hc, fun vs xs H Γ Q Z r hr q0 vr => by
  obtain ⟨p, ns, e, g, z⟩ := q0
  subst e
  obtain ⟨v, rfl, a⟩ := rs1 r
  obtain ⟨us, sq, q⟩ := it3_a (K := X.K) hr g
  rw [rs_bls q] at sq
  exact ⟨p, ns, by rw [i_ref a], sq, vr _ _ H Γ .refl hr r_bl z⟩⟩
def tyOf (Γ : Gp) : T → Option String
 | .non => some "NoneType" | .bl _ => some "bool" | .int _ => some "int" | .str _ => some "str" | .tup _ => some "tuple"
 | .ref a => match Γ a with | some (.lst _) => some "list" | some (.dK _) => some "dict" | _ => none
 | .ty _ => none
 | .scr _ _ _ => none
theorem tyOf_r {K : PySem.W.Frag} {H : Hp} {Γ : Gp} {v : V} {x : T} {n : String} (r : R H v x) (hr : HR H Γ) (h : tyOf Γ x = some n) : TyOf K H v (.type n) := by
 cases x with
 | non => cases h; rw [i_non r]; exact .non
 | bl b => cases h; rw [i_bl r]; exact .bl b
 | int i => cases h; rw [i_int r]; exact .int i
 | str z => cases h; rw [i_str r]; exact .str z
 | tup ts => cases h; obtain ⟨a, vs, e, ha, _⟩ := i_tup r; rw [e]; exact .tup ha
 | ty n => cases h
 | scr K a ts => cases h
 | ref a =>
  rw [i_ref r]
  have h : (match Γ a with | some (.lst _) => some "list" | some (.dK _) => some "dict" | _ => none) = some n := h
  split at h
  ·rename_i g; cases h; obtain ⟨vs, hv, _⟩ := hr a _ g; exact .lst hv
  ·rename_i g; cases h; obtain ⟨vs, hv, _⟩ := hr a _ g; exact .dK hv
  ·cases h
def eInst (K : PySem.W.Frag) (Ty : String) (te : E3) : E3 := fun Y τ Γ Z => te Y τ Γ fun x Γ1 => ∃ n b, tyOf Γ1 x = some n ∧ PySem.W.kitOne K (.type n) (.type Ty) = some b ∧ Z (.bl b) Γ1
theorem qe_inst {x : Expr} {te : E3} {p p2 pos : Pos} {Tn : Str} {Ty : String} (hg : Gl X "isinstance") (hm : X.mg "isinstance" = none) (hgT : Gl X Tn) (hmT : X.mg Tn = none) (hvT : bootBuiltins Tn = some (.type Ty)) (he : PE X x (liE E te)) (hn : Tn ≠ "__name__" := by decide) (hdT : (Tn == ("__debug__" : Str)) = false := by decide)
  (hs : starEach [x, .Name Tn p2] X.env = (false, eval x X.env) :: starEach [.Name Tn p2] X.env := by rfl) (hs2 : starEach [.Name Tn p2] X.env = [(false, eval (.Name Tn p2) X.env)] := by rfl)
  (hpl : (backTo pos (starEach [.Name Tn p2] X.env)).any (·.1) = false := by rfl) : PE X (.Call (.Name "isinstance" p) [x, .Name Tn p2] [] pos) (liE E (eInst X.K Ty te)) :=
 weakE3 (pe_inst hg hm hgT hmT hvT he hn hdT hs hs2 hpl) fun σ H Q τ Γ Y Z rs hr t vr xr =>
  ⟨τ, Γ, Y, _, rs, hr, t, fun v x H1 Γ1 s1 h1 r1 ⟨n, b, ty, k, z⟩ => ⟨v, rfl, .type n, b, tyOf_r r1 h1 ty, k, vr _ _ H1 Γ1 s1 h1 r_bl z⟩, xr⟩
def tru3 (Γ : Gp) : T → Option Bool
 | .non => some false | .bl b => some b | .int i => some (i != 0) | .tup ts => some (!ts.isEmpty)
 | .str z => if z.length ≤ sizeLine then some ((z.length : Int) != 0) else none
 | .ref a => match Γ a with | some (.lst ts) => some (!ts.isEmpty) | some (.dK kvs) => some (!kvs.isEmpty) | _ => none
 | .ty _ => none
 | .scr _ _ _ => none
def eTru (t : E3) : T3 := fun Y τ Γ Z => t Y τ Γ fun x Γ1 => ∃ k, tru3 Γ1 x = some k ∧ Z k Γ1
theorem cq_lenC : CallQ X (.builtin "len") (fun xs Γ Z => ∃ a ts, xs = [.scr X.K a ts] ∧ Z (.int ts.length) Γ) :=
 ⟨_, call_len_seq, fun vs xs H Γ Q Z r hr q0 vr => by
  obtain ⟨a, ts, e, z⟩ := q0
  subst e
  obtain ⟨v, rfl, rv⟩ := rs1 r
  obtain ⟨rfl, us, sq, q⟩ := i_scr rv
  exact ⟨a, us, rfl, .inl sq.sq, by rw [q.length]; exact vr _ _ H Γ .refl hr r_int z⟩⟩
theorem qe_ixC (ha : PE X a (liE E ta)) (hb : PE X b (liE E tb)) (hs : PlainIx b) : PE X (.Subscript a b pos) (liE E (eOp (fun x y Γ Z => ∃ p ts i t, x = .scr X.K p ts ∧ y = .int i ∧ atI ts i = some t ∧ Z t Γ) ta tb)) :=
 weakE (pe_ix ix_list ha hb hs) (op_sim fun x y a b H Γ Q Z ra rb hr q0 vr => by
  obtain ⟨p, ts, i, t, ea, eb, h, z⟩ := q0
  subst ea eb
  obtain ⟨rfl, vs, sq, q⟩ := i_scr ra
  obtain ⟨v, hv, r⟩ := at_r q h
  exact ⟨p, vs, i, v, rfl, i_int rb, sq.sq, hv, vr _ _ H Γ .refl hr r z⟩)
end
end L3
set_option Elab.async false
set_option linter.all false
set_option maxRecDepth 100000
namespace L3
open PySem PySem.Spec L2
open PyProof.Rows hiding St
section
variable {X : Cx} {E : St → XK} {tg l : Expr} {tl : E3} {pos p : Pos}
abbrev gT : Gp → Prop := fun _ => True
def iTp (tl : E3) : I3 := fun Y τ Γ Z => tl Y τ Γ fun x Γ1 => ∃ ts, x = .tup ts ∧ Z ts gT Γ1
def iLs (tl : E3) : I3 := fun Y τ Γ Z => tl Y τ Γ fun x Γ1 => ∃ a ts, x = .ref a ∧ it3 Γ1 (.ref a) = some ts ∧ Z ts (fun Γ' => it3 Γ' (.ref a) = some ts) Γ1
theorem walk_list {K : PySem.W.Frag} {H : Hp} {a : Addr} {ts : List T} : Walks (Itl K a) ts (fun Γ' => it3 Γ' (.ref a) = some ts) H where
 go := fun i H' Γ t hr g hi => by
  obtain ⟨vs, sq, q⟩ := it3_a (K := K) hr g
  exact ⟨vs, vs[i]'(by rw [q.length]; exact hi), sq, by simp⟩
 yld := fun i H' Γ x H2 t hr g hi q0 => by
  obtain ⟨e, y⟩ := q0
  subst e
  obtain ⟨vs, sq, q⟩ := it3_a (K := K) hr g
  obtain ⟨t', e', r⟩ := q.getV (y vs sq)
  exact ⟨.refl, hr, t', e', r⟩
 stop := fun H' Γ t hr g => by
  obtain ⟨vs, sq, q⟩ := it3_a (K := K) hr g
  exact ⟨vs, sq, by rw [q.length]; exact Nat.le_refl _⟩
theorem qi_list (hl : PE X l (liE E tl)) : PI X tg l (liI E (iLs tl)) :=
 weakI3 (pi_list hl) fun σ H Q τ Γ Y Z rs hr t vr xr => ⟨τ, Γ, Y, _, rs, hr, t, fun v x H1 Γ1 s1 h1 r1 ⟨a, ts, ex, g, z⟩ => by
  subst ex
  obtain ⟨vs, sq, q⟩ := it3_a (K := X.K) h1 g
  exact ⟨a, i_ref r1, ⟨vs, sq⟩, vr _ ts _ H1 Γ1 s1 h1 walk_list z⟩, xr⟩
def rngT (lo : Int) : Nat → List T
 | 0 => []
 | n + 1 => .int lo :: rngT (lo + 1) n
theorem rngT_len : ∀ (n : Nat) (lo : Int), (rngT lo n).length = n
 | 0, _ => rfl
 | n + 1, lo => by rw [rngT, List.length_cons, rngT_len n]
theorem rngT_get : ∀ (n : Nat) (lo : Int) (i : Nat), i < n → (rngT lo n)[i]? = some (.int (lo + i))
 | 0, _, i, h => absurd h (Nat.not_lt_zero _)
 | n + 1, lo, 0, _ => by rw [rngT]; simp
 | n + 1, lo, i + 1, h => by
  rw [rngT, List.getElem?_cons_succ, rngT_get n (lo + 1) i (by omega)]
  congr 2
  omega
theorem walk_range {H : Hp} (lo : Int) (n : Nat) : Walks (Itr lo n) (rngT lo n) gT H where
 go := fun i H' Γ t hr _ hi => by rw [rngT_len] at hi; exact hi
 yld := fun i H' Γ x H2 t hr _ hi q0 => by
  obtain ⟨e, y⟩ := q0
  subst e y
  rw [rngT_len] at hi
  exact ⟨.refl, hr, _, rngT_get n lo i hi, r_int⟩
 stop := fun H' Γ t hr _ => by rw [rngT_len]; exact Nat.le_refl _
def iRg1 (ta : A3) : I3 := fun Y τ Γ Z => ta Y τ Γ fun xs Γ1 => ∃ j : Int, xs = [.int j] ∧ -(2 ^ 62) ≤ j ∧ j < 2 ^ 62 ∧ Z (rngT 0 j.toNat) gT Γ1
theorem qi_range1 {a : Expr} {ta : A3} (hg : Gl X "range") (hm : X.mg "range" = none) (ha : PA X [a] (liA E ta)) (hs : starEach [a] X.env = [(false, eval a X.env)] := by rfl) : PI X tg (.Call (.Name "range" p) [a] [] pos) (liI E (iRg1 ta)) :=
 weakI3 (pi_range1 hg hm ha hs) fun σ H Q τ Γ Y Z rs hr t vr xr => ⟨τ, Γ, Y, _, rs, hr, t, fun vs xs H1 Γ1 s1 h1 r1 ⟨j, ex, b1, b2, z⟩ => by
  subst ex
  obtain ⟨v, rfl, a⟩ := rs1 r1
  exact ⟨j, by rw [i_int a], b1, b2, vr _ _ gT H1 Γ1 s1 h1 (walk_range 0 _) z⟩, xr⟩
def zipT : List T → List T → List T
 | x :: r, y :: q => .tup [x, y] :: zipT r q
 | _, _ => []
theorem zipT_len : ∀ {xs ys : List T}, (zipT xs ys).length = min xs.length ys.length
 | [], _ => by simp [zipT]
 | _ :: _, [] => by simp [zipT]
 | x :: r, y :: q => by rw [zipT, List.length_cons, zipT_len, List.length_cons, List.length_cons]; omega
theorem zipT_get : ∀ {xs ys : List T} {i : Nat} {x y : T}, xs[i]? = some x → ys[i]? = some y → (zipT xs ys)[i]? = some (.tup [x, y])
 | [], _, _, _, _, h, _ => by simp at h
 | _ :: _, [], _, _, _, _, h => by simp at h
 | a :: r, b :: q, 0, x, y, h, h' => by cases h; cases h'; rfl
 | a :: r, b :: q, i + 1, x, y, h, h' => by rw [zipT, List.getElem?_cons_succ]; exact zipT_get (by simpa using h) (by simpa using h')
def iZp (ta : A3) : I3 := fun Y τ Γ Z => ta Y τ Γ fun xs Γ1 => ∃ ts us, xs = [.tup ts, .tup us] ∧ Z (zipT ts us) gT Γ1
def enumT (n : Nat) : List T → List T
 | [] => []
 | x :: r => .tup [.int n, x] :: enumT (n + 1) r
def iEn (ta : A3) : I3 := fun Y τ Γ Z => ta Y τ Γ fun xs Γ1 => ∃ ts, xs = [.tup ts] ∧ Z (enumT 0 ts) gT Γ1
def signsT (z : Str) : List T := z.cps.toList.map fun c => .str ⟨#[c]⟩
def iSt (tl : E3) : I3 := fun Y τ Γ Z => tl Y τ Γ fun x Γ1 => ∃ z, x = .str z ∧ Z (signsT z) gT Γ1
abbrev M3r := T → List T → Gp → K3 → Prop
def MQ (X : Cx) (id : String) (r3 : M3r) : Prop := ∃ r, MtR X id r ∧ ∀ v x vs ts H Γ Q Z, R H v x → Rs H vs ts → HR H Γ → r3 x ts Γ Z → VR H Γ Z Q → r v vs H Q
def eBM (Tn : String) (r3 : M3r) (to : E3) (t : A3) : E3 := fun Y τ Γ Z => to Y τ Γ fun x Γ1 => tyOf Γ1 x = some Tn ∧ t Y τ Γ1 fun xs Γ2 => r3 x xs Γ2 Z
def eBM0 (Tn : String) (r3 : M3r) (to : E3) : E3 := fun Y τ Γ Z => to Y τ Γ fun x Γ1 => tyOf Γ1 x = some Tn ∧ r3 x [] Γ1 Z
theorem tyV_of {K : PySem.W.Frag} {H : Hp} {Γ : Gp} {v : V} {x : T} {n : String} (r : R H v x) (hr : HR H Γ) (h : tyOf Γ x = some n) (hn : n = "list" ∨ n = "str" ∨ n = "dict") : tyV K n v H := by
 have ty := tyOf_r (K := K) r hr h
 cases x with
 | non => cases h; rcases hn with h | h | h <;> exact absurd h (by decide)
 | bl b => cases h; rcases hn with h | h | h <;> exact absurd h (by decide)
 | int i => cases h; rcases hn with h | h | h <;> exact absurd h (by decide)
 | str z => cases h; rw [i_str r]; rfl
 | tup ts => cases h; rcases hn with h | h | h <;> exact absurd h (by decide)
 | ty n => cases h
 | scr K a ts => cases h
 | ref a =>
  rw [i_ref r]
  have h : (match Γ a with | some (.lst _) => some "list" | some (.dK _) => some "dict" | _ => none) = some n := h
  split at h
  ·rename_i g; cases h; obtain ⟨vs, hv, _⟩ := hr a _ g; exact .inl ⟨rfl, vs, SqL.of hv⟩
  ·rename_i g; cases h; obtain ⟨vs, hv, _⟩ := hr a _ g; exact .inr (.inr (.inl ⟨rfl, .inl ⟨vs, hv⟩⟩))
  ·cases h
section
variable {o e : Expr} {es : List Expr} {to : E3} {t : A3} {name : Str} {apos cpos : Pos} {Tn id : String} {r3 : M3r}
theorem qe_bm0 (pa : PlainAttrs Tn) (slot : Slot Tn name id) (hty : typeOf (.builtin id) = pure (.type "method_descriptor")) (hm : MQ X id r3) (ho : PE X o (liE E to)) (hn : Tn = "list" ∨ Tn = "str" ∨ Tn = "dict" := by decide)
  (hbase : attributeBase o name X.env (eval o X.env) = eval o X.env := by rfl) (hline : (apos.endLine == cpos.line) = true := by rfl) : PE X (.Call (.Attribute o name apos) [] [] cpos) (liE E (eBM0 Tn r3 to)) := by
 obtain ⟨r, hm, sim⟩ := hm
 exact weakE3 (pe_bm0 pa slot hty hm ho hbase hline) fun σ H Q τ Γ Y Z rs hr t vr xr => ⟨τ, Γ, Y, _, rs, hr, t, fun v x H1 Γ1 s1 h1 r1 ⟨ty, z⟩ =>
  ⟨tyV_of r1 h1 ty hn, sim v x [] [] H1 Γ1 Q Z r1 rs_nil h1 z (vr.mono s1)⟩, xr⟩
theorem qe_bm (pa : PlainAttrs Tn) (slot : Slot Tn name id) (hty : typeOf (.builtin id) = pure (.type "method_descriptor")) (hm : MQ X id r3) (ho : PE X o (liE E to)) (ha : PA X (e :: es) (liA E t)) (hn : Tn = "list" ∨ Tn = "str" ∨ Tn = "dict" := by decide)
  (hbase : attributeBase o name X.env (eval o X.env) = eval o X.env := by rfl)
  (hfew : ((backTo cpos (starEach (e :: es) X.env)).all (fun x => !x.1) && (backToKw cpos (keywordEach [] X.env)).all (fun x => x.1.isSome)
   && decide ((e :: es).length + ([] : List Keyword).length + (if ([] : List Keyword).isEmpty then 0 else 1) < 30)) = true := by rfl)
  (hline : (apos.endLine == cpos.line) = true := by rfl) (hs : starEach (e :: es) X.env = (false, eval e X.env) :: starEach es X.env := by rfl) (hplain : (backTo cpos (starEach es X.env)).any (·.1) = false := by rfl) :
  PE X (.Call (.Attribute o name apos) (e :: es) [] cpos) (liE E (eBM Tn r3 to t)) := by
 obtain ⟨r, hm, sim⟩ := hm
 exact weakE3 (pe_bm pa slot hty hm ho ha hbase hfew hline hs hplain) fun σ H Q τ Γ Y Z rs hr t vr xr => ⟨τ, Γ, Y, _, rs, hr, t, fun v x H1 Γ1 s1 h1 r1 ⟨ty, z⟩ =>
  ⟨tyV_of r1 h1 ty hn, τ, Γ1, Y, _, rs.mono s1.tq, h1, z, fun vs xs H2 Γ2 s2 h2 r2 z2 => sim v x vs xs H2 Γ2 Q Z (r1.mono s2.tq) r2 h2 z2 (vr.mono (s1.trans s2)), xr.mono s1⟩, xr⟩
end
theorem mq_append : MQ X "list.append" (fun x ts Γ Z => ∃ a us y, x = .ref a ∧ ts = [y] ∧ Γ a = some (.lst us) ∧ us.length < sizeLine ∧ Z .non (up Γ a (.lst (us ++ [y])))) :=
 ⟨_, mt_append, fun v x vs ts H Γ Q Z r rs hr q0 vr => by
  obtain ⟨a, us, y, ex, et, g, l, z⟩ := q0
  subst ex et
  obtain ⟨w, rfl, rw'⟩ := rs1 rs
  obtain ⟨ws, hw, q⟩ := hr a _ g
  refine ⟨a, ws, w, i_ref r, rfl, hw, by rw [q.length]; exact l, ?_⟩
  have s : Stp H Γ (upd H a (.lst (ws ++ [w]))) (up Γ a (.lst (us ++ [y]))) := .set hr g
  exact vr _ _ _ _ s (hr.set g ⟨_, upd_same, Rs.app (q.mono s.tq) (rs_cons (rw'.mono s.tq) rs_nil)⟩) r_non z⟩
theorem mq_upper : MQ X "str.upper" (fun x ts Γ Z => ∃ z : Str, x = .str z ∧ ts = [] ∧ z.length ≤ 1000 ∧ ∀ y : Str, y.length ≤ 3 * z.length → Z (.str y) Γ) :=
 ⟨_, mt_upper, fun v x vs ts H Γ Q Z r rs hr q0 vr => by
  obtain ⟨w, ex, et, l, z⟩ := q0
  subst ex et
  exact ⟨w, i_str r, rs_inv0 rs, l, fun y hy => vr _ _ H Γ .refl hr r_str (z y hy)⟩⟩
def eLZ (ta : A3) : E3 := fun Y τ Γ Z => ta Y τ Γ fun xs Γ1 => ∃ ts us, xs = [.tup ts, .tup us] ∧ ts.length = us.length ∧ ∀ p, Γ1 p = none → Z (.ref p) (up Γ1 p (.lst (zipT ts us)))
theorem rev_sim {r : V → Hp → VK → Prop} {r3 : T → Gp → K3 → Prop} {te ts : E3} (h : ∀ v x H Γ Q Z, R H v x → HR H Γ → r3 x Γ Z → VR H Γ Z Q → r v H Q) (σ : St) (H : Hp) (Q : VK) (q : liE E (eRev r3 te ts) σ H Q) :
  liE E te σ H fun x H1 => liE E ts σ H1 fun y H2 => y = .int (-1) ∧ r x H2 Q := by
 obtain ⟨τ, Γ, Y, Z, rs, hr, t, vr, xr⟩ := q
 refine ⟨τ, Γ, Y, _, rs, hr, t, fun v x H1 Γ1 s1 h1 r1 z1 => ?_, xr⟩
 refine ⟨τ, Γ1, Y, _, rs.mono s1.tq, h1, z1, fun u y H2 Γ2 s2 h2 r2 z2 => ?_, xr.mono s1⟩
 obtain ⟨e, z2⟩ := z2
 subst e
 exact ⟨i_int r2, h v x H2 Γ2 Q Z (r1.mono s2.tq) h2 z2 (vr.mono (s1.trans s2))⟩
section
variable {e st : Expr} {te ts : E3} {p2 : Pos}
theorem qe_revT (he : PE X e (liE E te)) (hs : PE X st (liE E ts)) : PE X (.Subscript e (.Slice none none (some st) p2) pos) (liE E (eRev (fun x Γ Z => ∃ ts, x = .tup ts ∧ Z (.tup ts.reverse) Γ) te ts)) :=
 weakE (pe_rev rv_tup he hs) (rev_sim fun v x H Γ Q Z r hr q0 vr => by
  obtain ⟨ts, ex, z⟩ := q0
  subst ex
  obtain ⟨p, us, rfl, hp, q⟩ := i_tup r
  refine ⟨p, us, rfl, SqT.of hp, fun c hc => ?_⟩
  have k := keep_new (o := .tup us.reverse) hc
  exact vr _ _ _ Γ (.keep k) (hr.keep k) (r_tup upd_same (Rs.reverse (q.mono (tq_kp k)))) z)
end
end
end L3
set_option Elab.async false
set_option linter.all false
set_option maxRecDepth 100000
namespace L3
open PySem PySem.Spec L2
open PyProof.Rows hiding St
def Le (Γ Γ' : Gp) : Prop := ∀ a o, Γ a = some o → Γ' a = some o
theorem Le.refl {Γ : Gp} : Le Γ Γ := fun _ _ h => h
theorem Le.trans {Γ Γ1 Γ' : Gp} (a : Le Γ Γ1) (b : Le Γ1 Γ') : Le Γ Γ' := fun x o h => b x o (a x o h)
theorem Le.new {Γ : Gp} {p : Addr} {o : O} (h : Γ p = none) : Le Γ (up Γ p o) := fun b u q => by rw [up_ne (gnn q h)]; exact q
theorem HR.le {H : Hp} {Γ Γ' : Gp} (h : HR H Γ') (l : Le Γ Γ') : HR H Γ := fun a o e => h a o (l a o e)
def Kq (l : List Addr) (Γ Γ' : Gp) : Prop := ∀ b o, b ∉ l → Γ b = some o → Γ' b = some o
theorem Kq.refl {l : List Addr} {Γ : Gp} : Kq l Γ Γ := fun _ _ _ h => h
theorem Kq.trans {l : List Addr} {Γ Γ1 Γ' : Gp} (a : Kq l Γ Γ1) (b : Kq l Γ1 Γ') : Kq l Γ Γ' := fun c o n h => b c o n (a c o n h)
theorem Kq.mono {l l' : List Addr} {Γ Γ1 : Gp} (a : Kq l Γ Γ1) (s : ∀ b ∈ l, b ∈ l') : Kq l' Γ Γ1 := fun c o n h => a c o (fun z => n (s c z)) h
theorem Kq.new {l : List Addr} {Γ : Gp} {p : Addr} (h : Γ p = none) (o : O) : Kq l Γ (up Γ p o) := fun b u _ q => by rw [up_ne (gnn q h)]; exact q
theorem Kq.set {l : List Addr} {Γ : Gp} {p : Addr} (h : p ∈ l) (o : O) : Kq l Γ (up Γ p o) := fun b u n q => by
 have e : b ≠ p := fun z => n (by rw [z]; exact h)
 rw [up_ne e]; exact q
theorem Kq.le {Γ Γ' : Gp} (k : Kq [] Γ Γ') : Le Γ Γ' := fun a o h => k a o (by simp) h
theorem Le.kq {l : List Addr} {Γ Γ' : Gp} (k : Le Γ Γ') : Kq l Γ Γ' := fun a o _ h => k a o h
def Fr (l : List Addr) (Γ Γ' : Gp) : Prop := ∀ b, b ∉ l → Γ' b = Γ b
theorem Fr.refl {l : List Addr} {Γ : Gp} : Fr l Γ Γ := fun _ _ => rfl
theorem Fr.kq {l : List Addr} {Γ Γ' : Gp} (h : Fr l Γ Γ') : Kq l Γ Γ' := fun b o n q => by rw [h b n]; exact q
theorem Fr.trans {l : List Addr} {Γ Γ1 Γ' : Gp} (a : Fr l Γ Γ1) (b : Fr l Γ1 Γ') : Fr l Γ Γ' := fun x n => (b x n).trans (a x n)
theorem Fr.mono {l l' : List Addr} {Γ Γ1 : Gp} (a : Fr l Γ Γ1) (s : ∀ b ∈ l, b ∈ l') : Fr l' Γ Γ1 := fun c n => a c fun z => n (s c z)
theorem Fr.set {l : List Addr} {Γ : Gp} {p : Addr} (h : p ∈ l) (o : O) : Fr l Γ (up Γ p o) := fun b n => up_ne fun z => n (by rw [z]; exact h)
def dropK (Z : K3) : K3 := fun x Γ' => ∃ Γ2, Le Γ2 Γ' ∧ Z x Γ2
theorem drop0 {Z : K3} {x : T} {Γ Γ' : Gp} (k : Le Γ Γ') (z : Z x Γ) : dropK Z x Γ' := ⟨Γ, k, z⟩
theorem Stp.cut {H H' : Hp} {Γ Γ' Γ2 : Gp} (s : Stp H Γ H' Γ') (l : Le Γ2 Γ') : Stp H Γ H' Γ2 := ⟨s.tq, s.dom, fun a h g => by
 cases e : Γ2 a with
 | none => rfl
 | some o => exact (by have := l a o e; rw [s.new a h g] at this; cases this), s.frm⟩
section
variable {P : Program} {w : World} {K : PySem.W.Frag} {mg : Str → Option Value} {base : Heap}
theorem okd {x qual : Str} {st : Stmt} {f : Addr} {fd : FuncData} {N ps : List Str} {k : Nat} {sp : Sp3} (F : Fun K x qual st f fd) (S : FnScope N ps (defScope st)) (len : ∀ ts Γ Z Y, sp ts Γ Z Y → ts.length = ps.length)
  (hbody : ∀ (cdv : Value) (A : Around) (outer : List Env) (s : Shared) (H : Hp) (E : XK) (ts : List T) (Γ : Gp) (Z : K3) (Y : Value → Gp → Prop), Room k (A.deeper (envOfC qual (defScope st) s.heap.objs.size f cdv)) → sp ts Γ Z Y →
   ∃ t, PSs (cxOf CX0 P w K mg base N qual (defScope st) f cdv A outer s H E).nox (defBody st) (liS EN t) ∧ t Y0 { nx := fun _ Γ' => dropK Z .non Γ', rt := dropK Z } (start3 N ts) Γ) : FnOk P w K mg base CX0 (k + 1) f fd ps (liSp sp) := by
 refine F.ok S (fun vs H Q E q0 => by obtain ⟨ts, Γ, Z, Y, r, _, h, _⟩ := q0; rw [r.length]; exact len _ _ _ _ h) fun cdv A outer s H vs Q E hr ⟨ts, Γ, Z, Y, r, h, hsp, vr, xr⟩ => ?_
 obtain ⟨t, ht, hq⟩ := hbody cdv A outer s H E ts Γ Z Y hr hsp
 exact ⟨_, ht, start3 N ts, Γ, Y0, _, rs_start N r (by rw [len _ _ _ _ hsp]; exact sc_len S), h, hq, ⟨fun σ τ H' Γ' s' h' _ ⟨Γ2, l, z⟩ => vr .non .non H' Γ2 (s'.cut l) (h'.le l) r_non z, fun v x H' Γ' s' h' rv ⟨Γ2, l, z⟩ => vr v x H' Γ2 (s'.cut l) (h'.le l) rv z, fun _ _ _ _ _ _ _ z => z.elim, fun _ _ _ _ _ _ _ z => z.elim⟩, xr0⟩
theorem noC {f : Addr} {fd : FuncData} {ps : List Str} {sp : Sp3} {k : Nat} {CX : CXT} (no : ∀ ts Γ Z Y, ¬ sp ts Γ Z Y) : FnOk P w K mg base CX k f fd ps (liSp sp) :=
 ⟨fun vs H Q E ⟨ts, Γ, Z, Y, _, _, h, _⟩ => absurd h (no _ _ _ _), fun A outer s H args us vs Q E _ _ _ _ ⟨ts, Γ, Z, Y, _, _, h, _⟩ => absurd h (no _ _ _ _)⟩
end
theorem at0 {α : Type} {t : α} {ts : List α} : atI (t :: ts) 0 = some t := by show atI (t :: ts) ((0 : Nat) : Int) = some t; exact atI_nat rfl
theorem at1 {α : Type} {t u : α} {ts : List α} : atI (t :: u :: ts) 1 = some u := by show atI (t :: u :: ts) ((1 : Nat) : Int) = some u; exact atI_nat rfl
section
variable {Y : X3} {τ : S3} {Γ : Gp} {Z : K3} {D : D3} {B : Bool → Gp → Prop} {N : S3 → Gp → Prop}
theorem t_var {i : Nat} {x : T} (h : τ[i]? = some (some x)) (z : Z x Γ) : eVar i Y τ Γ Z := ⟨x, h, z⟩
theorem t_c {x : T} (z : Z x Γ) : eC x Y τ Γ Z := z
theorem t_op {r : R3} {a b : E3} (h : a Y τ Γ fun x Γ1 => b Y τ Γ1 fun y Γ2 => r x y Γ2 Z) : eOp r a b Y τ Γ Z := h
theorem t_T {t : E3} (h : t Y τ Γ fun x Γ1 => ∃ k, x = .bl k ∧ B k Γ1) : eT t Y τ Γ B := h
theorem t_bl {b : Bool} {Q : Bool → Prop} (h : Q b) : ∃ k, T.bl b = .bl k ∧ Q k := ⟨b, rfl, h⟩
theorem t_seq {t u : C3} (h : t Y { D with nx := u Y D } τ Γ) : cSeq t u Y D τ Γ := h
theorem t_if {c : T3} {t u : C3} (h : c Y τ Γ fun b Γ1 => if b = true then t Y D τ Γ1 else u Y D τ Γ1) : cIf c t u Y D τ Γ := h
theorem t_set {i : Nat} {te : E3} (h : te Y τ Γ fun x Γ1 => D.nx (τ.set i (some x)) Γ1) : cSet i te Y D τ Γ := h
theorem t_ret {te : E3} (h : te Y τ Γ D.rt) : cRet te Y D τ Γ := h
theorem t_retN (h : D.rt .non Γ) : cRetN Y D τ Γ := h
theorem t_drop {te : E3} (h : te Y τ Γ fun _ Γ1 => D.nx τ Γ1) : cDrop te Y D τ Γ := h
theorem t_next (h : D.nx τ Γ) : cNext Y D τ Γ := h
theorem t_cnt (h : D.ct τ Γ) : cCont Y D τ Γ := h
theorem t_and {a b : E3} (h : a Y τ Γ fun x Γ1 => ∃ c, x = .bl c ∧ if c = true then b Y τ Γ1 Z else Z (.bl false) Γ1) : eAnd a b Y τ Γ Z := h
theorem t_or {a b : E3} (h : a Y τ Γ fun x Γ1 => ∃ c, x = .bl c ∧ if c = true then Z (.bl true) Γ1 else b Y τ Γ1 Z) : eOr a b Y τ Γ Z := h
theorem t_not {a : E3} (h : a Y τ Γ fun x Γ1 => ∃ c, x = .bl c ∧ Z (.bl (!c)) Γ1) : eNot a Y τ Γ Z := h
theorem t_band {a b : T3} (h : a Y τ Γ fun c Γ1 => if c = true then b Y τ Γ1 B else B false Γ1) : bAnd a b Y τ Γ B := h
theorem t_bor {a b : T3} (h : a Y τ Γ fun c Γ1 => if c = true then B true Γ1 else b Y τ Γ1 B) : bOr a b Y τ Γ B := h
theorem t_bnot {a : T3} (h : a Y τ Γ fun c Γ1 => B (!c) Γ1) : bNot a Y τ Γ B := h
theorem t_eif {c : T3} {a b : E3} (h : c Y τ Γ fun k Γ1 => if k = true then a Y τ Γ1 Z else b Y τ Γ1 Z) : eIf c a b Y τ Γ Z := h
theorem t_nil {A : List T → Gp → Prop} (h : A [] Γ) : aNil Y τ Γ A := h
theorem t_cons {A : List T → Gp → Prop} {te : E3} {t : A3} (h : te Y τ Γ fun x Γ1 => t Y τ Γ1 fun xs Γ2 => A (x :: xs) Γ2) : aCons te t Y τ Γ A := h
theorem t_tup {t : A3} (h : t Y τ Γ fun xs Γ1 => xs.length ≤ sizeLine ∧ Z (.tup xs) Γ1) : eTup t Y τ Γ Z := h
theorem t_lst {t : A3} (h : t Y τ Γ fun xs Γ1 => xs.length ≤ sizeLine ∧ ∀ p, Γ1 p = none → Z (.ref p) (up Γ1 p (.lst xs))) : eLst t Y τ Γ Z := h
theorem t_len {n : Nat} {A : Prop} (h : Nat.ble n 1000 = true) (a : A) : n ≤ sizeLine ∧ A := ⟨Nat.le_trans (Nat.le_of_ble_eq_true h) (by decide), a⟩
theorem t_call {sp : Sp3} {t : A3} (h : t Y τ Γ fun xs Γ1 => sp xs Γ1 Z fun _ _ => False) : eCall sp t Y τ Γ Z := h
theorem t_callX {sp : Sp3} {t : A3} (h : t Y τ Γ fun xs Γ1 => sp xs Γ1 Z (Y τ)) : eCallX sp t Y τ Γ Z := h
theorem t_cb {r : F3} {t : A3} (h : t Y τ Γ fun ts Γ1 => r ts Γ1 Z) : eCB r t Y τ Γ Z := h
theorem t_J {g : Int → Int → T} {i j : Int} (h : Z (g i j) Γ) : r3J g (.int i) (.int j) Γ Z := ⟨i, j, rfl, rfl, h⟩
theorem t_I {C : Int → Int → Prop} {g : Int → Int → T} {i j : Int} (c : C i j) (h : Z (g i j) Γ) : r3I C g (.int i) (.int j) Γ Z := ⟨i, j, rfl, rfl, c, h⟩
theorem t_eqS {a b : Str} (h : Z (.bl (decide (V.str a = V.str b))) Γ) : r3Eq (.str a) (.str b) Γ Z := ⟨_, _, rfl, rfl, rfl, h⟩
theorem t_eqI {a b : Int} (h : Z (.bl (decide (V.int a = V.int b))) Γ) : r3Eq (.int a) (.int b) Γ Z := ⟨_, _, rfl, rfl, rfl, h⟩
theorem t_neS {a b : Str} (h : Z (.bl (!decide (V.str a = V.str b))) Γ) : r3Ne (.str a) (.str b) Γ Z := ⟨_, _, rfl, rfl, rfl, h⟩
theorem t_neI {a b : Int} (h : Z (.bl (!decide (V.int a = V.int b))) Γ) : r3Ne (.int a) (.int b) Γ Z := ⟨_, _, rfl, rfl, rfl, h⟩
theorem t_ix0 {t : T} {ts : List T} (z : Z t Γ) : r3Ix (.tup (t :: ts)) (.int 0) Γ Z := ⟨_, 0, t, rfl, rfl, at0, z⟩
theorem t_ix1 {t u : T} {ts : List T} (z : Z u Γ) : r3Ix (.tup (t :: u :: ts)) (.int 1) Γ Z := ⟨_, 1, u, rfl, rfl, at1, z⟩
theorem t_bm {Tn : String} {r : M3r} {to : E3} {t : A3} (h : to Y τ Γ fun x Γ1 => tyOf Γ1 x = some Tn ∧ t Y τ Γ1 fun xs Γ2 => r x xs Γ2 Z) : eBM Tn r to t Y τ Γ Z := h
theorem t_bm0 {Tn : String} {r : M3r} {to : E3} (h : to Y τ Γ fun x Γ1 => tyOf Γ1 x = some Tn ∧ r x [] Γ1 Z) : eBM0 Tn r to Y τ Γ Z := h
theorem t_inst {K : PySem.W.Frag} {Ty : String} {te : E3} (h : te Y τ Γ fun x Γ1 => ∃ n b, tyOf Γ1 x = some n ∧ PySem.W.kitOne K (.type n) (.type Ty) = some b ∧ Z (.bl b) Γ1) : eInst K Ty te Y τ Γ Z := h
theorem t_tru {t : E3} (h : t Y τ Γ fun x Γ1 => ∃ k, tru3 Γ1 x = some k ∧ B k Γ1) : eTru t Y τ Γ B := h
theorem t_asg {te : E3} {g : G3} (h : te Y τ Γ fun x Γ1 => g Y x τ Γ1 D.nx) : cAsg te g Y D τ Γ := h
theorem t_hn {i : Nat} {x : T} (h : N (τ.set i (some x)) Γ) : hName i Y x τ Γ N := h
theorem t_ht {n : Nat} {gs : Gs3} {ts : List T} (l : Nat.beq ts.length n = true) (h : gs Y ts τ Γ N) : hTup n gs Y (.tup ts) τ Γ N := ⟨ts, rfl, Nat.eq_of_beq_eq_true l, h⟩
theorem t_hc {g : G3} {gs : Gs3} {x : T} {r : List T} (h : g Y x τ Γ fun τ1 Γ1 => gs Y r τ1 Γ1 N) : hCons g gs Y (x :: r) τ Γ N := ⟨x, r, rfl, h⟩
theorem t_h0 (h : N τ Γ) : hNil Y [] τ Γ N := ⟨rfl, h⟩
theorem t_hs {to ti : E3} {v : T} (h : to Y τ Γ fun o Γ1 => ti Y τ Γ1 fun i Γ2 => ∃ a ts k j, o = .ref a ∧ i = .int k ∧ Γ2 a = some (.lst ts) ∧ ixN ts.length k = some j ∧ N τ (up Γ2 a (.lst (ts.set j v)))) : hSub to ti Y v τ Γ N := h
theorem t_un {r : T → Gp → K3 → Prop} {a : E3} (h : a Y τ Γ fun x Γ1 => r x Γ1 Z) : eUn r a Y τ Γ Z := h
theorem t_neg {g : Int → T} {i : Int} (h : Z (g i) Γ) : r3U g (.int i) Γ Z := ⟨i, rfl, h⟩
theorem t_sl {r : L3r} {te : E3} {tl th : O3} (h : te Y τ Γ fun x Γ1 => tl Y τ Γ1 fun l Γ2 => th Y τ Γ2 fun u Γ3 => r x l u Γ3 Z) : eSl r te tl th Y τ Γ Z := h
theorem t_on {Q : Option Int → Gp → Prop} (h : Q none Γ) : oNone Y τ Γ Q := h
theorem t_os {Q : Option Int → Gp → Prop} {t : E3} (h : t Y τ Γ fun x Γ1 => ∃ i, x = .int i ∧ Q (some i) Γ1) : oSome t Y τ Γ Q := h
theorem t_oi {i : Int} {Q : Int → Prop} (h : Q i) : ∃ k, T.int i = .int k ∧ Q k := ⟨i, rfl, h⟩
theorem t_rev {r : T → Gp → K3 → Prop} {te ts : E3} (h : te Y τ Γ fun x Γ1 => ts Y τ Γ1 fun k Γ2 => k = .int (-1) ∧ r x Γ2 Z) : eRev r te ts Y τ Γ Z := h
theorem t_for {wi : I3} {g : G3} {tb : C3} (h : wi Y τ Γ fun ts gd Γ1 => wFor gd g tb Y D ts τ Γ1) : cFor wi g tb Y D τ Γ := h
theorem t_itp {tl : E3} {I : List T → (Gp → Prop) → Gp → Prop} (h : tl Y τ Γ fun x Γ1 => ∃ ts, x = .tup ts ∧ I ts gT Γ1) : iTp tl Y τ Γ I := h
theorem t_tp {ts : List T} {Q : List T → Prop} (h : Q ts) : ∃ us, T.tup ts = .tup us ∧ Q us := ⟨ts, rfl, h⟩
theorem t_cat {ts us : List T} (l : ts.length + us.length ≤ sizeLine) (h : Z (.tup (ts ++ us)) Γ) : r3Cat (.tup ts) (.tup us) Γ Z := ⟨ts, us, rfl, rfl, l, h⟩
theorem t_comp {wi : I3} {g : G3} {tc : T3} {te : E3} {own : List Str} {cap : List (Nat × Str)} (h : wi Y τ Γ fun ts gd Γ1 => ts.length ≤ sizeLine ∧ wComp gd g tc te (fun ys Γ2 => ∀ D, Γ2 D = none → Z (.ref D) (up Γ2 D (.lst ys))) ts (cSt own cap τ) [] Γ1) : eComp wi g tc te own cap Y τ Γ Z := h
theorem t_bt (h : B true Γ) : bTrue Y τ Γ B := h
theorem t_raise {C : Addr} {t : A3} (h : t Y τ Γ fun xs Γ1 => xs.length ≤ sizeLine ∧ Y τ (.ref C) Γ1) : cRaise C t Y D τ Γ := h
theorem t_rg1 {ta : A3} {I : List T → (Gp → Prop) → Gp → Prop} (h : ta Y τ Γ fun xs Γ1 => ∃ j : Int, xs = [.int j] ∧ -(2 ^ 62) ≤ j ∧ j < 2 ^ 62 ∧ I (rngT 0 j.toNat) gT Γ1) : iRg1 ta Y τ Γ I := h
theorem t_zp {ta : A3} {I : List T → (Gp → Prop) → Gp → Prop} (h : ta Y τ Γ fun xs Γ1 => ∃ ts us, xs = [.tup ts, .tup us] ∧ I (zipT ts us) gT Γ1) : iZp ta Y τ Γ I := h
theorem t_en {ta : A3} {I : List T → (Gp → Prop) → Gp → Prop} (h : ta Y τ Γ fun xs Γ1 => ∃ ts, xs = [.tup ts] ∧ I (enumT 0 ts) gT Γ1) : iEn ta Y τ Γ I := h
theorem t_ils {tl : E3} {I : List T → (Gp → Prop) → Gp → Prop} (h : tl Y τ Γ fun x Γ1 => ∃ a ts, x = .ref a ∧ it3 Γ1 (.ref a) = some ts ∧ I ts (fun Γ' => it3 Γ' (.ref a) = some ts) Γ1) : iLs tl Y τ Γ I := h
theorem t_ist {tl : E3} {I : List T → (Gp → Prop) → Gp → Prop} (h : tl Y τ Γ fun x Γ1 => ∃ z, x = .str z ∧ I (signsT z) gT Γ1) : iSt tl Y τ Γ I := h
theorem t_str {z : Str} {Q : Str → Prop} (h : Q z) : ∃ k, T.str z = .str k ∧ Q k := ⟨z, rfl, h⟩
theorem c_ifT {b : Bool} {A C : Prop} (h : b = true) (a : A) : if b = true then A else C := by rw [if_pos h]; exact a
theorem c_ifF {b : Bool} {A C : Prop} (h : b = false) (a : C) : if b = true then A else C := by rw [if_neg (by rw [h]; exact Bool.false_ne_true)]; exact a
theorem c_if {b : Bool} {A C : Prop} (h1 : b = true → A) (h2 : b = false → C) : if b = true then A else C := by
 cases b with
 | true => rw [if_pos rfl]; exact h1 rfl
 | false => rw [if_neg Bool.false_ne_true]; exact h2 rfl
end
end L3
set_option Elab.async false
set_option linter.all false
set_option maxRecDepth 100000
namespace L3
open PySem PySem.Spec L2
open PyProof.Rows hiding St
section
variable {X : Cx}
theorem scs_strs : ∀ ss : List Str, scs (ss.map T.str) = some (ss.map V.str)
 | [] => rfl
 | s :: r => by rw [List.map_cons, List.map_cons, scs, scs_strs r]; rfl
end
end L3
namespace L3
open PySem PySem.Spec L2
section
variable {Y : X3} {τ : S3} {Γ : Gp} {Z : K3}
theorem t_1t {us : List T} {Q : List T → Prop} (h : Q us) : ∃ ts, [T.tup us] = [T.tup ts] ∧ Q ts := ⟨us, rfl, h⟩
theorem t_2t {us ws : List T} {Q : List T → List T → Prop} (h : Q us ws) : ∃ ts vs, [T.tup us, T.tup ws] = [T.tup ts, T.tup vs] ∧ Q ts vs := ⟨us, ws, rfl, h⟩
theorem t_eqSI {a : Str} {b : Int} (h : Z (.bl false) Γ) : r3Eq (.str a) (.int b) Γ Z := ⟨_, _, rfl, rfl, rfl, h⟩
theorem t_eqIS {a : Int} {b : Str} (h : Z (.bl false) Γ) : r3Eq (.int a) (.str b) Γ Z := ⟨_, _, rfl, rfl, rfl, h⟩
theorem t_neSI {a : Str} {b : Int} (h : Z (.bl true) Γ) : r3Ne (.str a) (.int b) Γ Z := ⟨_, _, rfl, rfl, rfl, h⟩
theorem t_neIS {a : Int} {b : Str} (h : Z (.bl true) Γ) : r3Ne (.int a) (.str b) Γ Z := ⟨_, _, rfl, rfl, rfl, h⟩
theorem t_gT {A : Prop} (h : A) : gT Γ ∧ A := ⟨trivial, h⟩
theorem t_lenT {us : List T} {Q : T → List T → Prop} (h : Q (.tup us) us) : ∃ x ts, [T.tup us] = [x] ∧ it3 Γ x = some ts ∧ Q x ts := ⟨.tup us, us, rfl, rfl, h⟩
end
end L3
namespace L3
open PySem PySem.Spec L2
section
variable {Y : X3} {τ : S3} {Γ : Gp} {Z : K3}
theorem t_chain {r r' : R3} {a b c : E3} (h : a Y τ Γ fun x Γ1 => b Y τ Γ1 fun y Γ2 => r x y Γ2 fun z Γ3 => ∃ k, z = .bl k ∧ (if k = true then c Y τ Γ3 fun w' Γ4 => r' y w' Γ4 Z else Z (.bl false) Γ3)) : eChain r r' a b c Y τ Γ Z := h
theorem t_inT {neg : Bool} {x : T} {u : V} {ts : List T} {us : List V} (h1 : sc x = some u) (h2 : scs ts = some us) (h3 : (flatV u && us.all flatV) = true) (z : Z (.bl (if neg then !inV u us else inV u us)) Γ) : r3In neg x (.tup ts) Γ Z := by
 rw [Bool.and_eq_true] at h3
 exact ⟨u, ts, us, h1, rfl, h2, h3.1, h3.2, z⟩
theorem t_ixR {p : Addr} {ts : List T} {i : Int} {t : T} (g : Γ p = some (.lst ts)) (h : atI ts i = some t) (z : Z t Γ) : r3Ix (.ref p) (.int i) Γ Z := ⟨ts, i, t, it3_l g, rfl, h, z⟩
theorem t_ixT {ts : List T} {i : Int} {t : T} (h : atI ts i = some t) (z : Z t Γ) : r3Ix (.tup ts) (.int i) Γ Z := ⟨ts, i, t, rfl, rfl, h, z⟩
theorem t_tyL {p : Addr} {ts : List T} {A : Prop} (g : Γ p = some (.lst ts)) (h : A) : tyOf Γ (.ref p) = some "list" ∧ A := ⟨by show (match Γ p with | some (.lst _) => some "list" | some (.dK _) => some "dict" | _ => none) = _; rw [g], h⟩
theorem t_tyS {z : Str} {A : Prop} (h : A) : tyOf Γ (.str z) = some "str" ∧ A := ⟨rfl, h⟩
end
end L3
namespace L3
open PySem PySem.Spec L2
section
variable {Y : X3} {τ : S3} {Γ : Gp} {Z : K3} {N : S3 → Gp → Prop}
theorem t_2i {i j : Int} {Q : Int → Int → Prop} (h : Q i j) : ∃ i' j', [T.int i, T.int j] = [T.int i', T.int j'] ∧ Q i' j' := ⟨i, j, rfl, h⟩
theorem t_hsub {p : Addr} {ts : List T} {k : Int} {j : Nat} {v : T} (g : Γ p = some (.lst ts)) (h : ixN ts.length k = some j) (z : N τ (up Γ p (.lst (ts.set j v)))) : ∃ a us k' j', T.ref p = .ref a ∧ T.int k = .int k' ∧ Γ a = some (.lst us) ∧ ixN us.length k' = some j' ∧ N τ (up Γ a (.lst (us.set j' v))) := ⟨p, ts, k, j, rfl, rfl, g, h, z⟩
end
end L3
namespace L3
open PySem PySem.Spec L2
section
variable {Y : X3} {τ : S3} {Γ : Gp} {Z : K3} {N : S3 → Gp → Prop}
theorem t_e0 {A : Prop} (h : A) : T.tup [] = T.tup [] ∧ A := ⟨rfl, h⟩
end
end L3
namespace L3
open PySem PySem.Spec L2
section
variable {Y : X3} {τ : S3} {Γ : Gp} {Z : K3} {D : D3}
theorem t_try {K : PySem.W.Frag} {Cy : Addr} {j : Nat} {tb ts : C3} (h : tb (fun τ' C Γ' => PySem.W.exmOne K C (.ref Cy) = some true ∧ ∀ x, Γ' x = none →
 ts Y0 { nx := fun τ2 Γ2 => D.nx (τ2.set j none) Γ2, rt := D.rt, bk := fun τ2 Γ2 => D.bk (τ2.set j none) Γ2, ct := fun τ2 Γ2 => D.ct (τ2.set j none) Γ2 } (τ'.set j (some (.ref x))) (up Γ' x (.ext (excAt x C)))) D τ Γ) : cTry K Cy j tb ts Y D τ Γ := h
theorem t_lz {ta : A3} (h : ta Y τ Γ fun xs Γ1 => ∃ ts us, xs = [.tup ts, .tup us] ∧ ts.length = us.length ∧ ∀ p, Γ1 p = none → Z (.ref p) (up Γ1 p (.lst (zipT ts us)))) : eLZ ta Y τ Γ Z := h
end
theorem us0 {α : Type} {P : List α → Prop} (h : P []) : ∀ us : List α, us.length = 0 → P us
 | [], _ => h
theorem us1 {α : Type} {P : List α → Prop} (h : ∀ a0, P [a0]) : ∀ us : List α, us.length = 1 → P us
 | [a0], _ => h _
theorem us2 {α : Type} {P : List α → Prop} (h : ∀ a0 a1, P [a0, a1]) : ∀ us : List α, us.length = 2 → P us
 | [a0, a1], _ => h _ _
theorem us3 {α : Type} {P : List α → Prop} (h : ∀ a0 a1 a2, P [a0, a1, a2]) : ∀ us : List α, us.length = 3 → P us
 | [a0, a1, a2], _ => h _ _ _
end L3
set_option Elab.async false
set_option linter.all false
set_option maxRecDepth 100000
namespace L3
open PySem PySem.Spec L2
open PyProof.Rows hiding St
section
variable {X : Cx}
inductive Dq : Nat → T → Prop
 | flat {d : Nat} {t : T} {u : V} (h : sc t = some u) (f : flatV u = true) : Dq d t
 | tup {d : Nat} {ts : List T} (q : ∀ t ∈ ts, Dq d t) : Dq (d + 1) (.tup ts)
theorem eqV_self {v : V} (f : flatV v = true) : eqV v v = true := by
 cases v with
 | non => rfl
 | bl b => simp [eqV]
 | int i => simp [eqV]
 | str z => simp [eqV]
 | _ => exact absurd f (by simp [flatV])
theorem Rs.getD {H : Hp} : ∀ {vs : List V} {ts : List T} {j : Nat} {t : T}, Rs H vs ts → ts[j]? = some t → R H (vs.getD j .non) t
 | vs, [], j, t, q, h => by simp at h
 | vs, x :: ts, j, t, q, h => by
  obtain ⟨w, ws, rfl, r1, r2⟩ := rs_inv q
  cases j with
  | zero => cases h; exact r1
  | succ j =>
   show R H (ws.getD j .non) t
   exact Rs.getD r2 (by simpa using h)
theorem eq_deep {pins : List (Addr × Obj)} {s : Shared} {σ : L2.St} {H : Hp} (I : L2.Inv X pins σ H s) : ∀ {d : Nat} {t : T}, Dq d t → ∀ {A : Around} {v v' : V} {u u' : Value}, A.units + d < cLine → R H v t → R H v' t → RelV v u → RelV v' u' → SeqAt.EqAt A s u u' true := by
 intro d t h
 induction h with
 | @flat d t z h f =>
  intro A v v' u u' hu r r' x x'
  rw [sc_r r h] at x
  rw [sc_r r' h] at x'
  have := eqAt_V (A := A) (s := s) x x' f f
  rwa [eqV_self f] at this
 | @tup d ts q ih =>
  intro A v v' u u' hu r r' x x'
  obtain ⟨p, vs, rfl, hp, rr⟩ := i_tup r
  obtain ⟨p', vs', rfl, hp', rr'⟩ := i_tup r'
  cases x
  cases x'
  by_cases e : p = p'
  ·subst e
   exact SeqAt.EqAt.same _
  ·obtain ⟨its, rv, pl, hz⟩ := I.tuple (SqT.of (K := X.K) hp)
   obtain ⟨its2, rv2, pl2, hz2⟩ := I.tuple (SqT.of (K := X.K) hp')
   have l1 := rr.length
   have l2 := rr'.length
   have l3 := rv.length
   have l4 := rv2.length
   have := SeqAt.RcAt.tuples (A := A) (e := fun _ => true) pl pl2 (by omega) (fun j h1 h2 => ?_)
   ·refine SeqAt.EqAt.of_refs e ?_
    have hb : ((List.range (min its.toArray.size its2.toArray.size)).all (fun _ => true) && its.toArray.size == its2.toArray.size) = true := by
     rw [Bool.and_eq_true]
     exact ⟨List.all_eq_true.mpr fun _ _ => rfl, by rw [beq_iff_eq, List.size_toArray, List.size_toArray]; omega⟩
    rwa [hb] at this
   ·have h1' : j < ts.length := by rw [List.size_toArray] at h1; omega
    have g : ts[j]? = some ts[j] := List.getElem?_eq_getElem h1'
    exact ih _ (List.getElem_mem h1') (by show A.units + 1 + d < cLine; omega) (rr.getD g) (rr'.getD g) (Vals.at rv (by simpa using h1)) (Vals.at rv2 (by simpa using h2))
theorem op_neSame {d : Nat} (hu : X.A.units + 1 + d < cLine) : OpR X (compareOp .NotEq) (fun x y H Q => ∃ (a b : Addr) (xs ys : List V) (ts : List T), x = .ref a ∧ y = .ref b ∧ H a = some (.lst xs) ∧ H b = some (.lst ys) ∧ Rs H xs ts ∧ Rs H ys ts ∧ (∀ t ∈ ts, Dq d t) ∧ Q (.bl false) H) := by
 intro pins s σ H x y v u Q I rx ry h
 obtain ⟨a, b, xs, ys, ts, rfl, rfl, ha, hb, ra, rb, hq, q⟩ := h
 cases rx
 cases ry
 obtain ⟨its, rv, pl, hz⟩ := I.list (SqL.of (K := X.K) ha)
 obtain ⟨its2, rv2, pl2, hz2⟩ := I.list (SqL.of (K := X.K) hb)
 have l1 := ra.length
 have l2 := rb.length
 have l3 := rv.length
 have l4 := rv2.length
 refine SeqAt.RcNeAt.lists (e := fun _ => true) pl.isList pl2.isList (by rw [List.size_toArray, List.size_toArray]; omega) (by omega) (fun j h1 h2 => ?_) _ _ _ _ ⟨.bl false, H, I, ?_, q⟩
 ·have h1' : j < ts.length := by rw [List.size_toArray] at h1; omega
  have g : ts[j]? = some ts[j] := List.getElem?_eq_getElem h1'
  exact eq_deep I (hq _ (List.getElem_mem h1')) (by show X.A.units + 1 + d < cLine; omega) (ra.getD g) (rb.getD g) (Vals.at rv (by simpa using h1)) (Vals.at rv2 (by simpa using h2))
 ·show _ = Value.bool false
  congr 1
  rw [List.all_eq_true.mpr fun _ _ => rfl]
  rfl
theorem oq_neSame {d : Nat} (hu : X.A.units + 1 + d < cLine) : OpQ X (compareOp .NotEq) (fun x y Γ Z => ∃ (a b : Addr) (ts : List T), x = .ref a ∧ y = .ref b ∧ Γ a = some (.lst ts) ∧ Γ b = some (.lst ts) ∧ (∀ t ∈ ts, Dq d t) ∧ Z (.bl false) Γ) :=
 ⟨_, op_neSame hu, fun x y a b H Γ Q Z ra rb hr q0 vr => by
  obtain ⟨p, p', ts, ea, eb, g1, g2, hq, z⟩ := q0
  subst ea eb
  obtain ⟨vs, hv, q⟩ := hr p _ g1
  obtain ⟨vs', hv', q'⟩ := hr p' _ g2
  exact ⟨p, p', vs, vs', ts, i_ref ra, i_ref rb, hv, hv', q, q', hq, vr _ _ H Γ .refl hr r_bl z⟩⟩
end
end L3
set_option Elab.async false
set_option linter.all false
set_option maxRecDepth 100000
namespace L3
open PySem PySem.Spec L2
open PyProof.Rows hiding St
section
variable {X : Cx}
end
end L3
set_option Elab.async false
set_option linter.all false
set_option maxRecDepth 100000
namespace Sr
open PySem PyProof.Rows
structure SB (a0 : Array Keyed) (kd : SortKind) (st : SortSt) : Prop where
 perm : (arrOf st).Perm a0
 kind : kindOf st = kd
 failed : failedOf st = none
 pend : pendingOf st = #[]
section
variable {prog : Program} {w : World} {A : Around} {E : Value → Shared → Prop} {s : Shared} {a0 : Array Keyed} {kd : SortKind} {st : SortSt}
theorem SB.size (B : SB a0 kd st) : (arrOf st).size = a0.size := B.perm.size_eq
theorem SB.arr (B : SB a0 kd st) {xs : Array Keyed} (h : xs.Perm (arrOf st)) : SB a0 kd (setArr st xs) := ⟨h.trans B.perm, B.kind, B.failed, B.pend⟩
theorem SB.get (B : SB a0 kd st) {i : Nat} (h : i < a0.size) : ∃ x, (arrOf st)[i]? = some x ∧ x ∈ a0.toList := by
 have h' : i < (arrOf st).size := by rw [B.size]; exact h
 refine ⟨(arrOf st)[i], by simp [h'], ?_⟩
 have := B.perm
 rw [Array.perm_iff_toList_perm] at this
 exact this.mem_iff.mp (by simp)
end
end Sr
set_option Elab.async false
set_option linter.all false
set_option maxRecDepth 100000
namespace Sr
open PySem PyProof.Rows
section
variable {prog : Program} {w : World} {A : Around} {E : Value → Shared → Prop} {s : Shared}
theorem pairs_snd (vs : List Value) : ((pairsOf vs).map fun x => x.2).toList = vs := by
 unfold pairsOf
 simp only [Array.toList_map, Array.toList_zip]
 induction vs with
 | nil => rfl
 | cons v r ih => simp only [List.zip_cons_cons, List.map_cons]; rw [ih]
end
end Sr
set_option Elab.async false
set_option linter.all false
set_option maxRecDepth 100000
namespace Sr
open PySem PyProof.Rows
section
variable {prog : Program} {w : World} {A : Around} {E : Value → Shared → Prop} {s : Shared} {M : Model}
theorem wp_mapM {α β : Type} {f : α → Sem β} (R : β → Prop) : ∀ (vs : List α) {Q : List β → Shared → Prop}, (∀ v ∈ vs, ∀ (Q' : β → Shared → Prop), (∀ r, R r → Q' r s) → wpAny M A (f v) Q' E s) → (∀ rs : List β, rs.length = vs.length → (∀ r ∈ rs, R r) → Q rs s) → wpAny M A (List.mapM f vs) Q E s
 | [], Q, h, q => by
  rw [List.mapM_nil]
  exact wpAny_pure (q [] rfl fun _ h => nomatch h)
 | v :: vs, Q, h, q => by
  rw [List.mapM_cons]
  refine wpAny_bind (h v (by simp) _ fun r hr => ?_)
  refine wpAny_bind (wp_mapM R vs (fun v' hv => h v' (by simp [hv])) fun rs hl hrs => ?_)
  exact wpAny_pure (q (r :: rs) (by rw [List.length_cons, List.length_cons, hl]) fun r' hr' => by
   rcases List.mem_cons.mp hr' with rfl | h'
   ·exact hr
   ·exact hrs _ h')
theorem wp_arrM {α β : Type} {f : α → Sem β} (R : β → Prop) {vs : List α} {Q : Array β → Shared → Prop} (h : ∀ v ∈ vs, ∀ (Q' : β → Shared → Prop), (∀ r, R r → Q' r s) → wpAny M A (f v) Q' E s) (q : ∀ rs : List β, rs.length = vs.length → (∀ r ∈ rs, R r) → Q rs.toArray s) : wpAny M A (Array.mapM f vs.toArray) Q E s := by
 rw [Array.mapM_eq_mapM_toList, map_eq_pure_bind]
 exact wpAny_bind (wp_mapM R vs h fun rs hl hr => wpAny_pure (q rs hl hr))
end
end Sr
set_option Elab.async false
set_option linter.all false
set_option maxRecDepth 100000
namespace L2
open PySem PySem.Spec PyProof.Rows
section
variable {X : Cx}
end
end L2
namespace L3
open PySem PySem.Spec L2
section
variable {X : Cx}
end
end L3
set_option Elab.async false
set_option linter.all false
set_option maxRecDepth 100000
namespace L2
open PySem PySem.Spec PyProof.Rows
section
variable {prog : Program} {w : World} {A : Around} {E : Value → Shared → Prop} {s : Shared}
end
section
variable {X : Cx}
end
end L2
namespace L3
open PySem PySem.Spec L2
section
variable {X : Cx} {E : St → XK}
end
end L3
set_option Elab.async false
set_option linter.all false
set_option maxRecDepth 100000
namespace L2
open PySem PySem.Spec PyProof.Rows
section
variable {X : Cx} {tg : Expr}
end
end L2
namespace L3
open PySem PySem.Spec L2
open PyProof.Rows hiding St
section
variable {X : Cx} {E : St → XK} {tg : Expr} {p pos : Pos}
end
end L3
set_option Elab.async false
set_option linter.all false
set_option maxRecDepth 100000
namespace L2
open PySem PySem.Spec PyProof.Rows
section
variable {X : Cx}
def KTup (K : PySem.W.Frag) (a : Addr) (xs : List V) : Prop := ∃ (o : Obj) (its : Array Value) (n : Nat), K.lookup a = some o ∧ o.cls = .type "tuple" ∧ o.data = .seq its n ∧ its.size ≤ sizeLine ∧ Vals xs its.toList
theorem KTup.sq {K : PySem.W.Frag} {H : Hp} {a : Addr} {xs : List V} (h : KTup K a xs) : SqT K H a xs := .inr h
end
end L2
namespace L3
open PySem PySem.Spec L2
section
variable {X : Cx}
end
end L3
set_option Elab.async false
set_option linter.all false
set_option maxRecDepth 100000
namespace Sr
open PySem PyProof.Rows
section
variable {O : KeyOrd} (κ : Keyed → O.α) (d0 : O.α)
def Le (a b : O.α) : Prop := O.blt b a = false
theorem Le.refl (a : O.α) : Le a a := O.irrefl a
theorem Le.trans {a b c : O.α} (h : Le a b) (h' : Le b c) : Le a c := by
 unfold Le at *
 cases e : O.blt c a with
 | false => rfl
 | true =>
  rcases O.negTrans c b a e with x | x
  ·rw [h'] at x; cases x
  ·rw [h] at x; cases x
def kat (xs : Array Keyed) (i : Nat) : O.α := match xs[i]? with
 | some p => κ p
 | none => d0
theorem kat_at {xs : Array Keyed} {i : Nat} {p : Keyed} (h : xs[i]? = some p) : kat κ d0 xs i = κ p := by unfold kat; rw [h]
def SortTo (xs : Array Keyed) (n : Nat) : Prop := ∀ i j, i ≤ j → j < n → Le (kat κ d0 xs i) (kat κ d0 xs j)
theorem SortTo.one (xs : Array Keyed) : SortTo κ d0 xs 1 := fun i j h h' => by
 have e : i = j := by omega
 rw [e]; exact Le.refl _
theorem SortTo.step {xs : Array Keyed} {n : Nat} (h : SortTo κ d0 xs n) (h1 : 1 ≤ n) (l : Le (kat κ d0 xs (n - 1)) (kat κ d0 xs n)) : SortTo κ d0 xs (n + 1) := fun i j hij hj => by
 by_cases e : j = n
 ·subst e
  by_cases e2 : i = j
  ·rw [e2]; exact Le.refl _
  ·exact (h i (j - 1) (by omega) (by omega)).trans l
 ·exact h i j hij (by omega)
def FallTo (xs : Array Keyed) (n : Nat) : Prop := ∀ i j, i < j → j < n → O.blt (kat κ d0 xs j) (kat κ d0 xs i) = true
theorem FallTo.step {xs : Array Keyed} {n : Nat} (h : FallTo κ d0 xs n) (h1 : 1 ≤ n) (l : O.blt (kat κ d0 xs n) (kat κ d0 xs (n - 1)) = true) : FallTo κ d0 xs (n + 1) := fun i j hij hj => by
 by_cases e : j = n
 ·subst e
  by_cases e2 : i = j - 1
  ·rw [e2]; exact l
  ·exact O.trans _ _ _ l (h i (j - 1) (by omega) (by omega))
 ·exact h i j hij (by omega)
end
section
variable {prog : Program} {w : World} {A : Around} {E : Value → Shared → Prop} {s : Shared} {a0 : Array Keyed} {kd : SortKind} {st : SortSt} {O : KeyOrd} {κ : Keyed → O.α} {d0 : O.α}
def Dif (κ : Keyed → O.α) (a0 : Array Keyed) : Prop := (a0.toList.map κ).Nodup
theorem Dif.ne (D : Dif κ a0) (B : SB a0 kd st) {i j : Nat} (hi : i < a0.size) (hj : j < a0.size) (n : i ≠ j) : kat κ d0 (arrOf st) i ≠ kat κ d0 (arrOf st) j := by
 have p := B.perm
 rw [Array.perm_iff_toList_perm] at p
 have nd : ((arrOf st).toList.map κ).Nodup := (p.map κ).nodup_iff.mpr D
 obtain ⟨x, ex, _⟩ := B.get hi
 obtain ⟨y, ey, _⟩ := B.get hj
 rw [kat_at κ d0 ex, kat_at κ d0 ey]
 intro e
 have hl : ∀ k, k < a0.size → k < ((arrOf st).toList.map κ).length := fun k hk => by rw [List.length_map, Array.length_toList, B.size]; exact hk
 have hx : ((arrOf st).toList.map κ)[i]'(hl i hi) = κ x := by
  have : ((arrOf st).toList.map κ)[i]? = some (κ x) := by rw [List.getElem?_map, Array.getElem?_toList, ex]; rfl
  exact (List.getElem?_eq_some_iff.mp this).2
 have hy : ((arrOf st).toList.map κ)[j]'(hl j hj) = κ y := by
  have : ((arrOf st).toList.map κ)[j]? = some (κ y) := by rw [List.getElem?_map, Array.getElem?_toList, ey]; rfl
  exact (List.getElem?_eq_some_iff.mp this).2
 have pw := List.pairwise_iff_getElem.mp nd
 rcases Nat.lt_or_gt_of_ne n with h | h
 ·exact pw i j (hl i hi) (hl j hj) h (by rw [hx, hy, e])
 ·exact pw j i (hl j hj) (hl i hi) h (by rw [hx, hy, e])
end
end Sr
set_option Elab.async false
set_option linter.all false
set_option maxRecDepth 100000
namespace L2
open PySem PySem.Spec PyProof.Rows
def CalleeM (P : Program) (w : World) (K : PySem.W.Frag) (mg : Str → Option Value) (base : Heap) (C : Addr) (m : Str) (k : Nat) (ps : List Str) (sp : Sp) : Prop :=
 ∃ f fd, FnOk P w K mg base CX0 k f fd ps sp ∧ Cls K C ∧ Meth K C m f ∧ Binds K fd ps []
theorem CalleeM.mono {P : Program} {w : World} {K : PySem.W.Frag} {mg : Str → Option Value} {base : Heap} {C : Addr} {m : Str} {j k : Nat} {ps : List Str} {sp : Sp} (c : CalleeM P w K mg base C m j ps sp) (h : j ≤ k) : CalleeM P w K mg base C m k ps sp := by
 obtain ⟨f, fd, F, m, kp, b⟩ := c
 exact ⟨f, fd, F.mono h, m, kp, b⟩
end L2
namespace L3
open PySem PySem.Spec L2
def putT (f : Str) (v : T) : List (Str × T) → List (Str × T)
 | [] => [(f, v)]
 | (g, x) :: r => if g = f then (g, v) :: r else (g, x) :: putT f v r
section
variable {H : Hp}
theorem Fs.len : ∀ {gs : List (Str × V)} {fs : List (Str × T)}, Fs H gs fs → gs.length = fs.length
 | _, _, .nil => rfl
 | _, _, .cons a b => by rw [List.length_cons, List.length_cons, Fs.len b]
theorem Fs.get : ∀ {gs : List (Str × V)} {fs : List (Str × T)} {f : Str} {t : T}, Fs H gs fs → fs.lookup f = some t → ∃ v, gs.lookup f = some v ∧ R H v t
 | _, _, f, t, .nil, h => by cases h
 | (g, v) :: gs, (g', x) :: fs, f, t, .cons a b, h => by
  obtain ⟨e, r⟩ := a
  have e : g = g' := e
  subst e
  rw [List.lookup_cons] at h ⊢
  split at h
  ·cases h; exact ⟨v, rfl, r⟩
  ·exact Fs.get b h
theorem Fs.non : ∀ {gs : List (Str × V)} {fs : List (Str × T)} {f : Str}, Fs H gs fs → fs.lookup f = none → gs.lookup f = none
 | _, _, f, .nil, h => rfl
 | (g, v) :: gs, (g', x) :: fs, f, .cons a b, h => by
  obtain ⟨e, r⟩ := a
  have e : g = g' := e
  subst e
  rw [List.lookup_cons] at h ⊢
  split at h
  ·cases h
  ·exact Fs.non b h
end
section
variable {X : Cx} {E : St → XK} {C : Addr}
def eFld (C : Addr) (to : E3) (f : Str) : E3 := fun Y τ Γ Z => to Y τ Γ fun x Γ1 => ∃ a dx fs v, x = .ref a ∧ Γ1 a = some (.ins C dx fs) ∧ fs.lookup f = some v ∧ Z v Γ1
def cFld (C : Addr) (to tv : E3) (f : Str) : C3 := fun Y D τ Γ => tv Y τ Γ fun y Γ1 => to Y τ Γ1 fun x Γ2 => ∃ a dx fs, x = .ref a ∧ Γ2 a = some (.ins C dx fs) ∧ fs.length < 1000 ∧ D.nx τ (up Γ2 a (.ins C dx (putT f y fs)))
def cFldA (C : Addr) (to tv : E3) (r3 : R3) (f : Str) : C3 := fun Y D τ Γ => to Y τ Γ fun x Γ1 => ∃ a dx fs v, x = .ref a ∧ Γ1 a = some (.ins C dx fs) ∧ fs.lookup f = some v ∧ tv Y τ Γ1 fun y Γ2 => r3 v y Γ2 fun z Γ3 => ∃ dx' fs', Γ3 a = some (.ins C dx' fs') ∧ fs'.length < 1000 ∧ D.nx τ (up Γ3 a (.ins C dx' (putT f z fs')))
def eMeth (C : Addr) (m : Str) (sp : Sp3) (to : E3) (t : A3) : E3 := fun Y τ Γ Z => to Y τ Γ fun x Γ1 => ∃ a dx fs, x = .ref a ∧ Γ1 a = some (.ins C dx fs) ∧ fs.lookup m = none ∧ t Y τ Γ1 fun xs Γ2 => sp (.ref a :: xs) Γ2 Z fun _ _ => False
variable {m : Str} {k j : Nat} {ps : List Str} {sp : Sp3} {o e : Expr} {es : List Expr} {to : E3} {t : A3} {apos pos p : Pos} {pl : Sem Bool}
def eMake (C : Addr) (sp : Sp3) (t : A3) : E3 := fun Y τ Γ Z => t Y τ Γ fun xs Γ1 => ∀ x dx, Γ1 x = none → Γ1 dx = none → dx ≠ x → sp (.ref x :: xs) (up Γ1 x (.ins C dx [])) (fun v Γ2 => v = .non ∧ Z (.ref x) Γ2) fun _ _ => False
end
end L3
set_option Elab.async false
set_option linter.all false
set_option maxRecDepth 100000
namespace L2
open PySem PySem.Spec PyProof.Rows
section
variable {X : Cx}
def S (l : List Nat) : Str := ⟨l.toArray⟩
def OnceS (ss : List Str) (S : Str → Bool) (n : Nat) : Prop := (∀ k, S k = true ↔ k ∈ ss) ∧ ((ss.Nodup ∧ n = ss.length) ∨ (¬ ss.Nodup ∧ n < ss.length))
theorem OnceS.nil : OnceS [] (fun _ => false) 0 := ⟨fun k => by simp, .inl ⟨List.nodup_nil, rfl⟩⟩
theorem OnceS.le {ss : List Str} {S : Str → Bool} {n : Nat} (h : OnceS ss S n) : n ≤ ss.length := by
 rcases h.2 with ⟨_, h⟩ | ⟨_, h⟩ <;> omega
end
end L2
namespace L3
open PySem PySem.Spec L2
section
variable {X : Cx} {E : St → XK}
abbrev J3 := Str → E3
def j3Cons (te : E3) (t : J3) : J3 := fun out Y τ Γ Z => te Y τ Γ fun v Γ1 => ∃ y, v = .str y ∧ (out ++ y).length ≤ sizeLine ∧ t (out ++ y) Y τ Γ1 Z
def eFs (t : J3) : E3 := t Str.empty
def eFmt (te : E3) : E3 := fun Y τ Γ Z => te Y τ Γ fun v Γ1 => (∃ z, v = .str z ∧ z.length ≤ sizeLine ∧ Z (.str z) Γ1) ∨ ∃ i : Int, v = .int i ∧ i.natAbs.log2 < 1920 ∧ Z (.str (toString i)) Γ1
end
end L3
set_option Elab.async false
set_option linter.all false
set_option maxRecDepth 100000
namespace L2
open PySem PySem.Spec PyProof.Rows
section
variable {X : Cx}
end
end L2
namespace L3
open PySem PySem.Spec L2
section
variable {X : Cx} {E : St → XK} {e st : Expr} {te ts : E3} {p2 pos : Pos}
end
section
variable {Y : X3} {D : D3} {τ : S3} {Γ : Gp} {Z : K3} {A : Prop} {C a dx : Addr} {fs : List (Str × T)} {f m : Str}
theorem t_fld {to : E3} (h : to Y τ Γ fun x Γ1 => ∃ a dx fs v, x = .ref a ∧ Γ1 a = some (.ins C dx fs) ∧ fs.lookup f = some v ∧ Z v Γ1) : eFld C to f Y τ Γ Z := h
theorem t_fldR {Q : T → Prop} {v : T} (g : Γ a = some (.ins C dx fs)) (l : fs.lookup f = some v) (z : Q v) : ∃ a' dx' fs' v', T.ref a = .ref a' ∧ Γ a' = some (.ins C dx' fs') ∧ fs'.lookup f = some v' ∧ Q v' := ⟨a, dx, fs, v, rfl, g, l, z⟩
theorem t_sfld {to tv : E3} (h : tv Y τ Γ fun y Γ1 => to Y τ Γ1 fun x Γ2 => ∃ a dx fs, x = .ref a ∧ Γ2 a = some (.ins C dx fs) ∧ fs.length < 1000 ∧ D.nx τ (up Γ2 a (.ins C dx (putT f y fs)))) : cFld C to tv f Y D τ Γ := h
theorem t_sfldR {Q : Gp → Prop} {y : T} (g : Γ a = some (.ins C dx fs)) (l : Nat.ble fs.length 900 = true) (z : Q (up Γ a (.ins C dx (putT f y fs)))) : ∃ a' dx' fs', T.ref a = .ref a' ∧ Γ a' = some (.ins C dx' fs') ∧ fs'.length < 1000 ∧ Q (up Γ a' (.ins C dx' (putT f y fs'))) := ⟨a, dx, fs, rfl, g, by have := Nat.le_of_ble_eq_true l; omega, z⟩
theorem t_sfa {to tv : E3} {r3 : R3} (h : to Y τ Γ fun x Γ1 => ∃ a dx fs v, x = .ref a ∧ Γ1 a = some (.ins C dx fs) ∧ fs.lookup f = some v ∧ tv Y τ Γ1 fun y Γ2 => r3 v y Γ2 fun z Γ3 => ∃ dx' fs', Γ3 a = some (.ins C dx' fs') ∧ fs'.length < 1000 ∧ D.nx τ (up Γ3 a (.ins C dx' (putT f z fs')))) : cFldA C to tv r3 f Y D τ Γ := h
theorem t_sfaR {Q : Addr → T → Prop} {v : T} (g : Γ a = some (.ins C dx fs)) (l : fs.lookup f = some v) (z : Q a v) : ∃ a' dx' fs' v', T.ref a = .ref a' ∧ Γ a' = some (.ins C dx' fs') ∧ fs'.lookup f = some v' ∧ Q a' v' := ⟨a, dx, fs, v, rfl, g, l, z⟩
theorem t_sfaE {Q : Gp → Prop} {z : T} (g : Γ a = some (.ins C dx fs)) (l : Nat.ble fs.length 900 = true) (q : Q (up Γ a (.ins C dx (putT f z fs)))) : ∃ dx' fs', Γ a = some (.ins C dx' fs') ∧ fs'.length < 1000 ∧ Q (up Γ a (.ins C dx' (putT f z fs'))) := ⟨dx, fs, g, by have := Nat.le_of_ble_eq_true l; omega, q⟩
theorem t_meth {sp : Sp3} {to : E3} {t : A3} (h : to Y τ Γ fun x Γ1 => ∃ a dx fs, x = .ref a ∧ Γ1 a = some (.ins C dx fs) ∧ fs.lookup m = none ∧ t Y τ Γ1 fun xs Γ2 => sp (.ref a :: xs) Γ2 Z fun _ _ => False) : eMeth C m sp to t Y τ Γ Z := h
theorem t_methR {Q : Addr → Prop} (g : Γ a = some (.ins C dx fs)) (l : fs.lookup m = none) (z : Q a) : ∃ a' dx' fs', T.ref a = .ref a' ∧ Γ a' = some (.ins C dx' fs') ∧ fs'.lookup m = none ∧ Q a' := ⟨a, dx, fs, rfl, g, l, z⟩
theorem t_make {sp : Sp3} {t : A3} (h : t Y τ Γ fun xs Γ1 => ∀ x dx, Γ1 x = none → Γ1 dx = none → dx ≠ x → sp (.ref x :: xs) (up Γ1 x (.ins C dx [])) (fun v Γ2 => v = .non ∧ Z (.ref x) Γ2) fun _ _ => False) : eMake C sp t Y τ Γ Z := h
theorem t_fs {t : J3} (h : t Str.empty Y τ Γ Z) : eFs t Y τ Γ Z := h
theorem t_jc {te : E3} {t : J3} {out : Str} (h : te Y τ Γ fun v Γ1 => ∃ y, v = .str y ∧ (out ++ y).length ≤ sizeLine ∧ t (out ++ y) Y τ Γ1 Z) : j3Cons te t out Y τ Γ Z := h
theorem t_fm {te : E3} (h : te Y τ Γ fun v Γ1 => (∃ z, v = .str z ∧ z.length ≤ sizeLine ∧ Z (.str z) Γ1) ∨ ∃ i : Int, v = .int i ∧ i.natAbs.log2 < 1920 ∧ Z (.str (toString i)) Γ1) : eFmt te Y τ Γ Z := h
theorem t_adds {i j : Str} {Q : Str → Str → Prop} (l : i.length + j.length ≤ sizeLine) (h : Q i j) : ∃ i' j', T.str i = .str i' ∧ T.str j = .str j' ∧ i'.length + j'.length ≤ sizeLine ∧ Q i' j' := ⟨i, j, rfl, rfl, l, h⟩
end
end L3
set_option Elab.async false
set_option linter.all false
set_option maxRecDepth 100000
namespace L2
open PySem PySem.Spec PyProof.Rows
section
variable {X : Cx} {elts : List Expr} {kk : Nat} {tpos : Pos}
end
end L2
namespace L3
open PySem PySem.Spec L2
section
variable {X : Cx} {E : St → XK} {p pos : Pos}
end
end L3
set_option Elab.async false
set_option linter.all false
set_option maxRecDepth 100000
namespace L3
open PySem PySem.Spec L2
section
variable {X : Cx} {E : St → XK}
def eDn : E3 := fun _ _ Γ Z => ∀ p, Γ p = none → Z (.ref p) (up Γ p (.dK []))
theorem qe_dnew {pos : Pos} : PE X (.Dict [] [] pos) (liE E eDn) :=
 weakE3 pe_dnew fun σ H Q τ Γ Y Z rs hr t vr xr => by
  intro p hp
  exact vr _ _ _ _ (.make hp) (hr.make (o3 := .dK []) hp ⟨[], upd_same, .nil⟩) r_ref (t p (hr.free hp))
end
end L3
set_option Elab.async false
set_option linter.all false
set_option maxRecDepth 100000
namespace L2
open PySem PySem.Spec PyProof.Rows
section
variable {prog : Program} {w : World} {A : Around} {E : Value → Shared → Prop} {s : Shared}
theorem zipM_item {z p r j1 j2 u1 u2 : Addr} {i : Nat} {vs ws : Array Value} {x y a b : Value} {Q : Value → Shared → Prop} (D : Apart z p r j1 j2 u1 u2)
  (hz : IsZip s.heap z p r .none) (hp : IsPair s.heap p (.ref j1) (.ref j2)) (hr : IsPair s.heap r a b)
  (h1 : s.heap.IsTupleIter j1 u1 i) (h2 : s.heap.IsListIter j2 u2 i) (l1 : s.heap.IsTuple u1 vs) (l2 : s.heap.IsList u2 ws) (hx : vs[i]? = some x) (hy : ws[i]? = some y)
  (q : ∀ h', IsZip h' z p r (rawInt s.heap.objs.size) → IsPair h' r x y → h'.IsTupleIter j1 u1 (i + 1) → h'.IsListIter j2 u2 (i + 1) → IsPair h' s.heap.objs.size x y → h'.objs.size = s.heap.objs.size + 1 →
   (∀ c o, c ≠ z → c ≠ r → c ≠ j1 → c ≠ j2 → s.heap.get? c = some o → h'.get? c = some o) → Q (.ref s.heap.objs.size) { s with heap := h' }) :
  wpAny (model prog w) A (Builtin.«zip.__next__» ⟨[.ref z], []⟩) (fun fin s' => ∃ v, fin = .done (.ret v) ∧ Q v s') E s := by
 show wpAny _ _ (field (.ref z) 2 >>= _) _ _ _
 refine wpAny_bind (wpAny_field hz rfl (x := .bool false) rfl ?_)
 show wpAny _ _ (field (.ref z) 3 >>= _) _ _ _
 refine wpAny_bind (wpAny_field hz rfl (x := .ref p) rfl ?_)
 refine wpAny_bind (wpAny_seqItems hp rfl ?_)
 show wpAny _ _ (Builtin.SmallTypes.ownedTupleIsFree (.ref z) >>= _) _ _ _
 refine wpAny_bind ?_
 unfold Builtin.SmallTypes.ownedTupleIsFree
 refine wpAny_bind (wpAny_field hz rfl (x := .none) rfl (wpAny_pure ?_))
 simp only [if_true]
 refine wpAny_bind (wpAny_rule ?_)
 refine wpAny_bind (wpAny_field hz rfl (x := .ref r) rfl ?_)
 refine wpAny_bind (wpAny_setField_rec hz (by simp) fun g1 z1 e1 => ?_)
 replace z1 : IsZip g1 z p r .ellipsis := z1
 refine wpAny_bind ?_
 simp only [List.zipIdx_cons, List.zipIdx_nil, List.forIn_cons, List.forIn_nil]
 refine wpAny_bind (wpAny_bind (wpAny_onRaise ?_))
 show wpAny _ _ (Builtin.SmallTypes.nextOf (.ref j1) >>= _) _ _ _
 refine wpAny_bind (nextT_item (h1.extBut e1.extBut D.j1z) (l1.extBut e1.extBut D.u1z) hx fun g2 a2 e2 => wpAny_pure ?_)
 have r2 : IsPair g2 r a b := e2.extBut _ _ D.rj1 (e1.extBut _ _ D.rz hr)
 refine wpAny_bind (wpAny_seqItems r2 rfl ?_)
 refine wpAny_bind (wpAny_updateSeq_pair r2 fun g3 r3 e3 => ?_)
 replace r3 : IsPair g3 r x b := r3
 refine wpAny_bind (wpAny_letGo (wpAny_pure ?_))
 refine wpAny_bind (wpAny_bind (wpAny_onRaise ?_))
 show wpAny _ _ (Builtin.SmallTypes.nextOf (.ref j2) >>= _) _ _ _
 refine wpAny_bind (wpAny_nextOf_list_item (((h2.extBut e1.extBut D.j2z).extBut e2.extBut D.j12.symm).extBut e3.extBut D.rj2.symm) (((l2.extBut e1.extBut D.u2z).extBut e2.extBut D.u2j1).extBut e3.extBut D.u2r) hy fun g4 a4 e4 => wpAny_pure ?_)
 have r4 : IsPair g4 r x b := e4.extBut _ _ D.rj2 r3
 refine wpAny_bind (wpAny_seqItems r4 rfl ?_)
 refine wpAny_bind (wpAny_updateSeq_pair r4 fun g5 r5 e5 => ?_)
 replace r5 : IsPair g5 r x y := r5
 refine wpAny_bind (wpAny_letGo (wpAny_pure (wpAny_pure ?_)))
 refine wpAny_bind (wpAny_seqItems r5 rfl ?_)
 refine wpAny_bind (wpAny_newTuple ?_)
 have sz : g5.objs.size = s.heap.objs.size := by rw [e5.1, e4.1, e3.1, e2.1, e1.1]
 have z5 : IsZip g5 z p r .ellipsis := e5.extBut _ _ D.rz.symm (e4.extBut _ _ D.j2z.symm (e3.extBut _ _ D.rz.symm (e2.extBut _ _ D.j1z.symm z1)))
 have k5 : ∀ c o, c ≠ z → c ≠ r → c ≠ j1 → c ≠ j2 → s.heap.get? c = some o → g5.get? c = some o := fun c o n1 n2 n3 n4 e =>
  e5.extBut _ _ n2 (e4.extBut _ _ n4 (e3.extBut _ _ n2 (e2.extBut _ _ n3 (e1.extBut _ _ n1 e))))
 have b1 : g5.IsTupleIter j1 u1 (i + 1) := ((a2.extBut e3.extBut D.rj1.symm).extBut e4.extBut D.j12).extBut e5.extBut D.rj1.symm
 have b2 : g5.IsListIter j2 u2 (i + 1) := a4.extBut e5.extBut D.rj2.symm
 have zl : z < g5.objs.size := Heap.lt_size z5
 show wpAny _ _ (Builtin.SmallTypes.ownedTupleHandOut (.ref z) (.ref g5.objs.size) >>= _) _ _ _
 refine wpAny_bind ?_
 unfold Builtin.SmallTypes.ownedTupleHandOut
 have z6 : IsZip (g5.push { cls := .type "tuple", data := .seq #[x, y] }) z p r .ellipsis := Heap.get?_push_of_some _ z5
 refine wpAny_bind (wpAny_setField_rec z6 (by simp) fun g7 z7 e7 => ?_)
 replace z7 : IsZip g7 z p r (rawInt g5.objs.size) := z7
 refine wpAny_setField_rec z7 (by simp) fun g8 z8 e8 => ?_
 replace z8 : IsZip g8 z p r (rawInt g5.objs.size) := z8
 have up : ∀ c o, c ≠ z → g5.get? c = some o → g8.get? c = some o := fun c o n1 e => e8.extBut _ _ n1 (e7.extBut _ _ n1 (Heap.get?_push_of_some _ e))
 have t8 : IsPair g8 g5.objs.size x y := e8.extBut _ _ (Nat.ne_of_gt zl) (e7.extBut _ _ (Nat.ne_of_gt zl) (Heap.get?_push_size _ rfl))
 have s8 : g8.objs.size = g5.objs.size + 1 := by rw [e8.1, e7.1, Heap.size_push]
 rw [sz] at z8 t8 s8
 refine wpAny_pure ⟨_, rfl, ?_⟩
 show Q (.ref g5.objs.size) _
 rw [sz]
 exact q g8 z8 (up _ _ D.rz r5) (itAt b1 fun o e => up _ o D.j1z e) (b2.at fun o e => up _ o D.j2z e) t8 s8 fun c o n1 n2 n3 n4 e => up c o n1 (k5 c o n1 n2 n3 n4 e)
theorem zipM_end {z p r j1 j2 u1 u2 : Addr} {i : Nat} {vs ws : Array Value} {a b : Value} {Q : Fin → Shared → Prop} (hh : A.handled = none) (D : Apart z p r j1 j2 u1 u2)
  (hz : IsZip s.heap z p r .none) (hp : IsPair s.heap p (.ref j1) (.ref j2)) (hr : IsPair s.heap r a b)
  (h1 : s.heap.IsTupleIter j1 u1 i) (h2 : s.heap.IsListIter j2 u2 i) (l1 : s.heap.IsTuple u1 vs) (l2 : s.heap.IsList u2 ws) (hend : vs[i]? = none ∨ ws[i]? = none)
  (q : ∀ h' e, (∀ c o, c ≠ z → c ≠ r → c ≠ j1 → c ≠ j2 → s.heap.get? c = some o → h'.get? c = some o) → (∃ o, h'.get? e = some o ∧ o.cls = .type "StopIteration") → E (.ref e) { s with heap := h' }) :
  wpAny (model prog w) A (Builtin.«zip.__next__» ⟨[.ref z], []⟩) Q E s := by
 show wpAny _ _ (field (.ref z) 2 >>= _) _ _ _
 refine wpAny_bind (wpAny_field hz rfl (x := .bool false) rfl ?_)
 show wpAny _ _ (field (.ref z) 3 >>= _) _ _ _
 refine wpAny_bind (wpAny_field hz rfl (x := .ref p) rfl ?_)
 refine wpAny_bind (wpAny_seqItems hp rfl ?_)
 show wpAny _ _ (Builtin.SmallTypes.ownedTupleIsFree (.ref z) >>= _) _ _ _
 refine wpAny_bind ?_
 unfold Builtin.SmallTypes.ownedTupleIsFree
 refine wpAny_bind (wpAny_field hz rfl (x := .none) rfl (wpAny_pure ?_))
 simp only [if_true]
 refine wpAny_bind (wpAny_rule ?_)
 refine wpAny_bind (wpAny_field hz rfl (x := .ref r) rfl ?_)
 refine wpAny_bind (wpAny_setField_rec hz (by simp) fun g1 z1 e1 => ?_)
 replace z1 : IsZip g1 z p r .ellipsis := z1
 refine wpAny_bind ?_
 simp only [List.zipIdx_cons, List.zipIdx_nil, List.forIn_cons, List.forIn_nil]
 refine wpAny_bind (wpAny_bind (wpAny_onRaise ?_))
 show wpAny _ _ (Builtin.SmallTypes.nextOf (.ref j1) >>= _) _ _ _
 cases hx : vs[i]? with
 | none =>
  refine wpAny_bind (nextT_end hh (h1.extBut e1.extBut D.j1z) (l1.extBut e1.extBut D.u1z) hx fun g2 e e2 he => ?_)
  obtain ⟨oe, he1, he2⟩ := he
  have z2 : IsZip g2 z p r .ellipsis := e2 _ _ D.j1z.symm z1
  have nez : e ≠ z := fun x => by subst x; rw [z2] at he1; cases he1; simp at he2
  refine wpAny_setField_rec z2 (by simp) fun g3 _ e3 => q g3 e (fun c o n1 _ n3 _ x => e3.extBut _ _ n1 (e2 _ _ n3 (e1.extBut _ _ n1 x))) ⟨oe, e3.extBut _ _ nez he1, he2⟩
 | some x =>
  have hy : ws[i]? = none := by rcases hend with h | h; rw [hx] at h; cases h; exact h
  refine wpAny_bind (nextT_item (h1.extBut e1.extBut D.j1z) (l1.extBut e1.extBut D.u1z) hx fun g2 a2 e2 => wpAny_pure ?_)
  have r2 : IsPair g2 r a b := e2.extBut _ _ D.rj1 (e1.extBut _ _ D.rz hr)
  refine wpAny_bind (wpAny_seqItems r2 rfl ?_)
  refine wpAny_bind (wpAny_updateSeq_pair r2 fun g3 r3 e3 => ?_)
  refine wpAny_bind (wpAny_letGo (wpAny_pure ?_))
  refine wpAny_bind (wpAny_bind (wpAny_onRaise ?_))
  show wpAny _ _ (Builtin.SmallTypes.nextOf (.ref j2) >>= _) _ _ _
  refine wpAny_bind (wpAny_nextOf_list_end hh (((h2.extBut e1.extBut D.j2z).extBut e2.extBut D.j12.symm).extBut e3.extBut D.rj2.symm) (((l2.extBut e1.extBut D.u2z).extBut e2.extBut D.u2j1).extBut e3.extBut D.u2r) hy fun g4 e e4 he => ?_)
  obtain ⟨oe, he1, he2⟩ := he
  have z4 : IsZip g4 z p r .ellipsis := e4 _ _ D.j2z.symm (e3.extBut _ _ D.rz.symm (e2.extBut _ _ D.j1z.symm z1))
  have nez : e ≠ z := fun x => by subst x; rw [z4] at he1; cases he1; simp at he2
  refine wpAny_setField_rec z4 (by simp) fun g5 _ e5 => q g5 e (fun c o n1 n2 n3 n4 x => e5.extBut _ _ n1 (e4 _ _ n4 (e3.extBut _ _ n2 (e2.extBut _ _ n3 (e1.extBut _ _ n1 x))))) ⟨oe, e5.extBut _ _ nez he1, he2⟩
end
def Itm (K : PySem.W.Frag) (a b : Addr) : It :=
  ⟨fun i H => ∃ xs ys x y, SqT K H a xs ∧ SqL K H b ys ∧ xs[i]? = some x ∧ ys[i]? = some y,
   fun i H v H' => ∃ p x y, H p = none ∧ v = .ref p ∧ H' = upd H p (.tup [x, y]) ∧ (∀ xs, SqT K H a xs → xs[i]? = some x) ∧ (∀ ys, SqL K H b ys → ys[i]? = some y),
   fun i H => ∃ xs ys, SqT K H a xs ∧ SqL K H b ys ∧ (xs.length ≤ i ∨ ys.length ≤ i)⟩
theorem turn_zipM {P : Program} {w : World} {K : PySem.W.Frag} {elts : List Expr} {kk : Nat} {pos : Pos} (a b z p r j1 j2 : Addr) (D : Apart z p r j1 j2 a b) :
  Turn P w K (.Tuple elts kk pos) (Itm K a b) [z, p, r, j1, j2] z (fun i h => IsZip h z p r .none ∧ IsPair h p (.ref j1) (.ref j2) ∧ (∃ u v, IsPair h r u v) ∧ h.IsTupleIter j1 a i ∧ h.IsListIter j2 b i) where
 mem := by simp
 obj := fun i h st c hc => by
  obtain ⟨hz, hp, ⟨u, v, hr⟩, ⟨o1, e1, _, d1⟩, ⟨o2, e2, _, d2⟩⟩ := st
  simp only [List.mem_cons, List.not_mem_nil, or_false] at hc
  rcases hc with rfl | rfl | rfl | rfl | rfl
  ·exact ⟨_, hz, fun v z => by have z' : Data.fields _ = Data.cell v := z; cases z'⟩
  ·exact ⟨_, hp, fun v z => by have z' : Data.seq _ _ = Data.cell v := z; cases z'⟩
  ·exact ⟨_, hr, fun v z => by have z' : Data.seq _ _ = Data.cell v := z; cases z'⟩
  ·exact ⟨o1, e1, fun v z => by rw [d1] at z; cases z⟩
  ·exact ⟨o2, e2, fun v z => by rw [d2] at z; cases z⟩
 keep := fun i h h' st k => by
  obtain ⟨hz, hp, ⟨u, v, hr⟩, h1, h2⟩ := st
  exact ⟨k z (by simp) _ hz, k p (by simp) _ hp, ⟨u, v, k r (by simp) _ hr⟩, itAt h1 fun o e => k j1 (by simp) o e, h2.at fun o e => k j2 (by simp) o e⟩
 item := by
  intro X hP hw hK hc i pins s σ H E I hf st hg
  subst hP hw hK
  obtain ⟨hz, hp, ⟨u, v, hr⟩, h1, h2⟩ := st
  obtain ⟨xs, ys, x, y, hxs, hys, hx, hy⟩ := hg
  obtain ⟨its, rv, pl, _⟩ := I.tuple hxs
  obtain ⟨its2, rv2, pl2, _⟩ := I.list hys
  obtain ⟨vx, ex, rx⟩ := rv.get hx
  obtain ⟨vy, ey, ry⟩ := rv2.get hy
  have hT : s.TypeIs (.ref z) "zip" := ⟨_, hz, rfl⟩
  have n0 : H s.heap.objs.size = none := I.hok.fresh (Nat.le_refl _)
  unfold pyNext
  refine wpAny_bind (wpAny_attempt (wpAny_callSpecial?_slot (name := Str.ofString "__next__") hT F.slot_zip_next (wpAny_call_entry F.slot_zip_next hT F.entry_zip_next
   (zipM_item D hz hp hr h1 h2 pl pl2.isList (by simpa using ex) (by simpa using ey) fun g a1 a2 a3 a4 a5 a6 a7 => wpAny_pure ?_) (F.args_zip_next_1 _))))
  refine ⟨_, rfl, ?_⟩
  refine wpAny_letOwnedTupleGo_zip a1 fun g2 b1 b2 => ?_
  have zl : z < s.heap.objs.size := Heap.lt_size hz
  have lt : ∀ c ∈ [z, p, r, j1, j2], c < s.heap.objs.size := fun c hc => by
   simp only [List.mem_cons, List.not_mem_nil, or_false] at hc
   obtain ⟨_, q1, _⟩ := h1
   obtain ⟨_, q2, _⟩ := h2
   rcases hc with rfl | rfl | rfl | rfl | rfl
   ·exact zl
   ·exact Heap.lt_size hp
   ·exact Heap.lt_size hr
   ·exact Heap.lt_size q1
   ·exact Heap.lt_size q2
  refine ⟨.ref s.heap.objs.size, upd H s.heap.objs.size (.tup [x, y]), ?_, rfl, ⟨_, x, y, n0, rfl, rfl, fun zs hzs => by rw [I.tuple_inj hzs hxs]; exact hx, fun zs hzs => by rw [I.list_inj hzs hys]; exact hy⟩, ⟨b1, ?_, ⟨vx, vy, ?_⟩, ?_, ?_⟩, fun c hc => ?_⟩
  ·refine I.turnedNew (t' := s.toks) (ch := [z, r, j1, j2]) (fun c o hc e => ?_) (fun c hc => hf c ?_) (Nat.le_refl _) ⟨by show 2 ≤ sizeLine; decide, [vx, vy], .cons rx (.cons ry .nil), ?_⟩
   ·simp only [List.mem_cons, List.not_mem_nil, or_false, not_or] at hc
    exact b2.extBut _ _ hc.1 (a7 c o hc.1 hc.2.1 hc.2.2.1 hc.2.2.2 e)
   ·simp only [List.mem_cons, List.not_mem_nil, or_false] at hc ⊢
    rcases hc with rfl | rfl | rfl | rfl <;> simp
   ·exact ⟨_, b2.extBut _ _ (Nat.ne_of_gt zl) a5, rfl, 0, rfl⟩
  ·exact b2.extBut _ _ D.pz (a7 _ _ D.pz D.pr D.pj1 D.pj2 hp)
  ·exact b2.extBut _ _ D.rz a2
  ·exact a3.extBut b2.extBut D.j1z
  ·exact a4.extBut b2.extBut D.j2z
  ·rw [upd_ne (Nat.ne_of_lt (lt c hc))]
   exact (hf c hc).1
 done := by
  intro X hP hw hK hc i pins s σ H E I hf st hg
  subst hP hw hK
  obtain ⟨hz, hp, ⟨u, v, hr⟩, h1, h2⟩ := st
  obtain ⟨xs, ys, hxs, hys, he⟩ := hg
  obtain ⟨its, rv, pl, _⟩ := I.tuple hxs
  obtain ⟨its2, rv2, pl2, _⟩ := I.list hys
  have l1 := rv.length
  have l2 := rv2.length
  have hend : its.toArray[i]? = none ∨ its2.toArray[i]? = none := he.imp (fun e => by simp; omega) (fun e => by simp; omega)
  have hT : s.TypeIs (.ref z) "zip" := ⟨_, hz, rfl⟩
  unfold pyNext
  refine wpAny_bind (wpAny_attempt (wpAny_callSpecial?_slot (name := Str.ofString "__next__") hT F.slot_zip_next (wpAny_call_entry F.slot_zip_next hT F.entry_zip_next
   (zipM_end (I.ok.hd hc) D hz hp hr h1 h2 pl pl2.isList hend fun g e kk he => ?_) (F.args_zip_next_1 _))))
  obtain ⟨o, ho, hcl⟩ := he
  refine wpAny_bind (wpAny_isInstance (T := "StopIteration") (b := true) ⟨o, ho, hcl⟩ isSubtype_stop ?_)
  refine wpAny_pure ⟨rfl, I.turnedAll (t' := s.toks) (ch := [z, r, j1, j2]) (fun c o hc e => ?_) (fun c hc => hf c ?_)⟩
  ·simp only [List.mem_cons, List.not_mem_nil, or_false, not_or] at hc
   exact kk c o hc.1 hc.2.1 hc.2.2.1 hc.2.2.2 e
  ·simp only [List.mem_cons, List.not_mem_nil, or_false] at hc ⊢
   rcases hc with rfl | rfl | rfl | rfl <;> simp
 self := fun _ _ _ _ _ st h => wpAny_pyIter_zip st.1 h
abbrev mH1 (h : Heap) (a : Addr) : Heap := h.push { cls := .type "tuple_iterator", data := .fields #[.ref a, .int 0 0] }
abbrev mH2 (h : Heap) (a b : Addr) : Heap := (mH1 h a).push { cls := .type "list_iterator", data := .fields #[.ref b, .int 0 0] }
abbrev mH3 (h : Heap) (a b : Addr) : Heap := (mH2 h a b).push { cls := .type "tuple", data := .seq #[.ref h.objs.size, .ref (mH1 h a).objs.size] }
abbrev mH4 (h : Heap) (a b : Addr) : Heap := (mH3 h a b).push { cls := .type "tuple", data := .seq #[.none, .none] }
abbrev mH5 (h : Heap) (a b : Addr) : Heap := (mH4 h a b).push { cls := .type "zip", data := .fields #[.none, .bool false, .bool false, .ref (mH2 h a b).objs.size, .ref (mH3 h a b).objs.size] }
theorem zipM_new (a b : Addr) (vs ws : Array Value) :
  Meets (Builtin.«zip.__new__» ⟨[.type "zip", .ref a, .ref b], []⟩) (fun _ R s => s.heap.IsTuple a vs ∧ s.heap.IsList b ws ∧ R (.ok (.ret (.ref (mH4 s.heap a b).objs.size))) { s with heap := mH5 s.heap a b }) :=
 .of_wp fun prog w A R s h => by
  obtain ⟨hp, g, d, tk, os⟩ := s; obtain ⟨la, lb, h⟩ := h
  have hsub := sub_zip
  have L1 : Heap.IsTuple (Shared.heap ⟨hp, g, d, tk, os⟩) a vs := la
  have L2 : Heap.IsList (Shared.heap ⟨hp.push { cls := .type "tuple_iterator", data := .fields #[.ref a, .int 0 0] }, g, d, tk, os⟩) b ws := Heap.IsList.push lb _
  wp_walk using wpAny_pyIter_tuple L1, wpAny_pyIter_list L2
  exact ⟨_, rfl, h⟩
theorem call_zipM {prog : Program} {w : World} {A : Around} {E : Value → Shared → Prop} {s : Shared} {a b : Addr} {vs ws : Array Value} {Q : Value → Shared → Prop} (la : s.heap.IsTuple a vs) (lb : s.heap.IsList b ws)
  (q : ∀ h', IsZip h' (s.heap.objs.size + 4) (s.heap.objs.size + 2) (s.heap.objs.size + 3) .none → IsPair h' (s.heap.objs.size + 2) (.ref s.heap.objs.size) (.ref (s.heap.objs.size + 1)) →
   IsPair h' (s.heap.objs.size + 3) .none .none → h'.IsTupleIter s.heap.objs.size a 0 → h'.IsListIter (s.heap.objs.size + 1) b 0 → (∀ c o, s.heap.get? c = some o → h'.get? c = some o) → Q (.ref (s.heap.objs.size + 4)) { s with heap := h' }) :
  wpAny (model prog w) A (call (.type "zip") [.ref a, .ref b]) Q E s := by
 refine callType_new F.called_zip (by decide) (F.typeCall_zip_2 _ _) (F.newCall_zip_2 _ _) (fun obj => F.args_object_init_3 obj _ _) F.entry_zip_new (zipM_new a b vs ws) ⟨la, lb, ?_⟩
 have z1 : (mH1 s.heap a).objs.size = s.heap.objs.size + 1 := Heap.size_push ..
 have z2 : (mH2 s.heap a b).objs.size = s.heap.objs.size + 2 := by rw [Heap.size_push, z1]
 have z3 : (mH3 s.heap a b).objs.size = s.heap.objs.size + 3 := by rw [Heap.size_push, z2]
 have z4 : (mH4 s.heap a b).objs.size = s.heap.objs.size + 4 := by rw [Heap.size_push, z3]
 have g5 : (mH5 s.heap a b).get? (mH4 s.heap a b).objs.size = some _ := Heap.get?_push_size _ rfl
 have g4 : (mH5 s.heap a b).get? (mH3 s.heap a b).objs.size = some _ := Heap.get?_push_of_some _ (Heap.get?_push_size _ rfl)
 have g3 : (mH5 s.heap a b).get? (mH2 s.heap a b).objs.size = some _ := Heap.get?_push_of_some _ (Heap.get?_push_of_some _ (Heap.get?_push_size _ rfl))
 have g2 : (mH5 s.heap a b).get? (mH1 s.heap a).objs.size = some _ := Heap.get?_push_of_some _ (Heap.get?_push_of_some _ (Heap.get?_push_of_some _ (Heap.get?_push_size _ rfl)))
 have g1 : (mH5 s.heap a b).get? s.heap.objs.size = some _ := Heap.get?_push_of_some _ (Heap.get?_push_of_some _ (Heap.get?_push_of_some _ (Heap.get?_push_of_some _ (Heap.get?_push_size _ rfl))))
 show _ ∧ _
 rw [z2, z3, z4] at g5
 rw [z1, z2] at g3
 rw [z3] at g4
 rw [z1] at g2
 rw [z4]
 exact ⟨⟨_, g5, rfl⟩, q _ g5 g3 g4 ⟨_, g1, rfl, rfl⟩ ⟨_, g2, rfl, rfl⟩ fun c o x => Heap.get?_push_of_some _ (Heap.get?_push_of_some _ (Heap.get?_push_of_some _ (Heap.get?_push_of_some _ (Heap.get?_push_of_some _ x))))⟩
section
variable {X : Cx} {elts : List Expr} {kk : Nat} {tpos : Pos}
def iZipM (K : PySem.W.Frag) (ta : TA) : TI := fun σ H R => ta σ H fun vs H1 => ∃ a b xs ys, vs = [.ref a, .ref b] ∧ SqT K H1 a xs ∧ SqL K H1 b ys ∧ R (Itm K a b) H1
theorem pi_zipM {a b : Expr} {ta : TA} {p pos : Pos} (hg : Gl X "zip") (hm : X.mg "zip" = none) (ha : PA X [a, b] ta) (hs : starEach [a, b] X.env = [(false, eval a X.env), (false, eval b X.env)] := by rfl) (hs2 : starEach [b] X.env = [(false, eval b X.env)] := by rfl) :
  PI X (.Tuple elts kk tpos) (.Call (.Name "zip" p) [a, b] [] pos) (iZipM X.K ta) := by
 refine .mk ?_
 intro pins s σ H R I h
 refine Call_ (ld_blt I hg hm boot_zip (PyProof.Rows.callWith_type1 (thn (ha pos pins s σ H _ I h) fun us s1 ⟨vs, H1, I1, r1, q1⟩ => ?_) (by rw [hs, hs2]) (by rw [hs2]; rfl)))
 obtain ⟨u1, u2, xs, ys, e, hx, hy, q⟩ := q1
 subst e
 cases r1 with
 | cons r rr =>
  cases rr with
  | cons r' rr =>
   cases rr
   cases r
   cases r'
   obtain ⟨its, rv, pl, _⟩ := I1.tuple hx
   obtain ⟨its2, rv2, pl2, _⟩ := I1.list hy
   obtain ⟨o1, e1, _⟩ := id pl
   obtain ⟨o2, e2, _⟩ := pl2.isList
   refine call_zipM pl pl2.isList fun h' hz hp hr j1 j2 k => ?_
   refine wpAny_pyIter_zip hz ?_
   refine ⟨s1.heap.objs.size + 4, [s1.heap.objs.size + 4, s1.heap.objs.size + 2, s1.heap.objs.size + 3, s1.heap.objs.size, s1.heap.objs.size + 1], _, _, H1, rfl, I1.kept (t' := s1.toks) k, turn_zipM u1 u2 _ _ _ _ _ (apart_new (Heap.lt_size e1) (Heap.lt_size e2)), ⟨hz, hp, ⟨_, _, hr⟩, j1, j2⟩, fun c hc => ?_, q⟩
   have hc' : s1.heap.objs.size ≤ c := by
    simp only [List.mem_cons, List.not_mem_nil, or_false] at hc
    rcases hc with rfl | rfl | rfl | rfl | rfl <;> first | exact Nat.le_refl _ | exact Nat.le_add_right _ _
   exact I1.fpOk hc' (I1.hok.fresh hc')
end
end L2
set_option Elab.async false
set_option linter.all false
set_option maxRecDepth 100000
namespace L2
open PySem PySem.Spec PyProof.Rows
def compIn (elt : Expr) (gens : List Comprehension) (scope : Scope) (pos : Pos) (d : Nat) (acc : Value) (env : Env) : Sem Unit :=
 match gens[d + 1]? with
 | some g' => do
  let x ← eval g'.iter env
  standAt g'.iter.pos
  let x ← foldedSetIterable g'.iter env x
  let _ ← runOwn (.compStart (.ListComp elt gens scope pos) (d + 1) (← holding [x] (pyIter x)) acc env) env
 | none => do let _ ← call (.builtin "list.append") [acc, ← eval elt env]
theorem compTurn_gens {elt tg iter : Expr} {ifs : List Expr} {gens : List Comprehension} {scope : Scope} {pos : Pos} {d : Nat} {it acc : Value} {env : Env} (hd : gens[d]? = some ⟨tg, iter, ifs, 0⟩) (hg : ∀ g ∈ gens, g.is_async = 0) :
  compTurn (.ListComp elt gens scope pos) d it acc env = (do
   standAt iter.pos
   match ← pyNext it with
   | none => pure (.done .next)
   | some v =>
    letOwnedTupleGo tg it v
    assign tg env v
    let mut ok := true
    for c in ifs do
     if ok then ok ← isTrue c env (eval c env)
    if ok then
     compIn elt gens scope pos d acc env
    again (.compLoop (.ListComp elt gens scope pos) d it acc env)) := by
 unfold compTurn compIn
 dsimp only
 rw [hd]
 cases e : gens[d + 1]? with
 | none => rfl
 | some g =>
  obtain ⟨t2, i2, f2, a2⟩ := g
  have : a2 = 0 := hg _ (List.mem_of_getElem? e)
  subst this
  simp only [bind_assoc, pure_bind]
  rfl
theorem compLoop_gens {prog : Program} {w : World} {A : Around} {R : Result → Shared → Prop} {s : Shared} {elt tg iter : Expr} {ifs : List Expr} {gens : List Comprehension} {scope : Scope} {pos : Pos} {d : Nat} {it acc : Value} {env : Env} (hd : gens[d]? = some ⟨tg, iter, ifs, 0⟩) (hga : ∀ g ∈ gens, g.is_async = 0) (I : Nat → Shared → Prop)
  (turn : ∀ n s, I n s → wpAny (model prog w) A (pyNext it) (fun r s₁ => match r with
   | none => R (.ok .next) s₁
   | some v => wpAny (model prog w) A (letOwnedTupleGo tg it v) (fun _ s₁' => wpAny (model prog w) A (assign tg env v) (fun _ s₂ =>
     wpAny (model prog w) A (forIn ifs true fun c r => if r = true then do let ok ← isTrue c env (eval c env); pure (ForInStep.yield ok) else pure (ForInStep.yield r)) (fun ok s₃ =>
      if ok = true then wpAny (model prog w) A (compIn elt gens scope pos d acc env) (fun _ s₅ => ∃ m, m < n ∧ I m s₅) (notedBy (model prog w) A env fun e s' => R (.error e) s') s₃
      else ∃ m, m < n ∧ I m s₃) (notedBy (model prog w) A env fun e s' => R (.error e) s') s₂) (notedBy (model prog w) A env fun e s' => R (.error e) s') s₁') (notedBy (model prog w) A env fun e s' => R (.error e) s') s₁) (notedBy (model prog w) A env fun e s' => R (.error e) s') s)
  (n : Nat) (h : I n s) :
  codeAny (model prog w) A (.compLoop (.ListComp elt gens scope pos) d it acc env) R s := by
 refine codeAny_loop rfl I (fun n s hI => ?_) n h
 show wpAny _ A ((compTurn (.ListComp elt gens scope pos) d it acc env).onRaise (fun x => do noteFrame x env; theTreesLotGoes x)) _ _ s
 refine wpAny_noted ?_
 rw [compTurn_gens hd hga]
 refine wpAny_bind (wpAny_standAt (wpAny_bind (wpAny_mono (turn n s hI) (fun r s₁ h₁ => ?_) fun _ _ h' => h')))
 cases r with
 | none => exact wpAny_pure h₁
 | some v =>
  refine wpAny_bind (wpAny_mono h₁ (fun _ s₁' h₁' => ?_) fun _ _ h' => h')
  refine wpAny_bind (wpAny_mono h₁' (fun _ s₂ h₂ => wpAny_bind (wpAny_mono h₂ (fun ok s₃ h₃ => ?_) fun _ _ h' => h')) fun _ _ h' => h')
  cases ok with
  | false => exact wpAny_pure ⟨rfl, h₃⟩
  | true => exact wpAny_bind (wpAny_mono h₃ (fun _ s₅ h₅ => wpAny_pure ⟨rfl, h₅⟩) fun _ _ h' => h')
theorem compStart_gens {prog : Program} {w : World} {A : Around} {R : Result → Shared → Prop} {s : Shared} {elt tg iter : Expr} {ifs : List Expr} {gens : List Comprehension} {scope : Scope} {pos : Pos} {d : Nat} {it acc : Value} {env : Env} (hd : gens[d]? = some ⟨tg, iter, ifs, 0⟩)
  (h0 : codeAny (model prog w) A (.compLoop (.ListComp elt gens scope pos) d it acc env) R s)
  (h : wpAny (model prog w) A (pyIter it) (fun it' s' => codeAny (model prog w) A (.compLoop (.ListComp elt gens scope pos) d it' acc env) R s')
   (notedBy (model prog w) A env fun x s' => R (.error x) s') s) :
  codeAny (model prog w) A (.compStart (.ListComp elt gens scope pos) d it acc env) R s := by
 refine codeAny_of_tree ?_
 show wpAny _ _ ((compStart (.ListComp elt gens scope pos) d it acc env).onRaise (fun x => do noteFrame x env; standAt theWindowsPlace)) _ _ s
 refine wpAny_notedAt ?_
 unfold compStart
 have hc : (clausesOf (.ListComp elt gens scope pos))[d]? = some ⟨tg, iter, ifs, 0⟩ := hd
 rw [hc]
 show wpAny _ _ (ask >>= _) _ _ s
 refine wpAny_bind (wpAny_askSetting (wpAny_ite ?_))
 split
 ·first
   | exact wpAny_bind (wpAny_pure (wpAny_pure (And.intro rfl h0)))
   | exact wpAny_pure (And.intro rfl h0)
 ·first
   | exact wpAny_bind (wpAny_rule (wpAny_bind (wpAny_standAt (wpAny_bind (wpAny_mono h (fun it' s' h' => wpAny_pure (And.intro rfl h')) fun _ _ x => x)))))
   | (refine wpAny_bind (wpAny_rule ?_); show wpAny _ _ (standAt iter.pos >>= _) _ _ s; exact wpAny_bind (wpAny_standAt (wpAny_bind (wpAny_mono h (fun it' s' h' => wpAny_pure (And.intro rfl h')) fun _ _ x => x))))
end L2
set_option Elab.async false
set_option linter.all false
set_option maxRecDepth 100000
namespace L2
open PySem PySem.Spec PyProof.Rows
abbrev TM := St → Hp → (St → Hp → Prop) → Prop
structure PM (X : Cx) (m : Sem Unit) (t : TM) : Prop where
 run : ∀ (pins : List (Addr × Obj)) (s : Shared) (σ : St) (H : Hp) (Q : St → Hp → Prop), Inv X pins σ H s → t σ H Q → wpAny (model X.prog X.w) X.A m (fun _ s' => ∃ σ' H', Inv X pins σ' H' s' ∧ Q σ' H') X.xe s
section
variable {X : Cx} {elt tg iter : Expr} {ifs : List Expr} {gens : List Comprehension} {scope : Scope} {pos : Pos} {d : Nat} {D : Addr} {te : TE} {wi : TI} {g : TG} {tc : TT} {tm : TM}
theorem weakM {m : Sem Unit} {t t' : TM} (h : PM X m t) (w : ∀ σ H Q, t' σ H Q → t σ H Q) : PM X m t' := ⟨fun pins s σ H Q I q => h.run pins s σ H Q I (w σ H Q q)⟩
def tEmit (D : Addr) (te : TE) : TM := fun σ H Q => te σ H fun y H1 => ∃ ys, H1 D = some (.lst ys) ∧ ys.length < sizeLine ∧ Q σ (upd H1 D (.lst (ys ++ [y])))
theorem pm_emit (he : PE X elt te) (hd : gens[d + 1]? = none) : PM X (compIn elt gens scope pos d (.ref D) X.env) (tEmit D te) := by
 refine ⟨fun pins s σ H Q I h => ?_⟩
 unfold compIn
 rw [hd]
 refine wpAny_bind (thn (he pins s σ H _ I h) fun u s1 ⟨y, H1, I1, r1, ys, d1, hy, q1⟩ => ?_)
 refine wpAny_bind (thn (mt_append _ s1 σ H1 (.ref D) [y] (.ref D) [u] (fun _ H2 => Q σ H2) I1 rfl (.cons r1 .nil) ⟨_, ys, y, rfl, rfl, d1, hy, q1⟩) fun _ s2 ⟨_, H2, I2, _, q2⟩ => ?_)
 exact wpAny_pure ⟨σ, H2, I2, q2⟩
def tForM (wi : TI) (g : TG) (tc : TT) (tm : TM) : TM := fun σ H Q => wi σ H fun J H1 => ∃ W : Nat → Nat → St → Hp → Prop, (∃ m, W 0 m σ H1) ∧ ∀ i m σ' H', W i m σ' H' →
 ((J.stop i H' ∧ Q σ' H') ∨ (J.go i H' ∧ ∃ N : St → Hp → Prop, (∀ σ H, N σ H → ∃ m', m' < m ∧ W (i + 1) m' σ H) ∧ ∀ x H2, J.yld i H' x H2 → g x σ' H2 fun σ3 H3 => tc σ3 H3 fun b H4 => if b = true then tm σ3 H4 N else N σ3 H4))
theorem pm_for (hx : X.xe = fun _ _ => False) (hc : X.calm = true) (hga : ∀ g ∈ gens, g.is_async = 0) (hd : gens[d + 1]? = some ⟨tg, iter, ifs, 0⟩) (hi : PI X tg iter wi) (hg : PG X tg g) (ht : PTs X ifs tc) (hm : PM X (compIn elt gens scope pos (d + 1) (.ref D) X.env) tm)
  (hs : ∀ x, foldedSetIterable iter X.env x = pure x := by intro _; rfl) : PM X (compIn elt gens scope pos d (.ref D) X.env) (tForM wi g tc tm) := by
 refine ⟨fun pins s σ H Q I h => ?_⟩
 have nox : ∀ {α : Type} {t : Sem α} {Q1 : α → Shared → Prop} {E1 : Value → Shared → Prop} {s : Shared}, wpAny (model X.prog X.w) X.A t Q1 X.xe s → wpAny (model X.prog X.w) X.A t Q1 E1 s := fun {α t Q1 E1 s} h => by
  rw [hx] at h
  exact wpAny_mono h (fun _ _ q => q) fun _ _ f => f.elim
 unfold compIn
 rw [hd]
 refine wpAny_bind (thn (hi pins s σ H _ I h) fun v s1 h1 => ?_)
 refine wpAny_bind (wpAny_standAt ?_)
 refine wpAny_bind (wpAny_of_eq (hs v) ?_)
 refine wpAny_bind (wpAny_holding (thn h1 fun itv s2 h2 => ?_))
 obtain ⟨it, fp, tn, J, H2, e, I2, T, st2, f2, W, ⟨m0, w0⟩, turn⟩ := h2
 subst e
 have stat : ∀ {H' : Hp}, (∀ b ∈ fp, H' b = none) → ∀ b ∈ fp, FpOk X pins H' b := fun hn b hb => ⟨hn b hb, (f2 b hb).2⟩
 refine wpAny_bind (wpAny_runOwn (Q := fun _ s' => wpAny (model X.prog X.w) X.A (pure ()) (fun _ s' => ∃ σ' H', Inv X pins σ' H' s' ∧ Q σ' H') X.xe s') ?_)
 have loop : codeAny (model X.prog X.w) (X.A.mark none) (.compLoop (.ListComp elt gens scope pos) (d + 1) (.ref it) (.ref D) X.env)
   (fun r s' => match r with | .ok f => wpAny (model X.prog X.w) X.A (pure ()) (fun _ s' => ∃ σ' H', Inv X pins σ' H' s' ∧ Q σ' H') X.xe s' | .error e => cameBackBy (model X.prog X.w) X.A X.env X.xe e s') s2 := by
  show codeAny (model X.prog X.w) X.A _ _ s2
  refine compLoop_gens hd hga (fun n s' => ∃ i σ' H', Inv X pins σ' H' s' ∧ tn i s'.heap ∧ (∀ b ∈ fp, H' b = none) ∧ W i n σ' H') ?_ m0 ⟨0, σ, H2, I2, st2, fun b hb => (f2 b hb).1, w0⟩
  rintro n s3 ⟨i, σ3, H3, I3, st3, fr3, w3⟩
  rcases turn i n σ3 H3 w3 with ⟨stop, qn⟩ | ⟨go, N, hN, step⟩
  ·refine nox (thn (T.done X rfl rfl rfl hc i pins s3 σ3 H3 X.xe I3 (stat fr3) st3 stop) fun r s4 ⟨hr, I4⟩ => ?_)
   subst hr
   exact wpAny_pure ⟨σ3, H3, I4, qn⟩
  ·refine nox (thn (T.item X rfl rfl rfl hc i pins s3 σ3 H3 X.xe I3 (stat fr3) st3 go) fun r s4 ⟨u, hr, h4⟩ => ?_)
   subst hr
   refine nox (thn h4 fun _ s5 ⟨x, H5, I5, r5, y5, st5, fr5⟩ => ?_)
   have I5' := I5.pinned (stat fr5) (T.obj _ _ st5)
   have again : ∀ {σ7 : St} {H7 : Hp} {s7 : Shared}, Inv X (pins ++ pinsAt fp s5.heap) σ7 H7 s7 → N σ7 H7 → ∃ m, m < n ∧ ∃ i σ' H', Inv X pins σ' H' s7 ∧ tn i s7.heap ∧ (∀ b ∈ fp, H' b = none) ∧ W i m σ' H' := fun {σ7 H7 s7} I7 n7 => by
    obtain ⟨m', hm, w7⟩ := hN σ7 H7 n7
    refine ⟨m', hm, i + 1, σ7, H7, I7.unpinned, T.keep _ _ _ st5 fun b hb o e => (I7.pin (b, o) (List.mem_append_right _ (List.mem_append_right _ (mem_pinsAt hb e)))).1, fun b hb => ?_, w7⟩
    obtain ⟨o, e, d⟩ := T.obj _ _ st5 b hb
    exact (I7.pin (b, o) (List.mem_append_right _ (List.mem_append_right _ (mem_pinsAt hb e)))).2.1
   refine nox (thn (hg _ s5 σ3 H5 x u _ I5' r5 (step x H5 y5)) fun _ s6 ⟨σ6, H6, I6, q6⟩ => ?_)
   refine nox (thn (ht _ s6 σ6 H6 _ I6 q6) fun b s7 ⟨H7, I7, q7⟩ => ?_)
   cases b with
   | false =>
    rw [if_neg Bool.false_ne_true] at q7 ⊢
    exact again I7 q7
   | true =>
    rw [if_pos rfl] at q7 ⊢
    exact nox (thn (hm.run _ s7 σ6 H7 _ I7 q7) fun _ s8 ⟨σ8, H8, I8, q8⟩ => again I8 q8)
 exact compStart_gens hd loop (T.self X.A 0 _ _ _ st2 loop)
end
def tCompM (wi : TI) (g : TG) (tc : TT) (tm : Addr → TM) (own : List Str) (cap : List (Nat × Str)) : TE := fun σ H Q => wi σ H fun J H2 => ∀ D, H2 D = none →
 ∃ W : Nat → Nat → St → Hp → Prop, (∃ m, W 0 m (compSt own cap σ) (upd H2 D (.lst []))) ∧ ∀ i m σ' H', W i m σ' H' →
   ((J.stop i H' ∧ Q (.ref D) H') ∨ (J.go i H' ∧ ∃ N : St → Hp → Prop, (∀ σ H, N σ H → ∃ m', m' < m ∧ W (i + 1) m' σ H) ∧ ∀ x H2, J.yld i H' x H2 → g x σ' H2 fun σ3 H3 => tc σ3 H3 fun b H4 => if b = true then tm D σ3 H4 N else N σ3 H4))
section
variable {X : Cx} {scope : Scope} {cl : List (Str × Addr)} {own : List Str} {cap : List (Nat × Str)} {tg iter elt : Expr} {ifs : List Expr} {gens rest : List Comprehension} {wi : TI} {g : TG} {tc : TT} {tm : Addr → TM} {pos : Pos}
theorem comp_blockM {pins : List (Addr × Obj)} {σ : St} {s2 : Shared} {H2 : Hp} {it : Addr} {fp : List Addr} {tn : Nat → Heap → Prop} {J : It} {Q : VK} {RR : Value → Addr → Result → Shared → Prop} {E' : Value → Shared → Prop}
  (c : CompOk X scope cl own cap) (hc : X.calm = true)
  (hg : ∀ C s H fp, PG (compCx X (own ++ cap.map (·.2)) scope cl C s H fp fun _ _ => False) tg g) (ht : ∀ C s H fp, PTs (compCx X (own ++ cap.map (·.2)) scope cl C s H fp fun _ _ => False) ifs tc)
  (hm : ∀ C s H fp D, PM (compCx X (own ++ cap.map (·.2)) scope cl C s H fp fun _ _ => False) (compIn elt gens scope pos 0 (.ref D) (compEnvC scope cl C X.env)) (tm D)) (hd0 : gens[0]? = some ⟨tg, iter, ifs, 0⟩) (hga : ∀ g ∈ gens, g.is_async = 0)
  (I2 : Inv X pins σ H2 s2) (T : Turn X.prog X.w X.K tg J fp it tn) (st2 : tn 0 s2.heap) (f2 : ∀ b ∈ fp, FpOk X pins H2 b)
  (hw : ∀ D, H2 D = none → ∃ W : Nat → Nat → St → Hp → Prop, (∃ m, W 0 m (compSt own cap σ) (upd H2 D (.lst []))) ∧ ∀ i m σ' H', W i m σ' H' →
   ((J.stop i H' ∧ Q (.ref D) H') ∨ (J.go i H' ∧ ∃ N : St → Hp → Prop, (∀ σ H, N σ H → ∃ m', m' < m ∧ W (i + 1) m' σ H) ∧ ∀ x H2, J.yld i H' x H2 → g x σ' H2 fun σ3 H3 => tc σ3 H3 fun b H4 => if b = true then tm D σ3 H4 N else N σ3 H4)))
  (hRR : ∀ D C s' H' m, Inv X pins σ H' s' → FpOk X pins H' C → s'.heap.Ns C m → Q (.ref D) H' → RR (.ref D) C (.ok .next) s') :
  wpAny (model X.prog X.w) X.A (newList []) (fun acc s₃ => wpAny (model X.prog X.w) X.A (newFunctionEnv scope X.env.globals cl [] X.env.qual none .none (some X.env)) (fun cenv s₄ =>
   codeAny (model X.prog X.w) X.A (.compStart (.ListComp elt gens scope pos) 0 (.ref it) acc { cenv with scope := relabel scope X.env }) (RR acc cenv.locals) s₄) E' s₃) E' s2 := by
 refine wpAny_newObj_type (wpAny_newFunctionEnv c.cell (by intro y hy; simp at hy) (fun h₁ hns₁ hsb₁ => ?_) c.kind)
 dsimp only at hns₁ hsb₁ ⊢
 have hsz : (s2.heap.push { cls := .type "list", dict := none, data := .seq ([] : List Value).toArray }).objs.size = s2.heap.objs.size + 1 := Heap.size_push _ _
 have kk : ∀ b o, s2.heap.get? b = some o → h₁.get? b = some o := fun b o e => hsb₁.extBut b o (by rw [hsz]; exact Nat.ne_of_lt (Nat.lt_succ_of_lt (Heap.lt_size e))) (Heap.get?_push_of_some _ (Heap.get?_push_of_some _ e))
 have hD : h₁.get? s2.heap.objs.size = some { cls := .type "list", data := .seq ([] : List Value).toArray } :=
  hsb₁.extBut _ _ (by rw [hsz]; exact Nat.ne_of_lt (Nat.lt_succ_self _)) (Heap.get?_push_of_some _ (Heap.get?_push_size _ rfl))
 rw [hsz] at hns₁ ⊢
 have hlt : ∀ b ∈ fp, b < s2.heap.objs.size := fun b hb => by
  obtain ⟨o, e, _⟩ := T.obj _ _ st2 b hb
  exact Heap.lt_size e
 obtain ⟨W, ⟨m0, w0⟩, turn⟩ := hw s2.heap.objs.size I2.fresh
 have J1 := comp_inv (E := fun _ _ => False) c I2 f2 hlt (tk := s2.toks + ([] : List (Str × Value)).length) kk hD hns₁
 generalize hX' : compCx X (own ++ cap.map (·.2)) scope cl (s2.heap.objs.size + 1) s2 H2 fp (fun _ _ => False) = X' at J1
 have hg' : PG X' tg g := hX' ▸ hg _ _ _ _
 have ht' : PTs X' ifs tc := hX' ▸ ht _ _ _ _
 have hm' : PM X' (compIn elt gens scope pos 0 (.ref s2.heap.objs.size) (compEnvC scope cl (s2.heap.objs.size + 1) X.env)) (tm s2.heap.objs.size) := hX' ▸ hm _ _ _ _ _
 have pX : X'.prog = X.prog := by rw [← hX']; rfl
 have wX : X'.w = X.w := by rw [← hX']; rfl
 have kX : X'.K = X.K := by rw [← hX']; rfl
 have aX : X'.A = X.A := by rw [← hX']; rfl
 have cX : X'.calm = true := by rw [← hX']; exact hc
 have nX : X'.env = compEnvC scope cl (s2.heap.objs.size + 1) X.env := by rw [← hX']; rfl
 have xX : X'.xe = fun _ _ => False := by rw [← hX']; rfl
 have fX : ∀ b ∈ fp, ∀ {H' : Hp}, H' b = none → FpOk X' [] H' b := fun b hb {H'} hn => by
  have o1 := (comp_ok (E := fun _ _ => False) c I2 f2 hlt (C := s2.heap.objs.size + 1) (Nat.le_succ _)).exf b hb
  have o2 := (comp_ok (E := fun _ _ => False) c I2 f2 hlt (C := s2.heap.objs.size + 1) (Nat.le_succ _)).exfs b hb
  rw [← hX']
  exact ⟨hn, o1.1, o2, .inl hb, o1.2, fun p hp => absurd (show p ∈ ([] : List (Addr × Obj)) from hp) (by simp)⟩
 have fin : ∀ {σ' : St} {H' : Hp} {s' : Shared}, Inv X' [] σ' H' s' → Q (.ref s2.heap.objs.size) H' → RR (.ref s2.heap.objs.size) (s2.heap.objs.size + 1) (.ok .next) s' := fun {σ' H' s'} J' q => by
  rw [← hX'] at J'
  obtain ⟨A1, A2⟩ := comp_after I2 f2 (Nat.le_succ _) J'
  obtain ⟨m, hm, _⟩ := J'.loc
  exact hRR _ _ s' H' m A1 A2 hm q
 have loop : codeAny (model X.prog X.w) X.A (.compLoop (.ListComp elt gens scope pos) 0 (.ref it) (.ref s2.heap.objs.size) (compEnvC scope cl (s2.heap.objs.size + 1) X.env)) (RR (.ref s2.heap.objs.size) (s2.heap.objs.size + 1))
   { s2 with heap := h₁, toks := s2.toks + ([] : List (Str × Value)).length } := by
  refine compLoop_gens hd0 hga (fun n s' => ∃ i σ' H', Inv X' [] σ' H' s' ∧ tn i s'.heap ∧ (∀ b ∈ fp, H' b = none) ∧ W i n σ' H') ?_ m0
   ⟨0, _, _, J1, T.keep _ _ _ st2 fun b _ o e => kk b o e, fun b hb => by rw [upd_ne (Nat.ne_of_lt (hlt b hb))]; exact (f2 b hb).1, w0⟩
  rintro n s3 ⟨i, σ3, H3, I3, st3, fr3, w3⟩
  have w4 := turn i n σ3 H3 w3
  rw [← nX, ← aX, ← pX, ← wX]
  have nox : ∀ {α : Type} {t : Sem α} {Q1 : α → Shared → Prop} {E1 : Value → Shared → Prop} {s : Shared}, wpAny (model X'.prog X'.w) X'.A t Q1 X'.xe s → wpAny (model X'.prog X'.w) X'.A t Q1 E1 s := fun {α t Q1 E1 s} h => by
   rw [xX] at h
   exact wpAny_mono h (fun _ _ q => q) fun _ _ f => f.elim
  rcases w4 with ⟨stop, qn⟩ | ⟨go, N, hN, step⟩
  ·have d := T.done X' pX wX kX cX i [] s3 σ3 H3 X'.xe I3 (fun b hb => fX b hb (fr3 b hb)) st3 stop
   rw [← pX, ← wX] at d
   refine nox (thn d fun r s4 ⟨hr, I4⟩ => ?_)
   subst hr
   exact fin I4 qn
  ·have d := T.item X' pX wX kX cX i [] s3 σ3 H3 X'.xe I3 (fun b hb => fX b hb (fr3 b hb)) st3 go
   rw [← pX, ← wX] at d
   refine nox (thn d fun r s4 ⟨u, hr, h4⟩ => ?_)
   subst hr
   refine nox (thn h4 fun _ s5 ⟨x, H5, I5, r5, y5, st5, fr5⟩ => ?_)
   have I5' := I5.pinned (fun b hb => fX b hb (fr5 b hb)) (T.obj _ _ st5)
   have again : ∀ {σ7 : St} {H7 : Hp} {s7 : Shared}, Inv X' ([] ++ pinsAt fp s5.heap) σ7 H7 s7 → N σ7 H7 →
     ∃ m, m < n ∧ ∃ i σ' H', Inv X' [] σ' H' s7 ∧ tn i s7.heap ∧ (∀ b ∈ fp, H' b = none) ∧ W i m σ' H' := fun {σ7 H7 s7} I7 n7 => by
    obtain ⟨m', hm, w7⟩ := hN _ _ n7
    refine ⟨m', hm, i + 1, σ7, H7, I7.unpinned, T.keep _ _ _ st5 fun b hb o e => (I7.pin (b, o) (List.mem_append_right _ (List.mem_append_right _ (mem_pinsAt hb e)))).1, fun b hb => ?_, w7⟩
    obtain ⟨o, e, d⟩ := T.obj _ _ st5 b hb
    exact (I7.pin (b, o) (List.mem_append_right _ (List.mem_append_right _ (mem_pinsAt hb e)))).2.1
   refine nox (thn (hg' _ s5 σ3 H5 x u _ I5' r5 (step x H5 y5)) fun _ s6 ⟨σ6, H6, I6, q6⟩ => ?_)
   refine nox (thn (ht' _ s6 σ6 H6 _ I6 q6) fun b s7 ⟨H7, I7, q7⟩ => ?_)
   cases b with
   | false =>
    rw [if_neg Bool.false_ne_true] at q7 ⊢
    exact again I7 q7
   | true =>
    rw [if_pos rfl] at q7 ⊢
    have hmr := hm'.run _ s7 σ6 H7 _ I7 q7
    rw [← nX] at hmr
    exact nox (thn hmr fun _ s8 ⟨σ8, H8, I8, q8⟩ => again I8 q8)
 exact compStart_gens hd0 loop (T.self X.A 0 _ _ _ (T.keep _ _ _ st2 fun b _ o e => kk b o e) loop)
theorem pe_compM (c : CompOk X scope cl own cap) (hc : X.calm = true) (hi : PI X tg iter wi)
  (hg : ∀ C s H fp, PG (compCx X (own ++ cap.map (·.2)) scope cl C s H fp fun _ _ => False) tg g) (ht : ∀ C s H fp, PTs (compCx X (own ++ cap.map (·.2)) scope cl C s H fp fun _ _ => False) ifs tc)
  (hm : ∀ C s H fp D, PM (compCx X (own ++ cap.map (·.2)) scope cl C s H fp fun _ _ => False) (compIn elt (⟨tg, iter, ifs, 0⟩ :: rest) scope pos 0 (.ref D) (compEnvC scope cl C X.env)) (tm D)) (hga : ∀ g ∈ (⟨tg, iter, ifs, 0⟩ :: rest : List Comprehension), g.is_async = 0) (hs : ∀ x, foldedSetIterable iter X.env x = pure x := by intro _; rfl) :
  PE X (.ListComp elt (⟨tg, iter, ifs, 0⟩ :: rest) scope pos) (tCompM wi g tc tm own cap) := by
 refine .mk ?_
 intro pins s σ H Q I h
 rw [eval_ListComp]
 refine wpAny_comprehension_free (use := none) rfl hs c.clos c.kind c.names (thn (hi pins s σ H _ I h) fun v s1 h1 => thn h1 fun itv s2 h2 => ?_)
 obtain ⟨it, fp, tn, J, H2, e, I2, T, st2, f2, hw⟩ := h2
 subst e
 refine comp_blockM (Q := Q) (RR := fun acc C => compPost (model X.prog X.w) X.A X.xe none (EP X pins σ Q) acc C) c hc hg ht hm rfl hga I2 T st2 f2 hw ?_
 intro D C s' H' m I' hC hm q
 refine ⟨m, hm, fun h' hs' => ⟨.ref D, H', ?_, rfl, q⟩⟩
 exact I'.turned (t' := s'.toks) (fun b o hb e => (hs'.2 b hb).trans e) hC.1 hC.2.1 hC.2.2.2.1 hC.2.2.2.2.1 hC.2.2.2.2.2
end
end L2
set_option Elab.async false
set_option linter.all false
set_option maxRecDepth 100000
namespace L3
open PySem PySem.Spec L2
open PyProof.Rows hiding St
abbrev M3 := S3 → List T → Gp → (S3 → List T → Gp → Prop) → Prop
def liM (tm : M3) (D : Addr) : TM := fun σ H Q => ∃ H0 Γ0 τ Γ ys vs Z, RS H σ τ ∧ HR H Γ ∧ Γ D = none ∧ H D = some (.lst vs) ∧ Rs H vs ys ∧ H0 D = none ∧ Stp H0 Γ0 H Γ ∧ tm τ ys Γ Z ∧
 ∀ σ' τ' H' Γ' vs' ys', Tq H H' → Stp H0 Γ0 H' Γ' → HR H' Γ' → RS H' σ' τ' → Γ' D = none → H' D = some (.lst vs') → Rs H' vs' ys' → Z τ' ys' Γ' → Q σ' H'
theorem nlst (vs : List V) : (∀ us : List V, HO.lst vs ≠ .tup us) ∧ ∀ b w, HO.lst vs ≠ .frz b w := ⟨fun _ z => (nomatch z), fun _ _ z => (nomatch z)⟩
theorem stp_hid {H0 H6 : Hp} {Γ0 Γ6 : Gp} {D : Addr} {vs us : List V} (hD : H0 D = none) (d6 : H6 D = some (.lst vs)) (s7 : Stp H0 Γ0 H6 Γ6) : Stp H0 Γ0 (upd H6 D (.lst us)) Γ6 := by
 refine ⟨s7.tq.trans (tq_set d6 (nlst vs)), fun a h z => ?_, s7.new, fun a o h g => ?_⟩
 ·by_cases e : a = D
  ·subst e; exact h hD
  ·rw [upd_ne e] at z; exact s7.dom a h z
 ·have e : a ≠ D := fun e => by subst e; rw [hD] at h; cases h
  rw [upd_ne e]; exact s7.frm a o h g
def mEmit (te : E3) : M3 := fun τ ys Γ Z => ys.length < sizeLine ∧ te Y0 τ Γ fun y Γ1 => Z τ (ys ++ [y]) Γ1
def mFor (wi : I3) (g : G3) (tc : T3) (tm : M3) : M3 := fun τ ys Γ Z => wi Y0 τ Γ fun ts gd Γ1 => ∃ P : List T → S3 → List T → Gp → Prop, P ts τ ys Γ1 ∧ (∀ τ ys Γ, P [] τ ys Γ → gd Γ ∧ Z τ ys Γ) ∧
 ∀ x r τ ys Γ, P (x :: r) τ ys Γ → gd Γ ∧ g Y0 x τ Γ fun τ3 Γ3 => tc Y0 τ3 Γ3 fun b Γ4 => if b = true then tm τ3 ys Γ4 (P r) else P r τ3 ys Γ4
def eCompM (wi : I3) (g : G3) (tc : T3) (tm : M3) (own : List Str) (cap : List (Nat × Str)) : E3 := fun Y τ Γ Z => wi Y τ Γ fun ts gd Γ1 => ∃ P : List T → S3 → List T → Gp → Prop, P ts (cSt own cap τ) [] Γ1 ∧ (∀ τ ys Γ, P [] τ ys Γ → gd Γ ∧ ∀ D, Γ D = none → Z (.ref D) (up Γ D (.lst ys))) ∧
 ∀ x r τ ys Γ, P (x :: r) τ ys Γ → gd Γ ∧ g Y0 x τ Γ fun τ3 Γ3 => tc Y0 τ3 Γ3 fun b Γ4 => if b = true then tm τ3 ys Γ4 (P r) else P r τ3 ys Γ4
section
variable {X : Cx} {E : St → XK} {elt tg iter : Expr} {ifs : List Expr} {gens rest : List Comprehension} {scope : Scope} {cl : List (Str × Addr)} {own : List Str} {cap : List (Nat × Str)} {pos : Pos} {d : Nat} {D : Addr} {te : E3} {wi : I3} {g : G3} {tc : T3} {tm : M3}
theorem qm_emit (he : PE X elt (liE EN te)) (hd : gens[d + 1]? = none := by rfl) : PM X (compIn elt gens scope pos d (.ref D) X.env) (liM (mEmit te) D) :=
 weakM (pm_emit he hd) fun σ H Q ⟨H0, Γ0, τ, Γ, ys, vs, Z, rs, hr, gD, hD, ry, h0, s0, ⟨hz, t⟩, q⟩ => by
  refine ⟨τ, Γ, Y0, _, rs, hr, t, fun y y' H6 Γ6 s6 h6 r6 z6 => ?_, xr0⟩
  have d6 : H6 D = some (.lst vs) := s6.frm D _ hD gD
  have g6 : Γ6 D = none := s6.new D (by rw [hD]; exact fun z => nomatch z) gD
  have tq : Tq H6 (upd H6 D (.lst (vs ++ [y]))) := tq_set d6 (nlst vs)
  refine ⟨vs, d6, by rw [ry.length]; exact hz, ?_⟩
  exact q σ τ _ Γ6 _ _ (s6.tq.trans tq) (stp_hid h0 d6 (s0.trans s6)) (h6.hide g6 d6 (nlst vs)) ((rs.mono s6.tq).mono tq) g6 upd_same (Rs.app ((ry.mono s6.tq).mono tq) (rs_cons (r6.mono tq) rs_nil)) z6
theorem qm_for (hc : X.calm = true) (hd : gens[d + 1]? = some ⟨tg, iter, ifs, 0⟩) (hi : PI X tg iter (liI EN wi)) (hg : PG X tg (liG EN g)) (ht : PTs X ifs (liT EN tc)) (hm : PM X (compIn elt gens scope pos (d + 1) (.ref D) X.env) (liM tm D)) (hga : ∀ g ∈ gens, g.is_async = 0 := by decide) (hx : X.xe = fun _ _ => False := by rfl)
  (hs : ∀ x, foldedSetIterable iter X.env x = pure x := by intro _; rfl) : PM X (compIn elt gens scope pos d (.ref D) X.env) (liM (mFor wi g tc tm) D) :=
 weakM (pm_for hx hc hga hd hi hg ht hm hs) fun σ H Q ⟨H0, Γ0, τ, Γ, ys, vs, Z, rs, hr, gD, hD, ry, h0, s0, t, q⟩ => by
  refine ⟨τ, Γ, Y0, _, rs, hr, t, fun J ts gd H1 Γ1 s1 h1 wk ⟨P, z1, p0, pc⟩ => ?_, xr0⟩
  have d1 : H1 D = some (.lst vs) := s1.frm D _ hD gD
  have g1 : Γ1 D = none := s1.new D (by rw [hD]; exact fun z => nomatch z) gD
  refine ⟨fun i m σ' H' => ∃ τ' ys vs Γ', i ≤ ts.length ∧ m = ts.length - i ∧ RS H' σ' τ' ∧ HR H' Γ' ∧ H' D = some (.lst vs) ∧ Γ' D = none ∧ Rs H' vs ys ∧ Tq H1 H' ∧ Stp H0 Γ0 H' Γ' ∧ P (ts.drop i) τ' ys Γ',
   ⟨ts.length, τ, ys, vs, Γ1, Nat.zero_le _, rfl, rs.mono s1.tq, h1, d1, g1, ry.mono s1.tq, .refl, s0.trans s1, z1⟩, ?_⟩
  rintro i m σ2 H2 ⟨τ2, ys2, vs2, Γ2, hi, rfl, rs2, h2, d2, g2, ry2, t2, s2, w2⟩
  by_cases hlt : i < ts.length
  ·rw [drop_cons hlt] at w2
   obtain ⟨gg, w2⟩ := pc _ _ _ _ _ w2
   refine .inr ⟨wk.go i H2 Γ2 t2 h2 gg hlt, fun σ' H' => ∃ τ' ys vs Γ', RS H' σ' τ' ∧ HR H' Γ' ∧ H' D = some (.lst vs) ∧ Γ' D = none ∧ Rs H' vs ys ∧ Tq H1 H' ∧ Stp H0 Γ0 H' Γ' ∧ P (ts.drop (i + 1)) τ' ys Γ',
    fun σ' H' ⟨τ', ys, vs, Γ', a, b, c, d, e, f, k, l⟩ => ⟨ts.length - (i + 1), by omega, τ', ys, vs, Γ', hlt, rfl, a, b, c, d, e, f, k, l⟩, fun x H3 yl => ?_⟩
   obtain ⟨s3, h3, x3, e3, r3⟩ := wk.yld i H2 Γ2 x H3 t2 h2 gg hlt yl
   rw [List.getElem?_eq_getElem hlt] at e3
   cases e3
   refine ⟨_, τ2, Γ2, Y0, _, r3, rs2.mono s3.tq, h3, w2, fun σ4 τ4 H4 Γ4 s4 h4 r4 z4 => ?_, xr0⟩
   refine ⟨τ4, Γ4, Y0, _, r4, h4, z4, fun k H5 Γ5 s5 h5 z5 => ?_, xr0⟩
   have s35 := (s3.trans s4).trans s5
   have d5 : H5 D = some (.lst vs2) := s35.frm D _ d2 g2
   have g5 : Γ5 D = none := s35.new D (by rw [d2]; exact fun z => nomatch z) g2
   cases k with
   | false => exact ⟨τ4, ys2, vs2, Γ5, r4.mono s5.tq, h5, d5, g5, ry2.mono s35.tq, t2.trans s35.tq, s2.trans s35, z5⟩
   | true =>
    exact ⟨H0, Γ0, τ4, Γ5, ys2, vs2, _, r4.mono s5.tq, h5, g5, d5, ry2.mono s35.tq, h0, s2.trans s35, z5, fun σ' τ' H' Γ' vs' ys' t6 s6 h6 r6 g6 d6 ry6 z6 => ⟨τ', ys', vs', Γ', r6, h6, d6, g6, ry6, (t2.trans s35.tq).trans t6, s6, z6⟩⟩
  ·have e : i = ts.length := by omega
   subst e
   rw [List.drop_length] at w2
   have w2 := p0 _ _ _ w2
   exact .inl ⟨wk.stop H2 Γ2 t2 h2 w2.1, q σ2 τ2 H2 Γ2 vs2 ys2 (s1.tq.trans t2) s2 h2 rs2 g2 d2 ry2 w2.2⟩
theorem compM_sim (σ : St) (H : Hp) (Q : VK) (q : liE E (eCompM wi g tc tm own cap) σ H Q) : tCompM (liI E wi) (liG EN g) (liT EN tc) (liM tm) own cap σ H Q := by
 obtain ⟨τ, Γ, Y, Z, rs, hr, t, vr, xr⟩ := q
 refine ⟨τ, Γ, Y, _, rs, hr, t, fun J ts gd H1 Γ1 s1 h1 wk ⟨P, z1, p0, pc⟩ => ?_, xr⟩
 intro D hD
 refine ⟨fun i m σ' H' => ∃ τ' ys vs Γ', i ≤ ts.length ∧ m = ts.length - i ∧ RS H' σ' τ' ∧ HR H' Γ' ∧ H' D = some (.lst vs) ∧ Γ' D = none ∧ Rs H' vs ys ∧ Stp H1 Γ1 H' Γ' ∧ P (ts.drop i) τ' ys Γ',
  ⟨ts.length, cSt own cap τ, [], [], Γ1, Nat.zero_le _, rfl, (rs_comp own (rs.mono s1.tq) cap).mono (tq_kp (keep_new hD)), h1.keep (keep_new hD), upd_same, h1.free hD, rs_nil, .keep (keep_new hD), z1⟩, ?_⟩
 rintro i m σ2 H2 ⟨τ2, ys2, vs2, Γ2, hi, rfl, rs2, h2, d2, g2, ry2, s2, w2⟩
 by_cases hlt : i < ts.length
 ·rw [drop_cons hlt] at w2
  obtain ⟨gg, w2⟩ := pc _ _ _ _ _ w2
  refine .inr ⟨wk.go i H2 Γ2 s2.tq h2 gg hlt, fun σ' H' => ∃ τ' ys vs Γ', RS H' σ' τ' ∧ HR H' Γ' ∧ H' D = some (.lst vs) ∧ Γ' D = none ∧ Rs H' vs ys ∧ Stp H1 Γ1 H' Γ' ∧ P (ts.drop (i + 1)) τ' ys Γ',
   fun σ' H' ⟨τ', ys, vs, Γ', a, b, c, d, e, f, l⟩ => ⟨ts.length - (i + 1), by omega, τ', ys, vs, Γ', hlt, rfl, a, b, c, d, e, f, l⟩, fun x H3 yl => ?_⟩
  obtain ⟨s3, h3, x3, e3, r3⟩ := wk.yld i H2 Γ2 x H3 s2.tq h2 gg hlt yl
  rw [List.getElem?_eq_getElem hlt] at e3
  cases e3
  refine ⟨_, τ2, Γ2, Y0, _, r3, rs2.mono s3.tq, h3, w2, fun σ4 τ4 H4 Γ4 s4 h4 r4 z4 => ?_, xr0⟩
  refine ⟨τ4, Γ4, Y0, _, r4, h4, z4, fun k H5 Γ5 s5 h5 z5 => ?_, xr0⟩
  have s35 := (s3.trans s4).trans s5
  have d5 : H5 D = some (.lst vs2) := s35.frm D _ d2 g2
  have g5 : Γ5 D = none := s35.new D (by rw [d2]; exact fun z => nomatch z) g2
  cases k with
  | false => exact ⟨τ4, ys2, vs2, Γ5, r4.mono s5.tq, h5, d5, g5, ry2.mono s35.tq, s2.trans s35, z5⟩
  | true =>
   exact ⟨H1, Γ1, τ4, Γ5, ys2, vs2, _, r4.mono s5.tq, h5, g5, d5, ry2.mono s35.tq, hD, s2.trans s35, z5, fun σ' τ' H' Γ' vs' ys' t6 s6 h6 r6 g6 d6 ry6 z6 => ⟨τ', ys', vs', Γ', r6, h6, d6, g6, ry6, s6, z6⟩⟩
 ·have e : i = ts.length := by omega
  subst e
  rw [List.drop_length] at w2
  have w2 := p0 _ _ _ w2
  refine .inl ⟨wk.stop H2 Γ2 s2.tq h2 w2.1, ?_⟩
  have s12 := s1.trans s2
  refine vr (.ref D) (.ref D) H2 (up Γ2 D (.lst ys2)) ⟨s12.tq, s12.dom, fun a h g => ?_, s12.frm⟩ (fun a o g => ?_) r_ref (w2.2 D g2)
  ·have e : a ≠ D := fun e => by subst e; exact s1.dom _ h hD
   rw [up_ne e]; exact s12.new a h g
  ·by_cases e : a = D
   ·subst e; rw [up_same] at g; cases g; exact ⟨vs2, d2, ry2⟩
   ·rw [up_ne e] at g; exact h2 a o g
theorem qe_compM (c : CompOk X scope cl own cap) (hc : X.calm = true) (hi : PI X tg iter (liI E wi))
  (hg : ∀ C s H fp, PG (compCx X (own ++ cap.map (·.2)) scope cl C s H fp fun _ _ => False) tg (liG EN g)) (ht : ∀ C s H fp, PTs (compCx X (own ++ cap.map (·.2)) scope cl C s H fp fun _ _ => False) ifs (liT EN tc))
  (hm : ∀ C s H fp D, PM (compCx X (own ++ cap.map (·.2)) scope cl C s H fp fun _ _ => False) (compIn elt (⟨tg, iter, ifs, 0⟩ :: rest) scope pos 0 (.ref D) (compEnvC scope cl C X.env)) (liM tm D)) (hga : ∀ g ∈ (⟨tg, iter, ifs, 0⟩ :: rest : List Comprehension), g.is_async = 0 := by decide) (hs : ∀ x, foldedSetIterable iter X.env x = pure x := by intro _; rfl) :
  PE X (.ListComp elt (⟨tg, iter, ifs, 0⟩ :: rest) scope pos) (liE E (eCompM wi g tc tm own cap)) := weakE (pe_compM c hc hi hg ht hm hga hs) compM_sim
end
end L3
set_option Elab.async false
set_option linter.all false
set_option maxRecDepth 100000
namespace Sr
open PySem PyProof.Rows
structure SA (a0 : Array Keyed) (kd : SortKind) (st : SortSt) : Prop where
 arr : arrOf st = a0
 kind : kindOf st = kd
 failed : failedOf st = none
 pend : pendingOf st = #[]
def LtNo (M : Model) (A : Around) (s : Shared) (kd : SortKind) (a0 : Array Keyed) : Prop := ∀ i x y, a0[i + 1]? = some x → a0[i]? = some y → ∀ (Q : Bool → Shared → Prop) (E : Value → Shared → Prop), Q false s → wpAny M A (keyLt' kd x.1 y.1) Q E s
section
variable {prog : Program} {w : World} {A : Around} {E : Value → Shared → Prop} {s : Shared} {a0 : Array Keyed} {kd : SortKind} {st : SortSt}
theorem c_ltAt {i : Nat} {Q : Option Bool → SortSt → Prop} (L : LtNo (model prog w) A s kd a0) (B : SA a0 kd st) (hi : i + 1 < a0.size) (q : Q (some false) st) : wpS (model prog w) A E s (ltAt' (i + 1) i) Q st := by
 have ex : (arrOf st)[i + 1]? = some a0[i + 1] := by rw [B.arr]; simp [hi]
 have ey : (arrOf st)[i]? = some a0[i] := by rw [B.arr]; simp [show i < a0.size by omega]
 rw [ltAt'_eq]
 refine wpS_bind (wpS_get ?_)
 dsimp only
 refine wpS_bind ?_
 rw [elem'_eq, ex]
 refine wpS_pure ?_
 refine wpS_bind ?_
 rw [elem'_eq, ey]
 refine wpS_pure ?_
 rw [lt'_eq]
 refine wpS_bind (wpS_get ?_)
 rw [B.kind]
 refine wpS_bind (wpS_lift (wpAny_attempt (L i _ _ (by simp [hi]) (by simp [show i < a0.size by omega]) _ _ ⟨rfl, ?_⟩)))
 exact wpS_pure q
theorem c_count {Q : Option Nat → SortSt → Prop} (L : LtNo (model prog w) A s kd a0) (B : SA a0 kd st) (h1 : 1 ≤ a0.size) (q : Q (some a0.size) st) : wpS (model prog w) A E s (countRun' 0 a0.size) Q st := by
 rw [countRun'_eq]
 dsimp only
 refine wpS_bind (wpS_mono (Q := fun c st' => c = (none, a0.size) ∧ st' = st) ?_ ?_)
 ·refine wpS_forRange (fun i c st' => c = (none, i) ∧ st' = st ∧ 1 ≤ i ∧ i ≤ a0.size) (fun i c st1 h1 h2 hI => ?_) (fun c st1 hI => ?_) ⟨rfl, rfl, Nat.le_refl _, h1⟩
  ·obtain ⟨rfl, rfl, hi, _⟩ := hI
   dsimp only
   obtain ⟨j, rfl⟩ : ∃ j, i = j + 1 := ⟨i - 1, by omega⟩
   simp only [Nat.zero_add, Nat.add_sub_cancel]
   refine wpS_bind (c_ltAt L B (by omega) ?_)
   dsimp only
   rw [if_neg (by decide)]
   exact wpS_pure ⟨rfl, rfl, by omega, by omega⟩
  ·obtain ⟨rfl, rfl, hi, _⟩ := hI
   refine ⟨?_, rfl⟩
   congr 1
   omega
 rintro c st1 ⟨rfl, rfl⟩
 dsimp only
 rw [if_pos (by simp)]
 exact wpS_pure q
theorem c_runs {Q : Unit → SortSt → Prop} (L : LtNo (model prog w) A s kd a0) (B : SA a0 kd st) (h2 : 2 ≤ a0.size) (h64 : a0.size < 64) (q : ∀ st', arrOf st' = a0 → failedOf st' = none → Q () st') : wpS (model prog w) A E s sortRuns' Q st := by
 rw [sortRuns'_eq]
 refine wpS_bind (wpS_get ?_)
 dsimp only
 rw [show (arrOf st).size = a0.size by rw [B.arr]]
 have hm : minRun' a0.size a0.size 0 = a0.size := by
  cases e : a0.size with
  | zero => omega
  | succ n => rw [minRun'_succ, if_pos (by omega)]
 rw [hm]
 refine wpS_bind (wpS_mono (Q := fun c st' => c = (none, a0.size) ∧ ∃ st1, SA a0 kd st1 ∧ st' = setPending st1 (#[].push (0, a0.size, 0))) ?_ ?_)
 ·refine wpS_forRange (fun i c st' => (i = 0 ∧ c = (none, 0) ∧ SA a0 kd st') ∨ (0 < i ∧ c = (none, a0.size) ∧ ∃ st1, SA a0 kd st1 ∧ st' = setPending st1 (#[].push (0, a0.size, 0)))) (fun i c st1 h1 h2 hI => ?_) (fun c st1 hI => ?_) (.inl ⟨rfl, rfl, B⟩)
  ·rcases hI with ⟨rfl, rfl, B1⟩ | ⟨hi, rfl, st2, B2, rfl⟩
   ·dsimp only
    rw [if_neg (by omega)]
    refine wpS_bind (c_count L B1 (by omega) ?_)
    dsimp only
    have hmin : min (a0.size - 0) a0.size = a0.size := by rw [Nat.sub_zero, Nat.min_self]
    rw [if_neg (by omega)]
    refine wpS_bind (wpS_get ?_)
    rw [B1.pend]
    refine wpS_bind (wpS_modify ?_)
    refine wpS_pure (.inr ⟨Nat.zero_lt_succ _, by rw [Nat.zero_add], st1, B1, by rw [B1.pend]⟩)
   ·dsimp only
    rw [if_pos (by omega)]
    exact wpS_pure ⟨rfl, st2, B2, rfl⟩
  ·rcases hI with ⟨h0, _⟩ | ⟨hi, rfl, st2, B2, rfl⟩
   ·omega
   ·exact ⟨rfl, st2, B2, rfl⟩
 ·rintro c st1 ⟨rfl, st2, B2, rfl⟩
  dsimp only
  refine wpS_bind (wpS_mono (Q := fun c st' => c = (none, ()) ∧ st' = setPending st2 (#[].push (0, a0.size, 0))) ?_ ?_)
  ·refine wpS_forRange (fun i c st' => c = (none, ()) ∧ st' = setPending st2 (#[].push (0, a0.size, 0))) (fun i c st3 h1 h2 hI => ?_) (fun c st3 hI => hI) ⟨rfl, rfl⟩
   obtain ⟨rfl, rfl⟩ := hI
   refine wpS_bind (wpS_get ?_)
   split
   ·exact wpS_pure ⟨rfl, rfl⟩
   ·rename_i hc
    exact absurd (Nat.le_refl 1) hc
  ·rintro c st3 ⟨rfl, rfl⟩
   exact wpS_pure (q _ B2.arr B2.failed)
def CmpS (prog : Program) (w : World) (s : Shared) (a : Addr) (vs : List Value) : Prop := 2 ≤ vs.length → ∃ kd : SortKind, ∀ (A : Around) (h5 : Heap), (∀ b o, b ≠ a → s.heap.get? b = some o → h5.get? b = some o) →
 (∀ (Q : SortKind → Shared → Prop) (E : Value → Shared → Prop), Q kd { s with heap := h5 } → wpAny (model prog w) A (keyKind' vs.toArray) Q E { s with heap := h5 }) ∧ LtNo (model prog w) A { s with heap := h5 } kd (pairsOf vs)
theorem sort_same {a : Addr} {vs : List Value} {n : Nat} {P : Fin → Shared → Prop} (ho : s.heap.get? a = some (seqObj "list" vs.toArray n)) (hc : CmpS prog w s a vs) (h64 : vs.length < 64)
  (h : P (.done (.ret .none)) { s with heap := sortedHeap s.heap a vs vs.toArray }) : wpAny (model prog w) A (Builtin.«list.sort» { pos := [.ref a] }) P E s := by
 have hl : ∀ k : Nat, k < 64 → k ≤ sizeLine := fun k hk => by rw [sizeLine_eq]; omega
 rw [list_sort_plain]
 have ha := Heap.lt_size ho
 refine wpAny_bind (listItems_at ho rfl ?_)
 refine wpAny_bind (listUpdate_at ho rfl ?_ (by simpa using hl _ h64) (by simp))
 obtain ⟨e1, ho1⟩ : ∃ e, (s.heap.update a (Obj.mapSeq fun x => #[])).get? a = some (seqObj "list" #[] e) := ⟨_, get?_update_seq ho fun x => #[]⟩
 refine wpAny_bind (seqEpoch_at ho1 rfl ?_)
 refine wpAny_bind (wpAny_newTuple ?_ (by simpa using hl _ h64))
 refine wpAny_bind (wpAny_newList ?_)
 refine wpAny_holding ?_
 have ho6 : (((s.heap.update a (Obj.mapSeq fun x => #[])).push (seqObj "tuple" vs.toArray 0)).push (seqObj "list" #[] 0)).get? a = some (seqObj "list" #[] e1) := by
  rw [Heap.get?_push_ne _ _ _ (by rw [size_push', Heap.size_update]; exact Nat.ne_of_lt (Nat.lt_succ_of_lt ha)), Heap.get?_push_ne _ _ _ (by rw [Heap.size_update]; exact Nat.ne_of_lt ha)]
  exact ho1
 have keep : ∀ b o, b ≠ a → s.heap.get? b = some o → (((s.heap.update a (Obj.mapSeq fun x => #[])).push (seqObj "tuple" vs.toArray 0)).push (seqObj "list" #[] 0)).get? b = some o := fun b o nb hb => by
  have hbl := Heap.lt_size hb
  rw [Heap.get?_push_ne _ _ _ (by rw [size_push', Heap.size_update]; exact Nat.ne_of_lt (Nat.lt_succ_of_lt hbl)), Heap.get?_push_ne _ _ _ (by rw [Heap.size_update]; exact Nat.ne_of_lt hbl)]
  rw [Heap.get?_update_ne _ _ _ _ nb]
  exact hb
 dsimp only
 have fin : ∀ st' : SortSt, arrOf st' = pairsOf vs → P (.done (.ret .none)) { s with heap := sortedHeap s.heap a vs ((arrOf st').map fun x => x.2) } := fun st' hp => by
  have e : ((arrOf st').map fun x => x.2) = vs.toArray := by
   rw [hp]
   apply Array.toList_inj.mp
   rw [pairs_snd]
  rw [e]; exact h
 have sz : ∀ st' : SortSt, arrOf st' = pairsOf vs → ((arrOf st').map fun x => x.2).size ≤ sizeLine + 1 := fun st' hp => by
  have e := congrArg List.length (pairs_snd vs)
  rw [Array.length_toList] at e
  rw [hp, e]
  exact Nat.le_succ_of_le (hl _ h64)
 by_cases h2 : vs.length < 2
 ·have h2' : vs.toArray.size < 2 := by simpa using h2
  rw [if_pos h2', if_pos h2']
  refine wpAny_bind (wpAny_pure ?_)
  rw [StateT.run_pure]
  refine wpAny_bind (wpAny_pure ?_)
  dsimp only
  refine wpAny_bind (seqEpoch_at ho6 rfl ?_)
  have hp : arrOf (SortSt.mk' general' (vs.toArray.zip vs.toArray) #[] 7 none) = pairsOf vs := rfl
  refine wpAny_bind (listUpdate_at ho6 rfl ?_ (by simp) (sz _ hp))
  rw [if_neg (by simp)]
  exact wpAny_pure (fin _ hp)
 ·have h2' : ¬ vs.toArray.size < 2 := by simpa using h2
  rw [if_neg h2']
  obtain ⟨kd, hk⟩ := hc (by omega)
  obtain ⟨hk1, hk2⟩ := hk A _ keep
  refine wpAny_bind (hk1 _ _ ?_)
  rw [if_neg h2']
  have B : SA (pairsOf vs) kd (SortSt.mk' kd (vs.toArray.zip vs.toArray) #[] 7 none) := ⟨rfl, rfl, rfl, rfl⟩
  have psz : (pairsOf vs).size = vs.length := by unfold pairsOf; simp
  refine wpAny_bind (wpAny_mono (c_runs (Q := fun _ st' => arrOf st' = pairsOf vs ∧ failedOf st' = none) hk2 B (by omega) (by omega) fun st' hp hf => ⟨hp, hf⟩) (fun r s' hr => ?_) (fun _ _ z => z))
  obtain ⟨rfl, hp, hf⟩ := hr
  obtain ⟨u, st'⟩ := r
  dsimp only at hp hf ⊢
  refine wpAny_bind (seqEpoch_at ho6 rfl ?_)
  refine wpAny_bind (listUpdate_at ho6 rfl ?_ (by simp) (sz _ hp))
  rw [hf]
  dsimp only
  rw [if_neg (by simp)]
  exact wpAny_pure (fin _ hp)
theorem sorted_same {l : Addr} {vs : List Value} {Q : Value → Shared → Prop} (hl : s.heap.IsList l vs.toArray) (h64 : vs.length < 64)
  (hc : ∀ h5 : Heap, (∀ b o, s.heap.get? b = some o → h5.get? b = some o) → CmpS prog w { s with heap := h5 } (s.heap.objs.size + 1) vs)
  (h : Q (.ref (s.heap.objs.size + 1)) { s with heap := sortedAll s.heap vs vs.toArray }) :
  wpAny (model prog w) A (call (.builtin "sorted") [.ref l]) Q E s := by
 have hz : vs.length ≤ sizeLine := by rw [sizeLine_eq]; omega
 refine Calls.call_function_entry kind_sorted plain_sorted entry_sorted (args_sorted1 _) ?_
 show wpAny _ _ (do
  checkCount "sorted" 1 1 1
  let __do_lift ← collect (.ref l)
  let l ← newList __do_lift
  let _ ← holding [l] (call (.builtin "list.sort") [l] [])
  ret l) _ _ _
 refine wpAny_bind (wpAny_pure ?_)
 refine wpAny_bind (collect_list hl ?_ hz)
 refine wpAny_bind (wpAny_newList ?_ hz)
 have hsz : ((s.heap.push (seqObj "list" #[] 0)).update s.heap.objs.size (Obj.mapSeq fun x => x ++ vs.toArray)).objs.size = s.heap.objs.size + 1 := by rw [Heap.size_update, size_push']
 have hoL : (((s.heap.push (seqObj "list" #[] 0)).update s.heap.objs.size (Obj.mapSeq fun x => x ++ vs.toArray)).push (seqObj "list" vs.toArray 0)).get? (s.heap.objs.size + 1) = some (seqObj "list" vs.toArray 0) := by
  rw [← hsz]; exact Heap.get?_push_size _ rfl
 have keep : ∀ b o, s.heap.get? b = some o → (((s.heap.push (seqObj "list" #[] 0)).update s.heap.objs.size (Obj.mapSeq fun x => x ++ vs.toArray)).push (seqObj "list" vs.toArray 0)).get? b = some o := fun b o hb => by
  have hbl := Heap.lt_size hb
  rw [Heap.get?_push_ne _ _ _ (by rw [hsz]; exact Nat.ne_of_lt (Nat.lt_succ_of_lt hbl)), Heap.get?_update_ne _ _ _ _ (Nat.ne_of_lt hbl), Heap.get?_push_ne _ _ _ (Nat.ne_of_lt hbl)]
  exact hb
 dsimp only
 rw [hsz]
 refine wpAny_bind (wpAny_holding (wpAny_call_entry slot_list_sort ⟨_, hoL, rfl⟩ entry_list_sort (sort_same hoL (hc _ keep) h64 ⟨.none, rfl, wpAny_pure ⟨_, rfl, h⟩⟩) (args_list_sort _)))
end
end Sr
set_option Elab.async false
set_option linter.all false
set_option maxRecDepth 100000
namespace Sr
open PySem PyProof.Rows
inductive Txs : List Str → List Value → Prop
 | nil : Txs [] []
 | cons {z : Str} {t : Tok} {zs : List Str} {vs : List Value} (h : Txs zs vs) : Txs (z :: zs) (.str z t :: vs)
def lexL : List Str → List Str → Bool
 | a :: r, b :: q => if a = b then lexL r q else decide (a.cps.toList < b.cps.toList)
 | _, _ => false
def IsR (h : Heap) (v : Value) (zs : List Str) : Prop := ∃ a o its n, v = .ref a ∧ h.get? a = some o ∧ o.cls = .type "tuple" ∧ o.data = .seq its n ∧ Txs zs its.toList
section
variable {prog : Program} {w : World} {A : Around} {E : Value → Shared → Prop} {s : Shared} {M : Model}
theorem lex_go {Q : Bool → Shared → Prop} : ∀ {zs ys : List Str} {us vs : List Value} (i : Nat), Txs zs us → Txs ys vs → zs.length = ys.length → Q (lexL zs ys) s → PySem.W.KatLex prog w A true false Q (us.zip vs) i s
 | [], [], us, vs, i, hu, hv, _, q => by
  cases hu; cases hv
  exact PySem.W.kat_nil q
 | a :: zs, b :: ys, us, vs, i, hu, hv, hl, q => by
  cases hu with
  | @cons _ t1 _ us hu =>
   cases hv with
   | @cons _ t2 _ vs hv =>
    refine PySem.W.kat_cons (L2.eqAt_V (y := .str a) (x := .str b) ⟨t1, rfl⟩ ⟨t2, rfl⟩ rfl rfl prog w _ _ ?_)
    unfold lexL at q
    by_cases e : a = b
    ·subst e
     rw [if_pos rfl] at q
     have e1 : L2.eqV (.str a) (.str a) = true := by simp [L2.eqV]
     rw [e1]
     exact PySem.W.kat_yes (lex_go (i + 1) hu hv (by simpa using hl) q)
    ·rw [if_neg e] at q
     have e1 : L2.eqV (.str a) (.str b) = false := by simp [L2.eqV, e]
     rw [e1]
     refine PySem.W.kat_no ?_
     cases i with
     | zero => exact oneLt_str q
     | succ i => exact PySem.W.kat_one _ _ (lt_str q)
 | [], _ :: _, _, _, _, _, _, h, _ => by simp at h
 | _ :: _, [], _, _, _, _, _, h, _ => by simp at h
theorem Txs.length : ∀ {zs : List Str} {vs : List Value}, Txs zs vs → vs.length = zs.length
 | _, _, .nil => rfl
 | _, _, .cons h => by rw [List.length_cons, List.length_cons, h.length]
theorem lt_rows {u v : Value} {zs ys : List Str} {Q : Bool → Shared → Prop} (hu : IsR s.heap u zs) (hv : IsR s.heap v ys) (hl : zs.length = ys.length) (q : Q (lexL zs ys) s) : wpAny (model prog w) A (keyLt' (tuples' true) u v) Q E s := by
 obtain ⟨a, o1, i1, n1, rfl, g1, c1, d1, t1⟩ := hu
 obtain ⟨b, o2, i2, n2, rfl, g2, c2, d2, t2⟩ := hv
 refine PySem.W.kat_lt g1 d1 g2 d2 ?_
 have e : decide (i1.size < i2.size) = false := by
  have a1 := t1.length
  have a2 := t2.length
  rw [Array.length_toList] at a1 a2
  exact decide_eq_false (by omega)
 rw [e]
 exact lex_go 0 t1 t2 hl q
theorem first_row {v : Value} {z : Str} {zs : List Str} {Q : Option Value → Shared → Prop} (h : IsR s.heap v (z :: zs)) (q : ∀ t, Q (some (.str z t)) s) : wpAny M A (firstOfTuple' v) Q E s := by
 obtain ⟨a, o, its, n, rfl, g, c, d, t⟩ := h
 obtain ⟨l⟩ := its
 show wpAny M A (typeOf (.ref a) >>= _) Q E s
 refine wpAny_bind (wpAny_typeOf (T := "tuple") ⟨o, g, c⟩ ?_)
 rw [if_neg (by decide)]
 refine wpAny_bind (listItems_at g d ?_)
 have t : Txs (z :: zs) l := t
 cases t with
 | cons h => exact wpAny_pure (q _)
theorem kind_rows {vs : List Value} {Q : SortKind → Shared → Prop} (h : ∀ v ∈ vs, ∃ z zs, IsR s.heap v (z :: zs)) (ne : 0 < vs.length) (q : Q (tuples' true) s) : wpAny M A (keyKind' vs.toArray) Q E s := by
 rw [keyKind'_eq]
 refine wpAny_bind (wp_arrM (fun r => ∃ z t, r = some (Value.str z t)) (fun v hv Q' hQ => ?_) fun rs hl hr => ?_)
 ·obtain ⟨z, zs, hp⟩ := h v hv
  exact first_row hp fun t => hQ _ ⟨z, t, rfl⟩
 have ha : (rs.toArray.all fun x => x.isSome) = true := by
  rw [List.all_toArray, List.all_eq_true]
  intro x hx
  obtain ⟨z, t, rfl⟩ := hr x hx
  rfl
 rw [if_pos ha]
 refine wpAny_bind (wpAny_rule ?_)
 rw [oneTypeOnly'_eq]
 have hf : Array.filterMap id rs.toArray = (rs.filterMap id).toArray := by simp
 rw [hf]
 have hm : ∀ v ∈ rs.filterMap id, ∃ z t, v = Value.str z t := fun v hv => by
  obtain ⟨x, hx, e⟩ := List.mem_filterMap.mp hv
  obtain ⟨z, t, rfl⟩ := hr x hx
  cases e
  exact ⟨z, t, rfl⟩
 have hlen : (rs.filterMap id).length = rs.length := by
  clear hf hm ha hl
  induction rs with
  | nil => rfl
  | cons x r ih =>
   obtain ⟨z, t, rfl⟩ := hr x (by simp)
   show ((Value.str z t) :: r.filterMap id).length = _
   rw [List.length_cons, List.length_cons, ih fun y hy => hr y (by simp [hy])]
 refine wpAny_bind (wpAny_bind (wp_arrM (fun r => r = Value.type "str") (fun v hv Q' hQ => ?_) fun ts hl2 ht => ?_))
 ·obtain ⟨z, t, rfl⟩ := hm v hv
  exact wpAny_typeOf (T := "str") rfl (hQ _ rfl)
 cases ts with
 | nil => rw [hlen, hl] at hl2; simp at hl2; omega
 | cons x r =>
  have hx := ht x (by simp)
  subst hx
  have hall : ((Value.type "str" :: r).toArray.all fun y => y == Value.type "str") = true := by
   rw [List.all_toArray, List.all_eq_true]
   intro y hy
   rw [ht y hy]
   decide
  show wpAny M A (pure (if ((Value.type "str" :: r).toArray.all fun y => y == Value.type "str") = true then some (Value.type "str") else none)) _ E s
  rw [if_pos hall]
  exact wpAny_pure (wpAny_pure q)
theorem cmp_rows {a : Addr} {vs : List Value} {tb : List (List Str)} {n : Nat} (h : ∀ (i : Nat) (v : Value), vs[i]? = some v → ∃ z zs, tb[i]? = some (z :: zs) ∧ (z :: zs).length = n ∧ IsR s.heap v (z :: zs) ∧ ∀ b, v = .ref b → b ≠ a) (hd : ∀ (i : Nat) (x y : List Str), tb[i + 1]? = some x → tb[i]? = some y → lexL x y = false) : CmpS prog w s a vs := by
 intro h2
 refine ⟨tuples' true, fun A h5 keep => ?_⟩
 have up : ∀ (i : Nat) (v : Value), vs[i]? = some v → ∃ z zs, tb[i]? = some (z :: zs) ∧ (z :: zs).length = n ∧ IsR h5 v (z :: zs) := fun i v hv => by
  obtain ⟨z, zs, e, hl, ⟨b, o, its, k, rfl, g, c, d, t⟩, nb⟩ := h i v hv
  exact ⟨z, zs, e, hl, b, o, its, k, rfl, keep b o (nb b rfl) g, c, d, t⟩
 refine ⟨fun Q E q => kind_rows (fun v hv => ?_) (by omega) q, fun i x y hx hy Q E q => ?_⟩
 ·obtain ⟨i, hi, rfl⟩ := List.getElem_of_mem hv
  obtain ⟨z, zs, _, _, r⟩ := up i vs[i] (by simp [hi])
  exact ⟨z, zs, r⟩
 ·have at1 : ∀ (i : Nat) (p : Keyed), (pairsOf vs)[i]? = some p → vs[i]? = some p.1 := fun i p hp => by
   unfold pairsOf at hp
   rw [Array.getElem?_zip_eq_some] at hp
   simpa using hp.1
  obtain ⟨z1, zs1, e1, l1, r1⟩ := up _ _ (at1 _ _ hx)
  obtain ⟨z2, zs2, e2, l2, r2⟩ := up _ _ (at1 _ _ hy)
  exact lt_rows r1 r2 (by rw [l1, l2]) (by rw [hd i _ _ e1 e2]; exact q)
end
end Sr
namespace L2
open PySem PySem.Spec PyProof.Rows
section
variable {X : Cx}
def RowAt (H : Hp) (y : V) (zs : List Str) : Prop := ∃ a, y = .ref a ∧ H a = some (.tup (zs.map V.str))
inductive Rws (H : Hp) : List V → List (List Str) → Prop
 | nil : Rws H [] []
 | cons {y : V} {zs : List Str} {ys : List V} {tb : List (List Str)} (a : RowAt H y zs) (b : Rws H ys tb) : Rws H (y :: ys) (zs :: tb)
theorem Rws.get {H : Hp} : ∀ {ys : List V} {tb : List (List Str)} {i : Nat} {y : V}, Rws H ys tb → ys[i]? = some y → ∃ zs, tb[i]? = some zs ∧ RowAt H y zs
 | _, _, i, y, .nil, h => by simp at h
 | _, _, 0, y, .cons a b, h => by cases h; exact ⟨_, rfl, a⟩
 | _, _, i + 1, y, .cons a b, h => by simpa using b.get (by simpa using h)
theorem txs_of : ∀ {zs : List Str} {us : List Value}, Vals (zs.map V.str) us → Sr.Txs zs us
 | [], us, h => by cases h; exact .nil
 | z :: zs, us, h => by
  cases h with
  | cons r h =>
   obtain ⟨t, rfl⟩ := r
   exact .cons (txs_of h)
theorem call_sortT : CallR X (.builtin "sorted") (fun xs H Q => ∃ (p : Addr) (ys : List V) (tb : List (List Str)) (n : Nat), xs = [.ref p] ∧ H p = some (.lst ys) ∧ ys.length < 64 ∧ Rws H ys tb ∧ (∀ zs ∈ tb, zs.length = n + 1) ∧ (∀ (i : Nat) (x y : List Str), tb[i + 1]? = some x → tb[i]? = some y → Sr.lexL x y = false) ∧ ∀ l, H l = none → Q (.ref l) (upd H l (.lst ys))) := by
 intro pins s σ H xs us Q I r h
 obtain ⟨p, ys, tb, n, rfl, hp, h64, hy, hn, hd, q⟩ := h
 obtain ⟨u, rfl, rx⟩ := vals1 r
 cases rx
 obtain ⟨its, rv, pl, hz⟩ := I.list (SqL.of (K := X.K) hp)
 have hl := rv.length
 refine Sr.sorted_same pl.isList (by omega) (fun h5 keep => ?_) ?_
 ·refine Sr.cmp_rows (tb := tb) (n := n + 1) (fun i v hv => ?_) hd
  obtain ⟨y, ey, ry⟩ : ∃ y, ys[i]? = some y ∧ RelV y v := by
   have hi : i < its.length := (List.getElem?_eq_some_iff.mp hv).1
   obtain ⟨v', e', r'⟩ := rv.get (i := i) (x := ys[i]'(by omega)) (by simp [show i < ys.length by omega])
   rw [hv] at e'; cases e'
   exact ⟨_, by simp [show i < ys.length by omega], r'⟩
  obtain ⟨zs, ez, a, rfl, ha⟩ := hy.get ey
  cases ry
  obtain ⟨is2, r2, ⟨o, g, c, k, d⟩, _⟩ := I.tuple (SqT.of (K := X.K) ha)
  have hzl := hn zs (List.mem_of_getElem? ez)
  obtain ⟨z, zr, rfl⟩ : ∃ z zr, zs = z :: zr := by
   cases zs with
   | nil => simp at hzl
   | cons z zr => exact ⟨z, zr, rfl⟩
  exact ⟨z, zr, ez, hzl, ⟨a, o, _, k, rfl, keep a o g, c, d, txs_of r2⟩, fun b eb => by cases eb; exact Nat.ne_of_lt (Nat.lt_succ_of_lt (Heap.lt_size g))⟩
 ·obtain ⟨e, he⟩ := sortedAll_at s.heap its its.toArray
  have hf : H (s.heap.objs.size + 1) = none := I.hok.fresh (Nat.le_succ _)
  exact ⟨.ref (s.heap.objs.size + 1), _, I.laid (t' := s.toks) (fun b o hb => sortedAll_old hb) (Nat.le_succ _) (show ObjOk X.prog X.w _ _ _ (.lst ys) from ⟨hz, its, e, rv, by rw [he]⟩), rfl, q _ hf⟩
end
end L2
namespace L3
open PySem PySem.Spec L2
def rwT (zs : List Str) : T := .tup (zs.map T.str)
theorem rws_of {H : Hp} : ∀ {tb : List (List Str)} {vs : List V}, Rs H vs (tb.map rwT) → Rws H vs tb
 | [], vs, h => by rw [rs_inv0 h]; exact .nil
 | zs :: tb, vs, h => by
  obtain ⟨v, ws, rfl, a, b⟩ := rs_inv h
  obtain ⟨p, us, rfl, hp, q⟩ := i_tup a
  rw [rs_strs q] at hp
  exact .cons ⟨p, rfl, hp⟩ (rws_of b)
theorem cq_sortT {X : Cx} : CallQ X (.builtin "sorted") (fun xs Γ Z => ∃ (p : Addr) (tb : List (List Str)) (n : Nat), xs = [.ref p] ∧ Γ p = some (.lst (tb.map rwT)) ∧ tb.length < 64 ∧ (∀ zs ∈ tb, zs.length = n + 1) ∧ (∀ (i : Nat) (x y : List Str), tb[i + 1]? = some x → tb[i]? = some y → Sr.lexL x y = false) ∧ ∀ l, Γ l = none → Z (.ref l) (up Γ l (.lst (tb.map rwT)))) :=
 ⟨_, call_sortT, fun vs xs H Γ Q Z r hr q0 vr => by
  obtain ⟨p, tb, n, e, g, h64, hn, hd, z⟩ := q0
  subst e
  obtain ⟨v, rfl, a⟩ := rs1 r
  obtain ⟨ys, hp, ry⟩ := hr p _ g
  refine ⟨p, ys, tb, n, by rw [i_ref a], hp, by rw [ry.length, List.length_map]; exact h64, rws_of ry, hn, hd, fun l hl => ?_⟩
  have k := keep_new (o := .lst ys) hl
  exact vr _ _ _ _ (.make hl) (hr.make (o3 := .lst (tb.map rwT)) hl ⟨_, upd_same, ry.mono (tq_kp k)⟩) r_ref (z l (hr.free hl))⟩
end L3
set_option Elab.async false
set_option linter.all false
set_option maxRecDepth 100000
namespace L2
open PySem PySem.Spec PyProof.Rows
theorem op_isT {X : Cx} : OpR X (compareOp .Is) (fun x y H Q => ∃ b : Bool, x = .bl b ∧ y = .bl true ∧ Q (.bl b) H) := by
 intro pins s σ H x y v u Q I rx ry h
 obtain ⟨b, rfl, rfl, q⟩ := h
 cases rx
 cases ry
 refine wpAny_is_plain rfl (fin_bl I q ?_)
 cases b <;> rfl
end L2
namespace L3
open PySem PySem.Spec L2
open PyProof.Rows hiding St
section
variable {X : Cx} {E : St → XK} {tg l : Expr} {tl : E3} {pos p : Pos}
theorem oq_isT : OpQ X (compareOp .Is) (fun x y Γ Z => ∃ b : Bool, x = .bl b ∧ y = .bl true ∧ Z (.bl b) Γ) :=
 ⟨_, op_isT, fun x y a b H Γ Q Z ra rb hr q0 vr => by
  obtain ⟨k, ea, eb, z⟩ := q0
  subst ea eb
  exact ⟨k, i_bl ra, i_bl rb, vr _ _ H Γ .refl hr r_bl z⟩⟩
def KT (K : PySem.W.Frag) (a : Addr) (ts : List T) : Prop := ∃ vs, KTup K a vs ∧ ∀ H, Rs H vs ts
def iTk (K : PySem.W.Frag) (tl : E3) : I3 := fun Y τ Γ Z => tl Y τ Γ fun x Γ1 => ∃ a ts, x = .ref a ∧ KT K a ts ∧ Z ts gT Γ1
theorem walk_tupK {K : PySem.W.Frag} {H : Hp} {a : Addr} {vs : List V} {ts : List T} (hk : KTup K a vs) (q : ∀ H, Rs H vs ts) : Walks (Itt K a) ts gT H where
 go := fun i H' Γ t hr _ hi => ⟨vs, vs[i]'(by rw [(q H).length]; exact hi), hk.sq, by simp⟩
 yld := fun i H' Γ x H2 t hr _ hi q0 => by
  obtain ⟨e, y⟩ := q0
  subst e
  obtain ⟨t', e', r⟩ := (q H2).getV (y vs hk.sq)
  exact ⟨.refl, hr, t', e', r⟩
 stop := fun H' Γ t hr _ => ⟨vs, hk.sq, by rw [(q H).length]; exact Nat.le_refl _⟩
theorem qi_tupK {K : PySem.W.Frag} (hK : X.K = K) (hl : PE X l (liE E tl)) : PI X tg l (liI E (iTk K tl)) := by
 subst hK
 exact
 weakI3 (pi_tup hl) fun σ H Q τ Γ Y Z rs hr t vr xr => ⟨τ, Γ, Y, _, rs, hr, t, fun v x H1 Γ1 s1 h1 r1 ⟨a, ts, ex, ⟨vs, hk, q⟩, z⟩ => by
  subst ex
  exact ⟨a, i_ref r1, ⟨vs, hk.sq⟩, vr _ ts gT H1 Γ1 s1 h1 (walk_tupK hk q) z⟩, xr⟩
def iZk (K : PySem.W.Frag) (ta : A3) : I3 := fun Y τ Γ Z => ta Y τ Γ fun xs Γ1 => ∃ ts b us, xs = [.tup ts, .ref b] ∧ KT K b us ∧ Z (zipT ts us) gT Γ1
theorem walk_zipK {K : PySem.W.Frag} {H : Hp} {a b : Addr} {vs ws : List V} {ts us : List T} (ha : H a = some (.tup vs)) (q : Rs H vs ts) (hb : KTup K b ws) (q' : ∀ H, Rs H ws us) : Walks (Itz K a b) (zipT ts us) gT H where
 go := fun i H' Γ t hr _ hi => by
  rw [zipT_len] at hi
  exact ⟨vs, ws, vs[i]'(by rw [q.length]; omega), ws[i]'(by rw [(q' H).length]; omega), SqT.of (t.1 a vs ha), hb.sq, by simp, by simp⟩
 yld := fun i H' Γ v H2 t hr _ hi q0 => by
  obtain ⟨p, x, y, hp, e1, e2, y1, y2⟩ := q0
  subst e1 e2
  obtain ⟨t1, f1, r1⟩ := (q.mono t).getV (y1 vs (SqT.of (t.1 a vs ha)))
  obtain ⟨t2, f2, r2⟩ := (q' H').getV (y2 ws hb.sq)
  have k := keep_new (o := .tup [x, y]) hp
  exact ⟨.keep k, hr.keep k, _, zipT_get f1 f2, r_tup upd_same (rs_cons (r1.mono (tq_kp k)) (rs_cons (r2.mono (tq_kp k)) rs_nil))⟩
 stop := fun H' Γ t hr _ => ⟨vs, ws, SqT.of (t.1 a vs ha), hb.sq, by rw [zipT_len, q.length, (q' H).length]; omega⟩
theorem qi_zipK {a b : Expr} {ta : A3} {elts : List Expr} {kk : Nat} {tpos : Pos} (hg : Gl X "zip") (hm : X.mg "zip" = none) (ha : PA X [a, b] (liA E ta)) (hs : starEach [a, b] X.env = [(false, eval a X.env), (false, eval b X.env)] := by rfl) (hs2 : starEach [b] X.env = [(false, eval b X.env)] := by rfl) :
  PI X (.Tuple elts kk tpos) (.Call (.Name "zip" p) [a, b] [] pos) (liI E (iZk X.K ta)) :=
 weakI3 (pi_zip hg hm ha hs hs2) fun σ H Q τ Γ Y Z rs hr t vr xr => ⟨τ, Γ, Y, _, rs, hr, t, fun vs xs H1 Γ1 s1 h1 r1 ⟨ts, b, us, ex, ⟨ws, hk, q⟩, z⟩ => by
  subst ex
  obtain ⟨v, w, rfl, a, b⟩ := rs2 r1
  obtain ⟨pa, va, rfl, ha, qa⟩ := i_tup a
  rw [i_ref b]
  exact ⟨pa, _, va, ws, rfl, SqT.of ha, hk.sq, vr _ _ gT H1 Γ1 s1 h1 (walk_zipK ha qa hk q) z⟩, xr⟩
def iZl (ta : A3) : I3 := fun Y τ Γ Z => ta Y τ Γ fun xs Γ1 => ∃ ts b us, xs = [.tup ts, .ref b] ∧ Γ1 b = some (.lst us) ∧ Z (zipT ts us) (fun Γ' => Γ' b = some (.lst us)) Γ1
theorem walk_zipL {K : PySem.W.Frag} {H : Hp} {a b : Addr} {vs : List V} {ts us : List T} (ha : H a = some (.tup vs)) (q : Rs H vs ts) : Walks (Itm K a b) (zipT ts us) (fun Γ' => Γ' b = some (.lst us)) H where
 go := fun i H' Γ t hr g hi => by
  rw [zipT_len] at hi
  obtain ⟨ws, hb, q'⟩ := hr b _ g
  exact ⟨vs, ws, vs[i]'(by rw [q.length]; omega), ws[i]'(by rw [q'.length]; omega), SqT.of (t.1 a vs ha), SqL.of hb, by simp, by simp⟩
 yld := fun i H' Γ v H2 t hr g hi q0 => by
  obtain ⟨ws, hb, q'⟩ := hr b _ g
  obtain ⟨p, x, y, hp, e1, e2, y1, y2⟩ := q0
  subst e1 e2
  obtain ⟨t1, f1, r1⟩ := (q.mono t).getV (y1 vs (SqT.of (t.1 a vs ha)))
  obtain ⟨t2, f2, r2⟩ := q'.getV (y2 ws (SqL.of hb))
  have k := keep_new (o := .tup [x, y]) hp
  exact ⟨.keep k, hr.keep k, _, zipT_get f1 f2, r_tup upd_same (rs_cons (r1.mono (tq_kp k)) (rs_cons (r2.mono (tq_kp k)) rs_nil))⟩
 stop := fun H' Γ t hr g => by
  obtain ⟨ws, hb, q'⟩ := hr b _ g
  exact ⟨vs, ws, SqT.of (t.1 a vs ha), SqL.of hb, by rw [zipT_len, q.length, q'.length]; omega⟩
theorem qi_zipL {a b : Expr} {ta : A3} {elts : List Expr} {kk : Nat} {tpos : Pos} (hg : Gl X "zip") (hm : X.mg "zip" = none) (ha : PA X [a, b] (liA E ta)) (hs : starEach [a, b] X.env = [(false, eval a X.env), (false, eval b X.env)] := by rfl) (hs2 : starEach [b] X.env = [(false, eval b X.env)] := by rfl) :
  PI X (.Tuple elts kk tpos) (.Call (.Name "zip" p) [a, b] [] pos) (liI E (iZl ta)) :=
 weakI3 (pi_zipM hg hm ha hs hs2) fun σ H Q τ Γ Y Z rs hr t vr xr => ⟨τ, Γ, Y, _, rs, hr, t, fun vs xs H1 Γ1 s1 h1 r1 ⟨ts, b, us, ex, g, z⟩ => by
  subst ex
  obtain ⟨v, w, rfl, a, b⟩ := rs2 r1
  obtain ⟨pa, va, rfl, ha, qa⟩ := i_tup a
  obtain ⟨ws, hb, q'⟩ := h1 _ _ g
  rw [i_ref b]
  exact ⟨pa, _, va, ws, rfl, SqT.of ha, SqL.of hb, vr _ _ _ H1 Γ1 s1 h1 (walk_zipL ha qa) z⟩, xr⟩
theorem cq_lenK : CallQ X (.builtin "len") (fun xs Γ Z => ∃ b ts, xs = [.ref b] ∧ KT X.K b ts ∧ Z (.int ts.length) Γ) :=
 ⟨_, call_len_seq, fun vs xs H Γ Q Z r hr q0 vr => by
  obtain ⟨b, ts, e, ⟨ws, hk, q⟩, z⟩ := q0
  subst e
  obtain ⟨v, rfl, rv⟩ := rs1 r
  exact ⟨b, ws, by rw [i_ref rv], .inr hk.sq, by rw [(q H).length]; exact vr _ _ H Γ .refl hr r_int z⟩⟩
theorem oq_inKx {K : PySem.W.Frag} (hK : X.K = K) : OpQ X (compareOp .In) (fun x y Γ Z => ∃ u a xs, sc x = some u ∧ flatV u = true ∧ y = .ref a ∧ KTup K a xs ∧ xs.all flatV = true ∧ Z (.bl (inV u xs)) Γ) := by
 subst hK
 exact
 ⟨_, op_in_seq, fun x y v b H Γ Q Z ra rb hr q0 vr => by
  obtain ⟨u, a, xs, e1, f1, ey, hk, hf, z⟩ := q0
  subst ey
  rw [sc_r ra e1]
  exact ⟨a, xs, i_ref rb, .inr hk.sq, f1, hf, vr _ _ H Γ .refl hr r_bl z⟩⟩
theorem qe_instK {K : PySem.W.Frag} (hK : X.K = K) {x : Expr} {te : E3} {p p2 pos : Pos} {Tn : Str} {Ty : String} (hg : Gl X "isinstance") (hm : X.mg "isinstance" = none) (hgT : Gl X Tn) (hmT : X.mg Tn = none) (hvT : bootBuiltins Tn = some (.type Ty)) (he : PE X x (liE E te)) (hn : Tn ≠ "__name__" := by decide) (hdT : (Tn == ("__debug__" : Str)) = false := by decide)
  (hs : starEach [x, .Name Tn p2] X.env = (false, eval x X.env) :: starEach [.Name Tn p2] X.env := by rfl) (hs2 : starEach [.Name Tn p2] X.env = [(false, eval (.Name Tn p2) X.env)] := by rfl)
  (hpl : (backTo pos (starEach [.Name Tn p2] X.env)).any (·.1) = false := by rfl) : PE X (.Call (.Name "isinstance" p) [x, .Name Tn p2] [] pos) (liE E (eInst K Ty te)) := by
 subst hK
 exact qe_inst hg hm hgT hmT hvT he hn hdT hs hs2 hpl
def hTupK (K : PySem.W.Frag) (n : Nat) (gs : Gs3) : G3 := fun Y x τ Γ Z => ∃ a ts, x = .ref a ∧ KT K a ts ∧ ts.length = n ∧ gs Y ts τ Γ Z
theorem qg_tupK {es : List Expr} {k : Nat} {gs : Gs3} {n : Nat} (hc : X.calm = true) (h : PGs X es (liGs E gs))
  (hn : (assignEach es X.env).length = n := by rfl) (hst : (assignEach es X.env).findIdx? (·.1) = none := by rfl) : PG X (.Tuple es k pos) (liG E (hTupK X.K n gs)) :=
 weakG3 (pg_tup hc h hn hst) fun v σ H Q x τ Γ Y Z r rs hr q0 nr xr => by
  obtain ⟨a, ts, e, ⟨vs, hk, q⟩, l, t⟩ := q0
  subst e
  exact ⟨a, vs, i_ref r, hk.sq, by rw [(q H).length]; exact l, ts, τ, Γ, Y, Z, q H, rs, hr, t, nr, xr⟩
end
end L3
set_option Elab.async false
set_option linter.all false
set_option maxRecDepth 100000
namespace Tg
open PySem L2 L3
mutual
def Kd.tr : Kd → T
 | .num w => .tup [.str "num", .int w]
 | .text => .tup [.str "text"]
 | .row k => .tup [.str "row", k.tr]
 | .rec_ fs => .tup [.str "rec", .tup (trF fs)]
 | .pick fs => .tup [.str "pick", .tup (trF fs)]
def trF : List (Str × Kd) → List T
 | [] => []
 | (n, k) :: r => .tup [.str n, k.tr] :: trF r
end
def okc (c : Nat) : Bool := decide (32 ≤ c) && decide (c ≤ 126) && !decide (c = 37)
end Tg
namespace Tg
open PySem L2 L3
end Tg
namespace Tg
open PySem L2 L3
end Tg
set_option Elab.async false
set_option linter.all false
set_option maxRecDepth 100000
namespace Tg
open PySem L2 L3
inductive Ap : List T → List T → Prop
 | here {p q : T} {r s : List T} (h : p ≠ q) : Ap (p :: r) (q :: s)
 | there {p : T} {r s : List T} (h : Ap r s) : Ap (p :: r) (p :: s)
theorem Ap.symm : ∀ {c o : List T}, Ap c o → Ap o c
 | _, _, .here h => .here (Ne.symm h)
 | _, _, .there h => .there h.symm
end Tg
set_option Elab.async false
set_option linter.all false
set_option maxRecDepth 100000
namespace Tg
open PySem L2 L3
def vx : T → V
 | .int i => .int i
 | .str z => .str z
 | _ => .non
end Tg
set_option Elab.async false
set_option linter.all false
set_option maxRecDepth 100000
namespace Tg
open PySem L2 L3
def isTp : T → Bool
 | .tup _ => true
 | _ => false
mutual
def dT : T → Nat
 | .tup us => 1 + (us.filter isTp).length + dL us
 | _ => 0
def dL : List T → Nat
 | [] => 0
 | t :: r => max (dT t) (dL r)
end
end Tg
set_option Elab.async false
set_option linter.all false
set_option maxRecDepth 100000
set_option maxHeartbeats 4000000
namespace Tg
open PySem L2
def top (i : Nat) : Stmt := PySem.Challenge.pw_tonguegate_k08_sixteen_layings.main.body.getD i (.Pass ⟨0, 0, 0, 0⟩)
section
variable {P : Program} {w : World} {K : PySem.W.Frag} {mg : Str → Option Value} {base : Heap} {f : Addr} {fd : FuncData}
abbrev s_law_cell_at : Stmt := top 5
theorem sc_law_cell_at : FnScope ["script", "k"] ["script", "k"] (defScope s_law_cell_at) := ⟨rfl, rfl, rfl, by decide +kernel, rfl, by decide +kernel, by decide +kernel⟩
abbrev s_law_flow : Stmt := top 6
theorem sc_law_flow : FnScope ["cell", "mixed"] ["cell"] (defScope s_law_flow) := ⟨rfl, rfl, rfl, by decide +kernel, rfl, by decide +kernel, by decide +kernel⟩
def Flow (H : Hp) (a : Addr) : Prop := ∃ f0 f1 f2 : Int, H a = some (.lst [.int f0, .int f1, .int f2]) ∧ 0 ≤ f0 ∧ 0 ≤ f1 ∧ f1 < 10 ^ 40 + 121
def spFlow : Sp := fun vs H Q _ => ∃ c : Int, vs = [.int c] ∧ ∀ (a : Addr) (H' : Hp), H a = none → Same H H' → Flow H' a → Q (.ref a) H'
theorem ok_flow (F : Fun K "_law_flow" "_law_flow" s_law_flow f fd) (z_max : mg "max" = none) : FnOk P w K mg base CX0 1 f fd ["cell"] spFlow := by
 refine F.ok sc_law_flow (fun vs H Q E h => ?_) (fun cdv A outer s H vs Q E hr h => ?_)
 ·obtain ⟨c, rfl, _⟩ := h
  rfl
 obtain ⟨c, rfl, q⟩ := h
 refine ⟨_, (pss_cons (ps_set (i := 1) sc_law_flow.nd rfl (Or.inl rfl) (pe_op op_add (pe_op op_mul (pe_op op_mul (pv 0) pe_int) pe_int) pe_int))
  (pss_cons (ps_ret (pe_lst (pa_cons (pe_callB (call_max2 rfl) rfl z_max PyProof.Rows.boot_max (pa_cons pe_int (pa_cons (pe_op op_sub (pv 0) (pe_op op_pow pe_int pe_int)) pa_nil))) (pa_cons (pe_op op_mod (pv 1) (pe_op op_add (pe_op op_pow pe_int pe_int) pe_int)) (pa_cons pe_int pa_nil)))))
  pss_nil)), ?_⟩
 refine ⟨_, rfl, _, _, rfl, rfl, .inr ⟨by decide, by decide⟩, _, _, rfl, rfl, .inr ⟨by decide, by decide⟩, _, _, rfl, rfl, ?_⟩
 refine ⟨_, rfl, _, _, rfl, rfl, ⟨by decide, by decide, by decide⟩, _, _, rfl, rfl, _, _, rfl, ?_⟩
 refine ⟨_, rfl, _, _, rfl, rfl, ⟨by decide, by decide, by decide⟩, _, _, rfl, rfl, _, _, rfl, rfl, (by show (0 : Int) < 10 ^ Int.toNat 40 + 121; decide), ?_⟩
 refine ⟨by show 3 ≤ sizeLine; decide, fun p hp => ?_⟩
 refine q p _ hp (fun b o h => by rw [upd_ne (ne_of_none h hp)]; exact h) ⟨_, _, _, upd_same, ?_, ?_, ?_⟩
 ·split <;> omega
 ·exact Int.emod_nonneg _ (by decide)
 ·exact Int.emod_lt_of_pos _ (by decide)
abbrev s_law_draw : Stmt := top 7
theorem sc_law_draw : FnScope ["flow", "many", "found"] ["flow", "many"] (defScope s_law_draw) := ⟨rfl, rfl, rfl, by decide +kernel, rfl, by decide +kernel, by decide +kernel⟩
def spDraw : Sp := fun vs H Q _ => ∃ (a : Addr) (m : Int), vs = [.ref a, .int m] ∧ Flow H a ∧ 0 < m ∧ m < 2 ^ 200 ∧ ∀ (r : Int) (H' : Hp), 0 ≤ r → r < m → Flow H' a → Kp [a] H H' → Q (.int r) H'
theorem atI0 {α : Type} {x : α} {r : List α} : atI (x :: r) 0 = some x := atI_nat (j := 0) rfl
theorem atI1 {α : Type} {x y : α} {r : List α} : atI (x :: y :: r) 1 = some y := atI_nat (j := 1) rfl
theorem atI2 {α : Type} {x y z : α} {r : List α} : atI (x :: y :: z :: r) 2 = some z := atI_nat (j := 2) rfl
theorem ok_draw (F : Fun K "_law_draw" "_law_draw" s_law_draw f fd) : FnOk P w K mg base CX0 1 f fd ["flow", "many"] spDraw := by
 refine F.ok sc_law_draw (fun vs H Q E h => ?_) (fun cdv A outer s H vs Q E hr h => ?_)
 ·obtain ⟨a, m, rfl, _⟩ := h
  rfl
 obtain ⟨a, m, rfl, ⟨f0, f1, f2, hf, b0, b1, b2⟩, m0, m1, q⟩ := h
 refine ⟨_, (pss_cons (ps_if (pt_cmpR op_gt (pe_ix ix_list (pv 0) pe_int (fun _ _ => rfl)) pe_int (nomark _)) (pss_cons (ps_set (i := 2) sc_law_draw.nd rfl (Or.inl rfl) (pe_op op_mod (pe_ix ix_list (pv 0) pe_int (fun _ _ => rfl)) (pv 1)))
  (pss_cons (ps_asg (pe_op op_fdivG (pe_ix ix_list (pv 0) pe_int (fun _ _ => rfl)) (pv 1)) (pg_sub (pv 0) pe_int set_list (fun _ => rfl)))
  (pss_cons (ps_ret (pv 2))
  pss_nil))) pss_nil)
  (pss_cons (ps_asg (pe_op op_add (pe_ix ix_list (pv 0) pe_int (fun _ _ => rfl)) pe_int) (pg_sub (pv 0) pe_int set_list (fun _ => rfl)))
  (pss_cons (ps_asg (pe_op op_mod (pe_op op_add (pe_op op_mulB (pe_ix ix_list (pv 0) pe_int (fun _ _ => rfl)) (pe_ix ix_list (pv 0) pe_int (fun _ _ => rfl))) (pe_op op_mul (pe_ix ix_list (pv 0) pe_int (fun _ _ => rfl)) pe_int)) (pe_op op_add (pe_op op_pow pe_int pe_int) pe_int)) (pg_sub (pv 0) pe_int set_list (fun _ => rfl)))
  (pss_cons (ps_ret (pe_op op_mod (pe_op op_fdivG (pe_ix ix_list (pv 0) pe_int (fun _ _ => rfl)) pe_int) (pv 1)))
  pss_nil)))), ?_⟩
 have sq : SqL K H a [.int f0, .int f1, .int f2] := SqL.of hf
 refine ⟨_, rfl, a, _, _, _, rfl, rfl, sq, atI0, _, _, rfl, rfl, _, rfl, ?_⟩
 refine ite2 (fun c => ?_) (fun c => ?_)
 ·refine ⟨_, rfl, a, _, _, _, rfl, rfl, sq, atI0, _, rfl, _, _, rfl, rfl, m0, ?_⟩
  refine ⟨_, rfl, a, _, _, _, rfl, rfl, sq, atI0, _, rfl, _, _, rfl, rfl, ⟨m0, m1⟩, _, rfl, a, _, _, _, rfl, rfl, hf, rfl, ?_⟩
  refine ⟨_, rfl, ?_⟩
  refine q _ _ (Int.emod_nonneg _ (by omega)) (Int.emod_lt_of_pos _ m0) ⟨_, _, _, upd_same, Int.ediv_nonneg b0 (by omega), b1, b2⟩ (Kp.set (by simp) _)
 ·refine ⟨_, rfl, a, _, _, _, rfl, rfl, sq, atI2, _, _, rfl, rfl, _, rfl, a, _, _, _, rfl, rfl, hf, rfl, ?_⟩
  have sq2 : SqL K (upd H a (.lst ([.int f0, .int f1, .int f2].set 2 (.int (f2 + 1))))) a [.int f0, .int f1, .int (f2 + 1)] := SqL.of upd_same
  have n1 : f1.natAbs < 2 ^ 200 := Nat.lt_of_lt_of_le (by omega : f1.natAbs < 10 ^ 40 + 121) (by decide)
  refine ⟨_, rfl, a, _, _, _, rfl, rfl, sq2, atI1, _, rfl, a, _, _, _, rfl, rfl, sq2, atI1, _, _, rfl, rfl, ⟨n1, n1⟩, _, rfl, a, _, _, _, rfl, rfl, sq2, atI2, _, _, rfl, rfl, .inr ⟨by decide, by decide⟩, _, _, rfl, rfl, _, _, rfl, rfl, ⟨by decide, by decide, by decide⟩, _, _, rfl, rfl, _, _, rfl, rfl, (by show (0 : Int) < 10 ^ Int.toNat 40 + 121; decide), ?_⟩
  refine ⟨_, rfl, a, _, _, _, rfl, rfl, upd_same, rfl, ?_⟩
  refine ⟨_, rfl, a, _, _, _, rfl, rfl, SqL.of upd_same, atI1, _, _, rfl, rfl, ⟨by decide, by decide⟩, _, rfl, _, _, rfl, rfl, m0, ?_⟩
  refine q _ _ (Int.emod_nonneg _ (by omega)) (Int.emod_lt_of_pos _ m0) ⟨_, _, _, upd_same, b0, ?_, ?_⟩ ((Kp.set (by simp) _).trans (Kp.set (by simp) _))
  ·exact Int.emod_nonneg _ (by decide)
  ·exact Int.emod_lt_of_pos _ (by decide)
end
end Tg
set_option Elab.async false
set_option linter.all false
set_option maxRecDepth 100000
set_option maxHeartbeats 4000000
namespace Tg
open PySem L2 L3
local macro_rules | `(tactic| and_intros) => `(tactic| repeat (first
 | with_reducible refine t_seq ?_ | with_reducible refine t_if ?_ | with_reducible refine t_op ?_ | with_reducible refine t_T ?_ | with_reducible refine t_c ?_
 | ((with_reducible apply t_var); exact rfl) | with_reducible refine t_set ?_ | with_reducible refine t_ret ?_ | with_reducible refine t_retN ?_ | with_reducible refine t_drop ?_ | with_reducible refine t_next ?_ | with_reducible refine t_cnt ?_
 | with_reducible refine t_ix0 ?_ | with_reducible refine t_ix1 ?_ | with_reducible refine t_J ?_ | with_reducible refine t_eqS ?_ | with_reducible refine t_eqI ?_ | with_reducible refine t_neS ?_ | with_reducible refine t_neI ?_ | with_reducible refine t_bl ?_
 | with_reducible refine t_band ?_ | with_reducible refine t_bor ?_ | with_reducible refine t_bnot ?_ | with_reducible refine t_and ?_ | with_reducible refine t_or ?_ | with_reducible refine t_not ?_ | with_reducible refine t_eif ?_
 | with_reducible refine t_cons ?_ | with_reducible refine t_nil ?_ | with_reducible refine t_tup ?_ | with_reducible refine t_lst ?_ | with_reducible refine t_call ?_ | with_reducible refine t_callX ?_ | with_reducible refine t_cb ?_
 | with_reducible refine t_bm ?_ | with_reducible refine t_bm0 ?_ | with_reducible refine t_inst ?_ | with_reducible refine t_tru ?_ | with_reducible refine t_asg ?_ | with_reducible refine t_hn ?_ | ((with_reducible refine t_ht ?_ ?_); exact rfl) | with_reducible refine t_hc ?_ | with_reducible refine t_h0 ?_ | with_reducible refine t_hs ?_
 | with_reducible refine t_un ?_ | with_reducible refine t_neg ?_ | with_reducible refine t_sl ?_ | with_reducible refine t_on ?_ | with_reducible refine t_os ?_ | with_reducible refine t_oi ?_ | with_reducible refine t_rev ?_ | with_reducible refine t_for ?_ | with_reducible refine t_itp ?_ | with_reducible refine t_tp ?_ | with_reducible refine t_comp ?_ | with_reducible refine t_bt ?_ | with_reducible refine t_raise ?_ | with_reducible refine t_rg1 ?_ | with_reducible refine t_zp ?_ | with_reducible refine t_en ?_ | with_reducible refine t_ils ?_ | with_reducible refine t_ist ?_ | with_reducible refine t_str ?_
 | with_reducible refine t_2i ?_ | ((with_reducible apply t_ixR); (first | assumption | exact up_same); (first | exact at0 | exact at1)) | ((with_reducible apply t_hsub); (first | assumption | exact up_same); exact rfl)
 | with_reducible refine And.intro (rfl : T.non = T.non) ?_ | with_reducible refine t_try ?_ | with_reducible refine t_lz ?_ | with_reducible refine t_e0 ?_ | with_reducible refine t_chain ?_ | ((with_reducible apply t_inT); exact rfl; exact rfl; exact rfl) | with_reducible refine t_tyS ?_ | with_reducible refine t_1t ?_ | with_reducible refine t_2t ?_ | with_reducible refine t_eqSI ?_ | with_reducible refine t_eqIS ?_ | with_reducible refine t_neSI ?_ | with_reducible refine t_neIS ?_ | with_reducible refine t_gT ?_ | with_reducible refine t_lenT ?_
 | with_reducible refine t_fld ?_ | ((with_reducible apply t_fldR); (first | assumption | exact up_same); exact rfl) | with_reducible refine t_sfld ?_ | ((with_reducible apply t_sfldR); (first | assumption | exact up_same); exact rfl) | with_reducible refine t_sfa ?_ | ((with_reducible apply t_sfaR); (first | assumption | exact up_same); exact rfl) | ((with_reducible apply t_sfaE); (first | assumption | exact up_same); exact rfl)
 | with_reducible refine t_meth ?_ | ((with_reducible apply t_methR); (first | assumption | exact up_same); exact rfl) | with_reducible refine t_make ?_ | with_reducible refine t_fs ?_ | with_reducible refine t_jc ?_ | with_reducible refine t_fm ?_
 | ((with_reducible refine t_len ?_ ?_); exact rfl)
 | ((with_reducible refine t_I ?_ ?_); (first | exact ⟨by decide, by decide, by decide⟩ | exact ⟨by decide, by decide⟩ | exact Or.inl ⟨by decide, by decide⟩ | exact Or.inr ⟨by decide, by decide⟩ | ((show (0 : Int) < _); decide)))
 | ((with_reducible refine c_ifT ?_ ?_); (first | exact rfl | decide +kernel)) | ((with_reducible refine c_ifF ?_ ?_); (first | exact rfl | decide +kernel))))
def FlowAt (Γ : Gp) (a : Addr) : Prop := ∃ f0 f1 f2 : Int, Γ a = some (.lst [.int f0, .int f1, .int f2]) ∧ 0 ≤ f0 ∧ 0 ≤ f1 ∧ f1 < 10 ^ 40 + 121
theorem FlowAt.fr {Γ Γ' : Gp} {a : Addr} {l : List Addr} (h : FlowAt Γ a) (f : Fr l Γ Γ') (n : a ∉ l) : FlowAt Γ' a := by
 obtain ⟨f0, f1, f2, e, r⟩ := h
 exact ⟨f0, f1, f2, by rw [f a n]; exact e, r⟩
theorem FlowAt.kq {Γ Γ' : Gp} {a : Addr} {l : List Addr} (h : FlowAt Γ a) (f : Kq l Γ Γ') (n : a ∉ l) : FlowAt Γ' a := by
 obtain ⟨f0, f1, f2, e, r⟩ := h
 exact ⟨f0, f1, f2, f a _ n e, r⟩
theorem FlowAt.new {Γ : Gp} {a p : Addr} {o : O} (h : FlowAt Γ a) (n : Γ p = none) : FlowAt (up Γ p o) a := h.kq (l := []) (Kq.new n o) (by simp)
theorem FlowAt.up {Γ : Gp} {a p : Addr} {o : O} (h : FlowAt Γ a) (n : a ≠ p) : FlowAt (up Γ p o) a := by
 obtain ⟨f0, f1, f2, e, r⟩ := h
 exact ⟨f0, f1, f2, by rw [up_ne n]; exact e, r⟩
theorem FlowAt.some {Γ : Gp} {a : Addr} (h : FlowAt Γ a) : ∃ o, Γ a = .some o := by
 obtain ⟨f0, f1, f2, e, r⟩ := h
 exact ⟨_, e⟩
theorem FlowAt.nn {Γ : Gp} {a p : Addr} (h : FlowAt Γ a) (n : Γ p = none) : p ≠ a := by
 obtain ⟨o, e⟩ := h.some
 exact (gnn e n).symm
theorem br_step {H H' : Hp} {Γ Γ' : Gp} {l : List Addr} (hr : HR H Γ) (k : Kp l H H') (hl : ∀ b ∈ l, ∃ ts ts' vs', Γ b = some (.lst ts) ∧ H' b = some (.lst vs') ∧ Rs H' vs' ts' ∧ Γ' b = some (.lst ts')) (fr : Fr l Γ Γ') : Stp H Γ H' Γ' ∧ HR H' Γ' := by
 have nl : ∀ b ∈ l, ∃ vs, H b = some (.lst vs) := fun b hb => by
  obtain ⟨ts, ts', vs', g, _⟩ := hl b hb
  obtain ⟨vs, h, _⟩ := hr b _ g
  exact ⟨vs, h⟩
 have tq : Tq H H' := ⟨fun a vs h => k a _ (fun z => by obtain ⟨us, h'⟩ := nl a z; rw [h] at h'; cases h') h, fun a o u h => k a _ (fun z => by obtain ⟨us, h'⟩ := nl a z; rw [h] at h'; cases h') h⟩
 refine ⟨⟨tq, fun a h z => ?_, fun a h g => ?_, fun a o h g => ?_⟩, fun a o g => ?_⟩
 ·by_cases m : a ∈ l
  ·obtain ⟨_, _, vs', _, h', _⟩ := hl a m
   rw [z] at h'; cases h'
  ·cases e : H a with
   | none => exact h e
   | some o => exact (by rw [k a o m e] at z; cases z)
 ·have m : a ∉ l := fun m => by obtain ⟨ts, _, _, g', _⟩ := hl a m; rw [g] at g'; cases g'
  rw [fr a m]; exact g
 ·have m : a ∉ l := fun m => by obtain ⟨ts, _, _, g', _⟩ := hl a m; rw [g] at g'; cases g'
  exact k a o m h
 ·by_cases m : a ∈ l
  ·obtain ⟨_, ts', vs', _, h', q, g'⟩ := hl a m
   rw [g] at g'; cases g'
   exact ⟨vs', h', q⟩
  ·rw [fr a m] at g
   exact (hr a o g).mono tq fun u h => k a u m h
theorem flow_dn {H : Hp} {Γ : Gp} {a : Addr} (hr : HR H Γ) (h : FlowAt Γ a) : Flow H a := by
 obtain ⟨f0, f1, f2, e, r⟩ := h
 obtain ⟨vs, hv, q⟩ := hr a _ e
 rw [rs_ints (ns := [f0, f1, f2]) q] at hv
 exact ⟨f0, f1, f2, hv, r⟩
theorem rs_of_ints {H : Hp} : ∀ ns : List Int, Rs H (ns.map V.int) (ns.map T.int)
 | [] => rs_nil
 | n :: r => rs_cons r_int (rs_of_ints r)
def spDr : Sp3 := fun ts Γ Z _ => ∃ (a : Addr) (m : Int), ts = [.ref a, .int m] ∧ FlowAt Γ a ∧ 0 < m ∧ m < 2 ^ 200 ∧ ∀ (r : Int) (Γ' : Gp), 0 ≤ r → r < m → FlowAt Γ' a → Fr [a] Γ Γ' → Z (.int r) Γ'
theorem menu {ns : List Int} {r : Int} (h0 : 0 ≤ r) (h1 : r < ns.length) : ∃ n, n ∈ ns ∧ atI (ns.map T.int) r = some (.int n) := by
 obtain ⟨x, hx, hm⟩ := at_some (xs := ns.map T.int) h0 (by simpa using h1)
 obtain ⟨n, hn, rfl⟩ := List.mem_map.mp hm
 exact ⟨n, hn, hx⟩
abbrev signsS : Str := " !\"#$&'()*+,-./0123456789:;<=>?@ABCDEFGHIJKLMNOPQRSTUVWXYZ[\\]^_`abcdefghijklmnopqrstuvwxyz{|}~"
theorem signs_len : signsS.cps.toList.length = 94 := by decide +kernel
theorem signs_ok : ∀ c ∈ signsS.cps.toList, okc c = true := by decide +kernel
section
variable {P : Program} {w : World} {K : PySem.W.Frag} {mg : Str → Option Value} {base : Heap} {f : Addr} {fd : FuncData}
theorem br_draw {k : Nat} (c : Callee P w K mg base "_law_draw" k ["flow", "many"] spDraw) : Cl3 P w K mg base "_law_draw" k ["flow", "many"] spDr :=
 c.imp fun vs H Q E ⟨ts, Γ, Z, Y, r, hr, ⟨a, m, e, fl, m0, m1, q⟩, vr, xr⟩ => by
  subst e
  obtain ⟨v, w, rfl, r1, r2⟩ := rs2 r
  refine ⟨a, m, by rw [i_ref r1, i_int r2], flow_dn hr fl, m0, m1, fun i H' i0 i1 fl' k => ?_⟩
  obtain ⟨f0, f1, f2, e', b'⟩ := fl'
  obtain ⟨g0, g1, g2, eg, _⟩ := fl
  have fr : Fr [a] Γ (up Γ a (.lst [.int f0, .int f1, .int f2])) := .set (by simp) _
  obtain ⟨s, hr'⟩ := br_step hr k (fun b hb => by rw [List.mem_singleton.mp hb]; exact ⟨_, _, _, eg, e', rs_of_ints [f0, f1, f2], up_same⟩) fr
  exact vr _ _ H' _ s hr' r_int (q i _ i0 i1 ⟨f0, f1, f2, up_same, b'⟩ fr)
def spCe (K : PySem.W.Frag) : Sp3 := fun ts Γ Z _ => ∃ (a : Addr) (ns : List Int) (k : Int), ts = [.scr K a (ns.map T.int), .int k] ∧ 0 ≤ k ∧ ∀ c : Int, Z (.int c) Γ
theorem ok_cell3 (F : Fun K "_law_cell_at" "_law_cell_at" s_law_cell_at f fd) (z_len : mg "len" = none) : FnOk P w K mg base CX0 1 f fd ["script", "k"] (liSp (spCe K)) := by
 refine okd F sc_law_cell_at (fun ts Γ Z Y h => ?_) (fun cdv A outer s H E ts Γ Z Y hr h => ?_)
 ·obtain ⟨a, ns, k, rfl, _⟩ := h
  rfl
 obtain ⟨a, ns, k, rfl, k0, q⟩ := h
 refine ⟨_, (qss_cons (qs_if (qt_cmpR oq_lt (qv 1) (qe_callB cq_lenC rfl z_len PySem.boot_len (qa_cons (qv 0) qa_nil)) (nomark _)) (qss_cons (qs_ret (qe_ixC (qv 0) (qv 1) (fun _ _ => rfl)))
  qss_nil) qss_nil)
  (qss_cons (qs_ret qe_int)
  qss_nil)), ?_⟩
 simp only [start3]
 and_intros
 refine ⟨a, _, rfl, ?_⟩
 and_intros
 refine c_if (fun c => ?_) (fun c => ?_)
 ·have c := of_decide_eq_true c
  rw [List.length_map] at c
  and_intros
  obtain ⟨j, rfl⟩ : ∃ j : Nat, k = j := ⟨k.toNat, by omega⟩
  have hk : j < ns.length := by omega
  have e : atI (ns.map T.int) (j : Int) = some (.int ns[j]) := atI_nat (by simp [hk])
  refine ⟨a, _, _, _, rfl, rfl, e, ?_⟩
  exact drop0 .refl (q _)
 ·and_intros
  exact drop0 .refl (q _)
def spFw : Sp3 := fun ts Γ Z _ => ∃ c : Int, ts = [.int c] ∧ ∀ (a : Addr) (Γ' : Gp), Γ a = none → FlowAt Γ' a → Fr [a] Γ Γ' → Z (.ref a) Γ'
theorem br_flow {k : Nat} (c : Callee P w K mg base "_law_flow" k ["cell"] spFlow) : Cl3 P w K mg base "_law_flow" k ["cell"] spFw :=
 c.imp fun vs H Q E ⟨ts, Γ, Z, Y, r, hr, ⟨c, e, q⟩, vr, xr⟩ => by
  subst e
  obtain ⟨v, rfl, r1⟩ := rs1 r
  refine ⟨c, by rw [i_int r1], fun a H' ha sm fl => ?_⟩
  obtain ⟨f0, f1, f2, e', b'⟩ := fl
  have g := hr.free ha
  have tq : Tq H H' := tq_kp sm
  refine vr _ _ H' (up Γ a (.lst [.int f0, .int f1, .int f2])) ⟨tq, fun x h z => ?_, fun x h g' => ?_, fun x o h _ => sm x o h⟩ (fun x o g' => ?_) r_ref (q a _ g ⟨f0, f1, f2, up_same, b'⟩ (Fr.set (by simp) _))
  ·cases e : H x with
   | none => exact h e
   | some o => exact (by rw [sm x o e] at z; cases z)
  ·have : x ≠ a := fun z => h (by rw [z]; exact ha)
   rw [up_ne this]; exact g'
  ·by_cases z : x = a
   ·subst z; rw [up_same] at g'; cases g'; exact ⟨_, e', rs_of_ints [f0, f1, f2]⟩
   ·rw [up_ne z] at g'; exact (hr x o g').mono tq (sm x)
abbrev s_law_sign : Stmt := top 8
theorem sc_law_sign : FnScope ["flow", "some"] ["flow"] (defScope s_law_sign) := ⟨rfl, rfl, rfl, by decide +kernel, rfl, by decide +kernel, by decide +kernel⟩
def spSg : Sp3 := fun ts Γ Z _ => ∃ a : Addr, ts = [.ref a] ∧ FlowAt Γ a ∧ ∀ (z : Str) (Γ' : Gp), z.length = 1 → z.cps.toList.all okc = true → FlowAt Γ' a → Fr [a] Γ Γ' → Z (.str z) Γ'
theorem ok_sign (F : Fun K "_law_sign" "_law_sign" s_law_sign f fd) (c_law_draw : Cl3 P w K mg base "_law_draw" 1 ["flow", "many"] spDr) : FnOk P w K mg base CX0 2 f fd ["flow"] (liSp spSg) := by
 refine okd F sc_law_sign (fun ts Γ Z Y h => ?_) (fun cdv A outer s H E ts Γ Z Y hr h => ?_)
 ·obtain ⟨a, rfl, _⟩ := h
  rfl
 obtain ⟨a, rfl, fl, q⟩ := h
 refine ⟨_, (qss_cons (qs_set (i := 1) sc_law_sign.nd rfl (Or.inl rfl) qe_str)
  (qss_cons (qs_ret (qe_ixS (qv 1) (qe_call c_law_draw hr (by omega) rfl (qa_cons (qv 0) (qa_cons qe_int qa_nil))) (fun _ _ => rfl)))
  qss_nil)), ?_⟩
 simp only [start3]
 and_intros
 refine ⟨a, 94, rfl, fl, by decide, by decide, fun r Γ1 r0 r1 fl1 k1 => ?_⟩
 obtain ⟨c, hc, hm⟩ := at_some (xs := signsS.cps.toList) r0 (by rw [signs_len]; exact r1)
 refine ⟨signsS, _, c, rfl, rfl, by show signsS.cps.size ≤ sizeLine; rw [← Array.length_toList, signs_len]; decide, hc, ?_⟩
 refine drop0 .refl (q _ Γ1 rfl ?_ fl1 k1)
 show ([c].all okc) = true
 rw [List.all_cons, signs_ok c hm]; rfl
end
inductive Pt (Γ : Gp) : T → Prop
 | non : Pt Γ .non
 | bl (b : Bool) : Pt Γ (.bl b)
 | int (i : Int) : Pt Γ (.int i)
 | str {z : Str} (l : z.length ≤ 1000) : Pt Γ (.str z)
 | tup {ts : List T} (l : ts.length ≤ 999) (h : ∀ t ∈ ts, Pt Γ t) : Pt Γ (.tup ts)
 | lst {a : Addr} {ts : List T} (g : Γ a = some (.lst ts)) : Pt Γ (.ref a)
 | dct {a : Addr} {kvs : List (Key × T)} (g : Γ a = some (.dK kvs)) : Pt Γ (.ref a)
theorem Pt.mono {Γ Γ' : Gp} (l : Le Γ Γ') {t : T} (h : Pt Γ t) : Pt Γ' t := by
 induction h with
 | non => exact .non
 | bl b => exact .bl b
 | int i => exact .int i
 | str l => exact .str l
 | tup l _ ih => exact .tup l ih
 | lst g => exact .lst (l _ _ g)
 | dct g => exact .dct (l _ _ g)
theorem Pt.items {Γ : Gp} {ts : List T} (h : Pt Γ (.tup ts)) : ts.length ≤ 999 ∧ ∀ t ∈ ts, Pt Γ t := by
 cases h with
 | tup l h => exact ⟨l, h⟩
def isTup : T → Bool | .tup _ => true | _ => false
def isStr : T → Bool | .str _ => true | _ => false
def isInt : T → Bool | .int _ => true | .bl _ => true | _ => false
def isBl : T → Bool | .bl _ => true | _ => false
theorem isTup_t {t : T} (h : isTup t = true) : ∃ ts, t = .tup ts := by
 cases t with
 | tup ts => exact ⟨ts, rfl⟩
 | _ => cases h
theorem isStr_t {t : T} (h : isStr t = true) : ∃ z, t = .str z := by
 cases t with
 | str z => exact ⟨z, rfl⟩
 | _ => cases h
section
variable {K : PySem.W.Frag} {Γ : Gp} {t : T}
theorem ty_lst {a : Addr} {ts : List T} (g : Γ a = some (.lst ts)) : tyOf Γ (.ref a) = some "list" := by
 show (match Γ a with | some (.lst _) => some "list" | some (.dK _) => some "dict" | _ => none) = _
 rw [g]
theorem ty_dct {a : Addr} {ts : List (Key × T)} (g : Γ a = some (.dK ts)) : tyOf Γ (.ref a) = some "dict" := by
 show (match Γ a with | some (.lst _) => some "list" | some (.dK _) => some "dict" | _ => none) = _
 rw [g]
theorem in_tup (h : Pt Γ t) : ∃ n, tyOf Γ t = some n ∧ PySem.W.kitOne K (.type n) (.type "tuple") = some (isTup t) := by
 cases h with
 | lst g => exact ⟨_, ty_lst g, rfl⟩
 | dct g => exact ⟨_, ty_dct g, rfl⟩
 | _ => exact ⟨_, rfl, rfl⟩
theorem in_str (h : Pt Γ t) : ∃ n, tyOf Γ t = some n ∧ PySem.W.kitOne K (.type n) (.type "str") = some (isStr t) := by
 cases h with
 | lst g => exact ⟨_, ty_lst g, rfl⟩
 | dct g => exact ⟨_, ty_dct g, rfl⟩
 | _ => exact ⟨_, rfl, rfl⟩
theorem in_bl (h : Pt Γ t) : ∃ n, tyOf Γ t = some n ∧ PySem.W.kitOne K (.type n) (.type "bool") = some (isBl t) := by
 cases h with
 | lst g => exact ⟨_, ty_lst g, rfl⟩
 | dct g => exact ⟨_, ty_dct g, rfl⟩
 | _ => exact ⟨_, rfl, rfl⟩
theorem t_in {Ty : String} {B : T → Bool} {Q : Bool → Prop} (h : ∃ n, tyOf Γ t = some n ∧ PySem.W.kitOne K (.type n) (.type Ty) = some (B t)) (q : Q (B t)) : ∃ n b, tyOf Γ t = some n ∧ PySem.W.kitOne K (.type n) (.type Ty) = some b ∧ Q b := by
 obtain ⟨n, a, b⟩ := h
 exact ⟨n, _, a, b, q⟩
end
theorem strs_fl (ss : List Str) : (ss.map V.str).all flatV = true := by
 rw [List.all_eq_true]
 intro v hv
 obtain ⟨z, _, rfl⟩ := List.mem_map.mp hv
 rfl
theorem al_g {Γ G : Gp} {p : Addr} {o : O} (e : up Γ p o = G) : G p = some o := (congrFun e p).symm.trans up_same
theorem al_l {Γ G : Gp} {p : Addr} {o : O} (e : up Γ p o = G) (hp : Γ p = none) : Le Γ G := e ▸ .new hp
abbrev m0 : List Str := ["high", "low"]
abbrev m1 : List Str := ["count", "end"]
abbrev m2 : List Str := ["array", "chain"]
abbrev m3 : List Str := ["names", "told"]
def rows3 (h t r : Str) : List (List Str) := m3.map fun o => [h, t, r, o]
def rows2 (h t : Str) : List (List Str) := m2.flatMap (rows3 h t)
def rows1 (h : Str) : List (List Str) := m1.flatMap (rows2 h)
def laTb : List (List Str) := m0.flatMap rows1
theorem flen {α β : Type} {g : α → List β} {c : Nat} (h : ∀ x, (g x).length = c) : ∀ ds : List α, (ds.flatMap g).length = c * ds.length
 | [] => by simp
 | x :: r => by rw [List.flatMap_cons, List.length_append, h, flen h r, List.length_cons, Nat.mul_succ]; omega
theorem len3 (h t r : Str) : (rows3 h t r).length = 2 := rfl
theorem len2 (h t : Str) : (rows2 h t).length = 4 := rfl
theorem len1 (h : Str) : (rows1 h).length = 8 := rfl
theorem la_len : laTb.length = 16 := rfl
theorem la_four : ∀ zs ∈ laTb, zs.length = 3 + 1 := by decide +kernel
theorem la_lex : ∀ i : Nat, i < 15 → Sr.lexL (laTb.getD (i + 1) []) (laTb.getD i []) = false := by decide +kernel
theorem la_chain (i : Nat) (x y : List Str) (hx : laTb[i + 1]? = some x) (hy : laTb[i]? = some y) : Sr.lexL x y = false := by
 have hi : i + 1 < laTb.length := (List.getElem?_eq_some_iff.mp hx).1
 rw [la_len] at hi
 have := la_lex i (by omega)
 rw [List.getD_eq_getElem?_getD, List.getD_eq_getElem?_getD, hx, hy] at this
 exact this
def wB (m : List Str) : T → Bool
 | .str z => decide (z ∈ m)
 | _ => false
def laB : T → Bool
 | .tup [a, b, c, d] => wB m0 a && (wB m1 b && (wB m2 c && (wB m3 d && true)))
 | _ => false
theorem laB_no {ts : List T} (h : ts.length ≠ 4) : laB (.tup ts) = false := by
 unfold laB
 split
 ·rename_i e; cases e; exact absurd rfl h
 ·rfl
section
variable {P : Program} {w : World} {K : PySem.W.Frag} {mg : Str → Option Value} {base : Heap} {f aC a1 a2 a3 a4 : Addr} {fd : FuncData} {v1 v2 v3 : Value}
theorem kt_cho (k_CHOICES : KTup K aC [.ref a1, .ref a2, .ref a3, .ref a4]) : KT K aC [.ref a1, .ref a2, .ref a3, .ref a4] := ⟨_, k_CHOICES, fun H => rs_cons r_ref (rs_cons r_ref (rs_cons r_ref (rs_cons r_ref rs_nil)))⟩
theorem rs_tx {H : Hp} : ∀ ms : List Str, Rs H (ms.map V.str) (ms.map T.str)
 | [] => rs_nil
 | m :: r => rs_cons r_str (rs_tx r)
theorem kt_men {a : Addr} {ms : List Str} (h : KTup K a (ms.map V.str)) : KT K a (ms.map T.str) := ⟨_, h, fun H => rs_tx ms⟩
def spLa : Sp3 := fun ts Γ Z _ => ∃ t : T, ts = [t] ∧ Pt Γ t ∧ Z (.bl (laB t)) Γ
abbrev s_is_laying : Stmt := top 2
theorem sc_is_laying : FnScope ["thing"] ["thing"] (defScope s_is_laying) := ⟨rfl, rfl, rfl, by decide +kernel, rfl, by decide +kernel, by decide +kernel⟩
theorem ok_is_laying (F : Fun K "is_laying" "is_laying" s_is_laying f fd) (m_CHOICES : mg "CHOICES" = some (.ref aC)) (k_CHOICES : KTup K aC [.ref a1, .ref a2, .ref a3, .ref a4]) (k_CHOICES1 : KTup K a1 (m0.map V.str)) (k_CHOICES2 : KTup K a2 (m1.map V.str)) (k_CHOICES3 : KTup K a3 (m2.map V.str)) (k_CHOICES4 : KTup K a4 (m3.map V.str))
  (z_isinstance : mg "isinstance" = none) (z_tuple : mg "tuple" = none) (z_len : mg "len" = none) (z_all : mg "all" = none) (z_zip : mg "zip" = none) (z_str : mg "str" = none) : FnOk P w K mg base CX0 1 f fd ["thing"] (liSp spLa) := by
 refine okd F sc_is_laying (fun ts Γ Z Y h => ?_) (fun cdv A outer s H E ts Γ Z Y hr h => ?_)
 ·obtain ⟨t, rfl, _⟩ := h
  rfl
 obtain ⟨t, rfl, pt, q⟩ := h
 refine ⟨_, (qss_cons (qs_if (PW.pt (qw_or (qt_not (qt_val (qe_inst rfl z_isinstance rfl z_tuple bt_tuple (qv 0)))) (qw_or1 (qt_cmpR oq_ne (qe_callB cq_len rfl z_len PySem.boot_len (qa_cons (qv 0) qa_nil)) (qe_callB cq_lenK rfl z_len PySem.boot_len (qa_cons (qe_glob rfl m_CHOICES gl_ref) qa_nil)) (nomark _))))) (qss_cons (qs_ret qe_bl)
  qss_nil) qss_nil)
  (qss_cons (qs_ret (qe_callB (cq_all rfl) rfl z_all PyProof.Rows.boot_all (qa_cons (qe_comp (own := ["word", "words"]) (cap := []) (compOk0 rfl (by decide +kernel) (by decide +kernel)) rfl (qi_zipK rfl z_zip (qa_cons (qv 0) (qa_cons (qe_glob rfl m_CHOICES gl_ref) qa_nil))) (fun _ _ _ _ => (qg_tup (n := 2) rfl (qgs_cons (qg_name (i := 0) (show List.Nodup (["word", "words"] : List Str) from by decide +kernel) rfl (Or.inl rfl) (Or.inr rfl)) (qgs_cons (qg_name (i := 1) (show List.Nodup (["word", "words"] : List Str) from by decide +kernel) rfl (Or.inl rfl) (Or.inr rfl)) qgs_nil)))) (fun _ _ _ _ => qts_nil) (fun _ _ _ _ => (qe_and (qe_instK (K := K) rfl rfl z_isinstance rfl z_str bt_str (qv 0)) (qe_one (qe_cmpR (oq_inKx (K := K) rfl) (qv 0) (qv 1) (by with_unfolding_all rfl)))))) qa_nil)))
  qss_nil)), ?_⟩
 simp only [start3]
 and_intros
 refine t_in (in_tup pt) ?_
 and_intros
 refine c_if (fun c => ?_) (fun c => ?_)
 ·and_intros
  refine drop0 .refl ?_
  cases t with
  | tup ts => cases c
  | _ => exact q
 obtain ⟨ts, rfl⟩ := isTup_t (t := t) (by simpa using c)
 obtain ⟨tl, tm⟩ := pt.items
 and_intros
 refine ⟨aC, _, rfl, kt_cho k_CHOICES, ?_⟩
 and_intros
 refine c_if (fun c1 => ?_) (fun c1 => ?_)
 ·have c1 : (!decide (V.int (ts.length : Int) = V.int 4)) = true := c1
  have c1 : ts.length ≠ 4 := fun e => by rw [e] at c1; revert c1; decide
  and_intros
  rw [laB_no c1] at q
  exact drop0 .refl q
 have c1 : ts.length = 4 := by
  have : decide (V.int (ts.length : Int) = V.int 4) = true := by simpa using c1
  have := of_decide_eq_true this
  have := V.int.inj this
  omega
 match ts, c1 with
 | [a, b, c, d], _ =>
  and_intros
  unfold iZk
  and_intros
  refine ⟨_, aC, _, rfl, kt_cho k_CHOICES, by rw [sizeLine_eq]; show 4 ≤ 16777216; decide, ?_⟩
  have hL : ∀ q ∈ [(a, a1, m0), (b, a2, m1), (c, a3, m2), (d, a4, m3)], KTup K q.2.1 (q.2.2.map V.str) ∧ Pt Γ q.1 := fun q hq => by
   simp only [List.mem_cons, List.not_mem_nil, or_false] at hq
   rcases hq with rfl | rfl | rfl | rfl
   ·exact ⟨k_CHOICES1, tm _ (by simp)⟩
   ·exact ⟨k_CHOICES2, tm _ (by simp)⟩
   ·exact ⟨k_CHOICES3, tm _ (by simp)⟩
   ·exact ⟨k_CHOICES4, tm _ (by simp)⟩
  have eL : laB (.tup [a, b, c, d]) = ([(a, a1, m0), (b, a2, m1), (c, a3, m2), (d, a4, m3)].map fun q : T × Addr × List Str => wB q.2.2 q.1).all id := rfl
  have eZ : zipT [a, b, c, d] [.ref a1, .ref a2, .ref a3, .ref a4] = [(a, a1, m0), (b, a2, m1), (c, a3, m2), (d, a4, m3)].map fun q : T × Addr × List Str => T.tup [q.1, .ref q.2.1] := rfl
  rw [eL] at q
  rw [eZ]
  generalize [(a, a1, m0), (b, a2, m1), (c, a3, m2), (d, a4, m3)] = L at *
  refine ⟨fun rest τ ys Γ' => ∃ (ds rs : List (T × Addr × List Str)) (o0 o1 : Option T), rest = rs.map (fun q => T.tup [q.1, .ref q.2.1]) ∧ L = ds ++ rs ∧ τ = [o0, o1] ∧ ys = (ds.map fun q => wB q.2.2 q.1).map T.bl ∧ Γ' = Γ, ⟨[], L, none, none, rfl, rfl, rfl, rfl, rfl⟩, ?_, ?_⟩
  ·rintro τ ys Γ' ⟨ds, rs, o0, o1, er, ez, rfl, rfl, rfl⟩
   have hz : rs = [] := by
    cases rs with
    | nil => rfl
    | cons _ _ => cases er
   subst hz
   rw [List.append_nil] at ez
   subst ez
   refine ⟨trivial, ?_⟩
   intro p1 hp1; generalize e1 : up _ p1 (O.lst _) = Γ1; have g1 := al_g e1; have l1 := al_l e1 hp1
   and_intros
   refine ⟨p1, _, rfl, it3_l g1, ?_⟩
   exact drop0 l1 q
  ·rintro x r τ ys Γ' ⟨ds, rs, o0, o1, er, ez, rfl, rfl, rfl⟩
   cases rs with
   | nil => cases er
   | cons y rs =>
    cases er
    obtain ⟨hk, hp⟩ := hL y (by rw [ez]; simp)
    obtain ⟨yt, ya, ym⟩ := y
    refine ⟨trivial, ?_⟩
    and_intros
    refine t_in (in_str hp) ?_
    have fin : ∃ (ds' rs' : List (T × Addr × List Str)) (o0 o1 : Option T), rs.map (fun q => T.tup [q.1, .ref q.2.1]) = rs'.map (fun q => T.tup [q.1, .ref q.2.1]) ∧ L = ds' ++ rs' ∧ [some yt, some (.ref ya)] = [o0, o1] ∧ (ds.map fun q => wB q.2.2 q.1).map T.bl ++ [T.bl (wB ym yt)] = (ds'.map fun q => wB q.2.2 q.1).map T.bl ∧ Γ' = Γ' := ⟨ds ++ [(yt, ya, ym)], rs, _, _, rfl, by rw [ez]; simp, rfl, by rw [List.map_append, List.map_append]; rfl, rfl⟩
    and_intros
    refine c_if (fun c => ?_) (fun c => ?_)
    ·obtain ⟨z, rfl⟩ := isStr_t (t := yt) c
     and_intros
     refine ⟨.str z, ya, _, rfl, rfl, rfl, hk, strs_fl _, ?_⟩
     rw [inV_strs]
     exact fin
    ·have e : wB ym yt = false := by
      cases yt with
      | str z => cases c
      | _ => rfl
     rw [e] at fin
     exact fin
end
theorem nil_of {rs : List Str} (h : [] = rs.map T.str) : rs = [] := by
 cases rs with
 | nil => rfl
 | cons _ _ => cases h
theorem cons_of {x : T} {r : List T} {rs : List Str} (h : x :: r = rs.map T.str) : ∃ z q, rs = z :: q ∧ x = .str z ∧ r = q.map T.str := by
 cases rs with
 | nil => cases h
 | cons z q => cases h; exact ⟨z, q, rfl, rfl, rfl⟩
theorem dropN {Z : K3} {Γ Γ' : Gp} {p : Addr} {o : O} (l : Le Γ Γ') (h : Γ' p = none) (z : ∀ p, Γ p = none → Z (.ref p) (up Γ p o)) : dropK Z (.ref p) (up Γ' p o) := by
 have g : Γ p = none := by
  cases e : Γ p with
  | none => rfl
  | some u => have := l p u e; rw [h] at this; cases this
 refine ⟨up Γ p o, fun b u q => ?_, z p g⟩
 by_cases e : b = p
 ·subst e; rw [up_same] at q ⊢; exact q
 ·rw [up_ne e] at q ⊢; exact l b u q
theorem t_mf {wi : I3} {g : G3} {tc : T3} {tm : M3} {τ : S3} {ys : List T} {Γ : Gp} {Z : S3 → List T → Gp → Prop} (h : wi Y0 τ Γ fun ts gd Γ1 => ∃ P : List T → S3 → List T → Gp → Prop, P ts τ ys Γ1 ∧ (∀ τ ys Γ, P [] τ ys Γ → gd Γ ∧ Z τ ys Γ) ∧
 ∀ x r τ ys Γ, P (x :: r) τ ys Γ → gd Γ ∧ g Y0 x τ Γ fun τ3 Γ3 => tc Y0 τ3 Γ3 fun b Γ4 => if b = true then tm τ3 ys Γ4 (P r) else P r τ3 ys Γ4) : mFor wi g tc tm τ ys Γ Z := h
theorem t_me {te : E3} {τ : S3} {ys : List T} {Γ : Gp} {Z : S3 → List T → Gp → Prop} (hz : ys.length < sizeLine) (h : te Y0 τ Γ fun y Γ1 => Z τ (ys ++ [y]) Γ1) : mEmit te τ ys Γ Z := ⟨hz, h⟩
theorem fm_one {α β : Type} (g : α → List β) (ds : List α) (x : α) : (ds ++ [x]).flatMap g = ds.flatMap g ++ g x := by simp
theorem wB_sw {a b : Str} (t : T) : wB [a, b] t = wB [b, a] t := by
 cases t with
 | str z => exact decide_eq_decide.mpr (by simp [or_comm])
 | _ => rfl
section
variable {P : Program} {w : World} {K : PySem.W.Frag} {mg : Str → Option Value} {base : Heap} {f aC a1 a2 a3 a4 : Addr} {fd : FuncData} {v1 v2 v3 : Value}
abbrev s_law_is_laying : Stmt := top 11
theorem sc_law_is_laying : FnScope ["thing", "menus"] ["thing"] (defScope s_law_is_laying) := ⟨rfl, rfl, rfl, by decide +kernel, rfl, by decide +kernel, by decide +kernel⟩
theorem ok_law_is_laying (F : Fun K "_law_is_laying" "_law_is_laying" s_law_is_laying f fd)
  (z_isinstance : mg "isinstance" = none) (z_tuple : mg "tuple" = none) (z_len : mg "len" = none) (z_all : mg "all" = none) (z_zip : mg "zip" = none) (z_str : mg "str" = none) : FnOk P w K mg base CX0 1 f fd ["thing"] (liSp spLa) := by
 refine okd F sc_law_is_laying (fun ts Γ Z Y h => ?_) (fun cdv A outer s H E ts Γ Z Y hr h => ?_)
 ·obtain ⟨t, rfl, _⟩ := h
  rfl
 obtain ⟨t, rfl, pt, q⟩ := h
 refine ⟨_, (qss_cons (qs_set (i := 1) sc_law_is_laying.nd rfl (Or.inl rfl) (qe_lst (qa_cons (qe_tup (qa_cons qe_str (qa_cons qe_str qa_nil))) (qa_cons (qe_tup (qa_cons qe_str (qa_cons qe_str qa_nil))) (qa_cons (qe_tup (qa_cons qe_str (qa_cons qe_str qa_nil))) (qa_cons (qe_tup (qa_cons qe_str (qa_cons qe_str qa_nil))) qa_nil))))))
  (qss_cons (qs_if (PW.pt (qw_or (qt_not (qt_val (qe_inst rfl z_isinstance rfl z_tuple bt_tuple (qv 0)))) (qw_or1 (qt_cmpR oq_ne (qe_callB cq_len rfl z_len PySem.boot_len (qa_cons (qv 0) qa_nil)) qe_int (nomark _))))) (qss_cons (qs_ret qe_bl)
  qss_nil) qss_nil)
  (qss_cons (qs_ret (qe_callB (cq_all rfl) rfl z_all PyProof.Rows.boot_all (qa_cons (qe_comp (own := ["one", "menu"]) (cap := []) (compOk0 rfl (by decide +kernel) (by decide +kernel)) rfl (qi_zipL rfl z_zip (qa_cons (qv 0) (qa_cons (qv 1) qa_nil))) (fun _ _ _ _ => (qg_tup (n := 2) rfl (qgs_cons (qg_name (i := 0) (show List.Nodup (["one", "menu"] : List Str) from by decide +kernel) rfl (Or.inl rfl) (Or.inr rfl)) (qgs_cons (qg_name (i := 1) (show List.Nodup (["one", "menu"] : List Str) from by decide +kernel) rfl (Or.inl rfl) (Or.inr rfl)) qgs_nil)))) (fun _ _ _ _ => qts_nil) (fun _ _ _ _ => (qe_and (qe_instK (K := K) rfl rfl z_isinstance rfl z_str bt_str (qv 0)) (qe_one (qe_cmpR oq_in (qv 0) (qv 1) (by with_unfolding_all rfl)))))) qa_nil)))
  qss_nil))), ?_⟩
 simp only [start3]
 and_intros
 intro pm hpm; generalize e0 : up _ pm (O.lst _) = Γ0; have gm := al_g e0; have l0 := al_l e0 hpm
 and_intros
 refine t_in (in_tup (pt.mono l0)) ?_
 and_intros
 refine c_if (fun c => ?_) (fun c => ?_)
 ·and_intros
  refine drop0 l0 ?_
  cases t with
  | tup ts => cases c
  | _ => exact q
 obtain ⟨ts, rfl⟩ := isTup_t (t := t) (by simpa using c)
 obtain ⟨tl, tm⟩ := pt.items
 and_intros
 refine c_if (fun c1 => ?_) (fun c1 => ?_)
 ·have c1 : (!decide (V.int (ts.length : Int) = V.int 4)) = true := c1
  have c1 : ts.length ≠ 4 := fun e => by rw [e] at c1; revert c1; decide
  and_intros
  rw [laB_no c1] at q
  exact drop0 l0 q
 have c1 : ts.length = 4 := by
  have : decide (V.int (ts.length : Int) = V.int 4) = true := by simpa using c1
  have := of_decide_eq_true this
  have := V.int.inj this
  omega
 match ts, c1 with
 | [a, b, c, d], _ =>
  and_intros
  unfold iZl
  and_intros
  refine ⟨_, pm, _, rfl, gm, by rw [sizeLine_eq]; show 4 ≤ 16777216; decide, ?_⟩
  have hL : ∀ q ∈ [(a, (["low", "high"] : List Str)), (b, m1), (c, m2), (d, (["told", "names"] : List Str))], Pt Γ q.1 := fun q hq => by
   simp only [List.mem_cons, List.not_mem_nil, or_false] at hq
   rcases hq with rfl | rfl | rfl | rfl <;> exact tm _ (by simp)
  have eL : laB (.tup [a, b, c, d]) = ([(a, (["low", "high"] : List Str)), (b, m1), (c, m2), (d, (["told", "names"] : List Str))].map fun q : T × List Str => wB q.2 q.1).all id := by
   show (wB m0 a && (wB m1 b && (wB m2 c && (wB m3 d && true)))) = (wB ["low", "high"] a && (wB m1 b && (wB m2 c && (wB ["told", "names"] d && true))))
   rw [wB_sw (a := "low"), wB_sw (a := "told")]
  have eZ : zipT [a, b, c, d] [.tup [.str "low", .str "high"], .tup [.str "count", .str "end"], .tup [.str "array", .str "chain"], .tup [.str "told", .str "names"]] = [(a, (["low", "high"] : List Str)), (b, m1), (c, m2), (d, (["told", "names"] : List Str))].map fun q : T × List Str => T.tup [q.1, .tup (q.2.map T.str)] := rfl
  rw [eL] at q
  rw [eZ]
  generalize [(a, (["low", "high"] : List Str)), (b, m1), (c, m2), (d, (["told", "names"] : List Str))] = L at *
  refine ⟨fun rest τ ys Γ' => ∃ (ds rs : List (T × List Str)) (o0 o1 : Option T), rest = rs.map (fun q => T.tup [q.1, .tup (q.2.map T.str)]) ∧ L = ds ++ rs ∧ τ = [o0, o1] ∧ ys = (ds.map fun q => wB q.2 q.1).map T.bl ∧ Γ' = Γ0, ⟨[], L, none, none, rfl, rfl, rfl, rfl, rfl⟩, ?_, ?_⟩
  ·rintro τ ys Γ' ⟨ds, rs, o0, o1, er, ez, rfl, rfl, rfl⟩
   have hz : rs = [] := by
    cases rs with
    | nil => rfl
    | cons _ _ => cases er
   subst hz
   rw [List.append_nil] at ez
   subst ez
   refine ⟨gm, ?_⟩
   intro p1 hp1; generalize e1 : up _ p1 (O.lst _) = Γ1; have g1 := al_g e1; have l1 := al_l e1 hp1
   and_intros
   refine ⟨p1, _, rfl, it3_l g1, ?_⟩
   exact drop0 (l0.trans l1) q
  ·rintro x r τ ys Γ' ⟨ds, rs, o0, o1, er, ez, rfl, rfl, rfl⟩
   cases rs with
   | nil => cases er
   | cons y rs =>
    cases er
    have hp := (hL y (by rw [ez]; simp)).mono l0
    obtain ⟨yt, ym⟩ := y
    refine ⟨gm, ?_⟩
    and_intros
    refine t_in (in_str hp) ?_
    have fin : ∃ (ds' rs' : List (T × List Str)) (o0 o1 : Option T), rs.map (fun q => T.tup [q.1, .tup (q.2.map T.str)]) = rs'.map (fun q => T.tup [q.1, .tup (q.2.map T.str)]) ∧ L = ds' ++ rs' ∧ [some yt, some (.tup (ym.map T.str))] = [o0, o1] ∧ (ds.map fun q => wB q.2 q.1).map T.bl ++ [T.bl (wB ym yt)] = (ds'.map fun q => wB q.2 q.1).map T.bl ∧ Γ' = Γ' := ⟨ds ++ [(yt, ym)], rs, _, _, rfl, by rw [ez]; simp, rfl, by rw [List.map_append, List.map_append]; rfl, rfl⟩
    and_intros
    refine c_if (fun c => ?_) (fun c => ?_)
    ·obtain ⟨z, rfl⟩ := isStr_t (t := yt) c
     and_intros
     refine ⟨.str z, _, _, rfl, rfl, scs_strs _, rfl, strs_fl _, ?_⟩
     show ∃ ds' rs' o0 o1, _ ∧ _ ∧ _ ∧ _ ++ [T.bl (inV (.str z) (ym.map V.str))] = _ ∧ _
     rw [inV_strs]
     exact fin
    ·have e : wB ym yt = false := by
      cases yt with
      | str z => cases c
      | _ => rfl
     rw [e] at fin
     exact fin
abbrev s_all_layings : Stmt := top 3
theorem sc_all_layings : FnScope ["halves", "texts", "rows", "orders"] [] (defScope s_all_layings) := ⟨rfl, rfl, rfl, by decide +kernel, rfl, by decide +kernel, by decide +kernel⟩
def spAl : Sp3 := fun ts Γ Z _ => ts = [] ∧ ∀ p, Γ p = none → Z (.ref p) (up Γ p (.lst (laTb.map rwT)))
theorem ok_all_layings (F : Fun K "all_layings" "all_layings" s_all_layings f fd) (m_CHOICES : mg "CHOICES" = some (.ref aC)) (k_CHOICES : KTup K aC [.ref a1, .ref a2, .ref a3, .ref a4]) (k_CHOICES1 : KTup K a1 (m0.map V.str)) (k_CHOICES2 : KTup K a2 (m1.map V.str)) (k_CHOICES3 : KTup K a3 (m2.map V.str)) (k_CHOICES4 : KTup K a4 (m3.map V.str))
  (z_sorted : mg "sorted" = none) : FnOk P w K mg base CX0 1 f fd [] (liSp spAl) := by
 refine okd F sc_all_layings (fun ts Γ Z Y h => ?_) (fun cdv A outer s H E ts Γ Z Y hr h => ?_)
 ·obtain ⟨rfl, _⟩ := h
  rfl
 obtain ⟨rfl, q⟩ := h
 refine ⟨_, (qss_cons (qs_asg (qe_glob rfl m_CHOICES gl_ref) (qg_tupK (n := 4) rfl (qgs_cons (qg_name (i := 0) sc_all_layings.nd rfl (Or.inl rfl)) (qgs_cons (qg_name (i := 1) sc_all_layings.nd rfl (Or.inr rfl)) (qgs_cons (qg_name (i := 2) sc_all_layings.nd rfl (Or.inr rfl)) (qgs_cons (qg_name (i := 3) sc_all_layings.nd rfl (Or.inr rfl)) qgs_nil))))))
  (qss_cons (qs_ret (qe_callB (cq_sortT) rfl z_sorted PyProof.Rows.boot_sorted (qa_cons (qe_compM (own := ["half", "text", "row", "order"]) (cap := [(1, "texts"), (2, "rows"), (3, "orders")]) (compOkC rfl (by decide +kernel) (by decide +kernel) rfl (⟨rfl, ⟨rfl, ⟨rfl, trivial⟩⟩⟩) rfl (⟨⟨rfl, rfl, rfl⟩, ⟨⟨rfl, rfl, rfl⟩, ⟨⟨rfl, rfl, rfl⟩, trivial⟩⟩⟩)) rfl (qi_tupK (K := K) rfl (qv 0)) (fun _ _ _ _ => (qg_name (i := 0) (show List.Nodup (["half", "text", "row", "order", "texts", "rows", "orders"] : List Str) from by decide +kernel) rfl (Or.inl rfl) (Or.inr rfl))) (fun _ _ _ _ => qts_nil) (fun _ _ _ _ _ => (qm_for rfl rfl (qi_tupK (K := K) rfl (qv 4)) (qg_name (i := 1) (show List.Nodup (["half", "text", "row", "order", "texts", "rows", "orders"] : List Str) from by decide +kernel) rfl (Or.inl rfl) (Or.inr rfl)) qts_nil (qm_for rfl rfl (qi_tupK (K := K) rfl (qv 5)) (qg_name (i := 2) (show List.Nodup (["half", "text", "row", "order", "texts", "rows", "orders"] : List Str) from by decide +kernel) rfl (Or.inl rfl) (Or.inr rfl)) qts_nil (qm_for rfl rfl (qi_tupK (K := K) rfl (qv 6)) (qg_name (i := 3) (show List.Nodup (["half", "text", "row", "order", "texts", "rows", "orders"] : List Str) from by decide +kernel) rfl (Or.inl rfl) (Or.inr rfl)) qts_nil (qm_emit (qe_tup (qa_cons (qv 0) (qa_cons (qv 1) (qa_cons (qv 2) (qa_cons (qv 3) qa_nil))))))))))) qa_nil)))
  qss_nil)), ?_⟩
 simp only [start3]
 and_intros
 refine ⟨aC, _, rfl, kt_cho k_CHOICES, rfl, ?_⟩
 and_intros
 unfold eCompM iTk
 and_intros
 refine ⟨a1, _, rfl, kt_men k_CHOICES1, ?_⟩
 refine ⟨fun rest τ ys Γ' => ∃ (ds rs : List Str) (o0 o1 o2 o3 : Option T), rest = rs.map T.str ∧ m0 = ds ++ rs ∧ ys = (ds.flatMap rows1).map rwT ∧ τ = [o0, o1, o2, o3, some (.ref a2), some (.ref a3), some (.ref a4)] ∧ Γ = Γ', ⟨[], m0, none, none, none, none, rfl, rfl, rfl, rfl, rfl⟩, ?_, ?_⟩
 ·rintro τ ys Γ9 ⟨ds, rs, o0, o1, o2, o3, er, em, rfl, rfl, rfl⟩
  have hz := nil_of er
  subst hz
  rw [List.append_nil] at em
  subst em
  refine ⟨trivial, fun D hD => ?_⟩
  generalize e1 : up _ D (O.lst _) = Γ1; have g1 := al_g e1; have l1 := al_l e1 hD
  and_intros
  refine ⟨D, laTb, 3, rfl, g1, by decide, la_four, la_chain, fun l hl => ?_⟩
  exact dropN l1 hl q
 rintro x r τ ys Γ9 ⟨ds, rs, o0, o1, o2, o3, er, em, rfl, rfl, rfl⟩
 obtain ⟨hx, rs, rfl, rfl, rfl⟩ := cons_of er
 have d0 : ds.length ≤ 1 := by have := congrArg List.length em; rw [List.length_append, List.length_cons] at this; have : 2 = ds.length + (rs.length + 1) := this; omega
 have p0 : (ds.flatMap rows1).length ≤ 8 := by rw [flen len1]; omega
 refine ⟨trivial, ?_⟩
 and_intros
 refine t_mf ?_
 and_intros
 refine ⟨a2, _, rfl, kt_men k_CHOICES2, ?_⟩
 refine ⟨fun rest τ ys Γ' => ∃ (es qs : List Str) (o1 o2 o3 : Option T), rest = qs.map T.str ∧ m1 = es ++ qs ∧ ys = (ds.flatMap rows1 ++ es.flatMap (rows2 hx)).map rwT ∧ τ = [some (.str hx), o1, o2, o3, some (.ref a2), some (.ref a3), some (.ref a4)] ∧ Γ = Γ', ⟨[], m1, _, _, _, rfl, rfl, by rw [List.flatMap_nil, List.append_nil], rfl, rfl⟩, ?_, ?_⟩
 ·rintro τ ys Γ9 ⟨es, qs, o1, o2, o3, er1, em1, rfl, rfl, rfl⟩
  have hz := nil_of er1
  subst hz
  rw [List.append_nil] at em1
  subst em1
  refine ⟨trivial, ds ++ [hx], rs, _, _, _, _, rfl, by rw [em]; simp, by rw [fm_one]; rfl, rfl, rfl⟩
 rintro x r τ ys Γ9 ⟨es, qs, o1, o2, o3, er1, em1, rfl, rfl, rfl⟩
 obtain ⟨tx, qs, rfl, rfl, rfl⟩ := cons_of er1
 have d1 : es.length ≤ 1 := by have := congrArg List.length em1; rw [List.length_append, List.length_cons] at this; have : 2 = es.length + (qs.length + 1) := this; omega
 have p1 : (ds.flatMap rows1 ++ es.flatMap (rows2 hx)).length ≤ 12 := by rw [List.length_append, flen (len2 hx)]; omega
 obtain ⟨pre1, ep⟩ : ∃ pre1, pre1 = ds.flatMap rows1 ++ es.flatMap (rows2 hx) := ⟨_, rfl⟩
 rw [← ep] at p1 ⊢
 refine ⟨trivial, ?_⟩
 and_intros
 refine t_mf ?_
 and_intros
 refine ⟨a3, _, rfl, kt_men k_CHOICES3, ?_⟩
 refine ⟨fun rest τ ys Γ' => ∃ (es qs : List Str) (o2 o3 : Option T), rest = qs.map T.str ∧ m2 = es ++ qs ∧ ys = (pre1 ++ es.flatMap (rows3 hx tx)).map rwT ∧ τ = [some (.str hx), some (.str tx), o2, o3, some (.ref a2), some (.ref a3), some (.ref a4)] ∧ Γ = Γ', ⟨[], m2, _, _, rfl, rfl, by rw [List.flatMap_nil, List.append_nil], rfl, rfl⟩, ?_, ?_⟩
 ·rintro τ ys Γ9 ⟨fs, qr, o2, o3, er2, em2, rfl, rfl, rfl⟩
  have hz := nil_of er2
  subst hz
  rw [List.append_nil] at em2
  subst em2
  refine ⟨trivial, es ++ [tx], qs, _, _, _, rfl, by rw [em1]; simp, ?_, rfl, rfl⟩
  rw [ep, fm_one, ← List.append_assoc]; rfl
 rintro x r τ ys Γ9 ⟨fs, qr, o2, o3, er2, em2, rfl, rfl, rfl⟩
 obtain ⟨rx, qr, rfl, rfl, rfl⟩ := cons_of er2
 have d2 : fs.length ≤ 1 := by have := congrArg List.length em2; rw [List.length_append, List.length_cons] at this; have : 2 = fs.length + (qr.length + 1) := this; omega
 have p2 : (pre1 ++ fs.flatMap (rows3 hx tx)).length ≤ 14 := by rw [List.length_append, flen (len3 hx tx)]; omega
 obtain ⟨pre2, ep2⟩ : ∃ pre2, pre2 = pre1 ++ fs.flatMap (rows3 hx tx) := ⟨_, rfl⟩
 rw [← ep2] at p2 ⊢
 refine ⟨trivial, ?_⟩
 and_intros
 refine t_mf ?_
 and_intros
 refine ⟨a4, _, rfl, kt_men k_CHOICES4, ?_⟩
 refine ⟨fun rest τ ys Γ' => ∃ (gs qt : List Str) (o3 : Option T), rest = qt.map T.str ∧ m3 = gs ++ qt ∧ ys = (pre2 ++ gs.map fun o => [hx, tx, rx, o]).map rwT ∧ τ = [some (.str hx), some (.str tx), some (.str rx), o3, some (.ref a2), some (.ref a3), some (.ref a4)] ∧ Γ = Γ', ⟨[], m3, _, rfl, rfl, by rw [List.map_nil, List.append_nil], rfl, rfl⟩, ?_, ?_⟩
 ·rintro τ ys Γ9 ⟨gs, qt, o3, er3, em3, rfl, rfl, rfl⟩
  have hz := nil_of er3
  subst hz
  rw [List.append_nil] at em3
  subst em3
  refine ⟨trivial, fs ++ [rx], qr, _, _, rfl, by rw [em2]; simp, ?_, rfl, rfl⟩
  rw [ep2, fm_one, ← List.append_assoc]; rfl
 rintro x r τ ys Γ9 ⟨gs, qt, o3, er3, em3, rfl, rfl, rfl⟩
 obtain ⟨ox, qt, rfl, rfl, rfl⟩ := cons_of er3
 have d3 : gs.length ≤ 1 := by have := congrArg List.length em3; rw [List.length_append, List.length_cons] at this; have : 2 = gs.length + (qt.length + 1) := this; omega
 refine ⟨trivial, ?_⟩
 and_intros
 refine t_me ?_ ?_
 ·rw [List.length_map, List.length_append, List.length_map, sizeLine_eq]; omega
 and_intros
 exact ⟨gs ++ [ox], qt, _, rfl, by rw [em3]; simp, by rw [List.map_append, List.map_append, List.map_append, List.map_append, List.append_assoc]; rfl, rfl, rfl⟩
end
abbrev wdsL : List Str := ["low", "high", "count", "end", "array", "chain", "told", "names"]
theorem wds_len : ∀ z ∈ wdsL, z.length ≤ 5 := by decide +kernel
theorem cut_mem {α : Type} {xs : List α} {lo hi : Option Int} {x : α} (h : x ∈ cutN xs lo hi) : x ∈ xs := List.mem_of_mem_drop (List.mem_of_mem_take h)
section
variable {P : Program} {w : World} {K : PySem.W.Frag} {mg : Str → Option Value} {base : Heap} {f : Addr} {fd : FuncData} {v1 v2 v3 : Value}
def Wr (x : T) : Prop := (∃ z : Str, x = .str z ∧ z.length ≤ 5) ∨ ∃ zs : List Str, x = .tup (zs.map T.str) ∧ zs.length = 4 ∧ ∀ z ∈ zs, z.length ≤ 5
theorem Wr.pt {Γ : Gp} {x : T} (h : Wr x) : Pt Γ x := by
 rcases h with ⟨z, rfl, l⟩ | ⟨zs, rfl, l, m⟩
 ·exact .str (by omega)
 ·exact .tup (by rw [List.length_map]; omega) fun t ht => by
   obtain ⟨z, hz, rfl⟩ := List.mem_map.mp ht
   exact .str (by have := m z hz; omega)
abbrev s_law_other : Stmt := top 9
theorem sc_law_other : FnScope ["flow", "thing", "way", "words", "at", "some", "odd", "sign", "word"] ["flow", "thing"] (defScope s_law_other) := ⟨rfl, rfl, rfl, by decide +kernel, rfl, by decide +kernel, by decide +kernel⟩
def spOt : Sp3 := fun ts Γ Z _ => ∃ (a : Addr) (x : T), ts = [.ref a, x] ∧ FlowAt Γ a ∧ Wr x ∧ ∀ (t : T) (Γ' : Gp), Pt Γ' t → FlowAt Γ' a → Kq [a] Γ Γ' → Z t Γ'
theorem ok_other (F : Fun K "_law_other" "_law_other" s_law_other f fd) (c_law_draw : Cl3 P w K mg base "_law_draw" 1 ["flow", "many"] spDr) (c_law_sign : Cl3 P w K mg base "_law_sign" 2 ["flow"] spSg) (z_isinstance : mg "isinstance" = none) (z_tuple : mg "tuple" = none) (z_len : mg "len" = none) (z_list : mg "list" = none) : FnOk P w K mg base CX0 3 f fd ["flow", "thing"] (liSp spOt) := by
 refine okd F sc_law_other (fun ts Γ Z Y h => ?_) (fun cdv A outer s H E ts Γ Z Y hr h => ?_)
 ·obtain ⟨a, x, rfl, _⟩ := h
  rfl
 obtain ⟨a, x, rfl, fl, wr, q⟩ := h
 refine ⟨_, (qss_cons (qs_set (i := 2) sc_law_other.nd rfl (Or.inl rfl) (qe_call c_law_draw hr (by omega) rfl (qa_cons (qv 0) (qa_cons qe_int qa_nil))))
  (qss_cons (qs_set (i := 3) sc_law_other.nd rfl (Or.inl rfl) (qe_lst (qa_cons qe_str (qa_cons qe_str (qa_cons qe_str (qa_cons qe_str (qa_cons qe_str (qa_cons qe_str (qa_cons qe_str (qa_cons qe_str qa_nil))))))))))
  (qss_cons (qs_if (qt_val (qe_inst rfl z_isinstance rfl z_tuple bt_tuple (qv 1))) (qss_cons (qs_set (i := 4) sc_law_other.nd rfl (Or.inl rfl) (qe_call c_law_draw hr (by omega) rfl (qa_cons (qv 0) (qa_cons (qe_op oq_add (qe_callB cq_len rfl z_len PySem.boot_len (qa_cons (qv 1) qa_nil)) qe_int) qa_nil))))
  (qss_cons (qs_set (i := 5) sc_law_other.nd rfl (Or.inl rfl) (qe_lst (qa_cons (qe_op oq_cat (qe_slice sq_tup (qv 1) qo_none (qo_some (qv 4))) (qe_slice sq_tup (qv 1) (qo_some (qe_op oq_add (qv 4) qe_int)) qo_none)) (qa_cons (qe_op oq_cat (qe_op oq_cat (qe_slice sq_tup (qv 1) qo_none (qo_some (qv 4))) (qe_slice sq_tup (qv 1) qo_none (qo_some qe_int))) (qe_slice sq_tup (qv 1) (qo_some (qv 4)) qo_none)) (qa_cons (qe_revT (qv 1) (qe_neg qe_int)) (qa_cons (qe_callTy cq_list rfl z_list bt_list (qa_cons (qv 1) qa_nil)) qa_nil))))))
  (qss_cons (qs_set (i := 6) sc_law_other.nd rfl (Or.inl rfl) (qe_ix (qe_lst (qa_cons qe_non (qa_cons qe_int (qa_cons qe_bl (qa_cons qe_dnew (qa_cons qe_str qa_nil)))))) (qe_call c_law_draw hr (by omega) rfl (qa_cons (qv 0) (qa_cons qe_int qa_nil))) (fun _ _ => rfl)))
  (qss_cons (qs_set (i := 5) sc_law_other.nd rfl (Or.inl rfl) (qe_op oq_catL (qv 5) (qe_lst (qa_cons (qe_op oq_cat (qe_op oq_cat (qe_slice sq_tup (qv 1) qo_none (qo_some (qv 4))) (qe_slice sq_tup (qv 1) qo_none (qo_some qe_int))) (qe_slice sq_tup (qv 1) (qo_some (qe_op oq_add (qv 4) qe_int)) qo_none)) (qa_cons (qe_op oq_cat (qv 1) (qe_tup (qa_cons qe_str qa_nil))) (qa_cons (qe_tup qa_nil) (qa_cons (qv 6) qa_nil)))))))
  (qss_cons (qs_ret (qe_ix (qv 5) (qv 2) (fun _ _ => rfl)))
  qss_nil))))) qss_nil)
  (qss_cons (qs_set (i := 4) sc_law_other.nd rfl (Or.inl rfl) (qe_call c_law_draw hr (by omega) rfl (qa_cons (qv 0) (qa_cons (qe_op oq_add (qe_callB cq_lens rfl z_len PySem.boot_len (qa_cons (qv 1) qa_nil)) qe_int) qa_nil))))
  (qss_cons (qs_set (i := 7) sc_law_other.nd rfl (Or.inl rfl) (qe_call c_law_sign hr (by omega) rfl (qa_cons (qv 0) qa_nil)))
  (qss_cons (qs_set (i := 5) sc_law_other.nd rfl (Or.inl rfl) (qe_lst (qa_cons (qe_op oq_adds (qe_op oq_adds (qe_slice sq_str (qv 1) qo_none (qo_some (qv 4))) (qv 7)) (qe_slice sq_str (qv 1) (qo_some (qv 4)) qo_none)) (qa_cons (qe_op oq_adds (qe_slice sq_str (qv 1) qo_none (qo_some (qv 4))) (qe_slice sq_str (qv 1) (qo_some (qe_op oq_add (qv 4) qe_int)) qo_none)) (qa_cons (qe_op oq_adds (qe_op oq_adds (qe_slice sq_str (qv 1) qo_none (qo_some (qv 4))) (qv 7)) (qe_slice sq_str (qv 1) (qo_some (qe_op oq_add (qv 4) qe_int)) qo_none)) qa_nil)))))
  (qss_cons (qs_set (i := 8) sc_law_other.nd rfl (Or.inl rfl) (qe_ix (qv 3) (qe_call c_law_draw hr (by omega) rfl (qa_cons (qv 0) (qa_cons qe_int qa_nil))) (fun _ _ => rfl)))
  (qss_cons (qs_set (i := 6) sc_law_other.nd rfl (Or.inl rfl) (qe_ix (qe_lst (qa_cons qe_int (qa_cons qe_non (qa_cons qe_bl (qa_cons (qe_lst (qa_cons (qv 1) qa_nil)) (qa_cons qe_dnew qa_nil)))))) (qe_call c_law_draw hr (by omega) rfl (qa_cons (qv 0) (qa_cons qe_int qa_nil))) (fun _ _ => rfl)))
  (qss_cons (qs_ret (qe_ix (qe_op oq_catL (qv 5) (qe_lst (qa_cons (qe_bm0 PySem.F.plainAttrs_str PySem.F.slot_str_upper PySem.F.type_str_upper mq_upper (qv 1)) (qa_cons (qe_op oq_adds (qv 1) (qv 8)) (qa_cons (qv 6) (qa_cons (qv 8) (qa_cons (qe_tup (qa_cons (qv 1) qa_nil)) qa_nil))))))) (qv 2) (fun _ _ => rfl)))
  qss_nil))))))))), ?_⟩
 simp only [start3]
 have sl := sizeLine_eq
 and_intros
 refine ⟨a, 8, rfl, fl, by decide, by decide, fun way Γ1 w0 w1 fl1 fr1 => ?_⟩
 and_intros
 intro pw hpw; generalize e2 : up _ pw (O.lst _) = Γ2; have gw := al_g e2; have l2 := al_l e2 hpw
 have fl2 : FlowAt Γ2 a := fl1.kq (l := []) l2.kq (by simp)
 have kq2 : Kq [a] Γ Γ2 := fr1.kq.trans l2.kq
 have naw : pw ≠ a := fl1.nn hpw
 clear e2
 and_intros
 refine t_in (in_tup wr.pt) ?_
 and_intros
 refine c_if (fun c => ?_) (fun c => ?_)
 ·rcases wr with ⟨z, rfl, zl⟩ | ⟨zs, rfl, z4, zm⟩
  ·cases c
  obtain ⟨us, eus, u4, um⟩ : ∃ us : List T, us = zs.map T.str ∧ us.length = 4 ∧ ∀ (Γ : Gp), ∀ t ∈ us, Pt Γ t := ⟨_, rfl, by rw [List.length_map]; exact z4, fun Γ t ht => by
   obtain ⟨z, hz, rfl⟩ := List.mem_map.mp ht
   exact .str (by have := zm z hz; omega)⟩
  rw [← eus]
  clear eus
  and_intros
  refine ⟨a, 5, by rw [u4]; rfl, fl2, by decide, by decide, fun at_ Γ3 a0 a1 fl3 fr3 => ?_⟩
  have gw3 : Γ3 pw = some (.lst (wdsL.map T.str)) := by rw [fr3 pw (by simpa using naw)]; exact gw
  have kq3 := kq2.trans fr3.kq
  have cl : ∀ lo hi, (cutN us lo hi).length ≤ 4 := fun lo hi => by have := cutN_length us lo hi; omega
  have cm : ∀ lo hi (Γ : Gp), ∀ t ∈ cutN us lo hi, Pt Γ t := fun lo hi Γ t ht => um Γ t (cut_mem ht)
  have c1 := cl none (some at_)
  have c2 := cl (some (at_ + 1)) none
  have c3 := cl none (some 1)
  have c4 := cl (some at_) none
  and_intros
  refine t_cat (by omega) ?_
  and_intros
  refine t_cat (by omega) ?_
  and_intros
  refine t_cat (by rw [List.length_append]; omega) ?_
  and_intros
  refine ⟨rfl, us, rfl, ?_⟩
  and_intros
  intro pl hpl; generalize e4 : up _ pl (O.lst _) = Γ4; have gl := al_g e4; have l4 := al_l e4 hpl
  and_intros
  intro ps hps; generalize e5 : up _ ps (O.lst _) = Γ5; have gs := al_g e5; have l5 := al_l e5 hps
  have fl5 : FlowAt Γ5 a := fl3.kq (l := []) (l4.trans l5).kq (by simp)
  have nas : ps ≠ a := (fl3.kq (l := []) l4.kq (by simp)).nn hps
  have nal : pl ≠ a := fl3.nn hpl
  obtain ⟨L1, gL1, n1, hL1⟩ : ∃ L : List T, Γ5 ps = some (.lst L) ∧ L.length = 4 ∧ ∀ Γ', Γ' pl = some (.lst us) → ∀ t ∈ L, Pt Γ' t := ⟨_, gs, rfl, fun Γ' hl t ht => by
   simp only [List.mem_cons, List.not_mem_nil, or_false] at ht
   rcases ht with rfl | rfl | rfl | rfl
   ·exact .tup (by rw [List.length_append]; omega) fun t ht => by rcases List.mem_append.mp ht with h | h <;> exact cm _ _ _ _ h
   ·exact .tup (by rw [List.length_append, List.length_append]; omega) fun t ht => by
     simp only [List.mem_append] at ht
     rcases ht with (h | h) | h <;> exact cm _ _ _ _ h
   ·exact .tup (by rw [List.length_reverse]; omega) fun t ht => um _ t (List.mem_reverse.mp ht)
   ·exact .lst hl⟩
  clear gs e4 e5
  and_intros
  unfold eDn
  intro pd hpd; generalize e6 : up _ pd (O.dK _) = Γ6; have gd := al_g e6; have l6 := al_l e6 hpd
  and_intros
  intro po hpo; generalize e7 : up _ po (O.lst _) = Γ7; have go := al_g e7; have l7 := al_l e7 hpo
  have l57 := l6.trans l7
  have fl7 : FlowAt Γ7 a := fl5.kq (l := []) l57.kq (by simp)
  have nad : pd ≠ a := fl5.nn hpd
  have nao : po ≠ a := (fl5.kq (l := []) l6.kq (by simp)).nn hpo
  clear e6 e7
  and_intros
  refine ⟨a, 5, rfl, fl7, by decide, by decide, fun r5 Γ8 b0 b1 fl8 fr8 => ?_⟩
  have go8 : Γ8 po = _ := (fr8 po (by simpa using nao)).trans go
  have gd8 : Γ8 pd = _ := (fr8 pd (by simpa using nad)).trans (l7 _ _ gd)
  have gL8 : Γ8 ps = _ := (fr8 ps (by simpa using nas)).trans (l57 _ _ gL1)
  have gl8 : Γ8 pl = _ := (fr8 pl (by simpa using nal)).trans (l57 _ _ (l5 _ _ gl))
  obtain ⟨od, hod, mod⟩ := at_some (xs := [T.non, .int 0, .bl true, .ref pd, .str "low"]) b0 b1
  have pod : ∀ Γ', Γ' pd = some (.dK []) → Pt Γ' od := fun Γ' h => by
   simp only [List.mem_cons, List.not_mem_nil, or_false] at mod
   rcases mod with rfl | rfl | rfl | rfl | rfl
   ·exact .non
   ·exact .int _
   ·exact .bl _
   ·exact .dct h
   ·exact .str (by decide)
  refine t_ixR go8 hod ?_
  and_intros
  refine t_cat (by omega) ?_
  and_intros
  refine t_cat (by rw [List.length_append]; omega) ?_
  and_intros
  refine t_cat (by rw [u4]; show 4 + 1 ≤ _; omega) ?_
  and_intros
  intro pq hpq; generalize e9 : up _ pq (O.lst _) = Γ9; have gq := al_g e9; have l9 := al_l e9 hpq
  refine ⟨ps, pq, _, _, rfl, rfl, l9 _ _ gL8, gq, Nat.le_of_lt (small1000 (by rw [n1]; show 4 + 4 ≤ 1000; decide)), ?_⟩
  intro pr hpr; generalize e10 : up _ pr (O.lst _) = Γ10; have gr := al_g e10; have l10 := al_l e10 hpr
  have l810 := l9.trans l10
  obtain ⟨L, gL, nL, hL⟩ : ∃ L : List T, Γ10 pr = some (.lst L) ∧ L.length = 8 ∧ ∀ t ∈ L, Pt Γ10 t := ⟨_, gr, by rw [List.length_append, n1]; rfl, fun t ht => by
   rcases List.mem_append.mp ht with ht | ht
   ·exact hL1 Γ10 (l810 _ _ gl8) t ht
   simp only [List.mem_cons, List.not_mem_nil, or_false] at ht
   rcases ht with rfl | rfl | rfl | rfl
   ·exact .tup (by rw [List.length_append, List.length_append]; omega) fun t ht => by
     simp only [List.mem_append] at ht
     rcases ht with (h | h) | h <;> exact cm _ _ _ _ h
   ·exact .tup (by rw [List.length_append, u4]; show 4 + 1 ≤ 999; decide) fun t ht => by
     rcases List.mem_append.mp ht with h | h
     ·exact um _ t h
     ·rw [List.mem_singleton.mp h]; exact .str (by decide)
   ·exact .tup (by simp) fun t ht => by cases ht
   ·exact pod Γ10 (l810 _ _ gd8)⟩
  and_intros
  obtain ⟨y, hy, my⟩ := at_some (xs := L) w0 (by rw [nL]; exact w1)
  refine t_ixR gL hy ?_
  have kq8 : Kq [a] Γ Γ8 := (kq3.trans ((l4.trans l5).trans l57).kq).trans fr8.kq
  exact drop0 .refl (q y Γ10 (hL y my) (fl8.kq (l := []) l810.kq (by simp)) (kq8.trans l810.kq))
 ·rcases wr with ⟨z, rfl, zl⟩ | ⟨zs, rfl, z4, zm⟩
  rotate_left
  ·cases c
  and_intros
  refine ⟨z, rfl, by omega, ?_⟩
  and_intros
  refine ⟨a, (z.length : Int) + 1, rfl, fl2, by omega, Int.lt_of_le_of_lt (show (z.length : Int) + 1 ≤ 6 by omega) (by decide), fun at_ Γ3 a0 a1 fl3 fr3 => ?_⟩
  have gw3 : Γ3 pw = some (.lst (wdsL.map T.str)) := by rw [fr3 pw (by simpa using naw)]; exact gw
  have kq3 := kq2.trans fr3.kq
  and_intros
  refine ⟨a, rfl, fl3, fun sg Γ4 sg1 _ fl4 fr4 => ?_⟩
  have gw4 : Γ4 pw = some (.lst (wdsL.map T.str)) := by rw [fr4 pw (by simpa using naw)]; exact gw3
  have kq4 := kq3.trans fr4.kq
  and_intros
  refine ⟨by omega, fun y1 hy1 => ?_⟩
  have c1 := cut_le hy1
  and_intros
  refine t_adds ?_ ?_
  ·omega
  and_intros
  refine ⟨by omega, fun y2 hy2 => ?_⟩
  have c2 := cut_le hy2
  refine t_adds ?_ ?_
  ·rw [app_len]; omega
  and_intros
  refine ⟨by omega, fun y3 hy3 => ?_⟩
  have c3 := cut_le hy3
  and_intros
  refine ⟨by omega, fun y4 hy4 => ?_⟩
  have c4 := cut_le hy4
  refine t_adds ?_ ?_
  ·omega
  and_intros
  refine ⟨by omega, fun y5 hy5 => ?_⟩
  have c5 := cut_le hy5
  and_intros
  refine t_adds ?_ ?_
  ·omega
  and_intros
  refine ⟨by omega, fun y6 hy6 => ?_⟩
  have c6 := cut_le hy6
  refine t_adds ?_ ?_
  ·rw [app_len]; omega
  and_intros
  intro ps hps; generalize e5 : up _ ps (O.lst _) = Γ5; have gs := al_g e5; have l5 := al_l e5 hps
  have fl5 : FlowAt Γ5 a := fl4.kq (l := []) l5.kq (by simp)
  have nas : ps ≠ a := fl4.nn hps
  obtain ⟨L1, gL1, n1, hL1⟩ : ∃ L : List T, Γ5 ps = some (.lst L) ∧ L.length = 3 ∧ ∀ (Γ' : Gp), ∀ t ∈ L, Pt Γ' t := ⟨_, gs, rfl, fun Γ' t ht => by
   simp only [List.mem_cons, List.not_mem_nil, or_false] at ht
   rcases ht with rfl | rfl | rfl
   ·exact .str (by rw [app_len, app_len]; omega)
   ·exact .str (by rw [app_len]; omega)
   ·exact .str (by rw [app_len, app_len]; omega)⟩
  clear gs e5
  and_intros
  refine ⟨a, 8, rfl, fl5, by decide, by decide, fun r8 Γ6 b0 b1 fl6 fr6 => ?_⟩
  have gw6 : Γ6 pw = some (.lst (wdsL.map T.str)) := (fr6 pw (by simpa using naw)).trans (l5 _ _ gw4)
  have gL6 : Γ6 ps = _ := (fr6 ps (by simpa using nas)).trans gL1
  obtain ⟨wt, hwt, mwt⟩ := at_some (xs := wdsL.map T.str) b0 b1
  obtain ⟨wd, mwd, rfl⟩ := List.mem_map.mp mwt
  have wl := wds_len wd mwd
  refine t_ixR gw6 hwt ?_
  and_intros
  intro pk hpk; generalize e7 : up _ pk (O.lst _) = Γ7; have gk := al_g e7; have l7 := al_l e7 hpk
  and_intros
  unfold eDn
  intro pd hpd; generalize e8 : up _ pd (O.dK _) = Γ8; have gd := al_g e8; have l8 := al_l e8 hpd
  and_intros
  intro po hpo; generalize e9 : up _ po (O.lst _) = Γ9; have go := al_g e9; have l9 := al_l e9 hpo
  have l69 := (l7.trans l8).trans l9
  have fl9 : FlowAt Γ9 a := fl6.kq (l := []) l69.kq (by simp)
  have nak : pk ≠ a := fl6.nn hpk
  have nad : pd ≠ a := (fl6.kq (l := []) l7.kq (by simp)).nn hpd
  have nao : po ≠ a := (fl6.kq (l := []) (l7.trans l8).kq (by simp)).nn hpo
  clear e7 e8 e9
  and_intros
  refine ⟨a, 5, rfl, fl9, by decide, by decide, fun r5 Γ10 d0 d1 fl10 fr10 => ?_⟩
  have go10 : Γ10 po = _ := (fr10 po (by simpa using nao)).trans go
  have gd10 : Γ10 pd = _ := (fr10 pd (by simpa using nad)).trans (l9 _ _ gd)
  have gk10 : Γ10 pk = _ := (fr10 pk (by simpa using nak)).trans (l9 _ _ (l8 _ _ gk))
  have gL10 : Γ10 ps = _ := (fr10 ps (by simpa using nas)).trans (l69 _ _ gL6)
  obtain ⟨od, hod, mod⟩ := at_some (xs := [T.int 0, .non, .bl true, .ref pk, .ref pd]) d0 d1
  have pod : ∀ Γ', Γ' pd = some (.dK []) → Γ' pk = some (.lst [.str z]) → Pt Γ' od := fun Γ' h h' => by
   simp only [List.mem_cons, List.not_mem_nil, or_false] at mod
   rcases mod with rfl | rfl | rfl | rfl | rfl
   ·exact .int _
   ·exact .non
   ·exact .bl _
   ·exact .lst h'
   ·exact .dct h
  refine t_ixR go10 hod ?_
  and_intros
  refine ⟨rfl, by omega, fun y7 c7 => ?_⟩
  and_intros
  refine t_adds ?_ ?_
  ·omega
  and_intros
  intro pq hpq; generalize e11 : up _ pq (O.lst _) = Γ11; have gq := al_g e11; have l11 := al_l e11 hpq
  refine ⟨ps, pq, _, _, rfl, rfl, l11 _ _ gL10, gq, Nat.le_of_lt (small1000 (by rw [n1]; show 3 + 5 ≤ 1000; decide)), ?_⟩
  intro pr hpr; generalize e12 : up _ pr (O.lst _) = Γ12; have gr := al_g e12; have l12 := al_l e12 hpr
  have lZ := l11.trans l12
  obtain ⟨L, gL, nL, hL⟩ : ∃ L : List T, Γ12 pr = some (.lst L) ∧ L.length = 8 ∧ ∀ t ∈ L, Pt Γ12 t := ⟨_, gr, by rw [List.length_append, n1]; rfl, fun t ht => by
   rcases List.mem_append.mp ht with ht | ht
   ·exact hL1 Γ12 t ht
   simp only [List.mem_cons, List.not_mem_nil, or_false] at ht
   rcases ht with rfl | rfl | rfl | rfl | rfl
   ·exact .str (by omega)
   ·exact .str (by rw [app_len]; omega)
   ·exact pod Γ12 (lZ _ _ gd10) (lZ _ _ gk10)
   ·exact .str (by omega)
   ·exact .tup (by simp) fun t ht => by rw [List.mem_singleton.mp ht]; exact .str (by omega)⟩
  and_intros
  obtain ⟨y, hy, my⟩ := at_some (xs := L) w0 (by rw [nL]; exact w1)
  refine t_ixR gL hy ?_
  have kq10 : Kq [a] Γ Γ10 := (((kq4.trans l5.kq).trans fr6.kq).trans l69.kq).trans fr10.kq
  exact drop0 .refl (q y Γ12 (hL y my) (fl10.kq (l := []) lZ.kq (by simp)) (kq10.trans lZ.kq))
end
theorem rngT_cons {lo : Int} {n : Nat} {x : T} {r : List T} (h : x :: r = rngT lo n) : ∃ m, n = m + 1 ∧ x = .int lo ∧ r = rngT (lo + 1) m := by
 cases n with
 | zero => cases h
 | succ m => cases h; exact ⟨m, rfl, rfl, rfl⟩
theorem rngT_nil {lo : Int} {n : Nat} (h : [] = rngT lo n) : n = 0 := by
 cases n with
 | zero => rfl
 | succ m => cases h
section
variable {P : Program} {w : World} {K : PySem.W.Frag} {mg : Str → Option Value} {base : Heap} {f : Addr} {fd : FuncData} {v1 v2 v3 : Value}
def Wn (n : Nat) (x : T) : Prop := (∃ z : Str, x = .str z ∧ z.length ≤ 5 ∧ 0 < n) ∨ ∃ zs : List Str, x = .tup (zs.map T.str) ∧ zs.length = 4 ∧ (∀ z ∈ zs, z.length ≤ 5) ∧ 1 < n
theorem Wn.wr {n : Nat} {x : T} (h : Wn n x) : Wr x := by
 rcases h with ⟨z, e, l, _⟩ | ⟨zs, e, l, m, _⟩
 ·exact .inl ⟨z, e, l⟩
 ·exact .inr ⟨zs, e, l, m⟩
abbrev s_law_spoilt : Stmt := top 10
theorem sc_law_spoilt : FnScope ["flow", "thing", "left", "at"] ["flow", "thing", "left"] (defScope s_law_spoilt) := ⟨rfl, rfl, rfl, by decide +kernel, rfl, by decide +kernel, by decide +kernel⟩
def spSpl (n : Nat) : Sp3 := fun ts Γ Z _ => ∃ (a : Addr) (x : T) (lf : Int), ts = [.ref a, x, .int lf] ∧ FlowAt Γ a ∧ Wn n x ∧ ∀ (t : T) (Γ' : Gp), Pt Γ' t → FlowAt Γ' a → Kq [a] Γ Γ' → Z t Γ'
theorem ok_spoilt {n lv : Nat} (F : Fun K "_law_spoilt" "_law_spoilt" s_law_spoilt f fd) (c_law_draw : Cl3 P w K mg base "_law_draw" 1 ["flow", "many"] spDr) (c_law_other : Cl3 P w K mg base "_law_other" 3 ["flow", "thing"] spOt) (c_law_spoilt : Cl3 P w K mg base "_law_spoilt" (lv + 3) ["flow", "thing", "left"] (spSpl n)) (z_isinstance : mg "isinstance" = none) (z_tuple : mg "tuple" = none) (z_len : mg "len" = none) : FnOk P w K mg base CX0 (lv + 4) f fd ["flow", "thing", "left"] (liSp (spSpl (n + 1))) := by
 refine okd F sc_law_spoilt (fun ts Γ Z Y h => ?_) (fun cdv A outer s H E ts Γ Z Y hr h => ?_)
 ·obtain ⟨a, x, lf, rfl, _⟩ := h
  rfl
 obtain ⟨a, x, lf, rfl, fl, wn, q⟩ := h
 refine ⟨_, (qss_cons (qs_if (PW.pt (qw_and (qt_cmpR oq_gt (qv 2) qe_int (nomark _)) (qw_and (qt_val (qe_inst rfl z_isinstance rfl z_tuple bt_tuple (qv 1))) (qw_and (qt_cmpR (oq_neT0 hr.units0) (qv 1) (qe_tup qa_nil) (nomark _)) (qw_and1 (qt_cmpR oq_gt (qe_call c_law_draw hr (by omega) rfl (qa_cons (qv 0) (qa_cons qe_int qa_nil))) qe_int (nomark _))))))) (qss_cons (qs_set (i := 3) sc_law_spoilt.nd rfl (Or.inl rfl) (qe_call c_law_draw hr (by omega) rfl (qa_cons (qv 0) (qa_cons (qe_callB cq_len rfl z_len PySem.boot_len (qa_cons (qv 1) qa_nil)) qa_nil))))
  (qss_cons (qs_ret (qe_op oq_cat (qe_op oq_cat (qe_slice sq_tup (qv 1) qo_none (qo_some (qv 3))) (qe_tup (qa_cons (qe_call c_law_spoilt hr (by omega) rfl (qa_cons (qv 0) (qa_cons (qe_ix (qv 1) (qv 3) (fun _ _ => rfl)) (qa_cons (qe_op oq_sub (qv 2) qe_int) qa_nil)))) qa_nil))) (qe_slice sq_tup (qv 1) (qo_some (qe_op oq_add (qv 3) qe_int)) qo_none)))
  qss_nil)) qss_nil)
  (qss_cons (qs_ret (qe_call c_law_other hr (by omega) rfl (qa_cons (qv 0) (qa_cons (qv 1) qa_nil))))
  qss_nil)), ?_⟩
 simp only [start3]
 have sl := sizeLine_eq
 have els : ∀ Γ1, FlowAt Γ1 a → Kq [a] Γ Γ1 → spOt [.ref a, x] Γ1 (dropK Z) fun _ _ => False := fun Γ1 fl1 k1 => ⟨a, x, rfl, fl1, wn.wr, fun t Γ' pt fl' k' => drop0 .refl (q t Γ' pt fl' (k1.trans k'))⟩
 and_intros
 refine c_if (fun c => ?_) (fun c => ?_)
 rotate_left
 ·and_intros
  exact els Γ fl .refl
 and_intros
 refine t_in (in_tup wn.wr.pt) ?_
 and_intros
 refine c_if (fun c1 => ?_) (fun c1 => ?_)
 rotate_left
 ·and_intros
  exact els Γ fl .refl
 rcases wn with ⟨z, rfl, zl, zn⟩ | ⟨zs, rfl, z4, zm, n1⟩
 ·cases c1
 and_intros
 refine c_if (fun c2 => ?_) (fun c2 => ?_)
 rotate_left
 ·and_intros
  exact els Γ fl .refl
 and_intros
 refine ⟨a, 5, rfl, fl, by decide, by decide, fun r5 Γ1 _ _ fl1 fr1 => ?_⟩
 and_intros
 refine c_if (fun c3 => ?_) (fun c3 => ?_)
 rotate_left
 ·and_intros
  exact els Γ1 fl1 fr1.kq
 and_intros
 refine ⟨a, 4, by rw [List.length_map, z4]; rfl, fl1, by decide, by decide, fun at_ Γ2 a0 a1 fl2 fr2 => ?_⟩
 have kq2 : Kq [a] Γ Γ2 := fr1.kq.trans fr2.kq
 obtain ⟨xt, hxt, mxt⟩ := at_some (xs := zs.map T.str) a0 (by rw [List.length_map, z4]; exact a1)
 obtain ⟨xz, mxz, rfl⟩ := List.mem_map.mp mxt
 have cl : ∀ lo hi, (cutN (zs.map T.str) lo hi).length ≤ 4 := fun lo hi => by have := cutN_length (zs.map T.str) lo hi; rw [List.length_map] at this; omega
 have cm : ∀ lo hi (Γ : Gp), ∀ t ∈ cutN (zs.map T.str) lo hi, Pt Γ t := fun lo hi Γ t ht => by
  obtain ⟨z, hz, rfl⟩ := List.mem_map.mp (cut_mem ht)
  exact .str (by have := zm z hz; omega)
 have k1 := cl none (some at_)
 have k2 := cl (some (at_ + 1)) none
 and_intros
 refine t_ixT hxt ?_
 and_intros
 refine ⟨a, .str xz, lf - 1, rfl, fl2, .inl ⟨xz, rfl, zm xz mxz, by omega⟩, fun t Γ3 pt fl3 kq3 => ?_⟩
 and_intros
 refine t_cat (by show _ + 1 ≤ _; omega) ?_
 and_intros
 refine t_cat (by rw [List.length_append]; show _ + 1 + _ ≤ _; omega) ?_
 refine drop0 .refl (q _ Γ3 (.tup (by rw [List.length_append, List.length_append]; show _ + 1 + _ ≤ _; omega) fun y hy => ?_) fl3 (kq2.trans kq3))
 simp only [List.mem_append, List.mem_singleton] at hy
 rcases hy with (h | h) | h
 ·exact cm _ _ _ _ h
 ·rw [h]; exact pt
 ·exact cm _ _ _ _ h
abbrev s_law_right : Stmt := top 12
theorem sc_law_right : FnScope ["flow", "choice", "words", "thing", "found"] ["flow"] (defScope s_law_right) := ⟨rfl, rfl, rfl, by decide +kernel, rfl, by decide +kernel, by decide +kernel⟩
def spRight : Sp3 := fun ts Γ Z _ => ∃ a : Addr, ts = [.ref a] ∧ FlowAt Γ a ∧ ∀ Γ', Z (.bl true) Γ'
theorem ok_right (F : Fun K "_law_right" "_law_right" s_law_right f fd) (c_law_draw : Cl3 P w K mg base "_law_draw" 1 ["flow", "many"] spDr) (c_law_spoilt : Cl3 P w K mg base "_law_spoilt" 5 ["flow", "thing", "left"] (spSpl 2)) (c_is_laying : Cl3 P w K mg base "is_laying" 1 ["thing"] spLa) (c_law_is_laying : Cl3 P w K mg base "_law_is_laying" 1 ["thing"] spLa)
    (z_isinstance : mg "isinstance" = none) (z_bool : mg "bool" = none) (z_tuple : mg "tuple" = none) (z_range : mg "range" = none) : FnOk P w K mg base CX0 6 f fd ["flow"] (liSp spRight) := by
  refine okd F sc_law_right (fun ts Γ Z Y h => ?_) (fun cdv A outer s H E ts Γ Z Y hr h => ?_)
  · obtain ⟨a, rfl, _⟩ := h
    rfl
  obtain ⟨a, rfl, fl, q⟩ := h
  refine ⟨_, (qss_cons (qs_set (i := 1) sc_law_right.nd rfl (Or.inl rfl) (qe_call c_law_draw hr (by omega) rfl (qa_cons (qv 0) (qa_cons qe_int qa_nil))))
    (qss_cons (qs_set (i := 2) sc_law_right.nd rfl (Or.inr rfl) (qe_lst (qa_cons qe_str (qa_cons qe_str (qa_cons qe_str (qa_cons qe_str (qa_cons qe_str (qa_cons qe_str (qa_cons qe_str (qa_cons qe_str qa_nil))))))))))
    (qss_cons (qs_cut (qs_if (qt_cmpR oq_eq (qv 1) qe_int (nomark _)) (qss_cons (qs_set (i := 3) sc_law_right.nd rfl (Or.inl rfl) (qe_callTy cq_tuple rfl z_tuple bt_tuple (qa_cons (qe_comp (own := ["k"]) (cap := [(2, "words"), (0, "flow")]) (compOkC rfl (by decide +kernel) (by decide +kernel) rfl (⟨rfl, ⟨rfl, trivial⟩⟩) rfl (⟨⟨rfl, rfl, rfl⟩, ⟨⟨rfl, rfl, rfl⟩, trivial⟩⟩)) rfl (qi_range1 rfl z_range (qa_cons qe_int qa_nil)) (fun _ _ _ _ => (qg_name (i := 0) (show List.Nodup (["k", "words", "flow"] : List Str) from by decide +kernel) rfl (Or.inl rfl) (Or.inr rfl))) (fun _ _ _ _ => qts_nil) (fun _ _ _ _ => (qe_ix (qv 1) (qe_call c_law_draw hr (by omega) rfl (qa_cons (qv 2) (qa_cons qe_int qa_nil))) (fun _ _ => rfl)))) qa_nil)))
    qss_nil) (qss_cons (qs_set (i := 3) sc_law_right.nd rfl (Or.inl rfl) (qe_callTy cq_tuple rfl z_tuple bt_tuple (qa_cons (qe_comp (own := ["k"]) (cap := [(2, "words"), (0, "flow")]) (compOkC rfl (by decide +kernel) (by decide +kernel) rfl (⟨rfl, ⟨rfl, trivial⟩⟩) rfl (⟨⟨rfl, rfl, rfl⟩, ⟨⟨rfl, rfl, rfl⟩, trivial⟩⟩)) rfl (qi_range1 rfl z_range (qa_cons qe_int qa_nil)) (fun _ _ _ _ => (qg_name (i := 0) (show List.Nodup (["k", "words", "flow"] : List Str) from by decide +kernel) rfl (Or.inl rfl) (Or.inr rfl))) (fun _ _ _ _ => qts_nil) (fun _ _ _ _ => (qe_ix (qv 1) (qe_op oq_add (qe_op oq_mul qe_int (qv 0)) (qe_call c_law_draw hr (by omega) rfl (qa_cons (qv 2) (qa_cons qe_int qa_nil)))) (fun _ _ => rfl)))) qa_nil)))
    qss_nil)))
    (qss_cons (qs_cut (qs_if (PW.pt (qw_or (qt_cmpR oq_eq (qv 1) qe_int (nomark _)) (qw_or1 (qt_cmpR oq_eq (qv 1) qe_int (nomark _))))) (qss_cons (qs_set (i := 3) sc_law_right.nd rfl (Or.inl rfl) (qe_call c_law_spoilt hr (by omega) rfl (qa_cons (qv 0) (qa_cons (qv 3) (qa_cons qe_int qa_nil)))))
    qss_nil) qss_nil))
    (qss_cons (qs_set (i := 4) sc_law_right.nd rfl (Or.inl rfl) (qe_call c_is_laying hr (by omega) rfl (qa_cons (qv 3) qa_nil)))
    (qss_cons (qs_ret (qe_and (qe_inst rfl z_isinstance rfl z_bool bt_bool (qv 4)) (qe_one (qe_cmpR oq_eq (qv 4) (qe_call c_law_is_laying hr (by omega) rfl (qa_cons (qv 3) qa_nil)) (nomark _)))))
    qss_nil)))))), ?_⟩
  simp only [start3]
  have sl := sizeLine_eq
  and_intros
  refine ⟨a, 4, rfl, fl, by decide, by decide, fun ch Γ1 _ _ fl1 fr1 => ?_⟩
  and_intros
  intro pw hpw; generalize e2 : up _ pw (O.lst _) = Γ2; have gw := al_g e2; have l2 := al_l e2 hpw
  have gw : Γ2 pw = some (.lst (wdsL.map T.str)) := gw
  have fl2 : FlowAt Γ2 a := fl1.kq (l := []) l2.kq (by simp)
  have naw : pw ≠ a := fl1.nn hpw
  clear e2
  and_intros
  refine ⟨fun τ Γ3 => ∃ zs : List Str, τ = [some (.ref a), some (.int ch), some (.ref pw), some (.tup (zs.map T.str)), none] ∧ zs.length = 4 ∧ (∀ z ∈ zs, z.length ≤ 5) ∧ FlowAt Γ3 a, ?_, ?_⟩
  · and_intros
    refine c_if (fun c => ?_) (fun c => ?_)
    all_goals
      and_intros
      refine ⟨4, rfl, by decide, by decide, ?_⟩
      refine ⟨by rw [sizeLine_eq]; show 4 ≤ 16777216; decide, fun rest τ ys Γ' => ∃ (i m : Nat) (zs : List Str) (o0 : Option T), rest = rngT (i : Int) m ∧ i + m = 4 ∧ ys = zs.map T.str ∧ zs.length = i ∧ (∀ z ∈ zs, z.length ≤ 5) ∧ τ = [o0, some (.ref pw), some (.ref a)] ∧ FlowAt Γ' a ∧ Γ' pw = some (.lst (wdsL.map T.str)), ⟨0, 4, [], none, rfl, rfl, rfl, rfl, fun _ h => (nomatch h), rfl, fl2, gw⟩, ?_, ?_⟩
      · rintro τ ys Γ' ⟨i, m, zs, o0, er, im, rfl, zl, zm, rfl, fl', gw'⟩
        have hm := rngT_nil er
        subst hm
        refine ⟨trivial, ?_⟩
        intro p1 hp1; generalize e1 : up _ p1 (O.lst _) = Γ3; have g1 := al_g e1; have l1 := al_l e1 hp1
        and_intros
        refine ⟨.ref p1, _, rfl, it3_l g1, ?_⟩
        and_intros
        exact ⟨zs, rfl, by omega, zm, fl'.kq (l := []) l1.kq (by simp)⟩
      · rintro x r τ ys Γ' ⟨i, m, zs, o0, er, im, rfl, zl, zm, rfl, fl', gw'⟩
        obtain ⟨m', rfl, rfl, rfl⟩ := rngT_cons er
        refine ⟨trivial, ?_⟩
        and_intros
        refine ⟨a, _, rfl, fl', by decide, by decide, fun r Γ4 r0 r1 fl4 fr4 => ?_⟩
        have gw4 : Γ4 pw = some (.lst (wdsL.map T.str)) := (fr4 pw (by simpa using naw)).trans gw'
        and_intros
        first
          | (obtain ⟨wt, hwt, mwt⟩ := at_some (xs := wdsL.map T.str) r0 r1
             obtain ⟨wd, mwd, rfl⟩ := List.mem_map.mp mwt
             refine t_ixR gw4 hwt ?_
             exact ⟨i + 1, m', zs ++ [wd], _, rfl, by omega, by rw [List.map_append]; rfl, by rw [List.length_append, zl]; rfl, fun z hz => by
               rcases List.mem_append.mp hz with h | h
               · exact zm z h
               · rw [List.mem_singleton.mp h]; exact wds_len wd mwd, rfl, fl4, gw4⟩)
          | (obtain ⟨wt, hwt, mwt⟩ := at_some (xs := wdsL.map T.str) (r := 2 * (i : Int) + r) (by omega) (show _ < (8 : Int) by omega)
             obtain ⟨wd, mwd, rfl⟩ := List.mem_map.mp mwt
             refine t_ixR gw4 hwt ?_
             exact ⟨i + 1, m', zs ++ [wd], _, rfl, by omega, by rw [List.map_append]; rfl, by rw [List.length_append, zl]; rfl, fun z hz => by
               rcases List.mem_append.mp hz with h | h
               · exact zm z h
               · rw [List.mem_singleton.mp h]; exact wds_len wd mwd, rfl, fl4, gw4⟩)
  rintro τ Γ3 ⟨zs, rfl, z4, zm, fl3⟩
  and_intros
  have rw3 : Wn 2 (.tup (zs.map T.str)) := .inr ⟨zs, rfl, z4, zm, by decide⟩
  refine ⟨fun τ Γ4 => ∃ t : T, τ = [some (.ref a), some (.int ch), some (.ref pw), some t, none] ∧ Pt Γ4 t, ?_, ?_⟩
  · and_intros
    refine c_if (fun c => ?_) (fun c => ?_)
    · and_intros
      refine ⟨a, _, 3, rfl, fl3, rw3, fun t Γ4 pt _ _ => ?_⟩
      and_intros
      exact ⟨t, rfl, pt⟩
    · and_intros
      refine c_if (fun c => ?_) (fun c => ?_)
      · and_intros
        refine ⟨a, _, 3, rfl, fl3, rw3, fun t Γ4 pt _ _ => ?_⟩
        and_intros
        exact ⟨t, rfl, pt⟩
      · and_intros
        exact ⟨_, rfl, rw3.wr.pt⟩
  rintro τ Γ4 ⟨t, rfl, pt⟩
  and_intros
  refine ⟨t, rfl, pt, ?_⟩
  and_intros
  refine t_in (in_bl (.bl _)) ?_
  and_intros
  and_intros
  refine ⟨t, rfl, pt, ?_⟩
  refine ⟨.bl (laB t), .bl (laB t), rfl, rfl, rfl, ?_⟩
  rw [decide_eq_true rfl]
  exact drop0 .refl (q _)
end
abbrev wlL : List Str := ["high", "low", "count", "end", "array", "chain", "names", "told"]
theorem la_row (i : Nat) (h : i < 16) : ∃ a b c d : Str, atI (wlL.map T.str) ((i : Int) / 8) = some (.str a) ∧ atI (wlL.map T.str) (2 + (i : Int) / 4 % 2) = some (.str b) ∧ atI (wlL.map T.str) (4 + (i : Int) / 2 % 2) = some (.str c) ∧ atI (wlL.map T.str) (6 + (i : Int) % 2) = some (.str d) ∧ laTb[i]? = some [a, b, c, d] := by
 have : i = 0 ∨ i = 1 ∨ i = 2 ∨ i = 3 ∨ i = 4 ∨ i = 5 ∨ i = 6 ∨ i = 7 ∨ i = 8 ∨ i = 9 ∨ i = 10 ∨ i = 11 ∨ i = 12 ∨ i = 13 ∨ i = 14 ∨ i = 15 := by omega
 rcases this with rfl | rfl | rfl | rfl | rfl | rfl | rfl | rfl | rfl | rfl | rfl | rfl | rfl | rfl | rfl | rfl <;> exact ⟨_, _, _, _, rfl, rfl, rfl, rfl, rfl⟩
theorem la_ok : ∀ zs ∈ laTb, laB (rwT zs) = true := by decide +kernel
theorem la_short : ∀ zs ∈ laTb, zs.length ≤ 999 ∧ ∀ z ∈ zs, z.length ≤ 1000 := by decide +kernel
theorem la_pt {Γ : Gp} {zs : List Str} (h : zs ∈ laTb) : Pt Γ (rwT zs) := by
 obtain ⟨a, b⟩ := la_short zs h
 exact .tup (by rw [List.length_map]; exact a) fun t ht => by
  obtain ⟨z, hz, rfl⟩ := List.mem_map.mp ht
  exact .str (b z hz)
theorem la_dq : ∀ t ∈ laTb.map rwT, Dq 2 t := fun t ht => by
 obtain ⟨zs, _, rfl⟩ := List.mem_map.mp ht
 exact .tup fun t ht => by
  obtain ⟨z, hz, rfl⟩ := List.mem_map.mp ht
  exact .flat (u := .str z) rfl rfl
section
variable {P : Program} {w : World} {K : PySem.W.Frag} {mg : Str → Option Value} {base : Heap} {f : Addr} {fd : FuncData} {v1 v2 v3 : Value}
abbrev s_law : Stmt := top 13
theorem sc_law : FnScope ["script", "words", "due", "k", "turn", "told"] ["script"] (defScope s_law) := ⟨rfl, rfl, rfl, by decide +kernel, rfl, by decide +kernel, by decide +kernel⟩
def spLaw3 (K : PySem.W.Frag) : Sp3 := fun ts Γ Z _ => ∃ (a : Addr) (ns : List Int), ts = [.scr K a (ns.map T.int)] ∧ ns.length ≤ 63 ∧ ∀ Γ', Z (.bl true) Γ'
theorem ok_law3 (F : Fun K "law" "law" s_law f fd) (c_law_right : Cl3 P w K mg base "_law_right" 6 ["flow"] spRight) (c_law_flow : Cl3 P w K mg base "_law_flow" 1 ["cell"] spFw) (c_law_cell_at : Cl3 P w K mg base "_law_cell_at" 1 ["script", "k"] (spCe K)) (c_all_layings : Cl3 P w K mg base "all_layings" 1 [] spAl) (c_is_laying : Cl3 P w K mg base "is_laying" 1 ["thing"] spLa) (c_law_is_laying : Cl3 P w K mg base "_law_is_laying" 1 ["thing"] spLa)
  (z_isinstance : mg "isinstance" = none) (z_list : mg "list" = none) (z_all : mg "all" = none) (z_range : mg "range" = none) (z_max : mg "max" = none) (z_min : mg "min" = none) (z_len : mg "len" = none) : FnOk P w K mg base CX0 7 f fd ["script"] (liSp (spLaw3 K)) := by
 refine okd F sc_law (fun ts Γ Z Y h => ?_) (fun cdv A outer s H E ts Γ Z Y hr h => ?_)
 ·obtain ⟨a, ns, rfl, _⟩ := h
  rfl
 obtain ⟨a, ns, rfl, h63, q⟩ := h
 refine ⟨_, (qss_cons (qs_set (i := 1) sc_law.nd rfl (Or.inl rfl) (qe_lst (qa_cons qe_str (qa_cons qe_str (qa_cons qe_str (qa_cons qe_str (qa_cons qe_str (qa_cons qe_str (qa_cons qe_str (qa_cons qe_str qa_nil))))))))))
  (qss_cons (qs_set (i := 2) sc_law.nd rfl (Or.inl rfl) (qe_lst qa_nil))
  (qss_cons (qs_for PassesOwn.never rfl (qi_range1 rfl z_range (qa_cons qe_int qa_nil)) (qg_name (i := 3) sc_law.nd rfl (Or.inl rfl)) (qss_cons (qs_expr (qe_bm PySem.F.plainAttrs_list PySem.F.slot_list_append PySem.F.type_list_append mq_append (qv 2) (qa_cons (qe_tup (qa_cons (qe_ix (qv 1) (qe_op oq_fdiv (qv 3) qe_int) (fun _ _ => rfl)) (qa_cons (qe_ix (qv 1) (qe_op oq_add qe_int (qe_op oq_mod (qe_op oq_fdiv (qv 3) qe_int) qe_int)) (fun _ _ => rfl)) (qa_cons (qe_ix (qv 1) (qe_op oq_add qe_int (qe_op oq_mod (qe_op oq_fdiv (qv 3) qe_int) qe_int)) (fun _ _ => rfl)) (qa_cons (qe_ix (qv 1) (qe_op oq_add qe_int (qe_op oq_mod (qv 3) qe_int)) (fun _ _ => rfl)) qa_nil))))) qa_nil)))
  qss_nil))
  (qss_cons (qs_for PassesOwn.never rfl (qi_range1 rfl z_range (qa_cons qe_int qa_nil)) (qg_name (i := 4) sc_law.nd rfl (Or.inl rfl)) (qss_cons (qs_set (i := 5) sc_law.nd rfl (Or.inl rfl) (qe_call0 c_all_layings hr (by omega) rfl))
  (qss_cons (qs_if (PW.pt (qw_or (qt_not (qt_val (qe_inst rfl z_isinstance rfl z_list bt_list (qv 5)))) (qw_or (qt_cmpR (oq_neSame (d := 2) (Nat.lt_of_le_of_lt (Nat.add_le_add_left (by decide : 3 ≤ 64) _) hr.units)) (qv 5) (qv 2) (nomark _)) (qw_or1 (qt_not (qt_val (qe_callB (cq_all rfl) rfl z_all PyProof.Rows.boot_all (qa_cons (qe_comp (own := ["one"]) (cap := []) (compOk0 rfl (by decide +kernel) (by decide +kernel)) rfl (qi_list (qv 5)) (fun _ _ _ _ => (qg_name (i := 0) (show List.Nodup (["one"] : List Str) from by decide +kernel) rfl (Or.inl rfl) (Or.inr rfl))) (fun _ _ _ _ => qts_nil) (fun _ _ _ _ => (qe_call c_law_is_laying hr (by omega) rfl (qa_cons (qv 0) qa_nil)))) qa_nil)))))))) (qss_cons (qs_ret qe_bl)
  qss_nil) qss_nil)
  (qss_cons (qs_if (qt_not (qt_val (qe_callB (cq_all rfl) rfl z_all PyProof.Rows.boot_all (qa_cons (qe_comp (own := ["one"]) (cap := []) (compOk0 rfl (by decide +kernel) (by decide +kernel)) rfl (qi_list (qv 5)) (fun _ _ _ _ => (qg_name (i := 0) (show List.Nodup (["one"] : List Str) from by decide +kernel) rfl (Or.inl rfl) (Or.inr rfl))) (fun _ _ _ _ => qts_nil) (fun _ _ _ _ => (qe_cmpR oq_isT (qe_call c_is_laying hr (by omega) rfl (qa_cons (qv 0) qa_nil)) qe_bl (nomark _)))) qa_nil)))) (qss_cons (qs_ret qe_bl)
  qss_nil) qss_nil)
  (qss_cons (qs_expr (qe_bm PySem.F.plainAttrs_list PySem.F.slot_list_append PySem.F.type_list_append mq_append (qv 5) (qa_cons (qe_tup (qa_cons qe_str (qa_cons qe_str (qa_cons qe_str (qa_cons qe_str qa_nil))))) qa_nil)))
  qss_nil)))))
  (qss_cons (qs_for PassesOwn.never rfl (qi_range1 rfl z_range (qa_cons (qe_callB (cq_max2 rfl) rfl z_max PyProof.Rows.boot_max (qa_cons qe_int (qa_cons (qe_callB (cq_min2 rfl) rfl z_min PyProof.Rows.boot_min (qa_cons (qe_callB cq_lenC rfl z_len PySem.boot_len (qa_cons (qv 0) qa_nil)) (qa_cons qe_int qa_nil))) qa_nil))) qa_nil)) (qg_name (i := 3) sc_law.nd rfl (Or.inl rfl)) (qss_cons (qs_if (qt_not (qt_val (qe_call c_law_right hr (by omega) rfl (qa_cons (qe_call c_law_flow hr (by omega) rfl (qa_cons (qe_call c_law_cell_at hr (by omega) rfl (qa_cons (qv 0) (qa_cons (qv 3) qa_nil))) qa_nil)) qa_nil)))) (qss_cons (qs_ret qe_bl)
  qss_nil) qss_nil)
  qss_nil))
  (qss_cons (qs_ret qe_bl)
  qss_nil)))))), ?_⟩
 simp only [start3]
 have sl := sizeLine_eq
 and_intros
 intro pw hpw; generalize e1 : up _ pw (O.lst _) = Γ1; have gw := al_g e1; have l1 := al_l e1 hpw
 have gw : Γ1 pw = some (.lst (wlL.map T.str)) := gw
 and_intros
 intro pd hpd; generalize e2 : up _ pd (O.lst _) = Γ2; have gd := al_g e2; have l2 := al_l e2 hpd
 have nwd : pw ≠ pd := gnn gw hpd
 and_intros
 refine ⟨16, rfl, by decide, by decide, ?_⟩
 refine ⟨fun rest τ Γ' => ∃ (i m : Nat) (o3 : Option T), rest = rngT (i : Int) m ∧ i + m = 16 ∧ τ = [some (.scr K a (ns.map T.int)), some (.ref pw), some (.ref pd), o3, none, none] ∧ Γ' pw = some (.lst (wlL.map T.str)) ∧ Γ' pd = some (.lst ((laTb.take i).map rwT)), ⟨0, 16, none, rfl, rfl, rfl, l2 _ _ gw, gd⟩, ?_, ?_⟩
 rotate_left
 ·rintro x r τ Γ' ⟨i, m, o3, er, im, rfl, gw', gd'⟩
  obtain ⟨m', rfl, rfl, rfl⟩ := rngT_cons er
  obtain ⟨ra, rb, rc, rd, x1, x2, x3, x4, hrow⟩ := la_row i (by omega)
  and_intros
  refine t_tyL gd' ?_
  and_intros
  refine t_ixR gw' x1 ?_
  and_intros
  refine t_ixR gw' x2 ?_
  and_intros
  refine t_ixR gw' x3 ?_
  and_intros
  refine t_ixR gw' x4 ?_
  and_intros
  refine ⟨pd, _, _, rfl, rfl, gd', small1000 (by rw [List.length_map, List.length_take]; omega), ?_⟩
  and_intros
  refine ⟨i + 1, m', _, rfl, by omega, rfl, by rw [up_ne nwd]; exact gw', ?_⟩
  rw [up_same, List.take_add_one, hrow, List.map_append]
  rfl
 rintro τ Γ3 ⟨i, m, o3, er, im, rfl, gw3, gd3⟩
 have hm := rngT_nil er
 subst hm
 have hi : i = 16 := im
 subst hi
 have gd3 : Γ3 pd = some (.lst (laTb.map rwT)) := gd3
 refine ⟨trivial, ?_⟩
 and_intros
 refine ⟨2, rfl, by decide, by decide, ?_⟩
 refine ⟨fun rest τ Γ' => ∃ (i : Int) (m : Nat) (o4 o5 : Option T), rest = rngT i m ∧ τ = [some (.scr K a (ns.map T.int)), some (.ref pw), some (.ref pd), o3, o4, o5] ∧ Γ' pd = some (.lst (laTb.map rwT)), ⟨0, 2, none, none, rfl, rfl, gd3⟩, ?_, ?_⟩
 rotate_left
 ·rintro x r τ Γ4 ⟨i, m, o4, o5, er, rfl, gd4⟩
  obtain ⟨m', rfl, rfl, rfl⟩ := rngT_cons er
  and_intros
  refine ⟨rfl, fun pt hpt => ?_⟩
  generalize e5 : up _ pt (O.lst _) = Γ5; have gt := al_g e5; have l5 := al_l e5 hpt
  have ndt : pd ≠ pt := gnn gd4 hpt
  and_intros
  refine ⟨_, true, ty_lst gt, rfl, ?_⟩
  and_intros
  refine ⟨pt, pd, _, rfl, rfl, gt, l5 _ _ gd4, la_dq, ?_⟩
  and_intros
  refine ⟨pt, _, rfl, it3_l gt, by rw [List.length_map, la_len, sizeLine_eq]; decide, ?_⟩
  refine ⟨fun rest τ ys Γ' => ∃ (ds rs : List (List Str)) (o : Option T), rest = rs.map rwT ∧ laTb = ds ++ rs ∧ τ = [o] ∧ ys = (ds.map fun _ => true).map T.bl ∧ Γ' = Γ5, ⟨[], laTb, none, rfl, rfl, rfl, rfl, rfl⟩, ?_, ?_⟩
  rotate_left
  ·rintro x r τ ys Γ' ⟨ds, rs, o, er2, ez, rfl, rfl, rfl⟩
   cases rs with
   | nil => cases er2
   | cons zs rs =>
    cases er2
    have mz : zs ∈ laTb := by rw [ez]; simp
    refine ⟨it3_l gt, ?_⟩
    and_intros
    refine ⟨rwT zs, rfl, la_pt mz, ?_⟩
    rw [la_ok zs mz]
    exact ⟨ds ++ [zs], rs, _, rfl, by rw [ez]; simp, rfl, by rw [List.map_append, List.map_append]; rfl, rfl⟩
  rintro τ ys Γ' ⟨ds, rs, o, er2, ez, rfl, rfl, rfl⟩
  refine ⟨it3_l gt, ?_⟩
  intro p6 hp6; generalize e6 : up _ p6 (O.lst _) = Γ6; have g6 := al_g e6; have l6 := al_l e6 hp6
  and_intros
  refine ⟨p6, _, rfl, it3_l g6, ?_⟩
  have al : ∀ ds : List (List Str), (ds.map fun _ => true).all id = true := fun ds => by rw [List.all_eq_true]; intro b hb; obtain ⟨_, _, rfl⟩ := List.mem_map.mp hb; rfl
  rw [al]
  and_intros
  refine ⟨pt, _, rfl, it3_l (l6 _ _ gt), by rw [List.length_map, la_len, sizeLine_eq]; decide, ?_⟩
  refine ⟨fun rest τ ys Γ' => ∃ (ds rs : List (List Str)) (o : Option T), rest = rs.map rwT ∧ laTb = ds ++ rs ∧ τ = [o] ∧ ys = (ds.map fun _ => true).map T.bl ∧ Γ' = Γ6, ⟨[], laTb, none, rfl, rfl, rfl, rfl, rfl⟩, ?_, ?_⟩
  rotate_left
  ·rintro x r τ ys Γ' ⟨ds, rs, o, er2, ez, rfl, rfl, rfl⟩
   cases rs with
   | nil => cases er2
   | cons zs rs =>
    cases er2
    have mz : zs ∈ laTb := by rw [ez]; simp
    refine ⟨it3_l (l6 _ _ gt), ?_⟩
    and_intros
    refine ⟨rwT zs, rfl, la_pt mz, ?_⟩
    rw [la_ok zs mz]
    refine ⟨true, rfl, rfl, ?_⟩
    exact ⟨ds ++ [zs], rs, _, rfl, by rw [ez]; simp, rfl, by rw [List.map_append, List.map_append]; rfl, rfl⟩
  rintro τ ys Γ' ⟨ds, rs, o, er2, ez, rfl, rfl, rfl⟩
  refine ⟨it3_l (l6 _ _ gt), ?_⟩
  intro p7 hp7; generalize e7 : up _ p7 (O.lst _) = Γ7; have g7 := al_g e7; have l7 := al_l e7 hp7
  and_intros
  refine ⟨p7, _, rfl, it3_l g7, ?_⟩
  rw [al]
  and_intros
  refine t_tyL (l7 _ _ (l6 _ _ gt)) ?_
  and_intros
  refine ⟨pt, _, _, rfl, rfl, l7 _ _ (l6 _ _ gt), small1000 (by rw [List.length_map, la_len]; decide), ?_⟩
  and_intros
  exact ⟨i + 1, m', _, _, rfl, rfl, by rw [up_ne ndt]; exact l7 _ _ (l6 _ _ (l5 _ _ gd4))⟩
 rintro τ Γ4 ⟨i, m, o4, o5, er, rfl, gd4⟩
 refine ⟨trivial, ?_⟩
 and_intros
 refine ⟨a, _, rfl, ?_⟩
 rw [List.length_map]
 and_intros
 refine ⟨_, rfl, by split <;> split <;> omega, by split <;> split <;> omega, ?_⟩
 refine ⟨fun rest τ Γ' => ∃ (lo : Int) (c : Nat) (o : Option T), rest = rngT lo c ∧ 0 ≤ lo ∧ τ = [some (.scr K a (ns.map T.int)), some (.ref pw), some (.ref pd), o, o4, o5], ⟨0, _, _, rfl, by omega, rfl⟩, ?_, ?_⟩
 ·rintro τ Γ' ⟨lo, c, o, e, l0, rfl⟩
  refine ⟨trivial, ?_⟩
  and_intros
  exact drop0 .refl (q _)
 ·rintro x r τ Γ' ⟨lo, c, o, e, l0, rfl⟩
  obtain ⟨c', rfl, rfl, rfl⟩ := rngT_cons e
  and_intros
  refine ⟨a, ns, lo, rfl, l0, fun cl => ?_⟩
  and_intros
  refine ⟨cl, rfl, fun b Γ2 hb fl2 fr2 => ?_⟩
  and_intros
  refine ⟨b, rfl, fl2, fun Γ3 => ?_⟩
  and_intros
  exact ⟨lo + 1, c', _, rfl, by omega, rfl⟩
theorem spo_all (F : Fun K "_law_spoilt" "_law_spoilt" s_law_spoilt f fd) (m : mg "_law_spoilt" = some (.ref f)) (kp : PySem.W.keepIn K (.ref f) = true) (b : Binds K fd ["flow", "thing", "left"] []) (C1 : Cl3 P w K mg base "_law_draw" 1 ["flow", "many"] spDr) (C2 : Cl3 P w K mg base "_law_other" 3 ["flow", "thing"] spOt) (z_isinstance : mg "isinstance" = none) (z_tuple : mg "tuple" = none) (z_len : mg "len" = none) :
  ∀ n : Nat, Cl3 P w K mg base "_law_spoilt" (n + 3) ["flow", "thing", "left"] (spSpl n)
 | 0 => ⟨f, fd, noC fun ts Γ Z Y h => by obtain ⟨_, _, _, _, _, h, _⟩ := h; rcases h with ⟨_, _, _, h⟩ | ⟨_, _, _, _, h⟩ <;> omega, m, kp, b⟩
 | n + 1 => ⟨f, fd, by rw [show n + 1 + 3 = n + 4 by omega]; exact ok_spoilt F C1 C2 (spo_all F m kp b C1 C2 z_isinstance z_tuple z_len n) z_isinstance z_tuple z_len, m, kp, b⟩
end
def spLaw (K : PySem.W.Frag) : Sp := fun vs H Q _ => ∃ (a : Addr) (ns : List Int), vs = [.ref a] ∧ Only H ∧ SqL K H a (ns.map V.int) ∧ ns.length ≤ 63 ∧ ∀ H', Q (.bl true) H'
theorem law_dn {K : PySem.W.Frag} (vs : List V) (H : Hp) (Q : VK) (E : XK) (h : spLaw K vs H Q E) : liSp (spLaw3 K) vs H Q E := by
 obtain ⟨a, ns, rfl, hO, hS, h63, q⟩ := h
 have sc : SqC K H a (ns.map V.int) := by
  rcases hS with (h | ⟨o, h⟩) | h
  ·rcases hO a with z | ⟨o, xs, z⟩
   ·rw [h] at z; cases z
   ·rw [h] at z; cases z
  ·exact .inl ⟨o, h⟩
  ·exact .inr h
 refine ⟨[.scr K a (ns.map T.int)], fun _ => none, fun x _ => x = .bl true, fun _ _ => False, rs_cons (r_scr sc (rs_of_ints ns)) rs_nil, fun _ _ h => (nomatch h), ⟨a, ns, rfl, h63, fun _ => rfl⟩, fun v x H' Γ' _ _ r z => ?_, fun _ _ _ _ _ z => z.elim⟩
 subst z
 rw [i_bl r]
 exact q H'
end Tg
set_option Elab.async false
set_option linter.all false
set_option maxRecDepth 100000
set_option maxHeartbeats 4000000
namespace Tg
open PySem L2 L3
theorem all_mk {l : PySem.W.OpenLaw} {w : World} {K : PySem.W.Frag} {h : Heap} {mg : Str → Option Value} {fa f1 f2 f3 f4 f5 f6 f7 f8 f9 f10 f11 : Addr} (X : K.In h) (G : h.Ns mainGlobals mg) (hfa : mg "law" = some (.ref fa))
  {od1 an1 od2 an2 od3 an3 od4 an4 od5 an5 od6 an6 od7 an7 od8 an8 od9 an9 od10 an10 od11 an11 : Option Addr} {sl1 sl2 sl3 sl4 sl5 sl6 sl7 sl8 sl9 sl10 sl11 : Array (Option Value)} {oc1 kV1 dc1 pm1 cd1 ct1 oc2 kV2 dc2 pm2 cd2 ct2 oc3 kV3 dc3 pm3 cd3 ct3 oc4 kV4 dc4 pm4 cd4 ct4 oc5 kV5 dc5 pm5 cd5 ct5 oc6 kV6 dc6 pm6 cd6 ct6 oc7 kV7 dc7 pm7 cd7 ct7 oc8 kV8 dc8 pm8 cd8 ct8 oc9 kV9 dc9 pm9 cd9 ct9 oc10 kV10 dc10 pm10 cd10 ct10 oc11 kV11 dc11 pm11 cd11 ct11 : Value}
  (a1 : PySem.W.nsIn K mainGlobals "is_laying" = some (some (.ref f1))) (l1 : K.lookup f1 = some ⟨oc1, od1, .func (PySem.W.fnOf "is_laying" "is_laying" (defArgs s_is_laying) (defBody s_is_laying) (defScope s_is_laying) .none kV1 dc1 pm1 an1 cd1 ct1), sl1⟩) (c1 : PySem.W.codeIn K cd1 "is_laying" = true) (k1 : PySem.W.keepIn K (.ref f1) = true)
  (a2 : PySem.W.nsIn K mainGlobals "all_layings" = some (some (.ref f2))) (l2 : K.lookup f2 = some ⟨oc2, od2, .func (PySem.W.fnOf "all_layings" "all_layings" (defArgs s_all_layings) (defBody s_all_layings) (defScope s_all_layings) .none kV2 dc2 pm2 an2 cd2 ct2), sl2⟩) (c2 : PySem.W.codeIn K cd2 "all_layings" = true) (k2 : PySem.W.keepIn K (.ref f2) = true)
  (a3 : PySem.W.nsIn K mainGlobals "_law_cell_at" = some (some (.ref f3))) (l3 : K.lookup f3 = some ⟨oc3, od3, .func (PySem.W.fnOf "_law_cell_at" "_law_cell_at" (defArgs s_law_cell_at) (defBody s_law_cell_at) (defScope s_law_cell_at) .none kV3 dc3 pm3 an3 cd3 ct3), sl3⟩) (c3 : PySem.W.codeIn K cd3 "_law_cell_at" = true) (k3 : PySem.W.keepIn K (.ref f3) = true)
  (a4 : PySem.W.nsIn K mainGlobals "_law_flow" = some (some (.ref f4))) (l4 : K.lookup f4 = some ⟨oc4, od4, .func (PySem.W.fnOf "_law_flow" "_law_flow" (defArgs s_law_flow) (defBody s_law_flow) (defScope s_law_flow) .none kV4 dc4 pm4 an4 cd4 ct4), sl4⟩) (c4 : PySem.W.codeIn K cd4 "_law_flow" = true) (k4 : PySem.W.keepIn K (.ref f4) = true)
  (a5 : PySem.W.nsIn K mainGlobals "_law_draw" = some (some (.ref f5))) (l5 : K.lookup f5 = some ⟨oc5, od5, .func (PySem.W.fnOf "_law_draw" "_law_draw" (defArgs s_law_draw) (defBody s_law_draw) (defScope s_law_draw) .none kV5 dc5 pm5 an5 cd5 ct5), sl5⟩) (c5 : PySem.W.codeIn K cd5 "_law_draw" = true) (k5 : PySem.W.keepIn K (.ref f5) = true)
  (a6 : PySem.W.nsIn K mainGlobals "_law_sign" = some (some (.ref f6))) (l6 : K.lookup f6 = some ⟨oc6, od6, .func (PySem.W.fnOf "_law_sign" "_law_sign" (defArgs s_law_sign) (defBody s_law_sign) (defScope s_law_sign) .none kV6 dc6 pm6 an6 cd6 ct6), sl6⟩) (c6 : PySem.W.codeIn K cd6 "_law_sign" = true) (k6 : PySem.W.keepIn K (.ref f6) = true)
  (a7 : PySem.W.nsIn K mainGlobals "_law_other" = some (some (.ref f7))) (l7 : K.lookup f7 = some ⟨oc7, od7, .func (PySem.W.fnOf "_law_other" "_law_other" (defArgs s_law_other) (defBody s_law_other) (defScope s_law_other) .none kV7 dc7 pm7 an7 cd7 ct7), sl7⟩) (c7 : PySem.W.codeIn K cd7 "_law_other" = true) (k7 : PySem.W.keepIn K (.ref f7) = true)
  (a8 : PySem.W.nsIn K mainGlobals "_law_spoilt" = some (some (.ref f8))) (l8 : K.lookup f8 = some ⟨oc8, od8, .func (PySem.W.fnOf "_law_spoilt" "_law_spoilt" (defArgs s_law_spoilt) (defBody s_law_spoilt) (defScope s_law_spoilt) .none kV8 dc8 pm8 an8 cd8 ct8), sl8⟩) (c8 : PySem.W.codeIn K cd8 "_law_spoilt" = true) (k8 : PySem.W.keepIn K (.ref f8) = true)
  (a9 : PySem.W.nsIn K mainGlobals "_law_is_laying" = some (some (.ref f9))) (l9 : K.lookup f9 = some ⟨oc9, od9, .func (PySem.W.fnOf "_law_is_laying" "_law_is_laying" (defArgs s_law_is_laying) (defBody s_law_is_laying) (defScope s_law_is_laying) .none kV9 dc9 pm9 an9 cd9 ct9), sl9⟩) (c9 : PySem.W.codeIn K cd9 "_law_is_laying" = true) (k9 : PySem.W.keepIn K (.ref f9) = true)
  (a10 : PySem.W.nsIn K mainGlobals "_law_right" = some (some (.ref f10))) (l10 : K.lookup f10 = some ⟨oc10, od10, .func (PySem.W.fnOf "_law_right" "_law_right" (defArgs s_law_right) (defBody s_law_right) (defScope s_law_right) .none kV10 dc10 pm10 an10 cd10 ct10), sl10⟩) (c10 : PySem.W.codeIn K cd10 "_law_right" = true) (k10 : PySem.W.keepIn K (.ref f10) = true)
  (a11 : PySem.W.nsIn K mainGlobals "law" = some (some (.ref f11))) (l11 : K.lookup f11 = some ⟨oc11, od11, .func (PySem.W.fnOf "law" "law" (defArgs s_law) (defBody s_law) (defScope s_law) .none kV11 dc11 pm11 an11 cd11 ct11), sl11⟩) (c11 : PySem.W.codeIn K cd11 "law" = true) (k11 : PySem.W.keepIn K (.ref f11) = true)
  (y1 : PySem.W.nsIn K mainGlobals "len" = some none)
  (y2 : PySem.W.nsIn K mainGlobals "max" = some none)
  (y3 : PySem.W.nsIn K mainGlobals "min" = some none)
  (y4 : PySem.W.nsIn K mainGlobals "range" = some none)
  (y5 : PySem.W.nsIn K mainGlobals "tuple" = some none)
  (y6 : PySem.W.nsIn K mainGlobals "isinstance" = some none)
  (y7 : PySem.W.nsIn K mainGlobals "bool" = some none)
  (y8 : PySem.W.nsIn K mainGlobals "list" = some none)
  (y9 : PySem.W.nsIn K mainGlobals "str" = some none)
  (y10 : PySem.W.nsIn K mainGlobals "all" = some none)
  (y11 : PySem.W.nsIn K mainGlobals "zip" = some none)
  (y12 : PySem.W.nsIn K mainGlobals "sorted" = some none)
  {bCHOICES1 bCHOICES2 bCHOICES3 bCHOICES4 : Addr}
  {aCHOICES : Addr} (gCHOICES : PySem.W.nsIn K mainGlobals "CHOICES" = some (some (.ref aCHOICES))) {odCHOICES : Option Addr} {itCHOICES : Array Value} {nnCHOICES : Nat} {slCHOICES : Array (Option Value)} (klCHOICES : K.lookup aCHOICES = some ⟨.type "tuple", odCHOICES, .seq itCHOICES nnCHOICES, slCHOICES⟩) (kzCHOICES : itCHOICES.size ≤ sizeLine) (kvCHOICES : Vals [.ref bCHOICES1, .ref bCHOICES2, .ref bCHOICES3, .ref bCHOICES4] itCHOICES.toList)
  {odCHOICES1 : Option Addr} {itCHOICES1 : Array Value} {nnCHOICES1 : Nat} {slCHOICES1 : Array (Option Value)} (klCHOICES1 : K.lookup bCHOICES1 = some ⟨.type "tuple", odCHOICES1, .seq itCHOICES1 nnCHOICES1, slCHOICES1⟩) (kzCHOICES1 : itCHOICES1.size ≤ sizeLine) (kvCHOICES1 : Vals (Tg.m0.map V.str) itCHOICES1.toList)
  {odCHOICES2 : Option Addr} {itCHOICES2 : Array Value} {nnCHOICES2 : Nat} {slCHOICES2 : Array (Option Value)} (klCHOICES2 : K.lookup bCHOICES2 = some ⟨.type "tuple", odCHOICES2, .seq itCHOICES2 nnCHOICES2, slCHOICES2⟩) (kzCHOICES2 : itCHOICES2.size ≤ sizeLine) (kvCHOICES2 : Vals (Tg.m1.map V.str) itCHOICES2.toList)
  {odCHOICES3 : Option Addr} {itCHOICES3 : Array Value} {nnCHOICES3 : Nat} {slCHOICES3 : Array (Option Value)} (klCHOICES3 : K.lookup bCHOICES3 = some ⟨.type "tuple", odCHOICES3, .seq itCHOICES3 nnCHOICES3, slCHOICES3⟩) (kzCHOICES3 : itCHOICES3.size ≤ sizeLine) (kvCHOICES3 : Vals (Tg.m2.map V.str) itCHOICES3.toList)
  {odCHOICES4 : Option Addr} {itCHOICES4 : Array Value} {nnCHOICES4 : Nat} {slCHOICES4 : Array (Option Value)} (klCHOICES4 : K.lookup bCHOICES4 = some ⟨.type "tuple", odCHOICES4, .seq itCHOICES4 nnCHOICES4, slCHOICES4⟩) (kzCHOICES4 : itCHOICES4.size ≤ sizeLine) (kvCHOICES4 : Vals (Tg.m3.map V.str) itCHOICES4.toList)
  :
  ∃ fd : FuncData, (∀ (s : Shared) (v : Value), BindsTo s fd ⟨[v], []⟩ [("script", v)]) ∧ ∀ base : Heap, K.In base → base.Ns mainGlobals mg → FnOk l.prog w K mg base CX0 7 fa fd ["script"] (spLaw K) := by
 have e := hfa.symm.trans (PySem.W.mg_of X G a11)
 cases e
 have F1 := fun_mk (st := s_is_laying) l1 c1 k1
 have b1 := F1.binds (ps := ["thing"]) fun _ _ _ _ _ _ => L3.us1 (fun _ => rfl)
 have m1 := PySem.W.mg_of X G a1
 have F2 := fun_mk (st := s_all_layings) l2 c2 k2
 have b2 := F2.binds (ps := []) fun _ _ _ _ _ _ => L3.us0 (rfl)
 have m2 := PySem.W.mg_of X G a2
 have F3 := fun_mk (st := s_law_cell_at) l3 c3 k3
 have b3 := F3.binds (ps := ["script", "k"]) fun _ _ _ _ _ _ => L3.us2 (fun _ _ => rfl)
 have m3 := PySem.W.mg_of X G a3
 have F4 := fun_mk (st := s_law_flow) l4 c4 k4
 have b4 := F4.binds (ps := ["cell"]) fun _ _ _ _ _ _ => L3.us1 (fun _ => rfl)
 have m4 := PySem.W.mg_of X G a4
 have F5 := fun_mk (st := s_law_draw) l5 c5 k5
 have b5 := F5.binds (ps := ["flow", "many"]) fun _ _ _ _ _ _ => L3.us2 (fun _ _ => rfl)
 have m5 := PySem.W.mg_of X G a5
 have F6 := fun_mk (st := s_law_sign) l6 c6 k6
 have b6 := F6.binds (ps := ["flow"]) fun _ _ _ _ _ _ => L3.us1 (fun _ => rfl)
 have m6 := PySem.W.mg_of X G a6
 have F7 := fun_mk (st := s_law_other) l7 c7 k7
 have b7 := F7.binds (ps := ["flow", "thing"]) fun _ _ _ _ _ _ => L3.us2 (fun _ _ => rfl)
 have m7 := PySem.W.mg_of X G a7
 have F8 := fun_mk (st := s_law_spoilt) l8 c8 k8
 have b8 := F8.binds (ps := ["flow", "thing", "left"]) fun _ _ _ _ _ _ => L3.us3 (fun _ _ _ => rfl)
 have m8 := PySem.W.mg_of X G a8
 have F9 := fun_mk (st := s_law_is_laying) l9 c9 k9
 have b9 := F9.binds (ps := ["thing"]) fun _ _ _ _ _ _ => L3.us1 (fun _ => rfl)
 have m9 := PySem.W.mg_of X G a9
 have F10 := fun_mk (st := s_law_right) l10 c10 k10
 have b10 := F10.binds (ps := ["flow"]) fun _ _ _ _ _ _ => L3.us1 (fun _ => rfl)
 have m10 := PySem.W.mg_of X G a10
 have F11 := fun_mk (st := s_law) l11 c11 k11
 have z_len := PySem.W.mg_none_of X G y1
 have z_max := PySem.W.mg_none_of X G y2
 have z_min := PySem.W.mg_none_of X G y3
 have z_range := PySem.W.mg_none_of X G y4
 have z_tuple := PySem.W.mg_none_of X G y5
 have z_isinstance := PySem.W.mg_none_of X G y6
 have z_bool := PySem.W.mg_none_of X G y7
 have z_list := PySem.W.mg_none_of X G y8
 have z_str := PySem.W.mg_none_of X G y9
 have z_all := PySem.W.mg_none_of X G y10
 have z_zip := PySem.W.mg_none_of X G y11
 have z_sorted := PySem.W.mg_none_of X G y12
 refine ⟨PySem.W.fnOf "law" "law" (defArgs s_law) (defBody s_law) (defScope s_law) .none kV11 dc11 pm11 an11 cd11 ct11, fun s v => .of_eq rfl, fun base _ _ => ?_⟩
 have m_CHOICES := PySem.W.mg_of X G gCHOICES
 have k_CHOICES : KTup K aCHOICES [.ref bCHOICES1, .ref bCHOICES2, .ref bCHOICES3, .ref bCHOICES4] := ⟨_, _, _, klCHOICES, rfl, rfl, kzCHOICES, kvCHOICES⟩
 have k_CHOICES1 : KTup K bCHOICES1 (Tg.m0.map V.str) := ⟨_, _, _, klCHOICES1, rfl, rfl, kzCHOICES1, kvCHOICES1⟩
 have k_CHOICES2 : KTup K bCHOICES2 (Tg.m1.map V.str) := ⟨_, _, _, klCHOICES2, rfl, rfl, kzCHOICES2, kvCHOICES2⟩
 have k_CHOICES3 : KTup K bCHOICES3 (Tg.m2.map V.str) := ⟨_, _, _, klCHOICES3, rfl, rfl, kzCHOICES3, kvCHOICES3⟩
 have k_CHOICES4 : KTup K bCHOICES4 (Tg.m3.map V.str) := ⟨_, _, _, klCHOICES4, rfl, rfl, kzCHOICES4, kvCHOICES4⟩
 have D4 : Callee l.prog w K mg base "_law_flow" _ _ _ := ⟨_, _, ok_flow F4 z_max, m4, k4, b4⟩
 have D5 : Callee l.prog w K mg base "_law_draw" _ _ _ := ⟨_, _, ok_draw F5, m5, k5, b5⟩
 have C5 := br_draw D5
 have C3 : Cl3 l.prog w K mg base "_law_cell_at" _ _ _ := ⟨_, _, ok_cell3 F3 z_len, m3, k3, b3⟩
 have C4 := br_flow D4
 have C6 : Cl3 l.prog w K mg base "_law_sign" _ _ _ := ⟨_, _, ok_sign F6 C5, m6, k6, b6⟩
 have C1 : Cl3 l.prog w K mg base "is_laying" _ _ _ := ⟨_, _, ok_is_laying F1 m_CHOICES k_CHOICES k_CHOICES1 k_CHOICES2 k_CHOICES3 k_CHOICES4 z_isinstance z_tuple z_len z_all z_zip z_str, m1, k1, b1⟩
 have C9 : Cl3 l.prog w K mg base "_law_is_laying" _ _ _ := ⟨_, _, ok_law_is_laying F9 z_isinstance z_tuple z_len z_all z_zip z_str, m9, k9, b9⟩
 have C2 : Cl3 l.prog w K mg base "all_layings" _ _ _ := ⟨_, _, ok_all_layings F2 m_CHOICES k_CHOICES k_CHOICES1 k_CHOICES2 k_CHOICES3 k_CHOICES4 z_sorted, m2, k2, b2⟩
 have C7 : Cl3 l.prog w K mg base "_law_other" _ _ _ := ⟨_, _, ok_other F7 C5 C6 z_isinstance z_tuple z_len z_list, m7, k7, b7⟩
 have C8 := spo_all (P := l.prog) (w := w) (base := base) F8 m8 k8 b8 C5 C7 z_isinstance z_tuple z_len 2
 have C10 : Cl3 l.prog w K mg base "_law_right" _ _ _ := ⟨_, _, ok_right F10 C5 C8 C1 C9 z_isinstance z_bool z_tuple z_range, m10, k10, b10⟩
 exact (ok_law3 F11 C10 C4 C3 C2 C1 C9 z_isinstance z_list z_all z_range z_max z_min z_len).imp law_dn
theorem walk {l : PySem.W.OpenLaw} {q : Program} {loose : List Str} {XP : (Str → Option Value) → Heap → Prop} {YP : World → Heap → Prop} {d : DefRec} {K : Params → PySem.W.Frag} (hn : l.most = some 63) (hdf : d.params.defaults = [])
  (hY : ∀ (w : World) (h : Heap), YP w h → (K w.params).In h)
  (F : ∀ (w : World) (mg : Str → Option Value) (fa : Addr) (h : Heap), (K w.params).In h → h.Ns mainGlobals mg → mg d.name = some (.ref fa) →
   ∃ fd : FuncData, (∀ (s : Shared) (u : Value), BindsTo s fd ⟨[u], []⟩ [("script", u)]) ∧ ∀ base : Heap, (K w.params).In base → base.Ns mainGlobals mg → FnOk l.prog w (K w.params) mg base CX0 7 fa fd ["script"] (spLaw (K w.params))) :
  PySem.W.WalkO q loose XP YP l.row.toRowW d [] (fun f vs => PySem.call f vs) :=
 L2.walk_of (n := 63) (k := 7) (x := "script") (CX := fun _ => CX0) (sp := fun w => spLaw (K w.params)) hn (by decide) hdf ⟨rfl, by decide, by decide⟩ hY F (fun _ _ a ns hl hO hS => ⟨a, ns, rfl, hO, hS, hl, fun _ => rfl⟩) fun _ _ _ _ _ z => z
end Tg
open PySem PySem.W PyProof.Rows
def PySem.W.Fast.tw15328147785626219529 : Unit := ()
def PySem.W.Fast.tw14929131385035274444 : Unit := ()
def PySem.W.Fast.tw18183799405800413745 : Unit := ()
def PySem.W.Fast.tw10273014303060425236 : Unit := ()
def PySem.W.Fast.tw8187629137892075093 : Unit := ()
def PySem.W.Fast.tw7283491796275411609 : Unit := ()
def PySem.W.Fast.tw11185106127587413022 : Unit := ()
def PySem.W.Fast.tw3507841745120067332 : Unit := ()
set_option maxRecDepth 100000 in
set_option maxHeartbeats 0 in
theorem PySem.Challenge.cw_tonguegate_k08_sixteen_layings_holds : PySem.Challenge.rw_tonguegate_k08_sixteen_layings.Holds := by
 w_on; o_law; k_head; (case hw => w_witness2)
 k_fill
 refine Tg.walk (l := PySem.Challenge.rw_tonguegate_k08_sixteen_layings) rfl rfl (fun w h Y => PySem.W.kIn_of Y) ?F
 case F =>
  intro w mg fa h KX G hmg
  refine' Tg.all_mk KX G hmg ?a1 ?l1 ?c1 ?k1 ?a2 ?l2 ?c2 ?k2 ?a3 ?l3 ?c3 ?k3 ?a4 ?l4 ?c4 ?k4 ?a5 ?l5 ?c5 ?k5 ?a6 ?l6 ?c6 ?k6 ?a7 ?l7 ?c7 ?k7 ?a8 ?l8 ?c8 ?k8 ?a9 ?l9 ?c9 ?k9 ?a10 ?l10 ?c10 ?k10 ?a11 ?l11 ?c11 ?k11 ?y1 ?y2 ?y3 ?y4 ?y5 ?y6 ?y7 ?y8 ?y9 ?y10 ?y11 ?y12    ?gCHOICES ?klCHOICES ?kzCHOICES ?kvCHOICES ?klCHOICES1 ?kzCHOICES1 ?kvCHOICES1 ?klCHOICES2 ?kzCHOICES2 ?kvCHOICES2 ?klCHOICES3 ?kzCHOICES3 ?kvCHOICES3 ?klCHOICES4 ?kzCHOICES4 ?kvCHOICES4  
  (case a1 => k_is); (case l1 => k_is); (case c1 => k_is); (case k1 => k_is)
  (case a2 => k_is); (case l2 => k_is); (case c2 => k_is); (case k2 => k_is)
  (case a3 => k_is); (case l3 => k_is); (case c3 => k_is); (case k3 => k_is)
  (case a4 => k_is); (case l4 => k_is); (case c4 => k_is); (case k4 => k_is)
  (case a5 => k_is); (case l5 => k_is); (case c5 => k_is); (case k5 => k_is)
  (case a6 => k_is); (case l6 => k_is); (case c6 => k_is); (case k6 => k_is)
  (case a7 => k_is); (case l7 => k_is); (case c7 => k_is); (case k7 => k_is)
  (case a8 => k_is); (case l8 => k_is); (case c8 => k_is); (case k8 => k_is)
  (case a9 => k_is); (case l9 => k_is); (case c9 => k_is); (case k9 => k_is)
  (case a10 => k_is); (case l10 => k_is); (case c10 => k_is); (case k10 => k_is)
  (case a11 => k_is); (case l11 => k_is); (case c11 => k_is); (case k11 => k_is)
  (case y1 => k_is)
  (case y2 => k_is)
  (case y3 => k_is)
  (case y4 => k_is)
  (case y5 => k_is)
  (case y6 => k_is)
  (case y7 => k_is)
  (case y8 => k_is)
  (case y9 => k_is)
  (case y10 => k_is)
  (case y11 => k_is)
  (case y12 => k_is)
  (case gCHOICES => k_is); (case klCHOICES => k_is); (case kzCHOICES => decide); (case kvCHOICES => exact (.cons rfl (.cons rfl (.cons rfl (.cons rfl .nil)))))
  (case klCHOICES1 => k_is); (case kzCHOICES1 => decide); (case kvCHOICES1 => exact (.cons ⟨_, rfl⟩ (.cons ⟨_, rfl⟩ .nil)))
  (case klCHOICES2 => k_is); (case kzCHOICES2 => decide); (case kvCHOICES2 => exact (.cons ⟨_, rfl⟩ (.cons ⟨_, rfl⟩ .nil)))
  (case klCHOICES3 => k_is); (case kzCHOICES3 => decide); (case kvCHOICES3 => exact (.cons ⟨_, rfl⟩ (.cons ⟨_, rfl⟩ .nil)))
  (case klCHOICES4 => k_is); (case kzCHOICES4 => decide); (case kvCHOICES4 => exact (.cons ⟨_, rfl⟩ (.cons ⟨_, rfl⟩ .nil)))
